/- Proved here: Equal says whether two trees are the same. -/
import Derived.Test.YtfmlmdfehaajbaaGreatDoorSameW
import Derived.Test.YtfmlmdfehaajbaaGreatDoorCopyPut
namespace Go.Proofs.YtfmlmdfehaajbaaGreatDoor
open Go.RowKit Go.Shelf

set_option maxRecDepth 100000 in
set_option maxHeartbeats 2000000 in
theorem equalAttrs_any (W : World) (la lb : List AttrM) (pa pb : Option Addr) (ca cb : Nat) (hA : AttrsAt W pa la) (hB : AttrsAt W pb lb) (ha : la.length ≤ 140737488351232) (hb : lb.length ≤ 140737488351232) (hca : la.length ≤ ca) (hcb : lb.length ≤ cb) :
    Calls Tryz.prog 51 #[.slice pa la.length ca, .slice pb lb.length cb] W fun e W' => Says e (la = lb) ∧ ∃ m, W' = W.drewN m := by
  by_cases hl : la.length = lb.length
  · obtain ⟨n, hn⟩ : ∃ n, la.length = n := ⟨_, rfl⟩
    have hn2 : lb.length = n := by omega
    have HA := Lib.hid hA
    have HB := Lib.hid hB
    have HN := Lib.hid (And.intro hn hn2)
    rw [hn, hn2]
    rw [hn] at ha hca
    rw [hn2] at hcb
    clear hl hn hn2 hA hB hb
    go_enter Tryz.func51, Tryz.ntmps51
    go_wp2_with (fail)
    go_loopw [13] (fun v wr => ∃ j : Nat, v = .int .i64 (j : Int) ∧ j ≤ n ∧ Hid' ((∃ m, wr = W.drewN m) ∧ la.take j = lb.take j)) (fun v _ => n - (intOf v).toNat)
    case atStart => exact ⟨0, rfl, Nat.zero_le _, ⟨⟨0, rfl⟩, by rw [List.take_zero, List.take_zero]⟩⟩
    case round =>
      obtain ⟨j, rfl, hj, ⟨m, hm⟩, hI2⟩ := hrel
      have HI := Lib.hid (And.intro (show Below W.heap.size W wr from by rw [hm]; exact below_drewN' (Below.refl _ _) m) (And.intro hI2 (show ∀ k, ∃ m', wr.drewN k = W.drewN m' from fun k => ⟨m + k, by rw [hm, World.drewN_drewN]⟩)))
      clear hm hI2 m
      by_cases hlt : j < n
      · have hi' : (j : Int) < (n : Int) := by omega
        have ha' : j < la.length := by have := HN.out.1; omega
        have hb' : j < lb.length := by have := HN.out.2; omega
        obtain ⟨b1, o1, rfl, h1⟩ := HA.out (by omega)
        obtain ⟨b2, o2, rfl, h2⟩ := HB.out (by omega)
        have c0 := t_cell' HI.out.1 (h1 j ha').1
        have c1 := t_cell' HI.out.1 (h1 j ha').2.1
        have c2 := t_cell' HI.out.1 (h1 j ha').2.2
        have d0 := t_cell' HI.out.1 (h2 j hb').1
        have d1 := t_cell' HI.out.1 (h2 j hb').2.1
        have d2 := t_cell' HI.out.1 (h2 j hb').2.2
        obtain ⟨X, hX⟩ : ∃ X, (la[j].uri == lb[j].uri && la[j].loc == lb[j].loc && la[j].val == lb[j].val) = X := ⟨_, rfl⟩
        have HX := Lib.hid (show X = true ↔ la[j] = lb[j] from by rw [← hX]; exact attrM_eq _ _)
        have qN := fun (w : World) => attr_neq w la[j].uri la[j].loc la[j].val lb[j].uri lb[j].loc lb[j].val
        rw [hX] at qN
        clear h1 h2 hX
        generalize la[j].uri = u1 at *
        generalize la[j].loc = l1 at *
        generalize la[j].val = v1 at *
        generalize lb[j].uri = u2 at *
        generalize lb[j].loc = l2 at *
        generalize lb[j].val = v2 at *
        cases X
        · have HQ : Hid (¬ la[j] = lb[j]) := Lib.hid (fun e => by have := HX.out.2 e; cases this)
          clear HX
          go_wp2_with (fail)
          go_quiet (fail)
          go_wp2_with (fail)
          go_ret
          refine ⟨⟨false, rfl, fun h => (by cases h), fun h => ?_⟩, HI.out.2.2 _⟩
          exact absurd (List.getElem_of_eq h ha') HQ.out
        · have HQ : Hid (la[j] = lb[j]) := Lib.hid (HX.out.1 rfl)
          clear HX
          go_wp2_with (fail)
          go_quiet (fail)
          go_wp2_with (fail)
          go_roundw
          case rel => exact ⟨j + 1, by go_num, hlt, ⟨HI.out.2.2 _, by rw [List.take_add_one, List.take_add_one, HI.out.2.1, List.getElem?_eq_getElem ha', List.getElem?_eq_getElem hb', HQ.out]⟩⟩
          case measure => simp only [intOf]; omega
      · have hi' : ¬ (j : Int) < (n : Int) := by omega
        go_wp2_with (fail)
        go_ret
        have hjn : j = n := by omega
        refine ⟨⟨true, rfl, fun _ => ?_, fun _ => rfl⟩, HI.out.2.2 0⟩
        have h := HI.out.2.1
        rwa [List.take_of_length_le (by have := HN.out.1; omega), List.take_of_length_le (by have := HN.out.2; omega)] at h
  · have hl' : ((la.length : Int) == (lb.length : Int)) = false := by rw [beq_eq_false_iff_ne]; omega
    have hln : ¬ (la.length : Int) = (lb.length : Int) := by omega
    have HL := Lib.hid hl
    have HL2 := Lib.hid (fun (h : la = lb) => hl (congrArg List.length h))
    clear hA hB hl HL
    generalize la.length = n at *
    generalize lb.length = m at *
    go_enter Tryz.func51, Tryz.ntmps51
    go_wp2_with (fail)
    go_ret
    exact ⟨⟨false, rfl, fun h => (by cases h), fun h => absurd h HL2.out⟩, ⟨0, rfl⟩⟩

/-- Two nodes are the same but for their kids, of which there are as many. -/
def HeadEq (a b : AT) : Prop := a.kind = b.kind ∧ a.uri = b.uri ∧ a.loc = b.loc ∧ a.text = b.text ∧ a.attrs = b.attrs ∧ a.kids.length = b.kids.length
set_option maxRecDepth 100000 in
set_option maxHeartbeats 8000000 in
theorem visitEq (W : World) (a b : AT) (hA : TreeAt W a) (hB : TreeAt W b) :
    Calls Tryz.prog 50 #[.pointer (some ⟨a.b, a.o, none⟩), .pointer (some ⟨b.b, b.o, none⟩)] W fun e W' => Says e (HeadEq a b) ∧ ∃ m, W' = W.drewN m := by
  obtain ⟨pa, ca, pk, ck, hP, c0, c1, c2, c3, c4, c5⟩ := hA.top
  obtain ⟨qa, da, qk, dk, hQ, d0, d1, d2, d3, d4, d5⟩ := hB.top
  obtain ⟨r0, hr0⟩ := says_of (a.attrs = b.attrs)
  have CA := Lib.hid (fun (n : Nat) => (equalAttrs_any (W.drewN n) a.attrs b.attrs pa qa ca da (hP.attrs.stay (Stay.below (below_drewN' (Below.refl _ _) n))) (hQ.attrs.stay (Stay.below (below_drewN' (Below.refl _ _) n))) hP.asz hQ.asz hP.acap hQ.acap).mono (R' := fun e W' => e = .returned (.bool r0) ∧ ∃ m, W' = (W.drewN n).drewN m) (fun e W' q => ⟨q.1.of hr0, q.2⟩))
  obtain ⟨T0, hT0⟩ : ∃ T, (a.text.toList == b.text.toList) = T := ⟨_, rfl⟩
  have HT0 : Hid (T0 = true ↔ a.text = b.text) := Lib.hid (by rw [← hT0, ← Go.beq_toListBytes, beq_eq])
  obtain ⟨N, hN⟩ : ∃ N, (a.uri == b.uri && a.loc == b.loc) = N := ⟨_, rfl⟩
  have HNN : Hid (N = true ↔ a.uri = b.uri ∧ a.loc = b.loc) := Lib.hid (by rw [← hN, Bool.and_eq_true, beq_eq, beq_eq])
  have HD := Lib.hid (show HeadEq a b ↔ (a.kind = b.kind ∧ (a.uri = b.uri ∧ a.loc = b.loc) ∧ a.text = b.text ∧ a.attrs = b.attrs ∧ a.kids.length = b.kids.length) from ⟨fun ⟨h1, h2, h3, h4, h5, h6⟩ => ⟨h1, ⟨h2, h3⟩, h4, h5, h6⟩, fun ⟨h1, ⟨h2, h3⟩, h4, h5, h6⟩ => ⟨h1, h2, h3, h4, h5, h6⟩⟩)
  have HR := Lib.hid hr0
  have qN := fun (W : World) => name_eql W a.uri a.loc b.uri b.loc
  rw [hN] at qN
  clear hP hQ hA hB hr0 hN
  generalize HeadEq a b = P at *
  generalize a.kind = k1 at *
  generalize a.uri = u1 at *
  generalize a.loc = l1 at *
  generalize a.attrs.length = n1 at *
  generalize a.kids.length = m1 at *
  generalize a.text = t1 at *
  generalize b.kind = k2 at *
  generalize b.uri = u2 at *
  generalize b.loc = l2 at *
  generalize b.attrs.length = n2 at *
  generalize b.kids.length = m2 at *
  generalize b.text = t2 at *
  obtain ⟨K0, hK0⟩ : ∃ T, (k1 == k2) = T := ⟨_, rfl⟩
  have HK0 : Hid (K0 = true ↔ k1 = k2) := Lib.hid (by rw [← hK0, beq_iff_eq])
  obtain ⟨M0, hM0⟩ : ∃ T, ((m1 : Int) == (m2 : Int)) = T := ⟨_, rfl⟩
  have HM0 : Hid (M0 = true ↔ m1 = m2) := Lib.hid (by rw [← hM0, beq_iff_eq]; omega)
  cases K0
  · go_enter Tryz.func50, Tryz.ntmps50
    go_wp2_with (fail)
    go_quiet ((go_at_call 51; exact Calls.quiet_of (CA.out _)))
    go_wp2_with (fail)
    go_ret
    exact ⟨⟨false, rfl, fun h => (by cases h), fun h => absurd (HK0.out.2 (HD.out.1 h).1) (by decide)⟩, ⟨_, rfl⟩⟩
  · cases N
    · go_enter Tryz.func50, Tryz.ntmps50
      go_wp2_with (fail)
      go_quiet ((go_at_call 51; exact Calls.quiet_of (CA.out _)))
      go_wp2_with (fail)
      go_ret
      exact ⟨⟨false, rfl, fun h => (by cases h), fun h => absurd (HNN.out.2 (HD.out.1 h).2.1) (by decide)⟩, ⟨_, rfl⟩⟩
    · cases T0
      · go_enter Tryz.func50, Tryz.ntmps50
        go_wp2_with (fail)
        go_quiet ((go_at_call 51; exact Calls.quiet_of (CA.out _)))
        go_wp2_with (fail)
        go_ret
        exact ⟨⟨false, rfl, fun h => (by cases h), fun h => absurd (HT0.out.2 (HD.out.1 h).2.2.1) (by decide)⟩, ⟨_, rfl⟩⟩
      · cases r0
        · go_enter Tryz.func50, Tryz.ntmps50
          go_wp2_with (fail)
          go_quiet ((go_at_call 51; exact Calls.quiet_of (CA.out _)))
          go_wp2_with (fail)
          go_ret
          exact ⟨⟨false, rfl, fun h => (by cases h), fun h => absurd (HR.out.2 (HD.out.1 h).2.2.2.1) (by decide)⟩, ⟨_, rfl⟩⟩
        · cases M0
          · go_enter Tryz.func50, Tryz.ntmps50
            go_wp2_with (fail)
            go_quiet ((go_at_call 51; exact Calls.quiet_of (CA.out _)))
            go_wp2_with (fail)
            go_ret
            exact ⟨⟨false, rfl, fun h => (by cases h), fun h => absurd (HM0.out.2 (HD.out.1 h).2.2.2.2) (by decide)⟩, ⟨_, rfl⟩⟩
          · go_enter Tryz.func50, Tryz.ntmps50
            go_wp2_with (fail)
            go_quiet ((go_at_call 51; exact Calls.quiet_of (CA.out _)))
            go_wp2_with (fail)
            go_ret
            exact ⟨⟨true, rfl, fun _ => HD.out.2 ⟨HK0.out.1 trivial, HNN.out.1 trivial, HT0.out.1 trivial, HR.out.1 trivial, HM0.out.1 trivial⟩, fun _ => rfl⟩, ⟨_, rfl⟩⟩
end Go.Proofs.YtfmlmdfehaajbaaGreatDoor
namespace Go.Proofs.YtfmlmdfehaajbaaGreatDoor
open Go.RowKit Go.Shelf

def twoPa (r : AT × AT) : PA := ⟨r.1.b, r.1.o, r.2.b, r.2.o⟩
def twoSum (os : List (AT × AT)) : Nat := (os.map (fun r => r.1.count)).sum
theorem twoSum_cat (a b : List (AT × AT)) : twoSum (a ++ b) = twoSum a + twoSum b := by unfold twoSum; rw [List.map_append, List.sum_append]
theorem twoSum_one (r : AT × AT) : twoSum [r] = r.1.count := by simp [twoSum]
theorem two_len : ∀ os : List (AT × AT), os.length ≤ twoSum os
  | [] => Nat.zero_le _
  | r :: os => by
    have h1 := two_len os
    have h2 := twoSum_cat [r] os
    rw [twoSum_one] at h2
    have h3 := count_kids' r.1
    simp only [List.singleton_append] at h2
    rw [List.length_cons]
    omega
theorem twoSum_zip (ks ls : List AT) (h : ks.length = ls.length) : twoSum (ks.zip ls) = counted ks := by
  rw [counted_sum]
  unfold twoSum
  have : (ks.zip ls).map (fun r => r.1.count) = ks.map AT.count := by
    rw [show (fun r : AT × AT => r.1.count) = AT.count ∘ Prod.fst from rfl, ← List.map_map, List.map_fst_zip (by omega)]
  rw [this]
/-- What is still to be compared, and what hangs on it. -/
def JE (w0 : World) (P : Prop) (m : Nat) (ps : List PA) (tb : Option Nat) (W : World) : Prop := ∃ os : List (AT × AT), ps = os.map twoPa ∧ (∀ r ∈ os, TreeAt w0 r.1 ∧ TreeAt w0 r.2) ∧ twoSum os = m ∧ m ≤ 1048576 ∧
  (P ↔ ∀ r ∈ os, r.1.plain = r.2.plain) ∧ Below w0.heap.size w0 W ∧ (∀ k, tb = some k → w0.heap.size ≤ k ∧ k < W.heap.size)
theorem JE.move {w0 : World} {P : Prop} {m : Nat} {ps : List PA} {tb tb' : Option Nat} {W W2 : World} (h : JE w0 P m ps tb W) (mv : Moved tb tb' W W2) : JE w0 P m ps tb' W2 := by
  obtain ⟨os, h1, h2, h3, h4, h5, h6, h9⟩ := h
  refine ⟨os, h1, h2, h3, h4, h5, ⟨mv.os.trans h6.os, mv.tape.trans h6.tape, mv.output.trans h6.output, Nat.le_trans h6.size mv.size, fun k hk => ?_⟩, fun k e => ?_⟩
  · refine (mv.block k (Nat.lt_of_lt_of_le hk h6.size) (fun e => ?_)).trans (h6.block k hk)
    have := (h9 k e.symm).1
    omega
  · rcases mv.there with e2 | ⟨g, e2, hg, hg2⟩
    · have := h9 k (e2 ▸ e)
      exact ⟨this.1, Nat.lt_of_lt_of_le this.2 mv.size⟩
    · rw [e2] at e
      injection e with e
      have := h6.size
      omega
theorem zip_plain : ∀ (ks ls : List AT), ks.length = ls.length → (ks.map AT.plain = ls.map AT.plain ↔ ∀ r ∈ ks.zip ls, r.1.plain = r.2.plain)
  | [], [], _ => by simp
  | k :: ks, l :: ls, h => by
    have := zip_plain ks ls (by simpa using h)
    simp only [List.map_cons, List.cons.injEq, List.zip_cons_cons, List.mem_cons, forall_eq_or_imp, this]
  | [], _ :: _, h => by simp at h
  | _ :: _, [], h => by simp at h
theorem kid_places {W : World} {x : AT} {pa : Option Addr} {ca : Nat} {pk : Option Addr} {ck : Nat} (hP : PartsAt W x pa ca pk ck) : ∃ g off, 0 < x.kids.length → pk = some ⟨g, off, none⟩ ∧ ∀ i (h : i < x.kids.length), x.kids[i].b = g ∧ x.kids[i].o = off + i * 6 := by
  by_cases h0 : 0 < x.kids.length
  · obtain ⟨g, off, h1, h2⟩ := hP.kids h0
    exact ⟨g, off, fun _ => ⟨h1, h2⟩⟩
  · exact ⟨0, 0, fun h => absurd h h0⟩
theorem visits_equal (w0 : World) (P : Prop) {m : Nat} {ps : List PA} {p : PA} {tb : Option Nat} {V W : World} (h : JE w0 P m (ps ++ [p]) tb V) (mv : Moved tb tb V W) :
    Calls Tryz.prog 50 #[.pointer (some ⟨p.b, p.o, none⟩), .pointer (some ⟨p.d, p.q, none⟩)] W fun e W2 => (e = .returned (.bool false) ∧ (¬ P ∧ Below w0.heap.size w0 W2)) ∨
    (e = .returned (.bool true) ∧ W.heap.size ≤ W2.heap.size ∧ (∀ k, k < W.heap.size → (tb = some k ∨ V.heap.size ≤ k) → W2.heap[k]? = W.heap[k]?) ∧ ∃ n K1 o1 K2 o2 q1 c1 q2 c2, n ≤ 1048576 ∧ n ≤ c1 ∧ n ≤ c2 ∧ (0 < n → q1 = some ⟨K1, o1, none⟩ ∧ q2 = some ⟨K2, o2, none⟩) ∧ KidsOf2 W2 tb p n q1 c1 q2 c2 ∧ JE w0 P (m - 1) (ps ++ kidPairs K1 o1 K2 o2 n) tb W2) := by
  obtain ⟨os, e0, hT, hm, hm2, hiff, hb, htn⟩ := h.move mv
  obtain ⟨os', last, rfl, e1, e2⟩ : ∃ os' last, os = os' ++ last ∧ os'.map twoPa = ps ∧ last.map twoPa = [p] := by
    obtain ⟨a, b, h1, h2, h3⟩ := List.map_eq_append_iff.1 e0.symm
    exact ⟨a, b, h1, h2, h3⟩
  obtain ⟨r, rfl, rfl⟩ : ∃ r, last = [r] ∧ p = twoPa r := by
    match last, e2 with
    | [r], e2 => exact ⟨r, rfl, by simpa using e2.symm⟩
  obtain ⟨x, y⟩ := r
  obtain ⟨hX, hY⟩ := hT (x, y) (by simp)
  refine (visitEq W x y (hX.stay (Stay.below hb)) (hY.stay (Stay.below hb))).mono (fun e W2 he => ?_)
  obtain ⟨⟨r0, rfl, hr⟩, m', rfl⟩ := he
  have hbW : Below w0.heap.size w0 (W.drewN m') := below_drewN' hb m'
  cases r0 with
  | false =>
    refine .inl ⟨rfl, fun hp => ?_, hbW⟩
    have hq := hiff.1 hp (x, y) (by simp)
    obtain ⟨h1, h2, h3, h4, h5, h6⟩ := plain_iff.1 hq
    have := hr.2 ⟨h1, h2, h3, h4, h5, by have := congrArg List.length h6; simpa using this⟩
    cases this
  | true =>
    obtain ⟨h1, h2, h3, h4, h5, h6⟩ := hr.1 rfl
    obtain ⟨pa, ca, pk, ck, hP, _, _, _, _, c4, _⟩ := hX.top
    obtain ⟨qa, da, qk, dk, hQ, _, _, _, _, d4, _⟩ := hY.top
    obtain ⟨g1, f1, hg1⟩ := kid_places hP
    obtain ⟨g2, f2, hg2⟩ := kid_places hQ
    have hlx := World.block_lt_of_cell? _ _ c4
    have hly := World.block_lt_of_cell? _ _ d4
    have hxc : x.kids.length ≤ counted x.kids := by
      have := two_len (x.kids.zip y.kids)
      rw [twoSum_zip _ _ h6, List.length_zip, ← h6, Nat.min_self] at this
      exact this
    have hms : twoSum os' + x.count = m := by rw [← hm, twoSum_cat, twoSum_one]
    have hcx := count_kids' x
    have hxy : 0 < x.kids.length → 0 < y.kids.length := fun h => Nat.lt_of_lt_of_eq h h6
    refine .inr ⟨rfl, Nat.le_refl _, fun _ _ _ => rfl, x.kids.length, g1, f1, g2, f2, pk, ck, qk, dk, by omega, hP.kcap, by rw [h6]; exact hQ.kcap, fun h0 => ⟨(hg1 h0).1, (hg2 (hxy h0)).1⟩, ⟨?_, ?_, fun e => ?_, fun e => ?_⟩, os' ++ x.kids.zip y.kids, ?_, fun r hr => ?_, ?_, by omega, ?_, hbW, fun k e => htn k e⟩
    · exact (World.cell?_of_block (hbW.block _ hlx)).trans c4
    · rw [h6]
      exact (World.cell?_of_block (hbW.block _ hly)).trans d4
    · have := (htn _ e.symm).1
      have h' : x.b < w0.heap.size := hlx
      have e' : (twoPa (x, y)).b = x.b := rfl
      omega
    · have := (htn _ e.symm).1
      have h' : y.b < w0.heap.size := hly
      have e' : (twoPa (x, y)).d = y.b := rfl
      omega
    · rw [List.map_append, e1]
      congr 1
      apply List.ext_getElem (by rw [kidPairs_len, List.length_map, List.length_zip, ← h6, Nat.min_self])
      intro i h7 h8
      have hi : i < x.kids.length := by rwa [kidPairs_len] at h7
      rw [List.getElem_map, kidPairs_at, List.getElem_zip]
      have hx0 : 0 < x.kids.length := Nat.lt_of_le_of_lt (Nat.zero_le i) hi
      obtain ⟨_, k1⟩ := hg1 hx0
      obtain ⟨_, k2⟩ := hg2 (hxy hx0)
      obtain ⟨a1, a2⟩ := k1 i hi
      obtain ⟨b1, b2⟩ := k2 i (Nat.lt_of_lt_of_eq hi h6)
      show _ = PA.mk _ _ _ _
      rw [a1, a2, b1, b2]
    · rcases List.mem_append.1 hr with hr | hr
      · exact hT r (by simp [hr])
      · obtain ⟨a, b⟩ := r
        exact ⟨hX.kid (List.of_mem_zip hr).1, hY.kid (List.of_mem_zip hr).2⟩
    · rw [twoSum_cat, twoSum_zip _ _ h6]
      omega
    · rw [hiff]
      have hp : x.plain = y.plain ↔ x.kids.map AT.plain = y.kids.map AT.plain := plain_iff.trans ⟨fun h => h.2.2.2.2.2, fun h => ⟨h1, h2, h3, h4, h5, h⟩⟩
      rw [zip_plain _ _ h6] at hp
      constructor
      · intro h r hr
        rcases List.mem_append.1 hr with hr | hr
        · exact h r (by simp [hr])
        · exact hp.1 (h (x, y) (by simp)) r hr
      · intro h r hr
        rcases List.mem_append.1 hr with hr | hr
        · exact h r (by simp [hr])
        · rw [List.mem_singleton.1 hr]
          exact hp.2 (fun r hr => h r (by simp [hr]))
theorem equal_visits (w0 : World) (P : Prop) : Visits 50 (JE w0 P) (fun W => ¬ P ∧ Below w0.heap.size w0 W) where
  enter := enters_of Tryz.func50 (by kernel_rfl) rfl
  size := fun ⟨os, h1, _, h4, h5, _⟩ => by
    refine ⟨?_, h5⟩
    rw [h1, List.length_map, ← h4]
    exact two_len os
  move := fun h mv => h.move mv
  visit := fun h _ _ mv => visits_equal w0 P h mv
set_option maxRecDepth 100000 in
set_option maxHeartbeats 4000000 in
theorem equal_any (w : World) (a b : AT) (pa : Option Addr) (ca : Nat) (pk : Option Addr) (ck : Nat) (qa : Option Addr) (da : Nat) (qk : Option Addr) (dk : Nat) (hP : PartsAt w a pa ca pk ck) (hK : KidsAt w a) (hQ : PartsAt w b qa da qk dk) (hL : KidsAt w b) (hc : a.count ≤ 1048576) :
    Calls Tryz.prog 14 #[nodeV a pa ca pk ck, nodeV b qa da qk dk] w fun e W => Says e (a.plain = b.plain) ∧ Below w.heap.size w W := by
  obtain ⟨w1, hw1⟩ : ∃ w1, w.alloc (.cells (nodeC a pa ca pk ck) 27) = w1 := ⟨_, rfl⟩
  obtain ⟨w2, hw2⟩ : ∃ w2, w1.alloc (.cells (nodeC b qa da qk dk) 27) = w2 := ⟨_, rfl⟩
  have z1 : w1.heap.size = w.heap.size + 1 := by rw [← hw1]; simp
  have b1 : Below w.heap.size w w1 := by rw [← hw1]; exact (Below.refl _ _).alloc (Nat.le_refl _) _
  have b2 : Below w.heap.size w w2 := by rw [← hw2]; exact b1.alloc b1.size _
  have r1 : w1.heap[w.heap.size]? = some (.cells (nodeC a pa ca pk ck) 27 (0, 0)) := by rw [← hw1]; exact heap_alloc_new _ _
  have r1' : w2.heap[w.heap.size]? = some (.cells (nodeC a pa ca pk ck) 27 (0, 0)) := by rw [← hw2]; exact (Below.heap_alloc _ _ _ (it_lt r1)).trans r1
  have r2 : w2.heap[w.heap.size + 1]? = some (.cells (nodeC b qa da qk dk) 27 (0, 0)) := by
    rw [← hw2]
    have := heap_alloc_new w1 (.cells (nodeC b qa da qk dk) 27)
    rwa [z1] at this
  have hTa : TreeAt w2 (a.put w.heap.size 0) := TreeAt.boxed (hP.stay (Stay.below b2)) (fun k hk' => (hK k hk').stay (Stay.below b2)) r1'
  have hTb : TreeAt w2 (b.put (w.heap.size + 1) 0) := TreeAt.boxed (hQ.stay (Stay.below b2)) (fun k hk' => (hL k hk').stay (Stay.below b2)) r2
  have hJ : JE w2 (a.plain = b.plain) (a.put w.heap.size 0).count [⟨w.heap.size, 0, w.heap.size + 1, 0⟩] none w2 := by
    refine ⟨[(a.put w.heap.size 0, b.put (w.heap.size + 1) 0)], ?_, fun r hr => ?_, twoSum_one _, by rw [put_count]; exact hc, ?_, Below.refl _ _, fun k e => (by cases e)⟩
    · show _ = [PA.mk _ _ _ _]
      rw [put_b, put_o, put_b, put_o]
    · rw [List.mem_singleton.1 hr]
      exact ⟨hTa, hTb⟩
    · simp [AT.plain_put]
  have HC := Lib.hid ((together_any (equal_visits w2 (a.plain = b.plain)) _ _ _ hJ).mono (R' := fun e W => ∃ r, e = .returned (.bool r) ∧ Hid' ((r = true ↔ a.plain = b.plain) ∧ Below w.heap.size w W)) (fun e W he => by
    rcases he with ⟨e1, m, tb, os, h1, _, _, _, h5, h6, _⟩ | ⟨e1, h2, h3⟩
    · have : os = [] := by
        have := congrArg List.length h1
        simp at this
        exact List.eq_nil_of_length_eq_zero this.symm
      subst this
      exact ⟨true, e1, ⟨fun _ => h5.2 (fun r hr => (by cases hr)), fun _ => rfl⟩, b2.trans (h6.mono b2.size)⟩
    · exact ⟨false, e1, ⟨fun h => (by cases h), fun h => absurd h h2⟩, b2.trans (h3.mono b2.size)⟩))
  have HW := Lib.hid (And.intro z1 (show w2.heap.size = w.heap.size + 2 from by rw [← hw2]; simp [z1]))
  unfold nodeV
  unfold nodeC at hw1 hw2
  clear hP hK hQ hL hc z1 b1 b2 r1 r1' r2 hTa hTb hJ
  go_enter Tryz.func14, Tryz.ntmps14
  go_upto_region 1 with (fail)
  rw [HW.out.1]
  clear hw1 hw2
  go_wp2_with (go_at_call 49; refine HC.out.mono ?_; rintro e W ⟨r, rfl, hr⟩; have HR := Lib.hid (show _ ∧ _ from hr); clear hr)
  go_ret
  exact ⟨⟨r, rfl, HR.out.1⟩, HR.out.2⟩
end Go.Proofs.YtfmlmdfehaajbaaGreatDoor
