/- Proved here: the document's cache as it lies; where a key stands in it; an entry goes, an entry stands last. -/
import Derived.Test.YtaigbplidkakhaaCMore
import Derived.Test.YtaigbplidkakhaaCKeys
import Derived.RangeFuncBox
import Derived.Laws.OwnMore
import Derived.Maps.AppendAt
namespace Go.Proofs.Ytaigbplidkakhaa
open Go.RowKit Go.ChangeMaps

def ent4 (e : EntI) : List Value := [.int .i64 e.k, .int .i64 e.v, .bool e.d, .int .i64 (e.p : Int)]
def entVs (l : List EntI) : List Value := l.flatMap ent4
theorem entVs_append (a b : List EntI) : entVs (a ++ b) = entVs a ++ entVs b := List.flatMap_append
theorem entVs_length (l : List EntI) : (entVs l).length = l.length * 4 := by
  induction l with
  | nil => rfl
  | cons e t ih => rw [show entVs (e :: t) = ent4 e ++ entVs t from rfl, List.length_append, ih]; simp [ent4]; omega
theorem entVs_get : ∀ (l : List EntI) (j i : Nat) (e : EntI), l[j]? = some e → i < 4 → (entVs l)[j * 4 + i]? = (ent4 e)[i]?
  | [], j, i, e, h, _ => by simp at h
  | x :: t, 0, i, e, h, hi => by
    simp at h
    subst h
    rw [show entVs (x :: t) = ent4 x ++ entVs t from rfl, List.getElem?_append_left (by simp [ent4]; omega)]
    simp
  | x :: t, j + 1, i, e, h, hi => by
    simp at h
    rw [show entVs (x :: t) = ent4 x ++ entVs t from rfl, List.getElem?_append_right (by simp [ent4]; omega)]
    rw [show (j + 1) * 4 + i - (ent4 x).length = j * 4 + i by simp [ent4]; omega]
    exact entVs_get t j i e h hi
theorem entVs_one (l : List EntI) : ∀ u ∈ entVs l, u.oneCell' = true := fun u hu => by
  obtain ⟨e, _, he⟩ := List.mem_flatMap.1 hu
  simp [ent4] at he
  rcases he with rfl | rfl | rfl | rfl <;> rfl
theorem bcell {w W : World} {a : Addr} {v : Value} (h : Below w.heap.size w W) (hc : w.cell? a = some v) : W.cell? a = some v :=
  (h.cell (World.block_lt_of_cell? _ _ hc)).trans hc
theorem owns_block {w w' : World} {base n size : Nat} {e : TypeId} {v : Value} {xs : List Value} (h : w.ownsRow base e size v n xs) (hb : ∀ k, v.ownBlock = some k → w'.heap[k]? = w.heap[k]?) : w'.ownsRow base e size v n xs := by
  rcases h.2 with ⟨e1, h0⟩ | ⟨g, cap, cur, rfl, h1, h2, h3⟩
  · exact ⟨h.1, .inl ⟨e1, h0⟩⟩
  · exact ⟨h.1, .inr ⟨g, cap, cur, rfl, h1, (hb g rfl).trans h2, h3⟩⟩
theorem infoEnt : (Try.prog.info? 76).map (fun i => (i.zero, i.size, i.bytes)) = some (some (.agg #[.int .i64 0, .int .i64 0, .bool false, .int .i64 0]), 4, 32) := by kernel_rfl
/-- The document's cache at R: its own blocks are F's. -/
def RC (F : Nat → Prop) (W : World) (R : Nat) (places : Int) (l : List EntI) : Prop :=
  ∃ q c, W.heap[R]? = some (.cells #[.int .i64 places, .slice q l.length c] 31 (0, 0)) ∧ W.ownsRow 0 76 4 (.slice q l.length c) l.length (entVs l) ∧ F R ∧ (∀ k, (Value.slice q l.length c).ownBlock = some k → F k ∧ k ≠ R) ∧ l.length ≤ c
theorem RC.tch {F G : Nat → Prop} {W W' : World} {R : Nat} {places : Int} {l : List EntI} (h : RC F W R places l) (t : Tch G W W') (hG : ∀ k, F k → ¬ G k) : RC F W' R places l := by
  obtain ⟨q, c, h1, h2, h3, h4, h5⟩ := h
  refine ⟨q, c, (t.block R (heap_lt h1) (hG R h3)).trans h1, ?_, h3, h4, h5⟩
  cases ho : (Value.slice q l.length c).ownBlock with
  | none =>
    rcases h2.2 with ⟨e, h0⟩ | ⟨g, cap, cur, e, hr⟩
    · exact ⟨h2.1, .inl ⟨e, h0⟩⟩
    · rw [e] at ho; cases ho
  | some k => exact owns_block h2 (fun j hj => t.block j (h2.lt j hj).2 (hG j (h4 j hj).1))
theorem RC.cells {F : Nat → Prop} {W : World} {R : Nat} {places : Int} {l : List EntI} {q : Option Addr} {c : Nat} (h2 : W.ownsRow 0 76 4 (.slice q l.length c) l.length (entVs l)) {j : Nat} (hj : j < l.length) :
    ∃ g, q = some ⟨g, 0, none⟩ ∧ ∀ e, l[j]? = some e → W.cell? ⟨g, j * 4, none⟩ = some (.int .i64 e.k) ∧ W.cell? ⟨g, j * 4 + 1, none⟩ = some (.int .i64 e.v) ∧ W.cell? ⟨g, j * 4 + 2, none⟩ = some (.bool e.d) ∧ W.cell? ⟨g, j * 4 + 3, none⟩ = some (.int .i64 (e.p : Int)) := by
  rcases h2.2 with ⟨e, h0⟩ | ⟨g, cap, cur, e, hr⟩
  · omega
  · cases e
    refine ⟨g, rfl, fun e he => ⟨?_, ?_, ?_, ?_⟩⟩
    · rw [World.ownsRow.cellAt h2 _ (by omega)]; exact entVs_get l j 0 e he (by omega)
    · rw [World.ownsRow.cellAt h2 _ (by omega)]; exact entVs_get l j 1 e he (by omega)
    · rw [World.ownsRow.cellAt h2 _ (by omega)]; exact entVs_get l j 2 e he (by omega)
    · rw [World.ownsRow.cellAt h2 _ (by omega)]; exact entVs_get l j 3 e he (by omega)
/-- Where a key stands. -/
def at? (k : Int) : List EntI → Int
  | [] => -1
  | e :: t => if e.k = k then 0 else if at? k t < 0 then -1 else at? k t + 1
set_option maxHeartbeats 1000000 in
theorem refFind {F : Nat → Prop} {W : World} {R : Nat} {places : Int} {l : List EntI} (h : RC F W R places l) (hl : l.length ≤ 65536) (k : Int) :
    Calls Try.prog 58 #[PV R, .int .i64 k] W fun x W' => (x = .returned (.int .i64 (-1)) ∧ (∀ e ∈ l, e.k ≠ k) ∨ ∃ p e q, l = p ++ e :: q ∧ e.k = k ∧ (∀ y ∈ p, y.k ≠ k) ∧ x = .returned (.int .i64 (p.length : Int))) ∧ Below W.heap.size W W' := by
  have HH := Lib.hid h
  obtain ⟨q, c, h1, h2, h3, h4, h5⟩ := h
  have c1 : W.cell? ⟨R, 1, none⟩ = some (.slice q l.length c) := by rw [cell_of_row _ _ _ _ _ _ h1]; rfl
  have HO := Lib.hid h2
  clear h1 h2 h3 h4
  go_enter Try.func58, Try.ntmps58
  go_wp2_with (fail)
  go_loopw [12] (fun v wr => ∃ j : Nat, v = .int .i64 (j : Int) ∧ j ≤ l.length ∧ Hid' (Below W.heap.size W wr ∧ ∀ e ∈ l.take j, e.k ≠ k)) (fun v _ => l.length - (intOf v).toNat)
  case atStart => exact ⟨0, rfl, Nat.zero_le _, ⟨Below.refl _ _, by simp⟩⟩
  case round =>
    obtain ⟨j, rfl, hj, hR⟩ := hrel
    have HR := Lib.hid hR.out
    clear hR
    by_cases hlt : j < l.length
    · obtain ⟨g, rfl, hc⟩ := RC.cells (F := F) (R := R) (places := places) HO.out hlt
      obtain ⟨e, he⟩ : ∃ e, l[j]? = some e := ⟨l[j], List.getElem?_eq_getElem hlt⟩
      obtain ⟨d0, d1, d2, d3⟩ := hc e he
      have b0 := bcell HR.out.1 d0
      have b1 := bcell HR.out.1 d1
      have b2 := bcell HR.out.1 d2
      have b3 := bcell HR.out.1 d3
      have HE := Lib.hid he
      have hltI : (j : Int) < (l.length : Int) := by omega
      clear hc he d0 d1 d2 d3
      by_cases hek : e.k = k
      · have hq : (e.k == k) = true := by simp [hek]
        have HK := Lib.hid hek
        clear hek
        go_wp2_with (fail)
        go_ret
        have hsp : l = l.take j ++ e :: l.drop (j + 1) := by
          have h9 := HE.out
          rw [List.getElem?_eq_getElem hlt] at h9
          rw [← Option.some.inj h9, List.getElem_cons_drop, List.take_append_drop]
        exact ⟨.inr ⟨l.take j, e, l.drop (j + 1), hsp, HK.out, HR.out.2, by rw [List.length_take, Nat.min_eq_left (by omega)]; rfl⟩, HR.out.1.alloc HR.out.1.size _⟩
      · have hq : (e.k == k) = false := by simp [hek]
        have HK := Lib.hid hek
        clear hek
        go_wp2_with (fail)
        refine ⟨⟨j + 1, by simp, by omega, ⟨HR.out.1.alloc HR.out.1.size _, fun y hy => ?_⟩⟩, by simp [intOf]; omega⟩
        rw [List.take_add_one, HE.out] at hy
        rcases List.mem_append.1 hy with hy | hy
        · exact HR.out.2 y hy
        · rw [Option.toList_some, List.mem_singleton] at hy
          rw [hy]
          exact HK.out
    · obtain rfl : j = l.length := by omega
      go_wp2_with (fail)
      go_ret
      exact ⟨.inl ⟨rfl, by have := HR.out.2; rwa [List.take_length] at this⟩, HR.out.1⟩
theorem grownBy_setCell'' (W : World) (b j : Nat) (v : Value) : W.grownBy (W.setCell ⟨b, j, none⟩ v) (some b) :=
  ⟨rfl, rfl, rfl, by rw [set_sz]; exact Nat.le_refl _, fun k _ hk => set_oth (fun e => hk (by rw [e]))⟩
theorem addE (g o j : Nat) : (⟨g, o, none⟩ : Addr).add j = ⟨g, o + j, none⟩ := by
  unfold Addr.add
  by_cases h : j = 0
  · simp [h]
  · simp [h]
theorem appendE {w : World} {q : Option Addr} {c n : Nat} {xs : List Value} (h : w.ownsRow 0 76 4 (.slice q n c) n xs) (ad : Addr) (m cc : Nat) (news : List Value) (hl : news.length = m * 4) (hcells : ∀ j u, news[j]? = some u → w.cell? (ad.add j) = some u) (h1 : ∀ u ∈ news, u.oneCell' = true) (hn : n + m ≤ 1000000) :
    ∃ q' c' w', (∀ ty, (Builtin.append_ #[29, 29] ty #[.slice q n c, .slice (some ad) m cc]).run Try.prog w = .ok (.slice q' (n + m) c') w') ∧ w'.ownsRow 0 76 4 (.slice q' (n + m) c') (n + m) (xs ++ news) ∧ w.grownBy w' (Value.slice q n c).ownBlock ∧
      ((Value.slice q' (n + m) c').ownBlock = (Value.slice q n c).ownBlock ∨ (Value.slice q' (n + m) c').ownBlock = some w.heap.size) ∧ n + m ≤ c' := by
  obtain ⟨i0, hi, hz0, hz1, hz2⟩ := info_parts infoEnt
  obtain ⟨v', w', hrun, hown, hgr, hne, hblk⟩ := run_append_own_at (P := Try.prog) (w := w) 0 29 29 76 i0 _ 4 32 Try.underlying29 hi hz0 hz1 hz2 rfl (by decide) _ n xs h ad m cc news hl hcells h1 (by unfold maxLen; omega) (by omega) (Nat.zero_le _)
  have hown2 := hown
  rcases hown.2 with ⟨e, h0⟩ | ⟨g, cap, cur, e, _, _, hc, _⟩
  · have e' : v' = .slice none (n + m) 0 := by rw [h0]; exact e
    rw [e'] at hown2 hrun hblk
    exact ⟨none, 0, w', fun ty => by rw [← hrun]; rfl, hown2, hgr, hblk, by omega⟩
  · rw [e] at hown2 hrun hblk
    exact ⟨some ⟨g, 0, none⟩, cap, w', fun ty => by rw [← hrun]; rfl, hown2, hgr, hblk, hc⟩
set_option maxRecDepth 100000 in
set_option maxHeartbeats 1000000 in
theorem refOut {F : Nat → Prop} {W : World} {R : Nat} {places : Int} {p q : List EntI} {e : EntI} (h : RC F W R places (p ++ e :: q)) (hl : (p ++ e :: q).length ≤ 65536) :
    Calls Try.prog 60 #[PV R, .int .i64 (p.length : Int)] W fun x W' => x = .returned (.tuple #[]) ∧ ∃ F', RC F' W' R places (p ++ q) ∧ Step F F' W W' := by
  obtain ⟨s, c, h1, h2, h3, h4, h5⟩ := h
  obtain ⟨N, hN⟩ : ∃ N, (p ++ e :: q).length = N := ⟨_, rfl⟩
  have hNl : N = p.length + 1 + q.length := by rw [← hN]; simp; omega
  rw [hN] at h1 h2 h4 h5 hl
  obtain ⟨g, rfl, hcur⟩ : ∃ g, s = some ⟨g, 0, none⟩ ∧ True := by
    rcases h2.2 with ⟨_, e0⟩ | ⟨g, cap, cur, e', _⟩
    · omega
    · cases e'; exact ⟨g, rfl, trivial⟩
  have hgF := h4 g (by simp [Value.ownBlock])
  have hgl : g < W.heap.size := (h2.lt g (by simp [Value.ownBlock])).2
  have hRl := heap_lt h1
  have hb0 : Below W.heap.size W (W.alloc (.cells #[] 76)) := (Below.refl _ _).alloc (Nat.le_refl _) _
  have ho0 : (W.alloc (.cells #[] 76)).ownsRow 0 76 4 (.slice (some ⟨W.heap.size, 0, none⟩) 0 0) 0 [] := World.ownsRow_made (size := 4) W #[] 0 (Nat.zero_le _) (Nat.zero_le _) rfl
  have hev : ∀ j u, (entVs (p ++ e :: q))[j]? = some u → W.cell? ⟨g, j, none⟩ = some u := fun j u hu => by
    have := h2.cells (g := g) (by simp [Value.ownBlock]) j u hu
    rw [addE, Nat.zero_add] at this
    exact this
  obtain ⟨q1, c1, W2, hr1, ho1, hg1, hk1, hc1⟩ := appendE ho0 ⟨g, 0, none⟩ p.length c (entVs p) (entVs_length p) (fun j u hu => by
    have hj : j < (entVs p).length := (List.getElem?_eq_some_iff.1 hu).1
    have := hev j u (by rw [entVs_append, List.getElem?_append_left hj]; exact hu)
    rw [addE, Nat.zero_add]
    exact bcell hb0 this) (entVs_one p) (by omega)
  rw [Nat.zero_add, List.nil_append] at ho1
  rw [Nat.zero_add] at hk1 hc1
  simp only [Nat.zero_add] at hr1
  have hkf : ∀ k, (Value.slice q1 p.length c1).ownBlock = some k → W.heap.size ≤ k := fun k hk => by
    rcases hk1 with e1 | e1 <;> rw [hk] at e1 <;> simp [Value.ownBlock] at e1 <;> omega
  have hb2 : Below W.heap.size W W2 := hb0.grown hg1 (by simp) (fun k e => by simp [Value.ownBlock] at e; omega)
  obtain ⟨ad, had, hcell2⟩ : ∃ ad : Addr, (if c = p.length + 1 then (⟨g, 0, none⟩ : Addr) else ⟨g, (p.length + 1) * 4, none⟩) = ad ∧ ∀ j u, (entVs q)[j]? = some u → W2.cell? (ad.add j) = some u := by
    refine ⟨_, rfl, fun j u hu => ?_⟩
    have hj : j < (entVs q).length := (List.getElem?_eq_some_iff.1 hu).1
    rw [entVs_length] at hj
    rw [if_neg (by omega), addE]
    refine bcell hb2 (hev _ u ?_)
    rw [entVs_append, List.getElem?_append_right (by rw [entVs_length]; omega), entVs_length, show entVs (e :: q) = ent4 e ++ entVs q from rfl, List.getElem?_append_right (by simp [ent4]; omega)]
    rw [show (p.length + 1) * 4 + j - p.length * 4 - (ent4 e).length = j by simp [ent4]; omega]
    exact hu
  obtain ⟨q2, c2, W3, hr2, ho2, hg2, hk2, hc2⟩ := appendE ho1 ad q.length (c - (p.length + 1)) (entVs q) (entVs_length q) hcell2 (entVs_one q) (by omega)
  have r0 : W.cell? ⟨R, 1, none⟩ = some (.slice (some ⟨g, 0, none⟩) N c) := by rw [cell_of_row _ _ _ _ _ _ h1]; rfl
  have r1 := bcell hb0 r0
  have r2 := bcell hb2 r0
  have hR2 : W2.heap[R]? = some (.cells #[.int .i64 places, .slice (some ⟨g, 0, none⟩) N c] 31 (0, 0)) := (hb2.block R hRl).trans h1
  have hR3 : W3.heap[R]? = some (.cells #[.int .i64 places, .slice (some ⟨g, 0, none⟩) N c] 31 (0, 0)) := (hg2.block R (heap_lt hR2) (fun e => by have := hkf R e.symm; omega)).trans hR2
  have r3 : W3.cell? ⟨R, 1, none⟩ = some (.slice (some ⟨g, 0, none⟩) N c) := by rw [cell_of_row _ _ _ _ _ _ hR3]; rfl
  have f3 : W3.frozen? ⟨R, 1, none⟩ = false := frozen_of_row _ _ _ _ _ hR3
  have HFIN : Hid' (∃ F', RC F' (W3.setCell ⟨R, 1, none⟩ (.slice q2 (p.length + q.length) c2)) R places (p ++ q) ∧ Step F F' W (W3.setCell ⟨R, 1, none⟩ (.slice q2 (p.length + q.length) c2))) := by
    have hbl : Below W.heap.size W W3 := hb2.grown hg2 hb2.size (fun k e => hkf k e)
    have hfr : ∀ k, (Value.slice q2 (p.length + q.length) c2).ownBlock = some k → W.heap.size ≤ k := fun k hk => by
      rcases hk2 with e1 | e1
      · exact hkf k (by rw [← e1]; exact hk)
      · rw [hk] at e1
        have := hb2.size
        injection e1 with e1
        omega
    refine ⟨fun k => k = R ∨ (Value.slice q2 (p.length + q.length) c2).ownBlock = some k, ⟨q2, c2, ?_, ?_, .inl rfl, fun k hk => ?_, ?_⟩, ?_, fun k hk => ?_⟩
    · rw [row_put _ hR3, List.length_append]; rfl
    · rw [List.length_append, entVs_append]
      refine ho2.kept (grownBy_setCell'' W3 R 1 _) ?_
      cases ho : (Value.slice q2 (p.length + q.length) c2).ownBlock with
      | none => exact .inl rfl
      | some k =>
        have := hfr k ho
        refine .inr fun e => ?_
        cases e
        omega
    · rw [List.length_append] at hk
      exact ⟨.inr hk, by have := hfr k hk; omega⟩
    · rw [List.length_append]; exact hc2
    · exact (Tch.of_below hbl).set (p := ⟨R, 1, none⟩) h3 _
    · rcases hk with rfl | hk
      · exact .inl h3
      · exact .inr ⟨hfr k hk, by rw [set_sz]; exact (ho2.lt k hk).2⟩
  have HR1 := Lib.hid hr1
  have HR2 := Lib.hid hr2
  have HH := Lib.hid (And.intro ho2 (And.intro hg2 (And.intro hk2 (And.intro hc2 (And.intro hkf (And.intro hb2 (And.intro hR3 (And.intro h3 hRl))))))))
  have hn1 : (p.length : Int) ≤ (c : Int) := by omega
  have hn2 : wrap64 ((p.length : Int) + 1) = ((p.length + 1 : Nat) : Int) := by unfold wrap64; omega
  have hn3 : ((p.length + 1 : Nat) : Int) ≤ (N : Int) := by omega
  have hn4 : N - (p.length + 1) = q.length := by omega
  have HN := Lib.hid (And.intro hNl hN)
  clear hNl hN hcur
  clear hr1 hr2 ho1 ho2 hg1 hg2 hk1 hk2 hc1 hc2 hkf hb2 hR2 hR3 hev hcell2 ho0 hb0 h1 h2 h3 h4 hgF hgl hRl
  by_cases hcc : c = p.length + 1
  · rw [if_pos hcc] at had
    subst had
    subst hcc
    rw [Nat.sub_self] at HR2
    go_enter Try.func60, Try.ntmps60
    go_wp2_with (first | (at_builtin; refine t_append_eq rfl (.tmp 5) (.tmp 11) 29 rfl (.slice (some ⟨W.heap.size, 0, none⟩) 0 0) (.slice (some ⟨g, 0, none⟩) p.length (p.length + 1)) _ _ rfl rfl HR1.out ?_) | (at_builtin; refine t_append_eq rfl (.tmp 14) (.tmp 21) 29 rfl (.slice q1 p.length c1) (.slice (some ⟨g, 0, none⟩) q.length 0) _ _ rfl rfl HR2.out ?_))
    go_end0
    exact ⟨rfl, HFIN.out⟩
  · rw [if_neg hcc] at had
    subst had
    go_enter Try.func60, Try.ntmps60
    go_wp2_with (first | (at_builtin; refine t_append_eq rfl (.tmp 5) (.tmp 11) 29 rfl (.slice (some ⟨W.heap.size, 0, none⟩) 0 0) (.slice (some ⟨g, 0, none⟩) p.length c) _ _ rfl rfl HR1.out ?_) | (at_builtin; refine t_append_eq rfl (.tmp 14) (.tmp 21) 29 rfl (.slice q1 p.length c1) (.slice (some ⟨g, (p.length + 1) * 4, none⟩) q.length (c - (p.length + 1))) _ _ rfl rfl HR2.out ?_))
    go_end0
    exact ⟨rfl, HFIN.out⟩
end Go.Proofs.Ytaigbplidkakhaa
