/- Proved here: together goes through two trees, whatever is asked of each two nodes. -/
import Derived.Test.YtfmlmdfehaajbaaGreatDoorPairRow
import Derived.Deep.RegionWith
import Derived.Deep.RegionHeld3
import Derived.Deep.Cut
namespace Go.Proofs.YtfmlmdfehaajbaaGreatDoor
open Go.RowKit Go.Shelf

theorem step_of {P : Program} {ops : Array Oper} {o : Oper} {a : Act} {w : World} {K : Act → World → Prop} {Q : Exit → Act → World → Prop} {E : Prop} (hgd : o.guard = none) (h : Oper.wp P o a w K Q) :
    if Region.wanted o (yielded ops a.tmps) = true then Oper.wp P o a w K Q else E := by
  rw [if_pos (by simp [Region.wanted, hgd])]
  exact h
theorem wp_append_eq {P : Program} {w : World} {o : Oper} {a : Act} {K : Act → World → Prop} {Q : Exit → Act → World → Prop} (s x : Operand) (t : TypeId)
    (ho : o.op = .call { callee := .builtin .append, args := #[s, x], argTypes := #[t, t] }) (v u v' : Value) (w' : World) (hs : a.eval s = v) (hx : a.eval x = u)
    (hrun : ∀ ty, (Builtin.append_ #[t, t] ty #[v, u]).run P w = .ok v' w')
    (h : K (a.put o.dst v') w') : Oper.wp P o a w K Q := by
  have hr := hrun o.type
  unfold Oper.wp
  simp [execOp, ho, resolve, invoke, builtin, hs, hx, hr, Result.andThen]
  exact h

theorem least_ex {R : Nat → Prop} (h : ∃ m, R m) : ∃ m, R m ∧ ∀ k, R k → m ≤ k := by
  obtain ⟨m, hm⟩ := h
  induction m using Nat.strongRecOn with
  | ind m ih =>
    by_cases hk : ∃ k, k < m ∧ R k
    · obtain ⟨k, h1, h2⟩ := hk
      exact ih k h1 h2
    · refine ⟨m, hm, fun k hR => ?_⟩
      apply Classical.byContradiction
      intro hlt
      exact hk ⟨k, by omega, hR⟩
open Classical in
noncomputable def least (R : Nat → Prop) : Nat := if h : ∃ m, R m then Classical.choose (least_ex h) else 0
theorem least_spec {R : Nat → Prop} (h : ∃ m, R m) : R (least R) := by
  unfold least
  rw [dif_pos h]
  exact (Classical.choose_spec (least_ex h)).1
theorem least_le {R : Nat → Prop} {m : Nat} (h : R m) : least R ≤ m := by
  unfold least
  rw [dif_pos ⟨m, h⟩]
  exact (Classical.choose_spec (least_ex ⟨m, h⟩)).2 m h
/-- Only the row's block has changed, or the row lies elsewhere. -/
structure Moved (tb tb' : Option Nat) (W W2 : World) : Prop where
  os : W2.os = W.os
  tape : W2.tape = W.tape
  output : W2.output = W.output
  size : W.heap.size ≤ W2.heap.size
  block : ∀ k, k < W.heap.size → some k ≠ tb → W2.heap[k]? = W.heap[k]?
  there : tb' = tb ∨ ∃ g, tb' = some g ∧ W.heap.size ≤ g ∧ g < W2.heap.size
/-- The pairs of two nodes' kids. -/
def kidPairs (K1 o1 K2 o2 n : Nat) : List PA := (List.range n).map (fun i => ⟨K1, o1 + i * 6, K2, o2 + i * 6⟩)
/-- Both nodes have n kids: what the cells of their lists say; they don't lie in the row's block. -/
structure KidsOf2 (W : World) (tb : Option Nat) (p : PA) (n : Nat) (q1 : Option Addr) (c1 : Nat) (q2 : Option Addr) (c2 : Nat) : Prop where
  one : W.cell? ⟨p.b, p.o + 4, none⟩ = some (.slice q1 n c1)
  two : W.cell? ⟨p.d, p.q + 4, none⟩ = some (.slice q2 n c2)
  ne1 : some p.b ≠ tb
  ne2 : some p.d ≠ tb
theorem Moved.ne {tb tb' : Option Nat} {W W2 : World} (h : Moved tb tb' W W2) {k : Nat} (hk : k < W.heap.size) (hn : some k ≠ tb) : some k ≠ tb' := fun e => by
  rcases h.there with e2 | ⟨g, e2, hg, _⟩
  · exact hn (e.trans e2)
  · rw [e2] at e
    injection e with e
    omega
theorem KidsOf2.move {W W2 : World} {tb tb' : Option Nat} {p : PA} {n : Nat} {q1 : Option Addr} {c1 : Nat} {q2 : Option Addr} {c2 : Nat} (h : KidsOf2 W tb p n q1 c1 q2 c2) (m : Moved tb tb' W W2) : KidsOf2 W2 tb' p n q1 c1 q2 c2 := by
  have l1 := World.block_lt_of_cell? _ _ h.one
  have l2 := World.block_lt_of_cell? _ _ h.two
  exact ⟨(World.cell?_of_block (m.block _ l1 h.ne1)).trans h.one, (World.cell?_of_block (m.block _ l2 h.ne2)).trans h.two, m.ne l1 h.ne1, m.ne l2 h.ne2⟩
/-- What is asked of each two nodes. -/
structure Visits (g : Nat) (J : Nat → List PA → Option Nat → World → Prop) (Stop : World → Prop) : Prop where
  enter : ∀ args w, (callFunc g args).run Tryz.prog w = .ok (.enter g args) w
  size : ∀ {m ps tb W}, J m ps tb W → ps.length ≤ m ∧ m ≤ 1048576
  move : ∀ {m ps tb tb' W W2}, J m ps tb W → Moved tb tb' W W2 → J m ps tb' W2
  visit : ∀ {m ps p tb V W}, J m (ps ++ [p]) tb V → 0 < m → (∀ k, tb = some k → k < V.heap.size) → Moved tb tb V W → Calls Tryz.prog g #[.pointer (some ⟨p.b, p.o, none⟩), .pointer (some ⟨p.d, p.q, none⟩)] W fun e W2 => (e = .returned (.bool false) ∧ Stop W2) ∨
    (e = .returned (.bool true) ∧ W.heap.size ≤ W2.heap.size ∧ (∀ k, k < W.heap.size → (tb = some k ∨ V.heap.size ≤ k) → W2.heap[k]? = W.heap[k]?) ∧ ∃ n K1 o1 K2 o2 q1 c1 q2 c2, n ≤ 1048576 ∧ n ≤ c1 ∧ n ≤ c2 ∧ (0 < n → q1 = some ⟨K1, o1, none⟩ ∧ q2 = some ⟨K2, o2, none⟩) ∧ KidsOf2 W2 tb p n q1 c1 q2 c2 ∧ J (m - 1) (ps ++ kidPairs K1 o1 K2 o2 n) tb W2)
def blk (q : Option Addr) : Option Nat := q.map (fun a => a.block)
def TogJ (J : Nat → List PA → Option Nat → World → Prop) (B : Nat) (v : Value) (W : World) (m : Nat) : Prop := ∃ q c ps, v = .slice q ps.length c ∧ OwnP W B q c ps ∧ J m ps (blk q) W ∧ B ≤ W.heap.size
/-- How the inner round stands. -/
structure TogI (J : Nat → List PA → Option Nat → World → Prop) (B m P : Nat) (p : PA) (r : List PA) (kn K1 o1 K2 o2 : Nat) (q1 : Option Addr) (d1 : Nat) (q2 : Option Addr) (d2 : Nat) (i : Nat) (q : Option Addr) (c : Nat) (W : World) : Prop where
  own : OwnP W B q c (r ++ (kidPairs K1 o1 K2 o2 kn).take i)
  j : J m (r ++ kidPairs K1 o1 K2 o2 kn) (blk q) W
  kids : KidsOf2 W (blk q) p kn q1 d1 q2 d2
  loc : W.heap[P]? = some (.cells #[.pointer (some ⟨p.b, p.o, none⟩), .pointer (some ⟨p.d, p.q, none⟩)] 92 (0, 0))
  ne : blk q ≠ some P
  low : B ≤ W.heap.size
theorem kidPairs_len (K1 o1 K2 o2 n : Nat) : (kidPairs K1 o1 K2 o2 n).length = n := by simp [kidPairs]
theorem kidPairs_at (K1 o1 K2 o2 n i : Nat) (h : i < (kidPairs K1 o1 K2 o2 n).length) : (kidPairs K1 o1 K2 o2 n)[i] = ⟨K1, o1 + i * 6, K2, o2 + i * 6⟩ := by
  simp only [kidPairs, List.getElem_map, List.getElem_range]
theorem TogI.far {g : Nat} {J : Nat → List PA → Option Nat → World → Prop} {Stop : World → Prop} (hv : Visits g J Stop) {B m P : Nat} {p : PA} {r : List PA} {kn K1 o1 K2 o2 : Nat} {q1 : Option Addr} {d1 : Nat} {q2 : Option Addr} {d2 : Nat} {i : Nat} {q : Option Addr} {c : Nat} {W W2 : World} (h : TogI J B m P p r kn K1 o1 K2 o2 q1 d1 q2 d2 i q c W) (b : Below W.heap.size W W2) : TogI J B m P p r kn K1 o1 K2 o2 q1 d1 q2 d2 i q c W2 := by
  have hm : Moved (blk q) (blk q) W W2 := ⟨b.os, b.tape, b.output, b.size, fun k hk _ => b.block k hk, .inl rfl⟩
  exact ⟨h.own.below b, hv.move h.j hm, h.kids.move hm, (b.block _ (it_lt h.loc)).trans h.loc, h.ne, Nat.le_trans h.low b.size⟩
theorem TogI.more {g0 : Nat} {J : Nat → List PA → Option Nat → World → Prop} {Stop : World → Prop} (hv : Visits g0 J Stop) {B m P : Nat} {p : PA} {r : List PA} {kn K1 o1 K2 o2 : Nat} {q1 : Option Addr} {d1 : Nat} {q2 : Option Addr} {d2 : Nat} {i : Nat} {q : Option Addr} {c n : Nat} {W : World} (h : TogI J B m P p r kn K1 o1 K2 o2 q1 d1 q2 d2 i q c W) (hn : r.length = n) (hi : i < kn) {X : World} (hX : W.alloc (.cells #[.pointer (some ⟨K1, o1 + i * 6, none⟩), .pointer (some ⟨K2, o2 + i * 6, none⟩)] 92) = X) :
    ∃ q' c' W', (∀ ty, (Builtin.append_ #[93, 93] ty #[.slice q (n + i) c, .slice (some ⟨W.heap.size, 0, none⟩) 1 1]).run Tryz.prog X = .ok (.slice q' (n + i + 1) c') W') ∧ TogI J B m P p r kn K1 o1 K2 o2 q1 d1 q2 d2 (i + 1) q' c' W' := by
  subst hX
  have hsz := hv.size h.j
  have hlt : i < (kidPairs K1 o1 K2 o2 kn).length := by rw [kidPairs_len]; exact hi
  have hlen : (r ++ (kidPairs K1 o1 K2 o2 kn).take i).length = n + i := by rw [List.length_append, List.length_take, hn, Nat.min_eq_left (Nat.le_of_lt hlt)]
  have hll : (r ++ kidPairs K1 o1 K2 o2 kn).length = n + kn := by rw [List.length_append, hn, kidPairs_len]
  obtain ⟨g, cap, W', hrun, hown, hgr, hq⟩ := appendP (z := ⟨K1, o1 + i * 6, K2, o2 + i * 6⟩) h.own h.low (by omega)
  rw [hlen] at hrun hgr
  have hm : Moved (blk q) (blk (some ⟨g, 0, none⟩)) W W' := by
    refine ⟨hgr.os, hgr.tape, hgr.output, hgr.size, fun k hk hne => hgr.block k hk (fun e => ?_), ?_⟩
    · apply hne
      cases q with
      | none => cases e
      | some a => exact e
    · rcases hq with e | e
      · exact .inl (by rw [e])
      · exact .inr ⟨g, rfl, by omega, (hown.block g 0 rfl).2.1⟩
  refine ⟨some ⟨g, 0, none⟩, cap, W', hrun, ⟨?_, hv.move h.j hm, h.kids.move hm, (hm.block _ (it_lt h.loc) (fun e => h.ne e.symm)).trans h.loc, ?_, Nat.le_trans h.low hm.size⟩⟩
  · rw [List.take_add_one, List.getElem?_eq_getElem hlt, kidPairs_at, ← List.append_assoc]
    exact hown
  · intro e
    rcases hq with e2 | e2
    · exact h.ne (by rw [e2]; exact e)
    · have := it_lt h.loc
      have e' : some g = some P := e
      injection e' with e'
      omega
set_option maxRecDepth 100000 in
set_option maxHeartbeats 8000000 in
theorem together_any {g : Nat} {J : Nat → List PA → Option Nat → World → Prop} {Stop : World → Prop} (hv : Visits g J Stop) (w : World) (m : Nat) (p : PA) (h : J m [p] none w) :
    Calls Tryz.prog 49 #[.pointer (some ⟨p.b, p.o, none⟩), .pointer (some ⟨p.d, p.q, none⟩), .func (.func g) #[] #[]] w fun e W => (e = .returned (.bool true) ∧ ∃ m tb, J m [] tb W) ∨ (e = .returned (.bool false) ∧ Stop W) := by
  have HV := Lib.hid hv
  have HJ := Lib.hid h
  clear hv h
  obtain ⟨b, o, d, q0⟩ := p
  go_enter Tryz.func49, Tryz.ntmps49
  go_wp2_with (fail)
  go_loopw [7] (fun v wr => Hid' (∃ m, TogJ J w.heap.size v wr m)) (fun v wr => least (TogJ J w.heap.size v wr))
  case atStart =>
    refine ⟨m, some ⟨w.heap.size, 0, none⟩, 1, [⟨b, o, d, q0⟩], rfl, OwnP.one w ⟨b, o, d, q0⟩ (Nat.le_refl _), HV.out.move HJ.out ⟨rfl, rfl, rfl, by simp, fun k hk _ => Below.heap_alloc _ _ _ hk, .inr ⟨w.heap.size, rfl, Nat.le_refl _, by simp⟩⟩, by simp⟩
  case round =>
    have HL := Lib.hid (least_spec hrel.out)
    obtain ⟨m1, hm1⟩ : ∃ m1, least (TogJ J w.heap.size u7 wr) = m1 := ⟨_, rfl⟩
    rw [hm1] at HL
    obtain ⟨q, c, ps, rfl, hO, hJ, hB⟩ := HL.out
    have HM := Lib.hid hm1
    clear hm1 hrel HL
    obtain ⟨V, rfl⟩ : ∃ V, V = wr := ⟨_, rfl⟩
    have hsz := HV.out.size hJ
    rcases List.eq_nil_or_concat ps with rfl | ⟨r, p, rfl⟩
    · have HX := Lib.hid hJ
      clear hO hJ
      go_wp2_with (fail)
      exact bodyPost_ret (v := .bool true) (by simp [results, Tryz.f49, go_sem]) rfl (.inl ⟨rfl, m1, _, HX.out⟩)
    · rw [List.concat_eq_append] at *
      obtain ⟨gq, rfl⟩ := hO.form (by simp)
      obtain ⟨hc0, hc1⟩ := hO.last
      obtain ⟨n, hn⟩ : ∃ n, r.length = n := ⟨_, rfl⟩
      rw [hn] at hc0 hc1
      have hl : (r ++ [p]).length = n + 1 := by simp [hn]
      have hcc := hO.2.1
      rw [hl] at hcc hsz ⊢
      have HX := Lib.hid (And.intro hO (And.intro hJ (And.intro hB (And.intro hn hl))))
      obtain ⟨pb, po, pd, pq⟩ := p
      clear hO hJ hB hn hl
      go_upto_region 5 with (fail)
      obtain ⟨U, hU⟩ : ∃ U, V.alloc (.cells #[.pointer (some ⟨pb, po, none⟩), .pointer (some ⟨pd, pq, none⟩)] 92) = U := ⟨_, rfl⟩
      have rU : U.heap[V.heap.size]? = some (.cells #[.pointer (some ⟨pb, po, none⟩), .pointer (some ⟨pd, pq, none⟩)] 92 (0, 0)) := by rw [← hU]; exact heap_alloc_new _ _
      have mU : Moved (some gq) (some gq) V U := by rw [← hU]; exact ⟨rfl, rfl, rfl, by simp, fun k hk _ => Below.heap_alloc _ _ _ hk, .inl rfl⟩
      have zU : U.heap.size = V.heap.size + 1 := by rw [← hU]; simp
      have bU : Below V.heap.size V U := by rw [← hU]; exact (Below.refl _ _).alloc (Nat.le_refl _) _
      have hgq := HX.out.1.block gq 0 rfl
      have u0 := cell_of_row U _ 0 _ _ _ rU
      have u1 := cell_of_row U _ 1 _ _ _ rU
      have HC := Lib.hid ((HV.out.visit HX.out.2.1 (by omega) (fun k e => by have e' : some gq = some k := e; injection e' with e'; omega) mU).mono (R' := fun e W2 => ∃ bb, e = .returned (.bool bb) ∧ Hid' ((bb = false ∧ Stop W2) ∨ (bb = true ∧ U.heap.size ≤ W2.heap.size ∧ (∀ k, k < U.heap.size → (blk (some ⟨gq, 0, none⟩) = some k ∨ V.heap.size ≤ k) → W2.heap[k]? = U.heap[k]?) ∧ ∃ n K1 o1 K2 o2 q1 c1 q2 c2, n ≤ 1048576 ∧ n ≤ c1 ∧ n ≤ c2 ∧ (0 < n → q1 = some ⟨K1, o1, none⟩ ∧ q2 = some ⟨K2, o2, none⟩) ∧ KidsOf2 W2 (some gq) ⟨pb, po, pd, pq⟩ n q1 c1 q2 c2 ∧ J (m1 - 1) (r ++ kidPairs K1 o1 K2 o2 n) (some gq) W2))) (fun e W2 he => by
        rcases he with ⟨e1, e2⟩ | ⟨e1, e2⟩
        · exact ⟨false, e1, Or.inl ⟨rfl, e2⟩⟩
        · exact ⟨true, e1, Or.inr ⟨rfl, e2⟩⟩))
      have HG := Lib.hid (And.intro rU (And.intro zU (And.intro bU hgq)))
      have eg := HV.out.enter
      clear rU zU bU hgq mU
      rw [hU]
      clear hU hc0 hc1
      go_upto_region 7 with (go_at_fn g; refine HC.out.mono ?_; rintro e w' ⟨bb, rfl, HP⟩)
      · rcases HP with ⟨rfl, h2⟩ | ⟨rfl, _⟩
        · exact bodyPost_ret (v := .bool false) (by simp [results, Tryz.f49, go_sem]) rfl (.inr ⟨rfl, h2⟩)
        · simp at *
      · rcases HP with ⟨rfl, _⟩ | ⟨rfl, hs, hst, kn, K1, o1, K2, o2, q1, d1, q2, d2, hkn, hd1, hd2, hq, hK, hJ⟩
        · simp at *
        obtain ⟨rU, zU, bU, hgq⟩ := HG.out
        have rP : w'.heap[V.heap.size]? = some (.cells #[.pointer (some ⟨pb, po, none⟩), .pointer (some ⟨pd, pq, none⟩)] 92 (0, 0)) := (hst _ (by omega) (.inr (Nat.le_refl _))).trans rU
        have hown : OwnP w' w.heap.size (some ⟨gq, 0, none⟩) c r := (HX.out.1.cut.below bU).keep (fun b e => by
          injection e with e
          injection e with e
          exact hst b (by omega) (.inl (by rw [← e]; rfl)))
        have HI0 := Lib.hid (show TogI J w.heap.size (m1 - 1) V.heap.size ⟨pb, po, pd, pq⟩ r kn K1 o1 K2 o2 q1 d1 q2 d2 0 (some ⟨gq, 0, none⟩) c w' from ⟨by rw [List.take_zero, List.append_nil]; exact hown, hJ, hK, rP, (fun e => by have e' : some gq = some V.heap.size := e; injection e' with e'; omega), by have := HX.out.2.2.1; omega⟩)
        have k1 := hK.one
        have k2 := hK.two
        have p0 := cell_of_row _ _ 0 _ _ _ rP
        have HQ := Lib.hid hq
        have HD := Lib.hid (show ∀ (i : Nat) (q : Option Addr) (c : Nat) (W : World), TogI J w.heap.size (m1 - 1) V.heap.size ⟨pb, po, pd, pq⟩ r kn K1 o1 K2 o2 q1 d1 q2 d2 i q c W → W.cell? ⟨V.heap.size, 0, none⟩ = some (.pointer (some ⟨pb, po, none⟩)) ∧ W.cell? ⟨V.heap.size, 1, none⟩ = some (.pointer (some ⟨pd, pq, none⟩)) ∧ W.cell? ⟨pb, po + 4, none⟩ = some (.slice q1 kn d1) ∧ W.cell? ⟨pd, pq + 4, none⟩ = some (.slice q2 kn d2) from fun i q c W hI => ⟨cell_of_row _ _ 0 _ _ _ hI.loc, cell_of_row _ _ 1 _ _ _ hI.loc, hI.kids.one, hI.kids.two⟩)
        clear rU zU bU hgq hown hq rP hst hs hJ u0 u1 hK
        go_wp2_with (fail)
        go_loopw [7, 41] (fun v7 v41 wr => ∃ (i : Nat) (q : Option Addr) (c : Nat), v41 = .int .i64 (i : Int) ∧ i ≤ kn ∧ v7 = .slice q (n + i) c ∧ Hid' (TogI J w.heap.size (m1 - 1) V.heap.size ⟨pb, po, pd, pq⟩ r kn K1 o1 K2 o2 q1 d1 q2 d2 i q c wr)) (fun v7 v41 _ => kn - (intOf v41).toNat)
        case atStart => exact ⟨0, some ⟨gq, 0, none⟩, c, rfl, Nat.zero_le _, rfl, HI0.out⟩
        case round =>
          obtain ⟨i, q, c3, rfl, hi, rfl, HI⟩ := hrel
          obtain ⟨X, rfl⟩ : ∃ X, X = wr := ⟨_, rfl⟩
          by_cases hlt : i < kn
          · have hi' : (i : Int) < (kn : Int) := by omega
            obtain ⟨rfl, rfl⟩ := HQ.out (by omega)
            have HN := HX.out.2.2.2.1
            go_upto_region 10 with (fail)
            have hs0 := HD.out i q c3 X HI
            refine wp_region_held_drew (S := fun W => W.cell? ⟨V.heap.size, 0, none⟩ = some (.pointer (some ⟨pb, po, none⟩)) ∧ W.cell? ⟨V.heap.size, 1, none⟩ = some (.pointer (some ⟨pd, pq, none⟩)) ∧ W.cell? ⟨pb, po + 4, none⟩ = some (.slice (some ⟨K1, o1, none⟩) kn d1) ∧ W.cell? ⟨pd, pq + 4, none⟩ = some (.slice (some ⟨K2, o2, none⟩) kn d2)) (by kernel_rfl) hs0 (fun hHeld => ?_)
            refine wpAnyH_take (i := 0) (oi := _) (v := ?v0) rfl (by kernel_rfl) (by kernel_rfl) (by kernel_rfl) (fun _ _ _ h => h) (Or.inl ⟨by rfl, ?hy0⟩) (by assumption) ?rest0
            case hy0 =>
              intro W hSw
              clear hSw
              go_simp
              try (with_reducible rfl)
            try simp only [Act.put, List.getElem_toArray, List.getElem_cons_zero, List.getElem_cons_succ, List.setIfInBounds_toArray, List.set_cons_zero, List.set_cons_succ]
            refine wpAnyH_take (i := 1) (oi := _) (v := ?v1) rfl (by kernel_rfl) (by kernel_rfl) (by kernel_rfl) (fun _ _ _ h => h) (Or.inl ⟨by rfl, ?hy1⟩) (by assumption) ?rest1
            case hy1 =>
              intro W hSw
              clear hSw
              go_simp
              try (with_reducible rfl)
            try simp only [Act.put, List.getElem_toArray, List.getElem_cons_zero, List.getElem_cons_succ, List.setIfInBounds_toArray, List.set_cons_zero, List.set_cons_succ]
            refine wpAnyH_take (i := 2) (oi := _) (v := ?v2) rfl (by kernel_rfl) (by kernel_rfl) (by kernel_rfl) (fun _ _ _ h => h) (Or.inl ⟨by rfl, ?hy2⟩) (by assumption) ?rest2
            case hy2 =>
              intro W hSw
              obtain ⟨e0, e1, e2, e3⟩ := hSw
              go_simp
              try (with_reducible rfl)
            try simp only [Act.put, List.getElem_toArray, List.getElem_cons_zero, List.getElem_cons_succ, List.setIfInBounds_toArray, List.set_cons_zero, List.set_cons_succ]
            refine wpAnyH_take (i := 3) (oi := _) (v := ?v3) rfl (by kernel_rfl) (by kernel_rfl) (by kernel_rfl) (fun _ _ _ h => h) (Or.inl ⟨by rfl, ?hy3⟩) (by assumption) ?rest3
            case hy3 =>
              intro W hSw
              clear hSw
              go_simp
              try (with_reducible rfl)
            try simp only [Act.put, List.getElem_toArray, List.getElem_cons_zero, List.getElem_cons_succ, List.setIfInBounds_toArray, List.set_cons_zero, List.set_cons_succ]
            refine wpAnyH_take (i := 4) (oi := _) (v := ?v4) rfl (by kernel_rfl) (by kernel_rfl) (by kernel_rfl) (fun _ _ _ h => h) (Or.inl ⟨by rfl, ?hy4⟩) (by assumption) ?rest4
            case hy4 =>
              intro W hSw
              clear hSw
              go_simp
              try (with_reducible rfl)
            try simp only [Act.put, List.getElem_toArray, List.getElem_cons_zero, List.getElem_cons_succ, List.setIfInBounds_toArray, List.set_cons_zero, List.set_cons_succ]
            refine wpAnyH_take (i := 5) (oi := _) (v := ?v5) rfl (by kernel_rfl) (by kernel_rfl) (by kernel_rfl) (fun _ _ _ h => h) (Or.inl ⟨by rfl, ?hy5⟩) (by assumption) ?rest5
            case hy5 =>
              intro W hSw
              obtain ⟨e0, e1, e2, e3⟩ := hSw
              go_simp
              try (with_reducible rfl)
            try simp only [Act.put, List.getElem_toArray, List.getElem_cons_zero, List.getElem_cons_succ, List.setIfInBounds_toArray, List.set_cons_zero, List.set_cons_succ]
            refine wpAnyH_take (i := 6) (oi := _) (v := ?v6) rfl (by kernel_rfl) (by kernel_rfl) (by kernel_rfl) (fun _ _ _ h => h) (Or.inl ⟨by rfl, ?hy6⟩) (by assumption) ?rest6
            case hy6 =>
              intro W hSw
              clear hSw
              go_simp
              try (with_reducible rfl)
            try simp only [Act.put, List.getElem_toArray, List.getElem_cons_zero, List.getElem_cons_succ, List.setIfInBounds_toArray, List.set_cons_zero, List.set_cons_succ]
            refine wpAnyH_take (i := 7) (oi := _) (v := ?v7) rfl (by kernel_rfl) (by kernel_rfl) (by kernel_rfl) (fun _ _ _ h => h) (Or.inl ⟨by rfl, ?hy7⟩) (by assumption) ?rest7
            case hy7 =>
              intro W hSw
              clear hSw
              go_simp
              try (with_reducible rfl)
            try simp only [Act.put, List.getElem_toArray, List.getElem_cons_zero, List.getElem_cons_succ, List.setIfInBounds_toArray, List.set_cons_zero, List.set_cons_succ]
            refine wpAnyH_take (i := 8) (oi := _) (v := ?v8) rfl (by kernel_rfl) (by kernel_rfl) (by kernel_rfl) (fun _ _ _ h => h) (Or.inl ⟨by rfl, ?hy8⟩) (by assumption) ?rest8
            case hy8 =>
              intro W hSw
              clear hSw
              go_simp
              try (with_reducible rfl)
            try simp only [Act.put, List.getElem_toArray, List.getElem_cons_zero, List.getElem_cons_succ, List.setIfInBounds_toArray, List.set_cons_zero, List.set_cons_succ]
            refine wpAnyH_take (i := 9) (oi := _) (v := ?v9) rfl (by kernel_rfl) (by kernel_rfl) (by kernel_rfl) (fun _ _ _ h => h) (Or.inl ⟨by rfl, ?hy9⟩) (by assumption) ?rest9
            case hy9 =>
              intro W hSw
              obtain ⟨e0, e1, e2, e3⟩ := hSw
              go_simp
              try (with_reducible rfl)
            try simp only [Act.put, List.getElem_toArray, List.getElem_cons_zero, List.getElem_cons_succ, List.setIfInBounds_toArray, List.set_cons_zero, List.set_cons_succ]
            refine wpAnyH_take (i := 10) (oi := _) (v := ?v10) rfl (by kernel_rfl) (by kernel_rfl) (by kernel_rfl) (fun _ _ _ h => h) (Or.inl ⟨by rfl, ?hy10⟩) (by assumption) ?rest10
            case hy10 =>
              intro W hSw
              clear hSw
              go_simp
              try (with_reducible rfl)
            try simp only [Act.put, List.getElem_toArray, List.getElem_cons_zero, List.getElem_cons_succ, List.setIfInBounds_toArray, List.set_cons_zero, List.set_cons_succ]
            refine wpAnyH_take (i := 11) (oi := _) (v := ?v11) rfl (by kernel_rfl) (by kernel_rfl) (by kernel_rfl) (fun _ _ _ h => h) (Or.inl ⟨by rfl, ?hy11⟩) (by assumption) ?rest11
            case hy11 =>
              intro W hSw
              clear hSw
              go_simp
              try (with_reducible rfl)
            try simp only [Act.put, List.getElem_toArray, List.getElem_cons_zero, List.getElem_cons_succ, List.setIfInBounds_toArray, List.set_cons_zero, List.set_cons_succ]
            refine wpAnyH_take (i := 12) (oi := _) (v := ?v12) rfl (by kernel_rfl) (by kernel_rfl) (by kernel_rfl) (fun _ _ _ h => h) (Or.inl ⟨by rfl, ?hy12⟩) (by assumption) ?rest12
            case hy12 =>
              intro W hSw
              obtain ⟨e0, e1, e2, e3⟩ := hSw
              go_simp
              try (with_reducible rfl)
            try simp only [Act.put, List.getElem_toArray, List.getElem_cons_zero, List.getElem_cons_succ, List.setIfInBounds_toArray, List.set_cons_zero, List.set_cons_succ]
            refine wpAnyH_take (i := 13) (oi := _) (v := ?v13) rfl (by kernel_rfl) (by kernel_rfl) (by kernel_rfl) (fun _ _ _ h => h) (Or.inl ⟨by rfl, ?hy13⟩) (by assumption) ?rest13
            case hy13 =>
              intro W hSw
              clear hSw
              go_simp
              try (with_reducible rfl)
            try simp only [Act.put, List.getElem_toArray, List.getElem_cons_zero, List.getElem_cons_succ, List.setIfInBounds_toArray, List.set_cons_zero, List.set_cons_succ]
            refine wpAnyH_take (i := 14) (oi := _) (v := ?v14) rfl (by kernel_rfl) (by kernel_rfl) (by kernel_rfl) (fun _ _ _ h => h) (Or.inl ⟨by rfl, ?hy14⟩) (by assumption) ?rest14
            case hy14 =>
              intro W hSw
              clear hSw
              go_simp
              try (with_reducible rfl)
            try simp only [Act.put, List.getElem_toArray, List.getElem_cons_zero, List.getElem_cons_succ, List.setIfInBounds_toArray, List.set_cons_zero, List.set_cons_succ]
            refine wpAnyH_take (i := 15) (oi := _) (v := ?v15) rfl (by kernel_rfl) (by kernel_rfl) (by kernel_rfl) (fun _ _ _ h => h) (Or.inl ⟨by rfl, ?hy15⟩) (by assumption) ?rest15
            case hy15 =>
              intro W hSw
              clear hSw
              go_simp
              try (with_reducible rfl)
            try simp only [Act.put, List.getElem_toArray, List.getElem_cons_zero, List.getElem_cons_succ, List.setIfInBounds_toArray, List.set_cons_zero, List.set_cons_succ]
            have HI1 := Lib.hid (TogI.far HV.out HI (Below.refl _ _).drew)
            have hHeld0 := hHeld
            clear hHeld hs0
            obtain ⟨X0, hX0⟩ : ∃ X', X' = X.drew := ⟨_, rfl⟩
            rw [← hX0] at HI1 hHeld0 ⊢
            clear hX0
            refine wpAnyH_ready (rs := [16]) (by kernel_rfl) (by simp) ?_
            refine AllReadyH.cons (o := _) rfl (fun K hK => ?_) AllReadyH.nil
            go_simp
            obtain ⟨X1, hX1⟩ : ∃ Y, X0.alloc (.cells #[.pointer (some ⟨K1, o1 + i * 6, none⟩), .pointer (some ⟨K2, o2 + i * 6, none⟩)] 92) = Y := ⟨_, rfl⟩
            rw [hX1]
            refine hK.out _ _ (HD.out i q c3 X1 (TogI.far HV.out HI1.out (by rw [← hX1]; exact (Below.refl _ _).alloc (Nat.le_refl _) _))) (fun _ => ?_)
            clear hK K
            try simp only [Act.put, List.getElem_toArray, List.getElem_cons_zero, List.getElem_cons_succ, List.setIfInBounds_toArray, List.set_cons_zero, List.set_cons_succ]
            refine wpAnyH_ready (rs := [17]) (by kernel_rfl) (by simp) ?_
            refine AllReadyH.cons (o := _) rfl (fun K hK => ?_) AllReadyH.nil
            obtain ⟨q', c', X2, hrun, hI2⟩ := TogI.more HV.out HI1.out HN hlt hX1
            have HI2 := Lib.hid hI2
            refine step_of rfl (wp_append_eq (.tmp 44) (.tmp 60) 93 rfl (.slice q (n + i) c3) (.slice (some ⟨X0.heap.size, 0, none⟩) 1 1) (.slice q' (n + i + 1) c') X2 (by rfl) (by rfl) hrun ?_)
            refine hK.out _ _ (HD.out _ _ _ _ hI2) (fun hHeld2 => ?_)
            clear hK K hrun hI2
            try simp only [Act.put, List.getElem_toArray, List.getElem_cons_zero, List.getElem_cons_succ, List.setIfInBounds_toArray, List.set_cons_zero, List.set_cons_succ]
            refine wpAnyH_take (i := 18) (oi := _) (v := ?v18) rfl (by kernel_rfl) (by kernel_rfl) (by kernel_rfl) (fun _ _ _ h => h) (Or.inl ⟨by rfl, ?hy18⟩) hHeld2 ?rest18
            case hy18 =>
              intro W hSw
              clear hSw
              go_simp
              try (with_reducible rfl)
            try simp only [Act.put, List.getElem_toArray, List.getElem_cons_zero, List.getElem_cons_succ, List.setIfInBounds_toArray, List.set_cons_zero, List.set_cons_succ]
            clear hHeld2
            refine wpAnyH_done (by kernel_rfl) ?_ _
            go_wp2_with (fail)
            go_roundw
            case rel => exact ⟨i + 1, q', c', by go_num, hlt, rfl, HI2.out⟩
            case measure => simp only [intOf]; omega
          · have hi' : ¬ (i : Int) < (kn : Int) := by omega
            have ei : i = kn := by omega
            have HR := Lib.hid (show TogJ J w.heap.size (.slice q (n + i) c3) X (m1 - 1) from by
              have hl : (kidPairs K1 o1 K2 o2 kn).take i = kidPairs K1 o1 K2 o2 kn := List.take_of_length_le (by rw [kidPairs_len]; omega)
              have ho := HI.own
              rw [hl] at ho
              exact ⟨q, c3, _, by rw [List.length_append, kidPairs_len, HX.out.2.2.2.1, ei], ho, HI.j, HI.low⟩)
            go_wp2_with (fail)
            go_roundw
            case rel => exact ⟨m1 - 1, HR.out⟩
            case measure =>
              have h1 := least_le HR.out
              have h2 := HM.out
              rw [HX.out.2.2.2.2] at h2
              rw [h2]
              exact Nat.lt_of_le_of_lt h1 (by omega)
end Go.Proofs.YtfmlmdfehaajbaaGreatDoor
