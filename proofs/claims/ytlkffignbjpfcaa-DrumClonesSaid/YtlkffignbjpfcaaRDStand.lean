/- Proved here: what of the document's drum stands: a Flush, a Crash; its Read. -/
import Derived.Test.YtlkffignbjpfcaaRDWrite
import Derived.BigGuardPart
namespace Go.Proofs.Ytlkffignbjpfcaa
open Go.RowKit

theorem infoRow2 : (Try.prog.info? 33).map (fun i => (i.zero, i.size, i.bytes)) = some (some (.slice none 0 0), 1, 24) := infoRow
/-- A Write's two cells in memory. -/
theorem RAt.write {W : World} {X : Nat → Prop} {R N : Nat} {M : DM} {s q : Option Addr} {cS cL : Nat} {Vs Ws : List Value} (h : RAt W X R N M s q cS cL Vs Ws) {j : Nat} (hj : j < M.loose.length) :
    ∃ gl v, q = some ⟨gl, 0, none⟩ ∧ M.loose.length ≤ cL ∧ W.cell? ⟨gl, j * 2, none⟩ = some (.int .i64 (M.loose[j].1 : Int)) ∧ W.cell? ⟨gl, j * 2 + 1, none⟩ = some v ∧ RowOut W X v M.loose[j].2 := by
  rcases h.loose.2 with ⟨e1, e2⟩ | ⟨g, cap, cur, e, hb', hh, hr, _⟩
  · omega
  · injection e with e1 e2 e3
    obtain ⟨v, hv, hro⟩ := h.wrows j hj
    have hat : ∀ (ns : List Nat) (vs : List Value) (j : Nat) (hj : j < ns.length) (v : Value), vs[j]? = some v → (rwV ns vs)[j * 2]? = some (.int .i64 (ns[j] : Int)) ∧ (rwV ns vs)[j * 2 + 1]? = some v := by
      intro ns
      induction ns with
      | nil => intro vs j hj; simp at hj
      | cons a r ih =>
        intro vs j hj v hv
        cases vs with
        | nil => simp at hv
        | cons b t =>
          cases j with
          | zero => simp at hv; subst hv; exact ⟨rfl, rfl⟩
          | succ j =>
            have := ih t j (by simpa using hj) v (by simpa using hv)
            have e : rwV (a :: r) (b :: t) = .int .i64 (a : Int) :: b :: rwV r t := rfl
            rw [e, show (j + 1) * 2 = j * 2 + 2 by omega]
            exact this
    have h2 := hat (M.loose.map (·.1)) Ws j (by rw [List.length_map]; exact hj) v hv
    have hc : ∀ i u, (rwV (M.loose.map (·.1)) Ws)[i]? = some u → W.cell? ⟨g, i, none⟩ = some u := fun i u hu => by
      have := h.loose.cells (g := g) (by rw [e1]; rfl) i u hu
      rwa [Addr.add_mid, Nat.zero_add] at this
    refine ⟨g, v, e1, by omega, ?_, hc _ _ h2.2, hro⟩
    have := hc _ _ h2.1
    simpa using this
/-- The rows that are to stand, while they are laid. -/
def Laying (wr W : World) (X : Nat → Prop) (g c N : Nat) (L : List ByteArray) : Prop := ∃ Vs, wr.ownsRow W.heap.size 33 1 (.slice (some ⟨g, 0, none⟩) N c) N Vs ∧ (∀ i (h : i < L.length), ∃ v, Vs[i]? = some v ∧ RowOut wr X v L[i]) ∧ L.length = N
theorem Laying.set {wr W : World} {X : Nat → Prop} {g c N n : Nat} {L : List ByteArray} {v : Value} {row : ByteArray} (h : Laying wr W X g c N L) (hn : n < N) (hv : RowOut wr X v row) : Laying (wr.setCell ⟨g, n, none⟩ v) W X g c N (L.set n row) := by
  obtain ⟨Vs, ho, hr, hl⟩ := h
  have hro : ∀ {u : Value} {r : ByteArray}, RowOut wr X u r → RowOut (wr.setCell ⟨g, n, none⟩ v) X u r := fun hq => hq.keep fun b cur hf hh => ⟨set_other b (fun e => by
    obtain ⟨cur', hc⟩ := owns_type' ho (show (Value.slice (some (⟨g, 0, none⟩ : Addr)) N c).ownBlock = some g from rfl)
    rw [e] at hh
    exact absurd (obj_type' hh hc) (by decide)), hf⟩
  refine ⟨Vs.set n v, (World.ownsRow.stored ho n v).1, fun i hi => ?_, by rw [List.length_set, hl]⟩
  rw [List.length_set] at hi
  have hvl : Vs.length = N := by have := ho.1; omega
  by_cases e : i = n
  · subst e
    refine ⟨v, by rw [List.getElem?_set_self (by omega)], ?_⟩
    rw [List.getElem_set_self]
    exact hro hv
  · obtain ⟨u, hu, hq⟩ := hr i hi
    refine ⟨u, by rw [List.getElem?_set_ne (fun e' => e e'.symm)]; exact hu, ?_⟩
    rw [List.getElem_set_ne (fun e' => e e'.symm)]
    exact hro hq
theorem Laying.below {wr wr' W : World} {X : Nat → Prop} {g c N : Nat} {L : List ByteArray} (h : Laying wr W X g c N L) (hb : Below wr.heap.size wr wr') : Laying wr' W X g c N L := by
  obtain ⟨Vs, ho, hr, hl⟩ := h
  exact ⟨Vs, owns_block ho (fun k hk => hb.block k (ho.lt k hk).2), fun i hi => by
    obtain ⟨u, hu, hq⟩ := hr i hi
    exact ⟨u, hu, hq.keep fun b cur hf hh => ⟨hb.block b (block_lt hh), hf⟩⟩, hl⟩
/-- The end: what was laid stands, nothing is loose. -/
theorem RAt.done {W wr W' : World} {X : Nat → Prop} {R N g c : Nat} {M M' : DM} {s q : Option Addr} {cS cL : Nat} {Vs Ws : List Value} {L : List ByteArray} (h : RAt W X R N M s q cS cL Vs Ws) (hX : X R) (hl : Laying wr W X g c N L) (hb : Below W.heap.size W wr)
    (hok : M'.Ok N) (hs : M'.safe = L) (hlo : M'.loose = []) (ho : ∀ k, k ≠ R → W'.heap[k]? = wr.heap[k]?) (hz : W'.heap.size = wr.heap.size)
    (hbk : W'.heap[R]? = some (.cells #[.slice (some ⟨g, 0, none⟩) N c, .slice none 0 0, .int .i64 (M'.steps : Int), .int .i64 (fuseZ M'.fuse), .bool M'.down] 31 (0, 0))) : RDrum W' X R N M' := by
  obtain ⟨Vs', ho', hr', hl'⟩ := hl
  have hg : ∀ k, (Value.slice (some (⟨g, 0, none⟩ : Addr)) N c).ownBlock = some k → W.heap.size ≤ k := fun k hk => (ho'.lt k hk).1
  have hR := block_lt h.blk
  have ho0 : wr.ownsRow 0 33 1 (.slice (some ⟨g, 0, none⟩) N c) N Vs' := by
    rcases ho'.2 with ⟨e1, e2⟩ | ⟨g', c', cur, e, _, hh, hr⟩
    · exact ⟨ho'.1, .inl ⟨e1, e2⟩⟩
    · exact ⟨ho'.1, .inr ⟨g', c', cur, e, Nat.zero_le _, hh, hr⟩⟩
  refine ⟨some ⟨g, 0, none⟩, none, c, 0, Vs', [], ⟨by rw [hlo]; exact hbk, hok, owns_block ho0 (fun k hk => ho k (fun e => by have := hg k hk; omega)), ?_, by rw [hlo]; exact World.ownsRow_nil _ _ _ _, by rw [hlo]; rfl, (by rw [hlo]; intro i hi; simp at hi), fun k hk hx => ?_, (by rw [hlo]; intro k hk; cases hk), fun k hx => ?_, h.big⟩⟩
  · rw [hs]
    intro i hi
    obtain ⟨u, hu, hq⟩ := hr' i hi
    exact ⟨u, hu, hq.keep fun b cur hf hh => ⟨ho b (fun e => hf (e ▸ hX)), hf⟩⟩
  · have := hg k hk
    have := h.lt k hx
    omega
  · have := h.lt k hx
    rw [hz]
    have := hb.size
    omega
def LayRel (W : World) (X : Nat → Prop) (g c N : Nat) (K : Nat → List ByteArray) (m : Nat) (v : Value) (wr : World) : Prop :=
  ∃ j : Nat, v = .int .i64 (j : Int) ∧ j ≤ m ∧ Hid (Laying wr W X g c N (K j) ∧ Below W.heap.size W wr)
set_option maxRecDepth 100000 in
set_option maxHeartbeats 8000000 in
theorem rstand_all (W : World) (X : Nat → Prop) (R N : Nat) (M : DM) (h : RDrum W X R N M) (hX : X R) (ht : Tame M) :
    Calls Try.prog 58 #[.pointer (some ⟨R, 0, none⟩), .slice none 0 0, .bool true] W fun e W' => e = .returned (.tuple #[]) ∧ RDrum W' X R N { M with safe := M.now, loose := [] } ∧ Touch (Only R) W W' := by
  obtain ⟨s, q, cS, cL, Vs, Ws, hd⟩ := h
  obtain ⟨iR, hiR, hzR, hsR, hbR⟩ := info_parts infoRow
  have hR := block_lt hd.blk
  have c0 := hd.cells.1
  have c1 := hd.cells.2.1
  have hsn : s = none → cS = 0 := fun e => by
    rcases hd.safe.2 with ⟨e1, _⟩ | ⟨g', c', cur, e1, _⟩
    · injection e1
    · rw [e] at e1; cases e1
  obtain ⟨g1, cap1, w2, hr1, ho1, hg1, hb1, hz1⟩ := copy_first 28 33 iR _ 1 24 Try.underlying28 hiR hzR hsR hbR rfl (by decide) hd.safe hsn hd.vone.1 (by have := hd.big.1; omega) (by have := hd.big.1; omega)
  have hlay : Laying w2 W X g1 cap1 N M.safe := ⟨Vs, ho1, fun i hi => by
    obtain ⟨u, hu, hq⟩ := hd.rows i hi
    exact ⟨u, hu, hq.keep fun b cur hf hh => ⟨hb1.block b (block_lt hh), hf⟩⟩, hd.ok.len⟩
  have hnc : N ≤ cap1 := by
    rcases ho1.2 with ⟨e, _⟩ | ⟨b, c', cur, e, _, _, hle, _⟩
    · cases e
    · injection e with _ _ e3
      omega
  have hR2 := (hb1.block R hR).trans hd.blk
  have d1 : w2.cell? ⟨R, 1, none⟩ = some (.slice q M.loose.length cL) := by rw [cell_of_row _ _ _ _ _ _ hR2]; rfl
  obtain ⟨L, hL⟩ : ∃ L, M.loose.length = L := ⟨_, rfl⟩
  have hLb : L ≤ 1099511627776 := by rw [← hL]; exact ht.loose
  rw [hL] at c1 d1
  have HR1 := Lib.hid hr1
  have HD := Lib.hid hd
  have HY := Lib.hid (And.intro hlay (And.intro hb1 hX))
  have HL := Lib.hid (And.intro hL hLb)
  have hLi : (L : Int) ≤ 1099511627776 := by omega
  have hN1 : (N : Int) ≤ 16384 := by have := hd.big.1; omega
  have hNc : (N : Int) ≤ (cap1 : Int) := by omega
  clear hsn ho1 hg1 hb1 hz1 hlay hR2 hL hLb hd hr1 ht hX hiR hzR hsR hbR hnc
  go_enter Try.func58, Try.ntmps58
  go_wp2_with (at_builtin; refine wpList_append_eq rfl _ _ _ rfl _ _ _ _ rfl rfl HR1.out ?_)
  go_loopw [20] (fun v wr => LayRel W X g1 cap1 N (fun j => layM M.safe (M.loose.take j)) L v wr) (fun v _ => L - (intOf v).toNat)
  case atStart => exact ⟨0, rfl, Nat.zero_le _, Lib.hid ⟨HY.out.1, HY.out.2.1⟩⟩
  case round =>
    obtain ⟨j, rfl, hj, HR⟩ := hrel
    by_cases hlt : j < L
    · have hHJ := Lib.hid hlt
      obtain ⟨gl, v, eq, hlc, e0, e1, hro⟩ := HD.out.write (j := j) (by rw [HL.out.1]; exact hlt)
      obtain ⟨gv, cv, rfl⟩ : ∃ gv cv, v = .slice (some ⟨gv, 0, none⟩) 64 cv := by
        obtain ⟨g', c', _, e', _⟩ := hro
        exact ⟨g', c', e'⟩
      obtain ⟨hn, hp⟩ := HD.out.ok.at_ (M.loose[j]'(by rw [HL.out.1]; exact hlt)) (List.getElem_mem _)
      obtain ⟨x, hx⟩ : ∃ x, M.loose[j]'(by rw [HL.out.1]; exact hlt) = x := ⟨_, rfl⟩
      rw [hx] at e0 hro hn
      have e0' := hb_cell HR.out.2 e0
      have e1' := hb_cell HR.out.2 e1
      obtain ⟨n, hn'⟩ : ∃ n, x.1 = n := ⟨_, rfl⟩
      rw [hn'] at e0' hn
      have hlt' : (j : Int) < (L : Int) := by omega
      have hn1 : (n : Int) < (N : Int) := by omega
      have hn0 : (0 : Int) ≤ (n : Int) := by omega
      have hrow : RowOut wr X (.slice (some ⟨gv, 0, none⟩) 64 cv) x.2 := hro.keep fun b cur hf hh => ⟨HR.out.2.block b (block_lt hh), hf⟩
      have hlay := (HR.out.1.set hn hrow).below ((Below.refl _ _).alloc (Nat.le_refl _) (.cells #[.int .i64 (n : Int), .slice (some ⟨gv, 0, none⟩) 64 cv] 107))
      obtain ⟨u, d2⟩ : ∃ u, (wr.alloc (.cells #[.int .i64 (n : Int), .slice (some ⟨gv, 0, none⟩) 64 cv] 107)).cell? ⟨g1, n, none⟩ = some u := by
        obtain ⟨Vs', ho', _, _⟩ := HR.out.1.below ((Below.refl _ _).alloc (Nat.le_refl _) (.cells #[.int .i64 (n : Int), .slice (some ⟨gv, 0, none⟩) 64 cv] 107))
        have hvl : Vs'.length = N := by have := ho'.1; omega
        exact ⟨Vs'[n]'(by omega), by rw [World.ownsRow.cellAt ho' n (by omega), List.getElem?_eq_getElem]⟩
      have f2 : (wr.alloc (.cells #[.int .i64 (n : Int), .slice (some ⟨gv, 0, none⟩) 64 cv] 107)).frozen? ⟨g1, n, none⟩ = false := by
        obtain ⟨Vs', ho', _, _⟩ := HR.out.1.below ((Below.refl _ _).alloc (Nat.le_refl _) (.cells #[.int .i64 (n : Int), .slice (some ⟨gv, 0, none⟩) 64 cv] 107))
        exact World.ownsRow.frozenAt ho' n
      have hg1 : W.heap.size ≤ g1 := by
        obtain ⟨Vs', ho', _, _⟩ := HR.out.1
        exact (ho'.lt g1 rfl).1
      have HQ := Lib.hid (And.intro hlay (And.intro hx (And.intro hn' hg1)))
      have hgw : g1 < wr.heap.size := by
        obtain ⟨Vs', ho', _, _⟩ := HR.out.1
        exact (ho'.lt g1 rfl).2
      subst eq
      clear e0 e1 hro hp hx hn' hn hrow hlay hlc hg1
      go_wp2_with (fail)
      go_round
      case rel =>
        refine ⟨j + 1, by go_num, by have := hHJ.out; omega, Lib.hid ⟨?_, (HR.out.2.setCell (p := ⟨g1, n, none⟩) HQ.out.2.2.2 _).alloc (by rw [set_size]; exact HR.out.2.size) _⟩⟩
        show Laying _ W X g1 cap1 N (layM M.safe (M.loose.take (j + 1)))
        rw [take_snoc' M.loose j (by rw [HL.out.1]; exact hHJ.out), HQ.out.2.1]
        have := HQ.out.1
        rw [← HQ.out.2.2.1] at this
        have e3 : layM M.safe (M.loose.take j ++ [x]) = (layM M.safe (M.loose.take j)).set x.1 x.2 := layM_snoc _ _ _ _
        rw [e3]
        first | exact this | (rw [← HQ.out.2.2.1]; exact this)
      case measure => have := hHJ.out; simp [intOf]; omega
    · obtain rfl : j = L := by omega
      have hRw := (HR.out.2.block R hR).trans HD.out.blk
      obtain ⟨u0, d0⟩ : ∃ u, wr.cell? ⟨R, 0, none⟩ = some u := ⟨_, by rw [cell_of_row _ _ _ _ _ _ hRw]; rfl⟩
      obtain ⟨u1, d1'⟩ : ∃ u, wr.cell? ⟨R, 1, none⟩ = some u := ⟨_, by rw [cell_of_row _ _ _ _ _ _ hRw]; rfl⟩
      have f0 : wr.frozen? ⟨R, 0, none⟩ = false := frozen_of_row _ _ _ _ _ hRw
      have f1 : wr.frozen? ⟨R, 1, none⟩ = false := frozen_of_row _ _ _ _ _ hRw
      have HRW := Lib.hid hRw
      clear hRw
      go_wp2_with (fail)
      go_end0
      have hl := HR.out.1
      rw [List.take_of_length_le (by rw [HL.out.1]; exact Nat.le_refl _)] at hl
      refine ⟨rfl, HD.out.done HY.out.2.2 hl HR.out.2 ⟨by show M.now.length = N; exact HD.out.ok.nowLen, HD.out.ok.nowRow, fun x hx => by cases hx⟩ rfl rfl (fun k hk => (set_other k hk).trans (set_other k hk)) (set_size.trans set_size) ?_, (((Touch.of_below HR.out.2).set1 _).set1 _)⟩
      exact u_row (k := 1) (.slice none 0 0) (u_row (k := 0) (.slice (some ⟨g1, 0, none⟩) N cap1) HRW.out)
end Go.Proofs.Ytlkffignbjpfcaa
