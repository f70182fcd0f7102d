/- Proved here: how the document's drum lies in memory, and that it stays where other blocks change; its step. -/
import Derived.Test.YtlkffignbjpfcaaDStKit
import Derived.Deep.AppendLies
namespace Go.Proofs.Ytlkffignbjpfcaa
open Go.RowKit

theorem owns_type' {W : World} {B : Nat} {e : TypeId} {size : Nat} {v : Value} {n k : Nat} {xs : List Value} (h : W.ownsRow B e size v n xs) (hk : v.ownBlock = some k) : ∃ cur, W.heap[k]? = some (.cells cur e (0, 0)) := by
  rcases h.2 with ⟨e1, _⟩ | ⟨g, cap, cur, e1, _, hh, _⟩
  · rw [e1] at hk; cases hk
  · rw [e1] at hk
    injection hk with hk
    subst hk
    exact ⟨cur, hh⟩
/-- The document's Writes as they lie in memory. -/
def rwV (ns : List Nat) (vs : List Value) : List Value := (ns.zip vs).flatMap fun x => [Value.int .i64 (x.1 : Int), x.2]
def fuseZ (f : Option Nat) : Int := match f with
  | none => -1
  | some k => (k : Int)
/-- The document's drum: its block R, all else out of X. -/
structure RAt (W : World) (X : Nat → Prop) (R N : Nat) (M : DM) (s q : Option Addr) (cS cL : Nat) (Vs Ws : List Value) : Prop where
  blk : W.heap[R]? = some (.cells #[.slice s N cS, .slice q M.loose.length cL, .int .i64 (M.steps : Int), .int .i64 (fuseZ M.fuse), .bool M.down] 31 (0, 0))
  ok : M.Ok N
  safe : W.ownsRow 0 33 1 (.slice s N cS) N Vs
  rows : ∀ i (h : i < M.safe.length), ∃ v, Vs[i]? = some v ∧ RowOut W X v M.safe[i]
  loose : W.ownsRow 0 107 2 (.slice q M.loose.length cL) M.loose.length (rwV (M.loose.map (·.1)) Ws)
  wlen : Ws.length = M.loose.length
  wrows : ∀ i (h : i < M.loose.length), ∃ v, Ws[i]? = some v ∧ RowOut W X v M.loose[i].2
  fs : ∀ k, (Value.slice s N cS).ownBlock = some k → ¬ X k
  fq : ∀ k, (Value.slice q M.loose.length cL).ownBlock = some k → ¬ X k
  lt : ∀ k, X k → k < W.heap.size
  big : N ≤ 16384 ∧ 0 < N
def RDrum (W : World) (X : Nat → Prop) (R N : Nat) (M : DM) : Prop := ∃ s q cS cL Vs Ws, RAt W X R N M s q cS cL Vs Ws
theorem RDrum.touch {W W' : World} {X X' Y : Nat → Prop} {R N : Nat} {M : DM} (h : RDrum W X R N M) (ht : Touch Y W W') (hY : ∀ k, Y k → X k) (hR : W'.heap[R]? = W.heap[R]?) (hg : ∀ k, X' k → Grow X W W' k) (hlt : ∀ k, X' k → k < W'.heap.size) : RDrum W' X' R N M := by
  obtain ⟨s, q, cS, cL, Vs, Ws, h⟩ := h
  have hb : ∀ k, k < W.heap.size → ¬ X k → W'.heap[k]? = W.heap[k]? := fun k hk hx => ht.block k hk (fun hy => hx (hY k hy))
  have hn : ∀ k, k < W.heap.size → ¬ X k → ¬ X' k := fun k hk hx hx' => by
    rcases hg k hx' with h1 | h1
    · exact hx h1
    · omega
  have hro : ∀ {v : Value} {row : ByteArray}, RowOut W X v row → RowOut W' X' v row := fun hr => hr.keep fun g cur hf hh => ⟨hb g (block_lt hh) hf, hn g (block_lt hh) hf⟩
  refine ⟨s, q, cS, cL, Vs, Ws, ⟨hR.trans h.blk, h.ok, owns_block h.safe (fun k hk => hb k (h.safe.lt k hk).2 (h.fs k hk)), fun i hi => ?_, owns_block h.loose (fun k hk => hb k (h.loose.lt k hk).2 (h.fq k hk)), h.wlen, fun i hi => ?_, fun k hk => hn k (h.safe.lt k hk).2 (h.fs k hk), fun k hk => hn k (h.loose.lt k hk).2 (h.fq k hk), hlt, h.big⟩⟩
  · obtain ⟨v, hv, hr⟩ := h.rows i hi
    exact ⟨v, hv, hro hr⟩
  · obtain ⟨v, hv, hr⟩ := h.wrows i hi
    exact ⟨v, hv, hro hr⟩
/-- The same, its own block changed. -/
theorem RAt.after {W W' : World} {X : Nat → Prop} {R N : Nat} {M M' : DM} {s q : Option Addr} {cS cL : Nat} {Vs Ws : List Value} (h : RAt W X R N M s q cS cL Vs Ws) (hX : X R) (hs : M'.safe = M.safe) (hl : M'.loose = M.loose)
    (ho : ∀ k, k ≠ R → W'.heap[k]? = W.heap[k]?) (hz : W'.heap.size = W.heap.size)
    (hb : W'.heap[R]? = some (.cells #[.slice s N cS, .slice q M.loose.length cL, .int .i64 (M'.steps : Int), .int .i64 (fuseZ M'.fuse), .bool M'.down] 31 (0, 0))) : RAt W' X R N M' s q cS cL Vs Ws := by
  have hro : ∀ {v : Value} {row : ByteArray}, RowOut W X v row → RowOut W' X v row := fun hr => hr.keep fun g cur hf hh => ⟨ho g (fun e => hf (e ▸ hX)), hf⟩
  refine ⟨by rw [hl]; exact hb, ⟨by rw [hs]; exact h.ok.len, by rw [hs]; exact h.ok.row, by rw [hl]; exact h.ok.at_⟩, owns_block h.safe (fun k hk => ho k (fun e => h.fs k hk (e ▸ hX))), ?_, ?_, by rw [hl]; exact h.wlen, ?_, h.fs, by rw [hl]; exact h.fq, by rw [hz]; exact h.lt, h.big⟩
  · rw [hs]
    intro i hi
    obtain ⟨v, hv, hr⟩ := h.rows i hi
    exact ⟨v, hv, hro hr⟩
  · rw [hl]
    exact owns_block h.loose (fun k hk => ho k (fun e => h.fq k hk (e ▸ hX)))
  · rw [hl]
    intro i hi
    obtain ⟨v, hv, hr⟩ := h.wrows i hi
    exact ⟨v, hv, hro hr⟩
theorem RAt.cells {W : World} {X : Nat → Prop} {R N : Nat} {M : DM} {s q : Option Addr} {cS cL : Nat} {Vs Ws : List Value} (h : RAt W X R N M s q cS cL Vs Ws) :
    W.cell? ⟨R, 0, none⟩ = some (.slice s N cS) ∧ W.cell? ⟨R, 1, none⟩ = some (.slice q M.loose.length cL) ∧ W.cell? ⟨R, 2, none⟩ = some (.int .i64 (M.steps : Int)) ∧ W.cell? ⟨R, 3, none⟩ = some (.int .i64 (fuseZ M.fuse)) ∧ W.cell? ⟨R, 4, none⟩ = some (.bool M.down) ∧ ∀ j, W.frozen? ⟨R, j, none⟩ = false := by
  have hb := h.blk
  refine ⟨?_, ?_, ?_, ?_, ?_, fun j => frozen_of_row _ _ _ _ _ hb⟩ <;> (rw [cell_of_row _ _ _ _ _ _ hb]; rfl)
set_option maxHeartbeats 4000000 in
theorem rstep_ok (W : World) (X : Nat → Prop) (R N : Nat) (M : DM) (h : RDrum W X R N M) (hX : X R) (ht : Tame M) (hoff : M.off = false) :
    Calls Try.prog 56 #[.pointer (some ⟨R, 0, none⟩)] W fun e W' => e = .returned (.bool true) ∧ RDrum W' X R N M.step ∧ Touch (Only R) W W' ∧ W'.heap.size = W.heap.size := by
  obtain ⟨s, q, cS, cL, Vs, Ws, hd⟩ := h
  obtain ⟨_, _, c2, c3, c4, fr⟩ := hd.cells
  have f2 := fr 2
  have f3 := fr 3
  have f4 := fr 4
  have HD := Lib.hid hd
  have hst' : (M.steps : Int) ≤ 4611686018427387904 := by have := ht.steps; omega
  have hdn : M.down = false := by
    cases hq : M.down
    · rfl
    · unfold DM.off at hoff; rw [hq] at hoff; cases hoff
  rw [hdn] at c4
  have HX := Lib.hid hX
  rcases hf : M.fuse with _ | k
  · have e : M.step = { M with steps := M.steps + 1, fuse := none } := by simp [DM.step, hoff, hf]
    have E := Lib.hid (And.intro e (And.intro hf hdn))
    rw [hf] at c3
    have c3' : W.cell? ⟨R, 3, none⟩ = some (.int .i64 (-1)) := c3
    clear e hd fr hf hdn c3 ht hX hoff
    go_enter Try.func56, Try.ntmps56
    go_wp2_with (fail)
    go_ret
    refine ⟨rfl, ?_, ((Touch.refl _ _).set1 _), set_size⟩
    rw [E.out.1]
    refine ⟨s, q, cS, cL, Vs, Ws, HD.out.after HX.out rfl rfl set_other set_size ?_⟩
    have hb := HD.out.blk
    rw [E.out.2.1, E.out.2.2] at hb
    have hu := u_row (k := 2) (.int .i64 ((M.steps : Int) + 1)) hb
    rw [hu]
    simp [E.out.2.2]
  · have hk0 : k ≠ 0 := fun e => by
      unfold DM.off at hoff; rw [hf, e] at hoff; simp at hoff
    have hkf : k ≤ 9223372036854775807 := by have := ht.fuse; rw [hf, Option.getD_some] at this; exact this
    have e : M.step = { M with steps := M.steps + 1, fuse := some (k - 1) } := by simp [DM.step, hoff, hf]
    have E := Lib.hid (And.intro e (And.intro hf hdn))
    rw [hf] at c3
    have c3' : W.cell? ⟨R, 3, none⟩ = some (.int .i64 (k : Int)) := c3
    have t0 : ((k : Int) == 0) = false := by rw [beq_eq_false_iff_ne]; omega
    have t1 : (0 : Int) < (k : Int) := by omega
    have t2 : (k : Int) ≤ 9223372036854775807 := by omega
    have HK := Lib.hid hk0
    clear e hd fr hf hdn c3 ht hX hoff hk0 hkf
    go_enter Try.func56, Try.ntmps56
    go_wp2_with (fail)
    go_ret
    refine ⟨rfl, ?_, (((Touch.refl _ _).set1 _).set1 _), set_size.trans set_size⟩
    rw [E.out.1]
    refine ⟨s, q, cS, cL, Vs, Ws, HD.out.after HX.out rfl rfl (fun k hk => (set_other k hk).trans (set_other k hk)) (set_size.trans set_size) ?_⟩
    have hb := HD.out.blk
    rw [E.out.2.1, E.out.2.2] at hb
    have hu := u_row (k := 3) (.int .i64 ((k : Int) - 1)) (u_row (k := 2) (.int .i64 ((M.steps : Int) + 1)) hb)
    have ek : ((k : Int) - 1) = ((k - 1 : Nat) : Int) := by have := HK.out; omega
    rw [hu]
    simp [E.out.2.2, fuseZ, ek]
set_option maxHeartbeats 4000000 in
theorem rstep_off (W : World) (X : Nat → Prop) (R N : Nat) (M : DM) (h : RDrum W X R N M) (hX : X R) (hoff : M.off = true) :
    Calls Try.prog 56 #[.pointer (some ⟨R, 0, none⟩)] W fun e W' => e = .returned (.bool false) ∧ RDrum W' X R N M.step ∧ Touch (Only R) W W' ∧ W'.heap.size = W.heap.size := by
  obtain ⟨s, q, cS, cL, Vs, Ws, hd⟩ := h
  obtain ⟨_, _, c2, c3, c4, fr⟩ := hd.cells
  have f4 := fr 4
  have HD := Lib.hid hd
  have HX := Lib.hid hX
  have E := Lib.hid (M.step_no hoff)
  by_cases hf : M.fuse = some 0
  · rw [hf] at c3
    have c3' : W.cell? ⟨R, 3, none⟩ = some (.int .i64 0) := c3
    clear hd fr hf c3 hX hoff
    generalize M.down = dn at c4
    go_enter Try.func56, Try.ntmps56
    go_wp2_with (fail)
    go_ret
    refine ⟨rfl, ?_, ((Touch.refl _ _).set1 _), set_size⟩
    rw [E.out]
    refine ⟨s, q, cS, cL, Vs, Ws, HD.out.after HX.out rfl rfl set_other set_size ?_⟩
    exact u_row (k := 4) (.bool true) HD.out.blk
  · have hdn : M.down = true := by
      unfold DM.off at hoff
      cases hq : M.down
      · rw [hq, Bool.false_or, beq_iff_eq] at hoff
        exact absurd hoff hf
      · rfl
    have t0 : (fuseZ M.fuse == 0) = false := by
      rw [beq_eq_false_iff_ne]
      intro e
      apply hf
      rcases hq : M.fuse with _ | k
      · rw [hq] at e; cases e
      · rw [hq] at e
        have : k = 0 := by unfold fuseZ at e; simp at e; omega
        rw [this]
    generalize fuseZ M.fuse = z at c3 t0
    rw [hdn] at c4
    have HDN := Lib.hid hdn
    clear hd fr hf hX hoff hdn
    go_enter Try.func56, Try.ntmps56
    go_wp2_with (fail)
    go_ret
    refine ⟨rfl, ?_, Touch.refl _ _, rfl⟩
    rw [E.out]
    refine ⟨s, q, cS, cL, Vs, Ws, HD.out.after HX.out rfl rfl (fun _ _ => rfl) rfl ?_⟩
    have hb := HD.out.blk
    rw [HDN.out] at hb
    exact hb
end Go.Proofs.Ytlkffignbjpfcaa
