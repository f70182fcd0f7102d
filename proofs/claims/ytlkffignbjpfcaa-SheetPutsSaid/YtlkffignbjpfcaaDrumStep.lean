/- Proved here: what a drum's small calls answer: step, has, Sectors, Loose, Steps, Down, Fuse. -/
import Derived.Test.YtlkffignbjpfcaaDrumKit
import Derived.BigGuardPart
namespace Go.Proofs.Ytlkffignbjpfcaa
open Go.RowKit

theorem u_row {w : World} {G k : Nat} {row : Array Value} {T : TypeId} (v : Value) (h : w.heap[G]? = some (.cells row T)) : (w.setCell ⟨G, k, none⟩ v).heap[G]? = some (.cells (row.setIfInBounds k v) T) := by
  show (w.heap.modify G _)[G]? = _
  rw [Array.getElem?_modify, if_pos rfl, h]
  rfl
/-- The same drum, its own block changed. -/
theorem DrumAt.after {W W' : World} {F : Nat → Prop} {G N : Nat} {M M' : DM} {gn gs cn cs : Nat} {q : Option Addr} {c : Nat} (h : DrumAt W F G N M gn gs cn cs q c) (hs : M'.safe = M.safe) (hl : M'.loose = M.loose)
    (ho : ∀ k, k ≠ G → W'.heap[k]? = W.heap[k]?) (hz : W'.heap.size = W.heap.size)
    (hb : W'.heap[G]? = some (.cells #[.slice (some ⟨gn, 0, none⟩) N cn, .slice (some ⟨gs, 0, none⟩) N cs, .slice q M.loose.length c, .int .i64 (M'.steps : Int), .bool M'.fuse.isSome, .int .i64 ((M'.fuse.getD 0 : Nat) : Int), .bool M'.down] 76)) :
    DrumAt W' F G N M' gn gs cn cs q c := by
  have hnow : M'.now = M.now := by unfold DM.now; rw [hs, hl]
  refine ⟨by rw [hl]; exact hb, ⟨by rw [hs]; exact h.ok.len, by rw [hs]; exact h.ok.row, by rw [hl]; exact h.ok.at_⟩, ?_, ?_, ?_, h.fG, h.fn, h.fs, by rw [hl]; exact h.fq, by rw [hz]; exact h.lt, by rw [hl]; exact h.apart, h.big, fun e => h.nil (by rw [← hl]; exact e)⟩
  · rw [hnow]; exact h.now.block (ho gn (fun e => h.apart.1 e.symm))
  · rw [hs]; exact h.safe.block (ho gs (fun e => h.apart.2.1 e.symm))
  · rw [hl]
    rcases h.loose.2 with ⟨e1, e2⟩ | ⟨g, cap, cur, e, hb', hh, hr⟩
    · exact ⟨h.loose.1, .inl ⟨e1, e2⟩⟩
    · refine ⟨h.loose.1, .inr ⟨g, cap, cur, e, hb', ?_, hr⟩⟩
      rw [ho g (fun e' => (h.apart.2.2.2 g (by rw [e]; rfl)).1 e')]
      exact hh
def Only (G : Nat) (k : Nat) : Prop := k = G
theorem DrumAt.cells {W : World} {F : Nat → Prop} {G N : Nat} {M : DM} {gn gs cn cs : Nat} {q : Option Addr} {c : Nat} (h : DrumAt W F G N M gn gs cn cs q c) :
    W.cell? ⟨G, 0, none⟩ = some (.slice (some ⟨gn, 0, none⟩) N cn) ∧ W.cell? ⟨G, 1, none⟩ = some (.slice (some ⟨gs, 0, none⟩) N cs) ∧ W.cell? ⟨G, 2, none⟩ = some (.slice q M.loose.length c) ∧
    W.cell? ⟨G, 3, none⟩ = some (.int .i64 (M.steps : Int)) ∧ W.cell? ⟨G, 4, none⟩ = some (.bool M.fuse.isSome) ∧ W.cell? ⟨G, 5, none⟩ = some (.int .i64 ((M.fuse.getD 0 : Nat) : Int)) ∧ W.cell? ⟨G, 6, none⟩ = some (.bool M.down) ∧
    ∀ j, W.frozen? ⟨G, j, none⟩ = false := by
  have hb := h.blk
  refine ⟨?_, ?_, ?_, ?_, ?_, ?_, ?_, fun j => frozen_of_row _ _ _ _ _ hb⟩ <;> (rw [cell_of_row _ _ _ _ _ _ hb]; rfl)
theorem Touch.set1 {G i : Nat} {a b : World} (h : Touch (Only G) a b) (v : Value) : Touch (Only G) a (b.setCell ⟨G, i, none⟩ v) := h.set (F := Only G) (p := ⟨G, i, none⟩) rfl v
def offE (b : Bool) : Int := if b then 9 else 0
/-- What a step leaves. -/
def StepPost (W : World) (F : Nat → Prop) (G N : Nat) (M : DM) (e : Ending) (W' : World) : Prop :=
  e = .returned (.int .i64 (offE M.off)) ∧ Drum W' F G N M.step ∧ Touch (Only G) W W' ∧ W'.heap.size = W.heap.size
theorem set_other {W : World} {G i : Nat} {v : Value} : ∀ k, k ≠ G → (W.setCell ⟨G, i, none⟩ v).heap[k]? = W.heap[k]? := fun k hk => Below.heap_setCell W _ v k hk
theorem set_size {W : World} {a : Addr} {v : Value} : (W.setCell a v).heap.size = W.heap.size := by
  show (W.heap.modify _ _).size = _
  simp
set_option maxHeartbeats 4000000 in
theorem step_any (W : World) (F : Nat → Prop) (G N : Nat) (M : DM) (h : Drum W F G N M) (hst : M.steps ≤ 4611686018427387904) (hfu : M.fuse.getD 0 ≤ 9223372036854775807) :
    Calls Try.prog 54 #[.pointer (some ⟨G, 0, none⟩)] W (StepPost W F G N M) := by
  obtain ⟨gn, gs, cn, cs, q, c, hd⟩ := h
  obtain ⟨_, _, _, c3, c4, c5, c6, fr⟩ := hd.cells
  have f3 := fr 3
  have f4 := fr 4
  have f5 := fr 5
  have f6 := fr 6
  have HD := Lib.hid hd
  have hst' : (M.steps : Int) ≤ 4611686018427387904 := by omega
  clear hd fr
  cases hd : M.down <;> rcases hf : M.fuse with _ | k
  · have e : M.step = { M with steps := M.steps + 1, fuse := none } := by simp [DM.step, DM.off, hd, hf]
    have eo : M.off = false := by simp [DM.off, hd, hf]
    have E := Lib.hid (And.intro e (And.intro eo (And.intro hd hf)))
    rw [hf] at c4 c5
    rw [hd] at c6
    clear e eo hd hf
    go_enter Try.func54, Try.ntmps54
    go_wp2_with (fail)
    go_ret
    refine ⟨by rw [E.out.2.1]; rfl, ?_, ((Touch.refl _ _).set1 _), set_size⟩
    rw [E.out.1]
    refine ⟨gn, gs, cn, cs, q, c, HD.out.after rfl rfl set_other set_size ?_⟩
    have hb := HD.out.blk
    rw [E.out.2.2.2] at hb
    have hu := u_row (k := 3) (.int .i64 ((M.steps : Int) + 1)) hb
    exact hu
  · rcases k with _ | k
    · have e : M.step = { M with down := true } := by simp [DM.step, DM.off, hd, hf]
      have eo : M.off = true := by simp [DM.off, hf]
      have E := Lib.hid (And.intro e (And.intro eo (And.intro hd hf)))
      rw [hf] at c4 c5
      rw [hd] at c6
      clear e eo hd hf
      go_enter Try.func54, Try.ntmps54
      go_wp2_with (fail)
      go_ret
      refine ⟨by rw [E.out.2.1]; rfl, ?_, ((Touch.refl _ _).set1 _), set_size⟩
      rw [E.out.1]
      refine ⟨gn, gs, cn, cs, q, c, HD.out.after rfl rfl set_other set_size ?_⟩
      exact u_row (k := 6) (.bool true) HD.out.blk
    · have e : M.step = { M with steps := M.steps + 1, fuse := some k } := by simp [DM.step, DM.off, hd, hf]
      have eo : M.off = false := by simp [DM.off, hd, hf]
      have E := Lib.hid (And.intro e (And.intro eo (And.intro hd hf)))
      have t0 : (((k + 1 : Nat) : Int) == 0) = false := by rw [beq_eq_false_iff_ne]; omega
      rw [hf] at c4 c5 hfu
      rw [hd] at c6
      have c5' : W.cell? ⟨G, 5, none⟩ = some (.int .i64 ((k + 1 : Nat) : Int)) := c5
      have hk : (((k + 1 : Nat) : Int)) ≤ 9223372036854775807 := by
        simp only [Option.getD_some] at hfu
        omega
      have hk0 : (0 : Int) ≤ ((k + 1 : Nat) : Int) := by omega
      generalize hK : ((k + 1 : Nat) : Int) = K at *
      have HK := Lib.hid hK
      clear e eo hd hf c5 hfu hK
      go_enter Try.func54, Try.ntmps54
      go_wp2_with (fail)
      go_ret
      refine ⟨by rw [E.out.2.1]; rfl, ?_, (((Touch.refl _ _).set1 _).set1 _), set_size.trans set_size⟩
      rw [E.out.1]
      refine ⟨gn, gs, cn, cs, q, c, HD.out.after rfl rfl (fun k hk => (set_other k hk).trans (set_other k hk)) (set_size.trans set_size) ?_⟩
      have hb := HD.out.blk
      rw [E.out.2.2.2] at hb
      have e1 : K - 1 = ((k : Nat) : Int) := by have := HK.out; omega
      rw [e1]
      have hu := u_row (k := 3) (.int .i64 ((M.steps : Int) + 1)) (u_row (k := 5) (.int .i64 (k : Int)) hb)
      exact hu
  · have e : M.step = { M with down := true } := by simp [DM.step, DM.off, hd]
    have eo : M.off = true := by simp [DM.off, hd]
    have E := Lib.hid (And.intro e (And.intro eo (And.intro hd hf)))
    rw [hf] at c4 c5
    rw [hd] at c6
    clear e eo hd hf
    go_enter Try.func54, Try.ntmps54
    go_wp2_with (fail)
    go_ret
    refine ⟨by rw [E.out.2.1]; rfl, ?_, Touch.refl _ _, rfl⟩
    rw [E.out.1]
    refine ⟨gn, gs, cn, cs, q, c, HD.out.after rfl rfl (fun _ _ => rfl) rfl ?_⟩
    have hb := HD.out.blk
    rw [E.out.2.2.1] at hb
    exact hb
  · have e : M.step = { M with down := true } := by simp [DM.step, DM.off, hd]
    have eo : M.off = true := by simp [DM.off, hd]
    have E := Lib.hid (And.intro e (And.intro eo (And.intro hd hf)))
    rw [hf] at c4 c5
    rw [hd] at c6
    rcases k with _ | k
    · clear e eo hd hf
      go_enter Try.func54, Try.ntmps54
      go_wp2_with (fail)
      go_ret
      refine ⟨by rw [E.out.2.1]; rfl, ?_, ((Touch.refl _ _).set1 _), set_size⟩
      rw [E.out.1]
      refine ⟨gn, gs, cn, cs, q, c, HD.out.after rfl rfl set_other set_size ?_⟩
      exact u_row (k := 6) (.bool true) HD.out.blk
    · have t0 : (((k + 1 : Nat) : Int) == 0) = false := by rw [beq_eq_false_iff_ne]; omega
      have c5' : W.cell? ⟨G, 5, none⟩ = some (.int .i64 ((k + 1 : Nat) : Int)) := c5
      generalize hK : ((k + 1 : Nat) : Int) = K at *
      clear e eo hd hf c5 hfu hK
      go_enter Try.func54, Try.ntmps54
      go_wp2_with (fail)
      go_ret
      refine ⟨by rw [E.out.2.1]; rfl, ?_, Touch.refl _ _, rfl⟩
      rw [E.out.1]
      refine ⟨gn, gs, cn, cs, q, c, HD.out.after rfl rfl (fun _ _ => rfl) rfl ?_⟩
      have hb := HD.out.blk
      rw [E.out.2.2.1] at hb
      exact hb
end Go.Proofs.Ytlkffignbjpfcaa
