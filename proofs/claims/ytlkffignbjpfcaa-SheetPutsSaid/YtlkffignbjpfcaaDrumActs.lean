/- Proved here: a drum's calls, said of one that was made since a world: what is told, and what it is then. -/
import Derived.Test.YtlkffignbjpfcaaDrumDW
import Derived.Test.YtlkffignbjpfcaaByteTwin
namespace Go.Proofs.Ytlkffignbjpfcaa
open Go.RowKit

/-- Small numbers. -/
structure Tame (M : DM) : Prop where
  steps : M.steps ≤ 4611686018427387904
  fuse : M.fuse.getD 0 ≤ 9223372036854775807
  loose : M.loose.length ≤ 1099511627776
theorem dread_ok {w W : World} {F : Nat → Prop} {G N : Nat} {M : DM} (h : DW w W F G N M) (ht : Tame M) (hoff : M.off = false) (n : Nat) (hn : n < N) :
    Calls Try.prog 22 #[.pointer (some ⟨G, 0, none⟩), .int .i64 (n : Int)] W fun e W' => ∃ g, e = .returned (.tuple #[.slice (some ⟨g, 0, none⟩) 64 64, .int .i64 0]) ∧ DW w W' F G N M.step ∧ Owns W' W.heap.size g 64 (M.now.getD n ⟨#[]⟩) ∧ (M.now.getD n ⟨#[]⟩).size = 64 ∧ ¬ F g ∧ Touch (Only G) W W' :=
  (read_ok W F G N M h.drum ht.steps ht.fuse hoff n hn).mono fun _ _ ⟨g, h1, h2, h3, h4, h5, h6⟩ => ⟨g, h1, h.only h4 h5, h2, h3, h6, h5⟩
theorem dread_off {w W : World} {F : Nat → Prop} {G N : Nat} {M : DM} (h : DW w W F G N M) (ht : Tame M) (hoff : M.off = true) (n : Nat) (hn : n < N) :
    Calls Try.prog 22 #[.pointer (some ⟨G, 0, none⟩), .int .i64 (n : Int)] W fun e W' => e = .returned (.tuple #[.slice none 0 0, .int .i64 9]) ∧ DW w W' F G N M.step ∧ Touch (Only G) W W' :=
  (read_off W F G N M h.drum ht.steps ht.fuse hoff n hn).mono fun _ _ ⟨h1, h4, h5⟩ => ⟨h1, h.only h4 h5, h5⟩
theorem dwrite_ok {w W : World} {F : Nat → Prop} {G N : Nat} {M : DM} (h : DW w W F G N M) (ht : Tame M) (hoff : M.off = false) (n : Nat) (hn : n < N) (g : Nat) (s : ByteArray) (cap : Nat) (hp : HoldsB W (some ⟨g, 0, none⟩) s) (hs : s.size ≤ 64) (hsep : ¬ F g) :
    Calls Try.prog 23 #[.pointer (some ⟨G, 0, none⟩), .int .i64 (n : Int), .slice (some ⟨g, 0, none⟩) s.size cap] W fun e W' => e = .returned (.int .i64 0) ∧ ∃ F', DW w W' F' G N (M.write n s) ∧ Touch F W W' ∧ ∀ k, F' k → Grow F W W' k :=
  (write_ok W F G N M h.drum ht.steps ht.fuse hoff n hn _ s cap hp hs (fun a e => by injection e with e; rw [← e]; exact hsep) (by have := ht.loose; omega)).mono fun _ _ ⟨h1, F', h2, h3, h4⟩ => ⟨h1, F', h.next h2 h3 h4, h3, h4⟩
theorem dwrite_off {w W : World} {F : Nat → Prop} {G N : Nat} {M : DM} (h : DW w W F G N M) (ht : Tame M) (hoff : M.off = true) (n : Nat) (hn : n < N) (p : Option Addr) (len cap : Nat) (hs : len ≤ 64) :
    Calls Try.prog 23 #[.pointer (some ⟨G, 0, none⟩), .int .i64 (n : Int), .slice p len cap] W fun e W' => e = .returned (.int .i64 9) ∧ DW w W' F G N M.step ∧ Touch (Only G) W W' :=
  (write_off W F G N M h.drum ht.steps ht.fuse hoff n hn p len cap hs).mono fun _ _ ⟨h1, h4, h5⟩ => ⟨h1, h.only h4 h5, h5⟩
theorem dflush_ok {w W : World} {F : Nat → Prop} {G N : Nat} {M : DM} (h : DW w W F G N M) (ht : Tame M) (hoff : M.off = false) :
    Calls Try.prog 24 #[.pointer (some ⟨G, 0, none⟩)] W fun e W' => e = .returned (.int .i64 0) ∧ DW w W' F G N M.flush ∧ Touch F W W' :=
  (flush_ok W F G N M h.drum ht.steps ht.fuse hoff (by have := ht.loose; omega)).mono fun _ _ ⟨h1, h4, h5⟩ => ⟨h1, h.same h4 h5, h5⟩
theorem dflush_off {w W : World} {F : Nat → Prop} {G N : Nat} {M : DM} (h : DW w W F G N M) (ht : Tame M) (hoff : M.off = true) :
    Calls Try.prog 24 #[.pointer (some ⟨G, 0, none⟩)] W fun e W' => e = .returned (.int .i64 9) ∧ DW w W' F G N M.flush ∧ Touch F W W' :=
  (flush_off W F G N M h.drum ht.steps ht.fuse hoff).mono fun _ _ ⟨h1, h4, h5⟩ => ⟨h1, h.same h4 h5, h5⟩
theorem dfuse {w W : World} {F : Nat → Prop} {G N : Nat} {M : DM} (h : DW w W F G N M) (k : Nat) :
    Calls Try.prog 33 #[.pointer (some ⟨G, 0, none⟩), .int .i64 (k : Int)] W fun e W' => e = .returned (.int .i64 0) ∧ DW w W' F G N (M.fused k) ∧ Touch (Only G) W W' :=
  (fuse_ok W F G N M h.drum k).mono fun _ _ ⟨h1, h2, h3, _⟩ => ⟨h1, h.only h2 h3, h3⟩
theorem dcrash {w W : World} {F : Nat → Prop} {G N : Nat} {M : DM} (h : DW w W F G N M) (ht : Tame M) (p : Option Addr) (keep : List Bool) (cap : Nat) (hk : HoldsT W p keep) (hkl : keep.length ≤ 4611686018427387904) (hsep : ∀ a, p = some a → ¬ F a.block) :
    Calls Try.prog 25 #[.pointer (some ⟨G, 0, none⟩), .slice p keep.length cap] W fun e W' => e = .returned (.int .i64 0) ∧ DW w W' F G N (M.crash keep) ∧ Touch F W W' :=
  (crash_any W F G N M h.drum (by have := ht.loose; omega) p keep cap hk hkl hsep).mono fun _ _ ⟨h1, h4, h5⟩ => ⟨h1, h.same h4 h5, h5⟩
theorem DM.step_steps (M : DM) (h : M.off = false) : M.step.steps = M.steps + 1 := by unfold DM.step; rw [h]; rfl
theorem DM.step_fuse (M : DM) (h : M.off = false) : M.step.fuse = M.fuse.map (· - 1) := by unfold DM.step; rw [h]; rfl
theorem DM.step_down (M : DM) (h : M.off = false) : M.step.down = M.down := by unfold DM.step; rw [h]; rfl
theorem DM.step_no (M : DM) (h : M.off = true) : M.step = { M with down := true } := by unfold DM.step; rw [h]; rfl
theorem DM.write_yes (M : DM) (h : M.off = false) (n : Nat) (s : ByteArray) : M.write n s = { M.step with loose := M.loose ++ [(n, fullB s)] } := by unfold DM.write; rw [h]; rfl
theorem DM.flush_yes (M : DM) (h : M.off = false) : M.flush = { M.step with safe := M.now, loose := [] } := by unfold DM.flush; rw [h]; rfl
theorem DM.flush_no (M : DM) (h : M.off = true) : M.flush = M.step := by unfold DM.flush; rw [h]; rfl
end Go.Proofs.Ytlkffignbjpfcaa
