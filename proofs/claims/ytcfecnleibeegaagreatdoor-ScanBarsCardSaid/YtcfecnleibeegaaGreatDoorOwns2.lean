/- Proved here: what append of one byte, and make, do to rows of bytes that the call itself made. -/
import Derived.Test.YtcfecnleibeegaaGreatDoorOwns
import Derived.Laws.MakeOwn
namespace Go.Proofs.YtcfecnleibeegaaGreatDoor
open Go.RowKit

/-- 'append(v, x)' of one byte. -/
theorem append_one {w0 w : World} {g cap : Nat} {o : ByteArray} (x : UInt8) (h : Owns w w0.heap.size g cap o) (hb : Below w0.heap.size w0 w) (hsz : o.size + 1 ≤ 140737488355328) :
    ∃ g' cap' w', (∀ ty, (Builtin.append_ #[22, 22] ty #[.slice (some ⟨g, 0, none⟩) o.size cap, .slice (some ⟨w.heap.size, 0, none⟩) 1 1]).run Tryz.prog (w.alloc (.cells #[.int .u8 (x.toNat : Int)] 5)) = .ok (.slice (some ⟨g', 0, none⟩) (o.size + 1) cap') w') ∧
      Owns w' w0.heap.size g' cap' (o ++ ⟨#[x]⟩) ∧ Below w0.heap.size w0 w' := by
  have hb1 : Below w.heap.size w (w.alloc (.cells #[.int .u8 (x.toNat : Int)] 5)) := (Below.refl _ _).alloc (Nat.le_refl _) _
  have hh : (w.alloc (.cells #[.int .u8 (x.toNat : Int)] 5)).heap[w.heap.size]? = some (.cells #[.int .u8 (x.toNat : Int)] 5) := by
    show (w.heap.push _)[w.heap.size]? = _
    simp
  have hp : HoldsB (w.alloc (.cells #[.int .u8 (x.toNat : Int)] 5)) (some ⟨w.heap.size, 0, none⟩) ⟨#[x]⟩ := fun _ => ⟨_, _, rfl, fun j hj => by
    have hj0 : j = 0 := by
      have : j < 1 := hj
      omega
    subst hj0
    rw [Nat.zero_add, cell_of_row _ _ _ _ _ _ hh]
    rfl⟩
  have := append_next (t := ⟨#[x]⟩) (c := 1) (h.far hb1) (hb.trans (hb1.mono hb.size)) hp (fun e => by cases e) hsz
  exact this

theorem size_push (o : ByteArray) (x : UInt8) : (o ++ ⟨#[x]⟩).size = o.size + 1 := by
  rw [ByteArray.size_append]; rfl
theorem make_own (w : World) (n : Nat) (hn : n ≤ 281474976710656) : ∃ w1, (Instr.makeSlice 22 (.int .i64 0) (.int .i64 (n : Int))).run Tryz.prog w = .ok (.slice (some ⟨w.heap.size, 0, none⟩) 0 n) w1 ∧ Owns w1 w.heap.size w.heap.size n ⟨#[]⟩ ∧ Below w.heap.size w w1 := by
  obtain ⟨i0, hi, hz0, hz1, hz2⟩ := info_parts infoByte
  obtain ⟨w1, h1, h2, h3⟩ := run_make_own (P := Tryz.prog) w w.heap.size 22 5 i0 (.int .u8 0) 1 Tryz.underlying22 hi hz0 hz1 .i64 .i64 n (by rw [hz2]; omega) (by unfold maxLen; omega) (Nat.le_refl _)
  exact ⟨w1, h1, ⟨h2, Nat.le_refl _, (h2.lt w.heap.size rfl).2, Nat.zero_le _⟩, ⟨h3.os, h3.tape, h3.output, h3.size, fun k hk => h3.block k hk (by simp)⟩⟩
end Go.Proofs.YtcfecnleibeegaaGreatDoor
