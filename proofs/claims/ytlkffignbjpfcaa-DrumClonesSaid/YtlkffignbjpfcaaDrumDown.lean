/- Proved here: what a drum's Down answers. -/
import Derived.Test.YtlkffignbjpfcaaDrumSmall
namespace Go.Proofs.Ytlkffignbjpfcaa
open Go.RowKit

theorem down_any (W : World) (F : Nat → Prop) (G N : Nat) (M : DM) (h : Drum W F G N M) :
    Calls Try.prog 36 #[.pointer (some ⟨G, 0, none⟩)] W fun e W' => e = .returned (.bool M.down) ∧ W = W' := by
  obtain ⟨gn, gs, cn, cs, q, c, hd⟩ := h
  have c0 := hd.cells.2.2.2.2.2.2.1
  clear hd
  generalize M.down = b at *
  go_enter Try.func36, Try.ntmps36
  go_wp2_with (fail)
  all_goals (go_ret; exact ⟨ret_bool (by first | rfl | simp), rfl⟩)
end Go.Proofs.Ytlkffignbjpfcaa
