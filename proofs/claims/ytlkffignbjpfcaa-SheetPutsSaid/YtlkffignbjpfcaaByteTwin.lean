/- Proved here: what the document's helper Twin answers: the bytes in new memory. -/
import Derived.Test.YtlkffignbjpfcaaByteSame
namespace Go.Proofs.Ytlkffignbjpfcaa
open Go.RowKit

def TwinPost (s : ByteArray) (w : World) (e : Ending) (w' : World) : Prop := ∃ g cap, e = .returned (.slice (some ⟨g, 0, none⟩) s.size cap) ∧ Owns w' w.heap.size g cap s ∧ Below w.heap.size w w'
set_option maxHeartbeats 1000000 in
theorem twin_any (p : Option Addr) (s : ByteArray) (c : Nat) (w : World) (hs : s.size ≤ 140737488355000) (hp : HoldsB w p s) (hnil : p = none → c = 0) :
    Calls Try.prog 30 #[.slice p s.size c] w (TwinPost s w) := by
  obtain ⟨g, k, w1, hr, ho, hb, _⟩ := append_first (c := c) hp hnil (by omega)
  have HR := Lib.hid hr
  have HO := Lib.hid (And.intro ho hb)
  clear hr ho hb hp
  go_enter Try.func30, Try.ntmps30
  go_wp2_with (at_builtin; refine wpList_append_eq rfl _ _ _ rfl _ _ _ _ rfl rfl HR.out ?_)
  go_ret
  exact ⟨g, k, rfl, HO.out.1, HO.out.2⟩
end Go.Proofs.Ytlkffignbjpfcaa
