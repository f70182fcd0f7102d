/- Proved here: bytes made a string are the string of these bytes. -/
import Derived.Test.YtpcdcndniibalaaDoorKit
import Derived.Test.YtpcdcndniibalaaDoorColonPlain
import Derived.Laws.BytesArg
import Derived.Laws.IdiomStrings
namespace Go.Proofs.YtpcdcndniibalaaDoor
open Go.RowKit

theorem conv_str {w : World} {p : Option Addr} {s : ByteArray} (h : HoldsB w p s) (c : Nat) (hz : p = none → s.size = 0) : (convert 48 9 (.slice p s.size c)).run Tryd.prog w = .ok (.string s) w := by
  cases p with
  | none =>
    have e : s = ⟨#[]⟩ := by
      apply ByteArray.ext
      exact Array.eq_empty_of_size_eq_zero (hz rfl)
    subst e
    exact run_convert_bytes_nil w 48 5 Tryd.underlying48 Tryd.underlying5 0 c 9 Tryd.underlying9
  | some a =>
    have hl : s.data.toList.length = s.size := by simp
    have hr := run_convert_bytes_back (P := Tryd.prog) w 48 9 5 a c s.data.toList Tryd.underlying48 Tryd.underlying5 Tryd.underlying9 (fun j hj => by
      obtain ⟨b, off, e, hc⟩ := h (by omega)
      obtain rfl := Option.some.inj e
      have ha : (⟨b, off, none⟩ : Addr).add j = ⟨b, off + j, none⟩ := by unfold Addr.add; split <;> simp_all
      rw [ha, hc j (by omega)]
      have h1 := get!_of s j (by omega)
      obtain ⟨h2, h3⟩ := List.getElem?_eq_some_iff.1 h1
      rw [← h3])
    rw [hl] at hr
    exact hr
theorem holds_none {w : World} {p : Option Addr} {s : ByteArray} (h : HoldsB w p s) : p = none → s.size = 0 := fun e => by
  rcases Nat.eq_zero_or_pos s.size with h0 | h0
  · exact h0
  · obtain ⟨_, _, e', _⟩ := h h0
    rw [e] at e'; cases e'
end Go.Proofs.YtpcdcndniibalaaDoor
