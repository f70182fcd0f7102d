/- Proved here: the document's Text answers the text of every slice of bytes. -/
import Derived.Test.YteipiaefamfleaaGreatDoorM19
namespace Go.Proofs.YteipiaefamfleaaGreatDoor
open Go.RowKit

theorem pre3_yes {s : ByteArray} (h : Lib.hasPrefix s.data.toList [239, 187, 191] = true) : 3 ≤ s.size ∧ s.get! 0 = 239 ∧ s.get! 1 = 187 ∧ s.get! 2 = 191 := by
  obtain ⟨r, hr⟩ := List.isPrefixOf_iff_prefix.1 h
  have hl := congrArg List.length hr
  simp only [List.length_append, List.length_cons, List.length_nil, Array.length_toList] at hl
  have hs : s.size = s.data.size := rfl
  have g : ∀ k, k < 3 → s.data.toList[k]? = ([239, 187, 191] : List UInt8)[k]? := by
    intro k hk
    rw [← hr, List.getElem?_append_left (by simpa using hk)]
  have h0 := get!_of s 0 (by omega)
  have h1 := get!_of s 1 (by omega)
  have h2 := get!_of s 2 (by omega)
  rw [g 0 (by omega)] at h0
  rw [g 1 (by omega)] at h1
  rw [g 2 (by omega)] at h2
  exact ⟨by omega, (Option.some.inj h0).symm, (Option.some.inj h1).symm, (Option.some.inj h2).symm⟩
theorem pre3_no {s : ByteArray} (h : Lib.hasPrefix s.data.toList [239, 187, 191] = false) (h3 : 3 ≤ s.size) : ¬ (s.get! 0 = 239 ∧ s.get! 1 = 187 ∧ s.get! 2 = 191) := by
  rintro ⟨a, b, c⟩
  have e : s.data.toList = 239 :: 187 :: 191 :: s.data.toList.drop 3 := by
    have h0 := drop_cons s 0 (by omega)
    have h1 := drop_cons s 1 (by omega)
    have h2 := drop_cons s 2 (by omega)
    rw [List.drop_zero, h1, h2, a, b, c] at h0
    exact h0
  rw [e] at h
  simp [Lib.hasPrefix] at h
theorem byte_ne {x : UInt8} {n : Nat} (_hn : n < 256) (h : ¬ x = UInt8.ofNat n) : ¬ (x.toNat : Int) = (n : Int) := by
  intro e
  apply h
  have e2 : x.toNat = n := by omega
  rw [← e2]
  simp
end Go.Proofs.YteipiaefamfleaaGreatDoor
