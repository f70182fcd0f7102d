/- Proved here: the document's heads, of any arguments. -/
import Derived.Test.YtlkffignbjpfcaaHeadAny
import Derived.Test.YtlkffignbjpfcaaRefTHead
namespace Go.Proofs.Ytlkffignbjpfcaa
open Go.RowKit

theorem rlayhead_any (n : Int) (st : Nat) (w : World) (hst : st < 18446744073709551616) :
    Calls Try.prog 15 #[.agg #[.int .i64 n, .int .u64 (st : Int)]] w (LayPost (headI n st) w) := by
  unfold headI
  by_cases h : outH n
  · rw [if_pos h]
    exact (rlayhead_arg n st h w).mono fun e w' ⟨h1, h2⟩ => ⟨_, h1, .inl ⟨rfl, rfl, h2⟩⟩
  · rw [if_neg h]
    obtain ⟨k, rfl⟩ : ∃ k : Nat, n = (k : Int) := ⟨n.toNat, by unfold outH at h; omega⟩
    rw [Int.toNat_natCast]
    exact (rlayhead_ok k st (by unfold outH at h; omega) (by unfold outH at h; omega) hst w).mono fun e w' ⟨r, h1, h2⟩ => ⟨r, h1, .inr h2⟩
theorem rtakehead_any (p : Option Addr) (s : ByteArray) (m c : Nat) (w : World) (hm : s.size = m) (hc : m ≤ c) (hp : HoldsB w p s) :
    Calls Try.prog 17 #[.slice p m c] w (HeadPost (headR (bl s)) w) := by
  by_cases h5 : m = 64
  · subst h5
    obtain ⟨b, off, rfl, _⟩ := hp (by omega)
    exact rtakehead_64 b off s c w hm hc hp
  · rw [headR_len (bl s) (by rw [bl_length, hm]; exact h5)]
    exact rtakehead_len p m c h5 w
end Go.Proofs.Ytlkffignbjpfcaa
