/- Proved here: what heads' bytes are, and heads of bytes, of any arguments, by the program and by the document; they are one. -/
import Derived.Test.YtlkffignbjpfcaaLayHead
import Derived.Test.YtlkffignbjpfcaaTakeHead
import Derived.Test.YtlkffignbjpfcaaTakes1
namespace Go.Proofs.Ytlkffignbjpfcaa
open Go.RowKit

def outH (n : Int) : Prop := n < 1 ∨ 4294967295 < n
instance (n : Int) : Decidable (outH n) := by unfold outH; exact inferInstance
def headI (n : Int) (st : Nat) : List UInt8 × Nat := if outH n then ([], 1) else (headL n.toNat st, 0)
theorem layhead_any (n : Int) (st : Nat) (w : World) (hst : st < 18446744073709551616) :
    Calls Try.prog 48 #[.agg #[.int .i64 n, .int .u64 (st : Int)]] w (LayPost (headI n st) w) := by
  unfold headI
  by_cases h : outH n
  · rw [if_pos h]
    exact (layhead_arg n st h w).mono fun e w' ⟨h1, h2⟩ => ⟨_, h1, .inl ⟨rfl, rfl, h2⟩⟩
  · rw [if_neg h]
    obtain ⟨k, rfl⟩ : ∃ k : Nat, n = (k : Int) := ⟨n.toNat, by unfold outH at h; omega⟩
    rw [Int.toNat_natCast]
    exact (layhead_ok k st (by unfold outH at h; omega) (by unfold outH at h; omega) hst w).mono fun e w' ⟨r, h1, h2⟩ => ⟨r, h1, .inr h2⟩
theorem takehead_any (p : Option Addr) (s : ByteArray) (m c : Nat) (w : World) (hm : s.size = m) (hc : m ≤ c) (hp : HoldsB w p s) :
    Calls Try.prog 51 #[.slice p m c] w (HeadPost (headR (bl s)) w) := by
  by_cases h5 : m = 64
  · subst h5
    obtain ⟨b, off, rfl, _⟩ := hp (by omega)
    exact takehead_64 b off s c w hm hc hp layhead_ok
  · rw [headR_len (bl s) (by rw [bl_length, hm]; exact h5)]
    exact takehead_len p m c h5 w
end Go.Proofs.Ytlkffignbjpfcaa
