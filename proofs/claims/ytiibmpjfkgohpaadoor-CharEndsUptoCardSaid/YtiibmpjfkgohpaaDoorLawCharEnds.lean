/- Proved here: the law CharEnds answers true at every two slices of bytes of at most 2^46 bytes, in every world that holds the library's two tables; what was there stays. -/
import Derived.Test.YtiibmpjfkgohpaaDoorEndsNone
import Derived.Test.YtiibmpjfkgohpaaDoorEndsOne
import Derived.Test.YtiibmpjfkgohpaaDoorEndsOther
import Derived.Test.YtiibmpjfkgohpaaDoorEndsFirst
import Derived.Test.YtiibmpjfkgohpaaDoorEndsBoth
namespace Go.Proofs.YtiibmpjfkgohpaaDoor
open Go.RowKit

theorem u8_not {x : UInt8} {n : Nat} (hn : n < 256) (h : x ≠ UInt8.ofNat n) : x.toNat ≠ n := fun e => h (UInt8.toNat_inj.1 (by rw [e]; simp; omega))

theorem charEnds_walk (p q : Option Addr) (a b : ByteArray) (c d : Nat) (w : World) (hT : Tabs w) (ha : a.size ≤ 70368744177000) (hb : b.size ≤ 70368744177000) (hp : HoldsB w p a) (hq : HoldsB w q b) (hnp : p = none → c = 0) (hnq : q = none → d = 0) :
    Calls Tryd.prog 11 #[.slice p a.size c, .slice q b.size d] w fun e w' => e = .returned (.bool true) ∧ Below w.heap.size w w' := by
  by_cases h0 : 0 < a.size
  · by_cases h1 : 0 < b.size
    · obtain ⟨ba, oa, rfl, hca⟩ := hp h0
      obtain ⟨bb, ob, rfl, hcb⟩ := hq h1
      have ka := hca (a.size - 1) (by omega)
      have kb := hcb 0 h1
      by_cases hx : a.get! (a.size - 1) = 13
      · by_cases hy : b.get! 0 = 10
        · rw [hx] at ka
          rw [hy] at kb
          exact charEnds_both _ _ a b c d w hT ha hb hp hq hnp hnq ba oa bb ob h0 h1 rfl rfl ka kb
        · rw [hx] at ka
          exact charEnds_first _ _ a b c d w hT ha hb hp hq hnp hnq (linesB_append a b (by rintro ⟨_, _, _, h⟩; exact hy h)) ba oa bb ob _ h0 h1 rfl rfl ka kb (by have h10 : (b.get! 0).toNat ≠ 10 := u8_not (by decide) hy; omega)
      · exact charEnds_other _ _ a b c d w hT ha hb hp hq hnp hnq (linesB_append a b (by rintro ⟨_, _, h, _⟩; exact hx h)) ba oa _ h0 h1 rfl ka (u8_not (by decide) hx)
    · exact charEnds_one p q a b c d w hT ha hb hp hq hnp hnq (linesB_append a b (by rintro ⟨_, h, _⟩; omega)) (by omega) h0
  · exact charEnds_none p q a b c d w hT ha hb hp hq hnp hnq (linesB_append a b (by rintro ⟨h, _⟩; omega)) (by omega)
end Go.Proofs.YtiibmpjfkgohpaaDoor
