/- Proved here: the statement ScanCuts, walked: it answers true of every slice of bytes and every number, in every world that holds what the scanner leans on. -/
import Derived.Test.YtpcdcndniibalaaGreatDoorM28
import Derived.Test.YtpcdcndniibalaaGreatDoorM29
import Derived.Test.YtpcdcndniibalaaGreatDoorM30
import Derived.Test.YtpcdcndniibalaaGreatDoorM31
import Derived.Test.YtpcdcndniibalaaGreatDoorM32
import Derived.Test.YtpcdcndniibalaaGreatDoorM33
import Derived.Test.YtpcdcndniibalaaGreatDoorM34
import Derived.Test.YtpcdcndniibalaaGreatDoorM35
import Derived.Test.YtpcdcndniibalaaGreatDoorM36
namespace Go.Proofs.YtpcdcndniibalaaGreatDoor
open Go.RowKit

theorem cuts_in (p : Option Addr) (s : ByteArray) (c m : Nat) (w : World) (hs : s.size ≤ 140737488355000) (hc : s.size ≤ c) (hp : HoldsB w p s) (hL : Leans w) (l : List (Nat × Tok)) (hl : allF s = .ok l) (t : ByteArray) (ht : textF s = t) (hm : m ≤ t.size) :
    Calls Tryz.prog 3 #[.slice p s.size c, .int .i64 (m : Int)] w fun e w' => e = .returned (.bool true) ∧ Below w.heap.size w w' := by
  have hus : (t.extract 0 m).size = m := by rw [ByteArray.size_extract]; omega
  have hcut : t.extract 0 m ++ t.extract m t.size = t := by rw [ByteArray.extract_append_extract]; simp
  have hvs : (t.extract m t.size).size = t.size - m := by rw [ByteArray.size_extract]; omega
  obtain ⟨i, hi, h1, h2, h3⟩ := cuts_plain hl (ht.trans hcut.symm)
  rw [hus] at h1 h2 h3
  rw [hcut] at h3
  have hget : m < t.size → (t.extract m t.size).get! 0 = t.get! m := fun q => by
    rw [get!_extract t m 0 (by omega), Nat.add_zero]
  rcases h3 with ⟨h4, h5⟩ | ⟨h4, h5, h6, h7⟩
  · rcases h4 with ⟨h6, h7⟩ | ⟨y, h6, h7⟩
    · exact cuts_E1 p s c m w hs hc hp hL l hl t ht hm i hi h1 h6 h7 h5
    · exact cuts_E2 p s c m w hs hc hp hL l hl t ht hm i hi h1 y h6 (h2 y h6) h7 h5
  · have hmt : m < t.size := by omega
    rw [hget hmt] at h7
    by_cases hil : i = l.length
    · rcases h7 with ⟨h8, k, h9, h10, h11⟩ | ⟨h8, y, h9, h10⟩
      · exact cuts_a1 p s c m w hs hc hp hL l hl t ht hm i hi h1 hil hmt h5 h8 k h9 h10 h11
      · rcases h10 with ⟨e2, h11, h12⟩ | ⟨h11, lm, h12, h13⟩
        · exact cuts_b1 p s c m w hs hc hp hL l hl t ht hm i hi h1 hil hmt h5 h8 y h9 e2 h11 h12
        · exact cuts_c1 p s c m w hs hc hp hL l hl t ht hm i hi h1 hil hmt h5 h8 y h9 h11 lm h13 h12
    · obtain ⟨yi, hyi⟩ : ∃ yi, l[i]? = some yi := ⟨_, List.getElem?_eq_getElem (by omega)⟩
      have hge := h2 yi hyi
      have hmy : m < yi.1 := by
        rcases Nat.lt_or_ge m yi.1 with q | q
        · exact q
        · exact absurd (.inr ⟨yi, hyi, by omega⟩) h4
      rcases h7 with ⟨h8, k, h9, h10, h11⟩ | ⟨h8, y, h9, h10⟩
      · exact cuts_a2 p s c m w hs hc hp hL l hl t ht hm i hi h1 yi hyi hge hmy hmt h5 h8 k h9 h10 h11
      · rcases h10 with ⟨e2, h11, h12⟩ | ⟨h11, lm, h12, h13⟩
        · exact cuts_b2 p s c m w hs hc hp hL l hl t ht hm i hi h1 yi hyi hge hmy hmt h5 h8 y h9 e2 h11 h12
        · exact cuts_c2 p s c m w hs hc hp hL l hl t ht hm i hi h1 yi hyi hge hmy hmt h5 h8 y h9 h11 lm h13 h12

theorem cuts_walk (p : Option Addr) (s : ByteArray) (c : Nat) (n : Int) (w : World) (hs : s.size ≤ 140737488355000) (hc : s.size ≤ c) (hp : HoldsB w p s) (hL : Leans w) :
    Calls Tryz.prog 3 #[.slice p s.size c, .int .i64 n] w fun e w' => e = .returned (.bool true) ∧ Below w.heap.size w w' := by
  cases hr : allF s with
  | error ke =>
    obtain ⟨k, e⟩ := ke
    exact cuts_fault p s c n w hs hc hp hL (by rw [hr]; exact (all_err hr).1)
  | ok l =>
    by_cases h0 : n < 0
    · exact cuts_low p s c n w hs hc hp hL h0
    · by_cases h1 : ((textF s).size : Int) < n
      · exact cuts_high p s c n w hs hc hp hL h1
      · obtain ⟨m, rfl⟩ : ∃ m : Nat, n = (m : Int) := ⟨n.toNat, by omega⟩
        exact cuts_in p s c m w hs hc hp hL l hr _ rfl (by omega)
end Go.Proofs.YtpcdcndniibalaaGreatDoor
