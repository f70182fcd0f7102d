/- Proved here: what pages' bytes are, of any arguments, by the program and by the document; they are one. -/
import Derived.Test.YtlkffignbjpfcaaRefTake
import Derived.Test.YtlkffignbjpfcaaByteSame
namespace Go.Proofs.Ytlkffignbjpfcaa
open Go.RowKit

def outN (n : Int) : Prop := n < 0 ∨ 4294967295 < n
instance (n : Int) : Decidable (outN n) := by unfold outN; exact inferInstance
def takeI (n : Int) (l : List UInt8) : List UInt8 × Nat × Nat := if outN n then ([], 0, 1) else takeR n.toNat l
def layI (n : Int) (st : Nat) (l : List UInt8) : List UInt8 × Nat := if outN n then ([], 1) else if 496 < l.length then ([], 6) else (pageL n.toNat st l, 0)
theorem takeR_len (n : Nat) (l : List UInt8) (h : l.length ≠ 512) : takeR n l = ([], 0, 6) := by unfold takeR; rw [if_pos h]
theorem takeI_small (n : Int) (l : List UInt8) : (takeI n l).1.length ≤ 496 := by
  unfold takeI
  by_cases h : outN n
  · rw [if_pos h]; exact Nat.zero_le _
  · rw [if_neg h]
    unfold takeR
    by_cases h1 : l.length ≠ 512
    · rw [if_pos h1]; exact Nat.zero_le _
    · rw [if_neg h1]
      cases blankL l
      · rw [if_neg (by simp)]
        cases sealed l
        · rw [if_pos rfl]; exact Nat.zero_le _
        · rw [if_neg (by simp)]
          by_cases h2 : valN ((l.drop 4).take 4) ≠ n.toNat
          · rw [if_pos h2]; exact Nat.zero_le _
          · rw [if_neg h2]
            show (l.drop 16).length ≤ 496
            rw [List.length_drop]; omega
      · rw [if_pos rfl]
        show (zL 496).length ≤ 496
        unfold zL
        rw [List.length_replicate]
        exact Nat.le_refl _
theorem Told.room {l : List UInt8} {w W : World} {r : Value} (h : Told l w r W) : ∃ p c, r = .slice p l.length c ∧ HoldsB W p (ofL l) ∧ (p = none → c = 0) ∧ l.length ≤ c := by
  rcases h with ⟨rfl, rfl, h⟩ | ⟨g, c, rfl, ho, _⟩
  · exact ⟨none, 0, rfl, fun h0 => by rw [ofL_size] at h0; exact absurd h0 (by decide), fun _ => rfl, Nat.le_refl _⟩
  · exact ⟨_, _, rfl, ho.holds, fun e => (by cases e), by have := ho.2.2.2; rwa [ofL_size] at this⟩
theorem take_any (n : Int) (p : Option Addr) (s : ByteArray) (m c : Nat) (w : World) (hm : s.size = m) (hc : m ≤ c) (hp : HoldsB w p s) :
    Calls Try.prog 42 #[.int .i64 n, .slice p m c] w (TakePost (takeI n (bl s)) w) := by
  by_cases h : outN n
  · refine (take_arg n h p m c w).mono fun e w' ⟨h1, h2⟩ => ⟨_, ?_, .inl ⟨?_, rfl, ?_⟩⟩
    · rw [h1]; unfold takeI; rw [if_pos h]; rfl
    · unfold takeI; rw [if_pos h]
    · rw [← h2]; exact Below.refl _ _
  · obtain ⟨k, rfl⟩ : ∃ k : Nat, n = (k : Int) := ⟨n.toNat, by unfold outN at h; omega⟩
    have hk : k ≤ 4294967295 := by unfold outN at h; omega
    have e : takeI (k : Int) (bl s) = takeR k (bl s) := by unfold takeI; rw [if_neg h, Int.toNat_natCast]
    rw [e]
    by_cases h5 : m = 512
    · subst h5
      obtain ⟨b, off, rfl, _⟩ := hp (by omega)
      exact take_512 k hk b off s c w hm hc hp
    · have e2 := takeR_len k (bl s) (by rw [bl_length, hm]; exact h5)
      rw [e2]
      exact (take_len k hk p m c h5 w).mono fun e w' ⟨h1, h2⟩ => ⟨_, h1, .inl ⟨rfl, rfl, by rw [← h2]; exact Below.refl _ _⟩⟩
theorem rtake_any (n : Int) (p : Option Addr) (s : ByteArray) (m c : Nat) (w : World) (hm : s.size = m) (hc : m ≤ c) (hp : HoldsB w p s) :
    Calls Try.prog 20 #[.int .i64 n, .slice p m c] w (TakePost (takeI n (bl s)) w) := by
  by_cases h : outN n
  · refine (rtake_arg n h p m c w).mono fun e w' ⟨h1, h2⟩ => ⟨_, ?_, .inl ⟨?_, rfl, ?_⟩⟩
    · rw [h1]; unfold takeI; rw [if_pos h]; rfl
    · unfold takeI; rw [if_pos h]
    · rw [← h2]; exact Below.refl _ _
  · obtain ⟨k, rfl⟩ : ∃ k : Nat, n = (k : Int) := ⟨n.toNat, by unfold outN at h; omega⟩
    have hk : k ≤ 4294967295 := by unfold outN at h; omega
    have e : takeI (k : Int) (bl s) = takeR k (bl s) := by unfold takeI; rw [if_neg h, Int.toNat_natCast]
    rw [e]
    by_cases h5 : m = 512
    · subst h5
      obtain ⟨b, off, rfl, _⟩ := hp (by omega)
      exact rtake_512 k hk b off s c w hm hc hp
    · have e2 := takeR_len k (bl s) (by rw [bl_length, hm]; exact h5)
      rw [e2]
      exact (rtake_len k hk p m c h5 w).mono fun e w' ⟨h1, h2⟩ => ⟨_, h1, .inl ⟨rfl, rfl, by rw [← h2]; exact Below.refl _ _⟩⟩
def LayPost (x : List UInt8 × Nat) (w : World) (e : Ending) (w' : World) : Prop := ∃ r, e = .returned (.tuple #[r, .int .i64 (x.2 : Int)]) ∧ Told x.1 w r w'
theorem lay_any (n : Int) (st : Nat) (p : Option Addr) (s : ByteArray) (m c : Nat) (w : World) (hst : st < 18446744073709551616) (hm : s.size = m) (hp : HoldsB w p s) (hnil : p = none → c = 0) :
    Calls Try.prog 41 #[.int .i64 n, .int .u64 (st : Int), .slice p m c] w (LayPost (layI n st (bl s)) w) := by
  have hl : (bl s).length = m := by rw [bl_length, hm]
  unfold layI
  by_cases h : outN n
  · rw [if_pos h]
    exact (lay_arg n h _ p m c w).mono fun e w' ⟨h1, h2⟩ => ⟨_, h1, .inl ⟨rfl, rfl, by rw [← h2]; exact Below.refl _ _⟩⟩
  · rw [if_neg h]
    obtain ⟨k, rfl⟩ : ∃ k : Nat, n = (k : Int) := ⟨n.toNat, by unfold outN at h; omega⟩
    have hk : k ≤ 4294967295 := by unfold outN at h; omega
    rw [Int.toNat_natCast, hl]
    by_cases h5 : 496 < m
    · rw [if_pos h5]
      exact (lay_long k hk _ p m c h5 w).mono fun e w' ⟨h1, h2⟩ => ⟨_, h1, .inl ⟨rfl, rfl, by rw [← h2]; exact Below.refl _ _⟩⟩
    · rw [if_neg h5]
      exact (lay_ok k st p s m c w hk hst hm (by omega) hp hnil).mono fun e w' ⟨r, h1, h2⟩ => ⟨r, h1, .inr h2⟩
theorem rlay_any (n : Int) (st : Nat) (p : Option Addr) (s : ByteArray) (m c : Nat) (w : World) (hst : st < 18446744073709551616) (hm : s.size = m) (hp : HoldsB w p s) :
    Calls Try.prog 14 #[.int .i64 n, .int .u64 (st : Int), .slice p m c] w (LayPost (layI n st (bl s)) w) := by
  have hl : (bl s).length = m := by rw [bl_length, hm]
  unfold layI
  by_cases h : outN n
  · rw [if_pos h]
    exact (rlay_arg n h _ p m c w).mono fun e w' ⟨h1, h2⟩ => ⟨_, h1, .inl ⟨rfl, rfl, by rw [← h2]; exact Below.refl _ _⟩⟩
  · rw [if_neg h]
    obtain ⟨k, rfl⟩ : ∃ k : Nat, n = (k : Int) := ⟨n.toNat, by unfold outN at h; omega⟩
    have hk : k ≤ 4294967295 := by unfold outN at h; omega
    rw [Int.toNat_natCast, hl]
    by_cases h5 : 496 < m
    · rw [if_pos h5]
      exact (rlay_long k hk _ p m c h5 w).mono fun e w' ⟨h1, h2⟩ => ⟨_, h1, .inl ⟨rfl, rfl, by rw [← h2]; exact Below.refl _ _⟩⟩
    · rw [if_neg h5]
      exact (rlay_ok k st p s m c w hk hst hm (by omega) hp).mono fun e w' ⟨r, h1, h2⟩ => ⟨r, h1, .inr h2⟩
/-- Two tellings of the same bytes. -/
theorem same_told {x : List UInt8} {W : World} {p q : Option Addr} {c d : Nat} (hp : HoldsB W p (ofL x)) (hq : HoldsB W q (ofL x)) :
    Calls Try.prog 21 #[.slice p x.length c, .slice q x.length d] W fun e w' => e = .returned (.bool true) ∧ W = w' := by
  have := same_yes p q (ofL x) c d W hp hq
  rwa [ofL_size] at this
end Go.Proofs.Ytlkffignbjpfcaa
