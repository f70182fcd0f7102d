/- Proved here: plain facts on the first fault of two texts behind one another; no program is named. -/
import Derived.Test.YtdomhjjoijkeaaaDoorFaultPlain
import Derived.Test.YtdomhjjoijkeaaaDoorColonPlain
namespace Go.Proofs.YtdomhjjoijkeaaaDoor
open Go.RowKit

theorem faultGo_fuel (s : ByteArray) : ∀ (f g pos : Nat), s.size ≤ pos + f → s.size ≤ pos + g → faultGo s f pos = faultGo s g pos
  | 0, g, pos, hf, _ => by rw [faultGo_end s g pos (by omega)]; rfl
  | f + 1, 0, pos, _, hg => by rw [faultGo_end s (f + 1) pos (by omega)]; rfl
  | f + 1, g + 1, pos, hf, hg => by
    by_cases h : pos < s.size
    · by_cases h0 : (rd s pos).2 = 0
      · rw [faultGo_bad s f pos h h0, faultGo_bad s g pos h h0]
      · cases hc : charB (rd s pos).1
        · rw [faultGo_no s f pos h h0 hc, faultGo_no s g pos h h0 hc]
        · rw [faultGo_step s f pos h h0 hc, faultGo_step s g pos h h0 hc]
          exact faultGo_fuel s f g _ (by omega) (by omega)
    · rw [faultGo_end s _ pos h, faultGo_end s _ pos h]

/-- The first fault from a place on. -/
def faultAt (s : ByteArray) (pos : Nat) : Nat × Nat := faultGo s s.size pos
theorem faultAt_end (s : ByteArray) (pos : Nat) (h : ¬ pos < s.size) : faultAt s pos = (0, 0) := faultGo_end s _ pos h
theorem faultAt_bad (s : ByteArray) (pos : Nat) (h : pos < s.size) (h0 : (rd s pos).2 = 0) : faultAt s pos = (pos, 20) := by
  obtain ⟨n, hn⟩ : ∃ n, s.size = n + 1 := ⟨s.size - 1, by omega⟩
  unfold faultAt; rw [hn]; exact faultGo_bad s n pos h h0
theorem faultAt_no (s : ByteArray) (pos : Nat) (h : pos < s.size) (h0 : (rd s pos).2 ≠ 0) (hc : charB (rd s pos).1 = false) : faultAt s pos = (pos, 21) := by
  obtain ⟨n, hn⟩ : ∃ n, s.size = n + 1 := ⟨s.size - 1, by omega⟩
  unfold faultAt; rw [hn]; exact faultGo_no s n pos h h0 hc
theorem faultAt_step (s : ByteArray) (pos : Nat) (h : pos < s.size) (h0 : (rd s pos).2 ≠ 0) (hc : charB (rd s pos).1 = true) : faultAt s pos = faultAt s (pos + (rd s pos).2) := by
  obtain ⟨n, hn⟩ : ∃ n, s.size = n + 1 := ⟨s.size - 1, by omega⟩
  unfold faultAt
  rw [faultGo_fuel s s.size (n + 1) pos (by omega) (by omega), faultGo_step s n pos h h0 hc]
  exact faultGo_fuel s n s.size _ (by omega) (by omega)

theorem faultAt_ge (s : ByteArray) : ∀ (f pos : Nat), s.size ≤ pos + f → (faultAt s pos).2 = 0 ∨ pos ≤ (faultAt s pos).1
  | 0, pos, hf => by left; rw [faultAt_end s pos (by omega)]
  | f + 1, pos, hf => by
    by_cases h : pos < s.size
    · by_cases h0 : (rd s pos).2 = 0
      · right; rw [faultAt_bad s pos h h0]; exact Nat.le_refl _
      · cases hc : charB (rd s pos).1
        · right; rw [faultAt_no s pos h h0 hc]; exact Nat.le_refl _
        · rw [faultAt_step s pos h h0 hc]
          rcases faultAt_ge s f (pos + (rd s pos).2) (by omega) with g | g
          · exact .inl g
          · exact .inr (by omega)
    · left; rw [faultAt_end s pos h]
theorem faultAt_kinds (s : ByteArray) : ∀ (f pos : Nat), s.size ≤ pos + f → faultAt s pos = (0, 0) ∨ (faultAt s pos).2 = 20 ∨ (faultAt s pos).2 = 21
  | 0, pos, hf => by left; rw [faultAt_end s pos (by omega)]
  | f + 1, pos, hf => by
    by_cases h : pos < s.size
    · by_cases h0 : (rd s pos).2 = 0
      · right; left; rw [faultAt_bad s pos h h0]
      · cases hc : charB (rd s pos).1
        · right; right; rw [faultAt_no s pos h h0 hc]
        · rw [faultAt_step s pos h h0 hc]
          exact faultAt_kinds s f (pos + (rd s pos).2) (by omega)
    · left; rw [faultAt_end s pos h]

theorem rdN_stable (n n' x0 x1 x2 x3 y1 y2 y3 : Nat) (h0 : x0 < 256) (h : (rdN n x0 x1 x2 x3).2 ≠ 0) (hn : n ≤ n')
    (e1 : 2 ≤ (rdN n x0 x1 x2 x3).2 → y1 = x1) (e2 : 3 ≤ (rdN n x0 x1 x2 x3).2 → y2 = x2) (e3 : 4 ≤ (rdN n x0 x1 x2 x3).2 → y3 = x3) : rdN n' x0 y1 y2 y3 = rdN n x0 x1 x2 x3 := by
  by_cases a : x0 < 128
  · rw [rd_ascii a, rd_ascii a]
  by_cases a2 : x0 < 192 ∨ 248 ≤ x0
  · exact absurd (by rw [rd_none (by omega) h0]) h
  by_cases a3 : x0 < 224
  · by_cases g : n < 2 ∨ x1 < 128 ∨ 191 < x1 ∨ 64 * (x0 - 192) + (x1 - 128) < 128
    · exact absurd (by rw [rd2_no (by omega) g]) h
    · have e := rd2_yes (n := n) (x0 := x0) (x1 := x1) (x2 := x2) (x3 := x3) (by omega) (by omega) (by omega) (by omega) (by omega)
      rw [e] at e1 ⊢
      obtain rfl := e1 (by simp)
      rw [rd2_yes (by omega) (by omega) (by omega) (by omega) (by omega)]
  by_cases a4 : x0 < 240
  · by_cases g : n < 3 ∨ x1 < 128 ∨ 191 < x1 ∨ x2 < 128 ∨ 191 < x2 ∨ v3 x0 x1 x2 < 2048 ∨ (55296 ≤ v3 x0 x1 x2 ∧ v3 x0 x1 x2 ≤ 57343)
    · exact absurd (by rw [rd3_no (by omega) g]) h
    · have e := rd3_yes (n := n) (x0 := x0) (x1 := x1) (x2 := x2) (x3 := x3) (by omega) (by omega) (by omega) (by omega) (by omega) (by omega) (by omega) (by omega)
      rw [e] at e1 e2 ⊢
      obtain rfl := e1 (by simp)
      obtain rfl := e2 (by simp)
      rw [rd3_yes (by omega) (by omega) (by omega) (by omega) (by omega) (by omega) (by omega) (by omega)]
  · by_cases g : n < 4 ∨ x1 < 128 ∨ 191 < x1 ∨ x2 < 128 ∨ 191 < x2 ∨ x3 < 128 ∨ 191 < x3 ∨ v4 x0 x1 x2 x3 < 65536 ∨ 1114111 < v4 x0 x1 x2 x3
    · exact absurd (by rw [rd4_no (by omega) g]) h
    · have e := rd4_yes (n := n) (x0 := x0) (x1 := x1) (x2 := x2) (x3 := x3) (by omega) (by omega) (by omega) (by omega) (by omega) (by omega) (by omega) (by omega) (by omega) (by omega)
      rw [e] at e1 e2 e3 ⊢
      obtain rfl := e1 (by simp)
      obtain rfl := e2 (by simp)
      obtain rfl := e3 (by simp)
      rw [rd4_yes (by omega) (by omega) (by omega) (by omega) (by omega) (by omega) (by omega) (by omega) (by omega) (by omega)]

theorem get!_left (a b : ByteArray) (j : Nat) (h : j < a.size) : (a ++ b).get! j = a.get! j := by
  have e1 := get!_of (a ++ b) j (by simp; omega)
  have e2 := get!_of a j h
  have e3 : (a ++ b).data.toList = a.data.toList ++ b.data.toList := by simp
  rw [e3, List.getElem?_append_left (by simpa using h), e2] at e1
  exact (Option.some.inj e1).symm
theorem get!_out (s : ByteArray) (j : Nat) (h : ¬ j < s.size) : s.get! j = default := by
  show s.data[j]! = _
  exact getElem!_neg s.data j h
theorem get!_right (a b : ByteArray) (j : Nat) : (a ++ b).get! (a.size + j) = b.get! j := by
  by_cases h : j < b.size
  · have e1 := get!_of (a ++ b) (a.size + j) (by simp; omega)
    have e2 := get!_of b j h
    have e3 : (a ++ b).data.toList = a.data.toList ++ b.data.toList := by simp
    have e4 : a.data.toList.length = a.size := by simp
    rw [e3, List.getElem?_append_right (by omega), e4, Nat.add_sub_cancel_left, e2] at e1
    exact (Option.some.inj e1).symm
  · rw [get!_out _ _ (by simp; omega), get!_out _ _ h]

theorem rd_left (a b : ByteArray) (pos : Nat) (h : pos < a.size) (h0 : (rd a pos).2 ≠ 0) : rd (a ++ b) pos = rd a pos := by
  have hle := rd_le a pos h
  unfold rd at h0 hle ⊢
  rw [get!_left a b pos h]
  refine rdN_stable _ _ _ _ _ _ _ _ _ (a.get! pos).toNat_lt h0 (by simp; omega) (fun g => ?_) (fun g => ?_) (fun g => ?_)
  · rw [get!_left a b (pos + 1) (by omega)]
  · rw [get!_left a b (pos + 2) (by omega)]
  · rw [get!_left a b (pos + 3) (by omega)]
theorem rd_right (a b : ByteArray) (p : Nat) : rd (a ++ b) (a.size + p) = rd b p := by
  unfold rd
  rw [get!_right, Nat.add_assoc, get!_right, Nat.add_assoc, get!_right, Nat.add_assoc, get!_right]
  have e : (a ++ b).size - (a.size + p) = b.size - p := by simp; omega
  rw [e]

theorem fault_right (a b : ByteArray) : ∀ (f p : Nat), b.size ≤ p + f → faultAt (a ++ b) (a.size + p) = if (faultAt b p).2 = 0 then (0, 0) else (a.size + (faultAt b p).1, (faultAt b p).2)
  | 0, p, hf => by rw [faultAt_end b p (by omega), faultAt_end (a ++ b) _ (by simp; omega)]; rfl
  | f + 1, p, hf => by
    by_cases h : p < b.size
    · have h' : a.size + p < (a ++ b).size := by simp; omega
      by_cases h0 : (rd b p).2 = 0
      · rw [faultAt_bad b p h h0, faultAt_bad (a ++ b) _ h' (by rw [rd_right]; exact h0)]; rfl
      · cases hc : charB (rd b p).1
        · rw [faultAt_no b p h h0 hc, faultAt_no (a ++ b) _ h' (by rw [rd_right]; exact h0) (by rw [rd_right]; exact hc)]; rfl
        · rw [faultAt_step b p h h0 hc, faultAt_step (a ++ b) _ h' (by rw [rd_right]; exact h0) (by rw [rd_right]; exact hc), rd_right, Nat.add_assoc]
          exact fault_right a b f _ (by omega)
    · rw [faultAt_end b p h, faultAt_end (a ++ b) _ (by simp; omega)]; rfl

theorem fault_left (a b : ByteArray) : ∀ (f pos : Nat), a.size ≤ pos + f → pos ≤ a.size →
    (faultAt a pos = (0, 0) ∧ faultAt (a ++ b) pos = faultAt (a ++ b) a.size) ∨ ((faultAt a pos).2 = 21 ∧ faultAt (a ++ b) pos = faultAt a pos) ∨
    ((faultAt a pos).2 = 20 ∧ ((faultAt (a ++ b) pos).2 = 0 ∨ (faultAt a pos).1 ≤ (faultAt (a ++ b) pos).1))
  | 0, pos, hf, hp => by
    left
    obtain rfl : pos = a.size := by omega
    exact ⟨faultAt_end a _ (by omega), rfl⟩
  | f + 1, pos, hf, hp => by
    by_cases h : pos < a.size
    · have h' : pos < (a ++ b).size := by simp; omega
      by_cases h0 : (rd a pos).2 = 0
      · right; right
        rw [faultAt_bad a pos h h0]
        exact ⟨rfl, faultAt_ge (a ++ b) (a ++ b).size pos (by omega)⟩
      · have e := rd_left a b pos h h0
        cases hc : charB (rd a pos).1
        · right; left
          rw [faultAt_no a pos h h0 hc, faultAt_no (a ++ b) pos h' (by rw [e]; exact h0) (by rw [e]; exact hc)]
          exact ⟨rfl, rfl⟩
        · rw [faultAt_step a pos h h0 hc, faultAt_step (a ++ b) pos h' (by rw [e]; exact h0) (by rw [e]; exact hc), e]
          exact fault_left a b f _ (by omega) (rd_le a pos h)
    · left
      obtain rfl : pos = a.size := by omega
      exact ⟨faultAt_end a _ h, rfl⟩

theorem faultAt_le (s : ByteArray) : ∀ (f pos : Nat), s.size ≤ pos + f → (faultAt s pos).1 ≤ s.size
  | 0, pos, hf => by rw [faultAt_end s pos (by omega)]; exact Nat.zero_le _
  | f + 1, pos, hf => by
    by_cases h : pos < s.size
    · by_cases h0 : (rd s pos).2 = 0
      · rw [faultAt_bad s pos h h0]; exact Nat.le_of_lt h
      · cases hc : charB (rd s pos).1
        · rw [faultAt_no s pos h h0 hc]; exact Nat.le_of_lt h
        · rw [faultAt_step s pos h h0 hc]
          exact faultAt_le s f (pos + (rd s pos).2) (by omega)
    · rw [faultAt_end s pos h]; exact Nat.zero_le _
theorem faultF_le (s : ByteArray) : (faultF s).1 ≤ s.size := faultAt_le s s.size 0 (by omega)

/-- OF TWO TEXTS BEHIND ONE ANOTHER: the first one's fault is told; if it has none, the second one's, so much farther on. -/
theorem fault_join (a b : ByteArray) :
    ((faultF a).2 = 21 ∧ faultF (a ++ b) = faultF a) ∨ ((faultF a).2 = 20 ∧ ((faultF (a ++ b)).2 = 0 ∨ (faultF a).1 ≤ (faultF (a ++ b)).1)) ∨
    ((faultF a).2 = 0 ∧ (faultF b).2 ≠ 0 ∧ faultF (a ++ b) = (a.size + (faultF b).1, (faultF b).2)) ∨ ((faultF a).2 = 0 ∧ (faultF b).2 = 0 ∧ faultF (a ++ b) = (0, 0)) := by
  have ea : faultF a = faultAt a 0 := rfl
  have eb : faultF b = faultAt b 0 := rfl
  have ec : faultF (a ++ b) = faultAt (a ++ b) 0 := rfl
  rw [ea, eb, ec]
  rcases fault_left a b a.size 0 (by omega) (Nat.zero_le _) with ⟨h1, h2⟩ | ⟨h1, h2⟩ | ⟨h1, h2⟩
  · have hr := fault_right a b b.size 0 (by omega)
    rw [Nat.add_zero] at hr
    rw [h2, hr, h1]
    by_cases g : (faultAt b 0).2 = 0
    · right; right; right
      rw [if_pos g]
      exact ⟨rfl, g, rfl⟩
    · right; right; left
      rw [if_neg g]
      exact ⟨rfl, g, rfl⟩
  · exact .inl ⟨h1, h2⟩
  · exact .inr (.inl ⟨h1, h2⟩)
end Go.Proofs.YtdomhjjoijkeaaaDoor
