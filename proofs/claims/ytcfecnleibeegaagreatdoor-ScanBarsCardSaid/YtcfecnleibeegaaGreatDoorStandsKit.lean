/- Proved here: facts on what scan.All answers: its errors, its places, the form of its slices. -/
import Derived.Test.YtcfecnleibeegaaGreatDoorTokCells
import Derived.Test.YtcfecnleibeegaaGreatDoorM1
import Derived.Test.YtcfecnleibeegaaGreatDoorPlain
namespace Go.Proofs.YtcfecnleibeegaaGreatDoor
open Go.RowKit

theorem toksGo_err_ne (t : ByteArray) : ∀ f k l p e, toksGo t f k l = .error (p, e) → e ≠ 0
  | 0, k, l, p, e, h => by cases h
  | f + 1, k, l, p, e, h => by
    unfold toksGo at h
    split at h
    · rename_i hlt
      split at h
      · rename_i hx
        injection h with h
        injection h with h1 h2
        have := tok_err_ne hlt hx
        omega
      · exact toksGo_err_ne t f _ _ p e h
    · cases h
theorem all_err {s : ByteArray} {k e : Nat} (h : allF s = .error (k, e)) : e ≠ 0 ∧ k ≤ s.size := by
  have hts := text_size s
  unfold allF at h
  split at h
  · injection h with h
    injection h with h1 h2
    omega
  · split at h
    · rename_i hf
      injection h with h
      have hk := fault_le (textF s) (textF s).size 0 (Nat.zero_le _)
      have e1 : (faultF (textF s)).1 = k := by rw [h]
      have e2 : (faultF (textF s)).2 = e := by rw [h]
      rw [e2] at hf
      unfold faultF at e1
      exact ⟨hf, by omega⟩
    · exact ⟨toksGo_err_ne _ _ _ _ _ _ h, Nat.le_trans (toksGo_err _ _ _ _ _ _ (Nat.zero_le _) h) hts⟩
theorem all_ok {s : ByteArray} {l : List (Nat × Tok)} (h : allF s = .ok l) : AccT (textF s) (textF s).size l ∧ s.size ≤ 65536 := by
  unfold allF at h
  split at h
  · cases h
  · rename_i hb
    split at h
    · cases h
    · exact ⟨toks_acc h, by omega⟩
theorem TokL.form2 {w : World} {B : Nat} {v : Value} {l : List (Nat × Tok)} (h : TokL w B v l) : ∃ q c, v = .slice q l.length c := by
  obtain ⟨pvs, _, h2, _⟩ := h
  rcases h2.2 with ⟨rfl, h0⟩ | ⟨g, c, cur, rfl, _⟩
  · exact ⟨none, 0, by rw [h0]⟩
  · exact ⟨_, _, rfl⟩
theorem PairsAt.form2 {w : World} {B : Nat} {v : Value} {l : List (ByteArray × ByteArray)} (h : PairsAt w B v l) : ∃ q c, v = .slice q l.length c ∧ l.length ≤ c ∧ c ≤ maxLen := by
  rcases h.2 with ⟨rfl, h0⟩ | ⟨g, c, cur, rfl, _, _, h3, h4, _⟩
  · exact ⟨none, 0, by rw [h0], by omega, by unfold maxLen; omega⟩
  · exact ⟨_, _, rfl, h3, h4⟩
theorem str_dec2 (a b : ByteArray) : decide (a = b) = (a.toList == b.toList) := by
  rw [Bool.eq_iff_iff, decide_eq_true_eq, beq_iff_eq, Lib.toList_data, Lib.toList_data]
  constructor
  · rintro rfl
    rfl
  · intro e
    exact eq_of_list e
end Go.Proofs.YtcfecnleibeegaaGreatDoor
