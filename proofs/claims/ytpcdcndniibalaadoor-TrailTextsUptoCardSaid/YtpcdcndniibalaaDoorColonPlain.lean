/- Proved here: a name holds no colon, so that a qualified name parts at its first one alone; no program is named. -/
import Derived.Test.YtpcdcndniibalaaDoorNamePlain
import Derived.Lib.IndexLaws
namespace Go.Proofs.YtpcdcndniibalaaDoor
open Go.RowKit

theorem rdN_bytes (n x0 x1 x2 x3 : Nat) (h0 : x0 < 256) (h1 : x1 < 256) (h2 : x2 < 256) (h3 : x3 < 256) (h : (rdN n x0 x1 x2 x3).2 ≠ 0) :
    ((rdN n x0 x1 x2 x3) = (x0, 1) ∧ x0 < 128) ∨ (2 ≤ (rdN n x0 x1 x2 x3).2 ∧ (rdN n x0 x1 x2 x3).2 ≤ 4 ∧ 128 ≤ x0 ∧ 128 ≤ x1 ∧ (3 ≤ (rdN n x0 x1 x2 x3).2 → 128 ≤ x2) ∧ (4 ≤ (rdN n x0 x1 x2 x3).2 → 128 ≤ x3)) := by
  by_cases a : x0 < 128
  · left; exact ⟨rd_ascii a, a⟩
  · right
    by_cases g1 : (Lib.decodeN n x0 x1 x2 x3).2 = 1
    · unfold rdN at h; rw [if_neg a, if_pos g1] at h; exact absurd rfl h
    · have e : rdN n x0 x1 x2 x3 = Lib.decodeN n x0 x1 x2 x3 := by unfold rdN; rw [if_neg a, if_neg g1]
      rw [e]
      revert g1
      unfold Lib.decodeN
      repeat' split
      all_goals (intro g1; first | exact absurd rfl g1 | (simp only; omega))

theorem name_nocolon (s : ByteArray) : ∀ (b pos : Nat), s.size ≤ pos + b → nameGo s b pos = true → ∀ j, pos ≤ j → j < s.size → (s.get! j).toNat ≠ 58
  | 0, pos, hb, _, j, h1, h2 => by omega
  | b + 1, pos, hb, h, j, h1, h2 => by
    have hp : pos < s.size := by omega
    unfold nameGo at h
    rw [if_pos hp] at h
    split at h
    · cases h
    rename_i hr
    split at h
    · cases h
    rename_i hpart
    split at h
    · cases h
    by_cases hj : pos + (rd s pos).2 ≤ j
    · exact name_nocolon s b _ (by omega) h j hj h2
    · have hx := rdN_bytes (s.size - pos) (s.get! pos).toNat (s.get! (pos + 1)).toNat (s.get! (pos + 2)).toNat (s.get! (pos + 3)).toNat (s.get! pos).toNat_lt (s.get! (pos + 1)).toNat_lt (s.get! (pos + 2)).toNat_lt (s.get! (pos + 3)).toNat_lt hr
      have ed : rdN (s.size - pos) (s.get! pos).toNat (s.get! (pos + 1)).toNat (s.get! (pos + 2)).toNat (s.get! (pos + 3)).toNat = rd s pos := rfl
      rw [ed] at hx
      rcases hx with ⟨hx, ha⟩ | ⟨k1, k2, k3, k4, k5, k6⟩
      · rw [hx] at hj hpart
        have : j = pos := by simp only at hj; omega
        subst this
        intro e
        rw [e] at hpart
        exact hpart (by decide)
      · have : j = pos ∨ j = pos + 1 ∨ (j = pos + 2 ∧ 3 ≤ (rd s pos).2) ∨ (j = pos + 3 ∧ 4 ≤ (rd s pos).2) := by omega
        rcases this with rfl | rfl | ⟨rfl, g⟩ | ⟨rfl, g⟩
        · omega
        · omega
        · have := k5 g; omega
        · have := k6 g; omega

theorem nameB_nocolon (s : ByteArray) (h : nameB s = true) (j : Nat) (hj : j < s.size) : (s.get! j).toNat ≠ 58 := by
  unfold nameB at h
  split at h
  · cases h
  · exact name_nocolon s s.size 0 (by omega) h j (Nat.zero_le _) hj

theorem get!_of (s : ByteArray) (j : Nat) (hj : j < s.size) : s.data.toList[j]? = some (s.get! j) := by
  have e : s.get! j = s.data[j]'hj := by
    show s.data[j]! = _
    rw [getElem!_pos s.data j hj]
  rw [e]
  simp [Array.getElem?_eq_getElem (show j < s.data.size from hj)]
theorem u8_eq {x : UInt8} (h : x.toNat = 58) : x = 58 := by
  apply UInt8.toNat_inj.1
  rw [h]; rfl

theorem name_index (s : ByteArray) (h : nameB s = true) : Lib.indexByte s.data.toList 58 = -1 := by
  have hg := Lib.indexByte_ge s.data.toList 58
  by_cases hi : Lib.indexByte s.data.toList 58 = -1
  · exact hi
  · obtain ⟨i, hi'⟩ : ∃ i : Nat, Lib.indexByte s.data.toList 58 = i := ⟨(Lib.indexByte s.data.toList 58).toNat, by omega⟩
    have h1 := (Lib.indexByte_some hi').1
    have h2 : i < s.size := by have := (List.getElem?_eq_some_iff.1 h1).1; simpa using this
    rw [get!_of s i h2] at h1
    exact absurd (by rw [Option.some.inj h1]; rfl) (nameB_nocolon s h i h2)

/-- The first colon stands at i0, none ahead of it. -/
theorem first_colon (q : ByteArray) (i0 : Nat) (h : Lib.indexByte q.data.toList 58 = i0) : i0 < q.size ∧ (q.get! i0).toNat = 58 ∧ ∀ j, j < i0 → (q.get! j).toNat ≠ 58 := by
  obtain ⟨h1, h2⟩ := Lib.indexByte_some h
  have hi : i0 < q.size := by have := (List.getElem?_eq_some_iff.1 h1).1; simpa using this
  refine ⟨hi, ?_, fun j hj e => h2 j hj ?_⟩
  · rw [get!_of q i0 hi] at h1
    rw [Option.some.inj h1]; rfl
  · rw [get!_of q j (by omega), u8_eq e]
theorem no_colon (q : ByteArray) (h : Lib.indexByte q.data.toList 58 = -1) (j : Nat) (hj : j < q.size) : (q.get! j).toNat ≠ 58 := fun e => Lib.indexByte_none h j (by rw [get!_of q j hj, u8_eq e])

/-- What stands ahead of a later colon holds a colon: it is no name. -/
theorem later_colon (q : ByteArray) (i0 k : Nat) (h : (q.get! i0).toNat = 58) (hk : i0 < k) (hq : k < q.size) : nameB (q.extract 0 k) = false := by
  cases g : nameB (q.extract 0 k)
  · rfl
  · have hz : (q.extract 0 k).size = k := by simp; omega
    have := nameB_nocolon _ g i0 (by omega)
    have e : (q.extract 0 k).get! i0 = q.get! i0 := by
      have e1 : (q.extract 0 k).get! i0 = (q.extract 0 k)[i0]'(by omega) := by
        show (q.extract 0 k).data[i0]! = _
        rw [getElem!_pos (q.extract 0 k).data i0 (by show i0 < (q.extract 0 k).size; omega)]; rfl
      have e2 : q.get! i0 = q[i0]'(by omega) := by
        show q.data[i0]! = _
        rw [getElem!_pos q.data i0 (by show i0 < q.size; omega)]; rfl
      rw [e1, e2, ByteArray.getElem_extract]
      simp
    rw [e] at this
    exact absurd h this
end Go.Proofs.YtpcdcndniibalaaDoor
