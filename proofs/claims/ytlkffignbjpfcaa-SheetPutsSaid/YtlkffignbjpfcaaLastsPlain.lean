/- Proved here: which head is found behind a PutHead that the power cut; no program is named. -/
import Derived.Test.YtlkffignbjpfcaaGetHead
import Derived.Test.YtlkffignbjpfcaaTurnPlain
namespace Go.Proofs.Ytlkffignbjpfcaa

theorem headB_bl (g st : Nat) : bl (headB g st) = headL g st := by unfold headB; rw [bl_ofL]
theorem zero_head : headR (bl (zeroB 64)) = (0, 0, 10) := by
  have e : bl (zeroB 64) = zL 64 := bl_zero 64
  rw [e]
  have hs : sealed (zL 64) = false := by
    unfold sealed
    rw [decide_eq_false_iff_not, zL_take, zL_drop]
    have h1 : valN (zL (min 4 64)) = 0 := val_zero _
    rw [h1]
    intro e
    have h3 : sumN (zL (64 - 4)) ≠ 0 := by
      unfold sumN
      rw [sum_zeros]
      decide +kernel
    exact h3 e.symm
  unfold headR
  rw [if_neg (by simp [zL]), hs, if_pos rfl]
theorem full_headB (g st : Nat) : fullB (headB g st) = headB g st := by
  apply bl_inj
  unfold fullB
  rw [headB_size, bl_append, bl_zero]
  simp
/-- A drum with a head of the generation g on its own sector, and on the other one nothing, or the head of the next. -/
theorem acc_old (M : DM) (g a : Nat) (h1 : 1 ≤ g) (h2 : g < 4294967295) (ha : a < 18446744073709551616) (hp : M.now.getD (g % 2) ⟨#[]⟩ = headB g a) (hq : M.now.getD ((g + 1) % 2) ⟨#[]⟩ = zeroB 64) : accH M 2 = (g, a) := by
  have t1 := take_head g a h1 (by omega) ha
  show updH (updH (0, 0) (headR (bl (M.now.getD 0 ⟨#[]⟩)))) (headR (bl (M.now.getD 1 ⟨#[]⟩))) = _
  rcases Nat.mod_two_eq_zero_or_one g with e | e
  · rw [e] at hp
    rw [show (g + 1) % 2 = 1 by omega] at hq
    rw [hp, hq, headB_bl, t1, zero_head]
    unfold updH
    rw [if_neg (by simp), if_pos ⟨rfl, h1⟩]
  · rw [e] at hp
    rw [show (g + 1) % 2 = 0 by omega] at hq
    rw [hp, hq, headB_bl, t1, zero_head]
    unfold updH
    rw [if_pos ⟨rfl, by rw [if_neg (by simp)]; exact h1⟩]
theorem acc_new (M : DM) (g a b : Nat) (h1 : 1 ≤ g) (h2 : g < 4294967295) (ha : a < 18446744073709551616) (hb : b < 18446744073709551616) (hp : M.now.getD (g % 2) ⟨#[]⟩ = headB g a) (hq : M.now.getD ((g + 1) % 2) ⟨#[]⟩ = headB (g + 1) b) : accH M 2 = (g + 1, b) := by
  have t1 := take_head g a h1 (by omega) ha
  have t2 := take_head (g + 1) b (by omega) (by omega) hb
  show updH (updH (0, 0) (headR (bl (M.now.getD 0 ⟨#[]⟩)))) (headR (bl (M.now.getD 1 ⟨#[]⟩))) = _
  rcases Nat.mod_two_eq_zero_or_one g with e | e
  · rw [e] at hp
    rw [show (g + 1) % 2 = 1 by omega] at hq
    rw [hp, hq, headB_bl, headB_bl, t1, t2]
    have e1 : updH (0, 0) (g, a, 0) = (g, a) := by unfold updH; rw [if_pos ⟨rfl, h1⟩]
    rw [e1]
    unfold updH
    rw [if_pos ⟨rfl, Nat.lt_succ_self g⟩]
  · rw [e] at hp
    rw [show (g + 1) % 2 = 0 by omega] at hq
    rw [hp, hq, headB_bl, headB_bl, t1, t2]
    have e1 : updH (0, 0) (g + 1, b, 0) = (g + 1, b) := by unfold updH; rw [if_pos ⟨rfl, Nat.succ_pos g⟩]
    rw [e1]
    unfold updH
    rw [if_neg (fun h => by have := h.2; simp at this; omega)]
/-- The drum of the statement, step by step. -/
def lA1 (g a : Nat) : DM := ((newM 64).write (g % 2) (headB g a)).flush
def lB0 (g a k : Nat) : DM := (lA1 g a).fused k
theorem new_off (n : Nat) : (newM n).off = false := rfl
theorem lA1_safe (g a : Nat) : (lA1 g a).safe = (List.replicate 64 (zeroB 64)).set (g % 2) (headB g a) ∧ (lA1 g a).loose = [] ∧ (lA1 g a).down = false ∧ (lA1 g a).fuse = none ∧ (lA1 g a).steps = 2 := by
  have e1 : (newM 64).write (g % 2) (headB g a) = { (newM 64).step with loose := (newM 64).loose ++ [(g % 2, fullB (headB g a))] } := DM.write_yes _ rfl _ _
  have o1 : ((newM 64).write (g % 2) (headB g a)).off = false := by rw [e1]; rfl
  unfold lA1
  rw [DM.flush_yes _ o1, e1, full_headB]
  exact ⟨rfl, rfl, rfl, rfl, rfl⟩
theorem set_get (g : Nat) (x : ByteArray) : ((List.replicate 64 (zeroB 64)).set (g % 2) x).getD (g % 2) ⟨#[]⟩ = x ∧ ((List.replicate 64 (zeroB 64)).set (g % 2) x).getD ((g + 1) % 2) ⟨#[]⟩ = zeroB 64 := by
  constructor
  · rw [List.getD_eq_getElem?_getD, List.getElem?_set_self (by rw [List.length_replicate]; omega)]; rfl
  · rw [List.getD_eq_getElem?_getD, List.getElem?_set_ne (by omega), List.getElem?_replicate, if_pos (by omega)]; rfl
theorem set_get2 (g : Nat) (x y : ByteArray) : (((List.replicate 64 (zeroB 64)).set (g % 2) x).set ((g + 1) % 2) y).getD (g % 2) ⟨#[]⟩ = x ∧ (((List.replicate 64 (zeroB 64)).set (g % 2) x).set ((g + 1) % 2) y).getD ((g + 1) % 2) ⟨#[]⟩ = y := by
  constructor
  · rw [List.getD_eq_getElem?_getD, List.getElem?_set_ne (by omega), ← List.getD_eq_getElem?_getD]; exact (set_get g x).1
  · rw [List.getD_eq_getElem?_getD, List.getElem?_set_self (by rw [List.length_set, List.length_replicate]; omega)]; rfl
theorem crash_two (s : List ByteArray) (n : Nat) (x : ByteArray) (keep : List Bool) (M : DM) (hs : M.safe = s) (hl : M.loose = [(n, x)]) : (M.crash keep).now = s ∨ (M.crash keep).now = s.set n x := by
  rw [DM.crash_now, hs, hl]
  cases keep with
  | nil => exact .inl rfl
  | cons b r =>
    have e : keptM (b :: r) [(n, x)] = if b then [(n, x)] else [] := by
      unfold keptM
      cases b <;> simp
    rw [e]
    cases b
    · exact .inl rfl
    · exact .inr rfl
theorem crash_none (keep : List Bool) (M : DM) (hl : M.loose = []) : (M.crash keep).now = M.safe := by
  rw [DM.crash_now, hl]
  have e : keptM keep [] = [] := by unfold keptM; simp
  rw [e]
  rfl
end Go.Proofs.Ytlkffignbjpfcaa
