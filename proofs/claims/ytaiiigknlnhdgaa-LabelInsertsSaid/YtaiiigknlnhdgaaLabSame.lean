/- Proved here: what comparing two rows of bytes answers, and how they stand; that a label is read from its bytes. -/
import Derived.Test.YtaiiigknlnhdgaaLabAwake
import Derived.Laws.Cover1
namespace Go.Proofs.Ytaiiigknlnhdgaa
open Go.RowKit

def strU (l : List Nat) : ByteArray := strOfNums (natI l)
theorem conv_any (w : World) (p : Option Addr) (c : Nat) (l : List Nat) (h : HoldsU w p l) : (convert 23 9 (.slice p l.length c)).run Try.prog w = .ok (.string (strU l)) w :=
  Lib.BytesIn.convert h.in_ (by simp [natI]) c _ 5 _ Try.underlying23 Try.underlying5 Try.underlying9
theorem strU_eq {a b : List Nat} (ha : ∀ x ∈ a, x < 256) (hb : ∀ x ∈ b, x < 256) : ((strU a).toList == (strU b).toList) = decide (a = b) := by
  rw [← bytes_beq ha hb]
  unfold strU
  rw [Lib.strOfNums_toList, Lib.strOfNums_toList]
set_option maxHeartbeats 1000000 in
theorem sameB_any (p q : Option Addr) (a b : List Nat) (c d : Nat) (w : World) (h1 : HoldsU w p a) (h2 : HoldsU w q b) (ha : ∀ x ∈ a, x < 256) (hb : ∀ x ∈ b, x < 256) :
    Calls Try.prog 16 #[.slice p a.length c, .slice q b.length d] w fun e w' => e = .returned (.bool (decide (a = b))) ∧ w = w' := by
  have C1 := conv_any w p c a h1
  have C2 := conv_any w q d b h2
  have HS := Lib.hid (strU_eq ha hb)
  generalize strU a = s at *
  generalize strU b = t at *
  clear h1 h2 ha hb
  go_enter Try.func16, Try.ntmps16
  go_wp2_with (fail)
  go_ret
  exact ⟨ret_b HS.out, rfl⟩
theorem less_cmp : ∀ (a b : List Nat), (∀ x ∈ a, x < 256) → (∀ x ∈ b, x < 256) → Op.bytesLess (Lib.bytesOf (natI a)) (Lib.bytesOf (natI b)) = decide (cmpNs a b = -1)
  | [], [], _, _ => by simp [Op.bytesLess, Lib.bytesOf, natI, cmpNs, cmpLs]
  | [], _ :: _, _, _ => by simp [Op.bytesLess, Lib.bytesOf, natI, cmpNs, cmpLs]
  | _ :: _, [], _, _ => by simp [Op.bytesLess, Lib.bytesOf, natI, cmpNs, cmpLs]
  | x :: a, y :: b, h1, h2 => by
    have ih := less_cmp a b (fun z hz => h1 z (by simp [hz])) (fun z hz => h2 z (by simp [hz]))
    have hx := h1 x (by simp)
    have hy := h2 y (by simp)
    have e1 : Lib.bytesOf (natI (x :: a)) = UInt8.ofNat x :: Lib.bytesOf (natI a) := by simp [Lib.bytesOf, natI]
    have e2 : Lib.bytesOf (natI (y :: b)) = UInt8.ofNat y :: Lib.bytesOf (natI b) := by simp [Lib.bytesOf, natI]
    have e3 : cmpNs (x :: a) (y :: b) = lexI (cmpI x y) (cmpNs a b) := rfl
    have hx2 : (UInt8.ofNat x).toNat = x := by rw [UInt8.toNat_ofNat']; omega
    have hy2 : (UInt8.ofNat y).toNat = y := by rw [UInt8.toNat_ofNat']; omega
    rw [e1, e2, e3, Op.bytesLess, ih]
    unfold lexI cmpI
    rcases Nat.lt_trichotomy x y with h | h | h
    · have l1 : UInt8.ofNat x < UInt8.ofNat y := by rw [UInt8.lt_iff_toNat_lt, hx2, hy2]; exact h
      simp [l1, show (x : Int) < (y : Int) by omega]
    · subst h
      simp
    · have l1 : ¬ UInt8.ofNat x < UInt8.ofNat y := by rw [UInt8.lt_iff_toNat_lt, hx2, hy2]; omega
      have l2 : ¬ UInt8.ofNat x = UInt8.ofNat y := fun e => by
        have := congrArg UInt8.toNat e
        rw [hx2, hy2] at this; omega
      simp [l1, l2, show ¬ (x : Int) < (y : Int) by omega, show (y : Int) < (x : Int) by omega]
theorem strU_less {a b : List Nat} (ha : ∀ x ∈ a, x < 256) (hb : ∀ x ∈ b, x < 256) : Op.bytesLess (strU a).toList (strU b).toList = decide (cmpNs a b = -1) := by
  unfold strU
  rw [Lib.strOfNums_toList, Lib.strOfNums_toList, less_cmp a b ha hb]
theorem cmpNs_ord : IsOrd cmpNs := cmpLs_ord (cmpI_ord.via fun x : Nat => (x : Int))
theorem cmpNs_same : ∀ a b : List Nat, cmpNs a b = 0 → a = b
  | [], [], _ => rfl
  | [], _ :: _, h => by simp [cmpNs, cmpLs] at h
  | _ :: _, [], h => by simp [cmpNs, cmpLs] at h
  | x :: a, y :: b, h => by
    have e : lexI (cmpI x y) (cmpNs a b) = 0 := h
    unfold lexI cmpI at e
    have e1 : x = y := by
      rcases Nat.lt_trichotomy x y with h | h | h
      · simp [show (x : Int) < (y : Int) by omega] at e
      · exact h
      · simp [show ¬ (x : Int) < (y : Int) by omega, show (y : Int) < (x : Int) by omega] at e
    have e2 : cmpNs a b = 0 := by
      subst e1
      simpa using e
    rw [e1, cmpNs_same a b e2]
set_option maxHeartbeats 1000000 in
theorem order_any (p q : Option Addr) (a b : List Nat) (c d : Nat) (w : World) (h1 : HoldsU w p a) (h2 : HoldsU w q b) (ha : ∀ x ∈ a, x < 256) (hb : ∀ x ∈ b, x < 256) :
    Calls Try.prog 19 #[.slice p a.length c, .slice q b.length d] w fun e w' => e = .returned (.int .i64 (cmpNs a b)) ∧ w = w' := by
  have C1 := conv_any w p c a h1
  have C2 := conv_any w q d b h2
  have HL := strU_less ha hb
  have HE := strU_eq ha hb
  have hr := cmpNs_ord.rng a b
  have hs := cmpNs_same a b
  obtain ⟨x, hx⟩ : ∃ x, cmpNs a b = x := ⟨_, rfl⟩
  have hself : a = b → x = 0 := by
    rintro rfl
    have := cmpNs_ord.anti a a
    omega
  rw [hx] at hr hs HL ⊢
  generalize strU a = s at *
  generalize strU b = t at *
  clear h1 h2 ha hb hx
  rcases hr with rfl | rfl | rfl
  · rw [decide_eq_true rfl] at HL
    clear HE hs hself
    go_enter Try.func19, Try.ntmps19
    go_wp2_with (fail)
    go_ret
    exact ⟨rfl, rfl⟩
  · rw [decide_eq_false (by decide)] at HL
    rw [decide_eq_true (hs rfl)] at HE
    clear hs hself
    go_enter Try.func19, Try.ntmps19
    go_wp2_with (fail)
    go_ret
    exact ⟨rfl, rfl⟩
  · rw [decide_eq_false (by decide)] at HL
    rw [decide_eq_false (fun e => by have := hself e; omega)] at HE
    clear hs hself
    go_enter Try.func19, Try.ntmps19
    go_wp2_with (fail)
    go_ret
    exact ⟨rfl, rfl⟩
/-! ## a label is read from its bytes -/
theorem read_pack {l : List Int} (h : checkP l = 0) : readP (packB (bitsL l)) = some l ∧ (packB (bitsL l)).length ≤ 120 := by
  obtain ⟨h1, h2, h3⟩ := checkP_ok h
  have hl : (packB (bitsL l)).length ≤ 120 := by rw [packB_length]; exact h3
  refine ⟨?_, hl⟩
  have hn : numsP (packB (bitsL l)) = l := by
    unfold numsP
    rw [unpack_pack]
    refine numsB_bits l _ _ h1 ?_
    have := bitsL_length h1
    rw [packB_length]
    omega
  unfold readP
  rw [if_neg (by omega), hn, if_pos ⟨h, rfl⟩]
theorem read_facts {b : List Nat} {m : List Int} (h : readP b = some m) : checkP m = 0 ∧ packB (bitsL m) = b := by
  unfold readP at h
  split at h
  · cases h
  · split at h
    · rename_i h1
      injection h with h
      subst h
      exact h1
    · cases h
end Go.Proofs.Ytaiiigknlnhdgaa
