/- Proved here: TreeOrders answers true of any three names. -/
import Derived.Test.YtmgeejjpoiaglaaDoorAwake5
import Derived.Test.YtmgeejjpoiaglaaDoorOrdPlain
namespace Go.Proofs.YtmgeejjpoiaglaaDoor
open Go.RowKit Go.Shelf

theorem less_is : ∀ a b : List UInt8, Op.bytesLess a b = decide (Lib.compareBytes a b < 0)
  | [], [] => rfl
  | [], _ :: _ => rfl
  | _ :: _, [] => rfl
  | a :: x, b :: y => by
    rw [Op.bytesLess, Lib.compareBytes, less_is x y]
    by_cases h1 : a < b
    · simp [h1]
    · by_cases h2 : b < a
      · have h3 : ¬ a = b := fun e => by subst e; exact h1 h2
        simp [h1, h2, h3]
      · have h3 : a = b := UInt8.le_antisymm (UInt8.not_lt.1 h2) (UInt8.not_lt.1 h1)
        subst h3
        simp [h1]
theorem zero_is : ∀ a b : List UInt8, (Lib.compareBytes a b = 0) ↔ a = b
  | [], [] => by simp [Lib.compareBytes]
  | [], _ :: _ => by simp [Lib.compareBytes]
  | _ :: _, [] => by simp [Lib.compareBytes]
  | a :: x, b :: y => by
    rw [Lib.compareBytes]
    by_cases h1 : a < b
    · have h3 : ¬ a = b := fun e => by subst e; exact absurd h1 (UInt8.lt_irrefl a)
      simp [h1, h3]
    · by_cases h2 : b < a
      · have h3 : ¬ a = b := fun e => by subst e; exact h1 h2
        simp [h1, h2, h3]
      · have h3 : a = b := UInt8.le_antisymm (UInt8.not_lt.1 h2) (UInt8.not_lt.1 h1)
        subst h3
        simp [h1, zero_is x y]
abbrev Nm := ByteArray × ByteArray
def cmpNm (a b : Nm) : Int := ordN a.1 a.2 b.1 b.2
theorem cmpNm_ord : IsOrd cmpNm := (cmpBytes_ord.via fun a : Nm => a.1.data.toList).lex (cmpBytes_ord.via fun a : Nm => a.2.data.toList)
theorem cmpNm_zero (a b : Nm) : (cmpNm a b = 0) ↔ (a.1 == b.1 && a.2 == b.2) = true := by
  rw [Go.beq_toListBytes, Go.beq_toListBytes, ByteArray.toList_eq, ByteArray.toList_eq, ByteArray.toList_eq, ByteArray.toList_eq]
  have e : cmpNm a b = if Lib.compareBytes a.1.data.toList b.1.data.toList = 0 then Lib.compareBytes a.2.data.toList b.2.data.toList else Lib.compareBytes a.1.data.toList b.1.data.toList := rfl
  rw [e]
  clear e
  generalize a.1.data.toList = A1
  generalize b.1.data.toList = B1
  generalize a.2.data.toList = A2
  generalize b.2.data.toList = B2
  by_cases h : Lib.compareBytes A1 B1 = 0
  · rw [if_pos h, zero_is]
    have := (zero_is _ _).1 h
    simp [this]
  · rw [if_neg h]
    have : ¬ A1 = B1 := fun e => h ((zero_is _ _).2 e)
    simp [h, this]
def beforeB (a b : Nm) : Bool := Op.bytesLess a.1.toList b.1.toList || (a.1.toList == b.1.toList && Op.bytesLess a.2.toList b.2.toList)
theorem before_is (a b : Nm) : beforeB a b = decide (cmpNm a b < 0) := by
  unfold beforeB
  rw [ByteArray.toList_eq, ByteArray.toList_eq, ByteArray.toList_eq, ByteArray.toList_eq, less_is, less_is]
  have e : cmpNm a b = if Lib.compareBytes a.1.data.toList b.1.data.toList = 0 then Lib.compareBytes a.2.data.toList b.2.data.toList else Lib.compareBytes a.1.data.toList b.1.data.toList := rfl
  rw [e]
  clear e
  generalize a.1.data.toList = A1
  generalize b.1.data.toList = B1
  generalize a.2.data.toList = A2
  generalize b.2.data.toList = B2
  by_cases h : Lib.compareBytes A1 B1 = 0
  · rw [if_pos h]
    have := (zero_is _ _).1 h
    simp [this]
    rw [this] at h
    simp [h]
  · rw [if_neg h]
    have : ¬ A1 = B1 := fun e => h ((zero_is _ _).2 e)
    simp [this]
theorem before_any (u l v m : ByteArray) (w : World) : Calls Tryd.prog 7 #[.agg #[.string u, .string l], .agg #[.string v, .string m]] w fun e w' => e = .returned (.bool (beforeB (u, l) (v, m))) ∧ Below w.heap.size w w' := by
  have hB : ∀ (o1 o2 : Obj), Below w.heap.size w ((w.alloc o1).alloc o2) := fun o1 o2 => ((Below.refl _ _).alloc (Nat.le_refl _) _).alloc (by simp) _
  cases h1 : Op.bytesLess u.toList v.toList
  · by_cases h2 : u.toList = v.toList
    · have h3 := h1
      rw [h2] at h3
      go_enter Tryd.func7, Tryd.ntmps7
      go_wp2_with (fail)
      go_ret
      exact ⟨ret_bb (by unfold beforeB; simp [*]), hB _ _⟩
    · go_enter Tryd.func7, Tryd.ntmps7
      go_wp2_with (fail)
      go_ret
      exact ⟨ret_bb (by unfold beforeB; simp [*]), hB _ _⟩
  · go_enter Tryd.func7, Tryd.ntmps7
    go_wp2_with (fail)
    go_ret
    exact ⟨ret_bb (by unfold beforeB; simp [h1]), hB _ _⟩
/-- The three names in the law's own variables stand. -/
def NmS (w : World) (n : Nat) (a b c : Nm) (W : World) : Prop := Below w.heap.size w W ∧ W.cell? ⟨n, 0, none⟩ = some (.string a.1) ∧ W.cell? ⟨n, 1, none⟩ = some (.string a.2) ∧ W.cell? ⟨n + 1, 0, none⟩ = some (.string b.1) ∧ W.cell? ⟨n + 1, 1, none⟩ = some (.string b.2) ∧ W.cell? ⟨n + 2, 0, none⟩ = some (.string c.1) ∧ W.cell? ⟨n + 2, 1, none⟩ = some (.string c.2)
theorem NmS.below {w : World} {n : Nat} {a b c : Nm} {W W' : World} (h : NmS w n a b c W) (k : Below W.heap.size W W') : NmS w n a b c W' :=
  ⟨below_cat5 h.1 k, t_cell' k h.2.1, t_cell' k h.2.2.1, t_cell' k h.2.2.2.1, t_cell' k h.2.2.2.2.1, t_cell' k h.2.2.2.2.2.1, t_cell' k h.2.2.2.2.2.2⟩
theorem NmS.made (w : World) (a b c : Nm) : NmS w w.heap.size a b c (((w.alloc (.cells #[.string a.1, .string a.2] 23)).alloc (.cells #[.string b.1, .string b.2] 23)).alloc (.cells #[.string c.1, .string c.2] 23)) := by
  have h1 := heap_alloc_new w (.cells #[.string a.1, .string a.2] 23)
  have h2 := heap_alloc_new (w.alloc (.cells #[.string a.1, .string a.2] 23)) (.cells #[.string b.1, .string b.2] 23)
  have h3 := heap_alloc_new ((w.alloc (.cells #[.string a.1, .string a.2] 23)).alloc (.cells #[.string b.1, .string b.2] 23)) (.cells #[.string c.1, .string c.2] 23)
  rw [World.size_alloc] at h2
  rw [World.size_alloc, World.size_alloc] at h3
  have g1 := (Below.heap_alloc (w.alloc (.cells #[.string a.1, .string a.2] 23)) (.cells #[.string b.1, .string b.2] 23) w.heap.size (by simp)).trans h1
  have f1 := (Below.heap_alloc ((w.alloc (.cells #[.string a.1, .string a.2] 23)).alloc (.cells #[.string b.1, .string b.2] 23)) (.cells #[.string c.1, .string c.2] 23) w.heap.size (by simp <;> omega)).trans g1
  have f2 := (Below.heap_alloc ((w.alloc (.cells #[.string a.1, .string a.2] 23)).alloc (.cells #[.string b.1, .string b.2] 23)) (.cells #[.string c.1, .string c.2] 23) (w.heap.size + 1) (by simp <;> omega)).trans h2
  exact ⟨(((Below.refl _ _).alloc (Nat.le_refl _) _).alloc (by simp) _).alloc (by simp <;> omega) _, cell_of_row _ _ 0 _ _ _ f1, cell_of_row _ _ 1 _ _ _ f1, cell_of_row _ _ 0 _ _ _ f2, cell_of_row _ _ 1 _ _ _ f2, cell_of_row _ _ 0 _ _ _ h3, cell_of_row _ _ 1 _ _ _ h3⟩
end Go.Proofs.YtmgeejjpoiaglaaDoor
