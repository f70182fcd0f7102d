/- Proved here: char.Split answers splitF of every string; and the statements' own first look (awake) answers true in every world that holds the library's two tables. -/
import Derived.Test.YtiibmpjfkgohpaaDoorSplit
import Derived.Lib.Hide
namespace Go.Proofs.YtiibmpjfkgohpaaDoor
open Go.RowKit

theorem index_lt (q : ByteArray) : Lib.indexByte q.data.toList 58 = -1 ∨ ∃ i : Nat, Lib.indexByte q.data.toList 58 = i ∧ i < q.size := by
  have hg := Lib.indexByte_ge q.data.toList 58
  by_cases h : Lib.indexByte q.data.toList 58 = -1
  · exact .inl h
  · right
    obtain ⟨i, hi⟩ : ∃ i : Nat, Lib.indexByte q.data.toList 58 = i := ⟨(Lib.indexByte q.data.toList 58).toNat, by omega⟩
    refine ⟨i, hi, ?_⟩
    have h1 := (Lib.indexByte_some hi).1
    have h2 := (List.getElem?_eq_some_iff.1 h1).1
    simpa using h2

theorem splitF_none (q : ByteArray) (h : Lib.indexByte q.data.toList 58 = -1) : splitF q = if nameB q then (sEmpty, q, true) else (sEmpty, sEmpty, false) := by
  unfold splitF
  rw [h, if_neg (by omega)]
theorem splitF_at (q : ByteArray) (i : Nat) (h : Lib.indexByte q.data.toList 58 = i) : splitF q = if nameB (q.extract 0 i) && nameB (q.extract (i + 1) q.size) then (q.extract 0 i, q.extract (i + 1) q.size, true) else (sEmpty, sEmpty, false) := by
  unfold splitF
  rw [h, if_pos (by omega), Int.toNat_natCast]
  simp only [Bool.and_eq_true]

theorem split_any (q : ByteArray) (w : World) (hT : Tabs w) (hq : q.size ≤ 140737488355328) :
    Calls Tryd.prog 23 #[.string q] w fun e w' => e = .returned (.tuple #[.string (splitF q).1, .string (splitF q).2.1, .bool (splitF q).2.2]) ∧ Below w.heap.size w w' := by
  rcases index_lt q with h | ⟨i, h, hi⟩
  · rw [splitF_none q h]
    cases hn : nameB q
    · exact split_none q false w hT hq h hn
    · exact split_none q true w hT hq h hn
  · rw [splitF_at q i h]
    have hp : (q.extract 0 i).size ≤ 140737488355328 := by simp; omega
    have hl : (q.extract (i + 1) q.size).size ≤ 140737488355328 := by simp; omega
    have c := cut_hit q i w h hi hq
    generalize q.extract 0 i = p at *
    generalize q.extract (i + 1) q.size = l at *
    refine (split_walk q p l (nameB p) (nameB l) w hT hp hl c rfl rfl).mono ?_
    rintro e w' ⟨rfl, hb⟩
    refine ⟨?_, hb⟩
    cases nameB p <;> cases nameB l <;> rfl

theorem get_two (s : ByteArray) (w : World) (C : Array Value) (hC : C = s.data.map fun b => Value.int .u8 b.toNat) : ∀ j, j < s.size → (w.alloc (.cells C 5)).cell? ⟨w.heap.size, 0 + j, none⟩ = some (.int .u8 (s.get! j).toNat) := by
  intro j hj
  rw [Nat.zero_add]
  have e : s.get! j = s.data[j]'hj := by
    show s.data[j]! = _
    rw [getElem!_pos s.data j hj]
  rw [e, hC]
  have hh : (w.alloc (.cells (s.data.map fun b => Value.int .u8 (b.toNat : Int)) 5)).heap[w.heap.size]? = some (.cells (s.data.map fun b => Value.int .u8 (b.toNat : Int)) 5) := by
    show (w.heap.push _)[w.heap.size]? = _
    simp
  rw [cell_of_row _ _ _ _ _ _ hh]
  simp [Array.getElem?_eq_getElem (show j < s.data.size from hj)]

set_option maxHeartbeats 2000000 in
theorem awake_any (w : World) (hT : Tabs w) : Calls Tryd.prog 12 #[] w fun e w' => e = .returned (.bool true) ∧ Below w.heap.size w w' := by
  have HT := Lib.hid hT
  have CN : ∀ C : Array Value, C = #[.int .u8 195, .int .u8 169] → Calls Tryd.prog 19 #[.slice (some ⟨w.heap.size, 0, none⟩) 2 2, .int .i64 0] (w.alloc (.cells C 5)) fun e w' => e = .returned (.tuple #[.int .i32 233, .int .i64 2, .int .i64 0]) ∧ Below (w.heap.size + 1) (w.alloc (.cells C 5)) w' := by
    intro C hC
    have h := next_in ⟨#[195, 169]⟩ w.heap.size 0 2 0 (w.alloc (.cells C 5)) (hT.below ((Below.refl _ _).alloc (Nat.le_refl _) _)) (by decide) (by decide) (by decide) (get_two ⟨#[195, 169]⟩ w C (by rw [hC]; simp))
    have hz : (w.alloc (.cells C 5)).heap.size = w.heap.size + 1 := by simp
    rw [hz] at h
    exact h
  have HN := Lib.hid (CN _ rfl)
  have S1 := Lib.hid (fun W (h : Tabs W) => split_any ⟨#[97, 58, 98]⟩ W h (by decide))
  rw [show splitF ⟨#[97, 58, 98]⟩ = (⟨#[97]⟩, ⟨#[98]⟩, true) by decide +kernel] at S1
  have N1 := Lib.hid (fun W (h : Tabs W) => name_any ⟨#[97, 45, 49]⟩ W h (by decide))
  rw [show nameB ⟨#[97, 45, 49]⟩ = true by decide +kernel] at N1
  have N2 := Lib.hid (fun W (h : Tabs W) => name_any ⟨#[49, 97]⟩ W h (by decide))
  rw [show nameB ⟨#[49, 97]⟩ = false by decide +kernel] at N2
  clear CN hT
  go_enter Tryd.func12, Tryd.ntmps12
  go_wp2_with (fail)
  refine HN.out.mono ?_
  rintro e w1 ⟨rfl, hb1⟩
  have hB1 : Below w.heap.size w w1 := ((Below.refl _ _).alloc (Nat.le_refl _) _).trans (hb1.mono (Nat.le_succ _))
  clear hb1
  go_wp2_with (fail)
  refine (S1.out _ (HT.out.below hB1)).mono ?_
  rintro e w2 ⟨rfl, hb2⟩
  have hB2 := below_cat hB1 hb2
  clear hb2
  go_wp2_with (fail)
  refine (N1.out _ (HT.out.below hB2)).mono ?_
  rintro e w3 ⟨rfl, hb3⟩
  have hB3 := below_cat hB2 hb3
  clear hb3
  go_wp2_with (fail)
  refine (N2.out _ (HT.out.below hB3)).mono ?_
  rintro e w4 ⟨rfl, hb4⟩
  have hB4 := below_cat hB3 hb4
  clear hb4
  go_wp2_with (fail)
  go_ret
  exact ⟨rfl, hB4⟩
end Go.Proofs.YtiibmpjfkgohpaaDoor
