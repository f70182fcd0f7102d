/- Proved here: char.Split answers splitF of every string. -/
import Derived.Test.YtcfecnleibeegaaGreatDoorSplit
import Derived.Lib.Hide
namespace Go.Proofs.YtcfecnleibeegaaGreatDoor
open Go.RowKit

theorem index_lt (q : ByteArray) : Lib.indexByte q.data.toList 58 = -1 ∨ ∃ i : Nat, Lib.indexByte q.data.toList 58 = i ∧ i < q.size := by
  have hg := Lib.indexByte_ge q.data.toList 58
  by_cases h : Lib.indexByte q.data.toList 58 = -1
  · exact .inl h
  · right
    obtain ⟨i, hi⟩ : ∃ i : Nat, Lib.indexByte q.data.toList 58 = i := ⟨(Lib.indexByte q.data.toList 58).toNat, by omega⟩
    refine ⟨i, hi, ?_⟩
    have h1 := (Lib.indexByte_some hi).1
    have h2 := (List.getElem?_eq_some_iff.1 h1).1
    simpa using h2

theorem splitF_none (q : ByteArray) (h : Lib.indexByte q.data.toList 58 = -1) : splitF q = if nameB q then (sEmpty, q, true) else (sEmpty, sEmpty, false) := by
  unfold splitF
  rw [h, if_neg (by omega)]
theorem splitF_at (q : ByteArray) (i : Nat) (h : Lib.indexByte q.data.toList 58 = i) : splitF q = if nameB (q.extract 0 i) && nameB (q.extract (i + 1) q.size) then (q.extract 0 i, q.extract (i + 1) q.size, true) else (sEmpty, sEmpty, false) := by
  unfold splitF
  rw [h, if_pos (by omega), Int.toNat_natCast]
  simp only [Bool.and_eq_true]

theorem split_any (q : ByteArray) (w : World) (hT : Tabs w) (hq : q.size ≤ 140737488355328) :
    Calls Tryz.prog 99 #[.string q] w fun e w' => e = .returned (.tuple #[.string (splitF q).1, .string (splitF q).2.1, .bool (splitF q).2.2]) ∧ Below w.heap.size w w' := by
  rcases index_lt q with h | ⟨i, h, hi⟩
  · rw [splitF_none q h]
    cases hn : nameB q
    · exact split_none q false w hT hq h hn
    · exact split_none q true w hT hq h hn
  · rw [splitF_at q i h]
    have hp : (q.extract 0 i).size ≤ 140737488355328 := by simp; omega
    have hl : (q.extract (i + 1) q.size).size ≤ 140737488355328 := by simp; omega
    have c := cut_hit q i w h hi hq
    generalize q.extract 0 i = p at *
    generalize q.extract (i + 1) q.size = l at *
    refine (split_walk q p l (nameB p) (nameB l) w hT hp hl c rfl rfl).mono ?_
    rintro e w' ⟨rfl, hb⟩
    refine ⟨?_, hb⟩
    cases nameB p <;> cases nameB l <;> rfl
end Go.Proofs.YtcfecnleibeegaaGreatDoor
