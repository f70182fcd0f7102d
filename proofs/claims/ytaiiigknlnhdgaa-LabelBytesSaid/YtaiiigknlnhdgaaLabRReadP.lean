/- Proved here: plain facts on the document's way of reading a label: each number stands where the label's stands, and the noughts begin where the label ends. -/
import Derived.Test.YtaiiigknlnhdgaaLabRNum
import Derived.Test.YtaiiigknlnhdgaaLabSame
namespace Go.Proofs.Ytaiiigknlnhdgaa
open Go.RowKit

theorem numR_size (D : List Bool) : (numR D).2 ≤ D.length := by
  unfold numR
  simp only
  split
  · exact Nat.zero_le _
  · simp only; omega
theorem bits_split {b : List Nat} {m : List Int} (h : readP b = some m) : ∃ p, unpackB b = bitsL m ++ List.replicate p false := by
  have hf := read_facts h
  rw [← hf.2, unpack_pack]
  exact ⟨_, rfl⟩
theorem getD_pad (a : List Bool) (p j : Nat) (h : a.length ≤ j) : (a ++ List.replicate p false).getD j false = false := by
  rw [getD_app_ge _ _ _ h, List.getD_eq_getElem?_getD]
  rcases Nat.lt_or_ge (j - a.length) p with q | q
  · rw [List.getElem?_replicate, if_pos q]; rfl
  · rw [List.getElem?_replicate, if_neg (by omega)]; rfl
theorem bitsL_at (m : List Int) (k : Nat) (hk : k < m.length) : bitsL m = bitsL (m.take k) ++ (bitsV (m.getD k 0) ++ bitsL (m.drop (k + 1))) := by
  have e : bitsL m = bitsL (m.take (k + 1)) ++ bitsL (m.drop (k + 1)) := by
    unfold bitsL
    rw [← List.flatMap_append, List.take_append_drop]
  rw [e, bitsL_take m k hk, List.append_assoc]
/-- Where only noughts are left all numbers are read. -/
theorem rd_end {b : List Nat} {m : List Int} (h : readP b = some m) {k : Nat} (hk : k ≤ m.length) (hr : ∀ j, (bitsL (m.take k)).length ≤ j → (unpackB b).getD j false = false) : k = m.length := by
  rcases Nat.lt_or_ge k m.length with q | q
  · obtain ⟨p, hp⟩ := bits_split h
    have hin := (checkP_ok (read_facts h).1).1 _ (getD_mem q)
    obtain ⟨i, -, hi⟩ := bitsV_one hin
    have hil : i < (bitsV (m.getD k 0)).length := by
      rcases Nat.lt_or_ge i (bitsV (m.getD k 0)).length with x | x
      · exact x
      · rw [getD_over _ _ x] at hi; exact absurd hi (by decide)
    have e := hr ((bitsL (m.take k)).length + i) (by omega)
    rw [hp, bitsL_at m k q, List.append_assoc, getD_app_ge _ _ _ (by omega), List.append_assoc, getD_app_lt _ _ _ (by omega), show (bitsL (m.take k)).length + i - (bitsL (m.take k)).length = i by omega, hi] at e
    exact absurd e (by decide)
  · omega
/-- Where more than noughts are left the next number stands. -/
theorem rd_step {b : List Nat} {m : List Int} (h : readP b = some m) {k : Nat} (hk : k ≤ m.length) {j : Nat} (hj : (bitsL (m.take k)).length ≤ j) (hb : (unpackB b).getD j false = true) :
    k < m.length ∧ (numR ((unpackB b).drop (bitsL (m.take k)).length)).2 ≠ 0 ∧ (numR ((unpackB b).drop (bitsL (m.take k)).length)).1 = m.getD k 0 ∧ (bitsL (m.take k)).length + (numR ((unpackB b).drop (bitsL (m.take k)).length)).2 = (bitsL (m.take (k + 1))).length ∧ m.take k ++ [m.getD k 0] = m.take (k + 1) := by
  obtain ⟨p, hp⟩ := bits_split h
  have q : k < m.length := by
    rcases Nat.lt_or_ge k m.length with q | q
    · exact q
    · rw [List.take_of_length_le q] at hj
      rw [hp, getD_pad _ _ _ hj] at hb
      exact absurd hb (by decide)
  have hin := (checkP_ok (read_facts h).1).1 _ (getD_mem q)
  have hd : (unpackB b).drop (bitsL (m.take k)).length = bitsV (m.getD k 0) ++ (bitsL (m.drop (k + 1)) ++ List.replicate p false) := by
    rw [hp, bitsL_at m k q, List.append_assoc, List.drop_left, List.append_assoc]
  have h31 := digN_31 hin
  have hn := numB_bits hin (bitsL (m.drop (k + 1)) ++ List.replicate p false)
  have hs : numR ((unpackB b).drop (bitsL (m.take k)).length) = (m.getD k 0, 2 * digN (rowN (m.getD k 0))) := by
    rw [hd, numR_same (by rw [hn]; simp only; omega), hn]
  rw [hs]
  refine ⟨q, by simp only; omega, rfl, ?_, ?_⟩
  · rw [bitsL_take m k q, List.length_append, bitsV_length hin]
  · rw [List.take_add_one, List.getElem?_eq_getElem q, List.getD_eq_getElem?_getD, List.getElem?_eq_getElem q]; rfl
/-- What the document's Read tells of bytes. -/
def RReadPost (w : World) (r : Option (List Int)) (e : Ending) (w' : World) : Prop :=
  Below w.heap.size w w' ∧ ((∃ q n c, r = none ∧ e = .returned (.tuple #[.slice q n c, .bool false])) ∨ (∃ m q c, r = some m ∧ e = .returned (.tuple #[.slice q m.length c, .bool true]) ∧ HoldsI w' q m ∧ m.length ≤ c))
def RRdRel (w : World) (b : List Nat) (U : List Bool) (v7 v8 : Value) (wr : World) : Prop :=
  ∃ (t : Nat) (acc : List Int) (q : Option Addr) (c : Nat), v7 = .slice q acc.length c ∧ v8 = .int .i64 (t : Int) ∧ t ≤ U.length ∧ Hid (OwnI wr w.heap.size q c acc ∧ Below w.heap.size w wr ∧ acc.length ≤ t ∧ (∀ m, readP b = some m → ∃ k, k ≤ m.length ∧ acc = m.take k ∧ t = (bitsL (m.take k)).length))
end Go.Proofs.Ytaiiigknlnhdgaa
