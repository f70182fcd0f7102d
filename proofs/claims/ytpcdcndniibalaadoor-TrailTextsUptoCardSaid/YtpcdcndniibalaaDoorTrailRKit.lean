/- Proved here: what the walk of the document's Read leans on: how its trail lies in memory, bytes and lists. -/
import Derived.Test.YtpcdcndniibalaaDoorTrailRRight
import Derived.Test.YtpcdcndniibalaaDoorTrailRPlain
import Derived.Laws.Rows
namespace Go.Proofs.YtpcdcndniibalaaDoor
open Go.RowKit

structure TRSt (w W : World) (a : Bool) (u n : ByteArray) (acc : List Int) : Prop where
  own : ∃ q c, W.heap[w.heap.size + 1]? = some (.cells #[.slice q acc.length c, .bool a, .string u, .string n] 34) ∧ OwnI W (w.heap.size + 2) q c acc
  res : W.heap[w.heap.size]? = some (.cells #[.slice none 0 0, .bool false, .string ⟨#[]⟩, .string ⟨#[]⟩] 34)
  below : Below w.heap.size w W
  size : w.heap.size + 2 ≤ W.heap.size
theorem TRSt.first (w : World) : TRSt w ((w.alloc (.cells #[.slice none 0 0, .bool false, .string ⟨#[]⟩, .string ⟨#[]⟩] 34)).alloc (.cells #[.slice none 0 0, .bool false, .string ⟨#[]⟩, .string ⟨#[]⟩] 34)) false ⟨#[]⟩ ⟨#[]⟩ [] :=
  ⟨⟨none, 0, t_two w _ _, OwnI.nil _ _⟩, t_first w _ _, ((Below.refl _ _).alloc (Nat.le_refl _) _).alloc (by simp) _, by simp⟩
/-- A number more. -/
theorem TRSt.next {w W : World} {a : Bool} {u n : ByteArray} {acc : List Int} (h : TRSt w W a u n acc) (x : Int) (hl : acc.length ≤ 64) : ∃ q c g cap w4, W.heap[w.heap.size + 1]? = some (.cells #[.slice q acc.length c, .bool a, .string u, .string n] 34) ∧
    (∀ ty, (Builtin.append_ #[22, 22] ty #[.slice q acc.length c, .slice (some ⟨W.heap.size, 0, none⟩) 1 1]).run Tryd.prog (W.alloc (.cells #[.int .i64 x] 3)) = .ok (.slice (some ⟨g, 0, none⟩) (acc.length + 1) cap) w4) ∧
    w4.heap[w.heap.size + 1]? = some (.cells #[.slice q acc.length c, .bool a, .string u, .string n] 34) ∧
    TRSt w (w4.setCell ⟨w.heap.size + 1, 0, none⟩ (.slice (some ⟨g, 0, none⟩) (acc.length + 1) cap)) a u n (acc ++ [x]) := by
  obtain ⟨q, c, hblk, hown⟩ := h.own
  obtain ⟨g, cap, w4, hrun, hown4, hgrow⟩ := appendI_one (x := x) hown h.size (by omega)
  have hblk4 := own_apart hgrow hown hblk (by omega)
  have hres4 := own_apart hgrow hown h.res (by omega)
  have hb4 : Below w.heap.size w w4 := h.below.grown hgrow h.below.size (fun k e => by have := World.ownsRow.lt hown.1 k e; omega)
  refine ⟨q, c, g, cap, w4, hblk, hrun, hblk4, ⟨⟨some ⟨g, 0, none⟩, cap, ?_, hown4.setCell (by simp) _⟩, ?_, hb4.setCell (by simp) _, ?_⟩⟩
  · rw [show (acc ++ [x]).length = acc.length + 1 by simp]
    exact t_setCell_row _ hblk4
  · rw [Below.heap_setCell _ _ _ _ (by simp)]; exact hres4
  · have h1 := hgrow.size
    have h2 := h.size
    have h3 : (w4.setCell ⟨w.heap.size + 1, 0, none⟩ (.slice (some ⟨g, 0, none⟩) (acc.length + 1) cap)).heap.size = w4.heap.size := by simp
    omega
theorem TRSt.attr {w W : World} {u n : ByteArray} {a : Bool} {acc : List Int} (h : TRSt w W a u n acc) (b : Bool) : TRSt w (W.setCell ⟨w.heap.size + 1, 1, none⟩ (.bool b)) b u n acc := by
  obtain ⟨q, c, hblk, hown⟩ := h.own
  exact ⟨⟨q, c, t_setCell_row _ hblk, hown.setCell (by simp) _⟩, by rw [Below.heap_setCell _ _ _ _ (by simp)]; exact h.res, h.below.setCell (by simp) _, by simpa using h.size⟩
theorem TRSt.loc {w W : World} {u n : ByteArray} {a : Bool} {acc : List Int} (h : TRSt w W a u n acc) (x : ByteArray) : TRSt w (W.setCell ⟨w.heap.size + 1, 3, none⟩ (.string x)) a u x acc := by
  obtain ⟨q, c, hblk, hown⟩ := h.own
  exact ⟨⟨q, c, t_setCell_row _ hblk, hown.setCell (by simp) _⟩, by rw [Below.heap_setCell _ _ _ _ (by simp)]; exact h.res, h.below.setCell (by simp) _, by simpa using h.size⟩
theorem TRSt.uri {w W : World} {u n : ByteArray} {a : Bool} {acc : List Int} (h : TRSt w W a u n acc) (x : ByteArray) : TRSt w (W.setCell ⟨w.heap.size + 1, 2, none⟩ (.string x)) a x n acc := by
  obtain ⟨q, c, hblk, hown⟩ := h.own
  exact ⟨⟨q, c, t_setCell_row _ hblk, hown.setCell (by simp) _⟩, by rw [Below.heap_setCell _ _ _ _ (by simp)]; exact h.res, h.below.setCell (by simp) _, by simpa using h.size⟩
theorem TRSt.far {w W W' : World} {u n : ByteArray} {a : Bool} {acc : List Int} (h : TRSt w W a u n acc) (hb : Below W.heap.size W W') : TRSt w W' a u n acc := by
  obtain ⟨q, c, hblk, hown⟩ := h.own
  exact ⟨⟨q, c, (hb.block _ (by have := h.size; omega)).trans hblk, hown.far hb⟩, (hb.block _ (by have := h.size; omega)).trans h.res, t_cat h.below hb, Nat.le_trans h.size hb.size⟩
def RReadPost (w : World) (s : List UInt8) (e : Ending) (w' : World) : Prop := ∃ q d t ok, e = .returned (.tuple #[TrV q d t, .bool ok]) ∧ TrAt w' q d t ∧ Below w.heap.size w w' ∧ readR s = if ok then some t else none
/-- What is answered, laid into the result's block: the trail read. -/
theorem TRSt.post {w W : World} {u n : ByteArray} {a : Bool} {acc : List Int} (h : TRSt w W a u n acc) (hl : acc.length ≤ 64) (s : List UInt8) (ok : Bool) (hr : readR s = if ok then some ⟨acc, a, u, n⟩ else none) :
    ∃ q c, W.heap[w.heap.size + 1]? = some (.cells #[.slice q acc.length c, .bool a, .string u, .string n] 34) ∧ TrAt W q c ⟨acc, a, u, n⟩ ∧
      (setT W w.heap.size (.slice q acc.length c) (.bool a) (.string u) (.string n)).heap[w.heap.size]? = some (.cells #[.slice q acc.length c, .bool a, .string u, .string n] 34) ∧
      RReadPost w s (.returned (.tuple #[.agg #[.slice q acc.length c, .bool a, .string u, .string n], .bool ok])) (setT W w.heap.size (.slice q acc.length c) (.bool a) (.string u) (.string n)) := by
  obtain ⟨q, c, hblk, hown⟩ := h.own
  have hat : TrAt W q c ⟨acc, a, u, n⟩ := ⟨hown.holds, hown.2.2, by show acc.length ≤ _; omega⟩
  exact ⟨q, c, hblk, hat, setT_row _ _ _ _ h.res, q, c, ⟨acc, a, u, n⟩, ok, rfl, ⟨hat.1.setT _ _ _ _ h.res, hat.2⟩, setT_below _ _ _ _ h.below (Nat.le_refl _), hr⟩
/-- .. nothing. -/
theorem TRSt.postN {w W : World} {u n : ByteArray} {a : Bool} {acc : List Int} (h : TRSt w W a u n acc) (s : List UInt8) (hr : readR s = none) :
    (setT W w.heap.size (.slice none 0 0) (.bool false) (.string ⟨#[]⟩) (.string ⟨#[]⟩)).heap[w.heap.size]? = some (.cells #[.slice none 0 0, .bool false, .string ⟨#[]⟩, .string ⟨#[]⟩] 34) ∧
      RReadPost w s (.returned (.tuple #[.agg #[.slice none 0 0, .bool false, .string ⟨#[]⟩, .string ⟨#[]⟩], .bool false])) (setT W w.heap.size (.slice none 0 0) (.bool false) (.string ⟨#[]⟩) (.string ⟨#[]⟩)) :=
  ⟨setT_row _ _ _ _ h.res, none, 0, trZ, false, rfl, ⟨fun q => absurd q (Nat.lt_irrefl 0), Nat.le_refl _, Nat.zero_le _⟩, setT_below _ _ _ _ h.below (Nat.le_refl _), hr⟩
theorem b_drop (s : ByteArray) (k : Nat) (h : k < s.size) : s.data.toList.drop k = s[k] :: s.data.toList.drop (k + 1) := by
  rw [List.drop_eq_getElem_cons (by rw [Array.length_toList]; exact h)]
  rfl
theorem b_end (s : ByteArray) : s.data.toList.drop s.size = [] := List.drop_eq_nil_of_le (by rw [ba_size]; exact Nat.le_refl _)
theorem b_len (s : ByteArray) (k : Nat) : (s.data.toList.drop k).length = s.size - k := by rw [List.length_drop, ba_size]
theorem u8_int {x : UInt8} {n : Nat} (hn : n < 256) : ((x.toNat : Int) = (n : Int)) ↔ x = UInt8.ofNat n := by
  constructor
  · intro h
    rw [← UInt8.toNat_inj, UInt8.toNat_ofNat', Nat.mod_eq_of_lt hn]; omega
  · rintro rfl
    rw [UInt8.toNat_ofNat', Nat.mod_eq_of_lt hn]
theorem stepsR_stop (f : Nat) (acc : List Int) (l : List UInt8) (h : ∀ a c r, l = a :: c :: r → ¬ (a = 47 ∧ c ≠ 64)) : stepsR f acc l = some (acc, l) := by
  cases f with
  | zero => rfl
  | succ f =>
    match l, h with
    | [], _ => rfl
    | [_], _ => rfl
    | a :: c :: r, h =>
      simp only [stepsR]
      rw [if_neg (h a c r rfl)]
theorem stepsR_go (f : Nat) (acc : List Int) (a c : UInt8) (r : List UInt8) (ha : a = 47) (hc : c ≠ 64) : stepsR (f + 1) acc (a :: c :: r) =
    if (digR 9 0 (c :: r)).2.length = (c :: r).length ∨ (c = 48 ∧ (digR 9 0 (c :: r)).2.length + 1 < (c :: r).length) ∨ acc.length = 64 then none
         else stepsR f (acc ++ [((digR 9 0 (c :: r)).1 : Int)]) (digR 9 0 (c :: r)).2 := by
  simp only [stepsR]
  rw [if_pos ⟨ha, hc⟩]
theorem digR_stop (k m : Nat) (l : List UInt8) (h : k = 0 ∨ ∀ c r, l = c :: r → isDig c = false) : digR k m l = (m, l) := by
  cases k with
  | zero => rfl
  | succ k =>
    cases l with
    | nil => rfl
    | cons c r =>
      unfold digR
      rcases h with h | h
      · omega
      · rw [if_neg (by rw [h c r rfl]; decide)]
theorem digR_go (k m : Nat) (c : UInt8) (l : List UInt8) (h : isDig c = true) : digR (k + 1) m (c :: l) = digR k (10 * m + (c.toNat - 48)) l := by
  rw [digR, if_pos h]
theorem readR_no {s : List UInt8} (hne : s ≠ [47]) (h : stepsR s.length [] s = none) : readR s = none := by
  unfold readR
  rw [if_neg hne, h]
theorem readR_tail {s l : List UInt8} {acc : List Int} (hne : s ≠ [47]) (h : stepsR s.length [] s = some (acc, l)) (h2 : tailR acc s.length l = none) : readR s = none := by
  unfold readR
  rw [if_neg hne, h]
  simp only [h2]
theorem readR_yes {s l : List UInt8} {acc : List Int} {t : Tr} (hne : s ≠ [47]) (h : stepsR s.length [] s = some (acc, l)) (h2 : tailR acc s.length l = some t) (h3 : t.attr = false) : readR s = some t := by
  unfold readR
  rw [if_neg hne, h]
  simp only [h2, h3, if_true]
theorem readR_attr {s l : List UInt8} {acc : List Int} {t : Tr} (hne : s ≠ [47]) (h : stepsR s.length [] s = some (acc, l)) (h2 : tailR acc s.length l = some t) (h3 : t.attr = true) : readR s = if rightT t then some t else none := by
  unfold readR
  rw [if_neg hne, h]
  simp only [h2, h3, Bool.true_eq_false, if_false]
/-- The tail's ways. -/
theorem tailR_nil (acc : List Int) (n : Nat) (h : n ≠ 0) : tailR acc n [] = some ⟨acc, false, ⟨#[]⟩, ⟨#[]⟩⟩ := by
  simp only [tailR]; rw [if_neg h]
theorem tailR_one (acc : List Int) (n : Nat) (a : UInt8) : tailR acc n [a] = none := rfl
theorem tailR_off (acc : List Int) (n : Nat) (a c : UInt8) (r : List UInt8) (h : ¬ (a = 47 ∧ c = 64)) : tailR acc n (a :: c :: r) = none := by
  simp only [tailR]; rw [if_neg h]
theorem tailR_bare (acc : List Int) (n : Nat) (r nm : List UInt8) (h : nameR r = (nm, none)) : tailR acc n (47 :: 64 :: r) = some ⟨acc, true, ⟨#[]⟩, ⟨nm.toArray⟩⟩ := by
  simp only [tailR]; rw [if_pos (by simp), h]
theorem tailR_bad (acc : List Int) (n : Nat) (r nm sp : List UInt8) (h : nameR r = (nm, some sp)) (h2 : sp.length < 2 ∨ sp.getLast? ≠ some 125) : tailR acc n (47 :: 64 :: r) = none := by
  simp only [tailR]; rw [if_pos (by simp), h]; simp only; rw [if_pos h2]
theorem tailR_space (acc : List Int) (n : Nat) (r nm sp : List UInt8) (h : nameR r = (nm, some sp)) (h2 : ¬ (sp.length < 2 ∨ sp.getLast? ≠ some 125)) : tailR acc n (47 :: 64 :: r) = some ⟨acc, true, ⟨sp.dropLast.toArray⟩, ⟨nm.toArray⟩⟩ := by
  simp only [tailR]; rw [if_pos (by simp), h]; simp only; rw [if_neg h2]
/-- The name, as far as it was gone through. -/
theorem nameR_stop (c : UInt8) (l : List UInt8) (h : c = 123) : nameR (c :: l) = ([], some l) := by
  unfold nameR; rw [if_pos h]
theorem nameR_go (c : UInt8) (l : List UInt8) (h : ¬ c = 123) : nameR (c :: l) = (c :: (nameR l).1, (nameR l).2) := by
  rw [nameR, if_neg h]
/-- One step of a text, behind its digits. -/
theorem stepsR_num {f : Nat} {acc : List Int} {s : ByteArray} {j j1 j2 i m : Nat} {RES : Option (List Int × List UInt8)} (h : stepsR (f + 1) acc (s.data.toList.drop j) = RES) (hj1 : j + 1 = j1) (hj2 : j + 2 = j2) (hA : j1 < s.size) (ha : s[j]'(by omega) = 47) (hc : s[j1] ≠ 64) (hi : j1 ≤ i) (hi2 : i ≤ s.size)
    (hd : digR 9 0 (s.data.toList.drop j1) = (m, s.data.toList.drop i)) :
    (i = j1 ∨ (s[j1] = 48 ∧ j2 < i) ∨ acc.length = 64 → RES = none) ∧ (¬ (i = j1 ∨ (s[j1] = 48 ∧ j2 < i) ∨ acc.length = 64) → stepsR f (acc ++ [(m : Int)]) (s.data.toList.drop i) = RES) := by
  subst hj1
  have hlen := b_len s (j + 1)
  rw [b_drop s j (by omega), b_drop s (j + 1) hA, stepsR_go f acc _ _ _ ha hc, ← b_drop s (j + 1) hA, hd] at h
  simp only [b_len] at h
  have e1 : (s.size - i = s.size - (j + 1)) ↔ i = j + 1 := by omega
  have e2 : (s.size - i + 1 < s.size - (j + 1)) ↔ j2 < i := by omega
  constructor
  · intro q
    rw [← e1, ← e2] at q
    rw [if_pos q] at h
    exact h.symm
  · intro q
    rw [← e1, ← e2] at q
    rw [if_neg q] at h
    exact h
theorem pow_le8 {m a : Nat} (h : m < 10 ^ a) (ha : a ≤ 8) : m < 100000000 := by
  have : 10 ^ a ≤ 10 ^ 8 := Nat.pow_le_pow_right (by decide) ha
  omega
theorem dig_bound {m a d : Nat} (h : m < 10 ^ a) (hd : d < 10) : 10 * m + d < 10 ^ (a + 1) := by
  rw [Nat.pow_succ]; omega
theorem is_dig {x : UInt8} (h1 : 48 ≤ x.toNat) (h2 : x.toNat ≤ 57) : isDig x = true := by
  simp only [isDig, Bool.and_eq_true, decide_eq_true_eq]; exact ⟨h1, h2⟩
theorem no_dig {x : UInt8} (h : ¬ (48 ≤ x.toNat ∧ x.toNat ≤ 57)) : isDig x = false := by
  simp only [isDig, Bool.and_eq_false_iff, decide_eq_false_iff_not]; omega
theorem ext_from (s : ByteArray) (a b : Nat) : (s.extract a b).data.toList = (s.data.toList.drop a).take (b - a) := by rw [Lib.extract_data]
theorem last_of (s : ByteArray) (k : Nat) (h : k < s.size) : (s.data.toList.drop k).getLast? = some (s[s.size - 1]'(by omega)) := by
  rw [List.getLast?_drop, if_neg (by rw [ba_size]; omega), List.getLast?_eq_getElem?, ba_size]
  rw [List.getElem?_eq_getElem (by rw [ba_size]; omega)]
  rfl
theorem drop_last (s : ByteArray) (k : Nat) (h : k < s.size) : (s.data.toList.drop k).dropLast = (s.extract k (s.size - 1)).data.toList := by
  rw [ext_from, List.dropLast_eq_take, b_len]
  congr 1; omega
end Go.Proofs.YtpcdcndniibalaaDoor
