/- Proved here: what trail.Up answers. -/
import Derived.Test.YtpcdcndniibalaaDoorTrailUp
import Derived.Laws.ResultCell
namespace Go.Proofs.YtpcdcndniibalaaDoor
open Go.RowKit

/-- What a trail stands in; false: nothing. -/
def upT (t : Tr) : Tr × Bool := if t.attr then (⟨t.steps, false, ⟨#[]⟩, ⟨#[]⟩⟩, true) else if t.steps.length = 0 then (⟨[], false, ⟨#[]⟩, ⟨#[]⟩⟩, false) else (⟨t.steps.take (t.steps.length - 1), false, ⟨#[]⟩, ⟨#[]⟩⟩, true)
def UpPost (w : World) (u : Tr × Bool) (e : Ending) (w' : World) : Prop := ∃ q d, e = .returned (.tuple #[TrV q d u.1, .bool u.2]) ∧ TrAt w' q d u.1 ∧ (q = none → d = 0) ∧ Below w.heap.size w w'
theorem t_setCell_row {w : World} {G k : Nat} {row : Array Value} {T : TypeId} (v : Value) (h : w.heap[G]? = some (.cells row T)) : (w.setCell ⟨G, k, none⟩ v).heap[G]? = some (.cells (row.setIfInBounds k v) T) := by
  show (w.heap.modify G _)[G]? = _
  rw [Array.getElem?_modify, if_pos rfl, h]
  rfl
/-- A trail laid into its four cells. -/
def setT (w : World) (G : Nat) (s a u l : Value) : World := (((w.setCell ⟨G, 0, none⟩ s).setCell ⟨G, 1, none⟩ a).setCell ⟨G, 2, none⟩ u).setCell ⟨G, 3, none⟩ l
theorem setT_row {w : World} {G : Nat} {a0 a1 a2 a3 : Value} {T : TypeId} (s a u l : Value) (h : w.heap[G]? = some (.cells #[a0, a1, a2, a3] T)) : (setT w G s a u l).heap[G]? = some (.cells #[s, a, u, l] T) :=
  t_setCell_row l (t_setCell_row u (t_setCell_row a (t_setCell_row s h)))
theorem setT_below {B : Nat} {w W : World} {G : Nat} (s a u l : Value) (h : Below B w W) (hG : B ≤ G) : Below B w (setT W G s a u l) := (((h.setCell hG s).setCell hG a).setCell hG u).setCell hG l
theorem setT_keep (w : World) {G g : Nat} (s a u l : Value) (h : g ≠ G) : (setT w G s a u l).heap[g]? = w.heap[g]? := by
  unfold setT
  rw [Below.heap_setCell _ _ _ _ h, Below.heap_setCell _ _ _ _ h, Below.heap_setCell _ _ _ _ h, Below.heap_setCell _ _ _ _ h]
theorem t_cells {w : World} {G : Nat} {a0 a1 a2 a3 : Value} {T : TypeId} (h : w.heap[G]? = some (.cells #[a0, a1, a2, a3] T)) :
    (w.cell? ⟨G, 0, none⟩ = some a0 ∧ w.cell? ⟨G, 1, none⟩ = some a1 ∧ w.cell? ⟨G, 2, none⟩ = some a2 ∧ w.cell? ⟨G, 3, none⟩ = some a3) ∧
    (w.frozen? ⟨G, 0, none⟩ = false ∧ w.frozen? ⟨G, 1, none⟩ = false ∧ w.frozen? ⟨G, 2, none⟩ = false ∧ w.frozen? ⟨G, 3, none⟩ = false) := by
  refine ⟨⟨?_, ?_, ?_, ?_⟩, ⟨?_, ?_, ?_, ?_⟩⟩
  all_goals simp [World.cell?, World.frozen?, h]
theorem t_two (w : World) (o p : Obj) : ((w.alloc o).alloc p).heap[w.heap.size + 1]? = some p := by
  have h : (w.alloc o).heap.size = w.heap.size + 1 := by simp
  rw [← h]
  show ((w.alloc o).heap.push p)[(w.alloc o).heap.size]? = some p
  exact Array.getElem?_push_size
/-- Numbers lie apart from a trail's own cells. -/
theorem t_apart {w : World} {G g o : Nat} {x : Int} {p : Option Addr} {n c : Nat} {a : Bool} {u l : ByteArray} {T : TypeId} (h : w.heap[G]? = some (.cells #[.slice p n c, .bool a, .string u, .string l] T)) (hc : w.cell? ⟨g, o, none⟩ = some (.int .i64 x)) : g ≠ G := by
  rintro rfl
  simp [World.cell?, h] at hc
  obtain ⟨hlt, he⟩ := List.getElem?_eq_some_iff.1 hc
  have : o = 0 ∨ o = 1 ∨ o = 2 ∨ o = 3 := by simp at hlt; omega
  rcases this with rfl | rfl | rfl | rfl <;> cases he
/-- A trail laid into its cells: its numbers stay. -/
theorem HoldsI.setT {w : World} {q : Option Addr} {m : List Int} {G : Nat} {p : Option Addr} {n c : Nat} {b : Bool} {x y : ByteArray} {T : TypeId} (s a u l : Value) (h : HoldsI w q m) (hb : w.heap[G]? = some (.cells #[.slice p n c, .bool b, .string x, .string y] T)) : HoldsI (setT w G s a u l) q m := fun h0 => by
  obtain ⟨g, off, e, hc⟩ := h h0
  refine ⟨g, off, e, fun j hj => ?_⟩
  rw [World.cell?_of_block (w := w) (a := ⟨g, off + j, none⟩) (setT_keep w s a u l (t_apart hb (hc j hj)))]
  exact hc j hj

set_option maxRecDepth 100000 in
set_option maxHeartbeats 2000000 in
theorem up_attr (p : Option Addr) (c : Nat) (t : Tr) (w : World) (h : TrAt w p c t) (hn : p = none → c = 0) (hsz : t.steps.length * 8 ≤ 140737488355328) (ha : t.attr = true) :
    Calls Tryd.prog 17 #[TrV p c t] w (UpPost w (⟨t.steps, false, ⟨#[]⟩, ⟨#[]⟩⟩, true)) := by
  have C := Lib.hid (fun W (y : Below w.heap.size w W) => cloneI_any p t.steps c W (h.1.below y) hn hsz)
  have P9 := Lib.hid (show ∀ q d W, HoldsI W q t.steps → t.steps.length ≤ d → (q = none → d = 0) → Below w.heap.size w W → UpPost w (⟨t.steps, false, ⟨#[]⟩, ⟨#[]⟩⟩, true) (.returned (.tuple #[.agg #[.slice q t.steps.length d, .bool false, .string ⟨#[]⟩, .string ⟨#[]⟩], .bool true])) W from
    fun q d W k l n b => ⟨q, d, rfl, ⟨k, l, h.2.2⟩, n, b⟩)
  have l0 : (t.steps.length : Int) ≤ 140737488355328 := by have := h.2.2; omega
  unfold TrV
  rw [ha]
  clear h hn hsz ha
  go_enter Tryd.func17, Tryd.ntmps17
  go_wp2_with (fail)
  refine (C.out _ (((Below.refl _ _).alloc (Nat.le_refl _) _).alloc (by simp) _)).mono ?_
  rintro e w2 ⟨q, d, rfl, hq, hd, hqn, hb⟩
  have hblk := (hb.block (w.heap.size + 1) (by simp)).trans (t_two _ _ _)
  have hlow := (((Below.refl _ w).alloc (Nat.le_refl _) _).alloc (by simp) _).trans (hb.mono (by simp; omega))
  obtain ⟨⟨c0, c1, c2, c3⟩, ⟨f0, f1, f2, f3⟩⟩ := t_cells hblk
  have HQ := Lib.hid (And.intro hq (And.intro hd (And.intro hqn (And.intro hlow hblk))))
  clear hq hd hqn hb hlow hblk
  go_wp2_with (fail)
  change bodyPost _ _ _ _ _ (setT w2 (w.heap.size + 1) (.slice q t.steps.length d) (.bool false) (.string ⟨#[]⟩) (.string ⟨#[]⟩))
  obtain ⟨w9, hw9⟩ : ∃ W, setT w2 (w.heap.size + 1) (.slice q t.steps.length d) (.bool false) (.string ⟨#[]⟩) (.string ⟨#[]⟩) = W := ⟨_, rfl⟩
  obtain ⟨hq, hd, hqn, hlow, hblk⟩ := HQ.out
  have r9 := setT_row (.slice q t.steps.length d) (.bool false) (.string ⟨#[]⟩) (.string ⟨#[]⟩) hblk
  have b9 := setT_below (.slice q t.steps.length d) (.bool false) (.string ⟨#[]⟩) (.string ⟨#[]⟩) hlow (G := w.heap.size + 1) (by omega)
  have k9 := hq.setT (.slice q t.steps.length d) (.bool false) (.string ⟨#[]⟩) (.string ⟨#[]⟩) hblk
  rw [hw9] at r9 b9 k9 ⊢
  obtain ⟨⟨d0, d1, d2, d3⟩, _⟩ := t_cells r9
  refine bodyPost_ret (v := .tuple #[.agg #[.slice q t.steps.length d, .bool false, .string ⟨#[]⟩, .string ⟨#[]⟩], .bool true]) ?_ rfl ?_
  · rw [results_cell_tmp rfl]
    go_simp
  · exact P9.out q d w9 k9 hd hqn b9
set_option maxRecDepth 100000 in
set_option maxHeartbeats 2000000 in
theorem up_step (p : Option Addr) (c : Nat) (t : Tr) (w : World) (h : TrAt w p c t) (hn : p = none → c = 0) (hsz : t.steps.length * 8 ≤ 140737488355328) (ha : t.attr = false) (m : Nat) (hm : t.steps.length = m + 1) :
    Calls Tryd.prog 17 #[TrV p c t] w (UpPost w (⟨t.steps.take m, false, ⟨#[]⟩, ⟨#[]⟩⟩, true)) := by
  have tk : (t.steps.take m).length = m := by rw [List.length_take]; omega
  have C := Lib.hid (fun W (y : Below w.heap.size w W) => cloneI_any p (t.steps.take m) c W ((h.1.take m).below y) hn (by rw [tk]; omega))
  have P9 := Lib.hid (show ∀ q d W, HoldsI W q (t.steps.take m) → m ≤ d → (q = none → d = 0) → Below w.heap.size w W → UpPost w (⟨t.steps.take m, false, ⟨#[]⟩, ⟨#[]⟩⟩, true) (.returned (.tuple #[.agg #[.slice q m d, .bool false, .string ⟨#[]⟩, .string ⟨#[]⟩], .bool true])) W from
    fun q d W k l n b => ⟨q, d, by show _ = Ending.returned (.tuple #[.agg #[.slice q (t.steps.take m).length d, _, _, _], _]); rw [tk], ⟨k, by show (t.steps.take m).length ≤ d; omega, by show (t.steps.take m).length ≤ _; have := h.2.2; omega⟩, n, b⟩)
  rw [tk] at C
  have l0 : (m : Int) + 1 ≤ 140737488355328 := by have := h.2.2; omega
  have l1 : (m : Int) ≤ (c : Int) := by have := h.2.1; omega
  unfold TrV
  rw [ha, hm]
  have e1 : ((m + 1 : Nat) : Int) - 1 = (m : Int) := by omega
  clear h hn hsz ha hm tk
  go_enter Tryd.func17, Tryd.ntmps17
  go_wp2_with (fail)
  refine (C.out _ (((Below.refl _ _).alloc (Nat.le_refl _) _).alloc (by simp) _)).mono ?_
  rintro e w2 ⟨q, d, rfl, hq, hd, hqn, hb⟩
  have hblk := (hb.block (w.heap.size + 1) (by simp)).trans (t_two _ _ _)
  have hlow := (((Below.refl _ w).alloc (Nat.le_refl _) _).alloc (by simp) _).trans (hb.mono (by simp; omega))
  obtain ⟨⟨c0, c1, c2, c3⟩, ⟨f0, f1, f2, f3⟩⟩ := t_cells hblk
  have HQ := Lib.hid (And.intro hq (And.intro hd (And.intro hqn (And.intro hlow hblk))))
  clear hq hd hqn hb hlow hblk
  go_wp2_with (fail)
  change bodyPost _ _ _ _ _ (setT w2 (w.heap.size + 1) (.slice q m d) (.bool false) (.string ⟨#[]⟩) (.string ⟨#[]⟩))
  obtain ⟨w9, hw9⟩ : ∃ W, setT w2 (w.heap.size + 1) (.slice q m d) (.bool false) (.string ⟨#[]⟩) (.string ⟨#[]⟩) = W := ⟨_, rfl⟩
  obtain ⟨hq, hd, hqn, hlow, hblk⟩ := HQ.out
  have r9 := setT_row (.slice q m d) (.bool false) (.string ⟨#[]⟩) (.string ⟨#[]⟩) hblk
  have b9 := setT_below (.slice q m d) (.bool false) (.string ⟨#[]⟩) (.string ⟨#[]⟩) hlow (G := w.heap.size + 1) (by omega)
  have k9 := hq.setT (.slice q m d) (.bool false) (.string ⟨#[]⟩) (.string ⟨#[]⟩) hblk
  rw [hw9] at r9 b9 k9 ⊢
  obtain ⟨⟨d0, d1, d2, d3⟩, _⟩ := t_cells r9
  refine bodyPost_ret (v := .tuple #[.agg #[.slice q m d, .bool false, .string ⟨#[]⟩, .string ⟨#[]⟩], .bool true]) ?_ rfl ?_
  · rw [results_cell_tmp rfl]
    go_simp
  · exact P9.out q d w9 k9 hd hqn b9
set_option maxRecDepth 100000 in
set_option maxHeartbeats 2000000 in
theorem up_top (p : Option Addr) (c : Nat) (t : Tr) (w : World) (ha : t.attr = false) (hm : t.steps.length = 0) :
    Calls Tryd.prog 17 #[TrV p c t] w (UpPost w (⟨[], false, ⟨#[]⟩, ⟨#[]⟩⟩, false)) := by
  unfold TrV
  rw [ha, hm]
  clear ha hm
  go_enter Tryd.func17, Tryd.ntmps17
  go_wp2_with (fail)
  refine bodyPost_ret (v := .tuple #[.agg #[.slice none 0 0, .bool false, .string ⟨#[]⟩, .string ⟨#[]⟩], .bool false]) ?_ rfl ?_
  · rw [results_cell_tmp rfl]
    go_simp
  · exact ⟨none, 0, rfl, ⟨fun h => absurd h (by decide), Nat.le_refl _, Nat.zero_le _⟩, fun _ => rfl, ((Below.refl _ w).alloc (Nat.le_refl _) _).alloc (by simp) _⟩
theorem up_any (p : Option Addr) (c : Nat) (t : Tr) (w : World) (h : TrAt w p c t) (hn : p = none → c = 0) (hsz : t.steps.length * 8 ≤ 140737488355328) :
    Calls Tryd.prog 17 #[TrV p c t] w (UpPost w (upT t)) := by
  unfold upT
  cases ha : t.attr
  · rw [if_neg (by simp)]
    by_cases h0 : t.steps.length = 0
    · rw [if_pos h0]
      exact up_top p c t w ha h0
    · rw [if_neg h0]
      exact up_step p c t w h hn hsz ha (t.steps.length - 1) (by omega)
  · rw [if_pos rfl]
    exact up_attr p c t w h hn hsz ha
end Go.Proofs.YtpcdcndniibalaaDoor
