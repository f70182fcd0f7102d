/- Proved here: what trail.guess answers of every text. -/
import Derived.Test.YtpcdcndniibalaaDoorTrailRow
import Derived.Laws.Rows
namespace Go.Proofs.YtpcdcndniibalaaDoor
open Go.RowKit

theorem ba_size (s : ByteArray) : s.data.toList.length = s.size := by
  rw [Array.length_toList]; rfl
theorem t_back (s : ByteArray) : (⟨s.data.toList.toArray⟩ : ByteArray) = s := rfl
def GuessPost (w : World) (t : Tr) (e : Ending) (w' : World) : Prop := ∃ q d, e = .returned (TrV q d t) ∧ TrAt w' q d t ∧ (q = none → d = 0) ∧ Below w.heap.size w w'
theorem cutAt (s sep a b : ByteArray) (f : Bool) (hc : Lib.cut s.data.toList sep.data.toList = (a.data.toList, b.data.toList, f)) (w : World) (hs : s.size ≤ 4194304) (hm : ∃ m, w.cell? ⟨2, 0, none⟩ = some (.int .i64 m)) :
    Calls Tryd.prog 37 #[.string s, .string sep] w fun e w' => e = .returned (.tuple #[.string a, .string b, .bool f]) ∧ ∃ n, w' = w.drewN n := by
  obtain ⟨m, hm⟩ := hm
  have h := Tryd.strings_Cut s sep m w (by omega) hm
  rw [hc] at h
  exact h
theorem trimAt (s sep a : ByteArray) (hc : Lib.trimSuffix s.data.toList sep.data.toList = a.data.toList) (w : World) (hs : s.size ≤ 4194304) :
    Calls Tryd.prog 38 #[.string s, .string sep] w fun e w' => e = .returned (.string a) ∧ w' = w := by
  have h := Tryd.strings_TrimSuffix s sep w (by omega)
  rw [hc] at h
  exact h
theorem splitAt (s : ByteArray) (L : List ByteArray) (N : Nat) (hL : Lib.splitB ⟨#[47]⟩ 0 (Lib.countB s ⟨#[47]⟩) s = L) (hN : Lib.countB s ⟨#[47]⟩ = N) (w : World) (hs : s.size ≤ 4194304) (hm : ∃ m, w.cell? ⟨2, 0, none⟩ = some (.int .i64 m)) :
    Calls Tryd.prog 40 #[.string s, .string ⟨#[47]⟩] w fun e w' => e = .returned (.slice (some ⟨w.heap.size, 0, none⟩) (N + 1) (N + 1)) ∧ w' = w.alloc (.cells ((L.map Value.string).toArray) 9) := by
  obtain ⟨m, hm⟩ := hm
  have h := Tryd.strings_Split s ⟨#[47]⟩ m w (by omega) hm (by decide)
  rw [hL, hN] at h
  exact h
theorem t_first (w : World) (o p : Obj) : ((w.alloc o).alloc p).heap[w.heap.size]? = some o := by
  show ((w.heap.push o).push p)[w.heap.size]? = some o
  rw [Array.getElem?_push_lt (by simp), Array.getElem_push_eq]
theorem heap_alloc_size (w : World) (o : Obj) : (w.alloc o).heap.size = w.heap.size + 1 := by simp
/-- While nothing stands in the trail's numbers: its block, the result's, and what was there. -/
structure St0 (w W : World) (a : Bool) (u n : ByteArray) : Prop where
  below : Below w.heap.size w W
  mine : W.heap[w.heap.size + 1]? = some (.cells #[.slice none 0 0, .bool a, .string u, .string n] 26)
  res : W.heap[w.heap.size]? = some (.cells #[.slice none 0 0, .bool false, .string ⟨#[]⟩, .string ⟨#[]⟩] 26)
  size : w.heap.size + 2 ≤ W.heap.size
theorem St0.of {w W : World} {a : Bool} {u n : ByteArray} (h : Below w.heap.size w W ∧ W.heap[w.heap.size + 1]? = some (.cells #[.slice none 0 0, .bool a, .string u, .string n] 26) ∧ W.heap[w.heap.size]? = some (.cells #[.slice none 0 0, .bool false, .string ⟨#[]⟩, .string ⟨#[]⟩] 26) ∧ w.heap.size + 2 ≤ W.heap.size) (k : Nat) : St0 w (W.drewN k) a u n :=
  ⟨t_cat h.1 (t_drewN _ _), h.2.1, h.2.2.1, h.2.2.2⟩
theorem St0.far {w W W' : World} {a : Bool} {u n : ByteArray} (h : St0 w W a u n) (hb : Below W.heap.size W W') : St0 w W' a u n :=
  ⟨t_cat h.below hb, (hb.block _ (by have := h.size; omega)).trans h.mine, (hb.block _ (by have := h.size; omega)).trans h.res, Nat.le_trans h.size hb.size⟩
theorem St0.named {w W : World} {a : Bool} {u n : ByteArray} (h : St0 w W a u n) (x y : ByteArray) : St0 w (((W.setCell ⟨w.heap.size + 1, 1, none⟩ (.bool true)).setCell ⟨w.heap.size + 1, 2, none⟩ (.string x)).setCell ⟨w.heap.size + 1, 3, none⟩ (.string y)) true x y :=
  ⟨((h.below.setCell (by simp) _).setCell (by simp) _).setCell (by simp) _, t_setCell_row _ (t_setCell_row _ (t_setCell_row _ h.mine)), by
    rw [Below.heap_setCell _ _ _ _ (by simp), Below.heap_setCell _ _ _ _ (by simp), Below.heap_setCell _ _ _ _ (by simp)]; exact h.res, by simpa using h.size⟩
/-- The words stand in a row of their own. -/
structure St1 (w W : World) (Q : Nat) (a : Bool) (u n : ByteArray) (L : List ByteArray) : Prop extends St0 w W a u n where
  word : ∀ {k : Nat}, k < L.length → W.cell? ⟨Q, k, none⟩ = some (.string (L.getD k ⟨#[]⟩))
theorem St0.split {w W : World} {a : Bool} {u n : ByteArray} (h : St0 w W a u n) (L : List ByteArray) : St1 w (W.alloc (.cells ((L.map Value.string).toArray) 9)) W.heap.size a u n L :=
  { h.far ((Below.refl _ _).alloc (Nat.le_refl _) _) with
    word := fun {k} hk => by
      rw [cell_of_row _ _ k _ 9 (0, 0) (heap_alloc_new W _)]
      simp [List.getD, List.getElem?_eq_getElem hk] }
theorem St1.makes {w W : World} {Q : Nat} {a : Bool} {u n : ByteArray} {L : List ByteArray} (h : St1 w W Q a u n L) {B : Nat} : Makes W B (w.heap.size + 1) a u n [] := ⟨none, 0, h.mine, OwnI.nil _ _⟩
theorem Makes.far {W W' : World} {B G : Nat} {a : Bool} {u n : ByteArray} {l : List Int} (h : Makes W B G a u n l) (hb : Below W.heap.size W W') (hG : G < W.heap.size) : Makes W' B G a u n l := by
  obtain ⟨q, c, h1, h2⟩ := h
  exact ⟨q, c, (hb.block _ hG).trans h1, h2.far hb⟩
theorem own_apart {W W' : World} {B G : Nat} {q : Option Addr} {c : Nat} {l : List Int} {o : Obj} (hg : W.grownBy W' (Value.slice q l.length c).ownBlock) (ho : OwnI W B q c l) (hb : W.heap[G]? = some o) (hG : G < B) : W'.heap[G]? = some o := by
  rw [hg.block G (Array.getElem?_eq_some_iff.1 hb).1 (fun e => by have := World.ownsRow.lt ho.1 G e.symm; omega)]
  exact hb
theorem Makes.next {W : World} {B G g cap : Nat} {k : Nat} {q : Option Addr} {c : Nat} {a : Bool} {u n : ByteArray} {l : List Int} (h : OwnI W B (some ⟨g, 0, none⟩) cap l) (hb : W.heap[G]? = some (.cells #[.slice q k c, .bool a, .string u, .string n] 26)) (hG : G < B) (hk : l.length = k + 1) : Makes (W.setCell ⟨G, 0, none⟩ (.slice (some ⟨g, 0, none⟩) (k + 1) cap)) B G a u n l :=
  ⟨some ⟨g, 0, none⟩, cap, by rw [hk]; exact t_setCell_row _ hb, h.setCell (by exact hG) _⟩
theorem getD_mem {l : List ByteArray} {k : Nat} (h : k < l.length) : l.getD k ⟨#[]⟩ ∈ l := by
  have e : l.getD k ⟨#[]⟩ = l[k] := by simp [List.getD, List.getElem?_eq_getElem h]
  rw [e]; exact List.getElem_mem h
theorem take_one {L : List ByteArray} {k : Nat} (h : k + 1 < L.length) : ((L.drop 1).take k).map (fun x => atoiV x.data.toList) ++ [atoiV (L.getD (k + 1) ⟨#[]⟩).data.toList] = ((L.drop 1).take (k + 1)).map (fun x => atoiV x.data.toList) := by
  have h2 : k < (L.drop 1).length := by rw [List.length_drop]; omega
  rw [List.take_succ_eq_append_getElem h2, List.map_append]
  have e : L.getD (k + 1) ⟨#[]⟩ = (L.drop 1)[k] := by simp [List.getD, List.getElem?_eq_getElem h, Nat.add_comm]
  rw [e]; rfl
/-- What is answered, laid into the result's block. -/
theorem guess_post {w wr : World} {B : Nat} {q : Option Addr} {c : Nat} {a : Bool} {u n : ByteArray} {l : List Int} (hown : OwnI wr B q c l) (hres : wr.heap[w.heap.size]? = some (.cells #[.slice none 0 0, .bool false, .string ⟨#[]⟩, .string ⟨#[]⟩] 26)) (hblk : wr.heap[w.heap.size + 1]? = some (.cells #[.slice q l.length c, .bool a, .string u, .string n] 26)) (hbl : Below w.heap.size w wr) (hB : w.heap.size < B) (hl : l.length ≤ 140737488355328) :
    GuessPost w ⟨l, a, u, n⟩ (.returned (.agg #[.slice q l.length c, .bool a, .string u, .string n])) (setT wr w.heap.size (.slice q l.length c) (.bool a) (.string u) (.string n)) ∧ (setT wr w.heap.size (.slice q l.length c) (.bool a) (.string u) (.string n)).heap[w.heap.size]? = some (.cells #[.slice q l.length c, .bool a, .string u, .string n] 26) := by
  refine ⟨⟨q, c, rfl, ⟨?_, hown.2.2, hl⟩, hown.2.1, setT_below _ _ _ _ hbl (Nat.le_refl _)⟩, setT_row _ _ _ _ hres⟩
  exact OwnI.holds (B := B) ((((hown.setCell (a := ⟨w.heap.size, 0, none⟩) hB _).setCell (a := ⟨w.heap.size, 1, none⟩) hB _).setCell (a := ⟨w.heap.size, 2, none⟩) hB _).setCell (a := ⟨w.heap.size, 3, none⟩) hB _)
end Go.Proofs.YtpcdcndniibalaaDoor
