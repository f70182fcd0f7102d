/- Proved here: Copy's visit lays a node's copy. -/
import Derived.Test.YtfmlmdfehaajbaaGreatDoorCopyA
import Derived.Test.YtfmlmdfehaajbaaGreatDoorTreeArg
import Derived.Test.YtfmlmdfehaajbaaGreatDoorNameOrd
import Derived.WalkSpells
import Derived.Laws.MakeOwn
namespace Go.Proofs.YtfmlmdfehaajbaaGreatDoor
open Go.RowKit Go.Shelf

/-- A node's six cells at (d, q) say v; the other cells of the block, and all other blocks that were there, stand. -/
structure VSt (w : World) (d q : Nat) (arr : Array Value) (v : Nat → Value) (W : World) : Prop where
  row : ∃ arr', W.heap[d]? = some (.cells arr' 27 (0, 0)) ∧ arr'.size = arr.size ∧ (∀ j, (j < q ∨ q + 6 ≤ j) → arr'[j]? = arr[j]?) ∧ ∀ j, j < 6 → arr'[q + j]? = some (v j)
  oth : ∀ k, k < w.heap.size → k ≠ d → W.heap[k]? = w.heap[k]?
  os : W.os = w.os
  tape : W.tape = w.tape
  output : W.output = w.output
  size : w.heap.size ≤ W.heap.size
theorem VSt.lt {w : World} {d q : Nat} {arr : Array Value} {v : Nat → Value} {W : World} (h : VSt w d q arr v W) : d < W.heap.size := by
  obtain ⟨_, h1, _⟩ := h.row
  exact it_lt h1
theorem VSt.cell {w : World} {d q : Nat} {arr : Array Value} {v : Nat → Value} {W : World} (h : VSt w d q arr v W) (j : Nat) (hj : j < 6) : W.cell? ⟨d, q + j, none⟩ = some (v j) := by
  obtain ⟨arr', h1, _, _, h4⟩ := h.row
  rw [cell_of_row _ _ _ _ _ _ h1]
  exact h4 j hj
theorem VSt.frozen {w : World} {d q : Nat} {arr : Array Value} {v : Nat → Value} {W : World} (h : VSt w d q arr v W) (o : Nat) : W.frozen? ⟨d, o, none⟩ = false := by
  obtain ⟨arr', h1, _⟩ := h.row
  exact frozen_of_row _ _ _ _ _ h1
theorem VSt.far {w : World} {d q : Nat} {arr : Array Value} {v : Nat → Value} {W W' : World} (h : VSt w d q arr v W) (k : Below W.heap.size W W') : VSt w d q arr v W' where
  row := by
    obtain ⟨arr', h1, h2⟩ := h.row
    exact ⟨arr', (k.block _ (it_lt h1)).trans h1, h2⟩
  oth := fun j hj hd => (k.block j (Nat.lt_of_lt_of_le hj h.size)).trans (h.oth j hj hd)
  os := k.os.trans h.os
  tape := k.tape.trans h.tape
  output := k.output.trans h.output
  size := Nat.le_trans h.size k.size
theorem VSt.set {w : World} {d q : Nat} {arr : Array Value} {v : Nat → Value} {W : World} (h : VSt w d q arr v W) (hq : q + 6 ≤ arr.size) (j : Nat) (hj : j < 6) (u : Value) : VSt w d q arr (fun i => if i = j then u else v i) (W.setCell ⟨d, q + j, none⟩ u) := by
  obtain ⟨arr', h1, h2, h3, h4⟩ := h.row
  have b := (Below.refl 0 W).setCell (p := ⟨d, q + j, none⟩) (Nat.zero_le _) u
  refine ⟨⟨_, set_row6 (k := q + j) u h1, by rw [Array.size_setIfInBounds]; exact h2, fun i hi => ?_, fun i hi => ?_⟩, fun k hk hd => (set_oth6 hd).trans (h.oth k hk hd), b.os.trans h.os, b.tape.trans h.tape, b.output.trans h.output, Nat.le_trans h.size b.size⟩
  · rw [Array.getElem?_setIfInBounds_ne (by omega)]
    exact h3 i hi
  · by_cases e : i = j
    · subst e
      rw [if_pos rfl, Array.getElem?_setIfInBounds_self_of_lt (by omega)]
    · rw [if_neg e, Array.getElem?_setIfInBounds_ne (by omega)]
      exact h4 i hi
theorem VSt.ext {w : World} {d q : Nat} {arr : Array Value} {v v' : Nat → Value} {W : World} (h : VSt w d q arr v W) (e : ∀ j, j < 6 → v j = v' j) : VSt w d q arr v' W := by
  obtain ⟨arr', h1, h2, h3, h4⟩ := h.row
  exact ⟨⟨arr', h1, h2, h3, fun j hj => by rw [← e j hj]; exact h4 j hj⟩, h.oth, h.os, h.tape, h.output, h.size⟩
theorem VSt.begin {w : World} {d q : Nat} {arr : Array Value} {v : Nat → Value} (h : w.heap[d]? = some (.cells arr 27 (0, 0))) (hv : ∀ j, j < 6 → arr[q + j]? = some (v j)) : VSt w d q arr v w :=
  ⟨⟨arr, h, rfl, fun _ _ => rfl, hv⟩, fun _ _ _ => rfl, rfl, rfl, rfl, Nat.le_refl _⟩
def zeroV : Nat → Value
  | 0 => .int .i64 0
  | 1 => .string ⟨#[]⟩
  | 2 => .string ⟨#[]⟩
  | 3 => .slice none 0 0
  | 4 => .slice none 0 0
  | _ => .string ⟨#[]⟩
def nodeF (kd : Int) (u l : ByteArray) (a k : Value) (s : ByteArray) : Nat → Value
  | 0 => .int .i64 kd
  | 1 => .string u
  | 2 => .string l
  | 3 => a
  | 4 => k
  | _ => .string s
/-- A whole node is laid. -/
theorem VSt.lay {w : World} {d q : Nat} {arr : Array Value} {v : Nat → Value} {W : World} (h : VSt w d q arr v W) (hq : q + 6 ≤ arr.size) (kd : Int) (u l : ByteArray) (a k : Value) (s : ByteArray) :
    VSt w d q arr (nodeF kd u l a k s) ((((((W.setCell ⟨d, q, none⟩ (.int .i64 kd)).setCell ⟨d, q + 1, none⟩ (.string u)).setCell ⟨d, q + 2, none⟩ (.string l)).setCell ⟨d, q + 3, none⟩ a).setCell ⟨d, q + 4, none⟩ k).setCell ⟨d, q + 5, none⟩ (.string s)) := by
  have h1 := (((((h.set hq 0 (by decide) (.int .i64 kd)).set hq 1 (by decide) (.string u)).set hq 2 (by decide) (.string l)).set hq 3 (by decide) a).set hq 4 (by decide) k).set hq 5 (by decide) (.string s)
  rw [Nat.add_zero] at h1
  refine h1.ext fun j hj => ?_
  match j, hj with
  | 0, _ => rfl
  | 1, _ => rfl
  | 2, _ => rfl
  | 3, _ => rfl
  | 4, _ => rfl
  | 5, _ => rfl
/-- A cell that is given what it has. -/
theorem set_same6 {w : World} {b k : Nat} {v : Value} (h : w.cell? ⟨b, k, none⟩ = some v) : w.setCell ⟨b, k, none⟩ v = w := by
  have hl := World.block_lt_of_cell? _ _ h
  have hl' : b < w.heap.size := hl
  obtain ⟨o, ho⟩ : ∃ o, w.heap[b]? = some o := ⟨_, Array.getElem?_eq_getElem hl'⟩
  cases o with
  | cells arr T fz =>
    rw [cell_of_row _ _ _ _ _ _ ho] at h
    have hh : (w.setCell ⟨b, k, none⟩ v).heap = w.heap := by
      apply Array.ext_getElem?
      intro i
      by_cases e : i = b
      · subst e
        show (w.heap.modify i _)[i]? = _
        rw [Array.getElem?_modify, if_pos rfl, ho]
        show some (Obj.cells (arr.setIfInBounds k v) T fz) = some (Obj.cells arr T fz)
        congr 2
        apply Array.ext_getElem?
        intro j
        by_cases ej : j = k
        · subst ej
          rw [Array.getElem?_setIfInBounds_self_of_lt (Array.getElem?_eq_some_iff.1 h).1]
          exact h.symm
        · rw [Array.getElem?_setIfInBounds_ne (fun e => ej e.symm)]
      · exact set_oth6 e
    have e : w.setCell ⟨b, k, none⟩ v = { w with heap := (w.setCell ⟨b, k, none⟩ v).heap } := rfl
    rw [e, hh]
  | _ => exact absurd h (by unfold World.cell?; rw [ho]; simp)
end Go.Proofs.YtfmlmdfehaajbaaGreatDoor
namespace Go.Proofs.YtfmlmdfehaajbaaGreatDoor
open Go.RowKit Go.Shelf

/-- What the visit leaves: the node's copy, its attributes in a block that wasn't there, and as many empty nodes as it has kids. -/
def VisitOut (w : World) (x : AT) (d q : Nat) (arr : Array Value) (e : Ending) (W : World) : Prop := e = .returned (.bool true) ∧ ∃ qa da qk dk, VSt w d q arr (nodeF x.kind x.uri x.loc (.slice qa x.attrs.length da) (.slice qk x.kids.length dk) x.text) W ∧ AttrsAt W qa x.attrs ∧ x.attrs.length ≤ da ∧ (qa = none → da = 0) ∧
  (∀ a, qa = some a → ∃ g, a = ⟨g, 0, none⟩ ∧ w.heap.size ≤ g ∧ ∃ cur, W.heap[g]? = some (.cells cur 67 (0, 0))) ∧
  ((qk = none ∧ dk = 0 ∧ x.kids = []) ∨ ∃ K, qk = some ⟨K, 0, none⟩ ∧ dk = x.kids.length ∧ w.heap.size ≤ K ∧ ∃ ak, W.heap[K]? = some (.cells ak 27 (0, 0)) ∧ ak.size = x.kids.length * 6 ∧ ∀ i j, i < x.kids.length → j < 6 → ak[i * 6 + j]? = some (zeroV j))
set_option maxRecDepth 100000 in
set_option maxHeartbeats 8000000 in
theorem visit_any (w0 : World) (x : AT) (hx : TreeAt w0 x) (hF : x.Fits 1048576) (w : World) (hb : Below w0.heap.size w0 w) (d q : Nat) (arr : Array Value) (hd : w.heap[d]? = some (.cells arr 27 (0, 0))) (hq : q + 6 ≤ arr.size) (hz : ∀ j, j < 6 → arr[q + j]? = some (zeroV j)) (hdw : w0.heap.size ≤ d) :
    Calls Tryz.prog 52 #[x.ptr, .pointer (some ⟨d, q, none⟩)] w (VisitOut w x d q arr) := by
  obtain ⟨pa, ca, pk, ck, h0, c0, c1, c2, c3, c4, c5⟩ := hx.top
  have hfx := hF x x.self_mem
  have V0 := (VSt.begin hd hz).far (Below.refl _ _).drew
  have HST := Lib.hid (fun (v : Nat → Value) (W : World) (h : VSt w d q arr v W) => (show Stay w0 W from fun a u hc => by
    have hlt := World.block_lt_of_cell? _ _ hc
    have hlt2 := Nat.lt_of_lt_of_le hlt hb.size
    exact (World.cell?_of_block ((h.oth _ hlt2 (by omega)).trans (hb.block _ hlt))).trans hc))
  have HDW := Lib.hid (And.intro (it_lt hd) hdw)
  have HXF := Lib.hid h0
  obtain ⟨kd, ekd⟩ : ∃ y, x.kind = y := ⟨_, rfl⟩
  obtain ⟨u, eu⟩ : ∃ y, x.uri = y := ⟨_, rfl⟩
  obtain ⟨l, el⟩ : ∃ y, x.loc = y := ⟨_, rfl⟩
  obtain ⟨s, es⟩ : ∃ y, x.text = y := ⟨_, rfl⟩
  obtain ⟨la, ela⟩ : ∃ y, x.attrs = y := ⟨_, rfl⟩
  obtain ⟨m, em⟩ : ∃ y, x.kids.length = y := ⟨_, rfl⟩
  obtain ⟨b, ebb⟩ : ∃ y, x.b = y := ⟨_, rfl⟩
  obtain ⟨o, eoo⟩ : ∃ y, x.o = y := ⟨_, rfl⟩
  have CN := Lib.hid (fun W => copyName_any u l W (by rw [← eu]; exact h0.uri) (by rw [← el]; exact h0.loc))
  have CT := Lib.hid (fun W => clone5 s W (by rw [← es]; exact Nat.le_trans h0.text (by decide)))
  have HAT := Lib.hid (show AttrsAt w0 pa la ∧ (pa = none → ca = 0) ∧ la.length ≤ ca ∧ la.length ≤ 8388608 from by rw [← ela]; exact ⟨h0.attrs, h0.anil, h0.acap, by have := hfx.2.2.2.1; omega⟩)
  have HEA := Lib.hid (show ∀ a ∈ la, a.uri.size ≤ 140737488351232 ∧ a.loc.size ≤ 140737488351232 ∧ a.val.size ≤ 140737488351232 from by rw [← ela]; exact h0.each)
  have hkn := h0.knil
  have hksz : m ≤ 1048576 := by rw [← em]; exact hfx.2.2.2.2.1
  have HKZ := Lib.hid (show m = 0 → x.kids = [] from fun e => List.eq_nil_of_length_eq_zero (by omega))
  obtain ⟨n, en⟩ : ∃ n, la.length = n := ⟨_, rfl⟩
  have HN := Lib.hid en
  have hnb : n ≤ 1048576 := by rw [← en, ← ela]; exact hfx.2.2.2.1
  have hkc : m ≤ ck := by rw [← em]; exact h0.kcap
  unfold VisitOut
  rw [ekd, eu, el, es, em, ela, en]
  rw [ebb, eoo, ekd] at c0
  rw [ebb, eoo, eu] at c1
  rw [ebb, eoo, el] at c2
  rw [ebb, eoo, ela, en] at c3
  rw [ebb, eoo, em] at c4
  rw [ebb, eoo, es] at c5
  have hp : x.ptr = .pointer (some ⟨b, o, none⟩) := by unfold AT.ptr; rw [ebb, eoo]
  rw [hp]
  have HS := Lib.hid (fun (v : Nat → Value) (W : World) (h : VSt w d q arr v W) => (show W.cell? ⟨b, o, none⟩ = some (.int .i64 kd) ∧ W.cell? ⟨b, o + 1, none⟩ = some (.string u) ∧ W.cell? ⟨b, o + 2, none⟩ = some (.string l) ∧ W.cell? ⟨b, o + 5, none⟩ = some (.string s) from ⟨HST.out v W h _ _ c0, HST.out v W h _ _ c1, HST.out v W h _ _ c2, HST.out v W h _ _ c5⟩))
  clear hx hF hb hd hz hdw h0 hfx ekd eu el es ela em en ebb eoo hp
  go_enter Tryz.func52, Tryz.ntmps52
  go_upto_region 1 with (fail)
  refine wp_region_held_drew (S := fun W => W.cell? ⟨b, o, none⟩ = some (.int .i64 kd) ∧ W.cell? ⟨b, o + 1, none⟩ = some (.string u) ∧ W.cell? ⟨b, o + 2, none⟩ = some (.string l) ∧ W.cell? ⟨b, o + 5, none⟩ = some (.string s)) (by kernel_rfl) (HS.out _ _ V0) (fun hHeld => ?_)
  refine wpAnyH_take (i := 0) (oi := _) (v := ?v0) rfl (by kernel_rfl) (by kernel_rfl) (by kernel_rfl) (fun _ _ _ h => h) (Or.inl ⟨by rfl, ?hy0⟩) (by assumption) ?rest0
  case hy0 =>
    intro W hSw
    clear hSw
    go_simp
    try (with_reducible rfl)
  try simp only [Act.put, List.getElem_toArray, List.getElem_cons_zero, List.getElem_cons_succ, List.setIfInBounds_toArray, List.set_cons_zero, List.set_cons_succ]
  refine wpAnyH_take (i := 1) (oi := _) (v := ?v1) rfl (by kernel_rfl) (by kernel_rfl) (by kernel_rfl) (fun _ _ _ h => h) (Or.inl ⟨by rfl, ?hy1⟩) (by assumption) ?rest1
  case hy1 =>
    intro W hSw
    clear hSw
    go_simp
    try (with_reducible rfl)
  try simp only [Act.put, List.getElem_toArray, List.getElem_cons_zero, List.getElem_cons_succ, List.setIfInBounds_toArray, List.set_cons_zero, List.set_cons_succ]
  refine wpAnyH_take (i := 2) (oi := _) (v := ?v2) rfl (by kernel_rfl) (by kernel_rfl) (by kernel_rfl) (fun _ _ _ h => h) (Or.inl ⟨by rfl, ?hy2⟩) (by assumption) ?rest2
  case hy2 =>
    intro W hSw
    clear hSw
    go_simp
    try (with_reducible rfl)
  try simp only [Act.put, List.getElem_toArray, List.getElem_cons_zero, List.getElem_cons_succ, List.setIfInBounds_toArray, List.set_cons_zero, List.set_cons_succ]
  refine wpAnyH_take (i := 3) (oi := _) (v := ?v3) rfl (by kernel_rfl) (by kernel_rfl) (by kernel_rfl) (fun _ _ _ h => h) (Or.inl ⟨by rfl, ?hy3⟩) (by assumption) ?rest3
  case hy3 =>
    intro W hSw
    clear hSw
    go_simp
    try (with_reducible rfl)
  try simp only [Act.put, List.getElem_toArray, List.getElem_cons_zero, List.getElem_cons_succ, List.setIfInBounds_toArray, List.set_cons_zero, List.set_cons_succ]
  refine wpAnyH_take (i := 4) (oi := _) (v := ?v4) rfl (by kernel_rfl) (by kernel_rfl) (by kernel_rfl) (fun _ _ _ h => h) (Or.inl ⟨by rfl, ?hy4⟩) (by assumption) ?rest4
  case hy4 =>
    intro W hSw
    obtain ⟨e0, e1, e2, e5⟩ := hSw
    go_simp
    try (with_reducible rfl)
  try simp only [Act.put, List.getElem_toArray, List.getElem_cons_zero, List.getElem_cons_succ, List.setIfInBounds_toArray, List.set_cons_zero, List.set_cons_succ]
  refine wpAnyH_take (i := 5) (oi := _) (v := ?v5) rfl (by kernel_rfl) (by kernel_rfl) (by kernel_rfl) (fun _ _ _ h => h) (Or.inl ⟨by rfl, ?hy5⟩) (by assumption) ?rest5
  case hy5 =>
    intro W hSw
    clear hSw
    go_simp
    try (with_reducible rfl)
  try simp only [Act.put, List.getElem_toArray, List.getElem_cons_zero, List.getElem_cons_succ, List.setIfInBounds_toArray, List.set_cons_zero, List.set_cons_succ]
  refine wpAnyH_take (i := 6) (oi := _) (v := ?v6) rfl (by kernel_rfl) (by kernel_rfl) (by kernel_rfl) (fun _ _ _ h => h) (Or.inl ⟨by rfl, ?hy6⟩) (by assumption) ?rest6
  case hy6 =>
    intro W hSw
    clear hSw
    go_simp
    try (with_reducible rfl)
  try simp only [Act.put, List.getElem_toArray, List.getElem_cons_zero, List.getElem_cons_succ, List.setIfInBounds_toArray, List.set_cons_zero, List.set_cons_succ]
  refine wpAnyH_take (i := 7) (oi := _) (v := ?v7) rfl (by kernel_rfl) (by kernel_rfl) (by kernel_rfl) (fun _ _ _ h => h) (Or.inl ⟨by rfl, ?hy7⟩) (by assumption) ?rest7
  case hy7 =>
    intro W hSw
    clear hSw
    go_simp
    try (with_reducible rfl)
  try simp only [Act.put, List.getElem_toArray, List.getElem_cons_zero, List.getElem_cons_succ, List.setIfInBounds_toArray, List.set_cons_zero, List.set_cons_succ]
  refine wpAnyH_take (i := 8) (oi := _) (v := ?v8) rfl (by kernel_rfl) (by kernel_rfl) (by kernel_rfl) (fun _ _ _ h => h) (Or.inl ⟨by rfl, ?hy8⟩) (by assumption) ?rest8
  case hy8 =>
    intro W hSw
    obtain ⟨e0, e1, e2, e5⟩ := hSw
    go_simp
    try (with_reducible rfl)
  try simp only [Act.put, List.getElem_toArray, List.getElem_cons_zero, List.getElem_cons_succ, List.setIfInBounds_toArray, List.set_cons_zero, List.set_cons_succ]
  refine wpAnyH_take (i := 10) (oi := _) (v := ?v10) rfl (by kernel_rfl) (by kernel_rfl) (by kernel_rfl) (fun _ _ _ h => h) (Or.inl ⟨by rfl, ?hy10⟩) (by assumption) ?rest10
  case hy10 =>
    intro W hSw
    clear hSw
    go_simp
    try (with_reducible rfl)
  try simp only [Act.put, List.getElem_toArray, List.getElem_cons_zero, List.getElem_cons_succ, List.setIfInBounds_toArray, List.set_cons_zero, List.set_cons_succ]
  refine wpAnyH_take (i := 11) (oi := _) (v := ?v11) rfl (by kernel_rfl) (by kernel_rfl) (by kernel_rfl) (fun _ _ _ h => h) (Or.inl ⟨by rfl, ?hy11⟩) (by assumption) ?rest11
  case hy11 =>
    intro W hSw
    clear hSw
    go_simp
    try (with_reducible rfl)
  try simp only [Act.put, List.getElem_toArray, List.getElem_cons_zero, List.getElem_cons_succ, List.setIfInBounds_toArray, List.set_cons_zero, List.set_cons_succ]
  refine wpAnyH_take (i := 12) (oi := _) (v := ?v12) rfl (by kernel_rfl) (by kernel_rfl) (by kernel_rfl) (fun _ _ _ h => h) (Or.inl ⟨by rfl, ?hy12⟩) (by assumption) ?rest12
  case hy12 =>
    intro W hSw
    clear hSw
    go_simp
    try (with_reducible rfl)
  try simp only [Act.put, List.getElem_toArray, List.getElem_cons_zero, List.getElem_cons_succ, List.setIfInBounds_toArray, List.set_cons_zero, List.set_cons_succ]
  refine wpAnyH_take (i := 13) (oi := _) (v := ?v13) rfl (by kernel_rfl) (by kernel_rfl) (by kernel_rfl) (fun _ _ _ h => h) (Or.inl ⟨by rfl, ?hy13⟩) (by assumption) ?rest13
  case hy13 =>
    intro W hSw
    obtain ⟨e0, e1, e2, e5⟩ := hSw
    go_simp
    try (with_reducible rfl)
  try simp only [Act.put, List.getElem_toArray, List.getElem_cons_zero, List.getElem_cons_succ, List.setIfInBounds_toArray, List.set_cons_zero, List.set_cons_succ]
  refine wpAnyH_ready (rs := [9]) (by kernel_rfl) (by simp) ?_
  refine AllReadyH.cons (o := _) rfl (fun K hK => ?_) AllReadyH.nil
  go_simp
  refine (CN.out _).mono ?_
  rintro e w1 ⟨rfl, hb9⟩
  have V1 := V0.far hb9
  refine hK.out _ _ (HS.out _ _ V1) (fun hHeld9 => ?_)
  clear hK K hHeld hb9
  have hHeld := hHeld9
  clear hHeld9
  try simp only [Act.put, List.getElem_toArray, List.getElem_cons_zero, List.getElem_cons_succ, List.setIfInBounds_toArray, List.set_cons_zero, List.set_cons_succ]
  refine wpAnyH_ready (rs := [14]) (by kernel_rfl) (by simp) ?_
  refine AllReadyH.cons (o := _) rfl (fun K hK => ?_) AllReadyH.nil
  go_simp
  refine (CT.out _).mono ?_
  rintro e w2 ⟨rfl, hb14⟩
  have V2 := V1.far hb14
  refine hK.out _ _ (HS.out _ _ V2) (fun hHeld14 => ?_)
  clear hK K hHeld hb14
  have hHeld := hHeld14
  clear hHeld14
  try simp only [Act.put, List.getElem_toArray, List.getElem_cons_zero, List.getElem_cons_succ, List.setIfInBounds_toArray, List.set_cons_zero, List.set_cons_succ]
  refine wpAnyH_take (i := 15) (oi := _) (v := ?v15) rfl (by kernel_rfl) (by kernel_rfl) (by kernel_rfl) (fun _ _ _ h => h) (Or.inl ⟨by rfl, ?hy15⟩) (by assumption) ?rest15
  case hy15 =>
    intro W hSw
    clear hSw
    go_simp
    try (with_reducible rfl)
  try simp only [Act.put, List.getElem_toArray, List.getElem_cons_zero, List.getElem_cons_succ, List.setIfInBounds_toArray, List.set_cons_zero, List.set_cons_succ]
  refine wpAnyH_take (i := 16) (oi := _) (v := ?v16) rfl (by kernel_rfl) (by kernel_rfl) (by kernel_rfl) (fun _ _ _ h => h) (Or.inl ⟨by rfl, ?hy16⟩) (by assumption) ?rest16
  case hy16 =>
    intro W hSw
    clear hSw
    go_simp
    try (with_reducible rfl)
  try simp only [Act.put, List.getElem_toArray, List.getElem_cons_zero, List.getElem_cons_succ, List.setIfInBounds_toArray, List.set_cons_zero, List.set_cons_succ]
  refine wpAnyH_ready (rs := [17]) (by kernel_rfl) (by simp) ?_
  refine AllReadyH.cons (o := _) rfl (fun K hK => ?_) AllReadyH.nil
  have ff0 : w2.frozen? ⟨d, q, none⟩ = false := V2.frozen _
  have cc0 : w2.cell? ⟨d, q, none⟩ = some (.int .i64 0) := V2.cell 0 (by decide)
  have ff1 : w2.frozen? ⟨d, q + 1, none⟩ = false := V2.frozen _
  have cc1 : w2.cell? ⟨d, q + 1, none⟩ = some (.string ⟨#[]⟩) := V2.cell 1 (by decide)
  have ff2 : w2.frozen? ⟨d, q + 2, none⟩ = false := V2.frozen _
  have cc2 : w2.cell? ⟨d, q + 2, none⟩ = some (.string ⟨#[]⟩) := V2.cell 2 (by decide)
  have ff3 : w2.frozen? ⟨d, q + 3, none⟩ = false := V2.frozen _
  have cc3 : w2.cell? ⟨d, q + 3, none⟩ = some (.slice none 0 0) := V2.cell 3 (by decide)
  have ff4 : w2.frozen? ⟨d, q + 4, none⟩ = false := V2.frozen _
  have cc4 : w2.cell? ⟨d, q + 4, none⟩ = some (.slice none 0 0) := V2.cell 4 (by decide)
  have ff5 : w2.frozen? ⟨d, q + 5, none⟩ = false := V2.frozen _
  have cc5 : w2.cell? ⟨d, q + 5, none⟩ = some (.string ⟨#[]⟩) := V2.cell 5 (by decide)
  go_simp
  obtain ⟨Y, hY⟩ : ∃ Y, ((((((w2.setCell ⟨d, q, none⟩ (.int .i64 kd)).setCell ⟨d, q + 1, none⟩ (.string u)).setCell ⟨d, q + 2, none⟩ (.string l)).setCell ⟨d, q + 3, none⟩ (.slice none 0 0)).setCell ⟨d, q + 4, none⟩ (.slice none 0 0)).setCell ⟨d, q + 5, none⟩ (.string s)) = Y := ⟨_, rfl⟩
  rw [hY]
  have VY : VSt w d q arr (nodeF kd u l (.slice none 0 0) (.slice none 0 0) s) Y := by rw [← hY]; exact V2.lay hq kd u l (.slice none 0 0) (.slice none 0 0) s
  refine hK.out _ _ (HS.out _ _ VY) (fun _ => ?_)
  clear hK K hY ff0 ff1 ff2 ff3 ff4 ff5 cc0 cc1 cc2 cc3 cc4 cc5 V0 V1 V2
  try simp only [Act.put, List.getElem_toArray, List.getElem_cons_zero, List.getElem_cons_succ, List.setIfInBounds_toArray, List.set_cons_zero, List.set_cons_succ]
  refine wpAnyH_done (by kernel_rfl) ?_ _
  have hAY : AttrsAt Y pa la := HAT.out.1.stay (HST.out _ _ VY)
  have src3 : Y.cell? ⟨b, o + 3, none⟩ = some (.slice pa n ca) := HST.out _ _ VY _ _ c3
  have CA := Lib.hid (cloneAttrs_any Y la pa ca hAY HAT.out.2.1 HAT.out.2.2.1 HAT.out.2.2.2)
  rw [HN.out] at CA
  unfold CloneOut at CA
  have HVY := Lib.hid VY
  clear hAY VY
  go_upto_region 3 with (go_at_call 54; refine CA.out.mono ?_; rintro e Y2 ⟨qa, da, rfl, hAq, hda, hdn, hiff, hty, hbY⟩; have V3 := HVY.out.far hbY; have cc3 : Y2.cell? ⟨d, q + 3, none⟩ = some (.slice none 0 0) := V3.cell 3 (by decide); have ff3 : Y2.frozen? ⟨d, q + 3, none⟩ = false := V3.frozen _)
  rw [HN.out]
  obtain ⟨Y3, hY3⟩ : ∃ Y3, Y2.setCell ⟨d, q + 3, none⟩ (.slice qa n da) = Y3 := ⟨_, rfl⟩
  rw [hY3]
  have V4 : VSt w d q arr (nodeF kd u l (.slice qa n da) (.slice none 0 0) s) Y3 := by
    rw [← hY3]
    exact (V3.set hq 3 (by decide) (.slice qa n da)).ext (fun j hj => by
      match j, hj with
      | 0, _ => rfl
      | 1, _ => rfl
      | 2, _ => rfl
      | 3, _ => rfl
      | 4, _ => rfl
      | 5, _ => rfl)
  have hYw := HVY.out.size
  have o3 : ∀ k, k ≠ d → Y3.heap[k]? = Y2.heap[k]? := fun k hne => by rw [← hY3]; exact set_oth6 hne
  have HG := Lib.hid (show ∀ a, qa = some a → ∃ g, a = ⟨g, 0, none⟩ ∧ w.heap.size ≤ g ∧ ∃ cur, Y3.heap[g]? = some (.cells cur 67 (0, 0)) from fun a e => by
    obtain ⟨g, e1, e2, cur, e3⟩ := hty a e
    exact ⟨g, e1, by omega, cur, (o3 g (by have := HDW.out.1; omega)).trans e3⟩)
  have hAq3 : AttrsAt Y3 qa la := fun h0 => by
    obtain ⟨g, off, e1, hc⟩ := hAq h0
    obtain ⟨g', e2, e3, _⟩ := hty _ e1
    injection e2 with e4 e5
    subst e4
    have hne : g ≠ d := by have := HDW.out.1; omega
    exact ⟨g, off, e1, fun j hj => ⟨(World.cell?_of_block (a := ⟨g, off + j * 3, none⟩) (o3 g hne)).trans (hc j hj).1, (World.cell?_of_block (a := ⟨g, off + j * 3 + 1, none⟩) (o3 g hne)).trans (hc j hj).2.1, (World.cell?_of_block (a := ⟨g, off + j * 3 + 2, none⟩) (o3 g hne)).trans (hc j hj).2.2⟩⟩
  have HA3 := Lib.hid (And.intro hAq3 (And.intro hda hdn))
  have k3 := V4.cell 3 (by decide)
  have HV4 := Lib.hid V4
  have hda' : n ≤ da := by rw [← HN.out]; exact hda
  clear hY3 V3 V4 cc3 ff3 hAq hda hdn hiff hty hbY hAq3 CA o3 hYw src3 HVY
  change Y3.cell? ⟨d, q + 3, none⟩ = some (.slice qa n da) at k3
  go_wp2_with (fail)
  go_loopw [37] (fun v wr => ∃ i : Nat, v = .int .i64 (i : Int) ∧ i ≤ n ∧ Hid' (Below Y3.heap.size Y3 wr)) (fun v _ => n - (intOf v).toNat)
  case atStart => exact ⟨0, rfl, Nat.zero_le _, Below.refl _ _⟩
  case round =>
    obtain ⟨i, rfl, hi, HI⟩ := hrel
    obtain ⟨V, rfl⟩ : ∃ V, V = wr := ⟨_, rfl⟩
    by_cases hlt : i < n
    · have hi' : (i : Int) < (n : Int) := by omega
      have hil : i < la.length := by rw [HN.out]; exact hlt
      obtain ⟨g, off, rfl, hc⟩ := HA3.out.1 (by omega)
      obtain ⟨g', e1, e2, cur, e3⟩ := HG.out _ rfl
      injection e1 with e4 e5
      subst e4 e5
      have a0 := t_cell' HI.out (hc i hil).1
      have a1 := t_cell' HI.out (hc i hil).2.1
      have a2 := t_cell' HI.out (hc i hil).2.2
      have HROW := Lib.hid ((HI.out.block _ (it_lt e3)).trans e3)
      have he := HEA.out _ (List.getElem_mem hil)
      obtain ⟨ta, hta⟩ : ∃ ta, la[i] = ta := ⟨_, rfl⟩
      rw [hta] at a0 a1 a2 he
      have CN2 := Lib.hid (fun W => copyName_any ta.uri ta.loc W he.1 he.2.1)
      have CT2 := Lib.hid (fun W => clone5 ta.val W (Nat.le_trans he.2.2 (by decide)))
      generalize ta.uri = x1 at *
      generalize ta.loc = x2 at *
      generalize ta.val = x3 at *
      have k4 := t_cell' HI.out k3
      clear he hta hc e2 e3
      rw [Nat.zero_add] at a0 a1 a2
      go_upto_region 6 with (fail)
      obtain ⟨U, hU⟩ : ∃ U, V.alloc (.cells #[.string x1, .string x2, .string x3] 67) = U := ⟨_, rfl⟩
      have b0 : Below V.heap.size V U.drew := by rw [← hU]; exact ((Below.refl _ _).alloc (Nat.le_refl _) _).drew
      have r0 : U.drew.heap[V.heap.size]? = some (.cells #[.string x1, .string x2, .string x3] 67 (0, 0)) := by rw [← hU]; exact heap_alloc_new _ _
      have HS6 := Lib.hid (fun (W : World) (y : Below V.heap.size V W) (r : W.heap[V.heap.size]? = some (.cells #[.string x1, .string x2, .string x3] 67 (0, 0))) => (show W.cell? ⟨d, q + 3, none⟩ = some (.slice (some ⟨g, 0, none⟩) n da) ∧ W.cell? ⟨V.heap.size, 0, none⟩ = some (.string x1) ∧ W.cell? ⟨V.heap.size, 1, none⟩ = some (.string x2) ∧ W.cell? ⟨V.heap.size, 2, none⟩ = some (.string x3) from ⟨t_cell' y k4, cell_of_row _ _ 0 _ _ _ r, cell_of_row _ _ 1 _ _ _ r, cell_of_row _ _ 2 _ _ _ r⟩))
      rw [hU]
      refine wp_region_held_drew (S := fun W => W.cell? ⟨d, q + 3, none⟩ = some (.slice (some ⟨g, 0, none⟩) n da) ∧ W.cell? ⟨V.heap.size, 0, none⟩ = some (.string x1) ∧ W.cell? ⟨V.heap.size, 1, none⟩ = some (.string x2) ∧ W.cell? ⟨V.heap.size, 2, none⟩ = some (.string x3)) (by kernel_rfl) (HS6.out _ b0 r0) (fun hHeld => ?_)
      clear hU
      refine wpAnyH_take (i := 0) (oi := _) (v := ?vz0) rfl (by kernel_rfl) (by kernel_rfl) (by kernel_rfl) (fun _ _ _ h => h) (Or.inl ⟨by rfl, ?hyz0⟩) (by assumption) ?restz0
      case hyz0 =>
        intro W hSw
        clear hSw
        go_simp
        try (with_reducible rfl)
      try simp only [Act.put, List.getElem_toArray, List.getElem_cons_zero, List.getElem_cons_succ, List.setIfInBounds_toArray, List.set_cons_zero, List.set_cons_succ]
      refine wpAnyH_take (i := 1) (oi := _) (v := ?vz1) rfl (by kernel_rfl) (by kernel_rfl) (by kernel_rfl) (fun _ _ _ h => h) (Or.inl ⟨by rfl, ?hyz1⟩) (by assumption) ?restz1
      case hyz1 =>
        intro W hSw
        clear hSw
        go_simp
        try (with_reducible rfl)
      try simp only [Act.put, List.getElem_toArray, List.getElem_cons_zero, List.getElem_cons_succ, List.setIfInBounds_toArray, List.set_cons_zero, List.set_cons_succ]
      refine wpAnyH_take (i := 2) (oi := _) (v := ?vz2) rfl (by kernel_rfl) (by kernel_rfl) (by kernel_rfl) (fun _ _ _ h => h) (Or.inl ⟨by rfl, ?hyz2⟩) (by assumption) ?restz2
      case hyz2 =>
        intro W hSw
        clear hSw
        go_simp
        try (with_reducible rfl)
      try simp only [Act.put, List.getElem_toArray, List.getElem_cons_zero, List.getElem_cons_succ, List.setIfInBounds_toArray, List.set_cons_zero, List.set_cons_succ]
      refine wpAnyH_take (i := 3) (oi := _) (v := ?vz3) rfl (by kernel_rfl) (by kernel_rfl) (by kernel_rfl) (fun _ _ _ h => h) (Or.inl ⟨by rfl, ?hyz3⟩) (by assumption) ?restz3
      case hyz3 =>
        intro W hSw
        obtain ⟨f3, f0, f1, f2⟩ := hSw
        go_simp
        try (with_reducible rfl)
      try simp only [Act.put, List.getElem_toArray, List.getElem_cons_zero, List.getElem_cons_succ, List.setIfInBounds_toArray, List.set_cons_zero, List.set_cons_succ]
      refine wpAnyH_take (i := 4) (oi := _) (v := ?vz4) rfl (by kernel_rfl) (by kernel_rfl) (by kernel_rfl) (fun _ _ _ h => h) (Or.inl ⟨by rfl, ?hyz4⟩) (by assumption) ?restz4
      case hyz4 =>
        intro W hSw
        clear hSw
        go_simp
        try (with_reducible rfl)
      try simp only [Act.put, List.getElem_toArray, List.getElem_cons_zero, List.getElem_cons_succ, List.setIfInBounds_toArray, List.set_cons_zero, List.set_cons_succ]
      refine wpAnyH_take (i := 5) (oi := _) (v := ?vz5) rfl (by kernel_rfl) (by kernel_rfl) (by kernel_rfl) (fun _ _ _ h => h) (Or.inl ⟨by rfl, ?hyz5⟩) (by assumption) ?restz5
      case hyz5 =>
        intro W hSw
        clear hSw
        go_simp
        try (with_reducible rfl)
      try simp only [Act.put, List.getElem_toArray, List.getElem_cons_zero, List.getElem_cons_succ, List.setIfInBounds_toArray, List.set_cons_zero, List.set_cons_succ]
      refine wpAnyH_take (i := 6) (oi := _) (v := ?vz6) rfl (by kernel_rfl) (by kernel_rfl) (by kernel_rfl) (fun _ _ _ h => h) (Or.inl ⟨by rfl, ?hyz6⟩) (by assumption) ?restz6
      case hyz6 =>
        intro W hSw
        obtain ⟨f3, f0, f1, f2⟩ := hSw
        go_simp
        try (with_reducible rfl)
      try simp only [Act.put, List.getElem_toArray, List.getElem_cons_zero, List.getElem_cons_succ, List.setIfInBounds_toArray, List.set_cons_zero, List.set_cons_succ]
      refine wpAnyH_take (i := 8) (oi := _) (v := ?vz8) rfl (by kernel_rfl) (by kernel_rfl) (by kernel_rfl) (fun _ _ _ h => h) (Or.inl ⟨by rfl, ?hyz8⟩) (by assumption) ?restz8
      case hyz8 =>
        intro W hSw
        clear hSw
        go_simp
        try (with_reducible rfl)
      try simp only [Act.put, List.getElem_toArray, List.getElem_cons_zero, List.getElem_cons_succ, List.setIfInBounds_toArray, List.set_cons_zero, List.set_cons_succ]
      refine wpAnyH_take (i := 9) (oi := _) (v := ?vz9) rfl (by kernel_rfl) (by kernel_rfl) (by kernel_rfl) (fun _ _ _ h => h) (Or.inl ⟨by rfl, ?hyz9⟩) (by assumption) ?restz9
      case hyz9 =>
        intro W hSw
        obtain ⟨f3, f0, f1, f2⟩ := hSw
        go_simp
        try (with_reducible rfl)
      try simp only [Act.put, List.getElem_toArray, List.getElem_cons_zero, List.getElem_cons_succ, List.setIfInBounds_toArray, List.set_cons_zero, List.set_cons_succ]
      refine wpAnyH_ready (rs := [7]) (by kernel_rfl) (by simp) ?_
      refine AllReadyH.cons (o := _) rfl (fun K hK => ?_) AllReadyH.nil
      go_simp
      refine (CN2.out _).mono ?_
      rintro e X1 ⟨rfl, hb7⟩
      have b1 : Below V.heap.size V X1 := b0.trans (hb7.mono b0.size)
      have r1 := (hb7.block _ (it_lt r0)).trans r0
      refine hK.out _ _ (HS6.out _ b1 r1) (fun hHeld7 => ?_)
      clear hK K hHeld hb7
      have hHeld := hHeld7
      clear hHeld7
      try simp only [Act.put, List.getElem_toArray, List.getElem_cons_zero, List.getElem_cons_succ, List.setIfInBounds_toArray, List.set_cons_zero, List.set_cons_succ]
      refine wpAnyH_ready (rs := [10]) (by kernel_rfl) (by simp) ?_
      refine AllReadyH.cons (o := _) rfl (fun K hK => ?_) AllReadyH.nil
      go_simp
      refine (CT2.out _).mono ?_
      rintro e X2 ⟨rfl, hb10⟩
      have b2 : Below V.heap.size V X2 := b1.trans (hb10.mono b1.size)
      have r2 := (hb10.block _ (it_lt r1)).trans r1
      refine hK.out _ _ (HS6.out _ b2 r2) (fun hHeld10 => ?_)
      clear hK K hHeld hb10
      have hHeld := hHeld10
      clear hHeld10
      try simp only [Act.put, List.getElem_toArray, List.getElem_cons_zero, List.getElem_cons_succ, List.setIfInBounds_toArray, List.set_cons_zero, List.set_cons_succ]
      refine wpAnyH_take (i := 11) (oi := _) (v := ?vz11) rfl (by kernel_rfl) (by kernel_rfl) (by kernel_rfl) (fun _ _ _ h => h) (Or.inl ⟨by rfl, ?hyz11⟩) (by assumption) ?restz11
      case hyz11 =>
        intro W hSw
        clear hSw
        go_simp
        try (with_reducible rfl)
      try simp only [Act.put, List.getElem_toArray, List.getElem_cons_zero, List.getElem_cons_succ, List.setIfInBounds_toArray, List.set_cons_zero, List.set_cons_succ]
      refine wpAnyH_take (i := 12) (oi := _) (v := ?vz12) rfl (by kernel_rfl) (by kernel_rfl) (by kernel_rfl) (fun _ _ _ h => h) (Or.inl ⟨by rfl, ?hyz12⟩) (by assumption) ?restz12
      case hyz12 =>
        intro W hSw
        clear hSw
        go_simp
        try (with_reducible rfl)
      try simp only [Act.put, List.getElem_toArray, List.getElem_cons_zero, List.getElem_cons_succ, List.setIfInBounds_toArray, List.set_cons_zero, List.set_cons_succ]
      refine wpAnyH_ready (rs := [13]) (by kernel_rfl) (by simp) ?_
      refine AllReadyH.cons (o := _) rfl (fun K hK => ?_) AllReadyH.nil
      have g0 := t_cell' b2 a0
      have g1 := t_cell' b2 a1
      have g2 := t_cell' b2 a2
      have rg := (b2.block _ (it_lt HROW.out)).trans HROW.out
      have ff0 : X2.frozen? ⟨g, i * 3, none⟩ = false := frozen_of_row _ _ _ _ _ rg
      have ff1 : X2.frozen? ⟨g, i * 3 + 1, none⟩ = false := frozen_of_row _ _ _ _ _ rg
      have ff2 : X2.frozen? ⟨g, i * 3 + 2, none⟩ = false := frozen_of_row _ _ _ _ _ rg
      go_simp
      rw [set_same6 g0, set_same6 g1, set_same6 g2]
      refine hK.out _ _ (HS6.out _ b2 r2) (fun _ => ?_)
      clear hK K
      try simp only [Act.put, List.getElem_toArray, List.getElem_cons_zero, List.getElem_cons_succ, List.setIfInBounds_toArray, List.set_cons_zero, List.set_cons_succ]
      refine wpAnyH_done (by kernel_rfl) ?_ _
      have HB2 := Lib.hid (HI.out.trans (b2.mono HI.out.size))
      clear g0 g1 g2 rg ff0 ff1 ff2 b0 b1 b2 r0 r1 r2
      go_wp2_with (fail)
      go_roundw
      case rel => exact ⟨i + 1, by go_num, hlt, HB2.out⟩
      case measure => simp only [intOf]; omega
    · have hi' : ¬ (i : Int) < (n : Int) := by omega
      have VV := HV4.out.far HI.out
      have s4 : V.cell? ⟨b, o + 4, none⟩ = some (.slice pk m ck) := HST.out _ _ VV _ _ c4
      have hAV : AttrsAt V qa la := HA3.out.1.stay (Stay.below HI.out)
      have HGV := Lib.hid (show ∀ a, qa = some a → ∃ g, a = ⟨g, 0, none⟩ ∧ w.heap.size ≤ g ∧ ∃ cur, V.heap[g]? = some (.cells cur 67 (0, 0)) from fun a e => by
        obtain ⟨g, e1, e2, cur, e3⟩ := HG.out a e
        exact ⟨g, e1, e2, cur, (HI.out.block _ (it_lt e3)).trans e3⟩)
      have qK := fun (W : World) => run_neq_slice_nil_any (P := Tryz.prog) W 25 27 pk m ck 0 0 Tryz.underlying25
      have k44 := VV.cell 4 (by decide)
      change V.cell? ⟨d, q + 4, none⟩ = some (.slice none 0 0) at k44
      have ff4 : V.frozen? ⟨d, q + 4, none⟩ = false := VV.frozen _
      have HVV := Lib.hid (And.intro VV hAV)
      clear VV hAV
      cases pk with
      | none =>
        have hck := hkn rfl
        have hm0 : m = 0 := by omega
        subst hck hm0
        have qK2 : ∀ W, (binOp .neq 25 (.slice none 0 0) (.slice none 0 0)).run Tryz.prog W = .ok (.bool false) W := qK
        clear qK
        go_wp2_with (fail)
        go_ret
        exact ⟨rfl, qa, da, none, 0, HVV.out.1, HVV.out.2, by rw [HN.out] at HA3; exact HA3.out.2.1, HA3.out.2.2, HGV.out, .inl ⟨(by first | rfl | trivial), (by first | rfl | trivial), (by first | exact HKZ.out rfl | exact HKZ.out trivial)⟩⟩
      | some ak =>
        have qK2 : ∀ W, (binOp .neq 25 (.slice (some ak) m ck) (.slice none 0 0)).run Tryz.prog W = .ok (.bool true) W := qK
        clear qK
        obtain ⟨i0, hi0, hz0, hz1⟩ := info_node
        have hby : i0.bytes ≤ 1000000 := by
          have e : (Tryz.prog.info? 27).map (fun i => decide (i.bytes ≤ 1000000)) = some true := by kernel_rfl
          rw [hi0] at e
          simpa using e
        have hbm : (i0.bytes : Int) * (m : Int) ≤ 281474976710656 := by
          have h1 : i0.bytes * m ≤ 1000000 * 1048576 := Nat.mul_le_mul hby hksz
          have h2 : ((i0.bytes * m : Nat) : Int) ≤ 281474976710656 := by omega
          rwa [Int.natCast_mul] at h2
        have qM : ∀ W : World, (Instr.makeSlice 25 (.int .i64 (m : Int)) (.int .i64 (m : Int))).run Tryz.prog W = .ok (.slice (some ⟨W.heap.size, 0, none⟩) m m) (W.alloc (.cells (madeCells (Value.agg #[.int .i64 0, .string ⟨#[]⟩, .string ⟨#[]⟩, .slice none 0 0, .slice none 0 0, .string ⟨#[]⟩]).cells (m * 6)) 27)) := fun W => by
          have := run_make (P := Tryz.prog) W 25 27 i0 _ Tryz.underlying25 hi0 hz0 .i64 .i64 (m : Int) (m : Int) (by omega) (Int.le_refl _) hbm (by omega)
          rwa [hz1, Int.toNat_natCast] at this
        obtain ⟨MK, hMK⟩ : ∃ MK, madeCells (Value.agg #[.int .i64 0, .string ⟨#[]⟩, .string ⟨#[]⟩, .slice none 0 0, .slice none 0 0, .string ⟨#[]⟩]).cells (m * 6) = MK := ⟨_, rfl⟩
        rw [hMK] at qM
        have HMK := Lib.hid hMK
        have k44' : ∀ W, Below V.heap.size V W → W.cell? ⟨d, q + 4, none⟩ = some (.slice none 0 0) := fun W y => t_cell' y k44
        have q44 := k44' _ ((Below.refl _ _).alloc (Nat.le_refl _) (.cells MK 27))
        have g44 : (V.alloc (.cells MK 27)).frozen? ⟨d, q + 4, none⟩ = false := (HVV.out.1.far ((Below.refl _ _).alloc (Nat.le_refl _) _)).frozen _
        clear hi0 hz0 hz1 hby hbm hMK k44'
        go_wp2_with (fail)
        have bV : Below V.heap.size V (V.alloc (.cells MK 27)) := (Below.refl _ _).alloc (Nat.le_refl _) _
        have rK : (V.alloc (.cells MK 27)).heap[V.heap.size]? = some (.cells MK 27 (0, 0)) := heap_alloc_new _ _
        have V5 := ((HVV.out.1.far bV).set hq 4 (by decide) (.slice (some ⟨V.heap.size, 0, none⟩) m m)).ext (v' := nodeF kd u l (.slice qa n da) (.slice (some ⟨V.heap.size, 0, none⟩) m m) s) (fun j hj => by
          match j, hj with
          | 0, _ => rfl
          | 1, _ => rfl
          | 2, _ => rfl
          | 3, _ => rfl
          | 4, _ => rfl
          | 5, _ => rfl)
        obtain ⟨W5, hW5⟩ : ∃ W5, (V.alloc (.cells MK 27)).setCell ⟨d, q + 4, none⟩ (.slice (some ⟨V.heap.size, 0, none⟩) m m) = W5 := ⟨_, rfl⟩
        rw [hW5] at V5 ⊢
        have o5 : ∀ k, k ≠ d → k < V.heap.size → W5.heap[k]? = V.heap[k]? := fun k hne hk => by rw [← hW5]; exact (set_oth6 hne).trans (bV.block k hk)
        have hdV := HVV.out.1.lt
        have hwV := HVV.out.1.size
        have rK5 : W5.heap[V.heap.size]? = some (.cells MK 27 (0, 0)) := by rw [← hW5]; exact (set_oth6 (by show V.heap.size ≠ d; omega)).trans rK
        clear hW5
        go_ret
        refine ⟨rfl, qa, da, some ⟨V.heap.size, 0, none⟩, m, V5, fun h0 => ?_, by first | exact hda' | (rw [← HN.out]; exact HA3.out.2.1), HA3.out.2.2, fun a e => ?_, .inr ⟨V.heap.size, rfl, rfl, hwV, MK, rK5, by rw [← HMK.out, size_madeCells], fun i j hi hj => ?_⟩⟩
        · obtain ⟨g, off, e1, hc⟩ := HVV.out.2 h0
          obtain ⟨g', e2, e3, cur, e6⟩ := HGV.out _ e1
          injection e2 with e4 e5
          subst e4
          have hne : g ≠ d := by have := HDW.out.1; omega
          have hgl := it_lt e6
          exact ⟨g, off, e1, fun j hj => ⟨(World.cell?_of_block (a := ⟨g, off + j * 3, none⟩) (o5 g hne hgl)).trans (hc j hj).1, (World.cell?_of_block (a := ⟨g, off + j * 3 + 1, none⟩) (o5 g hne hgl)).trans (hc j hj).2.1, (World.cell?_of_block (a := ⟨g, off + j * 3 + 2, none⟩) (o5 g hne hgl)).trans (hc j hj).2.2⟩⟩
        · obtain ⟨g, e1, e2, cur, e3⟩ := HGV.out a e
          exact ⟨g, e1, e2, cur, (o5 g (by have := HDW.out.1; omega) (it_lt e3)).trans e3⟩
        · rw [← HMK.out]
          unfold madeCells
          have hlt : i * 6 + j < m * 6 := by
            have : (i + 1) * 6 ≤ m * 6 := Nat.mul_le_mul_right 6 hi
            omega
          rw [Array.getElem?_map, Array.getElem?_range, if_pos hlt]
          have hm : (i * 6 + j) % 6 = j := by omega
          show some ((Value.agg #[.int .i64 0, .string ⟨#[]⟩, .string ⟨#[]⟩, .slice none 0 0, .slice none 0 0, .string ⟨#[]⟩]).cells[(i * 6 + j) % 6]!) = _
          rw [hm]
          match j, hj with
          | 0, _ => rfl
          | 1, _ => rfl
          | 2, _ => rfl
          | 3, _ => rfl
          | 4, _ => rfl
          | 5, _ => rfl
end Go.Proofs.YtfmlmdfehaajbaaGreatDoor
