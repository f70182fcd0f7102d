/- Proved here: what a writer of bits does: a bit more, a number more. -/
import Derived.Test.YtaiiigknlnhdgaaLabNum
import Derived.Laws.OwnMore
import Derived.BigRegion
namespace Go.Proofs.Ytaiiigknlnhdgaa
open Go.RowKit

def bytV (l : List Nat) : List Value := l.map (fun x : Nat => Value.int .u8 (x : Int))
theorem bytV_length (l : List Nat) : (bytV l).length = l.length := by simp [bytV]
theorem bytV_get (l : List Nat) (j : Nat) (h : j < l.length) : (bytV l)[j]? = some (.int .u8 ((l.getD j 0 : Nat) : Int)) := by
  simp [bytV, List.getElem?_eq_getElem h]
theorem bytV_one (l : List Nat) : ∀ u ∈ bytV l, u.oneCell' = true := by
  intro u hu
  simp only [bytV, List.mem_map] at hu
  obtain ⟨b, _, rfl⟩ := hu
  rfl
theorem infoU8 : (Try.prog.info? 5).map (fun i => (i.zero, i.size, i.bytes)) = some (some (.int .u8 0), 1, 1) := by kernel_rfl
/-- A row of bytes of the call's own (from block B on), or none. -/
def OwnU (w : World) (B : Nat) (q : Option Addr) (c : Nat) (l : List Nat) : Prop := w.ownsRow B 5 1 (.slice q l.length c) l.length (bytV l) ∧ (q = none → c = 0) ∧ l.length ≤ c
theorem OwnU.nil (w : World) (B : Nat) : OwnU w B none 0 [] := ⟨World.ownsRow_nil w B _ 1, fun _ => rfl, Nat.le_refl _⟩
theorem OwnU.far {w w' : World} {B : Nat} {q : Option Addr} {c : Nat} {l : List Nat} (h : OwnU w B q c l) (hb : Below w.heap.size w w') : OwnU w' B q c l :=
  ⟨h.1.kept (row := none) ⟨hb.os, hb.tape, hb.output, hb.size, fun i hi _ => hb.block i hi⟩ (by cases hv : (Value.slice q l.length c).ownBlock <;> simp), h.2⟩
theorem OwnU.setCell {w : World} {B : Nat} {q : Option Addr} {c : Nat} {l : List Nat} (h : OwnU w B q c l) {a : Addr} (ha : a.block < B) (v : Value) : OwnU (w.setCell a v) B q c l :=
  ⟨ownsRow_setCell_below h.1 ha v, h.2⟩
theorem OwnU.at {w : World} {B : Nat} {q : Option Addr} {c : Nat} {l : List Nat} (h : OwnU w B q c l) {j : Nat} (hj : j < l.length) : ∃ g, q = some ⟨g, 0, none⟩ ∧ B ≤ g ∧ g < w.heap.size ∧ w.cell? ⟨g, j, none⟩ = some (.int .u8 ((l.getD j 0 : Nat) : Int)) ∧ w.frozen? ⟨g, j, none⟩ = false := by
  have hown := h.1
  rcases hown.2 with ⟨e, h1⟩ | ⟨g, cap, cur, e, hb, hh, hc, _, _⟩
  · omega
  · injection e with e1 e2 e3
    subst e1
    refine ⟨g, rfl, hb, (hown.lt g rfl).2, ?_, World.ownsRow.frozenAt hown j⟩
    rw [World.ownsRow.cellAt hown j (by omega), bytV_get l j hj]
theorem appendU_one {w : World} {B : Nat} {q : Option Addr} {c : Nat} {l : List Nat} {x : Nat} (h : OwnU w B q c l) (hB : B ≤ w.heap.size) (hsz : l.length + 1 ≤ 140737488355328) :
    ∃ g cap w', (∀ ty, (Builtin.append_ #[23, 23] ty #[.slice q l.length c, .slice (some ⟨w.heap.size, 0, none⟩) 1 1]).run Try.prog (w.alloc (.cells #[.int .u8 (x : Int)] 5)) = .ok (.slice (some ⟨g, 0, none⟩) (l.length + 1) cap) w') ∧
      OwnU w' B (some ⟨g, 0, none⟩) cap (l ++ [x]) ∧ w.grownBy w' (Value.slice q l.length c).ownBlock := by
  obtain ⟨i0, hi, hz0, hz1, hz2⟩ := info_parts infoU8
  have hown := World.ownsRow.alloc h.1 (.cells #[.int .u8 (x : Int)] 5)
  have hs : (w.alloc (.cells #[.int .u8 (x : Int)] 5)).heap.size = w.heap.size + 1 := by simp
  have hcells : ∀ j u, (bytV [x])[j]? = some u → (w.alloc (.cells #[.int .u8 (x : Int)] 5)).cell? ((⟨w.heap.size, 0, none⟩ : Addr).add j) = some u := by
    intro j u hu
    have hj : j = 0 := by
      have := (List.getElem?_eq_some_iff.1 hu).1
      simp [bytV] at this
      omega
    subst hj
    have e : u = .int .u8 (x : Int) := by simpa [bytV] using hu.symm
    subst e
    have ha : (⟨w.heap.size, 0, none⟩ : Addr).add 0 = ⟨w.heap.size, 0, none⟩ := rfl
    rw [ha, cell_of_row _ _ 0 #[.int .u8 (x : Int)] 5 (0, 0) (heap_alloc_new w _)]
    rfl
  obtain ⟨v', w', hrun, hown', hgrow, hne⟩ := run_append_own (P := Try.prog) (w := w.alloc (.cells #[.int .u8 (x : Int)] 5)) B 23 23 5 i0 (.int .u8 0) 1 1 Try.underlying23 hi hz0 hz1 hz2 rfl (by decide) _ l.length (bytV l) hown ⟨w.heap.size, 0, none⟩ 1 1 (bytV [x]) rfl hcells (bytV_one [x]) (by unfold maxLen; omega) (by omega) (by omega)
  have hv : v' ≠ .slice none 0 0 := fun e => by
    have := (hne.1 e).2
    cases this
  have hgr : w.grownBy w' (Value.slice q l.length c).ownBlock := ⟨hgrow.os, hgrow.tape, hgrow.output, by have := hgrow.size; omega, fun k hk hr => (hgrow.block k (by omega) hr).trans (((Below.refl _ w).alloc (Nat.le_refl _) _).block k hk)⟩
  have hl : (l ++ [x]).length = l.length + 1 := by simp
  rcases hown'.2 with ⟨e, _⟩ | ⟨g, cap, cur, rfl, hb, hh, hc, h1, h2⟩
  · exact absurd e hv
  · refine ⟨g, cap, w', fun ty => ?_, ⟨?_, (fun e => (by cases e)), by rw [hl]; exact hc⟩, hgr⟩
    · rw [← hrun]; rfl
    · rw [hl]
      rw [show bytV l ++ bytV [x] = bytV (l ++ [x]) by simp [bytV]] at hown'
      exact hown'
/-- A writer of bits: its block G lies ahead of B, its bytes from B on. -/
structure WrS (W : World) (B G : Nat) (bs : List Bool) (q : Option Addr) (c : Nat) : Prop where
  blk : W.heap[G]? = some (.cells #[.slice q ((bs.length + 7) / 8) c, .int .i64 (bs.length : Int)] 50)
  own : OwnU W B q c (packB bs)
  lt : G < B
  le : B ≤ W.heap.size

theorem WrS.cells {W : World} {B G : Nat} {bs : List Bool} {q : Option Addr} {c : Nat} (h : WrS W B G bs q c) : W.cell? ⟨G, 0, none⟩ = some (.slice q ((bs.length + 7) / 8) c) ∧ W.cell? ⟨G, 1, none⟩ = some (.int .i64 (bs.length : Int)) ∧ W.frozen? ⟨G, 0, none⟩ = false ∧ W.frozen? ⟨G, 1, none⟩ = false := by
  obtain ⟨hblk, _, _, _⟩ := h
  simp [World.cell?, World.frozen?, hblk]
/-- What a writer holds, a bit more. -/
theorem packB_more (bs : List Bool) (b : Bool) (l2 : List Nat) (hl : l2.length = (bs.length + 1 + 7) / 8) (h : ∀ j, j < l2.length → l2.getD j 0 = packAt bs j) :
    packB (bs ++ [b]) = l2.set (bs.length / 8) (l2.getD (bs.length / 8) 0 ||| (b2n b <<< (7 - bs.length % 8))) := by
  apply List.ext_getElem
  · rw [packB_length, List.length_append, List.length_set, hl]; rfl
  · intro j h1 h2
    rw [List.length_set] at h2
    have e1 : (packB (bs ++ [b]))[j]'h1 = (packB (bs ++ [b])).getD j 0 := by simp [List.getD, List.getElem?_eq_getElem h1]
    rw [packB_length] at h1
    rw [e1, packB_getD _ _ h1, List.getElem_set]
    by_cases q : bs.length / 8 = j
    · rw [if_pos q, h _ (by omega), ← q, packAt_near]
    · rw [if_neg q, packAt_far _ _ _ (fun e => q e.symm), ← h j h2]
      simp [List.getD, List.getElem?_eq_getElem h2]
def PutPost (w : World) (B G : Nat) (bs : List Bool) (e : Ending) (w' : World) : Prop := e = .returned (.tuple #[]) ∧ (∃ q c, WrS w' B G bs q c) ∧ Goes B G w w'
theorem bytV_set (l : List Nat) (k x : Nat) : (bytV l).set k (.int .u8 (x : Int)) = bytV (l.set k x) := by
  simp [bytV, List.map_set]
theorem u_row {w : World} {G k : Nat} {row : Array Value} {T : TypeId} (v : Value) (h : w.heap[G]? = some (.cells row T)) : (w.setCell ⟨G, k, none⟩ v).heap[G]? = some (.cells (row.setIfInBounds k v) T) := by
  show (w.heap.modify G _)[G]? = _
  rw [Array.getElem?_modify, if_pos rfl, h]
  rfl
theorem Goes.grow {B G : Nat} {w W W' : World} {row : Option Nat} (h : Goes B G w W) (hg : W.grownBy W' row) (hB : B ≤ W.heap.size) (hr : ∀ k, row = some k → B ≤ k) : Goes B G w W' :=
  ⟨hg.os.trans h.1, hg.tape.trans h.2.1, hg.output.trans h.2.2.1, Nat.le_trans h.2.2.2.1 hg.size, fun k hk hG => (hg.block k (by omega) (fun e => by have := hr k e.symm; omega)).trans (h.2.2.2.2 k hk hG)⟩
/-- The end of put: the byte at hand is stored, and the place. -/
theorem put_done {w W2 : World} {B G g k n m cap : Nat} {bs : List Bool} {b : Bool} {l2 : List Nat} (hblk : W2.heap[G]? = some (.cells #[.slice (some ⟨g, 0, none⟩) m cap, .int .i64 (n : Int)] 50)) (hown : OwnU W2 B (some ⟨g, 0, none⟩) cap l2)
    (hm : l2.length = m) (hn : bs.length = n) (hk : n / 8 = k) (hl : m = (n + 1 + 7) / 8) (hpk : ∀ j, j < l2.length → l2.getD j 0 = packAt bs j) (hG : G < B) (hB : B ≤ W2.heap.size) (hg : B ≤ g) (hgo : Goes B G w W2) (x : Int) (hx : x = ((l2.getD k 0 ||| (b2n b <<< (7 - n % 8)) : Nat) : Int)) (y : Int) (hy : y = (n : Int) + 1) :
    (∃ q c, WrS (((W2.setCell ⟨g, k, none⟩ (.int .u8 x)).setCell ⟨G, 1, none⟩ (.int .i64 y)).drew) B G (bs ++ [b]) q c) ∧ Goes B G w (((W2.setCell ⟨g, k, none⟩ (.int .u8 x)).setCell ⟨G, 1, none⟩ (.int .i64 y)).drew) := by
  subst hx hy
  have hlt : g < W2.heap.size := (World.ownsRow.lt hown.1 g rfl).2
  have hgG : G ≠ g := by omega
  have hkl : k < l2.length := by omega
  have o1 := (World.ownsRow.stored hown.1 k (.int .u8 ((l2.getD k 0 ||| (b2n b <<< (7 - n % 8)) : Nat) : Int))).1
  rw [bytV_set] at o1
  have hpm := packB_more bs b l2 (by rw [hm, hl, hn]) hpk
  rw [hn, hk] at hpm
  rw [← hpm] at o1
  have hlen : l2.length = (packB (bs ++ [b])).length := by rw [hpm, List.length_set]
  have hl3 : ((bs ++ [b]).length + 7) / 8 = m := by simp; omega
  refine ⟨⟨some ⟨g, 0, none⟩, cap, ⟨?_, ⟨?_, fun e => (by cases e), by rw [← hlen, hm]; have := hown.2.2; omega⟩, hG, by simp [World.drew]; exact hB⟩⟩, ?_⟩
  · rw [hl3]
    have e3 : (((bs ++ [b]).length : Nat) : Int) = (n : Int) + 1 := by simp; omega
    rw [e3]
    exact u_row _ ((Below.heap_setCell _ _ _ _ hgG).trans hblk)
  · rw [← hlen]
    exact World.ownsRow.drew (ownsRow_setCell_below o1 hG _)
  · refine Goes.setCell (W := W2.setCell ⟨g, k, none⟩ _) ?_ 1 _
    refine ⟨hgo.1, hgo.2.1, hgo.2.2.1, ?_, fun j hj hG' => ?_⟩
    · show w.heap.size ≤ (W2.setCell _ _).heap.size
      simpa using hgo.2.2.2.1
    · show (W2.setCell ⟨g, k, none⟩ _).heap[j]? = _
      rw [Below.heap_setCell _ _ _ _ (by show j ≠ g; omega)]
      exact hgo.2.2.2.2 j hj hG'
theorem shl_bit (b : Bool) (r : Nat) (hr : r < 8) : ((b2n b : Int) % 256 * (2 : Int) ^ (7 - r) % 256) = ((b2n b <<< (7 - r) : Nat) : Int) := by
  rcases (show r = 0 ∨ r = 1 ∨ r = 2 ∨ r = 3 ∨ r = 4 ∨ r = 5 ∨ r = 6 ∨ r = 7 by omega) with rfl | rfl | rfl | rfl | rfl | rfl | rfl | rfl <;> cases b <;> decide
theorem shl_lt (b : Bool) (r : Nat) (hr : r < 8) : b2n b <<< (7 - r) < 256 := by
  rcases (show r = 0 ∨ r = 1 ∨ r = 2 ∨ r = 3 ∨ r = 4 ∨ r = 5 ∨ r = 6 ∨ r = 7 by omega) with rfl | rfl | rfl | rfl | rfl | rfl | rfl | rfl <;> cases b <;> decide

set_option maxRecDepth 100000 in
set_option maxHeartbeats 2000000 in
theorem put_new (w : World) (B G : Nat) (bs : List Bool) (b : Bool) (q : Option Addr) (c : Nat) (h : WrS w B G bs q c) (hn : bs.length ≤ 1099511627776) (h8 : bs.length % 8 = 0) :
    Calls Try.prog 54 #[.pointer (some ⟨G, 0, none⟩), .int .i64 (b2n b : Int)] w (PutPost w B G (bs ++ [b])) := by
  obtain ⟨c0, c1, f0, f1⟩ := h.cells
  obtain ⟨hblk, hown, hlt, hle⟩ := h
  obtain ⟨n, hL⟩ : ∃ n, bs.length = n := ⟨_, rfl⟩
  rw [hL] at hn h8 c0 c1 hblk
  have t8 : ((n : Int) % 8 == 0) = true := by rw [beq_iff_eq]; omega
  obtain ⟨g, cap, w1, hrun, hown1, hgr⟩ := appendU_one (x := 0) hown hle (by rw [packB_length, hL]; omega)
  rw [packB_length, hL] at hrun hgr
  have hne : some G ≠ (Value.slice q ((n + 7) / 8) c).ownBlock := fun e => by
    have h1 := hown.1
    rw [packB_length, hL] at h1
    have := World.ownsRow.lt h1 G e.symm
    omega
  have hblk1 := (hgr.block G (by omega) hne).trans hblk
  have d0 : w1.cell? ⟨G, 0, none⟩ = some (.slice q ((n + 7) / 8) c) := by simp [World.cell?, hblk1]
  have d1 : w1.cell? ⟨G, 1, none⟩ = some (.int .i64 (n : Int)) := by simp [World.cell?, hblk1]
  have g0 : w1.frozen? ⟨G, 0, none⟩ = false := by simp [World.frozen?, hblk1]
  have g1 : w1.frozen? ⟨G, 1, none⟩ = false := by simp [World.frozen?, hblk1]
  have HR := Lib.hid hrun
  clear hrun
  obtain ⟨k, hk8⟩ : ∃ k, n / 8 = k := ⟨_, rfl⟩
  have hq : (n : Int) / 8 = (k : Int) := by omega
  have hm : (n + 7) / 8 = k := by omega
  rw [hm] at hblk c0 HR hgr hne hblk1 d0
  have hlen : (packB bs ++ [0]).length = k + 1 := by rw [List.length_append, packB_length, hL]; simp; omega
  obtain ⟨W2, hW2⟩ : ∃ W, w1.setCell ⟨G, 0, none⟩ (.slice (some ⟨g, 0, none⟩) (k + 1) cap) = W := ⟨_, rfl⟩
  have hb2 : W2.heap[G]? = some (.cells #[.slice (some ⟨g, 0, none⟩) (k + 1) cap, .int .i64 (n : Int)] 50) := by
    rw [← hW2]
    show (w1.heap.modify G _)[G]? = _
    rw [Array.getElem?_modify, if_pos rfl, hblk1]
    rfl
  have hown2 : OwnU W2 B (some ⟨g, 0, none⟩) cap (packB bs ++ [0]) := by rw [← hW2]; exact hown1.setCell hlt _
  have hsz2 : W2.heap.size = w1.heap.size := by rw [← hW2]; simp
  have e0 : W2.cell? ⟨G, 0, none⟩ = some (.slice (some ⟨g, 0, none⟩) (k + 1) cap) := by simp [World.cell?, hb2]
  have e1 : W2.cell? ⟨G, 1, none⟩ = some (.int .i64 (n : Int)) := by simp [World.cell?, hb2]
  obtain ⟨g', hg', hBg, hgs, e2, i2⟩ := hown2.at (j := k) (by omega)
  obtain rfl : g' = g := by injection hg' with e; injection e with e _ _; exact e.symm
  have hz : (packB bs ++ [0]).getD k 0 = 0 := by
    rw [List.getD_eq_getElem?_getD, List.getElem?_append_right (by rw [packB_length]; omega), packB_length, show k - (bs.length + 7) / 8 = 0 by omega]; rfl
  rw [hz] at e2
  go_enter Try.func54, Try.ntmps54
  go_wp2_with (at_builtin; refine t_append_eq rfl _ _ _ rfl _ _ _ _ rfl rfl HR.out ?_)
  have hgo : Goes B G w W2 := by
    rw [← hW2]
    refine Goes.setCell (Goes.grow (Goes.refl B G w) hgr hle fun j e => ?_) 0 _
    have h1 := hown.1
    rw [packB_length, hL, hm] at h1
    exact (World.ownsRow.lt h1 j e).1
  have hsz : B ≤ W2.heap.size := by rw [hsz2]; have := hgr.size; omega
  have HF := Lib.hid (And.intro hb2 (And.intro hown2 (And.intro hlen (And.intro hL (And.intro hlt (And.intro hBg hgo))))))
  have h8' : (n : Int) % 8 = 0 := by omega
  clear hblk hown hL hW2 c0 c1 f0 f1 d0 d1 g0 g1 hblk1 hown1 hgr hne HR hb2 hown2 hlen hgo hg' hm
  clear t8 h8
  go_region
  obtain ⟨x, hx⟩ : ∃ x, bits BinOp.or IntKind.u8 0 ((b2n b : Int) % 256 * 128 % 256) = x := ⟨_, rfl⟩
  rw [hx]
  have hgG : g' ≠ G := by have := HF.out.2.2.2.2.2.1; have := HF.out.2.2.2.2.1; omega
  have hr1 := (Below.heap_setCell W2 ⟨g', k, none⟩ (.int .u8 x) G (fun e => hgG e.symm)).trans HF.out.1
  have j1 : ((W2.setCell ⟨g', k, none⟩ (.int .u8 x)).drew).cell? ⟨G, 1, none⟩ = some (.int .i64 (n : Int)) := by
    show (W2.setCell ⟨g', k, none⟩ (.int .u8 x)).cell? ⟨G, 1, none⟩ = _
    simp [World.cell?, hr1]
  have j2 : ((W2.setCell ⟨g', k, none⟩ (.int .u8 x)).drew).frozen? ⟨G, 1, none⟩ = false := by
    show (W2.setCell ⟨g', k, none⟩ (.int .u8 x)).frozen? ⟨G, 1, none⟩ = _
    simp [World.frozen?, hr1]
  clear hr1
  go_wp2_with (fail)
  go_end0
  obtain ⟨hb2, hown2, hlen, hL, hlt, hBg, hgo⟩ := HF.out
  have hr8 : n % 8 = 0 := by omega
  refine ⟨rfl, put_done hb2 hown2 hlen hL hk8 (by omega) (fun j hj => ?_) hlt hsz hBg hgo x ?_ _ rfl⟩
  · by_cases q9 : j < k
    · rw [List.getD_eq_getElem?_getD, List.getElem?_append_left (by rw [packB_length]; omega), ← List.getD_eq_getElem?_getD, packB_getD _ _ (by omega)]
    · obtain rfl : j = k := by omega
      rw [hz, packAt_zero _ _ (by omega)]
  · rw [← hx, hz, hr8]
    have h1 := shl_bit b 0 (by decide)
    have h2 := shl_lt b 0 (by decide)
    rw [show (2 : Int) ^ (7 - 0) = 128 by decide] at h1
    rw [h1]
    exact u8_or_nat 0 _ (by decide) h2
end Go.Proofs.Ytaiiigknlnhdgaa
