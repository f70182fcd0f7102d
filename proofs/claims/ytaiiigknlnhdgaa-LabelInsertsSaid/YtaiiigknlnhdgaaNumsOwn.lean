/- Proved here: a call's own row of numbers, made longer one by one. -/
import Derived.Test.YtaiiigknlnhdgaaNumsKit
namespace Go.Proofs.Ytaiiigknlnhdgaa
open Go.RowKit

/-- Numbers that are being made: a row of the call's own (from block B on), or none. -/
def OwnI (w : World) (B : Nat) (q : Option Addr) (c : Nat) (l : List Int) : Prop := w.ownsRow B 3 1 (.slice q l.length c) l.length (intV l) ∧ (q = none → c = 0) ∧ l.length ≤ c
theorem OwnI.nil (w : World) (B : Nat) : OwnI w B none 0 [] := ⟨World.ownsRow_nil w B _ 1, fun _ => rfl, Nat.le_refl _⟩
theorem OwnI.holds {w : World} {B : Nat} {q : Option Addr} {c : Nat} {l : List Int} (h : OwnI w B q c l) : HoldsI w q l := fun h0 => by
  have hown := h.1
  rcases hown.2 with ⟨e, h1⟩ | ⟨g, cap, cur, e, hb, hh, hc, _, _⟩
  · omega
  · injection e with e1 e2 e3
    subst e1
    refine ⟨g, 0, rfl, fun j hj => ?_⟩
    rw [Nat.zero_add, World.ownsRow.cellAt hown j (by omega), intV_get l j hj]
theorem OwnI.far {w w' : World} {B : Nat} {q : Option Addr} {c : Nat} {l : List Int} (h : OwnI w B q c l) (hb : Below w.heap.size w w') : OwnI w' B q c l :=
  ⟨h.1.kept (row := none) ⟨hb.os, hb.tape, hb.output, hb.size, fun i hi _ => hb.block i hi⟩ (by cases hv : (Value.slice q l.length c).ownBlock <;> simp), h.2⟩
/-- A store into an elder block. -/
theorem OwnI.setCell {w : World} {B : Nat} {q : Option Addr} {c : Nat} {l : List Int} (h : OwnI w B q c l) {a : Addr} (ha : a.block < B) (v : Value) : OwnI (w.setCell a v) B q c l := by
  refine ⟨⟨h.1.1, ?_⟩, h.2⟩
  rcases h.1.2 with hn | ⟨g, cap, cur, e, hb, hh, rest⟩
  · exact .inl hn
  · refine .inr ⟨g, cap, cur, e, hb, ?_, rest⟩
    rw [Below.heap_setCell _ _ _ _ (by omega)]
    exact hh
theorem appendI_one {w : World} {B : Nat} {q : Option Addr} {c : Nat} {l : List Int} {x : Int} (h : OwnI w B q c l) (hB : B ≤ w.heap.size) (hsz : (l.length + 1) * 8 ≤ 140737488355328) :
    ∃ g cap w', (∀ ty, (Builtin.append_ #[22, 22] ty #[.slice q l.length c, .slice (some ⟨w.heap.size, 0, none⟩) 1 1]).run Try.prog (w.alloc (.cells #[.int .i64 x] 3)) = .ok (.slice (some ⟨g, 0, none⟩) (l.length + 1) cap) w') ∧
      OwnI w' B (some ⟨g, 0, none⟩) cap (l ++ [x]) ∧ w.grownBy w' (Value.slice q l.length c).ownBlock := by
  obtain ⟨i0, hi, hz0, hz1, hz2⟩ := info_parts infoInt
  have hown := World.ownsRow.alloc h.1 (.cells #[.int .i64 x] 3)
  have hs : (w.alloc (.cells #[.int .i64 x] 3)).heap.size = w.heap.size + 1 := by simp
  have hcells : ∀ j u, (intV [x])[j]? = some u → (w.alloc (.cells #[.int .i64 x] 3)).cell? ((⟨w.heap.size, 0, none⟩ : Addr).add j) = some u := by
    intro j u hu
    have hj : j = 0 := by
      have := (List.getElem?_eq_some_iff.1 hu).1
      simp [intV] at this
      omega
    subst hj
    have e : u = .int .i64 x := by simpa [intV] using hu.symm
    subst e
    have ha : (⟨w.heap.size, 0, none⟩ : Addr).add 0 = ⟨w.heap.size, 0, none⟩ := rfl
    rw [ha, cell_of_row _ _ 0 #[.int .i64 x] 3 (0, 0) (heap_alloc_new w _)]
    rfl
  obtain ⟨v', w', hrun, hown', hgrow, hne⟩ := run_append_own (P := Try.prog) (w := w.alloc (.cells #[.int .i64 x] 3)) B 22 22 3 i0 (.int .i64 0) 1 8 Try.underlying22 hi hz0 hz1 hz2 rfl (by decide) _ l.length (intV l) hown ⟨w.heap.size, 0, none⟩ 1 1 (intV [x]) rfl hcells (intV_one [x]) (by unfold maxLen; omega) (by omega) (by omega)
  have hv : v' ≠ .slice none 0 0 := fun e => by
    have := (hne.1 e).2
    cases this
  have hgr : w.grownBy w' (Value.slice q l.length c).ownBlock := ⟨hgrow.os, hgrow.tape, hgrow.output, by have := hgrow.size; omega, fun k hk hr => (hgrow.block k (by omega) hr).trans (((Below.refl _ w).alloc (Nat.le_refl _) _).block k hk)⟩
  have hl : (l ++ [x]).length = l.length + 1 := by simp
  rcases hown'.2 with ⟨e, _⟩ | ⟨g, cap, cur, rfl, hb, hh, hc, h1, h2⟩
  · exact absurd e hv
  · refine ⟨g, cap, w', fun ty => ?_, ⟨?_, (fun e => (by cases e)), by rw [hl]; exact hc⟩, hgr⟩
    · rw [← hrun]; rfl
    · rw [hl]
      rw [show intV l ++ intV [x] = intV (l ++ [x]) by simp [intV]] at hown'
      exact hown'
/-- A world that goes on from w, but for a row of the call's own and the block G. -/
def Goes (B G : Nat) (w W : World) : Prop := W.os = w.os ∧ W.tape = w.tape ∧ W.output = w.output ∧ w.heap.size ≤ W.heap.size ∧ ∀ k, k < B → k ≠ G → W.heap[k]? = w.heap[k]?
theorem Goes.refl (B G : Nat) (w : World) : Goes B G w w := ⟨rfl, rfl, rfl, Nat.le_refl _, fun _ _ _ => rfl⟩
theorem Goes.below {B G : Nat} {w W W' : World} (h : Goes B G w W) (hb : Below W.heap.size W W') (hB : B ≤ W.heap.size) : Goes B G w W' :=
  ⟨hb.os.trans h.1, hb.tape.trans h.2.1, hb.output.trans h.2.2.1, Nat.le_trans h.2.2.2.1 hb.size, fun k hk hG => (hb.block k (by omega)).trans (h.2.2.2.2 k hk hG)⟩
theorem Goes.grown {B G : Nat} {w W W' : World} {q : Option Addr} {c : Nat} {l : List Int} (h : Goes B G w W) (ho : OwnI W B q c l) (hg : W.grownBy W' (Value.slice q l.length c).ownBlock) (hB : B ≤ W.heap.size) : Goes B G w W' :=
  ⟨hg.os.trans h.1, hg.tape.trans h.2.1, hg.output.trans h.2.2.1, Nat.le_trans h.2.2.2.1 hg.size, fun k hk hG => (hg.block k (by omega) (fun e => by have := World.ownsRow.lt ho.1 k e.symm; omega)).trans (h.2.2.2.2 k hk hG)⟩
theorem Goes.setCell {B G : Nat} {w W : World} (h : Goes B G w W) (o : Nat) (v : Value) : Goes B G w (W.setCell ⟨G, o, none⟩ v) :=
  ⟨h.1, h.2.1, h.2.2.1, by simpa using h.2.2.2.1, fun k hk hG => by rw [Below.heap_setCell _ _ _ _ hG]; exact h.2.2.2.2 k hk hG⟩
theorem Goes.cell {B G : Nat} {w W : World} (h : Goes B G w W) {a : Addr} {v : Value} (hB : a.block < B) (hG : a.block ≠ G) (hc : w.cell? a = some v) : W.cell? a = some v := by
  rw [World.cell?_of_block (w := w) (h.2.2.2.2 a.block hB hG)]; exact hc
theorem Goes.to_below {B G : Nat} {w W : World} (h : Goes B G w W) (hG : G ≤ B) : Below G w W :=
  ⟨h.1, h.2.1, h.2.2.1, h.2.2.2.1, fun k hk => h.2.2.2.2 k (by omega) (by omega)⟩
end Go.Proofs.Ytaiiigknlnhdgaa
