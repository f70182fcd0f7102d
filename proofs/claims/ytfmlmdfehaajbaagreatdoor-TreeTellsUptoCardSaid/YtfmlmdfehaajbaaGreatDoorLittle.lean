/- Proved here: the law's little tree, as it lies. -/
import Derived.Test.YtfmlmdfehaajbaaGreatDoorSpaces
namespace Go.Proofs.YtfmlmdfehaajbaaGreatDoor
open Go.RowKit Go.Shelf

def bx (b : UInt8) : ByteArray := ⟨#[b]⟩
def e0 : ByteArray := ⟨#[]⟩
def litT (B : Nat) : AT := .node (B + 3) 0 3 e0 e0 [] (bx 120) []
def litC (B : Nat) : AT := .node (B + 3) 6 2 e0 (bx 99) [] e0 []
def litA (B : Nat) : AT := .node (B + 4) 0 2 (bx 117) (bx 97) [⟨e0, bx 98, bx 49⟩] e0 [litT B, litC B]
def litD (B : Nat) : AT := .node 0 0 1 e0 e0 [] e0 [litA B]
def litW (w : World) : World :=
  ((((w.alloc (.cells #[.int .i64 1, .string e0, .string e0, .slice none 0 0, .slice (some ⟨w.heap.size + 4, 0, none⟩) 1 1, .string e0] 27)).alloc (.cells #[.string e0, .string (bx 98), .string (bx 49)] 67)).alloc
    (.cells #[.int .i64 2, .string (bx 117), .string (bx 97), .slice (some ⟨w.heap.size + 1, 0, none⟩) 1 1, .slice (some ⟨w.heap.size + 3, 0, none⟩) 2 2, .string e0] 27)).alloc
    (.cells #[.int .i64 3, .string e0, .string e0, .slice none 0 0, .slice none 0 0, .string (bx 120), .int .i64 2, .string e0, .string (bx 99), .slice none 0 0, .slice none 0 0, .string e0] 27)).alloc
    (.cells #[.int .i64 2, .string (bx 117), .string (bx 97), .slice (some ⟨w.heap.size + 1, 0, none⟩) 1 1, .slice (some ⟨w.heap.size + 3, 0, none⟩) 2 2, .string e0] 27)
theorem litW_below (w : World) : Below w.heap.size w (litW w) := by
  unfold litW
  exact (((((Below.refl _ _).alloc (Nat.le_refl _) _).alloc (by simp) _).alloc (by simp <;> omega) _).alloc (by simp <;> omega) _).alloc (by simp <;> omega) _
theorem litW_at0 (w : World) : (litW w).heap[w.heap.size]? = some (.cells #[.int .i64 1, .string e0, .string e0, .slice none 0 0, .slice (some ⟨w.heap.size + 4, 0, none⟩) 1 1, .string e0] 27 (0, 0)) := by
  unfold litW
  rw [Below.heap_alloc _ _ _ (by simp <;> omega), Below.heap_alloc _ _ _ (by simp <;> omega), Below.heap_alloc _ _ _ (by simp <;> omega), Below.heap_alloc _ _ _ (by simp)]
  exact heap_alloc_new _ _
theorem litW_at1 (w : World) : (litW w).heap[w.heap.size + 1]? = some (.cells #[.string e0, .string (bx 98), .string (bx 49)] 67 (0, 0)) := by
  unfold litW
  rw [Below.heap_alloc _ _ _ (by simp <;> omega), Below.heap_alloc _ _ _ (by simp <;> omega), Below.heap_alloc _ _ _ (by simp)]
  have := heap_alloc_new (w.alloc (.cells #[.int .i64 1, .string e0, .string e0, .slice none 0 0, .slice (some ⟨w.heap.size + 4, 0, none⟩) 1 1, .string e0] 27)) (.cells #[.string e0, .string (bx 98), .string (bx 49)] 67)
  rwa [World.size_alloc] at this
theorem litW_at3 (w : World) : (litW w).heap[w.heap.size + 3]? = some (.cells #[.int .i64 3, .string e0, .string e0, .slice none 0 0, .slice none 0 0, .string (bx 120), .int .i64 2, .string e0, .string (bx 99), .slice none 0 0, .slice none 0 0, .string e0] 27 (0, 0)) := by
  unfold litW
  rw [Below.heap_alloc _ _ _ (by simp)]
  generalize hg : ((w.alloc _).alloc _).alloc _ = W3
  have hz : W3.heap.size = w.heap.size + 3 := by rw [← hg]; simp
  rw [← hz]
  exact heap_alloc_new _ _
theorem litW_at4 (w : World) : (litW w).heap[w.heap.size + 4]? = some (.cells #[.int .i64 2, .string (bx 117), .string (bx 97), .slice (some ⟨w.heap.size + 1, 0, none⟩) 1 1, .slice (some ⟨w.heap.size + 3, 0, none⟩) 2 2, .string e0] 27 (0, 0)) := by
  unfold litW
  generalize hg : (((w.alloc _).alloc _).alloc _).alloc _ = W4
  have hz : W4.heap.size = w.heap.size + 4 := by rw [← hg]; simp
  rw [← hz]
  exact heap_alloc_new _ _
theorem parts_nil (W : World) (b o : Nat) (k : Int) (u l s : ByteArray) (hk : -9223372036854775808 ≤ k ∧ k ≤ 9223372036854775807) (hu : u.size ≤ 140737488351232) (hl : l.size ≤ 140737488351232) (hs : s.size ≤ 140737488351232) : PartsAt W (.node b o k u l [] s []) none 0 none 0 :=
  ⟨fun h => absurd h (by simp [AT.attrs]), Nat.le_refl _, fun _ => rfl, fun h => absurd h (by simp [AT.kids]), Nat.le_refl _, fun _ => rfl, hk, hu, hl, hs, Nat.zero_le _, Nat.zero_le _, fun a ha => (by cases ha)⟩
theorem litA_at (w W : World) (h : Below (litW w).heap.size (litW w) W) : TreeAt W (litA w.heap.size) := by
  have sz : w.heap.size + 5 = (litW w).heap.size := by unfold litW; simp
  have b1 := (h.block (w.heap.size + 1) (by omega)).trans (litW_at1 w)
  have b3 := (h.block (w.heap.size + 3) (by omega)).trans (litW_at3 w)
  have b4 := (h.block (w.heap.size + 4) (by omega)).trans (litW_at4 w)
  refine TreeAt.mk ⟨some ⟨w.heap.size + 1, 0, none⟩, 1, some ⟨w.heap.size + 3, 0, none⟩, 2, ⟨fun _ => ⟨w.heap.size + 1, 0, rfl, fun j hj => ?_⟩, Nat.le_refl _, fun e => (by cases e), fun _ => ⟨w.heap.size + 3, 0, rfl, fun i hi => ?_⟩, Nat.le_refl _, fun e => (by cases e), (show -9223372036854775808 ≤ (2 : Int) ∧ (2 : Int) ≤ 9223372036854775807 by decide), (show (bx 117).size ≤ 140737488351232 by decide), (show (bx 97).size ≤ 140737488351232 by decide), (show (e0).size ≤ 140737488351232 by decide), (show 1 ≤ 140737488351232 by decide), (show 2 ≤ 140737488351232 by decide), fun a ha => ?_⟩, ?_, ?_, ?_, ?_, ?_, ?_⟩ (fun k hk => ?_)
  · have hj0 : j = 0 := by
      have : (litA w.heap.size).attrs.length = 1 := rfl
      omega
    subst hj0
    exact ⟨cell_of_row _ _ 0 _ _ _ b1, cell_of_row _ _ 1 _ _ _ b1, cell_of_row _ _ 2 _ _ _ b1⟩
  · have hi2 : i < 2 := hi
    match i, hi2 with
    | 0, _ => exact ⟨rfl, rfl⟩
    | 1, _ => exact ⟨rfl, rfl⟩
  · have : a = ⟨e0, bx 98, bx 49⟩ := by simpa [litA, AT.attrs] using ha
    subst this
    decide
  · exact cell_of_row _ _ 0 _ _ _ b4
  · exact cell_of_row _ _ 1 _ _ _ b4
  · exact cell_of_row _ _ 2 _ _ _ b4
  · exact cell_of_row _ _ 3 _ _ _ b4
  · exact cell_of_row _ _ 4 _ _ _ b4
  · exact cell_of_row _ _ 5 _ _ _ b4
  · have hk2 : k = litT w.heap.size ∨ k = litC w.heap.size := by simpa [litA, AT.kids] using hk
    rcases hk2 with rfl | rfl
    · refine TreeAt.mk ⟨none, 0, none, 0, parts_nil W _ _ _ _ _ _ (by decide) (by decide) (by decide) (by decide), ?_, ?_, ?_, ?_, ?_, ?_⟩ (fun k hk => by cases hk)
      · exact cell_of_row _ _ 0 _ _ _ b3
      · exact cell_of_row _ _ 1 _ _ _ b3
      · exact cell_of_row _ _ 2 _ _ _ b3
      · exact cell_of_row _ _ 3 _ _ _ b3
      · exact cell_of_row _ _ 4 _ _ _ b3
      · exact cell_of_row _ _ 5 _ _ _ b3
    · refine TreeAt.mk ⟨none, 0, none, 0, parts_nil W _ _ _ _ _ _ (by decide) (by decide) (by decide) (by decide), ?_, ?_, ?_, ?_, ?_, ?_⟩ (fun k hk => by cases hk)
      · exact cell_of_row _ _ 6 _ _ _ b3
      · exact cell_of_row _ _ 7 _ _ _ b3
      · exact cell_of_row _ _ 8 _ _ _ b3
      · exact cell_of_row _ _ 9 _ _ _ b3
      · exact cell_of_row _ _ 10 _ _ _ b3
      · exact cell_of_row _ _ 11 _ _ _ b3
theorem litD_parts (B : Nat) (W : World) : PartsAt W (litD B) none 0 (some ⟨B + 4, 0, none⟩) 1 :=
  ⟨fun h => absurd h (by simp [litD, AT.attrs]), Nat.le_refl _, fun _ => rfl, fun _ => ⟨B + 4, 0, rfl, fun i hi => by
    have hi0 : i = 0 := by
      have : (litD B).kids.length = 1 := rfl
      omega
    subst hi0
    exact ⟨rfl, rfl⟩⟩, Nat.le_refl _, fun e => (by cases e), (show -9223372036854775808 ≤ (1 : Int) ∧ (1 : Int) ≤ 9223372036854775807 by decide), (show (e0).size ≤ 140737488351232 by decide), (show (e0).size ≤ 140737488351232 by decide), (show (e0).size ≤ 140737488351232 by decide), (show 0 ≤ 140737488351232 by decide), (show 1 ≤ 140737488351232 by decide), fun a ha => (by cases ha)⟩
set_option maxRecDepth 100000 in
set_option maxHeartbeats 2000000 in
theorem little_any (w : World) : Calls Tryz.prog 28 #[] w fun e W' => e = .returned (nodeV (litD w.heap.size) none 0 (some ⟨w.heap.size + 4, 0, none⟩) 1) ∧ W' = litW w := by
  go_enter Tryz.func28, Tryz.ntmps28
  go_wp2_with (fail)
  change bodyPost _ _ _ _ _ (litW w)
  refine bodyPost_ret (v := nodeV (litD w.heap.size) none 0 (some ⟨w.heap.size + 4, 0, none⟩) 1) ?_ rfl ⟨rfl, rfl⟩
  have b0 := litW_at0 w
  have c0 := cell_of_row _ _ 0 _ _ _ b0
  have c1 := cell_of_row _ _ 1 _ _ _ b0
  have c2 := cell_of_row _ _ 2 _ _ _ b0
  have c3 := cell_of_row _ _ 3 _ _ _ b0
  have c4 := cell_of_row _ _ 4 _ _ _ b0
  have c5 := cell_of_row _ _ 5 _ _ _ b0
  generalize litW w = W at *
  simp at c0 c1 c2 c3 c4 c5
  simp [results, Tryz.f28, go_sem, c0, c1, c2, c3, c4, c5, nodeV, litD, AT.kind, AT.uri, AT.loc, AT.attrs, AT.kids, AT.text]
end Go.Proofs.YtfmlmdfehaajbaaGreatDoor
