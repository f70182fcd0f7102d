/- Proved here: the law's awake is true. -/
import Derived.Test.YtfmlmdfehaajbaaGreatDoorPartsPlain
namespace Go.Proofs.YtfmlmdfehaajbaaGreatDoor
open Go.RowKit Go.Shelf

theorem lit_is (s : ByteArray) : (s ∈ [e0, bx 117, e0, e0, e0] ∧ s ≠ (⟨#[]⟩ : ByteArray)) ↔ s = bx 117 := by
  constructor
  · rintro ⟨h, hn⟩
    simp at h
    rcases h with h | h | h
    · exact absurd h hn
    · exact h
    · exact absurd h hn
  · rintro rfl
    exact ⟨by simp, by decide⟩
theorem nodeV_bare (B : Nat) : nodeV (bare B) none 0 none 0 = .agg #[.int .i64 1, .string ⟨#[]⟩, .string ⟨#[]⟩, .slice none 0 0, .slice none 0 0, .string ⟨#[]⟩] := rfl
theorem nodeV_lit (B : Nat) : nodeV (litD B) none 0 (some ⟨B + 4, 0, none⟩) 1 = .agg #[.int .i64 1, .string ⟨#[]⟩, .string ⟨#[]⟩, .slice none 0 0, .slice (some ⟨B + 4, 0, none⟩) 1 1, .string ⟨#[]⟩] := rfl
/-- The tree in the law's own variable stands. -/
def BoxS (V : World) (n b : Nat) (W : World) : Prop := Below V.heap.size V W ∧ W.cell? ⟨n, 0, none⟩ = some (.int .i64 1) ∧ W.cell? ⟨n, 1, none⟩ = some (.string ⟨#[]⟩) ∧ W.cell? ⟨n, 2, none⟩ = some (.string ⟨#[]⟩) ∧ W.cell? ⟨n, 3, none⟩ = some (.slice none 0 0) ∧ W.cell? ⟨n, 4, none⟩ = some (.slice (some ⟨b, 0, none⟩) 1 1) ∧ W.cell? ⟨n, 5, none⟩ = some (.string ⟨#[]⟩)
theorem BoxS.below {V : World} {n b : Nat} {W W' : World} (h : BoxS V n b W) (k : Below W.heap.size W W') : BoxS V n b W' :=
  ⟨below_cat5 h.1 k, t_cell' k h.2.1, t_cell' k h.2.2.1, t_cell' k h.2.2.2.1, t_cell' k h.2.2.2.2.1, t_cell' k h.2.2.2.2.2.1, t_cell' k h.2.2.2.2.2.2⟩
theorem BoxS.made (V : World) (n b : Nat) (hn : V.heap.size = n) : BoxS V n b (V.alloc (.cells #[.int .i64 1, .string ⟨#[]⟩, .string ⟨#[]⟩, .slice none 0 0, .slice (some ⟨b, 0, none⟩) 1 1, .string ⟨#[]⟩] 27)) := by
  have h := heap_alloc_new V (.cells #[.int .i64 1, .string ⟨#[]⟩, .string ⟨#[]⟩, .slice none 0 0, .slice (some ⟨b, 0, none⟩) 1 1, .string ⟨#[]⟩] 27)
  rw [hn] at h
  exact ⟨(Below.refl _ _).alloc (Nat.le_refl _) _, cell_of_row _ _ 0 _ _ _ h, cell_of_row _ _ 1 _ _ _ h, cell_of_row _ _ 2 _ _ _ h, cell_of_row _ _ 3 _ _ _ h, cell_of_row _ _ 4 _ _ _ h, cell_of_row _ _ 5 _ _ _ h⟩
set_option maxRecDepth 100000 in
set_option maxHeartbeats 4000000 in
theorem awake5_any (w : World) (hT : Leans5 w) : Calls Tryz.prog 7 #[] w fun e W' => e = .returned (.bool true) ∧ Below w.heap.size w W' := by
  have CL := Lib.hid (little_any w)
  obtain ⟨V, hV⟩ : ∃ V, litW w = V := ⟨_, rfl⟩
  have hBV : Below w.heap.size w V := by rw [← hV]; exact litW_below w
  have hsz : V.heap.size = w.heap.size + 5 := by rw [← hV]; unfold litW; simp
  rw [hV] at CL
  have hK : ∀ W, Below V.heap.size V W → KidsAt W (litD w.heap.size) := fun W y k hk => by
    have : k = litA w.heap.size := by simpa [litD, AT.kids] using hk
    subst this
    exact litA_at w W (by rw [hV]; exact y)
  have hT' : ∀ W, Below V.heap.size V W → Leans5 W := fun W y => (hT.below hBV).below y
  have CS := Lib.hid (fun (W : World) (y : Below V.heap.size V W) => spaces_any W (litD w.heap.size) _ _ _ _ (litD_parts w.heap.size W) (hK W y) (by rw [lit_count]; decide) (by rw [lit_uris]; decide) ⟨bx 117, by rw [lit_uris]; simp, by decide⟩)
  have CC := Lib.hid (fun (W : World) (y : Below V.heap.size V W) => checks_any W (litD w.heap.size) _ _ _ _ (litD_parts w.heap.size W) (hK W y) (by rw [lit_count]; decide) (hT' W y).tabs (hT' W y).fold (hT' W y).max (lit_small _ _))
  have CZ := Lib.hid (fun (W : World) (y : Below V.heap.size V W) => size_any W (litD w.heap.size) _ _ _ _ (litD_parts w.heap.size W) (hK W y) (by rw [lit_count]; decide))
  have CD := Lib.hid (fun (W : World) (y : Below V.heap.size V W) => depth_any W (litD w.heap.size) _ _ _ _ (litD_parts w.heap.size W) (hK W y) (by rw [lit_count]; decide))
  have CB := Lib.hid (fun (W : World) (y : Below V.heap.size V W) => checks_any W (bare 0) none 0 none 0 (parts_nil W _ _ _ _ _ _ (by decide) (by decide) (by decide) (by decide)) (fun k hk => by cases hk) (by rw [bare_count]; decide) (hT' W y).tabs (hT' W y).fold (hT' W y).max (bare_small _ _))
  have e4 : ((4 : Nat) : Int) = 4 := rfl
  have e3 : ((3 : Nat) : Int) = 3 := rfl
  simp only [nodeV_lit, nodeV_bare, lit_check, lit_deep, bare_check, lit_count, lit_uris, e4, e3] at CL CS CC CZ CD CB
  have HB := Lib.hid hBV
  have i0 := Lib.hid (BoxS.made V _ (w.heap.size + 4) hsz)
  clear hK hT' hT hBV e4 e3
  go_enter Tryz.func7, Tryz.ntmps7
  go_wp2_with (first | (go_at_call 28; refine CL.out.mono ?_; rintro e w' ⟨rfl, hw⟩; subst hw) | (go_at_call 12; refine (CS.out _ i0.out.1).mono ?_; rintro e W1 ⟨sb, so, sc, l, rfl, hc1, hn1, hm1, hb1⟩; obtain rfl := (one_of (x := bx 117) hn1 (fun s => by rw [hm1]; exact lit_is s)); have s0 : W1.cell? ⟨sb, so, none⟩ = some (.string ⟨#[117]⟩) := hc1 0 (by decide); have i1 := Lib.hid (i0.out.below hb1); obtain ⟨y1, g0, g1, g2, g3, g4, g5⟩ := i1.out) | (go_at_call 15; refine (CZ.out _ i2.out.1).mono ?_; rintro e W3 ⟨rfl, hb3⟩; have s2 := t_cell' hb3 s1; have i3 := Lib.hid (i2.out.below hb3); obtain ⟨_, k0, k1, k2, k3, k4, k5⟩ := i3.out) | (go_at_call 17; refine (CD.out _ i3.out.1).mono ?_; rintro e W4 ⟨rfl, hb4⟩; have s3 := t_cell' hb4 s2; have i4 := Lib.hid (i3.out.below hb4)) | (go_at_call 9; first | (refine (CB.out _ i4.out.1).mono ?_; rintro e W5 ⟨rfl, hb5⟩) | (refine (CC.out _ i1.out.1).mono ?_; rintro e W2 ⟨rfl, hb2⟩; have s1 := t_cell' hb2 s0; have i2 := Lib.hid (i1.out.below hb2); obtain ⟨_, h0, h1, h2, h3, h4, h5⟩ := i2.out)))
  go_ret
  exact ⟨rfl, HB.out.trans (Below.mono (below_cat5 i4.out.1 hb5) HB.out.size)⟩
end Go.Proofs.YtfmlmdfehaajbaaGreatDoor
