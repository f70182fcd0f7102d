/- Proved here: the statement TreeFinds, walked: it answers true of every tree and path, in every world. -/
import Derived.Test.YtfmlmdfehaajbaaGreatDoorAwake5A
import Derived.Test.YtfmlmdfehaajbaaGreatDoorTwinW
import Derived.Test.YtfmlmdfehaajbaaGreatDoorSameW
import Derived.Test.YtfmlmdfehaajbaaGreatDoorRefAt
import Derived.Test.YtfmlmdfehaajbaaGreatDoorSpoilGone
import Derived.Test.YtfmlmdfehaajbaaGreatDoorSpoilStart
namespace Go.Proofs.YtfmlmdfehaajbaaGreatDoor
open Go.RowKit Go.Shelf

def zeroT : AT := .node 0 0 0 ⟨#[]⟩ ⟨#[]⟩ [] ⟨#[]⟩ []
theorem zeroT_parts (W : World) : PartsAt W zeroT none 0 none 0 := parts_nil W _ _ _ _ _ _ (by decide) (by decide) (by decide) (by decide)
theorem zeroT_kids (W : World) : KidsAt W zeroT := fun k hk => by cases hk
theorem PathAt.below {w W : World} {q : Option Addr} {l : List Int} (h : PathAt w q l) (b : Below w.heap.size w W) : PathAt W q l := fun h0 => by
  obtain ⟨b', off, e, hc⟩ := h h0
  exact ⟨b', off, e, fun j hj => Stay.below b _ _ (hc j hj)⟩
/-- What stands in a row of six cells. -/
theorem six_cells {W : World} {b : Nat} {c0 c1 c2 c3 c4 c5 : Value} {T : TypeId} (h : W.heap[b]? = some (.cells #[c0, c1, c2, c3, c4, c5] T (0, 0))) :
    W.cell? ⟨b, 0, none⟩ = some c0 ∧ W.cell? ⟨b, 1, none⟩ = some c1 ∧ W.cell? ⟨b, 2, none⟩ = some c2 ∧ W.cell? ⟨b, 3, none⟩ = some c3 ∧ W.cell? ⟨b, 4, none⟩ = some c4 ∧ W.cell? ⟨b, 5, none⟩ = some c5 :=
  ⟨cell_of_row _ _ 0 _ _ _ h, cell_of_row _ _ 1 _ _ _ h, cell_of_row _ _ 2 _ _ _ h, cell_of_row _ _ 3 _ _ _ h, cell_of_row _ _ 4 _ _ _ h, cell_of_row _ _ 5 _ _ _ h⟩
set_option maxRecDepth 100000 in
set_option maxHeartbeats 8000000 in
theorem finds_walk (w : World) (hL : Leans5 w) (t : AT) (pa : Option Addr) (ca : Nat) (pk : Option Addr) (ck : Nat) (h : PartsAt w t pa ca pk ck) (hk : KidsAt w t) (hc : t.count ≤ 1048576) (hF : t.Fits 1048576)
    (q : Option Addr) (l : List Int) (cl : Nat) (hq : PathAt w q l) (hl : l.length ≤ cl) (hl2 : l.length ≤ 1048576) :
    Calls Tryz.prog 5 #[nodeV t pa ca pk ck, .slice q l.length cl] w fun e W' => e = .returned (.bool true) ∧ Below w.heap.size w W' := by
  obtain ⟨W1, hW1⟩ : ∃ W1, w.alloc (.cells (nodeC t pa ca pk ck) 27) = W1 := ⟨_, rfl⟩
  have hB : Below w.heap.size w W1 := by rw [← hW1]; exact (Below.refl _ _).alloc (Nat.le_refl _) _
  have hbx : W1.heap[w.heap.size]? = some (.cells (nodeC t pa ca pk ck) 27 (0, 0)) := by rw [← hW1]; exact heap_alloc_new _ _
  have HB := Lib.hid hB
  have HX := Lib.hid hbx
  have CA := Lib.hid (awake5_any W1 (hL.below hB))
  have hst : ∀ W, Below W1.heap.size W1 W → Below w.heap.size w W := fun W y => hB.trans (y.mono hB.size)
  have HST := Lib.hid hst
  have CT := Lib.hid (fun (W : World) (y : Below W1.heap.size W1 W) => twin_any w t W pa ca pk ck h hk (hst W y) hc hF)
  have CR := Lib.hid (fun (W : World) (y : Below W1.heap.size W1 W) => refAt_any W t pa ca pk ck (h.stay (Stay.below (hst W y))) (fun k hk' => (hk k hk').stay (Stay.below (hst W y))) q l cl (hq.below (hst W y)) hl (by omega))
  have CF := Lib.hid (fun (W : World) (y : Below W1.heap.size W1 W) => at_any W t pa ca pk ck (h.stay (Stay.below (hst W y))) (fun k hk' => (hk k hk').stay (Stay.below (hst W y))) hc hF q l cl (hq.below (hst W y)) hl (by omega))
  have HH := Lib.hid (And.intro h hk)
  have CZ := Lib.hid (fun (W : World) => (same_any zeroT zeroT W none 0 none 0 none 0 none 0 (zeroT_parts W) (zeroT_kids W) (zeroT_parts W) (zeroT_kids W)).mono (R' := fun e W' => e = .returned (.bool true) ∧ Below W.heap.size W W') (fun e W' z => ⟨z.1.of (by simp), z.2⟩))
  have hsz : W1.heap.size = w.heap.size + 1 := by rw [← hW1]; simp
  have HS := Lib.hid hsz
  unfold nodeC at hW1 HX
  unfold nodeV
  clear h hk hc hF hq hst hbx hB hL hsz
  cases hfi : findA l t with
  | none =>
    have CF0 := Lib.hid (fun (W : World) (y : Below W1.heap.size W1 W) => (CF.out W y).mono (R' := fun e W' => e = .returned (.tuple #[.agg #[.int .i64 0, .string ⟨#[]⟩, .string ⟨#[]⟩, .slice none 0 0, .slice none 0 0, .string ⟨#[]⟩], .int .i64 35]) ∧ Below W.heap.size W W') (fun e W' z => by
      have hz := z.2
      rw [(findA_none t _ _ l).2 hfi] at hz
      exact ⟨hz, z.1⟩))
    have CR0 := Lib.hid (fun (W : World) (y : Below W1.heap.size W1 W) => (CR.out W y).mono (R' := fun e W' => e = .returned (.tuple #[.agg #[.int .i64 0, .string ⟨#[]⟩, .string ⟨#[]⟩, .slice none 0 0, .slice none 0 0, .string ⟨#[]⟩], .bool false]) ∧ Below W.heap.size W W') (fun e W' z => by
      have hz := z.2
      rw [hfi] at hz
      exact ⟨hz, z.1⟩))
    have CZ0 := Lib.hid (fun (W : World) => show Calls Tryz.prog 11 #[.agg #[.int .i64 0, .string ⟨#[]⟩, .string ⟨#[]⟩, .slice none 0 0, .slice none 0 0, .string ⟨#[]⟩], .agg #[.int .i64 0, .string ⟨#[]⟩, .string ⟨#[]⟩, .slice none 0 0, .slice none 0 0, .string ⟨#[]⟩]] W (fun e W' => e = .returned (.bool true) ∧ Below W.heap.size W W') from CZ.out W)
    unfold nodeV at CT CF0 CR0
    clear CF CR hfi CZ
    go_enter Tryz.func5, Tryz.ntmps5
    go_wp2_with (first
      | (go_at_call 7
         with_reducible refine CA.out.mono ?_
         rintro e wA ⟨rfl, hbA⟩
         obtain ⟨q0, q1, q2, q3, q4, q5⟩ := six_cells ((hbA.block _ (it_lt HX.out)).trans HX.out))
      | (go_at_call 8
         with_reducible refine (CT.out _ hbA).mono ?_
         rintro e wB ⟨T, ta, tca, tk, tck, rfl, hpl, hbB, hliv⟩
         have HT := Lib.hid (And.intro hpl hliv)
         clear hpl hliv
         unfold nodeV
         obtain ⟨WB, hWB⟩ : ∃ Y, wB.alloc (.cells #[.int .i64 T.kind, .string T.uri, .string T.loc, .slice ta T.attrs.length tca, .slice tk T.kids.length tck, .string T.text] 27) = Y := ⟨_, rfl⟩
         have bB2 : Below W1.heap.size W1 WB := (by rw [← hWB]; exact (below_cat5 hbA hbB).alloc (below_cat5 hbA hbB).size _)
         obtain ⟨r0, r1, r2, r3, r4, r5⟩ := six_cells ((bB2.block _ (it_lt HX.out)).trans HX.out))
      | (go_at_call 21
         with_reducible refine (CF0.out _ bB2).mono ?_
         rintro e wC ⟨rfl, hbC⟩
         have bC2 : Below W1.heap.size W1 (wC.alloc (.cells #[.int .i64 0, .string ⟨#[]⟩, .string ⟨#[]⟩, .slice none 0 0, .slice none 0 0, .string ⟨#[]⟩] 27)) := (below_cat5 bB2 hbC).alloc (below_cat5 bB2 hbC).size _
         have HRX := Lib.hid (heap_alloc_new wC (.cells #[.int .i64 0, .string ⟨#[]⟩, .string ⟨#[]⟩, .slice none 0 0, .slice none 0 0, .string ⟨#[]⟩] 27))
         obtain ⟨s0, s1, s2, s3, s4, s5⟩ := six_cells ((bC2.block _ (it_lt HX.out)).trans HX.out))
      | (go_at_call 22
         with_reducible refine (CR0.out _ bC2).mono ?_
         rintro e wD ⟨rfl, hbD⟩
         have bCD : Below (wC.alloc (.cells #[.int .i64 0, .string ⟨#[]⟩, .string ⟨#[]⟩, .slice none 0 0, .slice none 0 0, .string ⟨#[]⟩] 27)).heap.size (wC.alloc (.cells #[.int .i64 0, .string ⟨#[]⟩, .string ⟨#[]⟩, .slice none 0 0, .slice none 0 0, .string ⟨#[]⟩] 27)) (wD.alloc (.cells #[.int .i64 0, .string ⟨#[]⟩, .string ⟨#[]⟩, .slice none 0 0, .slice none 0 0, .string ⟨#[]⟩] 27)) := hbD.alloc hbD.size _
         have bD2 := below_cat5 bC2 bCD
         obtain ⟨g0, g1, g2, g3, g4, g5⟩ := six_cells ((bCD.block _ (it_lt HRX.out)).trans HRX.out))
      | (go_at_call 11
         with_reducible refine (CZ0.out _).mono ?_
         rintro e wE ⟨rfl, hbE⟩))
    go_ret
    exact ⟨rfl, HST.out _ (below_cat5 bD2 hbE)⟩
  | some y =>
    have CF1 := Lib.hid (fun (W : World) (yb : Below W1.heap.size W1 W) => (CF.out W yb).mono (R' := fun e W' => ∃ X xa xca xk xck, e = .returned (.tuple #[.agg #[.int .i64 X.kind, .string X.uri, .string X.loc, .slice xa X.attrs.length xca, .slice xk X.kids.length xck, .string X.text], .int .i64 0]) ∧ Below W.heap.size W W' ∧ Hid' (X.plain = y.plain ∧ ∀ W2 : World, (∀ k, k < W'.heap.size → W.heap.size ≤ k → W2.heap[k]? = W'.heap[k]?) → PartsAt W2 X xa xca xk xck ∧ KidsAt W2 X ∧ Built W.heap.size W2 X ∧ Typed2 W.heap.size W2 xa xk)) (fun e W' z => by
      have hz := z.2
      have hpl := findA_plain t W.heap.size 0 l
      rw [hfi] at hpl
      obtain ⟨x', hx', hp'⟩ := Option.map_eq_some_iff.1 hpl
      rw [hx'] at hz
      obtain ⟨X, xa, xca, xk, xck, h1, h2, h3⟩ := hz
      exact ⟨X, xa, xca, xk, xck, h1, z.1, h2.trans hp', h3⟩))
    have CR1 := Lib.hid (fun (W : World) (yb : Below W1.heap.size W1 W) => (CR.out W yb).mono (R' := fun e W' => ∃ ya yca yk yck, e = .returned (.tuple #[.agg #[.int .i64 y.kind, .string y.uri, .string y.loc, .slice ya y.attrs.length yca, .slice yk y.kids.length yck, .string y.text], .bool true]) ∧ Below W.heap.size W W' ∧ Hid' (PartsAt W y ya yca yk yck ∧ KidsAt W y)) (fun e W' z => by
      have hz := z.2
      rw [hfi] at hz
      obtain ⟨ya, yca, yk, yck, h1, h2, h3⟩ := hz
      exact ⟨ya, yca, yk, yck, h1, z.1, h2, h3⟩))
    unfold nodeV at CT CF1 CR1
    clear CF CR hfi CZ
    go_enter Tryz.func5, Tryz.ntmps5
    go_wp2_with (first
      | (go_at_call 7
         with_reducible refine CA.out.mono ?_
         rintro e wA ⟨rfl, hbA⟩
         obtain ⟨q0, q1, q2, q3, q4, q5⟩ := six_cells ((hbA.block _ (it_lt HX.out)).trans HX.out))
      | (go_at_call 8
         with_reducible refine (CT.out _ hbA).mono ?_
         rintro e wB ⟨T, ta, tca, tk, tck, rfl, hpl, hbB, hliv⟩
         have HT := Lib.hid (And.intro hpl hliv)
         clear hpl hliv
         unfold nodeV
         obtain ⟨WB, hWB⟩ : ∃ Y, wB.alloc (.cells #[.int .i64 T.kind, .string T.uri, .string T.loc, .slice ta T.attrs.length tca, .slice tk T.kids.length tck, .string T.text] 27) = Y := ⟨_, rfl⟩
         have HWB := Lib.hid (show Below wB.heap.size wB WB ∧ WB.heap[wB.heap.size]? = some (.cells #[.int .i64 T.kind, .string T.uri, .string T.loc, .slice ta T.attrs.length tca, .slice tk T.kids.length tck, .string T.text] 27 (0, 0)) ∧ wB.heap.size < WB.heap.size from (by rw [← hWB]; exact ⟨(Below.refl _ _).alloc (Nat.le_refl _) _, heap_alloc_new _ _, by simp⟩))
         have bB2 : Below W1.heap.size W1 WB := below_cat5 (below_cat5 hbA hbB) HWB.out.1
         obtain ⟨r0, r1, r2, r3, r4, r5⟩ := six_cells ((bB2.block _ (it_lt HX.out)).trans HX.out))
      | (go_at_call 21
         with_reducible refine (CF1.out _ bB2).mono ?_
         rintro e wC ⟨X, xa, xca, xk, xck, rfl, hbC, HXX⟩
         have HX1 := Lib.hid (show _ ∧ _ from HXX)
         clear HXX
         obtain ⟨WC, hWC⟩ : ∃ Y, wC.alloc (.cells #[.int .i64 X.kind, .string X.uri, .string X.loc, .slice xa X.attrs.length xca, .slice xk X.kids.length xck, .string X.text] 27) = Y := ⟨_, rfl⟩
         have HWC := Lib.hid (show Below wC.heap.size wC WC ∧ WC.heap[wC.heap.size]? = some (.cells #[.int .i64 X.kind, .string X.uri, .string X.loc, .slice xa X.attrs.length xca, .slice xk X.kids.length xck, .string X.text] 27 (0, 0)) from (by rw [← hWC]; exact ⟨(Below.refl _ _).alloc (Nat.le_refl _) _, heap_alloc_new _ _⟩))
         have bC2 : Below W1.heap.size W1 WC := below_cat5 (below_cat5 bB2 hbC) HWC.out.1
         obtain ⟨s0, s1, s2, s3, s4, s5⟩ := six_cells ((bC2.block _ (it_lt HX.out)).trans HX.out))
      | (go_at_call 22
         with_reducible refine (CR1.out _ bC2).mono ?_
         rintro e wD ⟨ya, yca, yk, yck, rfl, hbD, HYY⟩
         have HY1 := Lib.hid (show _ ∧ _ from HYY)
         clear HYY
         obtain ⟨WD, hWD⟩ : ∃ Y, wD.alloc (.cells #[.int .i64 y.kind, .string y.uri, .string y.loc, .slice ya y.attrs.length yca, .slice yk y.kids.length yck, .string y.text] 27) = Y := ⟨_, rfl⟩
         have bCD : Below WC.heap.size WC WD := (by rw [← hWD]; exact hbD.alloc hbD.size _)
         have rY : WD.heap[wD.heap.size]? = some (.cells #[.int .i64 y.kind, .string y.uri, .string y.loc, .slice ya y.attrs.length yca, .slice yk y.kids.length yck, .string y.text] 27 (0, 0)) := (by rw [← hWD]; exact heap_alloc_new _ _)
         have bD2 := below_cat5 bC2 bCD
         have HRX := Lib.hid ((bCD.block _ (it_lt HWC.out.2)).trans HWC.out.2)
         obtain ⟨g0, g1, g2, g3, g4, g5⟩ := six_cells HRX.out
         obtain ⟨y0, y1, y2, y3, y4, y5⟩ := six_cells rY
         clear rY
         have SX := Lib.hid (show Calls Tryz.prog 11 #[.agg #[.int .i64 X.kind, .string X.uri, .string X.loc, .slice xa X.attrs.length xca, .slice xk X.kids.length xck, .string X.text], .agg #[.int .i64 y.kind, .string y.uri, .string y.loc, .slice ya y.attrs.length yca, .slice yk y.kids.length yck, .string y.text]] WD (fun e W' => e = .returned (.bool true) ∧ Below WD.heap.size WD W') from by
            obtain ⟨hx1, hx2⟩ := HX1.out
            obtain ⟨hy1, hy2⟩ := HY1.out
            obtain ⟨i1, i2, _, _⟩ := hx2 WD (fun k hk1 _ => (below_cat5 HWC.out.1 bCD).block k hk1)
            exact (same_any X y _ xa xca xk xck ya yca yk yck i1 i2 (hy1.stay (Stay.below bCD)) (fun k hk' => (hy2 k hk').stay (Stay.below bCD))).mono (fun e W' z => ⟨z.1.of (by simp [hx1]), z.2⟩)))
      | (go_at_call 11
         with_reducible refine SX.out.mono ?_
         rintro e wE ⟨rfl, hbE⟩
         obtain ⟨k0, k1, k2, k3, k4, k5⟩ := six_cells (((below_cat5 bD2 hbE).block _ (it_lt HX.out)).trans HX.out)
         obtain ⟨x0, x1, x2, x3, x4, x5⟩ := six_cells ((hbE.block _ (it_lt HRX.out)).trans HRX.out)
         have HCE := Lib.hid (below_cat5 HWC.out.1 (below_cat5 bCD hbE))
         have SP := Lib.hid (show Calls Tryz.prog 20 #[.agg #[.int .i64 X.kind, .string X.uri, .string X.loc, .slice xa X.attrs.length xca, .slice xk X.kids.length xck, .string X.text]] wE (fun e W2 => e = .returned (.tuple #[]) ∧ Below WB.heap.size wE W2 ∧ wE.heap.size ≤ W2.heap.size) from by
            obtain ⟨i1, i2, i3, i4⟩ := HX1.out.2 wE (fun k hk1 _ => HCE.out.block k hk1)
            exact spoil_copy i1 i3 i4 (Nat.le_trans hbC.size HCE.out.size)))
      | (go_at_call 20
         with_reducible refine SP.out.mono ?_
         rintro e wG ⟨rfl, hbG, hzG⟩
         have HG := Lib.hid (show Below WB.heap.size WB wG from (below_cat5 hbC HCE.out).trans hbG)
         obtain ⟨z0, z1, z2, z3, z4, z5⟩ := six_cells ((HG.out.block _ (Nat.lt_of_lt_of_le (it_lt HX.out) bB2.size)).trans ((bB2.block _ (it_lt HX.out)).trans HX.out))
         obtain ⟨m0, m1, m2, m3, m4, m5⟩ := six_cells ((HG.out.block _ (it_lt HWB.out.2.1)).trans HWB.out.2.1)
         have SL := Lib.hid (show Calls Tryz.prog 11 #[.agg #[.int .i64 t.kind, .string t.uri, .string t.loc, .slice pa t.attrs.length ca, .slice pk t.kids.length ck, .string t.text], .agg #[.int .i64 T.kind, .string T.uri, .string T.loc, .slice ta T.attrs.length tca, .slice tk T.kids.length tck, .string T.text]] wG (fun e W' => e = .returned (.bool true) ∧ Below wG.heap.size wG W') from by
            obtain ⟨hpl, hliv⟩ := HT.out
            have bW : Below W1.heap.size W1 wG := bB2.trans (HG.out.mono bB2.size)
            obtain ⟨j1, j2⟩ := hliv wG (fun k hk1 _ => (HG.out.block k (Nat.lt_trans hk1 HWB.out.2.2)).trans (HWB.out.1.block k hk1))
            exact (same_any t T _ pa ca pk ck ta tca tk tck (HH.out.1.stay (Stay.below (HST.out _ bW))) (fun k hk' => (HH.out.2 k hk').stay (Stay.below (HST.out _ bW))) j1 j2).mono (fun e W' z => ⟨z.1.of (by simp [hpl]), z.2⟩)))
      | (go_at_call 11
         with_reducible refine SL.out.mono ?_
         rintro e wH ⟨rfl, hbH⟩))
    go_ret
    exact ⟨rfl, HST.out _ (below_cat5 (bB2.trans (HG.out.mono bB2.size)) hbH)⟩
end Go.Proofs.YtfmlmdfehaajbaaGreatDoor
