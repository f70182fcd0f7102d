/- Proved here: the statement ScanReads, walked: it answers true of every slice of bytes, in every world that holds what the scanner leans on. -/
import Derived.Test.YtidimpepfkdcmaaGreatDoorM38
import Derived.BigGuardPart
import Derived.Deep.RegionWith
import Derived.Deep.RegionHeld3
namespace Go.Proofs.YtidimpepfkdcmaaGreatDoor
open Go.RowKit

/-- What holds with a condition on the world holds with a weaker one. -/
theorem held_mono {P : Program} {md : Region.Mode} {ops : Array Oper} {Q : Exit → Act → World → Prop} {S S' : World → Prop} (hS : ∀ w, S' w → S w) : ∀ (fuel : Nat) (listed : Array Bool) (a : Act) (w : World), wpAnyH P md ops Q S' fuel listed a w → wpAnyH P md ops Q S fuel listed a w
  | 0, _, _, _, h => h
  | fuel + 1, _, _, _, h => ⟨h.1, fun i hi => wpOp_mono (fun a' w' h' => ⟨hS _ h'.1, held_mono hS fuel _ a' w' h'.2⟩) (h.2 i hi)⟩
set_option maxHeartbeats 16000000 in
set_option maxRecDepth 100000 in
theorem reads_walk (p : Option Addr) (s : ByteArray) (c : Nat) (w : World) (hs : s.size ≤ 140737488355000) (hc : s.size ≤ c) (hp : HoldsB w p s) (hnil : p = none → c = 0) (hL : Leans w) :
    Calls Tryz.prog 3 #[.slice p s.size c] w fun e w' => e = .returned (.bool true) ∧ Below w.heap.size w w' := by
  have AW := Lib.hid (awake3_any w hL)
  have SP := Lib.hid (fun W (y : Below w.heap.size w W) => spare_any p s c W hs (hp.below y) hnil)
  have A1 := Lib.hid (fun W (y : Below w.heap.size w W) (q : Option Addr) (k : Nat) (hk : s.size ≤ k) (h : HoldsB W q s) => (all_any q s k W (by omega) hk h (hL.below y).tabs (hL.below y).named (hL.below y).max (hL.below y).fold).mono (fun e w' z => And.intro (all_form z.1) z.2))
  have R1 := Lib.hid (fun W (y : Below w.heap.size w W) => (refAll_any p s c W hc (hp.below y)).mono (fun e w' z => And.intro (rall_form z.1) z.2))
  have PL := Lib.hid (fun W (q : Option Addr) (k : Nat) (hk : s.size ≤ k) (h : HoldsB W q s) => plain_any q s k W hs hk h)
  have TX := Lib.hid (fun W (y : Below w.heap.size w W) => refText_any p s c W hs hc (hp.below y))
  have HP := Lib.hid hp
  obtain ⟨hl1, hl2⟩ := lof_len s
  obtain ⟨r, hr⟩ : ∃ r, allF s = r := ⟨_, rfl⟩
  rw [hr] at A1 R1 hl1 hl2
  have HS := Lib.hid hs
  have HL2 := Lib.hid hl2
  clear hp hnil hL hc hs hr hl2
  obtain ⟨l, hl⟩ : ∃ l, lOf r = l := ⟨_, rfl⟩
  obtain ⟨k0, hk0⟩ : ∃ k, kOf r = k := ⟨_, rfl⟩
  obtain ⟨e0, he0⟩ : ∃ k, eOf r = k := ⟨_, rfl⟩
  rw [hl, hk0, he0] at A1 R1
  rw [hl] at hl1 HL2
  clear hl hk0 he0
  go_enter Tryz.func3, Tryz.ntmps3
  go_wp2_with (fail)
  refine AW.out.mono ?_
  rintro e w0 ⟨rfl, hB0⟩
  go_wp2_with (fail)
  refine (SP.out w0 hB0).mono ?_
  rintro e w1 ⟨gi, ci, rfl, hoi, hb1⟩
  have hB1 := below_cat hB0 hb1
  have hci : s.size ≤ ci := by have := hoi.2.2.2; rw [size_push] at this; omega
  have OI := Lib.hid hoi
  go_wp2_with (fail)
  refine (A1.out w1 hB1 (some ⟨gi, 0, none⟩) ci hci (owns_front hoi)).mono ?_
  rintro e w2 ⟨⟨q1, c1, rfl, tl1⟩, hb2⟩
  have hB2 := below_cat hB1 hb2
  go_wp2_with (fail)
  refine (R1.out w2 hB2).mono ?_
  rintro e w3 ⟨⟨q2, c2, rfl, tl2⟩, hb3⟩
  have HB3 := Lib.hid (below_cat hB2 hb3)
  have OI3 := Lib.hid ((OI.out.far hb2).far hb3)
  have T1 := Lib.hid (tl1.below hb3)
  have T2 := Lib.hid tl2
  have KP := Lib.hid (fun W (y : Below w3.heap.size w3 W) => kept_yes w0.heap.size gi ci p s c W HS.out (OI3.out.far y) (HP.out.below (below_cat HB3.out y)))
  have HCI := Lib.hid hci
  clear hb1 hb2 hb3 hB0 hB1 hB2 tl1 tl2 hci hoi
  go_upto_region 6 with fail
  refine wp_region_held_drew (S := fun W => Below w3.heap.size w3 W) (by kernel_rfl) (Below.refl _ _).drew (fun hHeld => ?_)
  refine wpAnyH_take (i := 0) (oi := _) (v := ?v0) rfl (by kernel_rfl) (by kernel_rfl) (by kernel_rfl) (fun _ _ _ h => h) (Or.inl ⟨by rfl, ?hy0⟩) (by assumption) ?rest0
  case hy0 =>
    intro w hSw
    go_simp
    try (with_reducible rfl)
  try simp only [Act.put, List.getElem_toArray, List.getElem_cons_zero, List.getElem_cons_succ, List.setIfInBounds_toArray, List.set_cons_zero, List.set_cons_succ]
  refine wpAnyH_take (i := 1) (oi := _) (v := ?v1) rfl (by kernel_rfl) (by kernel_rfl) (by kernel_rfl) (fun _ _ _ h => h) (Or.inl ⟨by rfl, ?hy1⟩) (by assumption) ?rest1
  case hy1 =>
    intro w hSw
    go_simp
    try (with_reducible rfl)
  try simp only [Act.put, List.getElem_toArray, List.getElem_cons_zero, List.getElem_cons_succ, List.setIfInBounds_toArray, List.set_cons_zero, List.set_cons_succ]
  refine wpAnyH_take (i := 2) (oi := _) (v := ?v2) rfl (by kernel_rfl) (by kernel_rfl) (by kernel_rfl) (fun _ _ _ h => h) (Or.inl ⟨by rfl, ?hy2⟩) (by assumption) ?rest2
  case hy2 =>
    intro w hSw
    go_simp
    try (with_reducible rfl)
  try simp only [Act.put, List.getElem_toArray, List.getElem_cons_zero, List.getElem_cons_succ, List.setIfInBounds_toArray, List.set_cons_zero, List.set_cons_succ]
  refine wpAnyH_take (i := 3) (oi := _) (v := ?v3) rfl (by kernel_rfl) (by kernel_rfl) (by kernel_rfl) (fun _ _ _ h => h) (Or.inl ⟨by rfl, ?hy3⟩) (by assumption) ?rest3
  case hy3 =>
    intro w hSw
    go_simp
    try (with_reducible rfl)
  try simp only [Act.put, List.getElem_toArray, List.getElem_cons_zero, List.getElem_cons_succ, List.setIfInBounds_toArray, List.set_cons_zero, List.set_cons_succ]
  refine wpAnyH_take (i := 4) (oi := _) (v := ?v4) rfl (by kernel_rfl) (by kernel_rfl) (by kernel_rfl) (fun _ _ _ h => h) (Or.inl ⟨by rfl, ?hy4⟩) (by assumption) ?rest4
  case hy4 =>
    intro w hSw
    go_simp
    try (with_reducible rfl)
  try simp only [Act.put, List.getElem_toArray, List.getElem_cons_zero, List.getElem_cons_succ, List.setIfInBounds_toArray, List.set_cons_zero, List.set_cons_succ]
  refine wpAnyH_take (i := 5) (oi := _) (v := ?v5) rfl (by kernel_rfl) (by kernel_rfl) (by kernel_rfl) (fun _ _ _ h => h) (Or.inl ⟨by rfl, ?hy5⟩) (by assumption) ?rest5
  case hy5 =>
    intro w hSw
    go_simp
    try (with_reducible rfl)
  try simp only [Act.put, List.getElem_toArray, List.getElem_cons_zero, List.getElem_cons_succ, List.setIfInBounds_toArray, List.set_cons_zero, List.set_cons_succ]
  refine wpAnyH_take (i := 6) (oi := _) (v := ?v6) rfl (by kernel_rfl) (by kernel_rfl) (by kernel_rfl) (fun _ _ _ h => h) (Or.inl ⟨by rfl, ?hy6⟩) (by assumption) ?rest6
  case hy6 =>
    intro w hSw
    go_simp
    try (with_reducible rfl)
  try simp only [Act.put, List.getElem_toArray, List.getElem_cons_zero, List.getElem_cons_succ, List.setIfInBounds_toArray, List.set_cons_zero, List.set_cons_succ]
  refine wpAnyH_take (i := 7) (oi := _) (v := ?v7) rfl (by kernel_rfl) (by kernel_rfl) (by kernel_rfl) (fun _ _ _ h => h) (Or.inl ⟨by rfl, ?hy7⟩) (by assumption) ?rest7
  case hy7 =>
    intro w hSw
    go_simp
    try (with_reducible rfl)
  try simp only [Act.put, List.getElem_toArray, List.getElem_cons_zero, List.getElem_cons_succ, List.setIfInBounds_toArray, List.set_cons_zero, List.set_cons_succ]
  refine wpAnyH_take (i := 8) (oi := _) (v := ?v8) rfl (by kernel_rfl) (by kernel_rfl) (by kernel_rfl) (fun _ _ _ h => h) (Or.inl ⟨by rfl, ?hy8⟩) (by assumption) ?rest8
  case hy8 =>
    intro w hSw
    go_simp
    try (with_reducible rfl)
  try simp only [Act.put, List.getElem_toArray, List.getElem_cons_zero, List.getElem_cons_succ, List.setIfInBounds_toArray, List.set_cons_zero, List.set_cons_succ]
  refine wpAnyH_take (i := 9) (oi := _) (v := ?v9) rfl (by kernel_rfl) (by kernel_rfl) (by kernel_rfl) (fun _ _ _ h => h) (Or.inl ⟨by rfl, ?hy9⟩) (by assumption) ?rest9
  case hy9 =>
    intro w hSw
    go_simp
    try (with_reducible rfl)
  try simp only [Act.put, List.getElem_toArray, List.getElem_cons_zero, List.getElem_cons_succ, List.setIfInBounds_toArray, List.set_cons_zero, List.set_cons_succ]
  refine wpAnyH_take (i := 10) (oi := _) (v := ?v10) rfl (by kernel_rfl) (by kernel_rfl) (by kernel_rfl) (fun _ _ _ h => h) (Or.inl ⟨by rfl, ?hy10⟩) (by assumption) ?rest10
  case hy10 =>
    intro w hSw
    go_simp
    try (with_reducible rfl)
  try simp only [Act.put, List.getElem_toArray, List.getElem_cons_zero, List.getElem_cons_succ, List.setIfInBounds_toArray, List.set_cons_zero, List.set_cons_succ]
  refine wpAnyH_take (i := 11) (oi := _) (v := ?v11) rfl (by kernel_rfl) (by kernel_rfl) (by kernel_rfl) (fun _ _ _ h => h) (Or.inl ⟨by rfl, ?hy11⟩) (by assumption) ?rest11
  case hy11 =>
    intro w hSw
    go_simp
    try (with_reducible rfl)
  try simp only [Act.put, List.getElem_toArray, List.getElem_cons_zero, List.getElem_cons_succ, List.setIfInBounds_toArray, List.set_cons_zero, List.set_cons_succ]
  refine wpAnyH_take (i := 12) (oi := _) (v := ?v12) rfl (by kernel_rfl) (by kernel_rfl) (by kernel_rfl) (fun _ _ _ h => h) (Or.inl ⟨by rfl, ?hy12⟩) (by assumption) ?rest12
  case hy12 =>
    intro w hSw
    go_simp
    try (with_reducible rfl)
  try simp only [Act.put, List.getElem_toArray, List.getElem_cons_zero, List.getElem_cons_succ, List.setIfInBounds_toArray, List.set_cons_zero, List.set_cons_succ]
  refine wpAnyH_take (i := 13) (oi := _) (v := ?v13) rfl (by kernel_rfl) (by kernel_rfl) (by kernel_rfl) (fun _ _ _ h => h) (Or.inl ⟨by rfl, ?hy13⟩) (by assumption) ?rest13
  case hy13 =>
    intro w hSw
    go_simp
    try (with_reducible rfl)
  try simp only [Act.put, List.getElem_toArray, List.getElem_cons_zero, List.getElem_cons_succ, List.setIfInBounds_toArray, List.set_cons_zero, List.set_cons_succ]
  refine wpAnyH_take (i := 14) (oi := _) (v := ?v14) rfl (by kernel_rfl) (by kernel_rfl) (by kernel_rfl) (fun _ _ _ h => h) (Or.inl ⟨by rfl, ?hy14⟩) (by assumption) ?rest14
  case hy14 =>
    intro w hSw
    go_simp
    try (with_reducible rfl)
  try simp only [Act.put, List.getElem_toArray, List.getElem_cons_zero, List.getElem_cons_succ, List.setIfInBounds_toArray, List.set_cons_zero, List.set_cons_succ]
  refine wpAnyH_take (i := 15) (oi := _) (v := ?v15) rfl (by kernel_rfl) (by kernel_rfl) (by kernel_rfl) (fun _ _ _ h => h) (Or.inl ⟨by rfl, ?hy15⟩) (by assumption) ?rest15
  case hy15 =>
    intro w hSw
    go_simp
    try (with_reducible rfl)
  try simp only [Act.put, List.getElem_toArray, List.getElem_cons_zero, List.getElem_cons_succ, List.setIfInBounds_toArray, List.set_cons_zero, List.set_cons_succ]
  refine wpAnyH_take (i := 16) (oi := _) (v := ?v16) rfl (by kernel_rfl) (by kernel_rfl) (by kernel_rfl) (fun _ _ _ h => h) (Or.inl ⟨by rfl, ?hy16⟩) (by assumption) ?rest16
  case hy16 =>
    intro w hSw
    go_simp
    try (with_reducible rfl)
  try simp only [Act.put, List.getElem_toArray, List.getElem_cons_zero, List.getElem_cons_succ, List.setIfInBounds_toArray, List.set_cons_zero, List.set_cons_succ]
  refine wpAnyH_take (i := 19) (oi := _) (v := ?v19) rfl (by kernel_rfl) (by kernel_rfl) (by kernel_rfl) (fun _ _ _ h => h) (Or.inl ⟨by rfl, ?hy19⟩) (by assumption) ?rest19
  case hy19 =>
    intro w hSw
    go_simp
    try (with_reducible rfl)
  try simp only [Act.put, List.getElem_toArray, List.getElem_cons_zero, List.getElem_cons_succ, List.setIfInBounds_toArray, List.set_cons_zero, List.set_cons_succ]
  refine wpAnyH_ready (rs := [17]) (by kernel_rfl) (by simp) ?_
  refine AllReadyH.cons (o := _) rfl (fun K hK => ?_) AllReadyH.nil
  go_simp
  refine (PL.out _ (some ⟨gi, 0, none⟩) ci HCI.out (owns_front (OI3.out.far hHeld))).mono ?_
  rintro e w5 ⟨gp, kp, rfl, hop, hbe⟩
  have hb5 : Below w3.heap.size w3 w5 := below_cat hHeld hbe
  have hHeld2 : Below w3.heap.size w3 w5 ∧ HoldsB w5 (some ⟨gp, 0, none⟩) (textF s) := ⟨hb5, hop.holds⟩
  refine hK.out _ _ hb5 (fun _ => ?_)
  clear hK K
  try simp only [Act.put, List.getElem_toArray, List.getElem_cons_zero, List.getElem_cons_succ, List.setIfInBounds_toArray, List.set_cons_zero, List.set_cons_succ]
  refine held_mono (S' := fun W => Below w3.heap.size w3 W ∧ HoldsB W (some ⟨gp, 0, none⟩) (textF s)) (fun W h => h.1) _ _ _ _ ?_
  clear hHeld hop hbe hb5
  refine wpAnyH_take (i := 18) (oi := _) (v := ?v18) rfl (by kernel_rfl) (by kernel_rfl) (by kernel_rfl) (fun _ _ _ h => h) (Or.inl ⟨by rfl, ?hy18⟩) (by assumption) ?rest18
  case hy18 =>
    intro w hSw
    have hcv := conv_str hSw.2 kp (fun e => by cases e)
    go_simp
    try (with_reducible rfl)
  try simp only [Act.put, List.getElem_toArray, List.getElem_cons_zero, List.getElem_cons_succ, List.setIfInBounds_toArray, List.set_cons_zero, List.set_cons_succ]
  refine wpAnyH_ready (rs := [20]) (by kernel_rfl) (by simp) ?_
  refine AllReadyH.cons (o := _) rfl (fun K hK => ?_) AllReadyH.nil
  go_simp
  refine (TX.out _ (below_cat HB3.out hHeld2.1)).mono ?_
  rintro e w6 ⟨rfl, hbe⟩
  have hHeld : Below w3.heap.size w3 w6 ∧ HoldsB w6 (some ⟨gp, 0, none⟩) (textF s) := ⟨below_cat hHeld2.1 hbe, hHeld2.2.below hbe⟩
  refine hK.out _ _ hHeld (fun _ => ?_)
  clear hK K
  try simp only [Act.put, List.getElem_toArray, List.getElem_cons_zero, List.getElem_cons_succ, List.setIfInBounds_toArray, List.set_cons_zero, List.set_cons_succ]
  clear hHeld2 hbe
  refine wpAnyH_take (i := 21) (oi := _) (v := ?v21) rfl (by kernel_rfl) (by kernel_rfl) (by kernel_rfl) (fun _ _ _ h => h) (Or.inl ⟨by rfl, ?hy21⟩) (by assumption) ?rest21
  case hy21 =>
    intro w hSw
    go_simp
    try (with_reducible rfl)
  try simp only [Act.put, List.getElem_toArray, List.getElem_cons_zero, List.getElem_cons_succ, List.setIfInBounds_toArray, List.set_cons_zero, List.set_cons_succ]
  refine wpAnyH_take (i := 22) (oi := _) (v := ?v22) rfl (by kernel_rfl) (by kernel_rfl) (by kernel_rfl) (fun _ _ _ h => h) (Or.inl ⟨by rfl, ?hy22⟩) (by assumption) ?rest22
  case hy22 =>
    intro w hSw
    go_simp
    try (with_reducible rfl)
  try simp only [Act.put, List.getElem_toArray, List.getElem_cons_zero, List.getElem_cons_succ, List.setIfInBounds_toArray, List.set_cons_zero, List.set_cons_succ]
  refine wpAnyH_take (i := 23) (oi := _) (v := ?v23) rfl (by kernel_rfl) (by kernel_rfl) (by kernel_rfl) (fun _ _ _ h => h) (Or.inl ⟨by rfl, ?hy23⟩) (by assumption) ?rest23
  case hy23 =>
    intro w hSw
    go_simp
    try (with_reducible rfl)
  try simp only [Act.put, List.getElem_toArray, List.getElem_cons_zero, List.getElem_cons_succ, List.setIfInBounds_toArray, List.set_cons_zero, List.set_cons_succ]
  refine wpAnyH_take (i := 24) (oi := _) (v := ?v24) rfl (by kernel_rfl) (by kernel_rfl) (by kernel_rfl) (fun _ _ _ h => h) (Or.inl ⟨by rfl, ?hy24⟩) (by assumption) ?rest24
  case hy24 =>
    intro w hSw
    go_simp
    try (with_reducible rfl)
  try simp only [Act.put, List.getElem_toArray, List.getElem_cons_zero, List.getElem_cons_succ, List.setIfInBounds_toArray, List.set_cons_zero, List.set_cons_succ]
  refine wpAnyH_take (i := 25) (oi := _) (v := ?v25) rfl (by kernel_rfl) (by kernel_rfl) (by kernel_rfl) (fun _ _ _ h => h) (Or.inl ⟨by rfl, ?hy25⟩) (by assumption) ?rest25
  case hy25 =>
    intro w hSw
    go_simp
    try (with_reducible rfl)
  try simp only [Act.put, List.getElem_toArray, List.getElem_cons_zero, List.getElem_cons_succ, List.setIfInBounds_toArray, List.set_cons_zero, List.set_cons_succ]
  refine wpAnyH_ready (rs := [26]) (by kernel_rfl) (by simp) ?_
  refine AllReadyH.cons (o := _) rfl (fun K hK => ?_) AllReadyH.nil
  go_simp
  refine (KP.out _ hHeld.1).mono ?_
  rintro e w7 ⟨rfl, rfl⟩
  refine hK.out _ _ hHeld (fun _ => ?_)
  clear hK K
  try simp only [Act.put, List.getElem_toArray, List.getElem_cons_zero, List.getElem_cons_succ, List.setIfInBounds_toArray, List.set_cons_zero, List.set_cons_succ]
  refine wpAnyH_take (i := 27) (oi := _) (v := ?v27) rfl (by kernel_rfl) (by kernel_rfl) (by kernel_rfl) (fun _ _ _ h => h) (Or.inl ⟨by rfl, ?hy27⟩) (by assumption) ?rest27
  case hy27 =>
    intro w hSw
    go_simp
    try (with_reducible rfl)
  try simp only [Act.put, List.getElem_toArray, List.getElem_cons_zero, List.getElem_cons_succ, List.setIfInBounds_toArray, List.set_cons_zero, List.set_cons_succ]
  refine wpAnyH_take (i := 28) (oi := _) (v := ?v28) rfl (by kernel_rfl) (by kernel_rfl) (by kernel_rfl) (fun _ _ _ h => h) (Or.inl ⟨by rfl, ?hy28⟩) (by assumption) ?rest28
  case hy28 =>
    intro w hSw
    go_simp
    try (with_reducible rfl)
  try simp only [Act.put, List.getElem_toArray, List.getElem_cons_zero, List.getElem_cons_succ, List.setIfInBounds_toArray, List.set_cons_zero, List.set_cons_succ]
  refine wpAnyH_done (by kernel_rfl) ?_ _
  have HELD := Lib.hid hHeld.1
  clear hHeld
  all_goals
    go_wp2_with (fail)
    go_loopw [58] (fun v wr => ∃ i : Nat, v = .int .i64 (i : Int) ∧ i ≤ l.length ∧ Hid (Below w3.heap.size w3 wr)) (fun v _ => l.length - (intOf v).toNat)
    case atStart => exact ⟨0, rfl, Nat.zero_le _, HELD⟩
    case round =>
      obtain ⟨i, rfl, hi, HBR⟩ := hrel
      by_cases hlt : i < l.length
      · have hlpos : 0 < l.length := by omega
        obtain ⟨x, hx⟩ : ∃ x, l[i]? = some x := ⟨_, List.getElem?_eq_getElem hlt⟩
        have hxl := HL2.out i x hx
        obtain ⟨g, cc, hv, hcc, hcm, hgl, _, pv, hcell⟩ := T1.out.cell hlpos
        obtain ⟨rfl, rfl⟩ : q1 = some ⟨g, 0, none⟩ ∧ c1 = cc := by
          injection hv with h1 _ h3
          exact ⟨h1, h3⟩
        obtain ⟨h, cd, hv2, hcd, hcm2, hhl, _, pv2, hcell2⟩ := T2.out.cell hlpos
        obtain ⟨rfl, rfl⟩ : q2 = some ⟨h, 0, none⟩ ∧ c2 = cd := by
          injection hv2 with h1 _ h3
          exact ⟨h1, h3⟩
        obtain ⟨hpa, k0, k1, k2, k3, k4, k5⟩ := hcell i x hx
        obtain ⟨hpb, m0, m1, m2, m3, m4, m5⟩ := hcell2 i x hx
        obtain ⟨q5, c5, hpv, _, _⟩ := hpa.form2
        rw [hpv] at hpa k3
        obtain ⟨q6, c6, hpv2⟩ := hpb.form
        rw [hpv2] at hpb m3
        have d0 := hb_cell HBR.out k0
        have d1 := hb_cell HBR.out k1
        have d2 := hb_cell HBR.out k2
        have d3 := hb_cell HBR.out k3
        have d4 := hb_cell HBR.out k4
        have d5 := hb_cell HBR.out k5
        have e0 := hb_cell HBR.out m0
        have e1 := hb_cell HBR.out m1
        have e2 := hb_cell HBR.out m2
        have e3 := hb_cell HBR.out m3
        have e4 := hb_cell HBR.out m4
        have e5 := hb_cell HBR.out m5
        rw [Nat.mul_comm 6 i] at d0 d1 d2 d3 d4 d5 e0 e1 e2 e3 e4 e5
        have PC1 := Lib.hid (fun W (y : Below wr.heap.size wr W) => (hpa.pcells.below HBR.out).below y)
        have PC2 := Lib.hid (fun W (y : Below wr.heap.size wr W) => (hpb.cells.below HBR.out).below y)
        have HXL := Lib.hid hxl
        have hlt2 : (i : Int) < (l.length : Int) := by omega
        obtain ⟨xa, xk⟩ := x
        obtain ⟨kd, nm, ps, tx, rf⟩ := xk
        simp only at d0 d1 d2 d3 d4 d5 e0 e1 e2 e3 e4 e5 PC1 PC2 HXL
        clear hv hcell hv2 hcell2 hpa hpb hpv hpv2 k0 k1 k2 k3 k4 k5 m0 m1 m2 m3 m4 m5 hx hgl hhl hxl hcc hcm hcd hcm2
        go_upto_region 11 with fail
        go_region_held3 (fun W => W.cell? ⟨g, i * 6, none⟩ = some (.int .i64 (kd : Int)) ∧ W.cell? ⟨g, i * 6 + 1, none⟩ = some (.int .i64 (xa : Int)) ∧ W.cell? ⟨g, i * 6 + 2, none⟩ = some (.string nm) ∧ W.cell? ⟨g, i * 6 + 3, none⟩ = some (.slice q5 ps.length c5) ∧ W.cell? ⟨g, i * 6 + 4, none⟩ = some (.string tx) ∧ W.cell? ⟨g, i * 6 + 5, none⟩ = some (.int .i64 (rf : Int)) ∧
            W.cell? ⟨h, i * 6, none⟩ = some (.int .i64 (kd : Int)) ∧ W.cell? ⟨h, i * 6 + 1, none⟩ = some (.int .i64 (xa : Int)) ∧ W.cell? ⟨h, i * 6 + 2, none⟩ = some (.string nm) ∧ W.cell? ⟨h, i * 6 + 3, none⟩ = some (.slice q6 ps.length c6) ∧ W.cell? ⟨h, i * 6 + 4, none⟩ = some (.string tx) ∧ W.cell? ⟨h, i * 6 + 5, none⟩ = some (.int .i64 (rf : Int)) ∧ Below wr.heap.size wr W)
          (first
            | exact ⟨d0, d1, d2, d3, d4, d5, e0, e1, e2, e3, e4, e5, (Below.refl _ _).drew⟩
            | (go_split_ands
               exact ⟨hb_cell hbe (by assumption), hb_cell hbe (by assumption), hb_cell hbe (by assumption), hb_cell hbe (by assumption), hb_cell hbe (by assumption), hb_cell hbe (by assumption), hb_cell hbe (by assumption), hb_cell hbe (by assumption), hb_cell hbe (by assumption), hb_cell hbe (by assumption), hb_cell hbe (by assumption), hb_cell hbe (by assumption), below_cat (by assumption) hbe⟩))
          (first
            | (go_at_call 13
               go_split_ands
               refine (doc_any _ _ _ _ _ _ ps _ (PC1.out _ (by assumption)) (by have := HXL.out; omega)).mono ?_
               rintro e w' ⟨pvr, rfl, hr, hbe⟩)
            | (go_at_call 12
               go_split_ands
               refine (refSame_yes _ _ _ _ _ _ _ _ ps _ (by first | exact hr.cells | exact PCells.below (RPairsAt.cells (by assumption)) hbe) (PC2.out _ (by assumption)) (by have := HXL.out; omega)).mono ?_
               rintro e w' ⟨rfl, hbe⟩))
        all_goals
          go_split_ands
          have hbz := below_cat HBR.out (by assumption)
          have HBZ := Lib.hid hbz
          clear hbz
          go_wp2_with (fail)
          go_roundw
          case rel => exact ⟨i + 1, by go_num, by omega, Lib.hid HBZ.out⟩
          case measure => simp [intOf]; omega
      · obtain rfl : i = l.length := by omega
        go_wp2_with (fail)
        go_ret
        exact ⟨rfl, below_cat HB3.out HBR.out⟩
end Go.Proofs.YtidimpepfkdcmaaGreatDoor
