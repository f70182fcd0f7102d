/- Proved here: isTooLarge, hasFault, isMisnamed (but of an instruction) say what they say of a node. -/
import Derived.Test.YtfmlmdfehaajbaaGreatDoorAsks2
import Derived.Test.YtfmlmdfehaajbaaGreatDoorAsks3
import Derived.Test.YtfmlmdfehaajbaaGreatDoorName
namespace Go.Proofs.YtfmlmdfehaajbaaGreatDoor
open Go.RowKit Go.Shelf

def longB (s : ByteArray) : Bool := decide (8192 < s.size)
def faultB (s : ByteArray) : Bool := decide ((faultF s).2 ≠ 0)
theorem tooLarge1 (w : World) : AsksS 62 longB w := fun W _ s hs => by
  unfold longB
  obtain ⟨n, hn⟩ : ∃ n, s.size = n := ⟨_, rfl⟩
  rw [hn]
  rw [hn] at hs
  by_cases h : (8192 : Int) < (n : Int)
  · go_enter Tryz.func62, Tryz.ntmps62
    go_wp2_with (fail)
    go_ret
    exact ⟨ret_bb (by simp; omega), Below.refl _ _⟩
  · go_enter Tryz.func62, Tryz.ntmps62
    go_wp2_with (fail)
    go_ret
    exact ⟨ret_bb (by simp; omega), Below.refl _ _⟩
def AT.tooLarge (t : AT) : Bool := decide (64 < t.attrs.length) || t.anyT longB
set_option maxRecDepth 100000 in
set_option maxHeartbeats 1000000 in
theorem isTooLarge_any (w : World) (x : AT) (hx : TreeAt w x) :
    Calls Tryz.prog 33 #[x.ptr] w fun e w' => e = .returned (.bool x.tooLarge) ∧ Below w.heap.size w w' := by
  obtain ⟨pa, ca, pk, ck, h0, c0, c1, c2, c3, c4, c5⟩ := hx.top
  have C := Lib.hid (anyText_any w x hx 62 longB (enters_of Tryz.func62 (by kernel_rfl) rfl) (tooLarge1 w))
  unfold AT.tooLarge
  generalize x.anyT longB = R at *
  unfold AT.ptr at *
  have hsz := h0.asz
  generalize x.attrs.length = n at *
  generalize x.b = b at *
  generalize x.o = o at *
  clear hx h0 c0 c1 c2 c4 c5
  by_cases h : (64 : Int) < (n : Int)
  · go_enter Tryz.func33, Tryz.ntmps33
    go_wp2_with (fail)
    go_ret
    exact ⟨ret_bb (by rw [show decide (64 < n) = true from decide_eq_true (by omega)]; rfl), Below.refl _ _⟩
  · go_enter Tryz.func33, Tryz.ntmps33
    go_wp2_with (go_at_call 61; refine C.out.mono ?_; rintro e w' ⟨rfl, hb'⟩)
    go_ret
    exact ⟨ret_bb (by rw [show decide (64 < n) = false from decide_eq_false (by omega)]; rfl), hb'⟩
set_option maxRecDepth 100000 in
set_option maxHeartbeats 1000000 in
theorem isFaulty_any (w : World) (hT : Tabs w) : AsksS 68 faultB w := fun W hW s hs => by
  obtain ⟨cap, W2, hcv, hcap, hb2, hsz2, hwc⟩ := bytes_of W s
  have C := Lib.hid (fun (W3 : World) (y : Below W2.heap.size W2 W3) => fault_any (some ⟨W.heap.size, 0, none⟩) s cap W3 ((hT.below hW).below (below_cat5 hb2 y)) (by omega) hcap (fun _ => ⟨_, _, rfl, fun j hj => t_cell' y (hwc j hj)⟩))
  have HB := Lib.hid hb2
  unfold faultB
  generalize (faultF s).2 = r at *
  generalize (faultF s).1 = q at *
  obtain ⟨n, hn⟩ : ∃ n, s.size = n := ⟨_, rfl⟩
  rw [hn] at hcv C
  clear hT hW hs hcap hb2 hsz2 hwc hn
  by_cases h : (r : Int) = 0
  · go_enter Tryz.func68, Tryz.ntmps68
    go_wp2_with (go_at_call 89; refine (C.out _ (Below.refl _ _)).mono ?_; rintro e w' ⟨rfl, hb'⟩)
    go_ret
    exact ⟨ret_bb (by simp; omega), below_cat5 HB.out hb'⟩
  · go_enter Tryz.func68, Tryz.ntmps68
    go_wp2_with (go_at_call 89; refine (C.out _ (Below.refl _ _)).mono ?_; rintro e w' ⟨rfl, hb'⟩)
    go_ret
    exact ⟨ret_bb (by have h2 : ¬ r = 0 := (by omega); simp [h2]), below_cat5 HB.out hb'⟩
theorem hasFault_any (w : World) (hT : Tabs w) (x : AT) (hx : TreeAt w x) :
    Calls Tryz.prog 35 #[x.ptr] w fun e w' => e = .returned (.bool (x.anyT faultB)) ∧ Below w.heap.size w w' := by
  have C := Lib.hid (anyText_any w x hx 68 faultB (enters_of Tryz.func68 (by kernel_rfl) rfl) (isFaulty_any w hT))
  generalize x.anyT faultB = R at *
  unfold AT.ptr at *
  clear hx
  go_enter Tryz.func35, Tryz.ntmps35
  go_wp2_with (go_at_call 61; refine C.out.mono ?_; rintro e w' ⟨rfl, hb'⟩)
  go_ret
  exact ⟨rfl, hb'⟩
theorem nameAll_any' (s : ByteArray) (w : World) (hT : Tabs w) (hs : s.size ≤ 140737488355328) :
    Calls Tryz.prog 66 #[.string s] w fun e w' => e = .returned (.bool (nameB s)) ∧ Below w.heap.size w w' := by
  by_cases h : s.size = 0 ∨ 100 < s.size
  · rw [show nameB s = false by unfold nameB; rw [if_pos h]]
    exact name_head s w hT hs (by omega)
  · rw [show nameB s = nameGo s s.size 0 by unfold nameB; rw [if_neg h]]
    cases hv : Lib.validD s.data.toList
    · rw [name_false_of_invalid s hv s.size (Nat.le_refl _)]
      exact name_head s w hT hs (.inr (.inr hv))
    · exact name_loop s w hT (by omega) (by omega) hv
def xmlnsB : ByteArray := ⟨#[104, 116, 116, 112, 58, 47, 47, 119, 119, 119, 46, 119, 51, 46, 111, 114, 103, 47, 50, 48, 48, 48, 47, 120, 109, 108, 110, 115, 47]⟩
def isNameB (u l : ByteArray) : Bool := nameB l && decide (u.size ≤ 100) && !(faultB u) && !(u == xmlnsB)
set_option maxRecDepth 100000 in
set_option maxHeartbeats 1000000 in
theorem isName_any (w : World) (hT : Tabs w) (u l : ByteArray) (hu : u.size ≤ 140737488351232) (hl : l.size ≤ 140737488351232) :
    Calls Tryz.prog 63 #[.agg #[.string u, .string l]] w fun e w' => e = .returned (.bool (isNameB u l)) ∧ Below w.heap.size w w' := by
  have B0 := (Below.refl w.heap.size w).alloc (Nat.le_refl _) (.cells #[.string u, .string l] 23)
  have C1 := Lib.hid (nameAll_any' l _ (hT.below B0) (by omega))
  have C2 := Lib.hid (fun (W : World) (y : Below w.heap.size w W) => isFaulty_any w hT W y u hu)
  have HB := Lib.hid B0
  unfold isNameB
  rw [Go.beq_toListBytes u xmlnsB, show xmlnsB.toList = [104, 116, 116, 112, 58, 47, 47, 119, 119, 119, 46, 119, 51, 46, 111, 114, 103, 47, 50, 48, 48, 48, 47, 120, 109, 108, 110, 115, 47] by rw [ByteArray.toList_eq]; rfl]
  generalize nameB l = N at *
  generalize faultB u = R at *
  obtain ⟨n, hn⟩ : ∃ n, u.size = n := ⟨_, rfl⟩
  rw [hn]
  rw [hn] at hu
  clear hT B0 hl
  cases N
  · go_enter Tryz.func63, Tryz.ntmps63
    go_wp2_with (go_at_call 66; refine C1.out.mono ?_; rintro e w' ⟨rfl, hb'⟩)
    go_ret
    exact ⟨rfl, below_cat5 HB.out hb'⟩
  · by_cases h : (n : Int) ≤ 100
    · cases R
      · go_enter Tryz.func63, Tryz.ntmps63
        go_wp2_with (first | (go_at_call 66; refine C1.out.mono ?_; rintro e w' ⟨rfl, hb'⟩; have g0 : w'.cell? ⟨w.heap.size, 0, none⟩ = some (.string u) := t_cell' hb' (by go_simp)) | (go_at_call 68; refine (C2.out _ (below_cat5 HB.out hb')).mono ?_; rintro e w2 ⟨rfl, hb2⟩; have g1 : w2.cell? ⟨w.heap.size, 0, none⟩ = some (.string u) := t_cell' hb2 g0))
        go_ret
        exact ⟨ret_bb (by rw [show decide (n ≤ 100) = true from decide_eq_true (by omega)]; simp), below_cat5 (below_cat5 HB.out hb') hb2⟩
      · go_enter Tryz.func63, Tryz.ntmps63
        go_wp2_with (first | (go_at_call 66; refine C1.out.mono ?_; rintro e w' ⟨rfl, hb'⟩; have g0 : w'.cell? ⟨w.heap.size, 0, none⟩ = some (.string u) := t_cell' hb' (by go_simp)) | (go_at_call 68; refine (C2.out _ (below_cat5 HB.out hb')).mono ?_; rintro e w2 ⟨rfl, hb2⟩; have g1 : w2.cell? ⟨w.heap.size, 0, none⟩ = some (.string u) := t_cell' hb2 g0))
        go_ret
        exact ⟨ret_bb (by rw [show decide (n ≤ 100) = true from decide_eq_true (by omega)]; simp), below_cat5 (below_cat5 HB.out hb') hb2⟩
    · go_enter Tryz.func63, Tryz.ntmps63
      go_wp2_with (go_at_call 66; refine C1.out.mono ?_; rintro e w' ⟨rfl, hb'⟩; have g0 : w'.cell? ⟨w.heap.size, 0, none⟩ = some (.string u) := t_cell' hb' (by go_simp))
      go_ret
      exact ⟨ret_bb (by rw [show decide (n ≤ 100) = false from decide_eq_false (by omega)]; simp), below_cat5 HB.out hb'⟩
def xmlnsL : ByteArray := ⟨#[120, 109, 108, 110, 115]⟩
def badAttr (a : AttrM) : Bool := !(isNameB a.uri a.loc) || (a.uri == noB && a.loc == xmlnsL)
set_option maxRecDepth 100000 in
set_option maxHeartbeats 1000000 in
theorem misnamed1_any (w : World) (hT : Tabs w) (a : AttrS) :
    Calls Tryz.prog 65 #[.agg a.val.enc.toArray] w fun e w' => e = .returned (.bool (badAttr a.val)) ∧ Below w.heap.size w w' := by
  obtain ⟨⟨u, l, v⟩, hu, hl, hv⟩ := a
  change Calls _ _ #[.agg #[.string u, .string l, .string v]] _ _
  change u.size ≤ _ at hu
  change l.size ≤ _ at hl
  show Calls _ _ _ _ fun e w' => e = .returned (.bool (!(isNameB u l) || (u == noB && l == xmlnsL))) ∧ _
  have B0 := (Below.refl w.heap.size w).alloc (Nat.le_refl _) (.cells #[.string u, .string l, .string v] 67)
  have C1 := Lib.hid (isName_any _ (hT.below B0) u l hu hl)
  have qE := fun (W : World) => name_eql W u l noB xmlnsL
  have HB := Lib.hid B0
  generalize isNameB u l = N at *
  generalize (u == noB && l == xmlnsL) = X at *
  unfold noB xmlnsL at qE
  clear hT B0 hu hl hv
  cases N
  · go_enter Tryz.func65, Tryz.ntmps65
    go_wp2_with (go_at_call 63; refine C1.out.mono ?_; rintro e w' ⟨rfl, hb'⟩)
    go_ret
    exact ⟨rfl, below_cat5 HB.out hb'⟩
  · go_enter Tryz.func65, Tryz.ntmps65
    go_wp2_with (go_at_call 63; refine C1.out.mono ?_; rintro e w' ⟨rfl, hb'⟩; have g0 : w'.cell? ⟨w.heap.size, 0, none⟩ = some (.string u) := t_cell' hb' (by go_simp); have g1 : w'.cell? ⟨w.heap.size, 1, none⟩ = some (.string l) := t_cell' hb' (by go_simp))
    go_ret
    exact ⟨ret_bb (by simp), below_cat5 HB.out hb'⟩
/-- An instruction's name is not asked here. -/
def AT.misnamed (t : AT) (i : Bool) : Bool := if t.kind = 2 then !(isNameB t.uri t.loc) || t.attrs.any badAttr else if t.kind = 5 then i else false
set_option maxRecDepth 100000 in
set_option maxHeartbeats 1000000 in
theorem isMisnamed_any (w : World) (hT : Tabs w) (x : AT) (hx : TreeAt w x) (h5 : x.kind ≠ 5) :
    Calls Tryz.prog 34 #[x.ptr] w fun e w' => e = .returned (.bool (x.misnamed false)) ∧ Below w.heap.size w w' := by
  obtain ⟨pa, ca, pk, ck, h0, c0, c1, c2, c3, c4, c5⟩ := hx.top
  obtain ⟨zs, hzs⟩ := attrS_list x.attrs h0.each
  have C1 := Lib.hid (isName_any w hT x.uri x.loc h0.uri h0.loc)
  have C := Lib.hid (fun (W : World) (y : Below w.heap.size w W) =>
    anyAttr (fun a : AttrS => a.val) (fun a => badAttr a.val) 65 #[] (enters_of Tryz.func65 (by kernel_rfl) rfl) W pa x.attrs zs hzs ca (Nat.le_trans h0.asz (by decide)) (h0.attrs.stay (Stay.below y))
      (fun W' a hz => (misnamed1_any W' (hT.below (below_cat5 y hz)) a).mono fun e w' h => ⟨h.1, below_cat5 hz h.2⟩))
  have hany : x.attrs.any badAttr = zs.any (fun a => badAttr a.val) := by
    rw [← hzs, List.any_map]
    rfl
  unfold AT.misnamed
  rw [hany]
  generalize zs.any (fun a => badAttr a.val) = R at *
  generalize isNameB x.uri x.loc = N at *
  unfold AT.ptr
  generalize x.uri = u at *
  generalize x.loc = l at *
  generalize x.kind = kd at *
  generalize x.attrs.length = n at *
  generalize x.b = b at *
  generalize x.o = o at *
  clear hT hx h0 hzs hany c4 c5
  by_cases k2 : kd = 2
  · subst k2
    cases N
    · go_enter Tryz.func34, Tryz.ntmps34
      go_wp2_with (go_at_call 63; refine C1.out.mono ?_; rintro e w' ⟨rfl, hb'⟩)
      go_ret
      exact ⟨ret_bb (by simp), hb'⟩
    · go_enter Tryz.func34, Tryz.ntmps34
      go_wp2_with (first | (go_at_call 63; refine C1.out.mono ?_; rintro e w' ⟨rfl, hb'⟩; have g3 := t_cell' hb' c3) | (go_at_call 64; refine (C.out _ hb').mono ?_; rintro e w2 ⟨rfl, hb2⟩))
      go_ret
      exact ⟨ret_bb (by simp), below_cat5 hb' hb2⟩
  · go_enter Tryz.func34, Tryz.ntmps34
    go_wp2_with (fail)
    go_ret
    exact ⟨ret_bb (by simp [k2, h5]), Below.refl _ _⟩
end Go.Proofs.YtfmlmdfehaajbaaGreatDoor
