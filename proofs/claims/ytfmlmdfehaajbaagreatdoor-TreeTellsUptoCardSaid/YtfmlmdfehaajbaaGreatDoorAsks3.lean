/- Proved here: whether a node's text, or a value of its attributes, is too long or has a fault. -/
import Derived.Test.YtfmlmdfehaajbaaGreatDoorNameOrd
import Derived.Test.YtfmlmdfehaajbaaGreatDoorFault
import Derived.Deep.RegionWith
import Derived.Deep.RegionHeld3
import Derived.Deep.Cut
namespace Go.Proofs.YtfmlmdfehaajbaaGreatDoor
open Go.RowKit Go.Shelf

/-- An attribute whose texts are no longer than may be. -/
def AttrOk (a : AttrM) : Prop := a.uri.size ≤ 140737488351232 ∧ a.loc.size ≤ 140737488351232 ∧ a.val.size ≤ 140737488351232
abbrev AttrS := {a : AttrM // AttrOk a}
instance : Inhabited AttrS := ⟨⟨⟨⟨#[]⟩, ⟨#[]⟩, ⟨#[]⟩⟩, by unfold AttrOk; decide⟩⟩
theorem attrS_list : ∀ (l : List AttrM), (∀ a ∈ l, AttrOk a) → ∃ zs : List AttrS, zs.map (·.val) = l := fun l => by
  induction l with
  | nil => intro _; exact ⟨[], rfl⟩
  | cons a r ih =>
    intro h
    obtain ⟨zs, e⟩ := ih (fun b hb => h b (List.mem_cons_of_mem _ hb))
    exact ⟨⟨a, h a List.mem_cons_self⟩ :: zs, by rw [List.map_cons, e]⟩
/-- What is asked of a text. -/
def AsksS (g : Nat) (f : ByteArray → Bool) (w : World) : Prop := ∀ W, Below w.heap.size w W → ∀ s : ByteArray, s.size ≤ 140737488351232 → Calls Tryz.prog g #[.string s] W fun e W' => e = .returned (.bool (f s)) ∧ Below W.heap.size W W'
set_option maxRecDepth 100000 in
set_option maxHeartbeats 1000000 in
theorem anyText1 (w : World) (B g : Nat) (f : ByteArray → Bool) (eg : ∀ args w, (callFunc g args).run Tryz.prog w = .ok (.enter g args) w) (hg : AsksS g f w) (h1 : w.cell? ⟨B, 0, none⟩ = some (.func (.func g) #[] #[])) (a : AttrS) :
    Calls Tryz.prog 82 #[.agg a.val.enc.toArray, .pointer (some ⟨B, 0, none⟩)] w fun e w' => e = .returned (.bool (f a.val.val)) ∧ Below w.heap.size w w' := by
  have hB := World.block_lt_of_cell? _ _ h1
  obtain ⟨⟨u, l, v⟩, hu, hl, hv⟩ := a
  change Calls _ _ #[.agg #[.string u, .string l, .string v], _] _ _
  change v.size ≤ _ at hv
  have C := Lib.hid (fun W y => hg W y v hv)
  show Calls _ _ _ _ fun e w' => e = .returned (.bool (f v)) ∧ _
  generalize f v = r at *
  clear hg hu hl hv
  go_enter Tryz.func82, Tryz.ntmps82
  go_wp2_with (go_at_fn g; refine (C.out _ ((Below.refl _ _).alloc (Nat.le_refl _) _)).mono ?_; rintro e w' ⟨rfl, hb'⟩)
  go_ret
  exact ⟨rfl, below_cat5 ((Below.refl w.heap.size w).alloc (Nat.le_refl _) _) hb'⟩
def AnyS (w : World) (b o g : Nat) (pa : Option Addr) (n ca : Nat) (s : ByteArray) (W : World) : Prop :=
  Below w.heap.size w W ∧ W.cell? ⟨w.heap.size, 0, none⟩ = some (.func (.func g) #[] #[]) ∧ W.cell? ⟨b, o + 3, none⟩ = some (.slice pa n ca) ∧ W.cell? ⟨b, o + 5, none⟩ = some (.string s)
theorem AnyS.below {w : World} {b o g : Nat} {pa : Option Addr} {n ca : Nat} {s : ByteArray} {W W' : World} (h : AnyS w b o g pa n ca s W) (k : Below W.heap.size W W') : AnyS w b o g pa n ca s W' :=
  ⟨below_cat5 h.1 k, t_cell' k h.2.1, t_cell' k h.2.2.1, t_cell' k h.2.2.2⟩
def AT.anyT (t : AT) (f : ByteArray → Bool) : Bool := f t.text || t.attrs.any (fun a => f a.val)
set_option maxRecDepth 100000 in
set_option maxHeartbeats 1000000 in
theorem anyText_any (w : World) (x : AT) (hx : TreeAt w x) (g : Nat) (f : ByteArray → Bool) (eg : ∀ args w, (callFunc g args).run Tryz.prog w = .ok (.enter g args) w) (hg : AsksS g f w) :
    Calls Tryz.prog 61 #[x.ptr, .func (.func g) #[] #[]] w fun e w' => e = .returned (.bool (x.anyT f)) ∧ Below w.heap.size w w' := by
  obtain ⟨pa, ca, pk, ck, h0, c0, c1, c2, c3, c4, c5⟩ := hx.top
  obtain ⟨zs, hzs⟩ := attrS_list x.attrs h0.each
  obtain ⟨b, hb⟩ : ∃ b, x.b = b := ⟨_, rfl⟩
  obtain ⟨o, ho⟩ : ∃ o, x.o = o := ⟨_, rfl⟩
  obtain ⟨s, hs⟩ : ∃ s, x.text = s := ⟨_, rfl⟩
  obtain ⟨n, hn⟩ : ∃ n, x.attrs.length = n := ⟨_, rfl⟩
  have hsz : s.size ≤ 140737488351232 := hs ▸ h0.text
  have hbl := World.block_lt_of_cell? _ _ c0
  have C := Lib.hid (fun (W : World) (y : Below w.heap.size w W) (q : W.cell? ⟨w.heap.size, 0, none⟩ = some (.func (.func g) #[] #[])) =>
    anyAttr (fun a : AttrS => a.val) (fun a => f a.val.val) 82 #[.pointer (some ⟨w.heap.size, 0, none⟩)] (enters_of Tryz.func82 (by kernel_rfl) rfl) W pa x.attrs zs hzs ca (Nat.le_trans h0.asz (by decide)) (h0.attrs.stay (Stay.below y))
      (fun W' a hz => (anyText1 W' w.heap.size g f eg (fun W'' y' s' hs' => hg W'' (below_cat5 (below_cat5 y hz) y') s' hs') (t_cell' hz q) a).mono fun e w' h => ⟨h.1, below_cat5 hz h.2⟩))
  have CS := Lib.hid (fun (W : World) (y : Below w.heap.size w W) => hg W y s hsz)
  obtain ⟨R, hR⟩ : ∃ R, f s = R := ⟨_, rfl⟩
  obtain ⟨KA, hKA⟩ : ∃ KA, zs.any (fun a => f a.val.val) = KA := ⟨_, rfl⟩
  have HA : x.anyT f = (R || KA) := by
    unfold AT.anyT
    rw [hs, hR, ← hKA, ← hzs, List.any_map]
    rfl
  rw [HA]
  rw [hKA] at C
  rw [hR] at CS
  rw [hn] at C
  unfold AT.ptr
  rw [hb, ho]
  rw [hb, ho, hn] at c3
  rw [hb, ho, hs] at c5
  rw [hb, ho] at c0
  rw [hb] at hbl
  clear hx h0 hg hb ho hs hn hsz hR hKA HA hzs c1 c2 c4
  have I0 : Below w.heap.size w ((w.alloc (.cells #[.func (.func g) #[] #[]] 80)).drew) := ((Below.refl w.heap.size w).alloc (Nat.le_refl _) _).drew
  have IS : Hid (AnyS w b o g pa n ca s ((w.alloc (.cells #[.func (.func g) #[] #[]] 80)).drew)) := Lib.hid ⟨I0, by go_simp, t_cell' I0 c3, t_cell' I0 c5⟩
  clear I0
  cases R
  · go_enter Tryz.func61, Tryz.ntmps61
    go_upto_region 1 with (fail)
    refine wp_region_held_drew (S := fun W => W.cell? ⟨w.heap.size, 0, none⟩ = some (.func (.func g) #[] #[]) ∧ W.cell? ⟨b, o + 3, none⟩ = some (.slice pa n ca) ∧ W.cell? ⟨b, o + 5, none⟩ = some (.string s)) (by kernel_rfl) IS.out.2 (fun hHeld => ?_)
    refine wpAnyH_take (i := 0) (oi := _) (v := ?vf0) rfl (by kernel_rfl) (by kernel_rfl) (by kernel_rfl) (fun _ _ _ h => h) (Or.inl ⟨by rfl, ?hyf0⟩) (by assumption) ?restf0
    case hyf0 =>
      intro W hSw
      obtain ⟨e0, e1, e2⟩ := hSw
      go_simp
      try (with_reducible rfl)
    try simp only [Act.put, List.getElem_toArray, List.getElem_cons_zero, List.getElem_cons_succ, List.setIfInBounds_toArray, List.set_cons_zero, List.set_cons_succ]
    refine wpAnyH_take (i := 1) (oi := _) (v := ?vf1) rfl (by kernel_rfl) (by kernel_rfl) (by kernel_rfl) (fun _ _ _ h => h) (Or.inl ⟨by rfl, ?hyf1⟩) (by assumption) ?restf1
    case hyf1 =>
      intro W hSw
      clear hSw
      go_simp
      try (with_reducible rfl)
    try simp only [Act.put, List.getElem_toArray, List.getElem_cons_zero, List.getElem_cons_succ, List.setIfInBounds_toArray, List.set_cons_zero, List.set_cons_succ]
    refine wpAnyH_take (i := 2) (oi := _) (v := ?vf2) rfl (by kernel_rfl) (by kernel_rfl) (by kernel_rfl) (fun _ _ _ h => h) (Or.inl ⟨by rfl, ?hyf2⟩) (by assumption) ?restf2
    case hyf2 =>
      intro W hSw
      clear hSw
      go_simp
      try (with_reducible rfl)
    try simp only [Act.put, List.getElem_toArray, List.getElem_cons_zero, List.getElem_cons_succ, List.setIfInBounds_toArray, List.set_cons_zero, List.set_cons_succ]
    refine wpAnyH_take (i := 3) (oi := _) (v := ?vf3) rfl (by kernel_rfl) (by kernel_rfl) (by kernel_rfl) (fun _ _ _ h => h) (Or.inl ⟨by rfl, ?hyf3⟩) (by assumption) ?restf3
    case hyf3 =>
      intro W hSw
      clear hSw
      go_simp
      try (with_reducible rfl)
    try simp only [Act.put, List.getElem_toArray, List.getElem_cons_zero, List.getElem_cons_succ, List.setIfInBounds_toArray, List.set_cons_zero, List.set_cons_succ]
    refine wpAnyH_take (i := 4) (oi := _) (v := ?vf4) rfl (by kernel_rfl) (by kernel_rfl) (by kernel_rfl) (fun _ _ _ h => h) (Or.inl ⟨by rfl, ?hyf4⟩) (by assumption) ?restf4
    case hyf4 =>
      intro W hSw
      obtain ⟨e0, e1, e2⟩ := hSw
      go_simp
      try (with_reducible rfl)
    try simp only [Act.put, List.getElem_toArray, List.getElem_cons_zero, List.getElem_cons_succ, List.setIfInBounds_toArray, List.set_cons_zero, List.set_cons_succ]
    refine wpAnyH_ready (rs := [5]) (by kernel_rfl) (by simp) ?_
    refine AllReadyH.cons (o := _) rfl (fun K hK => ?_) AllReadyH.nil
    go_simp
    refine (CS.out _ IS.out.1).mono ?_
    rintro e w1 ⟨rfl, hb1⟩
    have I1 := IS.out.below hb1
    refine hK.out _ _ I1.2 (fun hHeld1 => ?_)
    clear hK K hHeld hb1
    have hHeld := hHeld1
    clear hHeld1
    try simp only [Act.put, List.getElem_toArray, List.getElem_cons_zero, List.getElem_cons_succ, List.setIfInBounds_toArray, List.set_cons_zero, List.set_cons_succ]
    refine wpAnyH_take (i := 6) (oi := _) (v := .bool false) rfl (by kernel_rfl) (by kernel_rfl) (by kernel_rfl) (fun _ _ _ h => h) (Or.inl ⟨by rfl, ?hyf6⟩) (by assumption) ?restf6
    case hyf6 =>
      intro W hSw
      clear hSw
      go_simp
      try (with_reducible rfl)
    try simp only [Act.put, List.getElem_toArray, List.getElem_cons_zero, List.getElem_cons_succ, List.setIfInBounds_toArray, List.set_cons_zero, List.set_cons_succ]
    refine wpAnyH_take (i := 7) (oi := _) (v := ?vf7) rfl (by kernel_rfl) (by kernel_rfl) (by kernel_rfl) (fun _ _ _ h => h) (Or.inl ⟨by rfl, ?hyf7⟩) (by assumption) ?restf7
    case hyf7 =>
      intro W hSw
      clear hSw
      go_simp
      try (with_reducible rfl)
    try simp only [Act.put, List.getElem_toArray, List.getElem_cons_zero, List.getElem_cons_succ, List.setIfInBounds_toArray, List.set_cons_zero, List.set_cons_succ]
    refine wpAnyH_take (i := 8) (oi := _) (v := ?vf8) rfl (by kernel_rfl) (by kernel_rfl) (by kernel_rfl) (fun _ _ _ h => h) (Or.inl ⟨by rfl, ?hyf8⟩) (by assumption) ?restf8
    case hyf8 =>
      intro W hSw
      clear hSw
      go_simp
      try (with_reducible rfl)
    try simp only [Act.put, List.getElem_toArray, List.getElem_cons_zero, List.getElem_cons_succ, List.setIfInBounds_toArray, List.set_cons_zero, List.set_cons_succ]
    refine wpAnyH_take (i := 9) (oi := _) (v := ?vf9) rfl (by kernel_rfl) (by kernel_rfl) (by kernel_rfl) (fun _ _ _ h => h) (Or.inl ⟨by rfl, ?hyf9⟩) (by assumption) ?restf9
    case hyf9 =>
      intro W hSw
      clear hSw
      go_simp
      try (with_reducible rfl)
    try simp only [Act.put, List.getElem_toArray, List.getElem_cons_zero, List.getElem_cons_succ, List.setIfInBounds_toArray, List.set_cons_zero, List.set_cons_succ]
    refine wpAnyH_take (i := 10) (oi := _) (v := ?vf10) rfl (by kernel_rfl) (by kernel_rfl) (by kernel_rfl) (fun _ _ _ h => h) (Or.inl ⟨by rfl, ?hyf10⟩) (by assumption) ?restf10
    case hyf10 =>
      intro W hSw
      obtain ⟨e0, e1, e2⟩ := hSw
      go_simp
      try (with_reducible rfl)
    try simp only [Act.put, List.getElem_toArray, List.getElem_cons_zero, List.getElem_cons_succ, List.setIfInBounds_toArray, List.set_cons_zero, List.set_cons_succ]
    refine wpAnyH_take (i := 11) (oi := _) (v := ?vf11) rfl (by kernel_rfl) (by kernel_rfl) (by kernel_rfl) (fun _ _ _ h => h) (Or.inl ⟨by rfl, ?hyf11⟩) (by assumption) ?restf11
    case hyf11 =>
      intro W hSw
      clear hSw
      go_simp
      try (with_reducible rfl)
    try simp only [Act.put, List.getElem_toArray, List.getElem_cons_zero, List.getElem_cons_succ, List.setIfInBounds_toArray, List.set_cons_zero, List.set_cons_succ]
    refine wpAnyH_ready (rs := [12]) (by kernel_rfl) (by simp) ?_
    refine AllReadyH.cons (o := _) rfl (fun K hK => ?_) AllReadyH.nil
    go_simp
    refine (C.out _ I1.1 I1.2.1).mono ?_
    rintro e w2 ⟨rfl, hb2⟩
    have I2 := I1.below hb2
    refine hK.out _ _ I2.2 (fun hHeld2 => ?_)
    clear hK K hHeld hb2
    have hHeld := hHeld2
    clear hHeld2
    try simp only [Act.put, List.getElem_toArray, List.getElem_cons_zero, List.getElem_cons_succ, List.setIfInBounds_toArray, List.set_cons_zero, List.set_cons_succ]
    refine wpAnyH_take (i := 13) (oi := _) (v := ?vf13) rfl (by kernel_rfl) (by kernel_rfl) (by kernel_rfl) (fun _ _ _ h => h) (Or.inl ⟨by rfl, ?hyf13⟩) (by assumption) ?restf13
    case hyf13 =>
      intro W hSw
      clear hSw
      go_simp
      try (with_reducible rfl)
    try simp only [Act.put, List.getElem_toArray, List.getElem_cons_zero, List.getElem_cons_succ, List.setIfInBounds_toArray, List.set_cons_zero, List.set_cons_succ]
    refine wpAnyH_take (i := 14) (oi := _) (v := ?vf14) rfl (by kernel_rfl) (by kernel_rfl) (by kernel_rfl) (fun _ _ _ h => h) (Or.inl ⟨by rfl, ?hyf14⟩) (by assumption) ?restf14
    case hyf14 =>
      intro W hSw
      clear hSw
      go_simp
      try (with_reducible rfl)
    try simp only [Act.put, List.getElem_toArray, List.getElem_cons_zero, List.getElem_cons_succ, List.setIfInBounds_toArray, List.set_cons_zero, List.set_cons_succ]
    refine wpAnyH_done (by kernel_rfl) ?_ _
    clear hHeld
    go_wp2_with (fail)
    go_ret
    exact ⟨rfl, I2.1⟩
  · go_enter Tryz.func61, Tryz.ntmps61
    go_upto_region 1 with (fail)
    refine wp_region_held_drew (S := fun W => W.cell? ⟨w.heap.size, 0, none⟩ = some (.func (.func g) #[] #[]) ∧ W.cell? ⟨b, o + 3, none⟩ = some (.slice pa n ca) ∧ W.cell? ⟨b, o + 5, none⟩ = some (.string s)) (by kernel_rfl) IS.out.2 (fun hHeld => ?_)
    refine wpAnyH_take (i := 0) (oi := _) (v := ?vt0) rfl (by kernel_rfl) (by kernel_rfl) (by kernel_rfl) (fun _ _ _ h => h) (Or.inl ⟨by rfl, ?hyt0⟩) (by assumption) ?restt0
    case hyt0 =>
      intro W hSw
      obtain ⟨e0, e1, e2⟩ := hSw
      go_simp
      try (with_reducible rfl)
    try simp only [Act.put, List.getElem_toArray, List.getElem_cons_zero, List.getElem_cons_succ, List.setIfInBounds_toArray, List.set_cons_zero, List.set_cons_succ]
    refine wpAnyH_take (i := 1) (oi := _) (v := ?vt1) rfl (by kernel_rfl) (by kernel_rfl) (by kernel_rfl) (fun _ _ _ h => h) (Or.inl ⟨by rfl, ?hyt1⟩) (by assumption) ?restt1
    case hyt1 =>
      intro W hSw
      clear hSw
      go_simp
      try (with_reducible rfl)
    try simp only [Act.put, List.getElem_toArray, List.getElem_cons_zero, List.getElem_cons_succ, List.setIfInBounds_toArray, List.set_cons_zero, List.set_cons_succ]
    refine wpAnyH_take (i := 2) (oi := _) (v := ?vt2) rfl (by kernel_rfl) (by kernel_rfl) (by kernel_rfl) (fun _ _ _ h => h) (Or.inl ⟨by rfl, ?hyt2⟩) (by assumption) ?restt2
    case hyt2 =>
      intro W hSw
      clear hSw
      go_simp
      try (with_reducible rfl)
    try simp only [Act.put, List.getElem_toArray, List.getElem_cons_zero, List.getElem_cons_succ, List.setIfInBounds_toArray, List.set_cons_zero, List.set_cons_succ]
    refine wpAnyH_take (i := 3) (oi := _) (v := ?vt3) rfl (by kernel_rfl) (by kernel_rfl) (by kernel_rfl) (fun _ _ _ h => h) (Or.inl ⟨by rfl, ?hyt3⟩) (by assumption) ?restt3
    case hyt3 =>
      intro W hSw
      clear hSw
      go_simp
      try (with_reducible rfl)
    try simp only [Act.put, List.getElem_toArray, List.getElem_cons_zero, List.getElem_cons_succ, List.setIfInBounds_toArray, List.set_cons_zero, List.set_cons_succ]
    refine wpAnyH_take (i := 4) (oi := _) (v := ?vt4) rfl (by kernel_rfl) (by kernel_rfl) (by kernel_rfl) (fun _ _ _ h => h) (Or.inl ⟨by rfl, ?hyt4⟩) (by assumption) ?restt4
    case hyt4 =>
      intro W hSw
      obtain ⟨e0, e1, e2⟩ := hSw
      go_simp
      try (with_reducible rfl)
    try simp only [Act.put, List.getElem_toArray, List.getElem_cons_zero, List.getElem_cons_succ, List.setIfInBounds_toArray, List.set_cons_zero, List.set_cons_succ]
    refine wpAnyH_ready (rs := [5]) (by kernel_rfl) (by simp) ?_
    refine AllReadyH.cons (o := _) rfl (fun K hK => ?_) AllReadyH.nil
    go_simp
    refine (CS.out _ IS.out.1).mono ?_
    rintro e w1 ⟨rfl, hb1⟩
    have I1 := IS.out.below hb1
    refine hK.out _ _ I1.2 (fun hHeld1 => ?_)
    clear hK K hHeld hb1
    have hHeld := hHeld1
    clear hHeld1
    try simp only [Act.put, List.getElem_toArray, List.getElem_cons_zero, List.getElem_cons_succ, List.setIfInBounds_toArray, List.set_cons_zero, List.set_cons_succ]
    refine wpAnyH_take (i := 6) (oi := _) (v := .bool true) rfl (by kernel_rfl) (by kernel_rfl) (by kernel_rfl) (fun _ _ _ h => h) (Or.inl ⟨by rfl, ?hyt6⟩) (by assumption) ?restt6
    case hyt6 =>
      intro W hSw
      clear hSw
      go_simp
      try (with_reducible rfl)
    try simp only [Act.put, List.getElem_toArray, List.getElem_cons_zero, List.getElem_cons_succ, List.setIfInBounds_toArray, List.set_cons_zero, List.set_cons_succ]
    refine wpAnyH_take (i := 7) (oi := _) (v := _) rfl (by kernel_rfl) (by kernel_rfl) (by kernel_rfl) (fun _ _ _ h => h) (Or.inr ⟨by rfl, rfl⟩) (by assumption) ?restt7
    try simp only [Act.put, List.getElem_toArray, List.getElem_cons_zero, List.getElem_cons_succ, List.setIfInBounds_toArray, List.set_cons_zero, List.set_cons_succ]
    refine wpAnyH_take (i := 8) (oi := _) (v := _) rfl (by kernel_rfl) (by kernel_rfl) (by kernel_rfl) (fun _ _ _ h => h) (Or.inr ⟨by rfl, rfl⟩) (by assumption) ?restt8
    try simp only [Act.put, List.getElem_toArray, List.getElem_cons_zero, List.getElem_cons_succ, List.setIfInBounds_toArray, List.set_cons_zero, List.set_cons_succ]
    refine wpAnyH_take (i := 9) (oi := _) (v := _) rfl (by kernel_rfl) (by kernel_rfl) (by kernel_rfl) (fun _ _ _ h => h) (Or.inr ⟨by rfl, rfl⟩) (by assumption) ?restt9
    try simp only [Act.put, List.getElem_toArray, List.getElem_cons_zero, List.getElem_cons_succ, List.setIfInBounds_toArray, List.set_cons_zero, List.set_cons_succ]
    refine wpAnyH_take (i := 10) (oi := _) (v := _) rfl (by kernel_rfl) (by kernel_rfl) (by kernel_rfl) (fun _ _ _ h => h) (Or.inr ⟨by rfl, rfl⟩) (by assumption) ?restt10
    try simp only [Act.put, List.getElem_toArray, List.getElem_cons_zero, List.getElem_cons_succ, List.setIfInBounds_toArray, List.set_cons_zero, List.set_cons_succ]
    refine wpAnyH_take (i := 11) (oi := _) (v := _) rfl (by kernel_rfl) (by kernel_rfl) (by kernel_rfl) (fun _ _ _ h => h) (Or.inr ⟨by rfl, rfl⟩) (by assumption) ?restt11
    try simp only [Act.put, List.getElem_toArray, List.getElem_cons_zero, List.getElem_cons_succ, List.setIfInBounds_toArray, List.set_cons_zero, List.set_cons_succ]
    refine wpAnyH_take (i := 12) (oi := _) (v := _) rfl (by kernel_rfl) (by kernel_rfl) (by kernel_rfl) (fun _ _ _ h => h) (Or.inr ⟨by rfl, rfl⟩) (by assumption) ?restt12
    try simp only [Act.put, List.getElem_toArray, List.getElem_cons_zero, List.getElem_cons_succ, List.setIfInBounds_toArray, List.set_cons_zero, List.set_cons_succ]
    refine wpAnyH_take (i := 13) (oi := _) (v := ?vt13) rfl (by kernel_rfl) (by kernel_rfl) (by kernel_rfl) (fun _ _ _ h => h) (Or.inl ⟨by rfl, ?hyt13⟩) (by assumption) ?restt13
    case hyt13 =>
      intro W hSw
      clear hSw
      go_simp
      try (with_reducible rfl)
    try simp only [Act.put, List.getElem_toArray, List.getElem_cons_zero, List.getElem_cons_succ, List.setIfInBounds_toArray, List.set_cons_zero, List.set_cons_succ]
    refine wpAnyH_take (i := 14) (oi := _) (v := ?vt14) rfl (by kernel_rfl) (by kernel_rfl) (by kernel_rfl) (fun _ _ _ h => h) (Or.inl ⟨by rfl, ?hyt14⟩) (by assumption) ?restt14
    case hyt14 =>
      intro W hSw
      clear hSw
      go_simp
      try (with_reducible rfl)
    try simp only [Act.put, List.getElem_toArray, List.getElem_cons_zero, List.getElem_cons_succ, List.setIfInBounds_toArray, List.set_cons_zero, List.set_cons_succ]
    refine wpAnyH_done (by kernel_rfl) ?_ _
    clear hHeld
    go_wp2_with (fail)
    go_ret
    exact ⟨rfl, I1.1⟩
-- END anyText
end Go.Proofs.YtfmlmdfehaajbaaGreatDoor
