/- Proved here: the statement TrailUps, walked: it answers true of every two trails, in every world that holds what trail leans on. -/
import Derived.Test.YtpcdcndniibalaaDoorLawTUpsKit
namespace Go.Proofs.YtpcdcndniibalaaDoor
open Go.RowKit

def UpsRel (w1 : World) (Ga : Nat) (p q : Option Addr) (c d : Nat) (a b : Tr) (v5 v6 v7 : Value) (wr : World) : Prop :=
  ∃ (n : Nat) (ok : Bool) (G : Nat) (r : Option Addr) (e : Nat) (t : Tr), v5 = .int .i64 (n : Int) ∧ v6 = .pointer (some ⟨G, 0, none⟩) ∧ v7 = .bool ok ∧ n ≤ 300 ∧
    Hid (Box2 w1 wr Ga p q c d a b ∧ OwnT wr G r e t ∧ w1.heap.size ≤ G ∧ Anc t a ∧ (ok = true → n + remT t = remT a) ∧ (ok = false → n = remT a + 1))
set_option maxRecDepth 100000 in
set_option maxHeartbeats 32000000 in
theorem ups_walk (p q : Option Addr) (c d : Nat) (a b : Tr) (w : World) (hL : TLeans w) (h1 : TrAt w p c a) (h2 : TrAt w q d b) (hn : p = none → c = 0) :
    Calls Tryd.prog 6 #[TrV p c a, TrV q d b] w fun e w' => e = .returned (.bool true) ∧ Below w.heap.size w w' := by
  have AW := Lib.hid (fun W (y : Below w.heap.size w W) => awake8_any W (hL.below y))
  have HA := Lib.hid (fun W (y : Below w.heap.size w W) => h1.below y)
  have HB := Lib.hid (fun W (y : Below w.heap.size w W) => h2.below y)
  have HN := Lib.hid hn
  have hz0 : (a.steps.length : Int) ≤ 140737488355328 := by have := h1.2.2; omega
  clear hL h1 h2 hn
  unfold TrV
  have hbx := And.intro (t_first w (.cells #[.slice p a.steps.length c, .bool a.attr, .string a.uri, .string a.loc] 26) (.cells #[.slice q b.steps.length d, .bool b.attr, .string b.uri, .string b.loc] 26)) (t_two w (.cells #[.slice p a.steps.length c, .bool a.attr, .string a.uri, .string a.loc] 26) (.cells #[.slice q b.steps.length d, .bool b.attr, .string b.uri, .string b.loc] 26))
  have hb0 : Below w.heap.size w ((w.alloc (.cells #[.slice p a.steps.length c, .bool a.attr, .string a.uri, .string a.loc] 26)).alloc (.cells #[.slice q b.steps.length d, .bool b.attr, .string b.uri, .string b.loc] 26)) := ((Below.refl _ _).alloc (Nat.le_refl _) _).alloc (by simp) _
  have hsz : w.heap.size + 1 < ((w.alloc (.cells #[.slice p a.steps.length c, .bool a.attr, .string a.uri, .string a.loc] 26)).alloc (.cells #[.slice q b.steps.length d, .bool b.attr, .string b.uri, .string b.loc] 26)).heap.size := by simp
  have HBX := Lib.hid (And.intro hb0 (And.intro hbx hsz))
  clear hb0 hbx hsz
  go_enter Tryd.func6, Tryd.ntmps6
  go_wp2_with (fail)
  refine (AW.out _ HBX.out.1).mono ?_
  rintro e1 w1 ⟨rfl, hb1⟩
  have hB1 := t_cat HBX.out.1 hb1
  have hbx1 : Box2 w1 w1 w.heap.size p q c d a b := ⟨Below.refl _ _, (BoxT.of HBX.out.2.1.1).below hb1, (BoxT.of HBX.out.2.1.2).below hb1, Nat.lt_of_lt_of_le HBX.out.2.2 hb1.size⟩
  have HB1 := Lib.hid hB1
  have HX := Lib.hid hbx1
  obtain ⟨a0, a1, a2, a3⟩ := hbx1.one
  clear hb1 hB1 hbx1 HBX AW
  by_cases hlong : 200 < a.steps.length
  · have g0 : (200 : Int) < (a.steps.length : Int) := by omega
    clear hlong
    go_wp2_with (fail)
    go_ret
    exact ⟨rfl, HB1.out⟩
  · have g0 : ¬ (200 : Int) < (a.steps.length : Int) := by omega
    have hlen : a.steps.length ≤ 200 := by omega
    clear hlong
    have hown := t_alloc_own (HA.out w1 HB1.out) HN.out
    have hbx2 := HX.out.far ((Below.refl _ _).alloc (Nat.le_refl _) (.cells #[.slice p a.steps.length c, .bool a.attr, .string a.uri, .string a.loc] 26))
    have HO := Lib.hid (And.intro hown hbx2)
    clear hown hbx2
    have hrem : remT a ≤ 201 := by unfold remT; split <;> omega
    go_wp2_with (fail)
    go_loopw [5, 6, 7] (fun v5 v6 v7 wr => UpsRel w1 w.heap.size p q c d a b v5 v6 v7 wr) (fun v5 _ _ _ => remT a + 1 - (intOf v5).toNat)
    case atStart => exact ⟨0, true, _, p, c, a, rfl, rfl, rfl, by omega, Lib.hid ⟨HO.out.2, HO.out.1, Nat.le_refl _, .inl rfl, fun _ => by omega, fun e => (by cases e)⟩⟩
    case round =>
      obtain ⟨n, ok, G, r, e, t, rfl, rfl, rfl, hn3, HR⟩ := hrel
      cases ok
      · obtain ⟨x0, x1, x2, x3⟩ := HR.out.1.one
        have hnw := HR.out.2.2.2.2.2 rfl
        have HE := Lib.hid (t_cat HB1.out HR.out.1.below)
        cases ha : a.attr
        · rw [ha] at x1
          have z0 : ((n : Int) == (a.steps.length : Int) + 1) = true := by
            unfold remT at hnw; rw [ha] at hnw; simp only [Bool.false_eq_true, if_false] at hnw
            rw [beq_iff_eq]; omega
          clear hnw HR
          go_wp2_with (fail)
          go_ret
          exact ⟨rfl, HE.out⟩
        · rw [ha] at x1
          have z0 : ((n : Int) == (a.steps.length : Int) + 1 + 1) = true := by
            unfold remT at hnw; rw [ha] at hnw; simp only [if_true] at hnw
            rw [beq_iff_eq]; omega
          clear hnw HR
          go_wp2_with (fail)
          go_ret
          exact ⟨rfl, HE.out⟩
      · -- ROUND
        have hnr := HR.out.2.2.2.2.1 rfl
        have hanc := HR.out.2.2.2.1
        have HG1 := Lib.hid HR.out.2.2.1
        have ST := Lib.hid (And.intro HR.out.1 HR.out.2.1)
        have huta := anc_under hanc
        have hover := fun h => anc_over (b := b) hanc h
        obtain ⟨hf1, hf2, hf3, hf4⟩ := up_facts hanc
        have UTA := Lib.hid (fun W (x : TrAt W r e t) (y : TrAt W p c a) => under_any r p e c t a W x y)
        have UBT := Lib.hid (fun W (x : TrAt W q d b) (y : TrAt W r e t) => under_any q r d e b t W x y)
        have UBA := Lib.hid (fun W (x : TrAt W q d b) (y : TrAt W p c a) => under_any q p d c b a W x y)
        have UPC := Lib.hid (fun W (x : TrAt W r e t) (hn : r = none → e = 0) => up_any r e t W x hn (by have h1 : t.steps.length ≤ remT t := Nat.le_add_right _ _; omega))
        rw [huta] at UTA
        unfold UpPost at UPC
        obtain ⟨u, k, hu⟩ : ∃ u k, upT t = (u, k) := ⟨_, _, rfl⟩
        rw [hu] at UPC hf1 hf2 hf3 hf4
        simp only at hf1 hf2 hf3 hf4
        have UUT := Lib.hid (fun W r2 e2 (x : TrAt W r2 e2 u) (y : TrAt W r e t) => under_any r2 r e2 e u t W x y)
        have CUT := Lib.hid (fun W r2 e2 (x : TrAt W r2 e2 u) (y : TrAt W r e t) => cmpT_any r2 r e2 e u t W x y)
        have HU1 := Lib.hid hf2
        have HHU := Lib.hid hu
        have HF1 := Lib.hid hf1
        have HF3 := Lib.hid hf3
        have HF4 := Lib.hid hf4
        clear HR hanc huta hf1 hf2 hf3 hf4 hu hz0
        unfold TrV at *
        have hov : Hid (underT b t = true → underT b a = true) := Lib.hid hover
        clear hover
        cases hv : underT b t
        · rw [hv] at UBT
          clear hov hv
          cases k
          · have HUF := Lib.hid (And.intro HF3.out HF4.out)
            clear HF1 HF3 HF4 HHU
            obtain ⟨a0, a1, a2, a3⟩ := ST.out.1.one
            obtain ⟨b0, b1, b2, b3⟩ := ST.out.1.two
            obtain ⟨t0, t1, t2, t3⟩ := ST.out.2.box
            go_wp2_with (fail)
            with_reducible (refine (UTA.out _ (ST.out.2.lies) (HA.out _ (t_cat HB1.out ST.out.1.below))).mono ?_)
            rintro e5 w2 ⟨rfl, hb5⟩
            have SU := Lib.hid (And.intro (ST.out.1.far hb5) (ST.out.2.far hb5))
            clear hb5 a0 a1 a2 a3 b0 b1 b2 b3 t0 t1 t2 t3 ST
            have ST := SU
            clear SU
            obtain ⟨a0, a1, a2, a3⟩ := ST.out.1.one
            obtain ⟨b0, b1, b2, b3⟩ := ST.out.1.two
            obtain ⟨t0, t1, t2, t3⟩ := ST.out.2.box
            go_wp2_with (fail)
            with_reducible (refine (UBT.out _ (HB.out _ (t_cat HB1.out ST.out.1.below)) (ST.out.2.lies)).mono ?_)
            rintro e5 w3 ⟨rfl, hb5⟩
            have SU := Lib.hid (And.intro (ST.out.1.far hb5) (ST.out.2.far hb5))
            clear hb5 a0 a1 a2 a3 b0 b1 b2 b3 t0 t1 t2 t3 ST
            have ST := SU
            clear SU
            obtain ⟨a0, a1, a2, a3⟩ := ST.out.1.one
            obtain ⟨b0, b1, b2, b3⟩ := ST.out.1.two
            obtain ⟨t0, t1, t2, t3⟩ := ST.out.2.box
            have hal := (Below.refl w3.heap.size w3).alloc (Nat.le_refl _) (.cells #[.slice none 0 0, .bool false, .string ⟨#[]⟩, .string ⟨#[]⟩] 26)
            have SU := Lib.hid (And.intro (ST.out.1.far hal) (And.intro (ST.out.2.far hal) (t_one w3 (.cells #[.slice none 0 0, .bool false, .string ⟨#[]⟩, .string ⟨#[]⟩] 26))))
            have hG2 : w1.heap.size ≤ w3.heap.size := ST.out.1.below.size
            have hGG : G < w3.heap.size := ST.out.2.lt
            clear a0 a1 a2 a3 b0 b1 b2 b3 t0 t1 t2 t3 ST hal
            obtain ⟨t0, t1, t2, t3⟩ := SU.out.2.1.box
            go_wp2_with (fail)
            refine (UPC.out _ SU.out.2.1.lies SU.out.2.1.nn).mono ?_
            rintro e6 w6 ⟨r2, e2, rfl, hat6, hnn6, hb6⟩
            have hblk6 := (hb6.block _ (by simp)).trans SU.out.2.2
            have hbx6 := SU.out.1.far hb6
            have hot6 := SU.out.2.1.far hb6
            have hu7 := OwnT.laid hat6 hnn6 hblk6
            have hbx7 := hbx6.stored (.slice r2 u.steps.length e2) (.bool u.attr) (.string u.uri) (.string u.loc) hG2
            have hot7 := hot6.stored (.slice r2 u.steps.length e2) (.bool u.attr) (.string u.uri) (.string u.loc) hblk6 (Nat.ne_of_lt hGG)
            obtain ⟨⟨c0, c1, c2, c3⟩, ⟨f0, f1, f2, f3⟩⟩ := t_cells hblk6
            have ST := Lib.hid (And.intro hbx7 (And.intro hot7 hu7))
            have HGE := Lib.hid (And.intro hG2 hGG)
            clear hat6 hnn6 hb6 hblk6 hbx6 hot6 hu7 hbx7 hot7 SU t0 t1 t2 t3 hG2 hGG
            go_upto_region 13 with fail
            change Code.wp _ _ _ _ (setT w6 w3.heap.size (.slice r2 u.steps.length e2) (.bool u.attr) (.string u.uri) (.string u.loc))
            generalize setT w6 w3.heap.size (.slice r2 u.steps.length e2) (.bool u.attr) (.string u.uri) (.string u.loc) = w7 at *
            generalize w3.heap.size = G2 at *
            clear c0 c1 c2 c3 f0 f1 f2 f3
            obtain ⟨u0, u1, u2, u3⟩ := ST.out.2.2.box
            obtain ⟨t0, t1, t2, t3⟩ := ST.out.2.1.box
            rw [HU1.out] at u1
            have hne : G2 ≠ G := (Nat.ne_of_lt HGE.out.2).symm
            have hbt := ST.out.2.1.blk
            have hu8 := ST.out.2.2.stored (.slice r2 u.steps.length e2) (.bool u.attr) (.string u.uri) (.string u.loc) hbt hne
            have hb8 := ST.out.1.stored (.slice r2 u.steps.length e2) (.bool u.attr) (.string u.uri) (.string u.loc) HG1.out
            have hal := t_alloc_own hu8.lies hu8.nn
            have hb9 := hb8.far ((Below.refl _ _).alloc (Nat.le_refl _) (.cells #[.slice r2 u.steps.length e2, .bool u.attr, .string u.uri, .string u.loc] 26))
            have h8z : w1.heap.size ≤ (setT w7 G (.slice r2 u.steps.length e2) (.bool u.attr) (.string u.uri) (.string u.loc)).heap.size := hb8.below.size
            have ht8 := setT_row (.slice r2 u.steps.length e2) (.bool u.attr) (.string u.uri) (.string u.loc) hbt
            obtain ⟨⟨d0, d1, d2, d3⟩, ⟨f0, f1, f2, f3⟩⟩ := t_cells hbt
            obtain ⟨⟨g0, g1, g2, g3⟩, -⟩ := t_cells ht8
            have HQ := Lib.hid (And.intro hb9 (And.intro hal h8z))
            rw [HU1.out] at g1
            clear hbt hu8 hb8 hal hb9 h8z ht8 t0 t1 t2 t3
            go_upto_region 16 with fail
            change Code.wp _ _ _ _ (setT w7 G (.slice r2 u.steps.length e2) (.bool false) (.string u.uri) (.string u.loc))
            rw [HU1.out] at HQ g0 g2 g3
            generalize setT w7 G (.slice r2 u.steps.length e2) (.bool false) (.string u.uri) (.string u.loc) = w10 at *
            go_wp2_with (fail)
            go_roundw
            case rel => exact ⟨n + 1, false, _, r2, e2, u, by go_num, rfl, rfl, by omega, Lib.hid ⟨HQ.out.1, HQ.out.2.1, HQ.out.2.2, HUF.out.1, fun e => (by cases e), fun _ => by have := HUF.out.2 (by simp); omega⟩⟩
            case measure => simp [intOf]; omega
          · have hx := HF1.out rfl
            rw [hx.1] at UUT
            rw [hx.2.1] at CUT
            have HUF := Lib.hid (And.intro HF3.out (fun _ : true = true => hx.2.2))
            clear HF1 HF3 HF4 HHU hx
            obtain ⟨a0, a1, a2, a3⟩ := ST.out.1.one
            obtain ⟨b0, b1, b2, b3⟩ := ST.out.1.two
            obtain ⟨t0, t1, t2, t3⟩ := ST.out.2.box
            go_wp2_with (fail)
            with_reducible (refine (UTA.out _ (ST.out.2.lies) (HA.out _ (t_cat HB1.out ST.out.1.below))).mono ?_)
            rintro e5 w2 ⟨rfl, hb5⟩
            have SU := Lib.hid (And.intro (ST.out.1.far hb5) (ST.out.2.far hb5))
            clear hb5 a0 a1 a2 a3 b0 b1 b2 b3 t0 t1 t2 t3 ST
            have ST := SU
            clear SU
            obtain ⟨a0, a1, a2, a3⟩ := ST.out.1.one
            obtain ⟨b0, b1, b2, b3⟩ := ST.out.1.two
            obtain ⟨t0, t1, t2, t3⟩ := ST.out.2.box
            go_wp2_with (fail)
            with_reducible (refine (UBT.out _ (HB.out _ (t_cat HB1.out ST.out.1.below)) (ST.out.2.lies)).mono ?_)
            rintro e5 w3 ⟨rfl, hb5⟩
            have SU := Lib.hid (And.intro (ST.out.1.far hb5) (ST.out.2.far hb5))
            clear hb5 a0 a1 a2 a3 b0 b1 b2 b3 t0 t1 t2 t3 ST
            have ST := SU
            clear SU
            obtain ⟨a0, a1, a2, a3⟩ := ST.out.1.one
            obtain ⟨b0, b1, b2, b3⟩ := ST.out.1.two
            obtain ⟨t0, t1, t2, t3⟩ := ST.out.2.box
            have hal := (Below.refl w3.heap.size w3).alloc (Nat.le_refl _) (.cells #[.slice none 0 0, .bool false, .string ⟨#[]⟩, .string ⟨#[]⟩] 26)
            have SU := Lib.hid (And.intro (ST.out.1.far hal) (And.intro (ST.out.2.far hal) (t_one w3 (.cells #[.slice none 0 0, .bool false, .string ⟨#[]⟩, .string ⟨#[]⟩] 26))))
            have hG2 : w1.heap.size ≤ w3.heap.size := ST.out.1.below.size
            have hGG : G < w3.heap.size := ST.out.2.lt
            clear a0 a1 a2 a3 b0 b1 b2 b3 t0 t1 t2 t3 ST hal
            obtain ⟨t0, t1, t2, t3⟩ := SU.out.2.1.box
            go_wp2_with (fail)
            refine (UPC.out _ SU.out.2.1.lies SU.out.2.1.nn).mono ?_
            rintro e6 w6 ⟨r2, e2, rfl, hat6, hnn6, hb6⟩
            have hblk6 := (hb6.block _ (by simp)).trans SU.out.2.2
            have hbx6 := SU.out.1.far hb6
            have hot6 := SU.out.2.1.far hb6
            have hu7 := OwnT.laid hat6 hnn6 hblk6
            have hbx7 := hbx6.stored (.slice r2 u.steps.length e2) (.bool u.attr) (.string u.uri) (.string u.loc) hG2
            have hot7 := hot6.stored (.slice r2 u.steps.length e2) (.bool u.attr) (.string u.uri) (.string u.loc) hblk6 (Nat.ne_of_lt hGG)
            obtain ⟨⟨c0, c1, c2, c3⟩, ⟨f0, f1, f2, f3⟩⟩ := t_cells hblk6
            have ST := Lib.hid (And.intro hbx7 (And.intro hot7 hu7))
            have HGE := Lib.hid (And.intro hG2 hGG)
            clear hat6 hnn6 hb6 hblk6 hbx6 hot6 hu7 hbx7 hot7 SU t0 t1 t2 t3 hG2 hGG
            go_upto_region 13 with fail
            change Code.wp _ _ _ _ (setT w6 w3.heap.size (.slice r2 u.steps.length e2) (.bool u.attr) (.string u.uri) (.string u.loc))
            generalize setT w6 w3.heap.size (.slice r2 u.steps.length e2) (.bool u.attr) (.string u.uri) (.string u.loc) = w7 at *
            generalize w3.heap.size = G2 at *
            clear c0 c1 c2 c3 f0 f1 f2 f3
            obtain ⟨u0, u1, u2, u3⟩ := ST.out.2.2.box
            obtain ⟨t0, t1, t2, t3⟩ := ST.out.2.1.box
            go_wp2_with (fail)
            with_reducible (refine (UUT.out _ _ _ (ST.out.2.2.lies) (ST.out.2.1.lies)).mono ?_)
            rintro e5 w8 ⟨rfl, hb5⟩
            have SU := Lib.hid (And.intro (ST.out.1.far hb5) (And.intro (ST.out.2.1.far hb5) (ST.out.2.2.far hb5)))
            clear hb5 u0 u1 u2 u3 t0 t1 t2 t3 ST
            have ST := SU
            clear SU
            obtain ⟨u0, u1, u2, u3⟩ := ST.out.2.2.box
            obtain ⟨t0, t1, t2, t3⟩ := ST.out.2.1.box
            go_wp2_with (fail)
            with_reducible (refine (CUT.out _ _ _ (ST.out.2.2.lies) (ST.out.2.1.lies)).mono ?_)
            rintro e5 w9 ⟨rfl, hb5⟩
            have SU := Lib.hid (And.intro (ST.out.1.far hb5) (And.intro (ST.out.2.1.far hb5) (ST.out.2.2.far hb5)))
            clear hb5 u0 u1 u2 u3 t0 t1 t2 t3 ST
            have ST := SU
            clear SU
            obtain ⟨u0, u1, u2, u3⟩ := ST.out.2.2.box
            obtain ⟨t0, t1, t2, t3⟩ := ST.out.2.1.box
            rw [HU1.out] at u1
            have hne : G2 ≠ G := (Nat.ne_of_lt HGE.out.2).symm
            have hbt := ST.out.2.1.blk
            have hu8 := ST.out.2.2.stored (.slice r2 u.steps.length e2) (.bool u.attr) (.string u.uri) (.string u.loc) hbt hne
            have hb8 := ST.out.1.stored (.slice r2 u.steps.length e2) (.bool u.attr) (.string u.uri) (.string u.loc) HG1.out
            have hal := t_alloc_own hu8.lies hu8.nn
            have hb9 := hb8.far ((Below.refl _ _).alloc (Nat.le_refl _) (.cells #[.slice r2 u.steps.length e2, .bool u.attr, .string u.uri, .string u.loc] 26))
            have h8z : w1.heap.size ≤ (setT w9 G (.slice r2 u.steps.length e2) (.bool u.attr) (.string u.uri) (.string u.loc)).heap.size := hb8.below.size
            have ht8 := setT_row (.slice r2 u.steps.length e2) (.bool u.attr) (.string u.uri) (.string u.loc) hbt
            obtain ⟨⟨d0, d1, d2, d3⟩, ⟨f0, f1, f2, f3⟩⟩ := t_cells hbt
            obtain ⟨⟨g0, g1, g2, g3⟩, -⟩ := t_cells ht8
            have HQ := Lib.hid (And.intro hb9 (And.intro hal h8z))
            rw [HU1.out] at g1
            clear hbt hu8 hb8 hal hb9 h8z ht8 t0 t1 t2 t3
            go_upto_region 16 with fail
            change Code.wp _ _ _ _ (setT w9 G (.slice r2 u.steps.length e2) (.bool false) (.string u.uri) (.string u.loc))
            rw [HU1.out] at HQ g0 g2 g3
            generalize setT w9 G (.slice r2 u.steps.length e2) (.bool false) (.string u.uri) (.string u.loc) = w10 at *
            go_wp2_with (fail)
            go_roundw
            case rel => exact ⟨n + 1, true, _, r2, e2, u, by go_num, rfl, rfl, by omega, Lib.hid ⟨HQ.out.1, HQ.out.2.1, HQ.out.2.2, HUF.out.1, fun _ => by have := HUF.out.2 (by simp); omega, fun e => (by cases e)⟩⟩
            case measure => simp [intOf]; omega
        · rw [hv] at UBT hov
          have hba := hov.out rfl
          rw [hba] at UBA
          clear hov hv hba
          cases k
          · have HUF := Lib.hid (And.intro HF3.out HF4.out)
            clear HF1 HF3 HF4 HHU
            obtain ⟨a0, a1, a2, a3⟩ := ST.out.1.one
            obtain ⟨b0, b1, b2, b3⟩ := ST.out.1.two
            obtain ⟨t0, t1, t2, t3⟩ := ST.out.2.box
            go_wp2_with (fail)
            with_reducible (refine (UTA.out _ (ST.out.2.lies) (HA.out _ (t_cat HB1.out ST.out.1.below))).mono ?_)
            rintro e5 w2 ⟨rfl, hb5⟩
            have SU := Lib.hid (And.intro (ST.out.1.far hb5) (ST.out.2.far hb5))
            clear hb5 a0 a1 a2 a3 b0 b1 b2 b3 t0 t1 t2 t3 ST
            have ST := SU
            clear SU
            obtain ⟨a0, a1, a2, a3⟩ := ST.out.1.one
            obtain ⟨b0, b1, b2, b3⟩ := ST.out.1.two
            obtain ⟨t0, t1, t2, t3⟩ := ST.out.2.box
            go_wp2_with (fail)
            with_reducible (refine (UBT.out _ (HB.out _ (t_cat HB1.out ST.out.1.below)) (ST.out.2.lies)).mono ?_)
            rintro e5 w3 ⟨rfl, hb5⟩
            have SU := Lib.hid (And.intro (ST.out.1.far hb5) (ST.out.2.far hb5))
            clear hb5 a0 a1 a2 a3 b0 b1 b2 b3 t0 t1 t2 t3 ST
            have ST := SU
            clear SU
            obtain ⟨a0, a1, a2, a3⟩ := ST.out.1.one
            obtain ⟨b0, b1, b2, b3⟩ := ST.out.1.two
            obtain ⟨t0, t1, t2, t3⟩ := ST.out.2.box
            go_wp2_with (fail)
            with_reducible (refine (UBA.out _ (HB.out _ (t_cat HB1.out ST.out.1.below)) (HA.out _ (t_cat HB1.out ST.out.1.below))).mono ?_)
            rintro e5 w4 ⟨rfl, hb5⟩
            have SU := Lib.hid (And.intro (ST.out.1.far hb5) (ST.out.2.far hb5))
            clear hb5 a0 a1 a2 a3 b0 b1 b2 b3 t0 t1 t2 t3 ST
            have ST := SU
            clear SU
            obtain ⟨a0, a1, a2, a3⟩ := ST.out.1.one
            obtain ⟨b0, b1, b2, b3⟩ := ST.out.1.two
            obtain ⟨t0, t1, t2, t3⟩ := ST.out.2.box
            have hal := (Below.refl w4.heap.size w4).alloc (Nat.le_refl _) (.cells #[.slice none 0 0, .bool false, .string ⟨#[]⟩, .string ⟨#[]⟩] 26)
            have SU := Lib.hid (And.intro (ST.out.1.far hal) (And.intro (ST.out.2.far hal) (t_one w4 (.cells #[.slice none 0 0, .bool false, .string ⟨#[]⟩, .string ⟨#[]⟩] 26))))
            have hG2 : w1.heap.size ≤ w4.heap.size := ST.out.1.below.size
            have hGG : G < w4.heap.size := ST.out.2.lt
            clear a0 a1 a2 a3 b0 b1 b2 b3 t0 t1 t2 t3 ST hal
            obtain ⟨t0, t1, t2, t3⟩ := SU.out.2.1.box
            go_wp2_with (fail)
            refine (UPC.out _ SU.out.2.1.lies SU.out.2.1.nn).mono ?_
            rintro e6 w6 ⟨r2, e2, rfl, hat6, hnn6, hb6⟩
            have hblk6 := (hb6.block _ (by simp)).trans SU.out.2.2
            have hbx6 := SU.out.1.far hb6
            have hot6 := SU.out.2.1.far hb6
            have hu7 := OwnT.laid hat6 hnn6 hblk6
            have hbx7 := hbx6.stored (.slice r2 u.steps.length e2) (.bool u.attr) (.string u.uri) (.string u.loc) hG2
            have hot7 := hot6.stored (.slice r2 u.steps.length e2) (.bool u.attr) (.string u.uri) (.string u.loc) hblk6 (Nat.ne_of_lt hGG)
            obtain ⟨⟨c0, c1, c2, c3⟩, ⟨f0, f1, f2, f3⟩⟩ := t_cells hblk6
            have ST := Lib.hid (And.intro hbx7 (And.intro hot7 hu7))
            have HGE := Lib.hid (And.intro hG2 hGG)
            clear hat6 hnn6 hb6 hblk6 hbx6 hot6 hu7 hbx7 hot7 SU t0 t1 t2 t3 hG2 hGG
            go_upto_region 13 with fail
            change Code.wp _ _ _ _ (setT w6 w4.heap.size (.slice r2 u.steps.length e2) (.bool u.attr) (.string u.uri) (.string u.loc))
            generalize setT w6 w4.heap.size (.slice r2 u.steps.length e2) (.bool u.attr) (.string u.uri) (.string u.loc) = w7 at *
            generalize w4.heap.size = G2 at *
            clear c0 c1 c2 c3 f0 f1 f2 f3
            obtain ⟨u0, u1, u2, u3⟩ := ST.out.2.2.box
            obtain ⟨t0, t1, t2, t3⟩ := ST.out.2.1.box
            rw [HU1.out] at u1
            have hne : G2 ≠ G := (Nat.ne_of_lt HGE.out.2).symm
            have hbt := ST.out.2.1.blk
            have hu8 := ST.out.2.2.stored (.slice r2 u.steps.length e2) (.bool u.attr) (.string u.uri) (.string u.loc) hbt hne
            have hb8 := ST.out.1.stored (.slice r2 u.steps.length e2) (.bool u.attr) (.string u.uri) (.string u.loc) HG1.out
            have hal := t_alloc_own hu8.lies hu8.nn
            have hb9 := hb8.far ((Below.refl _ _).alloc (Nat.le_refl _) (.cells #[.slice r2 u.steps.length e2, .bool u.attr, .string u.uri, .string u.loc] 26))
            have h8z : w1.heap.size ≤ (setT w7 G (.slice r2 u.steps.length e2) (.bool u.attr) (.string u.uri) (.string u.loc)).heap.size := hb8.below.size
            have ht8 := setT_row (.slice r2 u.steps.length e2) (.bool u.attr) (.string u.uri) (.string u.loc) hbt
            obtain ⟨⟨d0, d1, d2, d3⟩, ⟨f0, f1, f2, f3⟩⟩ := t_cells hbt
            obtain ⟨⟨g0, g1, g2, g3⟩, -⟩ := t_cells ht8
            have HQ := Lib.hid (And.intro hb9 (And.intro hal h8z))
            rw [HU1.out] at g1
            clear hbt hu8 hb8 hal hb9 h8z ht8 t0 t1 t2 t3
            go_upto_region 16 with fail
            change Code.wp _ _ _ _ (setT w7 G (.slice r2 u.steps.length e2) (.bool false) (.string u.uri) (.string u.loc))
            rw [HU1.out] at HQ g0 g2 g3
            generalize setT w7 G (.slice r2 u.steps.length e2) (.bool false) (.string u.uri) (.string u.loc) = w10 at *
            go_wp2_with (fail)
            go_roundw
            case rel => exact ⟨n + 1, false, _, r2, e2, u, by go_num, rfl, rfl, by omega, Lib.hid ⟨HQ.out.1, HQ.out.2.1, HQ.out.2.2, HUF.out.1, fun e => (by cases e), fun _ => by have := HUF.out.2 (by simp); omega⟩⟩
            case measure => simp [intOf]; omega
          · have hx := HF1.out rfl
            rw [hx.1] at UUT
            rw [hx.2.1] at CUT
            have HUF := Lib.hid (And.intro HF3.out (fun _ : true = true => hx.2.2))
            clear HF1 HF3 HF4 HHU hx
            obtain ⟨a0, a1, a2, a3⟩ := ST.out.1.one
            obtain ⟨b0, b1, b2, b3⟩ := ST.out.1.two
            obtain ⟨t0, t1, t2, t3⟩ := ST.out.2.box
            go_wp2_with (fail)
            with_reducible (refine (UTA.out _ (ST.out.2.lies) (HA.out _ (t_cat HB1.out ST.out.1.below))).mono ?_)
            rintro e5 w2 ⟨rfl, hb5⟩
            have SU := Lib.hid (And.intro (ST.out.1.far hb5) (ST.out.2.far hb5))
            clear hb5 a0 a1 a2 a3 b0 b1 b2 b3 t0 t1 t2 t3 ST
            have ST := SU
            clear SU
            obtain ⟨a0, a1, a2, a3⟩ := ST.out.1.one
            obtain ⟨b0, b1, b2, b3⟩ := ST.out.1.two
            obtain ⟨t0, t1, t2, t3⟩ := ST.out.2.box
            go_wp2_with (fail)
            with_reducible (refine (UBT.out _ (HB.out _ (t_cat HB1.out ST.out.1.below)) (ST.out.2.lies)).mono ?_)
            rintro e5 w3 ⟨rfl, hb5⟩
            have SU := Lib.hid (And.intro (ST.out.1.far hb5) (ST.out.2.far hb5))
            clear hb5 a0 a1 a2 a3 b0 b1 b2 b3 t0 t1 t2 t3 ST
            have ST := SU
            clear SU
            obtain ⟨a0, a1, a2, a3⟩ := ST.out.1.one
            obtain ⟨b0, b1, b2, b3⟩ := ST.out.1.two
            obtain ⟨t0, t1, t2, t3⟩ := ST.out.2.box
            go_wp2_with (fail)
            with_reducible (refine (UBA.out _ (HB.out _ (t_cat HB1.out ST.out.1.below)) (HA.out _ (t_cat HB1.out ST.out.1.below))).mono ?_)
            rintro e5 w4 ⟨rfl, hb5⟩
            have SU := Lib.hid (And.intro (ST.out.1.far hb5) (ST.out.2.far hb5))
            clear hb5 a0 a1 a2 a3 b0 b1 b2 b3 t0 t1 t2 t3 ST
            have ST := SU
            clear SU
            obtain ⟨a0, a1, a2, a3⟩ := ST.out.1.one
            obtain ⟨b0, b1, b2, b3⟩ := ST.out.1.two
            obtain ⟨t0, t1, t2, t3⟩ := ST.out.2.box
            have hal := (Below.refl w4.heap.size w4).alloc (Nat.le_refl _) (.cells #[.slice none 0 0, .bool false, .string ⟨#[]⟩, .string ⟨#[]⟩] 26)
            have SU := Lib.hid (And.intro (ST.out.1.far hal) (And.intro (ST.out.2.far hal) (t_one w4 (.cells #[.slice none 0 0, .bool false, .string ⟨#[]⟩, .string ⟨#[]⟩] 26))))
            have hG2 : w1.heap.size ≤ w4.heap.size := ST.out.1.below.size
            have hGG : G < w4.heap.size := ST.out.2.lt
            clear a0 a1 a2 a3 b0 b1 b2 b3 t0 t1 t2 t3 ST hal
            obtain ⟨t0, t1, t2, t3⟩ := SU.out.2.1.box
            go_wp2_with (fail)
            refine (UPC.out _ SU.out.2.1.lies SU.out.2.1.nn).mono ?_
            rintro e6 w6 ⟨r2, e2, rfl, hat6, hnn6, hb6⟩
            have hblk6 := (hb6.block _ (by simp)).trans SU.out.2.2
            have hbx6 := SU.out.1.far hb6
            have hot6 := SU.out.2.1.far hb6
            have hu7 := OwnT.laid hat6 hnn6 hblk6
            have hbx7 := hbx6.stored (.slice r2 u.steps.length e2) (.bool u.attr) (.string u.uri) (.string u.loc) hG2
            have hot7 := hot6.stored (.slice r2 u.steps.length e2) (.bool u.attr) (.string u.uri) (.string u.loc) hblk6 (Nat.ne_of_lt hGG)
            obtain ⟨⟨c0, c1, c2, c3⟩, ⟨f0, f1, f2, f3⟩⟩ := t_cells hblk6
            have ST := Lib.hid (And.intro hbx7 (And.intro hot7 hu7))
            have HGE := Lib.hid (And.intro hG2 hGG)
            clear hat6 hnn6 hb6 hblk6 hbx6 hot6 hu7 hbx7 hot7 SU t0 t1 t2 t3 hG2 hGG
            go_upto_region 13 with fail
            change Code.wp _ _ _ _ (setT w6 w4.heap.size (.slice r2 u.steps.length e2) (.bool u.attr) (.string u.uri) (.string u.loc))
            generalize setT w6 w4.heap.size (.slice r2 u.steps.length e2) (.bool u.attr) (.string u.uri) (.string u.loc) = w7 at *
            generalize w4.heap.size = G2 at *
            clear c0 c1 c2 c3 f0 f1 f2 f3
            obtain ⟨u0, u1, u2, u3⟩ := ST.out.2.2.box
            obtain ⟨t0, t1, t2, t3⟩ := ST.out.2.1.box
            go_wp2_with (fail)
            with_reducible (refine (UUT.out _ _ _ (ST.out.2.2.lies) (ST.out.2.1.lies)).mono ?_)
            rintro e5 w8 ⟨rfl, hb5⟩
            have SU := Lib.hid (And.intro (ST.out.1.far hb5) (And.intro (ST.out.2.1.far hb5) (ST.out.2.2.far hb5)))
            clear hb5 u0 u1 u2 u3 t0 t1 t2 t3 ST
            have ST := SU
            clear SU
            obtain ⟨u0, u1, u2, u3⟩ := ST.out.2.2.box
            obtain ⟨t0, t1, t2, t3⟩ := ST.out.2.1.box
            go_wp2_with (fail)
            with_reducible (refine (CUT.out _ _ _ (ST.out.2.2.lies) (ST.out.2.1.lies)).mono ?_)
            rintro e5 w9 ⟨rfl, hb5⟩
            have SU := Lib.hid (And.intro (ST.out.1.far hb5) (And.intro (ST.out.2.1.far hb5) (ST.out.2.2.far hb5)))
            clear hb5 u0 u1 u2 u3 t0 t1 t2 t3 ST
            have ST := SU
            clear SU
            obtain ⟨u0, u1, u2, u3⟩ := ST.out.2.2.box
            obtain ⟨t0, t1, t2, t3⟩ := ST.out.2.1.box
            rw [HU1.out] at u1
            have hne : G2 ≠ G := (Nat.ne_of_lt HGE.out.2).symm
            have hbt := ST.out.2.1.blk
            have hu8 := ST.out.2.2.stored (.slice r2 u.steps.length e2) (.bool u.attr) (.string u.uri) (.string u.loc) hbt hne
            have hb8 := ST.out.1.stored (.slice r2 u.steps.length e2) (.bool u.attr) (.string u.uri) (.string u.loc) HG1.out
            have hal := t_alloc_own hu8.lies hu8.nn
            have hb9 := hb8.far ((Below.refl _ _).alloc (Nat.le_refl _) (.cells #[.slice r2 u.steps.length e2, .bool u.attr, .string u.uri, .string u.loc] 26))
            have h8z : w1.heap.size ≤ (setT w9 G (.slice r2 u.steps.length e2) (.bool u.attr) (.string u.uri) (.string u.loc)).heap.size := hb8.below.size
            have ht8 := setT_row (.slice r2 u.steps.length e2) (.bool u.attr) (.string u.uri) (.string u.loc) hbt
            obtain ⟨⟨d0, d1, d2, d3⟩, ⟨f0, f1, f2, f3⟩⟩ := t_cells hbt
            obtain ⟨⟨g0, g1, g2, g3⟩, -⟩ := t_cells ht8
            have HQ := Lib.hid (And.intro hb9 (And.intro hal h8z))
            rw [HU1.out] at g1
            clear hbt hu8 hb8 hal hb9 h8z ht8 t0 t1 t2 t3
            go_upto_region 16 with fail
            change Code.wp _ _ _ _ (setT w9 G (.slice r2 u.steps.length e2) (.bool false) (.string u.uri) (.string u.loc))
            rw [HU1.out] at HQ g0 g2 g3
            generalize setT w9 G (.slice r2 u.steps.length e2) (.bool false) (.string u.uri) (.string u.loc) = w10 at *
            go_wp2_with (fail)
            go_roundw
            case rel => exact ⟨n + 1, true, _, r2, e2, u, by go_num, rfl, rfl, by omega, Lib.hid ⟨HQ.out.1, HQ.out.2.1, HQ.out.2.2, HUF.out.1, fun _ => by have := HUF.out.2 (by simp); omega, fun e => (by cases e)⟩⟩
            case measure => simp [intOf]; omega
end Go.Proofs.YtpcdcndniibalaaDoor
