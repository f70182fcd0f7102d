/- Proved here: the document's Same answers true of two tokens that are the same but for their places. | Proved here: what the document's letter, digit and allowed answer. -/
import Derived.Test.YtidimpepfkdcmaaGreatDoorM11
import Derived.Deep.QuietTactic
import Derived.BigQuiet
import Derived.Test.YtidimpepfkdcmaaGreatDoorM14
import Derived.Test.YtidimpepfkdcmaaGreatDoorM22
namespace Go.Proofs.YtidimpepfkdcmaaGreatDoor
open Go.RowKit

theorem PCells.below {w W : World} {v : Value} {l : List (ByteArray × ByteArray)} (h : PCells w v l) (hb : Below w.heap.size w W) : PCells W v l := by
  refine ⟨h.1, fun i x hx => ?_⟩
  obtain ⟨g, c, e, hg, h0, h1⟩ := h.2 i x hx
  exact ⟨g, c, e, Nat.lt_of_lt_of_le hg hb.size, hb_cell hb h0, hb_cell hb h1⟩
theorem RPairsAt.cells {w : World} {B : Nat} {v : Value} {l : List (ByteArray × ByteArray)} (h : RPairsAt w B v l) : PCells w v l := by
  refine ⟨h.form, fun i x hx => ?_⟩
  have hil : i < l.length := (List.getElem?_eq_some_iff.1 hx).1
  have hcells := fun g (hv : v.ownBlock = some g) => World.ownsRow.cells h hv
  rcases h.2 with ⟨_, h0⟩ | ⟨g, c, cur, rfl, hb, hg, hlc, hcm, _, _⟩
  · omega
  have go : ∀ k u, k < 2 → ([.string x.1, .string x.2] : List Value)[k]? = some u → w.cell? ⟨g, i * 2 + k, none⟩ = some u := by
    intro k u hk hu
    have hc := hcells g rfl (2 * i + k) u (by
      unfold pairsV
      have fa : ∀ (l : List (ByteArray × ByteArray)) (i : Nat), (l.flatMap fun p => ([.string p.1, .string p.2] : List Value))[2 * i + k]? = (l[i]?).bind fun z => ([.string z.1, .string z.2] : List Value)[k]? := by
        intro l
        induction l with
        | nil => intro i; simp
        | cons z l ih =>
          intro i
          cases i with
          | zero =>
            rw [List.flatMap_cons, Nat.mul_zero, Nat.zero_add, List.getElem?_append_left (by simpa using hk)]
            rfl
          | succ i =>
            rw [List.flatMap_cons, List.getElem?_append_right (by simp; omega), List.length_cons, List.length_cons, List.length_nil, show 2 * (i + 1) + k - (0 + 1 + 1) = 2 * i + k by omega, ih i]
            rfl
      rw [fa, hx]
      exact hu)
    have ha : (⟨g, 0, none⟩ : Addr).add (2 * i + k) = ⟨g, 2 * i + k, none⟩ := by unfold Addr.add; split <;> simp_all
    rw [ha, Nat.mul_comm] at hc
    exact hc
  exact ⟨g, c, rfl, (Array.getElem?_eq_some_iff.1 hg).1, go 0 _ (by omega) rfl, go 1 _ (by omega) rfl⟩
set_option maxHeartbeats 4000000 in
set_option maxRecDepth 100000 in
theorem refSame_yes (k a1 a2 r : Int) (n t : ByteArray) (v1 v2 : Value) (ps : List (ByteArray × ByteArray)) (w : World) (h1 : PCells w v1 ps) (h2 : PCells w v2 ps) (hl : ps.length ≤ 4194304) :
    Calls Tryz.prog 12 #[.agg #[.int .i64 k, .int .i64 a1, .string n, v1, .string t, .int .i64 r], .agg #[.int .i64 k, .int .i64 a2, .string n, v2, .string t, .int .i64 r]] w fun e w' => e = .returned (.bool true) ∧ Below w.heap.size w w' := by
  obtain ⟨⟨q1, c1, rfl⟩, hc1⟩ := h1
  obtain ⟨⟨q2, c2, rfl⟩, hc2⟩ := h2
  have HC := Lib.hid (And.intro hc1 hc2)
  have HL := Lib.hid hl
  clear hc1 hc2 hl
  go_enter Tryz.func12, Tryz.ntmps12
  go_wp2_with (fail)
  obtain ⟨W0, hW0⟩ : ∃ W, (w.alloc (.cells #[.int .i64 k, .int .i64 a1, .string n, .slice q1 ps.length c1, .string t, .int .i64 r] 37)).alloc (.cells #[.int .i64 k, .int .i64 a2, .string n, .slice q2 ps.length c2, .string t, .int .i64 r] 37) = W := ⟨_, rfl⟩
  have z1 : (w.alloc (.cells #[.int .i64 k, .int .i64 a1, .string n, .slice q1 ps.length c1, .string t, .int .i64 r] 37)).heap.size = w.heap.size + 1 := by simp
  have n1 := heap_alloc_new w (.cells #[.int .i64 k, .int .i64 a1, .string n, .slice q1 ps.length c1, .string t, .int .i64 r] 37)
  have n2 := heap_alloc_new (w.alloc (.cells #[.int .i64 k, .int .i64 a1, .string n, .slice q1 ps.length c1, .string t, .int .i64 r] 37)) (.cells #[.int .i64 k, .int .i64 a2, .string n, .slice q2 ps.length c2, .string t, .int .i64 r] 37)
  rw [z1] at n2
  have n1' := (heap_alloc_old _ (.cells #[.int .i64 k, .int .i64 a2, .string n, .slice q2 ps.length c2, .string t, .int .i64 r] 37) (Array.getElem?_eq_some_iff.1 n1).1).trans n1
  have hb0 : Below w.heap.size w W0 := by
    rw [← hW0]
    exact ((Below.refl _ _).alloc (Nat.le_refl _) _).alloc (by simp) _
  rw [hW0] at n2 n1' ⊢
  have b1 := (six_cells n1').1.2.2.2.1
  have b2 := (six_cells n2).1.2.2.2.1
  have H0 := Lib.hid (And.intro hb0 (And.intro b1 b2))
  clear hW0 z1 n1 n2 n1' hb0 b1 b2
  go_loopg [5, 44] ps.length (fun g v5 v44 wr => ∃ i : Nat, v44 = .int .i64 (i : Int) ∧ i + g = ps.length ∧ Below W0.heap.size W0 wr)
  case atStart => exact ⟨0, rfl, by omega, Below.refl _ _⟩
  case round =>
    obtain ⟨i, rfl, hig, hbr⟩ := hrel
    have HIG := Lib.hid hig
    have HBR := Lib.hid hbr
    clear hig hbr
    by_cases hlt : i < ps.length
    · obtain ⟨gn, rfl⟩ : ∃ gn, gk = gn + 1 := ⟨gk - 1, by have := HIG.out; omega⟩
      obtain ⟨x, hx⟩ : ∃ x, ps[i]? = some x := ⟨_, List.getElem?_eq_getElem hlt⟩
      obtain ⟨g1, d1, hq1, hg1, x0, x1⟩ := HC.out.1 i x hx
      obtain ⟨g2, d2, hq2, hg2, y0, y1⟩ := HC.out.2 i x hx
      obtain ⟨rfl, rfl⟩ : q1 = some ⟨g1, 0, none⟩ ∧ c1 = d1 := by
        injection hq1 with h1 _ h3
        exact ⟨h1, h3⟩
      obtain ⟨rfl, rfl⟩ : q2 = some ⟨g2, 0, none⟩ ∧ c2 = d2 := by
        injection hq2 with h1 _ h3
        exact ⟨h1, h3⟩
      have HB2 := below_cat H0.out.1 HBR.out
      have e0 := hb_cell HB2 x0
      have e1 := hb_cell HB2 x1
      have f0 := hb_cell HB2 y0
      have f1 := hb_cell HB2 y1
      have p1 := hb_cell HBR.out H0.out.2.1
      have p2 := hb_cell HBR.out H0.out.2.2
      have hlt2 : (i : Int) < (ps.length : Int) := by omega
      have hi0 : (0 : Int) ≤ (i : Int) := by omega
      clear hx hq1 hq2 hg1 hg2 x0 x1 y0 y1 HB2
      go_upto_region 6 with fail
      go_quiet (fail)
      go_wp2_with (fail)
      all_goals
        go_roundg gn
        case measure => omega
        case rel =>
          go_light
          exact ⟨i + 1, by have := HL.out; rw [show wrap64 ((i : Int) + 1) = ((i + 1 : Nat) : Int) by unfold wrap64; omega], by have := HIG.out; omega, HBR.out.trans ⟨rfl, rfl, rfl, Nat.le_refl _, fun _ _ => rfl⟩⟩
    · go_wp2_with (fail)
      go_ret
      exact ⟨rfl, below_cat H0.out.1 HBR.out⟩
end Go.Proofs.YtidimpepfkdcmaaGreatDoor
namespace Go.Proofs.YtidimpepfkdcmaaGreatDoor
open Go.RowKit

theorem refDigit_any (x : Int) (w : World) : Calls Tryz.prog 75 #[.int .u8 x] w fun e w' => e = .returned (.bool (digZZ x)) ∧ w = w' := by
  obtain ⟨p, hp⟩ : ∃ p, digZZ x = p := ⟨_, rfl⟩
  have HP := Lib.hid hp
  rw [hp]; clear hp
  go_enter Tryz.func75, Tryz.ntmps75
  go_wp2
  all_goals go_ret
  all_goals refine ⟨ret_bool ?_, rfl⟩
  all_goals ((rw [← HP.out]; unfold digZZ; rw [Bool.eq_iff_iff]; first | (simp_all; done) | (simp_all; omega)))
theorem refLetter_any (x : Int) (w : World) : Calls Tryz.prog 74 #[.int .u8 x] w fun e w' => e = .returned (.bool (letZ x)) ∧ w = w' := by
  obtain ⟨p, hp⟩ : ∃ p, letZ x = p := ⟨_, rfl⟩
  have HP := Lib.hid hp
  rw [hp]; clear hp
  go_enter Tryz.func74, Tryz.ntmps74
  go_wp2
  all_goals go_ret
  all_goals refine ⟨ret_bool ?_, rfl⟩
  all_goals ((rw [← HP.out]; unfold letZ; rw [Bool.eq_iff_iff]; first | (simp_all; done) | (simp_all; omega)))
theorem allowed_alone (s : ByteArray) (w : World) : Calls Tryz.prog 48 #[.int .i64 2, .string s] w fun e w' => e = .returned (.bool (aloneB s)) ∧ w = w' := by
  obtain ⟨r, hr⟩ : ∃ r, aloneB s = r := ⟨_, rfl⟩
  rw [hr]
  have HR := Lib.hid hr
  clear hr
  go_enter Tryz.func48, Tryz.ntmps48
  go_wp2
  all_goals go_ret
  all_goals exact ⟨ret_bool (by rw [← HR.out, alone_eq]; simp_all), rfl⟩
theorem byte_at (s : ByteArray) (k : Nat) (h : k < s.size) : letZ (((s[k]'h).toNat : Int)) = letterB (s.get! k) ∧ digZZ (((s[k]'h).toNat : Int)) = digitB (s.get! k) ∧ s.get! k = s[k]'h := by
  have e := idx_get s k h
  rw [let_is, dig_is, e]
  exact ⟨rfl, rfl, rfl⟩
set_option maxRecDepth 100000 in
set_option maxHeartbeats 2000000 in
theorem allowed_version (s : ByteArray) (w : World) (hs : s.size ≤ 4194304) : Calls Tryz.prog 48 #[.int .i64 0, .string s] w fun e w' => e = .returned (.bool (versionB s)) ∧ w = w' := by
  obtain ⟨r, hr⟩ : ∃ r, versionB s = r := ⟨_, rfl⟩
  rw [hr]
  by_cases h3 : s.size < 3
  · have hrr : false = r := by
      rw [← hr]
      unfold versionB
      rw [decide_eq_false (show ¬ 2 < s.size by omega)]
      simp
    subst hrr
    have g1 : (s.size : Int) < 3 := by omega
    clear hr hs h3
    go_enter Tryz.func48, Tryz.ntmps48
    go_wp2_with (fail)
    go_ret
    exact ⟨rfl, rfl⟩
  · have g1 : ¬ (s.size : Int) < 3 := by omega
    have g2 : (2 : Int) ≤ (s.size : Int) := by omega
    have hpre := sees_ext (t := s) (s := ⟨#[49, 46]⟩) (k := 0) (by show 0 + 2 ≤ s.size; omega)
    have hpl : seesB s 0 (⟨#[49, 46]⟩ : ByteArray).data.toList = Lib.hasPrefix s.data.toList [49, 46] := by unfold seesB; rw [List.drop_zero]
    rw [hpl] at hpre
    have hpre2 : ((s.extract 0 2).toList == [49, 46]) = Lib.hasPrefix s.data.toList [49, 46] := by
      rw [show (⟨#[49, 46]⟩ : ByteArray).toList = [49, 46] by rw [Lib.toList_data]] at hpre
      exact hpre
    cases hp : Lib.hasPrefix s.data.toList [49, 46]
    · have hrr : false = r := by
        rw [← hr]
        unfold versionB
        rw [hp]
        rfl
      subst hrr
      rw [hp] at hpre2
      have hpn : ¬ (s.extract 0 2).toList = [49, 46] := by
        intro e
        rw [e] at hpre2
        simp at hpre2
      clear hr hs h3 hpre hpl hp
      go_enter Tryz.func48, Tryz.ntmps48
      go_wp2_with (fail)
      go_ret
      exact ⟨rfl, rfl⟩
    · rw [hp] at hpre2
      have hpy : (s.extract 0 2).toList = [49, 46] := beq_iff_eq.1 hpre2
      have hrr : (s.data.toList.drop 2).all digitB = r := by
        rw [← hr]
        unfold versionB
        rw [hp, decide_eq_true (show 2 < s.size by omega)]
        rfl
      have HR := Lib.hid hrr
      clear hr hpre hpl hp hpre2 hrr
      go_enter Tryz.func48, Tryz.ntmps48
      go_wp2_with (fail)
      go_loop [6] (fun i => ∃ k : Nat, k ≤ s.size ∧ i = .int .i64 k ∧ Hid ((s.data.toList.drop k).all digitB = r)) (fun i => s.size - (intOf i).toNat)
      case atStart => exact ⟨2, by omega, rfl, HR⟩
      case round =>
        obtain ⟨k, hk, rfl, HD⟩ := hrel
        by_cases hlt : k < s.size
        · have hl2 : (k : Int) < (s.size : Int) := by omega
          have hdr := drop_at s k hlt
          have D := Lib.hid (fun W => refDigit_any ((s[k]'hlt).toNat : Int) W)
          rw [(byte_at s k hlt).2.1] at D
          have HD2 := Lib.hid (show (digitB (s.get! k) && (s.data.toList.drop (k + 1)).all digitB) = r by rw [← HD.out, hdr, List.all_cons])
          clear hdr HD
          cases hd : digitB (s.get! k)
          · rw [hd] at D HD2
            clear hd
            go_wp2_with (fail)
            refine (D.out _).mono ?_
            rintro e w' ⟨rfl, rfl⟩
            go_wp2_with (fail)
            go_ret
            exact ⟨ret_bool (by rw [← HD2.out]; rfl), rfl⟩
          · rw [hd] at D HD2
            clear hd
            go_wp2_with (fail)
            refine (D.out _).mono ?_
            rintro e w' ⟨rfl, rfl⟩
            go_wp2_with (fail)
            go_round
            case rel => exact ⟨k + 1, by omega, by go_num, Lib.hid (by rw [← HD2.out]; rfl)⟩
            case measure => simp [intOf]; omega
        · have hrt : r = true := by
            rw [← HD.out, List.drop_eq_nil_of_le (by simp; omega)]
            rfl
          have hl2 : ¬ (k : Int) < (s.size : Int) := by omega
          go_wp2_with (fail)
          go_ret
          subst hrt
          exact ⟨rfl, rfl⟩
def encU (c : UInt8) : Bool := letterB c || digitB c || c == 46 || c == 95 || c == 45
set_option maxRecDepth 100000 in
set_option maxHeartbeats 4000000 in
theorem allowed_encoding (s : ByteArray) (w : World) (hs : s.size ≤ 4194304) : Calls Tryz.prog 48 #[.int .i64 1, .string s] w fun e w' => e = .returned (.bool (encodingB s)) ∧ w = w' := by
  obtain ⟨r, hr⟩ : ∃ r, encodingB s = r := ⟨_, rfl⟩
  rw [hr]
  by_cases h0 : 0 < s.size
  · have ht := str_ne h0
    have hnb : (!s.toList.isEmpty) = true := by rw [ht]; rfl
    have hz : ¬ s.toList = [] := by
      intro e
      rw [e] at ht
      cases ht
    have g0 : (0 : Int) < (s.size : Int) := by omega
    have L0 := Lib.hid (fun W => refLetter_any ((s[0]'h0).toNat : Int) W)
    rw [(byte_at s 0 h0).1] at L0
    have HR := Lib.hid (show (letterB (s.get! 0) && s.data.toList.all encU) = r by rw [← hr]; unfold encodingB; rw [decide_eq_true h0]; rfl)
    clear hr
    cases hc : letterB (s.get! 0)
    · rw [hc] at L0 HR
      clear hc
      go_enter Tryz.func48, Tryz.ntmps48
      go_wp2_with (fail)
      refine (L0.out _).mono ?_
      rintro e w' ⟨rfl, rfl⟩
      go_wp2_with (fail)
      go_ret
      exact ⟨ret_bool (by rw [← HR.out]; rfl), rfl⟩
    · rw [hc, Bool.true_and] at HR
      rw [hc] at L0
      clear hc
      go_enter Tryz.func48, Tryz.ntmps48
      go_wp2_with (fail)
      refine (L0.out _).mono ?_
      rintro e w' ⟨rfl, rfl⟩
      go_wp2_with (fail)
      go_loop [5] (fun i => ∃ k : Nat, k ≤ s.size ∧ i = .int .i64 k ∧ Hid ((s.data.toList.drop k).all encU = r)) (fun i => s.size - (intOf i).toNat)
      case atStart => exact ⟨0, by omega, rfl, Lib.hid (by rw [List.drop_zero]; exact HR.out)⟩
      case round =>
        obtain ⟨k, hk, rfl, HD⟩ := hrel
        by_cases hlt : k < s.size
        · have hl2 : (k : Int) < (s.size : Int) := by omega
          have hdr := drop_at s k hlt
          obtain ⟨ba, bb, bc⟩ := byte_at s k hlt
          have L := Lib.hid (fun W => refLetter_any ((s[k]'hlt).toNat : Int) W)
          have D := Lib.hid (fun W => refDigit_any ((s[k]'hlt).toNat : Int) W)
          rw [ba] at L
          rw [bb] at D
          have HD2 := Lib.hid (show (encU (s.get! k) && (s.data.toList.drop (k + 1)).all encU) = r by rw [← HD.out, hdr, List.all_cons])
          clear hdr HD ba bb
          cases hl : letterB (s.get! k)
          rotate_left
          · have HE := Lib.hid (show encU (s.get! k) = true by unfold encU; rw [hl]; rfl)
            rw [hl] at L
            clear hl bc
            go_wp2_with (fail)
            refine (L.out _).mono ?_
            rintro e w' ⟨rfl, rfl⟩
            go_wp2_with (fail)
            go_round
            case rel => exact ⟨k + 1, by omega, by go_num, Lib.hid (by rw [← HD2.out, HE.out]; rfl)⟩
            case measure => simp [intOf]; omega
          rw [hl] at L
          cases hd : digitB (s.get! k)
          rotate_left
          · have HE := Lib.hid (show encU (s.get! k) = true by unfold encU; rw [hd]; simp)
            rw [hd] at D
            clear hl hd bc
            go_wp2_with (fail)
            refine (L.out _).mono ?_
            rintro e w' ⟨rfl, rfl⟩
            go_wp2_with (fail)
            refine (D.out _).mono ?_
            rintro e w' ⟨rfl, rfl⟩
            go_wp2_with (fail)
            go_round
            case rel => exact ⟨k + 1, by omega, by go_num, Lib.hid (by rw [← HD2.out, HE.out]; rfl)⟩
            case measure => simp [intOf]; omega
          rw [hd] at D
          by_cases h46 : s.get! k = 46
          · have HE := Lib.hid (show encU (s.get! k) = true by unfold encU; rw [h46]; decide)
            have b46 : (((s[k]'hlt).toNat : Int) == 46) = true := by rw [← bc, h46]; rfl
            have m46 : (((s[k]'hlt).toNat : Int) != 46) = false := by rw [bne, b46]; rfl
            clear hl hd bc h46
            go_wp2_with (fail)
            refine (L.out _).mono ?_
            rintro e w' ⟨rfl, rfl⟩
            go_wp2_with (fail)
            refine (D.out _).mono ?_
            rintro e w' ⟨rfl, rfl⟩
            go_wp2_with (fail)
            go_round
            case rel => exact ⟨k + 1, by omega, by go_num, Lib.hid (by rw [← HD2.out, HE.out]; rfl)⟩
            case measure => simp [intOf]; omega
          have b46 : (((s[k]'hlt).toNat : Int) == 46) = false := by rw [beq_eq_false_iff_ne, ← bc]; exact u8_ne (by decide) h46
          have m46 : (((s[k]'hlt).toNat : Int) != 46) = true := by rw [bne, b46]; rfl
          have n46 : ¬ ((s[k]'hlt).toNat : Int) = 46 := by rw [← bc]; exact u8_ne (by decide) h46
          by_cases h95 : s.get! k = 95
          · have HE := Lib.hid (show encU (s.get! k) = true by unfold encU; rw [h95]; decide)
            have b95 : (((s[k]'hlt).toNat : Int) == 95) = true := by rw [← bc, h95]; rfl
            have m95 : (((s[k]'hlt).toNat : Int) != 95) = false := by rw [bne, b95]; rfl
            clear hl hd bc h46 h95
            go_wp2_with (fail)
            refine (L.out _).mono ?_
            rintro e w' ⟨rfl, rfl⟩
            go_wp2_with (fail)
            refine (D.out _).mono ?_
            rintro e w' ⟨rfl, rfl⟩
            go_wp2_with (fail)
            go_round
            case rel => exact ⟨k + 1, by omega, by go_num, Lib.hid (by rw [← HD2.out, HE.out]; rfl)⟩
            case measure => simp [intOf]; omega
          have b95 : (((s[k]'hlt).toNat : Int) == 95) = false := by rw [beq_eq_false_iff_ne, ← bc]; exact u8_ne (by decide) h95
          have m95 : (((s[k]'hlt).toNat : Int) != 95) = true := by rw [bne, b95]; rfl
          have n95 : ¬ ((s[k]'hlt).toNat : Int) = 95 := by rw [← bc]; exact u8_ne (by decide) h95
          by_cases h45 : s.get! k = 45
          · have HE := Lib.hid (show encU (s.get! k) = true by unfold encU; rw [h45]; decide)
            have b45 : (((s[k]'hlt).toNat : Int) == 45) = true := by rw [← bc, h45]; rfl
            have m45 : (((s[k]'hlt).toNat : Int) != 45) = false := by rw [bne, b45]; rfl
            clear hl hd bc h46 h95 h45
            go_wp2_with (fail)
            refine (L.out _).mono ?_
            rintro e w' ⟨rfl, rfl⟩
            go_wp2_with (fail)
            refine (D.out _).mono ?_
            rintro e w' ⟨rfl, rfl⟩
            go_wp2_with (fail)
            go_round
            case rel => exact ⟨k + 1, by omega, by go_num, Lib.hid (by rw [← HD2.out, HE.out]; rfl)⟩
            case measure => simp [intOf]; omega
          have b45 : (((s[k]'hlt).toNat : Int) == 45) = false := by rw [beq_eq_false_iff_ne, ← bc]; exact u8_ne (by decide) h45
          have m45 : (((s[k]'hlt).toNat : Int) != 45) = true := by rw [bne, b45]; rfl
          have n45 : ¬ ((s[k]'hlt).toNat : Int) = 45 := by rw [← bc]; exact u8_ne (by decide) h45
          have HE := Lib.hid (show encU (s.get! k) = false by unfold encU; rw [hl, hd, show (s.get! k == 46) = false from beq_eq_false_iff_ne.2 h46, show (s.get! k == 95) = false from beq_eq_false_iff_ne.2 h95, show (s.get! k == 45) = false from beq_eq_false_iff_ne.2 h45]; rfl)
          clear hl hd bc h46 h95 h45
          go_wp2_with (fail)
          refine (L.out _).mono ?_
          rintro e w' ⟨rfl, rfl⟩
          go_wp2_with (fail)
          refine (D.out _).mono ?_
          rintro e w' ⟨rfl, rfl⟩
          go_wp2_with (fail)
          go_ret
          exact ⟨ret_bool (by rw [← HD2.out, HE.out]; rfl), rfl⟩
        · have hrt : r = true := by
            rw [← HD.out, List.drop_eq_nil_of_le (by simp; omega)]
            rfl
          have hl2 : ¬ (k : Int) < (s.size : Int) := by omega
          go_wp2_with (fail)
          go_ret
          subst hrt
          exact ⟨rfl, rfl⟩
  · have hdz : s = ⟨#[]⟩ := by
      apply ByteArray.ext
      exact Array.eq_empty_of_size_eq_zero (show s.size = 0 by omega)
    have hrr : false = r := by rw [← hr]; unfold encodingB; rw [decide_eq_false h0]; rfl
    subst hdz hrr
    clear hr h0 hs
    go_enter Tryz.func48, Tryz.ntmps48
    go_wp2_with (fail)
    go_ret
    exact ⟨rfl, rfl⟩
end Go.Proofs.YtidimpepfkdcmaaGreatDoor
