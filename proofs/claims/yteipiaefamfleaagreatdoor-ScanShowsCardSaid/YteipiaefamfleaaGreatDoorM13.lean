/- Proved here: the reader's declares: whether a declaration begins there. | Proved here: what the small functions of the declaration answer (isDigit, isLetter, madeOf, isVersion, isEncoding, isStandalone). | Proved here: what isVersion, isEncoding, isStandalone answer. -/
import Derived.Test.YteipiaefamfleaaGreatDoorM9
import Derived.Test.YteipiaefamfleaaGreatDoorShelfS
import Derived.Test.YteipiaefamfleaaGreatDoorM3
namespace Go.Proofs.YteipiaefamfleaaGreatDoor
open Go.RowKit

def OPN : ByteArray := ⟨#[60, 63, 120, 109, 108]⟩
set_option maxHeartbeats 1000000 in
theorem declares_any (t : ByteArray) (b off cap R k : Nat) (w0 w : World) (E : Env w0 R b off cap t) (hB : Below w0.heap.size w0 w) (h : Rd w R (rv b off cap t) k) (hk : k ≤ t.size) :
    Calls Tryz.prog 25 #[.pointer (some ⟨R, 0, none⟩)] w fun e w' => e = .returned (.bool (opensB t k)) ∧ Below w.heap.size w w' := by
  obtain ⟨r, hr⟩ : ∃ r, opensB t k = r := ⟨_, rfl⟩
  rw [hr]
  have h1 := h.place
  have H := Lib.hid h
  by_cases hz : k = 0
  · subst hz
    have S := sees_any t ⟨#[60, 63, 120, 109, 108]⟩ b off cap R 0 w h hk (E.at_ hB).room (E.at_ hB).cells
    rw [show (⟨#[60, 63, 120, 109, 108]⟩ : ByteArray).data.toList = [60, 63, 120, 109, 108] from rfl] at S
    have ha : ((0 : Nat) : Int) = 0 := rfl
    rw [ha] at h1
    clear ha
    cases hs : seesB t 0 [60, 63, 120, 109, 108]
    · rw [hs] at S
      have hrr : false = r := by rw [← hr]; unfold opensB; rw [hs]; rfl
      subst hrr
      have SH := Lib.hid S
      clear S hs hr h E hB hk
      go_enter Tryz.func25, Tryz.ntmps25
      go_wp2_with (fail)
      refine SH.out.mono ?_
      rintro e w1 ⟨rfl, hb⟩
      go_wp2_with (fail)
      go_ret
      exact ⟨rfl, hb⟩
    · rw [hs] at S
      have SH := Lib.hid S
      have HX := Lib.hid (E.at_ hB)
      have hrr : (decide (5 < t.size) && isB (t.get! 5)) = r := by rw [← hr]; unfold opensB; rw [hs]; rfl
      have HR := Lib.hid hrr
      clear S hs hr h E hB hk hrr
      by_cases h5 : 5 < t.size
      · have hlt : ((t.size : Int) > 5) := by omega
        have hlb : decide ((5 : Int) < (t.size : Int)) = true := decide_eq_true (by omega)
        have B := Lib.hid (fun W => isBlank_any (by_ t 5) W)
        rw [isBZ_is] at B
        have hr2 := HR.out
        rw [decide_eq_true h5, Bool.true_and] at hr2
        rw [hr2] at B
        have c5 := HX.out.cells 5 h5
        have HT := Lib.hid HX.out.room
        generalize by_ t 5 = x at *
        clear hr2 HR h5
        go_enter Tryz.func25, Tryz.ntmps25
        go_wp2_with (fail)
        refine SH.out.mono ?_
        rintro e w1 ⟨rfl, hb⟩
        have g0 := (H.out.below hb).text
        have d5 := hb_cell hb c5
        go_wp2_with (fail)
        refine (B.out _).mono ?_
        rintro e w2 ⟨rfl, rfl⟩
        go_wp2_with (fail)
        go_ret
        exact ⟨rfl, hb⟩
      · have hlb : decide ((5 : Int) < (t.size : Int)) = false := decide_eq_false (by omega)
        have hln : ¬ (5 : Int) < (t.size : Int) := by omega
        have hrr : false = r := by rw [← HR.out, decide_eq_false h5]; rfl
        subst hrr
        clear HR h5
        go_enter Tryz.func25, Tryz.ntmps25
        go_wp2_with (fail)
        refine SH.out.mono ?_
        rintro e w1 ⟨rfl, hb⟩
        have g0 := (H.out.below hb).text
        go_wp2_with (fail)
        go_ret
        exact ⟨rfl, hb⟩
  · have hrr : false = r := by rw [← hr]; unfold opensB; rw [decide_eq_false hz]; rfl
    subst hrr
    have hzb : ((k : Int) == 0) = false := by rw [beq_eq_false_iff_ne]; omega
    have hzn : ¬ (k : Int) = 0 := by omega
    clear hr h E hB hk hz
    go_enter Tryz.func25, Tryz.ntmps25
    go_wp2_with (fail)
    go_ret
    exact ⟨rfl, Below.refl _ _⟩
end Go.Proofs.YteipiaefamfleaaGreatDoor
namespace Go.Proofs.YteipiaefamfleaaGreatDoor
open Go.RowKit

def digZZ (x : Int) : Bool := decide (48 ≤ x ∧ x ≤ 57)
def letZ (x : Int) : Bool := decide ((97 ≤ x ∧ x ≤ 122) ∨ (65 ≤ x ∧ x ≤ 90))
def encI (x : Int) : Bool := letZ x || digZZ x || decide (x = 46) || decide (x = 95) || decide (x = 45)
theorem isDigit_any (x : Int) (w : World) : Calls Tryz.prog 57 #[.int .u8 x] w fun e w' => e = .returned (.bool (digZZ x)) ∧ w = w' := by
  obtain ⟨p, hp⟩ : ∃ p, digZZ x = p := ⟨_, rfl⟩
  have HP := Lib.hid hp
  rw [hp]; clear hp
  go_enter Tryz.func57, Tryz.ntmps57
  go_wp2
  all_goals go_ret
  all_goals refine ⟨ret_bool ?_, rfl⟩
  all_goals ((rw [← HP.out]; unfold digZZ; rw [Bool.eq_iff_iff]; first | (simp_all; done) | (simp_all; omega)))
theorem isLetter_any (x : Int) (w : World) : Calls Tryz.prog 58 #[.int .u8 x] w fun e w' => e = .returned (.bool (letZ x)) ∧ w = w' := by
  obtain ⟨p, hp⟩ : ∃ p, letZ x = p := ⟨_, rfl⟩
  have HP := Lib.hid hp
  rw [hp]; clear hp
  go_enter Tryz.func58, Tryz.ntmps58
  go_wp2
  all_goals go_ret
  all_goals refine ⟨ret_bool ?_, rfl⟩
  all_goals ((rw [← HP.out]; unfold letZ; rw [Bool.eq_iff_iff]; first | (simp_all; done) | (simp_all; omega)))
theorem isEnc_any (x : Int) (w : World) : Calls Tryz.prog 59 #[.int .u8 x] w fun e w' => e = .returned (.bool (encI x)) ∧ w = w' := by
  obtain ⟨p, hp⟩ : ∃ p, encI x = p := ⟨_, rfl⟩
  have HP := Lib.hid hp
  obtain ⟨l, hl⟩ : ∃ l, letZ x = l := ⟨_, rfl⟩
  obtain ⟨d, hd⟩ : ∃ d, digZZ x = d := ⟨_, rfl⟩
  have HL := Lib.hid hl
  have HD := Lib.hid hd
  have L := Lib.hid (fun W => isLetter_any x W)
  have D := Lib.hid (fun W => isDigit_any x W)
  rw [hl] at L
  rw [hd] at D
  rw [hp]; clear hp hl hd
  cases l <;> cases d
  all_goals
    go_enter Tryz.func59, Tryz.ntmps59
    go_wp2_with (first | (go_at_call 58; refine (L.out _).mono ?_; rintro e w' ⟨rfl, rfl⟩) | (go_at_call 57; refine (D.out _).mono ?_; rintro e w' ⟨rfl, rfl⟩))
    all_goals go_ret
    all_goals refine ⟨ret_bool ?_, rfl⟩
    all_goals ((rw [← HP.out]; unfold encI; rw [HL.out, HD.out]; first | (simp_all; done) | (simp_all; rw [Bool.eq_iff_iff]; simp)))
set_option maxRecDepth 100000 in
set_option maxHeartbeats 1000000 in
theorem made_digit (s : ByteArray) (p : UInt8 → Bool) (w : World) (hs : s.size ≤ 4194304) (hF : ∀ (c : UInt8) W, Calls Tryz.prog 57 #[.int .u8 (c.toNat : Int)] W fun e w' => e = .returned (.bool (p c)) ∧ W = w') :
    Calls Tryz.prog 56 #[.string s, .func (.func 57) #[] #[]] w fun e w' => e = .returned (.bool (s.data.toList.all p)) ∧ w = w' := by
  obtain ⟨r, hr⟩ : ∃ r, s.data.toList.all p = r := ⟨_, rfl⟩
  have HR := Lib.hid hr
  have HF := Lib.hid hF
  rw [hr]; clear hr hF
  go_enter Tryz.func56, Tryz.ntmps56
  go_wp2_with (fail)
  go_loop [8] (fun i => ∃ k : Nat, k ≤ s.size ∧ i = .int .i64 k ∧ (s.data.toList.drop k).all p = r) (fun i => s.size - (intOf i).toNat)
  case atStart => exact ⟨0, Nat.zero_le _, rfl, by rw [List.drop_zero]; exact HR.out⟩
  case round =>
    obtain ⟨k, hk, rfl, hd⟩ := hrel
    by_cases hlt : k < s.size
    · have hdr := drop_at s k hlt
      rw [hdr, List.all_cons] at hd
      have HD := Lib.hid hd
      have C := Lib.hid (HF.out (s.get! k))
      have hb := get!_of s k hlt
      have hx : ((s[k]'hlt).toNat : Int) = ((s.get! k).toNat : Int) := by
        have h2 : s.data.toList[k]? = some (s[k]'hlt) := by rw [List.getElem?_eq_getElem (by simpa using hlt)]; simp; rfl
        rw [h2] at hb
        injection hb with hb
        rw [hb]
      rw [← hx] at C
      clear hd hdr hb hx
      cases hp : p (s.get! k)
      · rw [hp] at C
        have HP := Lib.hid hp
        clear hp
        go_wp2_with (fail)
        refine (C.out _).mono ?_
        rintro e w' ⟨rfl, rfl⟩
        go_wp2_with (fail)
        go_ret
        exact ⟨ret_bool (by rw [← HD.out, HP.out]; rfl), rfl⟩
      · rw [hp] at C
        have HP := Lib.hid hp
        clear hp
        go_wp2_with (fail)
        refine (C.out _).mono ?_
        rintro e w' ⟨rfl, rfl⟩
        go_wp2_with (fail)
        go_round
        case rel => exact ⟨k + 1, by omega, by go_num, by rw [← HD.out, HP.out]; rfl⟩
        case measure => simp [intOf]; omega
    · have hr : r = true := by
        rw [← hd, List.drop_eq_nil_of_le (by simp; omega)]
        rfl
      clear hd
      go_wp2_with (fail)
      go_ret
      subst hr
      exact ⟨rfl, rfl⟩
set_option maxRecDepth 100000 in
set_option maxHeartbeats 1000000 in
theorem made_enc (s : ByteArray) (p : UInt8 → Bool) (w : World) (hs : s.size ≤ 4194304) (hF : ∀ (c : UInt8) W, Calls Tryz.prog 59 #[.int .u8 (c.toNat : Int)] W fun e w' => e = .returned (.bool (p c)) ∧ W = w') :
    Calls Tryz.prog 56 #[.string s, .func (.func 59) #[] #[]] w fun e w' => e = .returned (.bool (s.data.toList.all p)) ∧ w = w' := by
  obtain ⟨r, hr⟩ : ∃ r, s.data.toList.all p = r := ⟨_, rfl⟩
  have HR := Lib.hid hr
  have HF := Lib.hid hF
  rw [hr]; clear hr hF
  go_enter Tryz.func56, Tryz.ntmps56
  go_wp2_with (fail)
  go_loop [8] (fun i => ∃ k : Nat, k ≤ s.size ∧ i = .int .i64 k ∧ (s.data.toList.drop k).all p = r) (fun i => s.size - (intOf i).toNat)
  case atStart => exact ⟨0, Nat.zero_le _, rfl, by rw [List.drop_zero]; exact HR.out⟩
  case round =>
    obtain ⟨k, hk, rfl, hd⟩ := hrel
    by_cases hlt : k < s.size
    · have hdr := drop_at s k hlt
      rw [hdr, List.all_cons] at hd
      have HD := Lib.hid hd
      have C := Lib.hid (HF.out (s.get! k))
      have hb := get!_of s k hlt
      have hx : ((s[k]'hlt).toNat : Int) = ((s.get! k).toNat : Int) := by
        have h2 : s.data.toList[k]? = some (s[k]'hlt) := by rw [List.getElem?_eq_getElem (by simpa using hlt)]; simp; rfl
        rw [h2] at hb
        injection hb with hb
        rw [hb]
      rw [← hx] at C
      clear hd hdr hb hx
      cases hp : p (s.get! k)
      · rw [hp] at C
        have HP := Lib.hid hp
        clear hp
        go_wp2_with (fail)
        refine (C.out _).mono ?_
        rintro e w' ⟨rfl, rfl⟩
        go_wp2_with (fail)
        go_ret
        exact ⟨ret_bool (by rw [← HD.out, HP.out]; rfl), rfl⟩
      · rw [hp] at C
        have HP := Lib.hid hp
        clear hp
        go_wp2_with (fail)
        refine (C.out _).mono ?_
        rintro e w' ⟨rfl, rfl⟩
        go_wp2_with (fail)
        go_round
        case rel => exact ⟨k + 1, by omega, by go_num, by rw [← HD.out, HP.out]; rfl⟩
        case measure => simp [intOf]; omega
    · have hr : r = true := by
        rw [← hd, List.drop_eq_nil_of_le (by simp; omega)]
        rfl
      clear hd
      go_wp2_with (fail)
      go_ret
      subst hr
      exact ⟨rfl, rfl⟩
theorem dig_is (c : UInt8) : digZZ (c.toNat : Int) = digitB c := by
  unfold digZZ digitB
  rw [Bool.eq_iff_iff, decide_eq_true_eq, decide_eq_true_eq]
  omega
theorem let_is (c : UInt8) : letZ (c.toNat : Int) = letterB c := by
  unfold letZ letterB
  rw [Bool.eq_iff_iff, decide_eq_true_eq, decide_eq_true_eq]
  omega
theorem eq_is (c : UInt8) (n : Nat) (hn : n < 256) : decide ((c.toNat : Int) = (n : Int)) = (c == UInt8.ofNat n) := by
  rw [Bool.eq_iff_iff, decide_eq_true_eq, beq_iff_eq]
  constructor
  · intro e
    have e2 : c.toNat = n := by omega
    rw [← e2]
    simp
  · rintro rfl
    rw [UInt8.toNat_ofNat']
    omega
theorem enc_is (c : UInt8) : encI (c.toNat : Int) = (letterB c || digitB c || c == 46 || c == 95 || c == 45) := by
  unfold encI
  rw [let_is, dig_is, show (46 : Int) = ((46 : Nat) : Int) from rfl, show (95 : Int) = ((95 : Nat) : Int) from rfl, show (45 : Int) = ((45 : Nat) : Int) from rfl, eq_is c 46 (by decide), eq_is c 95 (by decide), eq_is c 45 (by decide)]
  rfl
theorem digits_any (s : ByteArray) (w : World) (hs : s.size ≤ 4194304) : Calls Tryz.prog 56 #[.string s, .func (.func 57) #[] #[]] w fun e w' => e = .returned (.bool (s.data.toList.all digitB)) ∧ w = w' :=
  made_digit s digitB w hs fun c W => (isDigit_any _ W).mono fun e w' h => ⟨by rw [h.1, dig_is], h.2⟩
theorem encs_any (s : ByteArray) (w : World) (hs : s.size ≤ 4194304) : Calls Tryz.prog 56 #[.string s, .func (.func 59) #[] #[]] w fun e w' => e = .returned (.bool (s.data.toList.all fun c => letterB c || digitB c || c == 46 || c == 95 || c == 45)) ∧ w = w' :=
  made_enc s _ w hs fun c W => (isEnc_any _ W).mono fun e w' h => ⟨by rw [h.1, enc_is], h.2⟩
end Go.Proofs.YteipiaefamfleaaGreatDoor
namespace Go.Proofs.YteipiaefamfleaaGreatDoor
open Go.RowKit

set_option maxHeartbeats 1000000 in
theorem version_any (s : ByteArray) (w : World) (hs : s.size ≤ 4194304) : Calls Tryz.prog 40 #[.string s] w fun e w' => e = .returned (.bool (versionB s)) ∧ w = w' := by
  have C := Tryz.strings_CutPrefix s ⟨#[49, 46]⟩ w
  obtain ⟨r, hr⟩ : ∃ r, versionB s = r := ⟨_, rfl⟩
  rw [hr]
  have hl : (⟨#[49, 46]⟩ : ByteArray).data.toList = [49, 46] := rfl
  rw [hl] at C
  cases hp : Lib.hasPrefix s.data.toList [49, 46]
  · rw [hp] at C
    have hrr : false = r := by rw [← hr]; unfold versionB; rw [hp]; rfl
    subst hrr
    have CH := Lib.hid C
    clear C hp hr hl
    go_enter Tryz.func40, Tryz.ntmps40
    go_wp2_with (fail)
    refine CH.out.mono ?_
    rintro e w' ⟨rfl, rfl⟩
    go_wp2_with (fail)
    go_ret
    exact ⟨rfl, rfl⟩
  · have ht : Lib.trimPrefix s.data.toList [49, 46] = s.data.toList.drop 2 := by
      unfold Lib.trimPrefix
      rw [hp]
      rfl
    rw [hp, ht] at C
    obtain ⟨d, hd⟩ : ∃ d : ByteArray, ⟨(s.data.toList.drop 2).toArray⟩ = d := ⟨_, rfl⟩
    have hdl : d.data.toList = s.data.toList.drop 2 := by rw [← hd]
    have hds : d.size = s.size - 2 := by
      have h1 := congrArg List.length hdl
      simpa using h1
    rw [hd] at C
    have hrr : (decide (2 < s.size) && d.data.toList.all digitB) = r := by rw [← hr]; unfold versionB; rw [hp, hdl]; rfl
    have D := Lib.hid (fun W => digits_any d W (by omega))
    have CH := Lib.hid C
    have HR := Lib.hid hrr
    clear C hp hr hl ht hd hdl hrr
    by_cases h2 : 2 < s.size
    · have ht := str_ne (s := d) (by omega)
      have hnb : (!d.toList.isEmpty) = true := by rw [ht]; rfl
      have hz : ¬ d.toList = [] := by
        intro e
        rw [e] at ht
        cases ht
      have hx : d.data.toList.all digitB = r := by rw [← HR.out, decide_eq_true h2]; rfl
      rw [hx] at D
      clear hx HR h2 hds hs
      go_enter Tryz.func40, Tryz.ntmps40
      go_wp2_with (fail)
      refine CH.out.mono ?_
      rintro e w' ⟨rfl, rfl⟩
      go_wp2_with (go_at_call 56; refine (D.out _).mono ?_; rintro e w' ⟨rfl, rfl⟩)
      go_ret
      exact ⟨rfl, rfl⟩
    · have hdz : d = ⟨#[]⟩ := by
        apply ByteArray.ext
        exact Array.eq_empty_of_size_eq_zero (show d.size = 0 by omega)
      have hrr : false = r := by rw [← HR.out, decide_eq_false h2]; rfl
      subst hdz hrr
      clear HR h2 hds hs D
      go_enter Tryz.func40, Tryz.ntmps40
      go_wp2_with (fail)
      refine CH.out.mono ?_
      rintro e w' ⟨rfl, rfl⟩
      go_wp2_with (fail)
      go_ret
      exact ⟨rfl, rfl⟩
set_option maxHeartbeats 1000000 in
theorem encode_any (s : ByteArray) (w : World) (hs : s.size ≤ 4194304) : Calls Tryz.prog 41 #[.string s] w fun e w' => e = .returned (.bool (encodingB s)) ∧ w = w' := by
  obtain ⟨r, hr⟩ : ∃ r, encodingB s = r := ⟨_, rfl⟩
  rw [hr]
  have D := Lib.hid (fun W => encs_any s W hs)
  by_cases h0 : 0 < s.size
  · have ht := str_ne h0
    have hnb : (!s.toList.isEmpty) = true := by rw [ht]; rfl
    have hz : ¬ s.toList = [] := by
      intro e
      rw [e] at ht
      cases ht
    have L := fun W => isLetter_any (((s[0]'h0).toNat : Int)) W
    have hb := get!_of s 0 h0
    have hx : s[0]'h0 = s.get! 0 := by
      have h2 : s.data.toList[0]? = some (s[0]'h0) := by rw [List.getElem?_eq_getElem (by simpa using h0)]; simp; rfl
      rw [h2] at hb
      exact Option.some.inj hb
    have hl : letZ (((s[0]'h0).toNat : Int)) = letterB (s.get! 0) := by rw [let_is, hx]
    rw [hl] at L
    have hrr : (letterB (s.get! 0) && s.data.toList.all fun c => letterB c || digitB c || c == 46 || c == 95 || c == 45) = r := by rw [← hr]; unfold encodingB; rw [decide_eq_true h0]; rfl
    have LH := Lib.hid L
    have HR := Lib.hid hrr
    clear hb hx hl L hr hrr hs
    cases hc : letterB (s.get! 0)
    · rw [hc] at LH
      have hrr : false = r := by rw [← HR.out, hc]; rfl
      subst hrr
      clear hc HR
      go_enter Tryz.func41, Tryz.ntmps41
      go_wp2_with (go_at_call 58; refine (LH.out _).mono ?_; rintro e w' ⟨rfl, rfl⟩)
      go_ret
      exact ⟨rfl, rfl⟩
    · rw [hc] at LH
      have hx := HR.out
      rw [hc, Bool.true_and] at hx
      rw [hx] at D
      clear hc HR hx
      go_enter Tryz.func41, Tryz.ntmps41
      go_wp2_with (first | (go_at_call 58; refine (LH.out _).mono ?_; rintro e w' ⟨rfl, rfl⟩) | (go_at_call 56; refine (D.out _).mono ?_; rintro e w' ⟨rfl, rfl⟩))
      go_ret
      exact ⟨rfl, rfl⟩
  · have hdz : s = ⟨#[]⟩ := by
      apply ByteArray.ext
      exact Array.eq_empty_of_size_eq_zero (show s.size = 0 by omega)
    have hrr : false = r := by rw [← hr]; unfold encodingB; rw [decide_eq_false h0]; rfl
    subst hdz hrr
    clear hr D h0 hs
    go_enter Tryz.func41, Tryz.ntmps41
    go_wp2_with (fail)
    go_ret
    exact ⟨rfl, rfl⟩
theorem str_dec (s : ByteArray) (l : List UInt8) : decide (s = ⟨l.toArray⟩) = (s.toList == l) := by
  rw [Bool.eq_iff_iff, decide_eq_true_eq, beq_iff_eq, Lib.toList_data]
  constructor
  · rintro rfl
    rfl
  · intro e
    apply ByteArray.ext
    exact Array.ext' e
theorem alone_eq (s : ByteArray) : aloneB s = ((s.toList == [121, 101, 115]) || (s.toList == [110, 111])) := by
  unfold aloneB
  rw [← str_dec, ← str_dec]
theorem alone_any (s : ByteArray) (w : World) : Calls Tryz.prog 42 #[.string s] w fun e w' => e = .returned (.bool (aloneB s)) ∧ w = w' := by
  obtain ⟨r, hr⟩ : ∃ r, aloneB s = r := ⟨_, rfl⟩
  rw [hr]
  have HR := Lib.hid hr
  clear hr
  go_enter Tryz.func42, Tryz.ntmps42
  go_wp2
  all_goals go_ret
  all_goals exact ⟨ret_bool (by rw [← HR.out, alone_eq]; simp_all), rfl⟩
end Go.Proofs.YteipiaefamfleaaGreatDoor
