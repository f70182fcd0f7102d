/- Proved here: what the small functions of the declaration answer (isDigit, isLetter, madeOf, isVersion, isEncoding, isStandalone). -/
import Derived.Test.YtcfecnleibeegaaGreatDoorPair
import Derived.Test.YtcfecnleibeegaaGreatDoorShelfS
namespace Go.Proofs.YtcfecnleibeegaaGreatDoor
open Go.RowKit

def digZZ (x : Int) : Bool := decide (48 ≤ x ∧ x ≤ 57)
def letZ (x : Int) : Bool := decide ((97 ≤ x ∧ x ≤ 122) ∨ (65 ≤ x ∧ x ≤ 90))
def encI (x : Int) : Bool := letZ x || digZZ x || decide (x = 46) || decide (x = 95) || decide (x = 45)
theorem isDigit_any (x : Int) (w : World) : Calls Tryz.prog 91 #[.int .u8 x] w fun e w' => e = .returned (.bool (digZZ x)) ∧ w = w' := by
  obtain ⟨p, hp⟩ : ∃ p, digZZ x = p := ⟨_, rfl⟩
  have HP := Lib.hid hp
  rw [hp]; clear hp
  go_enter Tryz.func91, Tryz.ntmps91
  go_wp2
  all_goals go_ret
  all_goals refine ⟨ret_bool ?_, rfl⟩
  all_goals ((rw [← HP.out]; unfold digZZ; rw [Bool.eq_iff_iff]; first | (simp_all; done) | (simp_all; omega)))
theorem isLetter_any (x : Int) (w : World) : Calls Tryz.prog 92 #[.int .u8 x] w fun e w' => e = .returned (.bool (letZ x)) ∧ w = w' := by
  obtain ⟨p, hp⟩ : ∃ p, letZ x = p := ⟨_, rfl⟩
  have HP := Lib.hid hp
  rw [hp]; clear hp
  go_enter Tryz.func92, Tryz.ntmps92
  go_wp2
  all_goals go_ret
  all_goals refine ⟨ret_bool ?_, rfl⟩
  all_goals ((rw [← HP.out]; unfold letZ; rw [Bool.eq_iff_iff]; first | (simp_all; done) | (simp_all; omega)))
theorem isEnc_any (x : Int) (w : World) : Calls Tryz.prog 93 #[.int .u8 x] w fun e w' => e = .returned (.bool (encI x)) ∧ w = w' := by
  obtain ⟨p, hp⟩ : ∃ p, encI x = p := ⟨_, rfl⟩
  have HP := Lib.hid hp
  obtain ⟨l, hl⟩ : ∃ l, letZ x = l := ⟨_, rfl⟩
  obtain ⟨d, hd⟩ : ∃ d, digZZ x = d := ⟨_, rfl⟩
  have HL := Lib.hid hl
  have HD := Lib.hid hd
  have L := Lib.hid (fun W => isLetter_any x W)
  have D := Lib.hid (fun W => isDigit_any x W)
  rw [hl] at L
  rw [hd] at D
  rw [hp]; clear hp hl hd
  cases l <;> cases d
  all_goals
    go_enter Tryz.func93, Tryz.ntmps93
    go_wp2_with (first | (go_at_call 92; refine (L.out _).mono ?_; rintro e w' ⟨rfl, rfl⟩) | (go_at_call 91; refine (D.out _).mono ?_; rintro e w' ⟨rfl, rfl⟩))
    all_goals go_ret
    all_goals refine ⟨ret_bool ?_, rfl⟩
    all_goals ((rw [← HP.out]; unfold encI; rw [HL.out, HD.out]; first | (simp_all; done) | (simp_all; rw [Bool.eq_iff_iff]; simp)))
set_option maxRecDepth 100000 in
set_option maxHeartbeats 1000000 in
theorem made_digit (s : ByteArray) (p : UInt8 → Bool) (w : World) (hs : s.size ≤ 4194304) (hF : ∀ (c : UInt8) W, Calls Tryz.prog 91 #[.int .u8 (c.toNat : Int)] W fun e w' => e = .returned (.bool (p c)) ∧ W = w') :
    Calls Tryz.prog 90 #[.string s, .func (.func 91) #[] #[]] w fun e w' => e = .returned (.bool (s.data.toList.all p)) ∧ w = w' := by
  obtain ⟨r, hr⟩ : ∃ r, s.data.toList.all p = r := ⟨_, rfl⟩
  have HR := Lib.hid hr
  have HF := Lib.hid hF
  rw [hr]; clear hr hF
  go_enter Tryz.func90, Tryz.ntmps90
  go_wp2_with (fail)
  go_loop [8] (fun i => ∃ k : Nat, k ≤ s.size ∧ i = .int .i64 k ∧ (s.data.toList.drop k).all p = r) (fun i => s.size - (intOf i).toNat)
  case atStart => exact ⟨0, Nat.zero_le _, rfl, by rw [List.drop_zero]; exact HR.out⟩
  case round =>
    obtain ⟨k, hk, rfl, hd⟩ := hrel
    by_cases hlt : k < s.size
    · have hdr := drop_at s k hlt
      rw [hdr, List.all_cons] at hd
      have HD := Lib.hid hd
      have C := Lib.hid (HF.out (s.get! k))
      have hb := get!_of s k hlt
      have hx : ((s[k]'hlt).toNat : Int) = ((s.get! k).toNat : Int) := by
        have h2 : s.data.toList[k]? = some (s[k]'hlt) := by rw [List.getElem?_eq_getElem (by simpa using hlt)]; simp; rfl
        rw [h2] at hb
        injection hb with hb
        rw [hb]
      rw [← hx] at C
      clear hd hdr hb hx
      cases hp : p (s.get! k)
      · rw [hp] at C
        have HP := Lib.hid hp
        clear hp
        go_wp2_with (fail)
        refine (C.out _).mono ?_
        rintro e w' ⟨rfl, rfl⟩
        go_wp2_with (fail)
        go_ret
        exact ⟨ret_bool (by rw [← HD.out, HP.out]; rfl), rfl⟩
      · rw [hp] at C
        have HP := Lib.hid hp
        clear hp
        go_wp2_with (fail)
        refine (C.out _).mono ?_
        rintro e w' ⟨rfl, rfl⟩
        go_wp2_with (fail)
        go_round
        case rel => exact ⟨k + 1, by omega, by go_num, by rw [← HD.out, HP.out]; rfl⟩
        case measure => simp [intOf]; omega
    · have hr : r = true := by
        rw [← hd, List.drop_eq_nil_of_le (by simp; omega)]
        rfl
      clear hd
      go_wp2_with (fail)
      go_ret
      subst hr
      exact ⟨rfl, rfl⟩
set_option maxRecDepth 100000 in
set_option maxHeartbeats 1000000 in
theorem made_enc (s : ByteArray) (p : UInt8 → Bool) (w : World) (hs : s.size ≤ 4194304) (hF : ∀ (c : UInt8) W, Calls Tryz.prog 93 #[.int .u8 (c.toNat : Int)] W fun e w' => e = .returned (.bool (p c)) ∧ W = w') :
    Calls Tryz.prog 90 #[.string s, .func (.func 93) #[] #[]] w fun e w' => e = .returned (.bool (s.data.toList.all p)) ∧ w = w' := by
  obtain ⟨r, hr⟩ : ∃ r, s.data.toList.all p = r := ⟨_, rfl⟩
  have HR := Lib.hid hr
  have HF := Lib.hid hF
  rw [hr]; clear hr hF
  go_enter Tryz.func90, Tryz.ntmps90
  go_wp2_with (fail)
  go_loop [8] (fun i => ∃ k : Nat, k ≤ s.size ∧ i = .int .i64 k ∧ (s.data.toList.drop k).all p = r) (fun i => s.size - (intOf i).toNat)
  case atStart => exact ⟨0, Nat.zero_le _, rfl, by rw [List.drop_zero]; exact HR.out⟩
  case round =>
    obtain ⟨k, hk, rfl, hd⟩ := hrel
    by_cases hlt : k < s.size
    · have hdr := drop_at s k hlt
      rw [hdr, List.all_cons] at hd
      have HD := Lib.hid hd
      have C := Lib.hid (HF.out (s.get! k))
      have hb := get!_of s k hlt
      have hx : ((s[k]'hlt).toNat : Int) = ((s.get! k).toNat : Int) := by
        have h2 : s.data.toList[k]? = some (s[k]'hlt) := by rw [List.getElem?_eq_getElem (by simpa using hlt)]; simp; rfl
        rw [h2] at hb
        injection hb with hb
        rw [hb]
      rw [← hx] at C
      clear hd hdr hb hx
      cases hp : p (s.get! k)
      · rw [hp] at C
        have HP := Lib.hid hp
        clear hp
        go_wp2_with (fail)
        refine (C.out _).mono ?_
        rintro e w' ⟨rfl, rfl⟩
        go_wp2_with (fail)
        go_ret
        exact ⟨ret_bool (by rw [← HD.out, HP.out]; rfl), rfl⟩
      · rw [hp] at C
        have HP := Lib.hid hp
        clear hp
        go_wp2_with (fail)
        refine (C.out _).mono ?_
        rintro e w' ⟨rfl, rfl⟩
        go_wp2_with (fail)
        go_round
        case rel => exact ⟨k + 1, by omega, by go_num, by rw [← HD.out, HP.out]; rfl⟩
        case measure => simp [intOf]; omega
    · have hr : r = true := by
        rw [← hd, List.drop_eq_nil_of_le (by simp; omega)]
        rfl
      clear hd
      go_wp2_with (fail)
      go_ret
      subst hr
      exact ⟨rfl, rfl⟩
theorem dig_is (c : UInt8) : digZZ (c.toNat : Int) = digitB c := by
  unfold digZZ digitB
  rw [Bool.eq_iff_iff, decide_eq_true_eq, decide_eq_true_eq]
  omega
theorem let_is (c : UInt8) : letZ (c.toNat : Int) = letterB c := by
  unfold letZ letterB
  rw [Bool.eq_iff_iff, decide_eq_true_eq, decide_eq_true_eq]
  omega
theorem eq_is (c : UInt8) (n : Nat) (hn : n < 256) : decide ((c.toNat : Int) = (n : Int)) = (c == UInt8.ofNat n) := by
  rw [Bool.eq_iff_iff, decide_eq_true_eq, beq_iff_eq]
  constructor
  · intro e
    have e2 : c.toNat = n := by omega
    rw [← e2]
    simp
  · rintro rfl
    rw [UInt8.toNat_ofNat']
    omega
theorem enc_is (c : UInt8) : encI (c.toNat : Int) = (letterB c || digitB c || c == 46 || c == 95 || c == 45) := by
  unfold encI
  rw [let_is, dig_is, show (46 : Int) = ((46 : Nat) : Int) from rfl, show (95 : Int) = ((95 : Nat) : Int) from rfl, show (45 : Int) = ((45 : Nat) : Int) from rfl, eq_is c 46 (by decide), eq_is c 95 (by decide), eq_is c 45 (by decide)]
  rfl
theorem digits_any (s : ByteArray) (w : World) (hs : s.size ≤ 4194304) : Calls Tryz.prog 90 #[.string s, .func (.func 91) #[] #[]] w fun e w' => e = .returned (.bool (s.data.toList.all digitB)) ∧ w = w' :=
  made_digit s digitB w hs fun c W => (isDigit_any _ W).mono fun e w' h => ⟨by rw [h.1, dig_is], h.2⟩
theorem encs_any (s : ByteArray) (w : World) (hs : s.size ≤ 4194304) : Calls Tryz.prog 90 #[.string s, .func (.func 93) #[] #[]] w fun e w' => e = .returned (.bool (s.data.toList.all fun c => letterB c || digitB c || c == 46 || c == 95 || c == 45)) ∧ w = w' :=
  made_enc s _ w hs fun c W => (isEnc_any _ W).mono fun e w' h => ⟨by rw [h.1, enc_is], h.2⟩
end Go.Proofs.YtcfecnleibeegaaGreatDoor
