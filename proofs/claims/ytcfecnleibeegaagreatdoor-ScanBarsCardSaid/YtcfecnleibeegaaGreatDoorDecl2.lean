/- Proved here: what isVersion, isEncoding, isStandalone answer. -/
import Derived.Test.YtcfecnleibeegaaGreatDoorDecl
import Derived.Test.YtcfecnleibeegaaGreatDoorName
namespace Go.Proofs.YtcfecnleibeegaaGreatDoor
open Go.RowKit

set_option maxHeartbeats 1000000 in
theorem version_any (s : ByteArray) (w : World) (hs : s.size ≤ 4194304) : Calls Tryz.prog 70 #[.string s] w fun e w' => e = .returned (.bool (versionB s)) ∧ w = w' := by
  have C := Tryz.strings_CutPrefix s ⟨#[49, 46]⟩ w
  obtain ⟨r, hr⟩ : ∃ r, versionB s = r := ⟨_, rfl⟩
  rw [hr]
  have hl : (⟨#[49, 46]⟩ : ByteArray).data.toList = [49, 46] := rfl
  rw [hl] at C
  cases hp : Lib.hasPrefix s.data.toList [49, 46]
  · rw [hp] at C
    have hrr : false = r := by rw [← hr]; unfold versionB; rw [hp]; rfl
    subst hrr
    have CH := Lib.hid C
    clear C hp hr hl
    go_enter Tryz.func70, Tryz.ntmps70
    go_wp2_with (fail)
    refine CH.out.mono ?_
    rintro e w' ⟨rfl, rfl⟩
    go_wp2_with (fail)
    go_ret
    exact ⟨rfl, rfl⟩
  · have ht : Lib.trimPrefix s.data.toList [49, 46] = s.data.toList.drop 2 := by
      unfold Lib.trimPrefix
      rw [hp]
      rfl
    rw [hp, ht] at C
    obtain ⟨d, hd⟩ : ∃ d : ByteArray, ⟨(s.data.toList.drop 2).toArray⟩ = d := ⟨_, rfl⟩
    have hdl : d.data.toList = s.data.toList.drop 2 := by rw [← hd]
    have hds : d.size = s.size - 2 := by
      have h1 := congrArg List.length hdl
      simpa using h1
    rw [hd] at C
    have hrr : (decide (2 < s.size) && d.data.toList.all digitB) = r := by rw [← hr]; unfold versionB; rw [hp, hdl]; rfl
    have D := Lib.hid (fun W => digits_any d W (by omega))
    have CH := Lib.hid C
    have HR := Lib.hid hrr
    clear C hp hr hl ht hd hdl hrr
    by_cases h2 : 2 < s.size
    · have ht := str_ne (s := d) (by omega)
      have hnb : (!d.toList.isEmpty) = true := by rw [ht]; rfl
      have hz : ¬ d.toList = [] := by
        intro e
        rw [e] at ht
        cases ht
      have hx : d.data.toList.all digitB = r := by rw [← HR.out, decide_eq_true h2]; rfl
      rw [hx] at D
      clear hx HR h2 hds hs
      go_enter Tryz.func70, Tryz.ntmps70
      go_wp2_with (fail)
      refine CH.out.mono ?_
      rintro e w' ⟨rfl, rfl⟩
      go_wp2_with (go_at_call 90; refine (D.out _).mono ?_; rintro e w' ⟨rfl, rfl⟩)
      go_ret
      exact ⟨rfl, rfl⟩
    · have hdz : d = ⟨#[]⟩ := by
        apply ByteArray.ext
        exact Array.eq_empty_of_size_eq_zero (show d.size = 0 by omega)
      have hrr : false = r := by rw [← HR.out, decide_eq_false h2]; rfl
      subst hdz hrr
      clear HR h2 hds hs D
      go_enter Tryz.func70, Tryz.ntmps70
      go_wp2_with (fail)
      refine CH.out.mono ?_
      rintro e w' ⟨rfl, rfl⟩
      go_wp2_with (fail)
      go_ret
      exact ⟨rfl, rfl⟩
set_option maxHeartbeats 1000000 in
theorem encode_any (s : ByteArray) (w : World) (hs : s.size ≤ 4194304) : Calls Tryz.prog 71 #[.string s] w fun e w' => e = .returned (.bool (encodingB s)) ∧ w = w' := by
  obtain ⟨r, hr⟩ : ∃ r, encodingB s = r := ⟨_, rfl⟩
  rw [hr]
  have D := Lib.hid (fun W => encs_any s W hs)
  by_cases h0 : 0 < s.size
  · have ht := str_ne h0
    have hnb : (!s.toList.isEmpty) = true := by rw [ht]; rfl
    have hz : ¬ s.toList = [] := by
      intro e
      rw [e] at ht
      cases ht
    have L := fun W => isLetter_any (((s[0]'h0).toNat : Int)) W
    have hb := get!_of s 0 h0
    have hx : s[0]'h0 = s.get! 0 := by
      have h2 : s.data.toList[0]? = some (s[0]'h0) := by rw [List.getElem?_eq_getElem (by simpa using h0)]; simp; rfl
      rw [h2] at hb
      exact Option.some.inj hb
    have hl : letZ (((s[0]'h0).toNat : Int)) = letterB (s.get! 0) := by rw [let_is, hx]
    rw [hl] at L
    have hrr : (letterB (s.get! 0) && s.data.toList.all fun c => letterB c || digitB c || c == 46 || c == 95 || c == 45) = r := by rw [← hr]; unfold encodingB; rw [decide_eq_true h0]; rfl
    have LH := Lib.hid L
    have HR := Lib.hid hrr
    clear hb hx hl L hr hrr hs
    cases hc : letterB (s.get! 0)
    · rw [hc] at LH
      have hrr : false = r := by rw [← HR.out, hc]; rfl
      subst hrr
      clear hc HR
      go_enter Tryz.func71, Tryz.ntmps71
      go_wp2_with (go_at_call 92; refine (LH.out _).mono ?_; rintro e w' ⟨rfl, rfl⟩)
      go_ret
      exact ⟨rfl, rfl⟩
    · rw [hc] at LH
      have hx := HR.out
      rw [hc, Bool.true_and] at hx
      rw [hx] at D
      clear hc HR hx
      go_enter Tryz.func71, Tryz.ntmps71
      go_wp2_with (first | (go_at_call 92; refine (LH.out _).mono ?_; rintro e w' ⟨rfl, rfl⟩) | (go_at_call 90; refine (D.out _).mono ?_; rintro e w' ⟨rfl, rfl⟩))
      go_ret
      exact ⟨rfl, rfl⟩
  · have hdz : s = ⟨#[]⟩ := by
      apply ByteArray.ext
      exact Array.eq_empty_of_size_eq_zero (show s.size = 0 by omega)
    have hrr : false = r := by rw [← hr]; unfold encodingB; rw [decide_eq_false h0]; rfl
    subst hdz hrr
    clear hr D h0 hs
    go_enter Tryz.func71, Tryz.ntmps71
    go_wp2_with (fail)
    go_ret
    exact ⟨rfl, rfl⟩
theorem str_dec (s : ByteArray) (l : List UInt8) : decide (s = ⟨l.toArray⟩) = (s.toList == l) := by
  rw [Bool.eq_iff_iff, decide_eq_true_eq, beq_iff_eq, Lib.toList_data]
  constructor
  · rintro rfl
    rfl
  · intro e
    apply ByteArray.ext
    exact Array.ext' e
theorem alone_eq (s : ByteArray) : aloneB s = ((s.toList == [121, 101, 115]) || (s.toList == [110, 111])) := by
  unfold aloneB
  rw [← str_dec, ← str_dec]
theorem alone_any (s : ByteArray) (w : World) : Calls Tryz.prog 72 #[.string s] w fun e w' => e = .returned (.bool (aloneB s)) ∧ w = w' := by
  obtain ⟨r, hr⟩ : ∃ r, aloneB s = r := ⟨_, rfl⟩
  rw [hr]
  have HR := Lib.hid hr
  clear hr
  go_enter Tryz.func72, Tryz.ntmps72
  go_wp2
  all_goals go_ret
  all_goals exact ⟨ret_bool (by rw [← HR.out, alone_eq]; simp_all), rfl⟩
end Go.Proofs.YtcfecnleibeegaaGreatDoor
