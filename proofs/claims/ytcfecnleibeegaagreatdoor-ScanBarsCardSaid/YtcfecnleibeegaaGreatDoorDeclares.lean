/- Proved here: the reader's declares: whether a declaration begins there. -/
import Derived.Test.YtcfecnleibeegaaGreatDoorClosing
namespace Go.Proofs.YtcfecnleibeegaaGreatDoor
open Go.RowKit

def OPN : ByteArray := ⟨#[60, 63, 120, 109, 108]⟩
set_option maxHeartbeats 1000000 in
theorem declares_any (t : ByteArray) (b off cap R k : Nat) (w0 w : World) (E : Env w0 R b off cap t) (hB : Below w0.heap.size w0 w) (h : Rd w R (rv b off cap t) k) (hk : k ≤ t.size) :
    Calls Tryz.prog 47 #[.pointer (some ⟨R, 0, none⟩)] w fun e w' => e = .returned (.bool (opensB t k)) ∧ Below w.heap.size w w' := by
  obtain ⟨r, hr⟩ : ∃ r, opensB t k = r := ⟨_, rfl⟩
  rw [hr]
  have h1 := h.place
  have H := Lib.hid h
  by_cases hz : k = 0
  · subst hz
    have S := sees_any t ⟨#[60, 63, 120, 109, 108]⟩ b off cap R 0 w h hk (E.at_ hB).room (E.at_ hB).cells
    rw [show (⟨#[60, 63, 120, 109, 108]⟩ : ByteArray).data.toList = [60, 63, 120, 109, 108] from rfl] at S
    have ha : ((0 : Nat) : Int) = 0 := rfl
    rw [ha] at h1
    clear ha
    cases hs : seesB t 0 [60, 63, 120, 109, 108]
    · rw [hs] at S
      have hrr : false = r := by rw [← hr]; unfold opensB; rw [hs]; rfl
      subst hrr
      have SH := Lib.hid S
      clear S hs hr h E hB hk
      go_enter Tryz.func47, Tryz.ntmps47
      go_wp2_with (fail)
      refine SH.out.mono ?_
      rintro e w1 ⟨rfl, hb⟩
      go_wp2_with (fail)
      go_ret
      exact ⟨rfl, hb⟩
    · rw [hs] at S
      have SH := Lib.hid S
      have HX := Lib.hid (E.at_ hB)
      have hrr : (decide (5 < t.size) && isB (t.get! 5)) = r := by rw [← hr]; unfold opensB; rw [hs]; rfl
      have HR := Lib.hid hrr
      clear S hs hr h E hB hk hrr
      by_cases h5 : 5 < t.size
      · have hlt : ((t.size : Int) > 5) := by omega
        have hlb : decide ((5 : Int) < (t.size : Int)) = true := decide_eq_true (by omega)
        have B := Lib.hid (fun W => isBlank_any (by_ t 5) W)
        rw [isBZ_is] at B
        have hr2 := HR.out
        rw [decide_eq_true h5, Bool.true_and] at hr2
        rw [hr2] at B
        have c5 := HX.out.cells 5 h5
        have HT := Lib.hid HX.out.room
        generalize by_ t 5 = x at *
        clear hr2 HR h5
        go_enter Tryz.func47, Tryz.ntmps47
        go_wp2_with (fail)
        refine SH.out.mono ?_
        rintro e w1 ⟨rfl, hb⟩
        have g0 := (H.out.below hb).text
        have d5 := hb_cell hb c5
        go_wp2_with (fail)
        refine (B.out _).mono ?_
        rintro e w2 ⟨rfl, rfl⟩
        go_wp2_with (fail)
        go_ret
        exact ⟨rfl, hb⟩
      · have hlb : decide ((5 : Int) < (t.size : Int)) = false := decide_eq_false (by omega)
        have hln : ¬ (5 : Int) < (t.size : Int) := by omega
        have hrr : false = r := by rw [← HR.out, decide_eq_false h5]; rfl
        subst hrr
        clear HR h5
        go_enter Tryz.func47, Tryz.ntmps47
        go_wp2_with (fail)
        refine SH.out.mono ?_
        rintro e w1 ⟨rfl, hb⟩
        have g0 := (H.out.below hb).text
        go_wp2_with (fail)
        go_ret
        exact ⟨rfl, hb⟩
  · have hrr : false = r := by rw [← hr]; unfold opensB; rw [decide_eq_false hz]; rfl
    subst hrr
    have hzb : ((k : Int) == 0) = false := by rw [beq_eq_false_iff_ne]; omega
    have hzn : ¬ (k : Int) = 0 := by omega
    clear hr h E hB hk hz
    go_enter Tryz.func47, Tryz.ntmps47
    go_wp2_with (fail)
    go_ret
    exact ⟨rfl, Below.refl _ _⟩
end Go.Proofs.YtcfecnleibeegaaGreatDoor
