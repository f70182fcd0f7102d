/- Proved here: the statement LabelBack, walked: it answers true of every list of numbers and every bytes, in every world. -/
import Derived.Test.YtaiiigknlnhdgaaLabSame
namespace Go.Proofs.Ytaiiigknlnhdgaa
open Go.RowKit

set_option maxRecDepth 100000 in
set_option maxHeartbeats 8000000 in
theorem back_os (p q : Option Addr) (c d : Nat) (l : List Int) (b : List Nat) (w : World) (ll : l.length * 8 ≤ 140737488355328) (lb : b.length ≤ 140737488355328) (cl : l.length ≤ c) (cb : b.length ≤ d)
    (hl : HoldsI w p l) (hb : HoldsU w q b) (bb : ∀ v ∈ b, v < 256) (kl : checkP l = 0) (m : List Int) (kb : readP b = some m) :
    Calls Try.prog 4 #[.slice p l.length c, .slice q b.length d] w fun e w' => e = .returned (.bool true) ∧ Below w.heap.size w w' := by
  have AW := Lib.hid (awake12_any w)
  have BL := Lib.hid (fun W (h : Below w.heap.size w W) => bytes_ok p l c W (by omega) cl (hl.below h) kl)
  have hrp := read_pack kl
  have RL := Lib.hid (fun W q1 d1 (x : HoldsU W q1 (packB (bitsL l))) (y : (packB (bitsL l)).length ≤ d1) => read_any q1 (packB (bitsL l)) d1 W (by omega) y x (packB_lt _))
  rw [hrp.1] at RL
  have hpl : (packB (bitsL l)).length = sizeP l := packB_length _
  rw [hpl] at RL hrp
  have SL := Lib.hid (fun W q1 d1 (h : Below w.heap.size w W) (x : HoldsI W q1 l) (y : l.length ≤ d1) => sameInts_any q1 p l l d1 c W (by omega) (by omega) y cl x (hl.below h))
  rw [decide_eq_true rfl] at SL
  have s120 : ¬ (120 : Int) < (sizeP l : Int) := by have := hrp.2; omega
  have RB := Lib.hid (fun W (h : Below w.heap.size w W) => read_any q b d W lb cb (hb.below h) bb)
  rw [kb] at RB
  have hf := read_facts kb
  have lm := checkP_len hf.1
  have BM := Lib.hid (fun W q1 d1 (x : HoldsI W q1 m) (y : m.length ≤ d1) => bytes_ok q1 m d1 W (by omega) y x hf.1)
  have SM := Lib.hid (fun W q1 d1 (h : Below w.heap.size w W) (x : HoldsU W q1 (packB (bitsL m))) => sameB_any q1 q (packB (bitsL m)) b d1 d W x (hb.below h) (packB_lt _) bb)
  rw [decide_eq_true hf.2] at SM
  have hpm : (packB (bitsL m)).length = sizeP m := packB_length _
  rw [hpm] at SM
  clear ll lb cl cb hl hb bb kl kb hrp hpl hf lm hpm
  go_enter Try.func4, Try.ntmps4
  go_wp2_with (fail)
  refine (AW.out).mono ?_
  rintro e w1 ⟨rfl, hb1⟩
  have B1 := Lib.hid hb1
  clear hb1 AW
  go_wp2_with (fail)
  refine (BL.out _ B1.out).mono ?_
  rintro e w2 ⟨q1, d1, rfl, ho1, hb2⟩
  have B2 := Lib.hid (t_cat B1.out hb2)
  have RL1 := Lib.hid (RL.out w2 q1 d1 ho1.holds (by have := ho1.2.2; rw [packB_length] at this; exact this))
  clear hb2 ho1 BL B1 RL
  go_wp2_with (fail)
  refine (RL1.out).mono ?_
  intro e w3 hpost
  obtain ⟨q2, d2, rfl, ho2, hb3⟩ : ∃ q c, e = .returned (.tuple #[.slice q l.length c, .int .i64 0]) ∧ OwnI w3 _ q c l ∧ Below _ _ w3 := hpost
  have B3 := Lib.hid (t_cat B2.out hb3)
  have SL1 := Lib.hid (SL.out w3 q2 d2 B3.out ho2.holds ho2.2.2)
  clear hb3 ho2 B2 RL1 SL
  go_wp2_with (fail)
  refine (SL1.out).mono ?_
  rintro e w4 ⟨rfl, hb4⟩
  have B4 := Lib.hid (t_cat B3.out hb4)
  clear hb4 SL1 B3
  go_wp2_with (fail)
  refine (RB.out _ B4.out).mono ?_
  intro e w5 hpost
  obtain ⟨q5, d5, rfl, ho5, hb5⟩ : ∃ q c, e = .returned (.tuple #[.slice q m.length c, .int .i64 0]) ∧ OwnI w5 _ q c m ∧ Below _ _ w5 := hpost
  have B5 := Lib.hid (t_cat B4.out hb5)
  have BM1 := Lib.hid (BM.out w5 q5 d5 ho5.holds ho5.2.2)
  clear hb5 ho5 B4 RB BM
  go_wp2_with (fail)
  refine (BM1.out).mono ?_
  rintro e w6 ⟨q6, d6, rfl, ho6, hb6⟩
  have B6 := Lib.hid (t_cat B5.out hb6)
  have SM1 := Lib.hid (SM.out w6 q6 d6 B6.out ho6.holds)
  clear hb6 ho6 B5 BM1 SM
  go_wp2_with (fail)
  refine (SM1.out).mono ?_
  rintro e w' ⟨rfl, rfl⟩
  go_wp2_with (fail)
  go_ret
  exact ⟨rfl, B6.out⟩
set_option maxRecDepth 100000 in
set_option maxHeartbeats 8000000 in
theorem back_on (p q : Option Addr) (c d : Nat) (l : List Int) (b : List Nat) (w : World) (ll : l.length * 8 ≤ 140737488355328) (lb : b.length ≤ 140737488355328) (cl : l.length ≤ c) (cb : b.length ≤ d)
    (hl : HoldsI w p l) (hb : HoldsU w q b) (bb : ∀ v ∈ b, v < 256) (kl : checkP l = 0) (kb : readP b = none) :
    Calls Try.prog 4 #[.slice p l.length c, .slice q b.length d] w fun e w' => e = .returned (.bool true) ∧ Below w.heap.size w w' := by
  have AW := Lib.hid (awake12_any w)
  have BL := Lib.hid (fun W (h : Below w.heap.size w W) => bytes_ok p l c W (by omega) cl (hl.below h) kl)
  have hrp := read_pack kl
  have RL := Lib.hid (fun W q1 d1 (x : HoldsU W q1 (packB (bitsL l))) (y : (packB (bitsL l)).length ≤ d1) => read_any q1 (packB (bitsL l)) d1 W (by omega) y x (packB_lt _))
  rw [hrp.1] at RL
  have hpl : (packB (bitsL l)).length = sizeP l := packB_length _
  rw [hpl] at RL hrp
  have SL := Lib.hid (fun W q1 d1 (h : Below w.heap.size w W) (x : HoldsI W q1 l) (y : l.length ≤ d1) => sameInts_any q1 p l l d1 c W (by omega) (by omega) y cl x (hl.below h))
  rw [decide_eq_true rfl] at SL
  have s120 : ¬ (120 : Int) < (sizeP l : Int) := by have := hrp.2; omega
  have RB := Lib.hid (fun W (h : Below w.heap.size w W) => read_any q b d W lb cb (hb.below h) bb)
  rw [kb] at RB
  clear ll lb cl cb hl hb bb kl kb hrp hpl
  go_enter Try.func4, Try.ntmps4
  go_wp2_with (fail)
  refine (AW.out).mono ?_
  rintro e w1 ⟨rfl, hb1⟩
  have B1 := Lib.hid hb1
  clear hb1 AW
  go_wp2_with (fail)
  refine (BL.out _ B1.out).mono ?_
  rintro e w2 ⟨q1, d1, rfl, ho1, hb2⟩
  have B2 := Lib.hid (t_cat B1.out hb2)
  have RL1 := Lib.hid (RL.out w2 q1 d1 ho1.holds (by have := ho1.2.2; rw [packB_length] at this; exact this))
  clear hb2 ho1 BL B1 RL
  go_wp2_with (fail)
  refine (RL1.out).mono ?_
  intro e w3 hpost
  obtain ⟨q2, d2, rfl, ho2, hb3⟩ : ∃ q c, e = .returned (.tuple #[.slice q l.length c, .int .i64 0]) ∧ OwnI w3 _ q c l ∧ Below _ _ w3 := hpost
  have B3 := Lib.hid (t_cat B2.out hb3)
  have SL1 := Lib.hid (SL.out w3 q2 d2 B3.out ho2.holds ho2.2.2)
  clear hb3 ho2 B2 RL1 SL
  go_wp2_with (fail)
  refine (SL1.out).mono ?_
  rintro e w4 ⟨rfl, hb4⟩
  have B4 := Lib.hid (t_cat B3.out hb4)
  clear hb4 SL1 B3
  go_wp2_with (fail)
  refine (RB.out _ B4.out).mono ?_
  intro e w5 hpost
  obtain ⟨q5, d5, rfl, -, hb5⟩ : ∃ q c, e = .returned (.tuple #[.slice q 0 c, .int .i64 11]) ∧ OwnI w5 _ q c [] ∧ Below _ _ w5 := hpost
  have B5 := Lib.hid (t_cat B4.out hb5)
  clear hb5 B4 RB
  go_wp2_with (fail)
  go_ret
  exact ⟨rfl, B5.out⟩
set_option maxRecDepth 100000 in
set_option maxHeartbeats 8000000 in
theorem back_bs (p q : Option Addr) (c d : Nat) (l : List Int) (b : List Nat) (w : World) (ll : l.length * 8 ≤ 140737488355328) (lb : b.length ≤ 140737488355328) (cl : l.length ≤ c) (cb : b.length ≤ d)
    (hl : HoldsI w p l) (hb : HoldsU w q b) (bb : ∀ v ∈ b, v < 256) (kl : ¬ checkP l = 0) (m : List Int) (kb : readP b = some m) :
    Calls Try.prog 4 #[.slice p l.length c, .slice q b.length d] w fun e w' => e = .returned (.bool true) ∧ Below w.heap.size w w' := by
  have AW := Lib.hid (awake12_any w)
  have BL := Lib.hid (fun W (h : Below w.heap.size w W) => bytes_bad p l c W (by omega) cl (hl.below h) kl)
  have q0 : (checkP l == 0) = false := by rw [beq_eq_false_iff_ne]; exact kl
  have RB := Lib.hid (fun W (h : Below w.heap.size w W) => read_any q b d W lb cb (hb.below h) bb)
  rw [kb] at RB
  have hf := read_facts kb
  have lm := checkP_len hf.1
  have BM := Lib.hid (fun W q1 d1 (x : HoldsI W q1 m) (y : m.length ≤ d1) => bytes_ok q1 m d1 W (by omega) y x hf.1)
  have SM := Lib.hid (fun W q1 d1 (h : Below w.heap.size w W) (x : HoldsU W q1 (packB (bitsL m))) => sameB_any q1 q (packB (bitsL m)) b d1 d W x (hb.below h) (packB_lt _) bb)
  rw [decide_eq_true hf.2] at SM
  have hpm : (packB (bitsL m)).length = sizeP m := packB_length _
  rw [hpm] at SM
  generalize checkP l = x at *
  clear ll lb cl cb hl hb bb kl kb hf lm hpm
  go_enter Try.func4, Try.ntmps4
  go_wp2_with (fail)
  refine (AW.out).mono ?_
  rintro e w1 ⟨rfl, hb1⟩
  have B1 := Lib.hid hb1
  clear hb1 AW
  go_wp2_with (fail)
  refine (BL.out _ B1.out).mono ?_
  rintro e w2 ⟨rfl, rfl⟩
  have B4 := B1
  clear B1 BL
  go_wp2_with (fail)
  refine (RB.out _ B4.out).mono ?_
  intro e w5 hpost
  obtain ⟨q5, d5, rfl, ho5, hb5⟩ : ∃ q c, e = .returned (.tuple #[.slice q m.length c, .int .i64 0]) ∧ OwnI w5 _ q c m ∧ Below _ _ w5 := hpost
  have B5 := Lib.hid (t_cat B4.out hb5)
  have BM1 := Lib.hid (BM.out w5 q5 d5 ho5.holds ho5.2.2)
  clear hb5 ho5 B4 RB BM
  go_wp2_with (fail)
  refine (BM1.out).mono ?_
  rintro e w6 ⟨q6, d6, rfl, ho6, hb6⟩
  have B6 := Lib.hid (t_cat B5.out hb6)
  have SM1 := Lib.hid (SM.out w6 q6 d6 B6.out ho6.holds)
  clear hb6 ho6 B5 BM1 SM
  go_wp2_with (fail)
  refine (SM1.out).mono ?_
  rintro e w' ⟨rfl, rfl⟩
  go_wp2_with (fail)
  go_ret
  exact ⟨rfl, B6.out⟩
set_option maxRecDepth 100000 in
set_option maxHeartbeats 8000000 in
theorem back_bn (p q : Option Addr) (c d : Nat) (l : List Int) (b : List Nat) (w : World) (ll : l.length * 8 ≤ 140737488355328) (lb : b.length ≤ 140737488355328) (cl : l.length ≤ c) (cb : b.length ≤ d)
    (hl : HoldsI w p l) (hb : HoldsU w q b) (bb : ∀ v ∈ b, v < 256) (kl : ¬ checkP l = 0) (kb : readP b = none) :
    Calls Try.prog 4 #[.slice p l.length c, .slice q b.length d] w fun e w' => e = .returned (.bool true) ∧ Below w.heap.size w w' := by
  have AW := Lib.hid (awake12_any w)
  have BL := Lib.hid (fun W (h : Below w.heap.size w W) => bytes_bad p l c W (by omega) cl (hl.below h) kl)
  have q0 : (checkP l == 0) = false := by rw [beq_eq_false_iff_ne]; exact kl
  have RB := Lib.hid (fun W (h : Below w.heap.size w W) => read_any q b d W lb cb (hb.below h) bb)
  rw [kb] at RB
  generalize checkP l = x at *
  clear ll lb cl cb hl hb bb kl kb
  go_enter Try.func4, Try.ntmps4
  go_wp2_with (fail)
  refine (AW.out).mono ?_
  rintro e w1 ⟨rfl, hb1⟩
  have B1 := Lib.hid hb1
  clear hb1 AW
  go_wp2_with (fail)
  refine (BL.out _ B1.out).mono ?_
  rintro e w2 ⟨rfl, rfl⟩
  have B4 := B1
  clear B1 BL
  go_wp2_with (fail)
  refine (RB.out _ B4.out).mono ?_
  intro e w5 hpost
  obtain ⟨q5, d5, rfl, -, hb5⟩ : ∃ q c, e = .returned (.tuple #[.slice q 0 c, .int .i64 11]) ∧ OwnI w5 _ q c [] ∧ Below _ _ w5 := hpost
  have B5 := Lib.hid (t_cat B4.out hb5)
  clear hb5 B4 RB
  go_wp2_with (fail)
  go_ret
  exact ⟨rfl, B5.out⟩
theorem lback_walk (p q : Option Addr) (c d : Nat) (l : List Int) (b : List Nat) (w : World) (ll : l.length * 8 ≤ 140737488355328) (lb : b.length ≤ 140737488355328) (cl : l.length ≤ c) (cb : b.length ≤ d)
    (hl : HoldsI w p l) (hb : HoldsU w q b) (bb : ∀ v ∈ b, v < 256) :
    Calls Try.prog 4 #[.slice p l.length c, .slice q b.length d] w fun e w' => e = .returned (.bool true) ∧ Below w.heap.size w w' := by
  by_cases kl : checkP l = 0
  · cases kb : readP b with
    | none => exact back_on p q c d l b w ll lb cl cb hl hb bb kl kb
    | some m => exact back_os p q c d l b w ll lb cl cb hl hb bb kl m kb
  · cases kb : readP b with
    | none => exact back_bn p q c d l b w ll lb cl cb hl hb bb kl kb
    | some m => exact back_bs p q c d l b w ll lb cl cb hl hb bb kl m kb
end Go.Proofs.Ytaiiigknlnhdgaa
