/- Proved here: the statement LabelRows, walked: it answers true of every list and every number, in every world. -/
import Derived.Test.YtaiiigknlnhdgaaLabSame
namespace Go.Proofs.Ytaiiigknlnhdgaa
open Go.RowKit

theorem OwnI.at {w : World} {B : Nat} {q : Option Addr} {c : Nat} {l : List Int} (h : OwnI w B q c l) {j : Nat} (hj : j < l.length) : ∃ g, q = some ⟨g, 0, none⟩ ∧ B ≤ g ∧ g < w.heap.size ∧ w.cell? ⟨g, j, none⟩ = some (.int .i64 (l.getD j 0)) ∧ w.frozen? ⟨g, j, none⟩ = false := by
  have hown := h.1
  rcases hown.2 with ⟨e, h1⟩ | ⟨g, cap, cur, e, hb, hh, hc, _, _⟩
  · omega
  · injection e with e1 e2 e3
    subst e1
    refine ⟨g, rfl, hb, (hown.lt g rfl).2, ?_, World.ownsRow.frozenAt hown j⟩
    rw [World.ownsRow.cellAt hown j (by omega), intV_get l j hj]
/-- The last kid at the end, and at the begin, behind i rounds. -/
def endL (up : List Int) (i : Nat) : List Int := if i = 0 then [] else up ++ [2 * (i : Int) - 1]
def begL (up : List Int) (i : Nat) : List Int := if i = 0 then [] else up ++ [3 - 2 * (i : Int)]
theorem bits_snoc (up : List Int) (v : Int) : bitsL (up ++ [v]) = bitsL up ++ bitsV v := by
  unfold bitsL; rw [List.flatMap_append]; simp
theorem small_digits {v : Int} (h : -1001 ≤ v ∧ v ≤ 1001) : InB v ∧ digN (rowN v) ≤ 10 := by
  refine ⟨by unfold InB; omega, digN_le ?_ (by decide)⟩
  have : (2 : Nat) ^ 10 = 1024 := by decide
  unfold rowN; split <;> omega
theorem snoc_ok {up : List Int} {v : Int} (hu : checkP up = 0) (hs : sizeP up ≤ 116) (h : -1001 ≤ v ∧ v ≤ 1001) (ho : oddI v = true) : checkP (up ++ [v]) = 0 ∧ sizeP (up ++ [v]) ≤ sizeP up + 4 ∧ upP (up ++ [v]) = up := by
  obtain ⟨h1, h2, h3⟩ := checkP_ok hu
  obtain ⟨i1, i2⟩ := small_digits h
  have hlen : (bitsL (up ++ [v])).length = (bitsL up).length + 2 * digN (rowN v) := by rw [bits_snoc, List.length_append, bitsV_length i1]
  have hsz : sizeP (up ++ [v]) ≤ sizeP up + 3 := by unfold sizeP at hs ⊢; rw [hlen]; omega
  have hlast : lastOdd (up ++ [v]) = true := last_of (u := up) (s := [v]) ho
  refine ⟨?_, by omega, up_of h2 (s := [v]) ho⟩
  have hany : (up ++ [v]).any beyond = false := by
    rw [List.any_append]
    have a1 : up.any beyond = false := by
      rw [List.any_eq_false]
      intro x hx
      simp [in_beyond (h1 x hx)]
    rw [a1]; simp [in_beyond i1]
  unfold checkP
  rw [hany, hlast]
  simp only [Bool.false_eq_true, if_false, if_true]
  rw [if_neg (by omega)]
theorem row_end {up : List Int} (hu : checkP up = 0) (hs : sizeP up ≤ 116) (i : Nat) (hi : i < 500) : betP up (endL up i) [] = (endL up (i + 1), 0) := by
  have e1 : endL up (i + 1) = up ++ [1 + 2 * (i : Int)] := by unfold endL; rw [if_neg (by omega)]; congr 2; omega
  have ho : oddI (1 + 2 * (i : Int)) = true := by rw [oddI_iff]; omega
  obtain ⟨k1, k2, k3⟩ := snoc_ok hu hs (v := 1 + 2 * (i : Int)) (by omega) ho
  have hb : besideP up (endL up i) = true ∧ roomP (behindP up (endL up i)) (behindP up []) = [1 + 2 * (i : Int)] := by
    have eb : behindP up [] = [] := by unfold behindP; simp
    cases i with
    | zero =>
      have e0 : endL up 0 = [] := rfl
      rw [e0, eb]
      exact ⟨by unfold besideP; simp, rfl⟩
    | succ i =>
      have e2 : endL up (i + 1) = up ++ [1 + 2 * (i : Int)] := by unfold endL; rw [if_neg (by omega)]; congr 2; omega
      have ho2 : oddI (1 + 2 * (i : Int)) = true := by rw [oddI_iff]; omega
      obtain ⟨j1, j2, j3⟩ := snoc_ok hu hs (v := 1 + 2 * (i : Int)) (by omega) ho2
      rw [e2, eb]
      refine ⟨by unfold besideP; rw [decide_eq_true j1, decide_eq_true j3]; simp, ?_⟩
      have hbh : behindP up (up ++ [1 + 2 * (i : Int)]) = [1 + 2 * (i : Int)] := by
        unfold behindP
        rw [if_neg (by simp), List.drop_left]
      rw [hbh]
      show [oddUp (1 + 2 * (i : Int))] = _
      congr 1
      unfold oddUp; omega
  have hm : mayP up (endL up i) [] = true := by
    unfold mayP orderP
    rw [decide_eq_true hu, hb.1]
    simp [besideP]
  have hn : newP up (endL up i) [] = endL up (i + 1) := by unfold newP; rw [hb.2, e1]
  unfold betP
  rw [if_pos hm, hn, e1, if_pos k1]
theorem row_beg {up : List Int} (hu : checkP up = 0) (hs : sizeP up ≤ 116) (i : Nat) (hi : i < 500) : betP up [] (begL up i) = (begL up (i + 1), 0) := by
  have e1 : begL up (i + 1) = up ++ [1 - 2 * (i : Int)] := by unfold begL; rw [if_neg (by omega)]; congr 2; omega
  have ho : oddI (1 - 2 * (i : Int)) = true := by rw [oddI_iff]; omega
  obtain ⟨k1, k2, k3⟩ := snoc_ok hu hs (v := 1 - 2 * (i : Int)) (by omega) ho
  have hb : besideP up (begL up i) = true ∧ roomP (behindP up []) (behindP up (begL up i)) = [1 - 2 * (i : Int)] := by
    have eb : behindP up [] = [] := by unfold behindP; simp
    cases i with
    | zero =>
      have e0 : begL up 0 = [] := rfl
      rw [e0, eb]
      exact ⟨by unfold besideP; simp, rfl⟩
    | succ i =>
      have e2 : begL up (i + 1) = up ++ [1 - 2 * (i : Int)] := by unfold begL; rw [if_neg (by omega)]; congr 2; omega
      have ho2 : oddI (1 - 2 * (i : Int)) = true := by rw [oddI_iff]; omega
      obtain ⟨j1, j2, j3⟩ := snoc_ok hu hs (v := 1 - 2 * (i : Int)) (by omega) ho2
      rw [e2, eb]
      refine ⟨by unfold besideP; rw [decide_eq_true j1, decide_eq_true j3]; simp, ?_⟩
      have hbh : behindP up (up ++ [1 - 2 * (i : Int)]) = [1 - 2 * (i : Int)] := by
        unfold behindP
        rw [if_neg (by simp), List.drop_left]
      rw [hbh]
      show [oddDn (1 - 2 * (i : Int))] = _
      congr 1
      unfold oddDn; omega
  have hm : mayP up [] (begL up i) = true := by
    unfold mayP orderP
    rw [decide_eq_true hu, hb.1]
    simp [besideP]
  have hn : newP up [] (begL up i) = begL up (i + 1) := by unfold newP; rw [hb.2, e1]
  unfold betP
  rw [if_pos hm, hn, e1, if_pos k1]
theorem end_facts {up : List Int} (hu : checkP up = 0) (hs : sizeP up ≤ 116) (i : Nat) (hi : i < 500) : (endL up (i + 1)).length = up.length + 1 ∧ (endL up (i + 1)).getD up.length 0 = 1 + 2 * (i : Int) ∧ checkP (endL up (i + 1)) = 0 ∧ sizeP (endL up (i + 1)) ≤ sizeP up + 4 := by
  have e1 : endL up (i + 1) = up ++ [1 + 2 * (i : Int)] := by unfold endL; rw [if_neg (by omega)]; congr 2; omega
  have ho : oddI (1 + 2 * (i : Int)) = true := by rw [oddI_iff]; omega
  obtain ⟨k1, k2, k3⟩ := snoc_ok hu hs (v := 1 + 2 * (i : Int)) (by omega) ho
  rw [e1]
  exact ⟨by simp, by simp [List.getD_eq_getElem?_getD], k1, k2⟩
theorem beg_facts (up : List Int) (i : Nat) : (begL up (i + 1)).length = up.length + 1 ∧ (begL up (i + 1)).getD up.length 0 = 1 - 2 * (i : Int) := by
  have e1 : begL up (i + 1) = up ++ [1 - 2 * (i : Int)] := by unfold begL; rw [if_neg (by omega)]; congr 2; omega
  rw [e1]
  exact ⟨by simp, by simp [List.getD_eq_getElem?_getD]⟩
theorem end_len (up : List Int) (i : Nat) : (endL up i).length ≤ up.length + 1 ∧ (begL up i).length ≤ up.length + 1 := by
  unfold endL begL
  split <;> simp
def RowsRel (w : World) (up : List Int) (M : Nat) (v7 v8 v34 : Value) (wr : World) : Prop :=
  ∃ (i : Nat) (q q' : Option Addr) (c c' : Nat), v7 = .slice q (endL up i).length c ∧ v8 = .slice q' (begL up i).length c' ∧ v34 = .int .i64 (i : Int) ∧ i ≤ M ∧ Hid (OwnI wr w.heap.size q c (endL up i) ∧ OwnI wr w.heap.size q' c' (begL up i) ∧ Below w.heap.size w wr)
set_option maxRecDepth 100000 in
set_option maxHeartbeats 8000000 in
theorem rows_near (p : Option Addr) (up : List Int) (c : Nat) (n : Int) (w : World) (hl : up.length * 8 ≤ 140737488355328) (hc : up.length ≤ c) (h : HoldsI w p up) (hn : p = none → c = 0) (__bn : -9223372036854775808 ≤ n ∧ n ≤ 9223372036854775807) (hu : checkP up = 0) (hs : sizeP up ≤ 116) :
    Calls Try.prog 10 #[.slice p up.length c, .int .i64 n] w fun e w' => e = .returned (.bool true) ∧ Below w.heap.size w w' := by
  have AW := Lib.hid (awake12_any w)
  have BY := Lib.hid (fun W (x : Below w.heap.size w W) => bytes_ok p up c W (by omega) hc (h.below x) hu)
  obtain ⟨M, hM, hM5⟩ : ∃ M : Nat, wrap64 ((IntKind.u64.wrap n).tmod 500) = (M : Int) ∧ M < 500 := by
    refine ⟨(n % 18446744073709551616 % 500).toNat, ?_, by omega⟩
    rw [IntKind.wrap_u64, Int.tmod_eq_emod_of_nonneg (by omega)]
    unfold wrap64; omega
  have s116 : decide ((116 : Int) < (sizeP up : Int)) = false := by rw [decide_eq_false_iff_not]; omega
  have HM := Lib.hid hM
  clear hl __bn hM
  go_enter Try.func10, Try.ntmps10
  go_wp2_with (fail)
  refine (AW.out).mono ?_
  rintro e w1 ⟨rfl, hb1⟩
  have B1 := Lib.hid hb1
  clear hb1 AW
  go_wp2_with (fail)
  refine (BY.out _ B1.out).mono ?_
  rintro e w2 ⟨q2, d2, rfl, ho2, hb2⟩
  have B2 := Lib.hid (t_cat B1.out hb2)
  clear hb2 ho2 B1 BY
  go_wp2_with (fail)
  rw [HM.out]
  go_loopw [7, 8, 34] (fun v7 v8 v34 wr => RowsRel w up M v7 v8 v34 wr) (fun _ _ v _ => M - (intOf v).toNat)
  case atStart => exact ⟨0, none, none, 0, 0, rfl, rfl, rfl, Nat.zero_le _, Lib.hid ⟨OwnI.nil _ _, OwnI.nil _ _, B2.out⟩⟩
  case round =>
    obtain ⟨i, q, q', e, e', rfl, rfl, rfl, hi, HR⟩ := hrel
    have hel := end_len up i
    by_cases hlt : i < M
    · have hul := checkP_len hu
      have BT := Lib.hid (fun W (x : Below w.heap.size w W) (y : OwnI W w.heap.size q e (endL up i)) => between_any p q none up (endL up i) [] c e 0 W (by omega) (by omega) (by simp) hc y.2.2 (by simp) (h.below x) y.holds (fun z => by simp at z) hn y.2.1 (fun _ => rfl))
      have BU := Lib.hid (fun W (x : Below w.heap.size w W) (y : OwnI W w.heap.size q' e' (begL up i)) => between_any p none q' up [] (begL up i) c 0 e' W (by omega) (by simp) (by omega) hc (by simp) y.2.2 (h.below x) (fun z => by simp at z) y.holds hn (fun _ => rfl) y.2.1)
      rw [row_end hu hs i (by omega)] at BT
      rw [row_beg hu hs i (by omega)] at BU
      obtain ⟨k1, k2, k3, k4⟩ := end_facts hu hs i (by omega)
      obtain ⟨j1, j2⟩ := beg_facts up i
      have BK := Lib.hid (fun W q c (y : OwnI W w.heap.size q c (endL up (i + 1))) => bytes_ok q (endL up (i + 1)) c W (by omega) y.2.2 y.holds k3)
      have HE := Lib.hid (Eq.refl (endL up (i + 1)))
      obtain ⟨K, hK⟩ : ∃ K, endL up (i + 1) = K := ⟨_, rfl⟩
      obtain ⟨J, hJ⟩ : ∃ J, begL up (i + 1) = J := ⟨_, rfl⟩
      have HKJ := Lib.hid (And.intro hK hJ)
      rw [hK] at BT k1 k2 k4 BK
      rw [hJ] at BU j1 j2
      obtain ⟨m, hm⟩ : ∃ m, up.length = m := ⟨_, rfl⟩
      rw [hm] at k1 k2 j1 j2 BT BU
      have sz : ¬ (sizeP up : Int) + 4 < (sizeP K : Int) := by omega
      have hmm : (m : Int) ≤ 480 := by omega
      have hii : (i : Int) ≤ 500 := by omega
      have hlt' : (i : Int) < (M : Int) := by omega
      have hMM : (M : Int) ≤ 500 := by omega
      have s120 : (sizeP up : Int) ≤ 116 := by omega
      have HLT := Lib.hid hlt
      clear hK hJ hel hul hc h hn hu hs hlt hi
      rw [hm]
      clear hm
      go_wp2_with (fail)
      refine (BT.out _ HR.out.2.2 HR.out.1).mono ?_
      intro e5 w5 hpost
      obtain ⟨q5, d5, rfl, ho5, hb5⟩ : ∃ q c, e5 = .returned (.tuple #[.slice q K.length c, .int .i64 0]) ∧ OwnI w5 _ q c K ∧ Below _ _ w5 := hpost
      have O5 := Lib.hid (ho5.base (B' := w.heap.size) HR.out.2.2.size)
      have R5 := Lib.hid (HR.out.2.1.far hb5)
      have B5 := Lib.hid (t_cat HR.out.2.2 hb5)
      clear hb5 ho5 BT HR
      go_wp2_with (fail)
      refine (BU.out _ B5.out R5.out).mono ?_
      intro e6 w6 hpost
      obtain ⟨q6, d6, rfl, ho6, hb6⟩ : ∃ q c, e6 = .returned (.tuple #[.slice q J.length c, .int .i64 0]) ∧ OwnI w6 _ q c J ∧ Below _ _ w6 := hpost
      have O6 := Lib.hid (ho6.base (B' := w.heap.size) B5.out.size)
      have O56 := Lib.hid (O5.out.far hb6)
      have B6 := Lib.hid (t_cat B5.out hb6)
      obtain ⟨g5, rfl, -, -, x5, -⟩ := O56.out.at (j := m) (by omega)
      obtain ⟨g6, rfl, -, -, x6, -⟩ := O6.out.at (j := m) (by omega)
      rw [k2] at x5
      rw [j2] at x6
      have HKL := Lib.hid (And.intro k1 j1)
      have BKX := Lib.hid (BK.out _ _ _ O56.out)
      rw [j1]
      rw [k1] at BKX
      clear hb6 ho6 BU R5 B5 O5 BK k1 k2 j1 j2
      go_wp2_with (fail)
      refine (BKX.out).mono ?_
      rintro e7 w7 ⟨q7, d7, rfl, ho7, hb7⟩
      have B7 := Lib.hid (t_cat B6.out hb7)
      have OO := Lib.hid (And.intro (O56.out.far hb7) (O6.out.far hb7))
      clear hb7 ho7 BKX B6 O56 O6 x5 x6
      go_wp2_with (fail)
      go_round
      case rel =>
        obtain ⟨e1, e2⟩ := HKJ.out
        refine ⟨i + 1, some ⟨g5, 0, none⟩, some ⟨g6, 0, none⟩, d5, d6, ?_, ?_, by go_num, by have := HLT.out; omega, Lib.hid ⟨?_, ?_, B7.out⟩⟩
        · rw [e1, HKL.out.1]
        · rw [e2, HKL.out.2]
        · rw [e1]; exact OO.out.1
        · rw [e2]; exact OO.out.2
      case measure => have := HLT.out; simp [intOf]; omega
    · obtain rfl : i = M := by omega
      go_wp2_with (fail)
      go_ret
      exact ⟨rfl, HR.out.2.2⟩
set_option maxRecDepth 100000 in
set_option maxHeartbeats 4000000 in
theorem rows_bad (p : Option Addr) (up : List Int) (c : Nat) (n : Int) (w : World) (hl : up.length * 8 ≤ 140737488355328) (hc : up.length ≤ c) (h : HoldsI w p up) (hu : ¬ checkP up = 0) :
    Calls Try.prog 10 #[.slice p up.length c, .int .i64 n] w fun e w' => e = .returned (.bool true) ∧ Below w.heap.size w w' := by
  have AW := Lib.hid (awake12_any w)
  have BY := Lib.hid (fun W (x : Below w.heap.size w W) => bytes_bad p up c W (by omega) hc (h.below x) hu)
  have q0 : (checkP up != 0) = true := by rw [bne_iff_ne]; exact hu
  generalize checkP up = x at *
  clear hl hc h hu
  go_enter Try.func10, Try.ntmps10
  go_wp2_with (fail)
  refine (AW.out).mono ?_
  rintro e w1 ⟨rfl, hb1⟩
  have B1 := Lib.hid hb1
  clear hb1 AW
  go_wp2_with (fail)
  refine (BY.out _ B1.out).mono ?_
  rintro e w2 ⟨rfl, rfl⟩
  go_wp2_with (fail)
  go_ret
  exact ⟨rfl, B1.out⟩
set_option maxRecDepth 100000 in
set_option maxHeartbeats 4000000 in
theorem rows_long (p : Option Addr) (up : List Int) (c : Nat) (n : Int) (w : World) (hl : up.length * 8 ≤ 140737488355328) (hc : up.length ≤ c) (h : HoldsI w p up) (hu : checkP up = 0) (hs : ¬ sizeP up ≤ 116) :
    Calls Try.prog 10 #[.slice p up.length c, .int .i64 n] w fun e w' => e = .returned (.bool true) ∧ Below w.heap.size w w' := by
  have AW := Lib.hid (awake12_any w)
  have BY := Lib.hid (fun W (x : Below w.heap.size w W) => bytes_ok p up c W (by omega) hc (h.below x) hu)
  have q0 : (116 : Int) < (sizeP up : Int) := by omega
  clear hl hc h hu hs
  go_enter Try.func10, Try.ntmps10
  go_wp2_with (fail)
  refine (AW.out).mono ?_
  rintro e w1 ⟨rfl, hb1⟩
  have B1 := Lib.hid hb1
  clear hb1 AW
  go_wp2_with (fail)
  refine (BY.out _ B1.out).mono ?_
  rintro e w2 ⟨q2, d2, rfl, ho2, hb2⟩
  have B2 := Lib.hid (t_cat B1.out hb2)
  clear hb2 ho2
  go_wp2_with (fail)
  go_ret
  exact ⟨rfl, B2.out⟩
theorem lrows_walk (p : Option Addr) (up : List Int) (c : Nat) (n : Int) (w : World) (hl : up.length * 8 ≤ 140737488355328) (hc : up.length ≤ c) (h : HoldsI w p up) (hn : p = none → c = 0) (bn : -9223372036854775808 ≤ n ∧ n ≤ 9223372036854775807) :
    Calls Try.prog 10 #[.slice p up.length c, .int .i64 n] w fun e w' => e = .returned (.bool true) ∧ Below w.heap.size w w' := by
  by_cases hu : checkP up = 0
  · by_cases hs : sizeP up ≤ 116
    · exact rows_near p up c n w hl hc h hn bn hu hs
    · exact rows_long p up c n w hl hc h hu hs
  · exact rows_bad p up c n w hl hc h hu
end Go.Proofs.Ytaiiigknlnhdgaa
