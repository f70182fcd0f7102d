/- Proved here: what the document's Bytes, and right, answer. -/
import Derived.Test.YtaiiigknlnhdgaaLabRPack
namespace Go.Proofs.Ytaiiigknlnhdgaa
open Go.RowKit

theorem check_beyond {l : List Int} {k : Nat} (hk : k < l.length) (h : beyond (l.getD k 0) = true) : checkP l = 11 := by
  have ha : l.any beyond = true := by
    rw [List.any_eq_true]
    exact ⟨_, getD_mem hk, h⟩
  unfold checkP
  rw [ha]; rfl
theorem check_even {l : List Int} (hk : 0 < l.length) (h : oddI (l.getD (l.length - 1) 0) = false) : checkP l = 11 := by
  have hl : lastOdd l = false := by
    unfold lastOdd
    rw [decide_eq_false (by omega), h]; rfl
  unfold checkP
  rw [hl]
  split <;> rfl
theorem check_fine {l : List Int} (h : ∀ v ∈ l, InB v) (hl : lastOdd l = true) : checkP l = if 120 < sizeP l then 5 else 0 := by
  have ha : l.any beyond = false := by
    rw [List.any_eq_false]
    intro x hx
    simp [in_beyond (h x hx)]
  unfold checkP
  rw [ha, hl]; rfl
/-- The document's bytes of a list: none, if it is no label. -/
def rbP (l : List Int) : List Nat := if checkP l = 0 then packB (bitsL l) else []
def RBytesPost (w : World) (l : List Int) (e : Ending) (w' : World) : Prop :=
  ∃ q c, e = .returned (.tuple #[.slice q (rbP l).length c, .int .i64 (checkP l)]) ∧ OwnU w' w.heap.size q c (rbP l) ∧ Below w.heap.size w w'
theorem rb_bad {w w' : World} {l : List Int} {n : Int} (h : checkP l = n) (hn : n ≠ 0) (hb : Below w.heap.size w w') : RBytesPost w l (.returned (.tuple #[.slice none 0 0, .int .i64 n])) w' := by
  have e : rbP l = [] := by unfold rbP; rw [h, if_neg hn]
  refine ⟨none, 0, ?_, ?_, hb⟩
  · rw [e, h]; rfl
  · rw [e]; exact OwnU.nil _ _
/-- All that the document's first loop asks of the numbers ahead of a place. -/
def FineTo (l : List Int) (k : Nat) : Prop := ∀ j, j < k → InB (l.getD j 0) ∧ (j + 1 = l.length → oddI (l.getD j 0) = true)
theorem fine_all {l : List Int} (h : FineTo l l.length) : (∀ v ∈ l, InB v) ∧ lastOdd l = true := by
  constructor
  · intro v hv
    obtain ⟨j, hj, rfl⟩ := List.getElem_of_mem hv
    have := (h j hj).1
    rw [List.getD_eq_getElem?_getD, List.getElem?_eq_getElem hj] at this
    exact this
  · unfold lastOdd
    by_cases h0 : l.length = 0
    · rw [h0]; rfl
    · rw [(h (l.length - 1) (by omega)).2 (by omega)]; simp
theorem bitsL_mono (l : List Int) (k : Nat) : (bitsL (l.take k)).length ≤ (bitsL l).length := by
  have e : bitsL l = bitsL (l.take k) ++ bitsL (l.drop k) := by
    unfold bitsL
    rw [← List.flatMap_append, List.take_append_drop]
  rw [e, List.length_append]; omega
def RbsRel (l : List Int) (v6 v37 : Value) : Prop := ∃ (i : Nat) (z : ByteArray), v6 = .string z ∧ v37 = .int .i64 (i : Int) ∧ i ≤ l.length ∧ z.size ≤ 960 ∧ Hid (z = strB (bitsL (l.take i)))
set_option maxRecDepth 100000 in
set_option maxHeartbeats 16000000 in
theorem rbytes_any (p : Option Addr) (l : List Int) (c : Nat) (w : World) (hl : l.length ≤ 140737488355328) (_hlc : l.length ≤ c) (h : HoldsI w p l) :
    Calls Try.prog 13 #[.slice p l.length c] w (RBytesPost w l) := by
  have H := Lib.hid h
  have gl : (l.length : Int) ≤ 140737488355328 := by omega
  clear h hl
  go_enter Try.func13, Try.ntmps13
  go_wp2_with (fail)
  go_loop [11] (fun v => ∃ k : Nat, v = .int .i64 (k : Int) ∧ k ≤ l.length ∧ Hid (FineTo l k)) (fun v => l.length - (intOf v).toNat)
  case atStart => exact ⟨0, rfl, Nat.zero_le _, Lib.hid (fun j hj => absurd hj (Nat.not_lt_zero _))⟩
  case round =>
    obtain ⟨k, rfl, hk, HK⟩ := hrel
    by_cases hlt : k < l.length
    · obtain ⟨b, off, rfl, hc⟩ := H.out (by omega)
      have c1 := hc k hlt
      clear hc
      have gk : (k : Int) < (l.length : Int) := by omega
      obtain ⟨x, hx⟩ : ∃ x, l.getD k 0 = x := ⟨_, rfl⟩
      rw [hx] at c1
      have HX := Lib.hid (And.intro hx hlt)
      clear hx
      by_cases b1 : x < -1073741824
      · have HB := Lib.hid b1
        clear hk hlt
        go_wp2_with (fail)
        go_ret2
        refine rb_bad (check_beyond HX.out.2 ?_) (by decide) (Below.refl _ _)
        rw [HX.out.1]; unfold beyond; rw [decide_eq_true HB.out]; rfl
      · by_cases b2 : 1073741824 < x
        · have HB := Lib.hid b2
          clear hk hlt
          go_wp2_with (fail)
          go_ret2
          refine rb_bad (check_beyond HX.out.2 ?_) (by decide) (Below.refl _ _)
          rw [HX.out.1]; unfold beyond; rw [decide_eq_true HB.out]; simp
        · have hin : InB x := by unfold InB; omega
          have n1 : ¬ x < -1073741824 := b1
          have n2 : ¬ 1073741824 < x := b2
          by_cases hlast : k + 1 = l.length
          · have t1 : ((k : Int) == (l.length : Int) - 1) = true := by rw [beq_iff_eq]; omega
            have OD := Lib.hid (fun W => rodd_any x W)
            have HN := Lib.hid (And.intro hin hlast)
            clear hin hlast hk hlt
            cases ho : oddI x
            · rw [ho] at OD
              have HO := Lib.hid ho
              clear ho
              go_wp2_with (fail)
              refine (OD.out _).mono ?_
              rintro e w' ⟨rfl, rfl⟩
              go_wp2_with (fail)
              go_ret2
              refine rb_bad (check_even (by have := HX.out.2; omega) ?_) (by decide) (Below.refl _ _)
              rw [show l.length - 1 = k by have := HN.out.2; omega, HX.out.1]; exact HO.out
            · rw [ho] at OD
              have HO := Lib.hid ho
              clear ho
              go_wp2_with (fail)
              refine (OD.out _).mono ?_
              rintro e w' ⟨rfl, rfl⟩
              go_wp2_with (fail)
              go_round
              case rel =>
                refine ⟨k + 1, by go_num, by have := HX.out.2; omega, Lib.hid fun j hj => ?_⟩
                by_cases q : j < k
                · exact HK.out j q
                · obtain rfl : j = k := by omega
                  rw [HX.out.1]; exact ⟨HN.out.1, fun _ => HO.out⟩
              case measure => have := HX.out.2; simp [intOf]; omega
          · have t1 : ((k : Int) == (l.length : Int) - 1) = false := by rw [beq_eq_false_iff_ne]; omega
            have HN := Lib.hid (And.intro hin hlast)
            clear hin hlast hk hlt
            go_wp2_with (fail)
            go_round
            case rel =>
              refine ⟨k + 1, by go_num, by have := HX.out.2; omega, Lib.hid fun j hj => ?_⟩
              by_cases q : j < k
              · exact HK.out j q
              · obtain rfl : j = k := by omega
                rw [HX.out.1]; exact ⟨HN.out.1, fun e => absurd e HN.out.2⟩
            case measure => have := HX.out.2; simp [intOf]; omega
    · obtain rfl : k = l.length := by omega
      obtain ⟨fi, fl⟩ := fine_all HK.out
      have HF := Lib.hid (And.intro fi fl)
      clear hk hlt HK fi fl
      go_wp2_with (fail)
      go_loop [6, 37] (fun v6 v37 => RbsRel l v6 v37) (fun _ v => l.length - (intOf v).toNat)
      case atStart => exact ⟨0, ⟨#[]⟩, rfl, rfl, Nat.zero_le _, by decide, Lib.hid (by rw [List.take_zero]; rfl)⟩
      case round =>
        obtain ⟨i, z, rfl, rfl, hi, hz, HZ⟩ := hrel
        by_cases hlt : i < l.length
        · obtain ⟨b, off, rfl, hc⟩ := H.out (by omega)
          have c1 := hc i hlt
          clear hc
          have gk : (i : Int) < (l.length : Int) := by omega
          have hin := HF.out.1 _ (getD_mem hlt)
          have hbt := bitsL_take l i hlt
          have hv31 := (digN_31 hin).2
          have hvl := bitsV_length hin
          generalize l.getD i 0 = x at *
          have BV := Lib.hid (fun W => bits_any x hin W)
          have hst : z ++ strB (bitsV x) = strB (bitsL (l.take (i + 1))) := by rw [HZ.out, strB_app, hbt]
          have hsz : (strB (bitsV x)).size ≤ 62 := by rw [strB_size, hvl]; omega
          have hml := bitsL_mono l (i + 1)
          have HX := Lib.hid (And.intro hlt (And.intro hst hml))
          obtain ⟨y, hy⟩ : ∃ y, strB (bitsV x) = y := ⟨_, rfl⟩
          rw [hy] at BV hsz
          have HY := Lib.hid hy
          have z1 : ¬ z.size + y.size > 9223372036854775807 := by omega
          have hsum : (z ++ y).size = z.size + y.size := ByteArray.size_append
          have gz : (z.size : Int) ≤ 960 := by omega
          have gy : (y.size : Int) ≤ 62 := by omega
          clear hin hbt hv31 hvl hst hml hlt hi hy hsz
          by_cases hbig : 960 < z.size + y.size
          · have q1 : (960 : Int) < (z.size : Int) + (y.size : Int) := by omega
            have HBG := Lib.hid hbig
            clear hbig
            go_wp2_with (fail)
            refine (BV.out _).mono ?_
            rintro e w' ⟨rfl, rfl⟩
            go_wp2_with (fail)
            go_ret2
            obtain ⟨h1, h2, h3⟩ := HX.out
            refine rb_bad (n := 5) ?_ (by decide) (Below.refl _ _)
            rw [check_fine HF.out.1 HF.out.2, if_pos ?_]
            have e := congrArg ByteArray.size h2
            rw [strB_size, HY.out, hsum] at e
            have := HBG.out
            unfold sizeP
            omega
          · have q1 : ¬ (960 : Int) < (z.size : Int) + (y.size : Int) := by omega
            have HBG := Lib.hid hbig
            clear hbig
            go_wp2_with (fail)
            refine (BV.out _).mono ?_
            rintro e w' ⟨rfl, rfl⟩
            go_wp2_with (fail)
            go_round
            case rel =>
              obtain ⟨h1, h2, h3⟩ := HX.out
              exact ⟨i + 1, z ++ y, rfl, by go_num, by omega, by rw [hsum]; have := HBG.out; omega, Lib.hid (by rw [← HY.out]; exact h2)⟩
            case measure => have := HX.out.1; simp [intOf]; omega
        · obtain rfl : i = l.length := by omega
          have e := HZ.out
          rw [List.take_of_length_le (Nat.le_refl _)] at e
          have hbl : (bitsL l).length ≤ 960 := by rw [e, strB_size] at hz; exact hz
          have PK := Lib.hid (packed_any (bitsL l) w (by omega))
          rw [← e] at PK
          have hc0 : checkP l = 0 := by rw [check_fine HF.out.1 HF.out.2, if_neg (by unfold sizeP; omega)]
          have hrb : rbP l = packB (bitsL l) := by unfold rbP; rw [if_pos hc0]
          have HC := Lib.hid (And.intro hc0 hrb)
          clear e hbl hc0 hrb hi hlt
          go_wp2_with (fail)
          refine (PK.out).mono ?_
          rintro e w2 ⟨q2, c2, rfl, ho, hb⟩
          have HO := Lib.hid (And.intro ho hb)
          clear ho hb
          go_wp2_with (fail)
          go_ret2
          refine ⟨q2, c2, ?_, ?_, HO.out.2⟩
          · rw [HC.out.2, HC.out.1]; rfl
          · rw [HC.out.2]; exact HO.out.1
set_option maxRecDepth 100000 in
set_option maxHeartbeats 4000000 in
theorem right_any (p : Option Addr) (l : List Int) (c : Nat) (w : World) (hl : l.length ≤ 140737488355328) (hlc : l.length ≤ c) (h : HoldsI w p l) :
    Calls Try.prog 49 #[.slice p l.length c] w fun e w' => e = .returned (.bool (decide (checkP l = 0))) ∧ Below w.heap.size w w' := by
  have RB := Lib.hid (rbytes_any p l c w hl hlc h)
  have hd : (checkP l == 0) = decide (checkP l = 0) := by
    by_cases q : checkP l = 0
    · rw [q]; rfl
    · rw [decide_eq_false q, beq_eq_false_iff_ne]; exact q
  have HD := Lib.hid hd
  clear hl hlc h hd
  go_enter Try.func49, Try.ntmps49
  go_wp2_with (fail)
  refine (RB.out).mono ?_
  rintro e w2 ⟨q2, c2, rfl, ho, hb⟩
  have HO := Lib.hid hb
  clear ho hb
  go_wp2_with (fail)
  go_ret
  exact ⟨ret_b HD.out, HO.out⟩
end Go.Proofs.Ytaiiigknlnhdgaa
