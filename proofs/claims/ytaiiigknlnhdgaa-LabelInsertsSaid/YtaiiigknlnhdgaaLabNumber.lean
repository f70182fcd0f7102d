/- Proved here: what a writer of bits does: a number more. -/
import Derived.Test.YtaiiigknlnhdgaaLabPut2
namespace Go.Proofs.Ytaiiigknlnhdgaa
open Go.RowKit

theorem low_digit (n : Nat) : ∀ m i, i < m → (lowB n m).take (i + 1) = (lowB n m).take i ++ [n.testBit (m - 1 - i)]
  | m + 1, 0, _ => by simp [lowB]
  | m + 1, i + 1, h => by
    rw [lowB, List.take_succ_cons, List.take_succ_cons, low_digit n m i (by omega), show m + 1 - 1 - (i + 1) = m - 1 - i by omega]
    rfl
def NumRel (w : World) (B G : Nat) (bs : List Bool) (f : Nat → List Bool) (K : Nat) (v : Value) (wr : World) : Prop :=
  ∃ j : Nat, v = .int .i64 (j : Int) ∧ j ≤ K ∧ Hid ((∃ q c, WrS wr B G (bs ++ f j) q c) ∧ Goes B G w wr)
theorem digit_bit (n s t : Nat) (ht : t < 2) : bits BinOp.xor IntKind.i64 (bits BinOp.and IntKind.i64 ((n : Int) / 2 ^ s) 1) (t : Int) = ((b2n (n.testBit s == decide (t = 0)) : Nat) : Int) := by
  have e : ((n : Int) / 2 ^ s) % 2 = ((n / 2 ^ s % 2 : Nat) : Int) := by simp
  rw [and_one, e, xor_digit _ _ (Nat.mod_lt _ (by decide)) ht, Nat.testBit_eq_decide_div_mod_eq]
  rcases Nat.mod_two_eq_zero_or_one (n / 2 ^ s) with h | h <;> rcases (show t = 0 ∨ t = 1 by omega) with rfl | rfl <;> rw [h] <;> decide
set_option maxRecDepth 100000 in
set_option maxHeartbeats 4000000 in
theorem number_any (w : World) (B G : Nat) (bs : List Bool) (v : Int) (q : Option Addr) (c : Nat) (h : WrS w B G bs q c) (hv : InB v) (hn : bs.length ≤ 549755813888) :
    Calls Try.prog 30 #[.pointer (some ⟨G, 0, none⟩), .int .i64 v] w (PutPost w B G (bs ++ bitsV v)) := by
  obtain ⟨n, hN⟩ : ∃ n, rowN v = n := ⟨_, rfl⟩
  obtain ⟨k, hK⟩ : ∃ k, digN n = k + 1 := ⟨digN n - 1, by have := digN_31 hv; rw [hN] at this; omega⟩
  have hk31 : k + 1 ≤ 31 := by have := digN_31 hv; rw [hN] at this; omega
  have hn31 : n < 2147483648 := by have := rowN_small hv; rw [hN] at this; exact this
  obtain ⟨t, hT⟩ : ∃ t : Nat, (if v < 0 then (1 : Int) else 0) = (t : Int) ∧ t < 2 ∧ decide (0 ≤ v) = decide (t = 0) ∧ decide (v < 0) = decide (t = 1) := by
    by_cases q : v < 0
    · exact ⟨1, by rw [if_pos q]; rfl, by decide, by rw [decide_eq_false (by omega)]; rfl, by rw [decide_eq_true q]; rfl⟩
    · exact ⟨0, by rw [if_neg q]; rfl, by decide, by rw [decide_eq_true (by omega)]; rfl, by rw [decide_eq_false q]; rfl⟩
  obtain ⟨hT1, hT2, hT3, hT4⟩ := hT
  have RO := Lib.hid (fun W => rowOf_any v hv W)
  rw [hN, hT1] at RO
  have DG := Lib.hid (fun W => digits_any n (by omega) W)
  rw [hK] at DG
  have hbits : bitsV v = List.replicate (k + 1) (decide (t = 0)) ++ decide (t = 1) :: (lowB n k).map (fun b => b == decide (t = 0)) := by
    unfold bitsV
    rw [hN, hK, hT3, hT4, Nat.add_sub_cancel]
  have HB := Lib.hid hbits
  have H0 := Lib.hid h
  have hb0 : bs.length ≤ 549755813888 := hn
  have hx1 : bits BinOp.xor IntKind.i64 1 (t : Int) = ((b2n (decide (t = 0)) : Nat) : Int) := by
    rcases (show t = 0 ∨ t = 1 by omega) with rfl | rfl <;> decide
  clear h hbits hv hN hK hT1 hT3 hT4 hn
  go_enter Try.func30, Try.ntmps30
  go_wp2_with (go_at_call 52; refine (RO.out _).mono ?_; rintro e w' ⟨rfl, rfl⟩)
  go_wp2_with (go_at_call 53; refine (DG.out _).mono ?_; rintro e w' ⟨rfl, rfl⟩)
  have hx1' : ∀ W q c j, WrS W B G (bs ++ List.replicate j (decide (t = 0))) q c → j ≤ 31 → Calls Try.prog 54 #[.pointer (some ⟨G, 0, none⟩), .int .i64 (bits BinOp.xor IntKind.i64 1 (t : Int))] W (PutPost W B G (bs ++ List.replicate (j + 1) (decide (t = 0)))) := by
    intro W q c j hw hj
    rw [hx1, List.replicate_succ', ← List.append_assoc]
    exact put_any W B G _ _ q c hw (by simp; omega)
  have HP := Lib.hid hx1'
  clear hx1 hx1'
  go_loopw [17] (fun v wr => NumRel w B G bs (fun j => List.replicate j (decide (t = 0))) (k + 1) v wr) (fun v _ => k + 1 - (intOf v).toNat)
  case atStart => exact ⟨0, rfl, Nat.zero_le _, Lib.hid ⟨⟨q, c, by simpa using H0.out⟩, Goes.refl _ _ _⟩⟩
  case round =>
    obtain ⟨j, rfl, hj, HR⟩ := hrel
    by_cases hlt : j < k + 1
    · obtain ⟨⟨q1, c1, hw⟩, hg⟩ := HR.out
      have HP1 := Lib.hid (HP.out wr q1 c1 j hw (by omega))
      have HG := Lib.hid hg
      clear hw hg HR
      go_wp2_with (go_at_call 54; refine (HP1.out).mono ?_; rintro e w' ⟨rfl, hw', hg'⟩)
      go_round
      case rel => exact ⟨j + 1, by go_num, by omega, Lib.hid ⟨hw', HG.out.trans hg'⟩⟩
      case measure => simp [intOf]; omega
    · obtain rfl : j = k + 1 := by omega
      obtain ⟨⟨q1, c1, hw⟩, hg⟩ := HR.out
      have ht : (t : Int) = ((b2n (decide (t = 1)) : Nat) : Int) := by
        rcases (show t = 0 ∨ t = 1 by omega) with rfl | rfl <;> decide
      have HP1 := Lib.hid (put_any wr B G _ (decide (t = 1)) q1 c1 hw (by simp; omega))
      rw [← ht] at HP1
      have HG := Lib.hid hg
      clear hw hg HR ht HP H0
      go_wp2_with (go_at_call 54; refine (HP1.out).mono ?_; rintro e w3 ⟨rfl, hw', hg'⟩)
      have HW := Lib.hid (And.intro hw' (HG.out.trans hg'))
      clear hw' hg' HG HP1
      go_loopw [29] (fun v wr => NumRel w B G (bs ++ List.replicate (k + 1) (decide (t = 0)) ++ [decide (t = 1)]) (fun j => ((lowB n k).map (fun b => b == decide (t = 0))).take j) k v wr) (fun v _ => k - (intOf v).toNat)
      case atStart => exact ⟨0, rfl, Nat.zero_le _, Lib.hid ⟨by simpa using HW.out.1, HW.out.2⟩⟩
      case round =>
        obtain ⟨j, rfl, hj, HR⟩ := hrel
        by_cases hlt : j < k
        · have hs : ((k : Int) + 1 - 2 - (j : Int)) = ((k - 1 - j : Nat) : Int) := by omega
          obtain ⟨⟨q1, c1, hw⟩, hg⟩ := HR.out
          have HP1 := Lib.hid (put_any wr B G _ (n.testBit (k - 1 - j) == decide (t = 0)) q1 c1 hw (by simp; omega))
          rw [← digit_bit n (k - 1 - j) t hT2] at HP1
          have HG := Lib.hid hg
          clear hw hg HR
          go_wp2_with (go_at_call 54; refine (HP1.out).mono ?_; rintro e w' ⟨rfl, hw', hg'⟩)
          go_round
          case rel => exact ⟨j + 1, by go_num, by omega, Lib.hid ⟨by
            show ∃ q c, WrS w' B G (_ ++ List.take (j + 1) (List.map _ _)) q c
            rw [← List.map_take, low_digit n k j hlt, List.map_append, List.map_take, ← List.append_assoc]
            exact hw', HG.out.trans hg'⟩⟩
          case measure => simp [intOf]; omega
        · obtain rfl : j = k := by omega
          go_wp2_with (fail)
          go_end0
          obtain ⟨⟨q1, c1, hw⟩, hg⟩ := HR.out
          refine ⟨rfl, ⟨q1, c1, ?_⟩, hg⟩
          rw [List.take_of_length_le (by simp [lowB_length])] at hw
          rw [HB.out]
          simpa using hw
end Go.Proofs.Ytaiiigknlnhdgaa
