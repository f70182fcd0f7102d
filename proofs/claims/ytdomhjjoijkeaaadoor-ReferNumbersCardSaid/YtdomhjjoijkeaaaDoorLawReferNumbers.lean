/- Proved here: the law ReferNumbers answers true at every number, in every world that holds the library's two tables and refer's table of names; what was there stays. -/
import Derived.Test.YtdomhjjoijkeaaaDoorAwake2
import Derived.Test.YtdomhjjoijkeaaaDoorNumbersPlain
import Derived.Test.YtdomhjjoijkeaaaDoorBytesOf
import Derived.Test.YtdomhjjoijkeaaaDoorExpand
import Derived.BigGuardPart
namespace Go.Proofs.YtdomhjjoijkeaaaDoor
open Go.RowKit

def tenB (D : ByteArray) : ByteArray := ⟨#[38, 35]⟩ ++ D ++ ⟨#[59]⟩
def hexB (D : ByteArray) : ByteArray := ⟨#[38, 35, 120]⟩ ++ D ++ ⟨#[59]⟩
def inB (A : ByteArray) : ByteArray := ⟨#[120]⟩ ++ A ++ ⟨#[121]⟩
theorem tenB_size (D : ByteArray) : (tenB D).size = D.size + 3 := by
  unfold tenB
  rw [ByteArray.size_append, ByteArray.size_append]
  show 2 + D.size + 1 = _
  omega
theorem hexB_size (D : ByteArray) : (hexB D).size = D.size + 4 := by
  unfold hexB
  rw [ByteArray.size_append, ByteArray.size_append]
  show 3 + D.size + 1 = _
  omega
theorem inB_size (D : ByteArray) : (inB D).size = D.size + 2 := by
  unfold inB
  rw [ByteArray.size_append, ByteArray.size_append]
  show 1 + D.size + 1 = _
  omega
theorem ten_says (n : Nat) (D : ByteArray) (hv : valL 10 0 D.data.toList = n) (hd : DigsOk 10 D) (h0 : 0 < D.size) : expF (inB (tenB D)) 1 = numSays n (D.size + 4) ∧ by_ (inB (tenB D)) 1 = 38 := by
  have h : (inB (tenB D)).data.toList.drop 1 = 38 :: 35 :: (D.data.toList ++ 59 :: [121]) := by unfold inB tenB; simp
  have hs : D.data.toList.length = D.size := by simp
  have := exp_ten (inB (tenB D)) 1 n D.data.toList [121] h (by omega) hd hv
  rw [hs, show 1 + 2 + D.size + 1 = D.size + 4 by omega] at this
  exact ⟨this, (by_list h).2.1⟩
theorem hex_says (n : Nat) (D : ByteArray) (hv : valL 16 0 D.data.toList = n) (hd : DigsOk 16 D) (h0 : 0 < D.size) : expF (hexB D) 0 = numSays n (D.size + 4) ∧ by_ (hexB D) 0 = 38 := by
  have h : (hexB D).data.toList.drop 0 = 38 :: 35 :: 120 :: (D.data.toList ++ 59 :: []) := by unfold hexB; simp
  have hs : D.data.toList.length = D.size := by simp
  have := exp_sixteen (hexB D) 0 n D.data.toList [] h (by omega) hd hv
  rw [hs, show 0 + 3 + D.size + 1 = D.size + 4 by omega] at this
  exact ⟨this, (by_list h).2.1⟩

set_option maxHeartbeats 8000000 in
set_option maxRecDepth 100000 in
theorem referNumbers_big (n k : Nat) (cap : Bool) (w : World) (hT : Tabs w) (hN : NamedAt w) (hn : n < 2 ^ 63) (hk : k ≤ 255) (hbig : 1114111 < n) :
    Calls Tryd.prog 7 #[.int .i64 n, .int .u8 k, .bool cap] w fun e w' => e = .returned (.bool true) ∧ Below w.heap.size w w' := by
  have A := Lib.hid (awake2_any w hT hN)
  have HN := Lib.hid hN
  have hz : ¬ (n : Int) < 0 := by omega
  have hh : (1114111 : Int) < (n : Int) := by omega
  have hC := char_big (n := n) (by omega)
  clear hbig
  have HH := Lib.hid hh
  clear hT hN hh
  go_enter Tryd.func7, Tryd.ntmps7
  go_wp2_with (fail)
  refine A.out.mono ?_
  rintro e w1 ⟨rfl, hB1⟩
  go_wp2_with (fail)
  refine (digits_ten n k false w1 hn hk).mono ?_
  rintro e w2 ⟨⟨D, rfl, d1, d2, d3, d4⟩, hb2⟩
  have hB2 := below_cat hB1 hb2
  have DS := Lib.hid (ten_says n D d1 d2 d3)
  clear hb2 hB1 d1 d2 d3
  go_wp2_with (fail)
  all_goals try (exfalso; omega)
  refine (digits_sixteen n k cap w2 hn hk).mono ?_
  rintro e w3 ⟨⟨E, rfl, e1, e2, e3, e4⟩, hb3⟩
  have hB3 := below_cat hB2 hb3
  have ES := Lib.hid (hex_says n E e1 e2 e3)
  clear hb3 hB2 e1 e2 e3
  obtain ⟨cap1, W1, hcv1, hcap1, hb4, hsz1, hp1⟩ := bytes_of w3 (inB (tenB D))
  have hB4 := below_cat hB3 hb4
  have X1 := Lib.hid (expand_in (inB (tenB D)) w3.heap.size 0 cap1 1 W1 (by rw [inB_size, tenB_size]; omega) hcap1 (by rw [inB_size, tenB_size]; omega) DS.out.2 (HN.out.below hB4) hp1)
  rw [DS.out.1] at X1
  unfold numSays at X1
  rw [if_neg (by rw [hC]; decide)] at X1
  rw [inB_size, tenB_size] at hcv1 X1
  simp only [inB, tenB] at hcv1
  clear hsz1 hp1 hcap1 hB3 hb4
  go_wp2_with (fail)
  all_goals try (exfalso; omega)
  refine X1.out.mono ?_
  rintro e w4 ⟨rfl, hb5⟩
  have hB5 := below_cat hB4 hb5
  obtain ⟨cap2, W2, hcv2, hcap2, hb6, hsz2, hp2⟩ := bytes_of w4 (hexB E)
  have hB6 := below_cat hB5 hb6
  have X2 := Lib.hid (expand_in (hexB E) w4.heap.size 0 cap2 0 W2 (by rw [hexB_size]; omega) hcap2 (by rw [hexB_size]; omega) ES.out.2 (HN.out.below hB6) hp2)
  rw [ES.out.1] at X2
  unfold numSays at X2
  rw [if_neg (by rw [hC]; decide)] at X2
  rw [hexB_size] at hcv2 X2
  simp only [hexB] at hcv2
  clear hsz2 hp2 hcap2 hB5 hb6 hB4 hb5 hcv1
  go_wp2_with (fail)
  refine X2.out.mono ?_
  rintro e w5 ⟨rfl, hb7⟩
  have hB7 := below_cat hB6 hb7
  have hbz := HH.out
  clear hb7 hB6 hcv2
  go_wp2_with (fail)
  all_goals first | (exfalso; omega) | (go_ret; exact ⟨ret_bool (by first | (simp; done) | (simp; omega)), hB7⟩)

set_option maxHeartbeats 8000000 in
set_option maxRecDepth 100000 in
theorem referNumbers_no (n k : Nat) (cap : Bool) (w : World) (hT : Tabs w) (hN : NamedAt w) (hn : n < 2 ^ 63) (hk : k ≤ 255) (hle : n ≤ 1114111) (hC : charB (n : Int) = false) :
    Calls Tryd.prog 7 #[.int .i64 n, .int .u8 k, .bool cap] w fun e w' => e = .returned (.bool true) ∧ Below w.heap.size w w' := by
  have A := Lib.hid (awake2_any w hT hN)
  have HN := Lib.hid hN
  have hz : ¬ (n : Int) < 0 := by omega
  have hh : ¬ (1114111 : Int) < (n : Int) := by omega
  clear hle
  have HH := Lib.hid hh
  clear hT hN hh
  go_enter Tryd.func7, Tryd.ntmps7
  go_wp2_with (fail)
  refine A.out.mono ?_
  rintro e w1 ⟨rfl, hB1⟩
  go_wp2_with (fail)
  refine (digits_ten n k false w1 hn hk).mono ?_
  rintro e w2 ⟨⟨D, rfl, d1, d2, d3, d4⟩, hb2⟩
  have hB2 := below_cat hB1 hb2
  have DS := Lib.hid (ten_says n D d1 d2 d3)
  clear hb2 hB1 d1 d2 d3
  go_wp2_with (fail)
  all_goals try (exfalso; omega)
  refine (digits_sixteen n k cap w2 hn hk).mono ?_
  rintro e w3 ⟨⟨E, rfl, e1, e2, e3, e4⟩, hb3⟩
  have hB3 := below_cat hB2 hb3
  have ES := Lib.hid (hex_says n E e1 e2 e3)
  clear hb3 hB2 e1 e2 e3
  obtain ⟨cap1, W1, hcv1, hcap1, hb4, hsz1, hp1⟩ := bytes_of w3 (inB (tenB D))
  have hB4 := below_cat hB3 hb4
  have X1 := Lib.hid (expand_in (inB (tenB D)) w3.heap.size 0 cap1 1 W1 (by rw [inB_size, tenB_size]; omega) hcap1 (by rw [inB_size, tenB_size]; omega) DS.out.2 (HN.out.below hB4) hp1)
  rw [DS.out.1] at X1
  unfold numSays at X1
  rw [if_neg (by rw [hC]; decide)] at X1
  rw [inB_size, tenB_size] at hcv1 X1
  simp only [inB, tenB] at hcv1
  clear hsz1 hp1 hcap1 hB3 hb4
  go_wp2_with (fail)
  all_goals try (exfalso; omega)
  refine X1.out.mono ?_
  rintro e w4 ⟨rfl, hb5⟩
  have hB5 := below_cat hB4 hb5
  obtain ⟨cap2, W2, hcv2, hcap2, hb6, hsz2, hp2⟩ := bytes_of w4 (hexB E)
  have hB6 := below_cat hB5 hb6
  have X2 := Lib.hid (expand_in (hexB E) w4.heap.size 0 cap2 0 W2 (by rw [hexB_size]; omega) hcap2 (by rw [hexB_size]; omega) ES.out.2 (HN.out.below hB6) hp2)
  rw [ES.out.1] at X2
  unfold numSays at X2
  rw [if_neg (by rw [hC]; decide)] at X2
  rw [hexB_size] at hcv2 X2
  simp only [hexB] at hcv2
  clear hsz2 hp2 hcap2 hB5 hb6 hB4 hb5 hcv1
  go_wp2_with (fail)
  refine X2.out.mono ?_
  rintro e w5 ⟨rfl, hb7⟩
  have hB7 := below_cat hB6 hb7
  have hbz := HH.out
  clear hb7 hB6 hcv2
  go_wp2_with (fail)
  refine (isChar (n : Int) _).mono ?_
  rintro e w6 ⟨rfl, rfl⟩
  rw [hC]
  go_wp2_with (fail)
  all_goals first | (exfalso; omega) | (go_ret; exact ⟨ret_bool (by first | (simp; done) | (simp; omega)), hB7⟩)

set_option maxHeartbeats 8000000 in
set_option maxRecDepth 100000 in
theorem referNumbers_yes (n k : Nat) (cap : Bool) (w : World) (hT : Tabs w) (hN : NamedAt w) (hn : n < 2 ^ 63) (hk : k ≤ 255) (hle : n ≤ 1114111) (hC : charB (n : Int) = true) :
    Calls Tryd.prog 7 #[.int .i64 n, .int .u8 k, .bool cap] w fun e w' => e = .returned (.bool true) ∧ Below w.heap.size w w' := by
  have A := Lib.hid (awake2_any w hT hN)
  have HN := Lib.hid hN
  have hz : ¬ (n : Int) < 0 := by omega
  have hh : ¬ (1114111 : Int) < (n : Int) := by omega
  clear hle
  have HH := Lib.hid hh
  clear hT hN hh
  go_enter Tryd.func7, Tryd.ntmps7
  go_wp2_with (fail)
  refine A.out.mono ?_
  rintro e w1 ⟨rfl, hB1⟩
  go_wp2_with (fail)
  refine (digits_ten n k false w1 hn hk).mono ?_
  rintro e w2 ⟨⟨D, rfl, d1, d2, d3, d4⟩, hb2⟩
  have hB2 := below_cat hB1 hb2
  have DS := Lib.hid (ten_says n D d1 d2 d3)
  clear hb2 hB1 d1 d2 d3
  go_wp2_with (fail)
  all_goals try (exfalso; omega)
  refine (digits_sixteen n k cap w2 hn hk).mono ?_
  rintro e w3 ⟨⟨E, rfl, e1, e2, e3, e4⟩, hb3⟩
  have hB3 := below_cat hB2 hb3
  have ES := Lib.hid (hex_says n E e1 e2 e3)
  clear hb3 hB2 e1 e2 e3
  obtain ⟨cap1, W1, hcv1, hcap1, hb4, hsz1, hp1⟩ := bytes_of w3 (inB (tenB D))
  have hB4 := below_cat hB3 hb4
  have X1 := Lib.hid (expand_in (inB (tenB D)) w3.heap.size 0 cap1 1 W1 (by rw [inB_size, tenB_size]; omega) hcap1 (by rw [inB_size, tenB_size]; omega) DS.out.2 (HN.out.below hB4) hp1)
  rw [DS.out.1] at X1
  unfold numSays at X1
  rw [if_pos hC] at X1
  rw [inB_size, tenB_size] at hcv1 X1
  simp only [inB, tenB] at hcv1
  clear hsz1 hp1 hcap1 hB3 hb4
  go_wp2_with (fail)
  all_goals try (exfalso; omega)
  refine X1.out.mono ?_
  rintro e w4 ⟨rfl, hb5⟩
  have hB5 := below_cat hB4 hb5
  obtain ⟨cap2, W2, hcv2, hcap2, hb6, hsz2, hp2⟩ := bytes_of w4 (hexB E)
  have hB6 := below_cat hB5 hb6
  have X2 := Lib.hid (expand_in (hexB E) w4.heap.size 0 cap2 0 W2 (by rw [hexB_size]; omega) hcap2 (by rw [hexB_size]; omega) ES.out.2 (HN.out.below hB6) hp2)
  rw [ES.out.1] at X2
  unfold numSays at X2
  rw [if_pos hC] at X2
  rw [hexB_size] at hcv2 X2
  simp only [hexB] at hcv2
  clear hsz2 hp2 hcap2 hB5 hb6 hB4 hb5 hcv1
  go_wp2_with (fail)
  refine X2.out.mono ?_
  rintro e w5 ⟨rfl, hb7⟩
  have hB7 := below_cat hB6 hb7
  have hbz := HH.out
  clear hb7 hB6 hcv2
  go_wp2_with (fail)
  all_goals first | (refine (isChar (n : Int) _).mono ?_; rintro e w6 ⟨rfl, rfl⟩; rw [hC]; go_wp2_with (fail)) | skip
  all_goals first | (exfalso; omega) | (go_ret; exact ⟨ret_bool (by first | (simp; done) | (simp; omega)), hB7⟩)

theorem referNumbers_walk (n k : Int) (cap : Bool) (w : World) (hT : Tabs w) (hN : NamedAt w) (hn : -9223372036854775808 ≤ n ∧ n ≤ 9223372036854775807) (hk : 0 ≤ k ∧ k ≤ 255) :
    Calls Tryd.prog 7 #[.int .i64 n, .int .u8 k, .bool cap] w fun e w' => e = .returned (.bool true) ∧ Below w.heap.size w w' := by
  by_cases hz : n < 0
  · have A := Lib.hid (awake2_any w hT hN)
    clear hT hN
    go_enter Tryd.func7, Tryd.ntmps7
    go_wp2_with (fail)
    refine A.out.mono ?_
    rintro e w1 ⟨rfl, hB1⟩
    go_wp2_with (fail)
    go_ret
    exact ⟨rfl, hB1⟩
  · obtain ⟨m, rfl⟩ : ∃ m : Nat, n = m := ⟨n.toNat, by omega⟩
    obtain ⟨j, rfl⟩ : ∃ j : Nat, k = j := ⟨k.toNat, by omega⟩
    by_cases hb : 1114111 < m
    · exact referNumbers_big m j cap w hT hN (by omega) (by omega) hb
    · cases hc : charB (m : Int)
      · exact referNumbers_no m j cap w hT hN (by omega) (by omega) (by omega) hc
      · exact referNumbers_yes m j cap w hT hN (by omega) (by omega) (by omega) hc
end Go.Proofs.YtdomhjjoijkeaaaDoor
