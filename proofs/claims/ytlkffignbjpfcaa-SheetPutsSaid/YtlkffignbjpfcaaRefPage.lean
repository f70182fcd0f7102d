/- Proved here: what the document's page's bytes are, and the page of bytes. -/
import Derived.Test.YtlkffignbjpfcaaRefOct
import Derived.Test.YtlkffignbjpfcaaSheetTake
import Derived.Lib.Strings
namespace Go.Proofs.Ytlkffignbjpfcaa
open Go.RowKit

set_option maxRecDepth 100000 in
set_option maxHeartbeats 4000000 in
theorem rlay_ok (n stamp : Nat) (p : Option Addr) (s : ByteArray) (m c : Nat) (w : World) (hn : n ≤ 4294967295) (hst : stamp < 18446744073709551616) (hm : s.size = m) (hs : m ≤ 496) (hp : HoldsB w p s) :
    Calls Try.prog 14 #[.int .i64 (n : Int), .int .u64 (stamp : Int), .slice p m c] w fun e w' => ∃ r, e = .returned (.tuple #[r, .int .i64 0]) ∧ NewB (pageL n stamp (bl s)) w r w' := by
  have O4 := Lib.hid (rnumber_any n 4 w (by omega) (by decide) (by omega))
  have HH := Lib.hid (And.intro hp (And.intro hm (And.intro hs hst)))
  have hn1 : (n : Int) ≤ 4294967295 := by omega
  have hn0 : (0 : Int) ≤ (n : Int) := by omega
  have hm9 : (m : Int) ≤ 496 := by omega
  clear hp hm hst
  go_enter Try.func14, Try.ntmps14
  go_wp2_with (fail)
  refine O4.out.mono ?_
  rintro e W1 ⟨r, rfl, g1, c1, rfl, ho, hb⟩
  have H1 := Lib.hid (And.intro ho hb)
  clear ho hb O4
  go_wp2_with (fail)
  refine (rnumber_any stamp 8 W1 HH.out.2.2.2 (by decide) (by omega)).mono ?_
  rintro e W2 ⟨r, rfl, g2, c2, rfl, ho, hb⟩
  obtain ⟨g3, k3, w3, hrun, ho3, hb3⟩ := append_next (c := c2) (H1.out.1.far hb) (below_cat H1.out.2 hb) ho.holds (fun e => by cases e) (by rw [ofL_size, ofL_size, numL_length, numL_length]; decide)
  rw [ofL_size, ofL_size, numL_length, numL_length] at hrun
  have R3 := Lib.hid hrun
  have H3 := Lib.hid (And.intro ho3 hb3)
  clear ho hb hrun ho3 hb3
  go_wp2_with (at_builtin; refine wpList_append_eq rfl _ _ _ rfl _ _ _ _ rfl rfl R3.out ?_)
  refine (fill_any p s m c 496 w3 HH.out.2.1 HH.out.2.2.1 (by decide) (HH.out.1.below H3.out.2)).mono ?_
  rintro e W4 ⟨r, rfl, g4, c4, rfl, ho, hb⟩
  have hl : (fillL (bl s) 496).length = 496 := fillL_length (by rw [bl_length, HH.out.2.1]; exact HH.out.2.2.1)
  obtain ⟨g5, k5, w5, hrun, ho5, hb5⟩ := append_next (c := c4) (H3.out.1.far hb) (below_cat H3.out.2 hb) ho.holds (fun e => by cases e) (by rw [ByteArray.size_append, ofL_size, ofL_size, ofL_size, numL_length, numL_length, hl]; decide)
  rw [ByteArray.size_append, ofL_size, ofL_size, ofL_size, numL_length, numL_length, hl] at hrun
  have R5 := Lib.hid hrun
  have H5 := Lib.hid (And.intro ho5 hb5)
  have HL := Lib.hid hl
  rw [hl]
  clear ho hb hrun ho5 hb5 hl
  go_wp2_with (at_builtin; refine wpList_append_eq rfl _ _ _ rfl _ _ _ _ rfl rfl R5.out ?_)
  refine (rseal_any (some ⟨g5, 0, none⟩) _ 508 k5 w5 (by rw [ByteArray.size_append, ByteArray.size_append, ofL_size, ofL_size, ofL_size, numL_length, numL_length, HL.out]) (by decide) H5.out.1.holds (fun e => by cases e)).mono ?_
  rintro e W6 ⟨r, rfl, hr⟩
  have HR := Lib.hid (hr.after H5.out.2)
  clear hr
  go_wp2_with (fail)
  go_ret2
  refine ⟨_, rfl, ?_⟩
  have h := HR.out
  rw [bl_append, bl_append, bl_ofL, bl_ofL, bl_ofL, List.append_assoc] at h
  exact h
set_option maxHeartbeats 1000000 in
theorem rlay_arg (n : Int) (h : n < 0 ∨ 4294967295 < n) (st : Int) (p : Option Addr) (m c : Nat) (w : World) :
    Calls Try.prog 14 #[.int .i64 n, .int .u64 st, .slice p m c] w fun e w' => e = .returned (.tuple #[.slice none 0 0, .int .i64 1]) ∧ w = w' := by
  go_enter Try.func14, Try.ntmps14
  go_wp2_with (fail)
  all_goals first | (exfalso; omega) | (go_ret2; exact ⟨rfl, rfl⟩)
set_option maxHeartbeats 1000000 in
theorem rlay_long (n : Nat) (hn : n ≤ 4294967295) (st : Int) (p : Option Addr) (m c : Nat) (hm : 496 < m) (w : World) :
    Calls Try.prog 14 #[.int .i64 (n : Int), .int .u64 st, .slice p m c] w fun e w' => e = .returned (.tuple #[.slice none 0 0, .int .i64 6]) ∧ w = w' := by
  have hm9 : (496 : Int) < (m : Int) := by omega
  have hn1 : (n : Int) ≤ 4294967295 := by omega
  have hn0 : (0 : Int) ≤ (n : Int) := by omega
  go_enter Try.func14, Try.ntmps14
  go_wp2_with (fail)
  all_goals first | (exfalso; omega) | (go_ret2; exact ⟨rfl, rfl⟩)
set_option maxHeartbeats 1000000 in
theorem rtake_arg (n : Int) (h : n < 0 ∨ 4294967295 < n) (p : Option Addr) (m c : Nat) (w : World) :
    Calls Try.prog 20 #[.int .i64 n, .slice p m c] w fun e w' => e = .returned (.tuple #[.slice none 0 0, .int .u64 0, .int .i64 1]) ∧ w = w' := by
  go_enter Try.func20, Try.ntmps20
  go_wp2_with (fail)
  all_goals first | (exfalso; omega) | (go_ret3; exact ⟨rfl, rfl⟩)
set_option maxHeartbeats 1000000 in
theorem rtake_len (n : Nat) (hn : n ≤ 4294967295) (p : Option Addr) (m c : Nat) (hm : m ≠ 512) (w : World) :
    Calls Try.prog 20 #[.int .i64 (n : Int), .slice p m c] w fun e w' => e = .returned (.tuple #[.slice none 0 0, .int .u64 0, .int .i64 6]) ∧ w = w' := by
  have hm9 : ((m : Int) == 512) = false := by rw [beq_eq_false_iff_ne]; omega
  have hn1 : (n : Int) ≤ 4294967295 := by omega
  have hn0 : (0 : Int) ≤ (n : Int) := by omega
  go_enter Try.func20, Try.ntmps20
  go_wp2_with (fail)
  all_goals first | (exfalso; omega) | (go_ret3; exact ⟨rfl, rfl⟩)
theorem blank_snoc (s : ByteArray) (k : Nat) (h : k < s.size) : blankL ((bl s).take (k + 1)) = (blankL ((bl s).take k) && decide (s.get! k = 0)) := by
  rw [take_more s k h]
  simp [blankL]
theorem same_data (a b : ByteArray) : (a.toList == b.toList) = decide (a = b) := by
  rw [Bool.eq_iff_iff, decide_eq_true_eq, beq_iff_eq, Lib.toList_data, Lib.toList_data]
  constructor
  · intro e
    exact ByteArray.ext (Array.toList_inj.1 e)
  · rintro rfl
    rfl
end Go.Proofs.Ytlkffignbjpfcaa
