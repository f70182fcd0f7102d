/- Proved here: what the library's Clone of bytes answers, whether bytes are blank, whether they stand behind their sum, and bytes behind their sum. -/
import Derived.Test.YtlkffignbjpfcaaConcat
import Derived.BigQuiet
import Derived.Deep.QuietTactic
namespace Go.Proofs.Ytlkffignbjpfcaa
open Go.RowKit

theorem HoldsB.drewN {w : World} {p : Option Addr} {s : ByteArray} (h : HoldsB w p s) (n : Nat) : HoldsB (w.drewN n) p s := fun h0 => by
  obtain ⟨b, off, e, hc⟩ := h h0
  exact ⟨b, off, e, fun j hj => by simpa using hc j hj⟩
theorem ext_at (s : ByteArray) (i j k : Nat) (hj : j ≤ s.size) (hk : i + k < j) : (s.extract i j).get! k = s.get! (i + k) := by
  have hz : (s.extract i j).size = j - i := by rw [ByteArray.size_extract]; omega
  have e1 := bl_get (s.extract i j) k (by omega)
  have e2 := bl_get s (i + k) (by omega)
  rw [bl_extract, List.getElem?_take_of_lt (by omega), List.getElem?_drop] at e1
  exact (Option.some.inj (e1.symm.trans e2))
theorem HoldsB.part {w : World} {b off : Nat} {s : ByteArray} (h : HoldsB w (some ⟨b, off, none⟩) s) (i j : Nat) (hj : j ≤ s.size) : HoldsB w (some ⟨b, off + i, none⟩) (s.extract i j) := fun h0 => by
  rw [ByteArray.size_extract] at h0
  obtain ⟨b', off', e, hc⟩ := h (by omega)
  injection e with e
  injection e with e1 e2
  subst e1 e2
  refine ⟨b, off + i, rfl, fun k hk => ?_⟩
  rw [ByteArray.size_extract] at hk
  rw [Nat.add_assoc, hc (i + k) (by omega), ext_at s i j k hj (by omega)]
theorem ext_size (s : ByteArray) (i j : Nat) (hj : j ≤ s.size) : (s.extract i j).size = j - i := by rw [ByteArray.size_extract]; omega

set_option maxRecDepth 100000 in
set_option maxHeartbeats 1000000 in
theorem clone_some (b off : Nat) (s : ByteArray) (n c : Nat) (w : World) (hn : s.size = n) (hs : n ≤ 1099511627776) (hp : HoldsB w (some ⟨b, off, none⟩) s) :
    Calls Try.prog 66 #[.slice (some ⟨b, off, none⟩) n c] w fun e w' => ∃ r, e = .returned r ∧ NewB (bl s) w r w' := by
  obtain ⟨g, k, w1, hr, ho, hb, _⟩ := append_first (c := c) hp (fun e => by cases e) (by omega)
  have hl := bl_length s
  have hne := Lib.run_eql_slice_nil (P := Try.prog) w 33 5 (some ⟨b, off, none⟩) n c 0 0 Try.underlying33
  rw [show (some (⟨b, off, none⟩ : Addr)).isNone = false from rfl] at hne
  rw [hn] at hr hl
  have HR := Lib.hid hr
  have HO := Lib.hid (And.intro ho (And.intro hb hl))
  clear hr ho hb hp hl hn
  go_enter Try.func66, Try.ntmps66
  go_wp2_with (at_builtin; refine wpList_append_eq rfl _ _ _ rfl _ _ _ _ rfl rfl HR.out ?_)
  go_ret
  refine ⟨_, rfl, g, k, ?_, ?_, HO.out.2.1⟩
  · rw [HO.out.2.2]; rfl
  · rw [ofL_bl]; exact HO.out.1
theorem notZero_any (c : UInt8) (w : World) : Calls Try.prog 72 #[.int .u8 (c.toNat : Int)] w fun e w' => e = .returned (.bool (decide (c ≠ 0))) ∧ w = w' := by
  have e : decide (c ≠ 0) = ((c.toNat : Int) != 0) := by
    rw [Bool.eq_iff_iff, decide_eq_true_eq, bne_iff_ne]
    constructor
    · intro h e; apply h; apply UInt8.toNat.inj; simpa using e
    · rintro h rfl; exact h rfl
  rw [e]
  generalize (c.toNat : Int) = x
  go_enter Try.func72, Try.ntmps72
  go_wp2_with (fail)
  all_goals (go_ret; exact ⟨ret_bool (by first | rfl | simp), rfl⟩)
/-- Are bytes those of a page that was never written? -/
def blankL (l : List UInt8) : Bool := l.all fun c => decide (c = 0)
theorem drop_bl (s : ByteArray) (k : Nat) (h : k < s.size) : (bl s).drop k = s.get! k :: (bl s).drop (k + 1) := by
  have h1 := bl_get s k h
  have h2 : k < (bl s).length := by rw [bl_length]; exact h
  rw [List.getElem?_eq_getElem h2] at h1
  rw [List.drop_eq_getElem_cons h2, Option.some.inj h1]
set_option maxRecDepth 100000 in
set_option maxHeartbeats 1000000 in
theorem index_any (p : Option Addr) (s : ByteArray) (n c : Nat) (w : World) (hn : s.size = n) (hs : n ≤ 1099511627776) (hp : HoldsB w p s) :
    Calls Try.prog 73 #[.slice p n c, .func (.func 72) #[] #[]] w fun e w' => ∃ k : Int, e = .returned (.int .i64 k) ∧ decide (0 ≤ k) = !(blankL (bl s)) ∧ w = w' := by
  have HN := Lib.hid hn
  have hn9 : (n : Int) ≤ 1099511627776 := by omega
  obtain ⟨r, hr⟩ : ∃ r, blankL (bl s) = r := ⟨_, rfl⟩
  have HR := Lib.hid hr
  rw [hr]; clear hr hn hs
  go_enter Try.func73, Try.ntmps73
  go_wp2_with (fail)
  go_loop [8] (fun i => ∃ k : Nat, k ≤ n ∧ i = .int .i64 k ∧ Hid (blankL ((bl s).drop k) = r)) (fun i => n - (intOf i).toNat)
  case atStart => exact ⟨0, Nat.zero_le _, rfl, Lib.hid (by rw [List.drop_zero]; exact HR.out)⟩
  case round =>
    obtain ⟨k, hk, rfl, HD⟩ := hrel
    by_cases hlt : k < n
    · obtain ⟨b, off, rfl, hc⟩ := hp (by rw [HN.out]; omega)
      have hcell := hc k (by rw [HN.out]; exact hlt)
      have C := Lib.hid (notZero_any (s.get! k))
      have hd := HD.out
      rw [drop_bl s k (by rw [HN.out]; exact hlt)] at hd
      have hd' : (decide (s.get! k = 0) && blankL ((bl s).drop (k + 1))) = r := by rw [← hd]; simp [blankL]
      have H2 := Lib.hid hd'
      clear hd hd' hp hc
      by_cases hz : s.get! k = 0
      · have e : decide (s.get! k ≠ 0) = false := by simp [hz]
        have hb := H2.out
        rw [hz, decide_eq_true rfl, Bool.true_and] at hb
        have HB := Lib.hid hb
        rw [e] at C
        clear e hz hb
        go_wp2_with (fail)
        refine (C.out _).mono ?_
        rintro e w' ⟨rfl, rfl⟩
        go_wp2_with (fail)
        go_round
        case rel => exact ⟨k + 1, by omega, by go_num, HB⟩
        case measure => simp [intOf]; omega
      · have e : decide (s.get! k ≠ 0) = true := by simp [hz]
        have hb := H2.out
        rw [decide_eq_false hz, Bool.false_and] at hb
        have HB := Lib.hid hb
        rw [e] at C
        clear e hz hb
        go_wp2_with (fail)
        refine (C.out _).mono ?_
        rintro e w' ⟨rfl, rfl⟩
        go_wp2_with (fail)
        go_ret
        exact ⟨k, rfl, by rw [← HB.out]; simp, rfl⟩
    · have hb := HD.out
      rw [List.drop_eq_nil_of_le (by rw [bl_length, HN.out]; omega)] at hb
      have HB := Lib.hid hb
      clear hb
      go_wp2_with (fail)
      go_ret
      exact ⟨-1, rfl, by rw [← HB.out]; rfl, rfl⟩
set_option maxHeartbeats 1000000 in
theorem blank_any (p : Option Addr) (s : ByteArray) (n c : Nat) (w : World) (hn : s.size = n) (hs : n ≤ 1099511627776) (hp : HoldsB w p s) :
    Calls Try.prog 63 #[.slice p n c] w fun e w' => e = .returned (.bool (blankL (bl s))) ∧ w = w' := by
  have IX := Lib.hid (index_any p s n c w hn hs hp)
  have CF : Calls Try.prog 71 #[.slice p n c, .func (.func 72) #[] #[]] w fun e w' => e = .returned (.bool (!(blankL (bl s)))) ∧ w = w' := by
    clear hn hs hp
    go_enter Try.func71, Try.ntmps71
    go_wp2_with (fail)
    refine IX.out.mono ?_
    rintro e w' ⟨k, rfl, hk, rfl⟩
    have HK := Lib.hid hk
    clear hk
    go_wp2_with (fail)
    all_goals (go_ret; exact ⟨ret_bool (by first | (rw [← HK.out]; done) | (rw [← HK.out]; simp; done) | (rw [← HK.out]; simp; omega)), rfl⟩)
  have H := Lib.hid CF
  clear IX CF hn hs hp
  generalize blankL (bl s) = r at *
  go_enter Try.func63, Try.ntmps63
  go_wp2_with (fail)
  refine H.out.mono ?_
  rintro e w' ⟨rfl, rfl⟩
  go_wp2_with (fail)
  all_goals (go_ret; exact ⟨ret_bool (by first | rfl | simp), rfl⟩)
theorem isNumber_yes (n : Nat) (h : n ≤ 4294967295) (w : World) : Calls Try.prog 59 #[.int .i64 (n : Int)] w fun e w' => e = .returned (.bool true) ∧ w = w' := by
  have h1 : (n : Int) ≤ 4294967295 := by omega
  have h0 : (0 : Int) ≤ (n : Int) := by omega
  go_enter Try.func59, Try.ntmps59
  go_wp2_with (fail)
  all_goals first | (exfalso; omega) | (go_ret; exact ⟨ret_bool (by first | rfl | simp; done | (simp; omega)), rfl⟩)
theorem isNumber_no (n : Int) (h : n < 0 ∨ 4294967295 < n) (w : World) : Calls Try.prog 59 #[.int .i64 n] w fun e w' => e = .returned (.bool false) ∧ w = w' := by
  rcases h with h | h
  · have h0 : ¬ (0 : Int) ≤ n := by omega
    go_enter Try.func59, Try.ntmps59
    go_wp2_with (fail)
    all_goals first | (exfalso; omega) | (go_ret; exact ⟨ret_bool (by first | rfl | simp; done | (simp; omega)), rfl⟩)
  · have h0 : (0 : Int) ≤ n := by omega
    go_enter Try.func59, Try.ntmps59
    go_wp2_with (fail)
    all_goals first | (exfalso; omega) | (go_ret; exact ⟨ret_bool (by first | rfl | simp; done | (simp; omega)), rfl⟩)
end Go.Proofs.Ytlkffignbjpfcaa
