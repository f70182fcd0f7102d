/- Proved here: the statement ScanCuts, walked: of a place within a token, where an error is told. -/
import Derived.Test.YtpcdcndniibalaaGreatDoorM27
import Derived.BigGuardPart
import Derived.Laws.DeepStrings4
namespace Go.Proofs.YtpcdcndniibalaaGreatDoor
open Go.RowKit

set_option maxRecDepth 100000 in
set_option maxHeartbeats 16000000 in
theorem cuts_b2 (p : Option Addr) (s : ByteArray) (c m : Nat) (w : World) (hs : s.size ≤ 140737488355000) (hc : s.size ≤ c) (hp : HoldsB w p s) (hL : Leans w)
    (l : List (Nat × Tok)) (hl : allF s = .ok l) (t : ByteArray) (htx : textF s = t) (hmt : m ≤ t.size) (i : Nat) (hi : i ≤ l.length) (h1 : ∀ j x, j < i → l[j]? = some x → x.1 < m) (yi : Nat × Tok) (hyi : l[i]? = some yi) (hge : m ≤ yi.1) (hmy : m < yi.1) (hm : m < t.size) (hpos : 0 < i) (hlat : ¬ laterB (t.get! m)) (y : Nat × Tok) (hy : l[i - 1]? = some y) (e2 : Nat) (he2 : e2 ≠ 0) (h2 : allF (markedB (t.extract 0 m)) = .error (y.1, e2)) :
    Calls Tryz.prog 3 #[.slice p s.size c, .int .i64 (m : Int)] w fun e w' => e = .returned (.bool true) ∧ Below w.heap.size w w' := by
  have hts : t.size ≤ 65536 := by have h3 := text_size s; have h4 := (all_ok hl).2; rw [htx] at h3; omega
  have hms : (markedB (t.extract 0 m)).size ≤ 65539 := by
    have hz : (t.extract 0 m).size ≤ 65536 := by simp; omega
    unfold markedB
    split
    · rw [size_cat]; show 3 + _ ≤ _; omega
    · omega
  have hll := (all_len hl).1
  have hpl := (all_len hl).2
  have AW := Lib.hid (awake3_any w hL)
  have A1 := Lib.hid (fun W (y : Below w.heap.size w W) (q : Option Addr) (k : Nat) (t : ByteArray) (ht : t.size ≤ 140737488355328) (hk : t.size ≤ k) (h : HoldsB W q t) => (all_any q t k W ht hk h (hL.below y).tabs (hL.below y).named (hL.below y).max (hL.below y).fold).mono (fun e w' z => And.intro z.1 z.2))
  have HP := Lib.hid (fun W (y : Below w.heap.size w W) => hp.below y)
  have TX := Lib.hid (fun W (y : Below w.heap.size w W) => refText_any p s c W hs hc (hp.below y))
  have HS := Lib.hid (And.intro hs hc)
  have AS := Lib.hid (fun W (y : Below w.heap.size w W) => (A1.out W y p c s (by omega) hc (hp.below y)).mono (fun e w' z => And.intro (all_okform z.1 hl rfl) z.2))
  have MK := Lib.hid (fun W => marked_any (t.extract 0 m) W (by simp; omega))
  have A2 := Lib.hid (fun W (y : Below w.heap.size w W) (q : Option Addr) (k : Nat) (hk : (markedB (t.extract 0 m)).size ≤ k) (h : HoldsB W q (markedB (t.extract 0 m))) => (A1.out W y q k _ (by omega) hk h).mono (fun e w' z => And.intro (all_badform z.1 h2) z.2))
  rw [htx] at TX
  have HT := Lib.hid hts
  have n0 : ¬ (m : Int) < 0 := by omega
  have n1 : ¬ (t.size : Int) < (m : Int) := by omega
  have n2 : (m : Int) ≤ (t.size : Int) := by omega
  have n3 : (m : Int) ≤ 65536 := by omega
  have n4 : (i : Int) ≤ 65536 := by omega
  have hil : i < l.length := (List.getElem?_eq_some_iff.1 hyi).1
  have x0 : (i : Int) < (l.length : Int) := by omega
  have x1 : ¬ (yi.1 : Int) < (m : Int) := by omega
  have HYI := Lib.hid hyi
  have tl : ((i : Int) == (l.length : Int)) = false := by simp; omega
  have ty : ((yi.1 : Int) == (m : Int)) = false := by simp; omega
  have m1 : (m : Int) < (t.size : Int) := by omega
  have i0 : ((i : Int) == 0) = false := by simp; omega
  obtain ⟨i1, hi1⟩ : ∃ i1, i = i1 + 1 := ⟨i - 1, by omega⟩
  have e1 : (i : Int) - 1 = (i1 : Int) := by omega
  have e3 : (i1 : Int) < (l.length : Int) := by omega
  have BT := bit_no hm hlat
  rw [show i - 1 = i1 by omega] at hy
  have HY := Lib.hid hy
  have z2 : ((e2 : Int) == 20) = ((e2 : Int) == 20) := rfl
  have z3 : ((e2 : Int) == 0) = false := by simp; omega
  have HI := Lib.hid (And.intro hi hll)
  have H1 := Lib.hid h1
  clear hp hL hc hs hl htx hms hll hpl h1 hi hts hmt hil hyi hge hpos hi1 hlat hy he2 h2 hmy
  go_enter Tryz.func3, Tryz.ntmps3
  go_wp2_with (fail)
  refine AW.out.mono ?_
  rintro e w0 ⟨rfl, hB0⟩
  go_wp2_with (fail)
  refine (AS.out w0 hB0).mono ?_
  rintro e w1 ⟨⟨q1, c1, rfl, tl1⟩, hb1⟩
  have hB1 := below_cat hB0 hb1
  go_wp2_with (fail)
  refine (TX.out w1 hB1).mono ?_
  rintro e w2 ⟨rfl, hb2⟩
  have HB2 := Lib.hid (below_cat hB1 hb2)
  have T1 := Lib.hid (tl1.below hb2)
  clear hB0 hB1 hb1 hb2 tl1
  go_wp2_with (fail)
  go_loop [9] (fun v => ∃ j : Nat, v = .int .i64 (j : Int) ∧ j ≤ i) (fun v => i - (intOf v).toNat)
  case atStart => exact ⟨0, rfl, Nat.zero_le _⟩
  case round =>
    obtain ⟨j, rfl, hj⟩ := hrel
    by_cases hlt : j < i
    · have hjl : j < l.length := by have := HI.out; omega
      obtain ⟨x, hx⟩ : ∃ x, l[j]? = some x := ⟨_, List.getElem?_eq_getElem hjl⟩
      have hxm := H1.out j x hlt hx
      obtain ⟨g, cc, hv, hcc, hcm, hgl, _, pv, hcell⟩ := T1.out.cell (by omega)
      obtain ⟨rfl, rfl⟩ : q1 = some ⟨g, 0, none⟩ ∧ c1 = cc := by
        injection hv with h1 _ h3
        exact ⟨h1, h3⟩
      obtain ⟨_, _, d1, _, _, _, _⟩ := hcell j x hx
      rw [Nat.mul_comm 6 j] at d1
      obtain ⟨xa, xk⟩ := x
      simp only at d1 hxm
      have y0 : (j : Int) < (l.length : Int) := by omega
      have y1 : (xa : Int) < (m : Int) := by omega
      have y2 : (j : Int) ≤ 65536 := by omega
      clear hcell hv hcc hcm hgl hx
      go_wp2_with (fail)
      go_round
      case rel => exact ⟨j + 1, by go_num, by omega⟩
      case measure => simp [intOf]; omega
    · obtain rfl : j = i := by omega
      obtain ⟨g, cc, hv, hcc, hcm, hgl, _, pv, hcell⟩ := T1.out.cell (by omega)
      obtain ⟨rfl, rfl⟩ : q1 = some ⟨g, 0, none⟩ ∧ c1 = cc := by
        injection hv with h1 _ h3
        exact ⟨h1, h3⟩
      obtain ⟨_, _, d1, _, _, _, _⟩ := hcell j yi HYI.out
      rw [Nat.mul_comm 6 j] at d1
      clear hcell hv hcc hcm hgl
      go_wp2_with (fail)
      refine (MK.out w2).mono ?_
      rintro e w4 ⟨c4, rfl, hc4, hh4, hb4⟩
      have HB4 := Lib.hid (below_cat HB2.out hb4)
      go_wp2_with (fail)
      refine (A2.out w4 HB4.out (some ⟨w2.heap.size, 0, none⟩) c4 hc4 hh4).mono ?_
      rintro e w5 ⟨rfl, hb5⟩
      have hb25 := below_cat hb4 hb5
      have HB5 := Lib.hid (below_cat HB4.out hb5)
      have T5 := Lib.hid (T1.out.below hb25)
      have d5 := hb_cell hb25 d1
      clear d1
      clear hb4 hb5 hb25 hc4 hh4
      obtain ⟨g', cc', hv, hcc, hcm, hgl, _, pv, hcell⟩ := T5.out.cell (by omega)
      obtain ⟨rfl, rfl⟩ : g = g' ∧ c1 = cc' := by
        injection hv with h1 _ h3
        injection h1 with h1
        injection h1 with h1
        exact ⟨h1, h3⟩
      obtain ⟨_, u0, u1, _, _, _, _⟩ := hcell i1 y HY.out
      rw [Nat.mul_comm 6 i1] at u0 u1
      clear hcell hv hcc hcm hgl
      go_wp2_with (fail)
      all_goals
        go_ret
        exact ⟨rfl, HB5.out⟩
end Go.Proofs.YtpcdcndniibalaaGreatDoor
