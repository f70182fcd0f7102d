/- Proved here: the statement LabelBytes, walked: it answers true of every list of numbers and every bytes, in every world. -/
import Derived.Test.YtaiiigknlnhdgaaLabRRead
namespace Go.Proofs.Ytaiiigknlnhdgaa
open Go.RowKit

theorem lbytes_any (p : Option Addr) (l : List Int) (c : Nat) (w : World) (hl : l.length ≤ 140737488355328) (hlc : l.length ≤ c) (h : HoldsI w p l) :
    Calls Try.prog 12 #[.slice p l.length c] w (RBytesPost w l) := by
  by_cases hk : checkP l = 0
  · refine (bytes_ok p l c w hl hlc h hk).mono ?_
    rintro e w' ⟨q, d, rfl, ho, hb⟩
    have hrb : rbP l = packB (bitsL l) := by unfold rbP; rw [if_pos hk]
    refine ⟨q, d, ?_, by rw [hrb]; exact ho, hb⟩
    rw [hrb, packB_length, hk]; rfl
  · refine (bytes_bad p l c w hl hlc h hk).mono ?_
    rintro e w' ⟨rfl, rfl⟩
    exact rb_bad rfl hk (Below.refl _ _)
theorem rbP_lt (l : List Int) : ∀ x ∈ rbP l, x < 256 := by
  unfold rbP
  split
  · exact packB_lt _
  · intro x hx; simp at hx
set_option maxRecDepth 100000 in
set_option maxHeartbeats 16000000 in
theorem lbytes_walk (p q : Option Addr) (c d : Nat) (l : List Int) (b : List Nat) (w : World) (ll : l.length * 8 ≤ 140737488355328) (lb : b.length ≤ 140737488355328) (cl : l.length ≤ c) (cb : b.length ≤ d)
    (hl : HoldsI w p l) (hb : HoldsU w q b) (bb : ∀ v ∈ b, v < 256) :
    Calls Try.prog 3 #[.slice p l.length c, .slice q b.length d] w fun e w' => e = .returned (.bool true) ∧ Below w.heap.size w w' := by
  have AW := Lib.hid (awake12_any w)
  have BL := Lib.hid (fun W (h : Below w.heap.size w W) => lbytes_any p l c W (by omega) cl (hl.below h))
  have RB := Lib.hid (fun W (h : Below w.heap.size w W) => rbytes_any p l c W (by omega) cl (hl.below h))
  have RD := Lib.hid (fun W (h : Below w.heap.size w W) => read_any q b d W lb cb (hb.below h) bb)
  have RR := Lib.hid (fun W (h : Below w.heap.size w W) => rread_any q b d W lb cb (hb.below h) bb)
  have CK := Lib.hid (fun W (h : Below w.heap.size w W) => check_any p l c W (by omega) cl (hl.below h))
  obtain ⟨B, hB⟩ : ∃ B, rbP l = B := ⟨_, rfl⟩
  have hlt := rbP_lt l
  rw [hB] at hlt
  have SM := Lib.hid (fun W q1 d1 q2 d2 (x : HoldsU W q1 B) (y : HoldsU W q2 B) => sameB_any q1 q2 B B d1 d2 W x y hlt hlt)
  rw [decide_eq_true rfl] at SM
  obtain ⟨x, hx⟩ : ∃ x, checkP l = x := ⟨_, rfl⟩
  rw [hx] at CK
  have HX := Lib.hid (And.intro hB hx)
  have hbx : (x != x) = false := by simp
  have hr : ∀ m, readP b = some m → m.length ≤ 480 := fun m h => checkP_len (read_facts h).1
  have HR := Lib.hid hr
  clear ll lb cl cb hl hb bb hB hlt hx hr
  cases hv : readP b with
  | none =>
    go_enter Try.func3, Try.ntmps3
    go_wp2_with (fail)
    refine (AW.out).mono ?_
    rintro e w1 ⟨rfl, hb1⟩
    have B1 := Lib.hid hb1
    clear hb1 AW
    go_wp2_with (fail)
    refine (BL.out _ B1.out).mono ?_
    intro e w2 hpost
    obtain ⟨q2, d2, rfl, ho2, hb2⟩ : ∃ q c, e = .returned (.tuple #[.slice q B.length c, .int .i64 x]) ∧ OwnU w2 w1.heap.size q c B ∧ Below w1.heap.size w1 w2 := by
      have h := hpost
      unfold RBytesPost at h
      rw [HX.out.1, HX.out.2] at h
      exact h
    have B2 := Lib.hid (t_cat B1.out hb2)
    have H2 := Lib.hid ho2.holds
    clear hb2 ho2 hpost BL B1
    go_wp2_with (fail)
    refine (RB.out _ B2.out).mono ?_
    intro e w3 hpost
    obtain ⟨q3, d3, rfl, ho3, hb3⟩ : ∃ q c, e = .returned (.tuple #[.slice q B.length c, .int .i64 x]) ∧ OwnU w3 w2.heap.size q c B ∧ Below w2.heap.size w2 w3 := by
      have h := hpost
      unfold RBytesPost at h
      rw [HX.out.1, HX.out.2] at h
      exact h
    have B3 := Lib.hid (t_cat B2.out hb3)
    have H3 := Lib.hid (And.intro (H2.out.below hb3) ho3.holds)
    clear hb3 ho3 hpost RB B2 H2
    go_wp2_with (fail)
    refine (RD.out _ B3.out).mono ?_
    intro e w4 hpost
    obtain ⟨q4, d4, rfl, ho4, hb4⟩ : ∃ q c, e = .returned (.tuple #[.slice q 0 c, .int .i64 11]) ∧ OwnI w4 w3.heap.size q c ([] : List Int) ∧ Below w3.heap.size w3 w4 := by
      have h := hpost
      unfold ReadPost at h
      rw [hv] at h
      exact h
    have B4 := Lib.hid (t_cat B3.out hb4)
    have H4 := Lib.hid (And.intro (H3.out.1.below hb4) (H3.out.2.below hb4))
    have O4 := Lib.hid ho4
    clear hb4 ho4 hpost RD B3 H3
    go_wp2_with (fail)
    refine (RR.out _ B4.out).mono ?_
    intro e w5 hpost
    obtain ⟨hb5, q5, n5, d5, rfl⟩ : Below w4.heap.size w4 w5 ∧ ∃ q n c, e = .returned (.tuple #[.slice q n c, .bool false]) := by
      obtain ⟨h1, ⟨q, n, c, _, h⟩ | ⟨m', q, c, h, h2, h3, h4⟩⟩ := hpost
      · exact ⟨h1, q, n, c, h⟩
      · rw [hv] at h; cases h
    have B5 := Lib.hid (t_cat B4.out hb5)
    have SM1 := Lib.hid (SM.out w5 q2 d2 q3 d3 (H4.out.1.below hb5) (H4.out.2.below hb5))
    have CK1 := Lib.hid (CK.out w5 B5.out)
    clear hb5 hv hpost RR B4 H4 SM O4 CK
    go_wp2_with (fail)
    refine (SM1.out).mono ?_
    rintro e w6 ⟨rfl, rfl⟩
    go_wp2_with (fail)
    refine (CK1.out).mono ?_
    rintro e w7 ⟨rfl, rfl⟩
    go_wp2_with (fail)
    go_ret
    exact ⟨rfl, B5.out⟩
  | some m =>
    go_enter Try.func3, Try.ntmps3
    go_wp2_with (fail)
    refine (AW.out).mono ?_
    rintro e w1 ⟨rfl, hb1⟩
    have B1 := Lib.hid hb1
    clear hb1 AW
    go_wp2_with (fail)
    refine (BL.out _ B1.out).mono ?_
    intro e w2 hpost
    obtain ⟨q2, d2, rfl, ho2, hb2⟩ : ∃ q c, e = .returned (.tuple #[.slice q B.length c, .int .i64 x]) ∧ OwnU w2 w1.heap.size q c B ∧ Below w1.heap.size w1 w2 := by
      have h := hpost
      unfold RBytesPost at h
      rw [HX.out.1, HX.out.2] at h
      exact h
    have B2 := Lib.hid (t_cat B1.out hb2)
    have H2 := Lib.hid ho2.holds
    clear hb2 ho2 hpost BL B1
    go_wp2_with (fail)
    refine (RB.out _ B2.out).mono ?_
    intro e w3 hpost
    obtain ⟨q3, d3, rfl, ho3, hb3⟩ : ∃ q c, e = .returned (.tuple #[.slice q B.length c, .int .i64 x]) ∧ OwnU w3 w2.heap.size q c B ∧ Below w2.heap.size w2 w3 := by
      have h := hpost
      unfold RBytesPost at h
      rw [HX.out.1, HX.out.2] at h
      exact h
    have B3 := Lib.hid (t_cat B2.out hb3)
    have H3 := Lib.hid (And.intro (H2.out.below hb3) ho3.holds)
    clear hb3 ho3 hpost RB B2 H2
    go_wp2_with (fail)
    refine (RD.out _ B3.out).mono ?_
    intro e w4 hpost
    obtain ⟨q4, d4, rfl, ho4, hb4⟩ : ∃ q c, e = .returned (.tuple #[.slice q m.length c, .int .i64 0]) ∧ OwnI w4 w3.heap.size q c m ∧ Below w3.heap.size w3 w4 := by
      have h := hpost
      unfold ReadPost at h
      rw [hv] at h
      exact h
    have B4 := Lib.hid (t_cat B3.out hb4)
    have H4 := Lib.hid (And.intro (H3.out.1.below hb4) (H3.out.2.below hb4))
    have O4 := Lib.hid ho4
    clear hb4 ho4 hpost RD B3 H3
    go_wp2_with (fail)
    refine (RR.out _ B4.out).mono ?_
    intro e w5 hpost
    obtain ⟨hb5, q5, d5, rfl, hm5, hd5⟩ : Below w4.heap.size w4 w5 ∧ ∃ q c, e = .returned (.tuple #[.slice q m.length c, .bool true]) ∧ HoldsI w5 q m ∧ m.length ≤ c := by
      obtain ⟨h1, ⟨q, n, c, h, _⟩ | ⟨m', q, c, h, h2, h3, h4⟩⟩ := hpost
      · rw [hv] at h; cases h
      · rw [hv] at h; cases h; exact ⟨h1, q, c, h2, h3, h4⟩
    have B5 := Lib.hid (t_cat B4.out hb5)
    have SM1 := Lib.hid (SM.out w5 q2 d2 q3 d3 (H4.out.1.below hb5) (H4.out.2.below hb5))
    have CK1 := Lib.hid (CK.out w5 B5.out)
    have hml := HR.out m hv
    have SI := Lib.hid (sameInts_any q4 q5 m m d4 d5 w5 (by omega) (by omega) O4.out.2.2 hd5 (O4.out.holds.below hb5) hm5)
    rw [decide_eq_true rfl] at SI
    clear hml hm5 hd5 HR
    clear hb5 hv hpost RR B4 H4 SM O4 CK
    go_wp2_with (fail)
    refine (SM1.out).mono ?_
    rintro e w6 ⟨rfl, rfl⟩
    go_wp2_with (fail)
    refine (CK1.out).mono ?_
    rintro e w7 ⟨rfl, rfl⟩
    go_wp2_with (fail)
    refine (SI.out).mono ?_
    rintro e w8 ⟨rfl, hb⟩
    have B8 := Lib.hid (t_cat B5.out hb)
    clear hb
    go_wp2_with (fail)
    go_ret
    exact ⟨rfl, B8.out⟩
end Go.Proofs.Ytaiiigknlnhdgaa
