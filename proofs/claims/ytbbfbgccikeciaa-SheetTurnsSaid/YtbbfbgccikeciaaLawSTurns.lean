/- Proved here: the statement SheetTurns, walked: it answers true of every number, stamp, bytes, place and byte, in every world. -/
import Derived.Test.YtbbfbgccikeciaaHeadAny
import Derived.Test.YtbbfbgccikeciaaTurnPlain
import Derived.Test.YtbbfbgccikeciaaSheetAwake
namespace Go.Proofs.Ytbbfbgccikeciaa
open Go.RowKit

theorem xor_u8 (x y : UInt8) : bits .xor .u8 (x.toNat : Int) (y.toNat : Int) = ((x ^^^ y).toNat : Int) := by
  have hx := UInt8.toNat_lt x
  have hy := UInt8.toNat_lt y
  have h1 : (BitVec.ofInt 8 (x.toNat : Int)).toNat = x.toNat := by
    rw [BitVec.ofInt_natCast, BitVec.toNat_ofNat]; exact Nat.mod_eq_of_lt (by omega)
  have h2 : (BitVec.ofInt 8 (y.toNat : Int)).toNat = y.toNat := by
    rw [BitVec.ofInt_natCast, BitVec.toNat_ofNat]; exact Nat.mod_eq_of_lt (by omega)
  have h3 : x.toNat ^^^ y.toNat < 2 ^ 8 := Nat.xor_lt_two_pow (by omega) (by omega)
  show IntKind.u8.wrap ((BitVec.ofInt 8 (x.toNat : Int) ^^^ BitVec.ofInt 8 (y.toNat : Int)).toNat : Int) = _
  rw [BitVec.toNat_xor, h1, h2, UInt8.toNat_xor]
  simp [IntKind.wrap, IntKind.bits, IntKind.signed]
  omega
theorem xor_other (x y : UInt8) (h : y ≠ 0) : x ^^^ y ≠ x := fun e => by
  apply h
  have h1 : x ^^^ (x ^^^ y) = x ^^^ x := by rw [e]
  rw [← UInt8.xor_assoc, UInt8.xor_self, UInt8.zero_xor] at h1
  exact h1
/-- What a byte of one's own holds, and that it may be stored. -/
theorem Owns.byte {w : World} {B g cap : Nat} {l : List UInt8} (h : Owns w B g cap (ofL l)) (k : Nat) (hk : k < l.length) : w.cell? ⟨g, k, none⟩ = some (.int .u8 ((l[k]'hk).toNat : Int)) ∧ w.frozen? ⟨g, k, none⟩ = false := by
  obtain ⟨b, off, e, hc⟩ := h.holds (by rw [ofL_size]; omega)
  cases e
  have h1 := hc k (by rw [ofL_size]; exact hk)
  have h2 := bl_get (ofL l) k (by rw [ofL_size]; exact hk)
  rw [bl_ofL, List.getElem?_eq_getElem hk] at h2
  rw [Nat.zero_add, ← Option.some.inj h2] at h1
  exact ⟨h1, World.ownsRow.frozenAt h.1 k⟩
theorem Owns.other {w : World} {B g cap : Nat} {s : ByteArray} (h : Owns w B g cap s) {g1 : Nat} (hg : g1 ≠ g) (k : Nat) (v : Value) : Owns (w.setCell ⟨g1, k, none⟩ v) B g cap s := by
  obtain ⟨⟨h1, h2⟩, h3, h4, h5⟩ := h
  refine ⟨⟨h1, ?_⟩, h3, by show g < (w.heap.modify _ _).size; simpa using h4, h5⟩
  rcases h2 with h2 | ⟨g', cap', cur, e, hb, hh, hr⟩
  · exact .inl h2
  · refine .inr ⟨g', cap', cur, e, hb, ?_, hr⟩
    have : g' = g := by injection e with e1 _ _; injection e1 with e1; injection e1 with e1; exact e1.symm
    rw [Below.heap_setCell w _ v g' (by show g' ≠ g1; omega)]
    exact hh
theorem layI_page (n st : Nat) (l : List UInt8) (hn : n ≤ 4294967295) (hl : l.length ≤ 496) : layI (n : Int) st l = (pageL n st l, 0) := by
  unfold layI
  rw [if_neg (by unfold outN; omega), if_neg (by omega), Int.toNat_natCast]
theorem takeI_nat (n : Nat) (l : List UInt8) (hn : n ≤ 4294967295) : takeI (n : Int) l = takeR n l := by
  unfold takeI
  rw [if_neg (by unfold outN; omega), Int.toNat_natCast]
theorem headI_nat (n st : Nat) (h1 : 1 ≤ n) (hn : n ≤ 4294967295) : headI (n : Int) st = (headL n st, 0) := by
  unfold headI
  rw [if_neg (by unfold outH; omega), Int.toNat_natCast]
theorem layI_no (n : Int) (st : Nat) (l : List UInt8) (h : outN n ∨ 496 < l.length) : (layI n st l).2 ≠ 0 := by
  unfold layI
  by_cases h1 : outN n
  · rw [if_pos h1]; exact Nat.one_ne_zero
  · rw [if_neg h1, if_pos (h.resolve_left h1)]; exact (by decide)
theorem headI_no (n : Int) (st : Nat) (h : outH n) : (headI n st).2 ≠ 0 := by
  unfold headI
  rw [if_pos h]; exact Nat.one_ne_zero
set_option maxRecDepth 100000 in
set_option maxHeartbeats 16000000 in
theorem turns_walk (n : Int) (st : Nat) (p : Option Addr) (s : ByteArray) (c : Nat) (at_ : Int) (y : UInt8) (w : World) (hst : st < 18446744073709551616) (hc : s.size ≤ c) (hp : HoldsB w p s) (hpn : p = none → c = 0) :
    Calls Try.prog 6 #[.int .i64 n, .int .u64 (st : Int), .slice p s.size c, .int .i64 at_, .int .u8 (y.toNat : Int)] w fun e w' => e = .returned (.bool true) ∧ Below w.heap.size w w' := by
  have AW := Lib.hid (awake15_any w)
  have HH := Lib.hid (And.intro hst (And.intro hc (And.intro hp hpn)))
  obtain ⟨m, hm⟩ : ∃ m, s.size = m := ⟨_, rfl⟩
  have HM := Lib.hid hm
  rw [hm]
  obtain ⟨X, hX⟩ : ∃ X, layI n st (bl s) = X := ⟨_, rfl⟩
  have HX := Lib.hid hX
  obtain ⟨Y, hY⟩ : ∃ Y, headI n st = Y := ⟨_, rfl⟩
  have HY := Lib.hid hY
  obtain ⟨U, hU⟩ : ∃ U : Nat, IntKind.u64.wrap at_ = (U : Int) := ⟨(IntKind.u64.wrap at_).toNat, by rw [IntKind.wrap_u64]; omega⟩
  obtain ⟨k1, hk1⟩ : ∃ k : Nat, (U : Int) % 512 = (k : Int) := ⟨U % 512, by omega⟩
  obtain ⟨k2, hk2⟩ : ∃ k : Nat, (U : Int) % 64 = (k : Int) := ⟨U % 64, by omega⟩
  have l1 : k1 < 512 := by omega
  have l2 : k2 < 64 := by omega
  have hk3 : (U : Int).tmod 512 = (k1 : Int) := by rw [Int.tmod_eq_emod_of_nonneg (by omega)]; exact hk1
  have hk4 : (U : Int).tmod 64 = (k2 : Int) := by rw [Int.tmod_eq_emod_of_nonneg (by omega)]; exact hk2
  have j1 : (k1 : Int) < 512 := by omega
  have j2 : (k2 : Int) < 64 := by omega
  have HK := Lib.hid (And.intro l1 l2)
  have hyz : ((y.toNat : Int) == 0) = decide (y = 0) := by
    rw [Bool.eq_iff_iff, decide_eq_true_eq, beq_iff_eq]
    constructor
    · intro h; apply UInt8.toNat.inj; have : (0 : UInt8).toNat = 0 := rfl; omega
    · intro h; rw [h]; rfl
  have HYZ := Lib.hid hyz
  clear hst hc hp hpn hm hX hY l1 l2 hyz
  go_enter Try.func6, Try.ntmps6
  go_wp2_with (fail)
  refine AW.out.mono ?_
  rintro e W0 ⟨rfl, hb⟩
  have LY := lay_any n st p s s.size c W0 HH.out.1 rfl (HH.out.2.2.1.below hb) HH.out.2.2.2
  rw [HX.out, HM.out] at LY
  have L1 := Lib.hid LY
  have B0 := Lib.hid hb
  clear hb LY AW
  go_wp2_with (fail)
  refine L1.out.mono ?_
  rintro e W1 ⟨r1, rfl, hr1⟩
  have LH := layhead_any n st W1 HH.out.1
  rw [HY.out] at LH
  have L2 := Lib.hid LH
  have H1 := Lib.hid (And.intro hr1 (below_cat B0.out hr1.below))
  clear hr1 LH L1
  go_wp2_with (fail)
  refine L2.out.mono ?_
  rintro e W2 ⟨r2, rfl, hr2⟩
  have H2 := Lib.hid (And.intro hr2 (below_cat H1.out.2 hr2.below))
  clear hr2 L2
  by_cases hq : y = 0
  · skip
    have HQ := Lib.hid hq
    clear hq
    by_cases hn : outN n
    · have hx2 := layI_no n st (bl s) (.inl hn)
      have hy2 := headI_no n st (by unfold outN at hn; unfold outH; omega)
      rw [HX.out] at hx2
      rw [HY.out] at hy2
      have tx : ((X.2 : Int) == 0) = false := by rw [beq_eq_false_iff_ne]; omega
      have ty : ((Y.2 : Int) == 0) = false := by rw [beq_eq_false_iff_ne]; omega
      clear hx2 hy2 hn
      go_wp2_with (fail)
      go_ret
      exact ⟨rfl, H2.out.2⟩
    · obtain ⟨n, rfl⟩ : ∃ k : Nat, n = (k : Int) := ⟨n.toNat, by unfold outN at hn; omega⟩
      have hn9 : n ≤ 4294967295 := by unfold outN at hn; omega
      by_cases hl : (bl s).length ≤ 496
      · have HP := Lib.hid (And.intro (HX.out.symm.trans (layI_page n st (bl s) hn9 hl)) (And.intro hn9 hl))
        by_cases h1 : 1 ≤ n
        · have HE := Lib.hid (And.intro (HY.out.symm.trans (headI_nat n st h1 hn9)) (And.intro h1 hn9))
          clear hn hn9 hl h1
          obtain ⟨g2, c2, e2, ho2, hb2⟩ := (show NewB (headL n st) W1 r2 W2 by
            rcases H2.out.1 with ⟨h0, _⟩ | h
            · rw [HE.out.1] at h0
              exact absurd (congrArg List.length h0) (by rw [headL_length]; decide)
            · rw [HE.out.1] at h
              exact h)
          rw [headL_length] at e2
          have O2 := Lib.hid ho2
          clear ho2 hb2
          obtain ⟨g1, c1, e1, ho1, hb1⟩ := (show NewB (pageL n st (bl s)) W0 r1 W1 by
            rcases H1.out.1 with ⟨h0, _⟩ | h
            · rw [HP.out.1] at h0
              exact absurd (congrArg List.length h0) (by rw [pageL_length HP.out.2.2]; decide)
            · rw [HP.out.1] at h
              exact h)
          rw [pageL_length HP.out.2.2] at e1
          have O1 := Lib.hid (ho1.far H2.out.1.below)
          have G1 := Lib.hid (show g1 < W1.heap.size from ho1.2.2.1)
          rw [e1]
          have ex0 : X.2 = 0 := by rw [HP.out.1]
          rw [ex0]
          clear e1 ho1 hb1 ex0
          have TK := take_any (n : Int) (some ⟨g1, 0, none⟩) (ofL (pageL n st (bl s))) 512 c1 W2 (by rw [ofL_size, pageL_length HP.out.2.2]) (by have := O1.out.2.2.2; rw [ofL_size, pageL_length HP.out.2.2] at this; exact this) O1.out.holds
          rw [bl_ofL, takeI_nat n _ HP.out.2.1, take_page n st (bl s) HP.out.2.1 HH.out.1 HP.out.2.2] at TK
          have T1 := Lib.hid TK
          clear TK
          go_wp2_with (fail)
          refine T1.out.mono ?_
          rintro e W3 ⟨r3, rfl, hr3⟩
          obtain ⟨q3, d3, rfl, hq3, _⟩ := hr3.holds
          have FL := fill_any p s s.size c 496 W3 rfl (by have := HP.out.2.2; rw [bl_length] at this; exact this) (by decide) (HH.out.2.2.1.below (below_cat H2.out.2 hr3.below))
          rw [HM.out] at FL
          have F1 := Lib.hid FL
          have H3 := Lib.hid (And.intro hq3 hr3.below)
          have hl496 : (fillL (bl s) 496).length = 496 := fillL_length HP.out.2.2
          have HL := Lib.hid hl496
          rw [hl496]
          clear hr3 hq3 FL T1 hl496
          go_wp2_with (fail)
          refine F1.out.mono ?_
          rintro e W4 ⟨r4, rfl, g4, c4, rfl, ho4, hb4⟩
          have SM := same_told (p := q3) (q := some ⟨g4, 0, none⟩) (c := d3) (d := c4) (x := fillL (bl s) 496) (H3.out.1.below hb4) ho4.holds
          rw [HL.out] at SM ⊢
          have S1 := Lib.hid SM
          have H4 := Lib.hid (below_cat H3.out.2 hb4)
          clear ho4 hb4 SM F1
          go_wp2_with (fail)
          refine S1.out.mono ?_
          rintro e w' ⟨rfl, rfl⟩
          have hkp : k1 < (pageL n st (bl s)).length := by rw [pageL_length HP.out.2.2]; exact HK.out.1
          obtain ⟨hcl, hfz⟩ := (O1.out.far H4.out).byte k1 hkp
          have hjc : (k1 : Int) < 512 := j1
          have hput := (O1.out.far H4.out).put (t := ofL ((pageL n st (bl s)).set k1 ((pageL n st (bl s))[k1]'hkp ^^^ y))) k1 ((pageL n st (bl s))[k1]'hkp ^^^ y) (by rw [bl_ofL, bl_ofL])
          have hxr := xor_u8 ((pageL n st (bl s))[k1]'hkp) y
          have hne : y ≠ 0 → (pageL n st (bl s))[k1]? ≠ some ((pageL n st (bl s))[k1]'hkp ^^^ y) := fun h e => by
            rw [List.getElem?_eq_getElem hkp] at e
            exact xor_other _ y h (Option.some.inj e).symm
          generalize (pageL n st (bl s))[k1]'hkp = x at *
          have hb5 : Below W0.heap.size W0 W4 := below_cat (H1.out.1.below) (below_cat H2.out.1.below H4.out)
          have hb6 := below_put hb5 O1.out.2.1 k1 (.int .u8 ((x ^^^ y).toNat : Int))
          have T2 := take_any (n : Int) (some ⟨g1, 0, none⟩) (ofL ((pageL n st (bl s)).set k1 (x ^^^ y))) 512 c1 (W4.setCell ⟨g1, k1, none⟩ (.int .u8 ((x ^^^ y).toNat : Int))) (by rw [ofL_size, List.length_set, pageL_length HP.out.2.2]) (by have := hput.2.2.2; rw [ofL_size, List.length_set, pageL_length HP.out.2.2] at this; exact this) hput.holds
          rw [bl_ofL, takeI_nat n _ HP.out.2.1] at T2
          obtain ⟨Z, hZ⟩ : ∃ Z, takeR n ((pageL n st (bl s)).set k1 (x ^^^ y)) = Z := ⟨_, rfl⟩
          have hZ2 : y ≠ 0 → Z = ([], 0, 10) := fun h => by rw [← hZ]; exact turned_page n n st (bl s) HP.out.2.2 k1 HK.out.1 _ (hne h)
          rw [hZ] at T2
          have T3 := Lib.hid T2
          have HZ := Lib.hid hZ2
          have hg12 : W2.heap.size ≤ W4.heap.size := H4.out.size
          have B6 := Lib.hid hb6
          clear hput hne T2 hZ hZ2 hb5 hb6 S1 hkp
          generalize ((x ^^^ y).toNat : Int) = xv at *
          go_wp2_with (fail)
          clear hcl hfz hxr
          refine T3.out.mono ?_
          rintro e W6 ⟨r6, rfl, hr6⟩
          have B7 := Lib.hid (below_cat B6.out hr6.below)
          have K6 := Lib.hid hr6.below
          clear hr6 T3
          have hy0 : ((y.toNat : Int) == 0) = true := by rw [HYZ.out]; exact decide_eq_true HQ.out
          have OW := Lib.hid (show Owns W6 W1.heap.size g2 c2 (ofL (headL n st)) from by
            have h4 := O2.out.far H4.out
            have hgg : g1 ≠ g2 := by have := O2.out.2.1; have h9 := G1.out; omega
            exact (h4.other hgg k1 _).far K6.out)
          have ey0 : Y.2 = 0 := by rw [HE.out.1]
          (try rw [ey0])
          (try rw [e2])
          clear ey0
          have TH := takehead_any (some ⟨g2, 0, none⟩) (ofL (headL n st)) 64 c2 W6 (by rw [ofL_size, headL_length]) (by have := (OW.out).2.2.2; rw [ofL_size, headL_length] at this; exact this) (OW.out).holds
          rw [bl_ofL, take_head n st HE.out.2.1 HE.out.2.2 HH.out.1] at TH
          have TH1 := Lib.hid TH
          clear TH e2
          go_wp2_with (fail)
          refine TH1.out.mono ?_
          rintro e W8 ⟨rfl, hb8⟩
          obtain ⟨W9, hW9⟩ : ∃ W9, W8.alloc (.cells #[.int .i64 (n : Int), .int .u64 (st : Int)] 43) = W9 := ⟨_, rfl⟩
          have n9 : W9.heap[W8.heap.size]? = some (.cells #[.int .i64 (n : Int), .int .u64 (st : Int)] 43 (0, 0)) := by rw [← hW9]; exact heap_alloc_new _ _
          have b89 : Below W8.heap.size W8 W9 := by rw [← hW9]; exact (Below.refl _ _).alloc (Nat.le_refl _) _
          have u0 : W9.cell? ⟨W8.heap.size, 0, none⟩ = some (.int .i64 (n : Int)) := by rw [cell_of_row _ _ _ _ _ _ n9]; rfl
          have u1 : W9.cell? ⟨W8.heap.size, 1, none⟩ = some (.int .u64 (st : Int)) := by rw [cell_of_row _ _ _ _ _ _ n9]; rfl
          have o9 := ((OW.out).far hb8).far b89
          have hkh : k2 < (headL n st).length := by rw [headL_length]; exact HK.out.2
          obtain ⟨hcl, hfz⟩ := o9.byte k2 hkh
          have hput := o9.put (t := ofL ((headL n st).set k2 ((headL n st)[k2]'hkh ^^^ y))) k2 ((headL n st)[k2]'hkh ^^^ y) (by rw [bl_ofL, bl_ofL])
          have hxr := xor_u8 ((headL n st)[k2]'hkh) y
          have hne : y ≠ 0 → (headL n st)[k2]? ≠ some ((headL n st)[k2]'hkh ^^^ y) := fun h e => by
            rw [List.getElem?_eq_getElem hkh] at e
            exact xor_other _ y h (Option.some.inj e).symm
          generalize (headL n st)[k2]'hkh = x2 at *
          have hxr0 : bits .xor .u8 (x2.toNat : Int) 0 = ((x2 ^^^ y).toNat : Int) := by
            have := xor_u8 x2 y
            rw [HQ.out] at this ⊢
            exact this
          have hb9 := (B0.out.trans (B7.out.mono B0.out.size)).trans ((below_cat hb8 b89).mono (B0.out.trans (B7.out.mono B0.out.size)).size)
          have hb10 := below_put hb9 (show w.heap.size ≤ g2 by have := o9.2.1; have := H1.out.2.size; omega) k2 (.int .u8 ((x2 ^^^ y).toNat : Int))
          have T2 := takehead_any (some ⟨g2, 0, none⟩) (ofL ((headL n st).set k2 (x2 ^^^ y))) 64 c2 (W9.setCell ⟨g2, k2, none⟩ (.int .u8 ((x2 ^^^ y).toNat : Int))) (by rw [ofL_size, List.length_set, headL_length]) (by have := hput.2.2.2; rw [ofL_size, List.length_set, headL_length] at this; exact this) hput.holds
          rw [bl_ofL] at T2
          obtain ⟨Z, hZ⟩ : ∃ Z, headR ((headL n st).set k2 (x2 ^^^ y)) = Z := ⟨_, rfl⟩
          have hZ2 : y ≠ 0 → Z = (0, 0, 10) := fun h => by rw [← hZ]; exact turned_head n st k2 HK.out.2 _ (hne h)
          rw [hZ] at T2
          have T3 := Lib.hid T2
          have HZ2 := Lib.hid hZ2
          have B10 := Lib.hid hb10
          clear hput hne T2 hZ hZ2 hb9 hb10 hb8 b89 n9 o9 TH1 hkh
          generalize ((x2 ^^^ y).toNat : Int) = xv2 at *
          go_wp2_with (fail)
          clear hcl hfz hxr u0 u1 hW9 hxr0
          refine T3.out.mono ?_
          rintro e W11 ⟨rfl, hb11⟩
          have B11 := Lib.hid (below_cat B10.out hb11)
          clear hb11 T3
          have hy0 : ((y.toNat : Int) == 0) = true := by rw [HYZ.out]; exact decide_eq_true HQ.out
          go_wp2_with (fail)
          go_ret
          exact ⟨rfl, B11.out⟩
        · have hy2 := headI_no (n : Int) st (by unfold outH; omega)
          rw [HY.out] at hy2
          have ty : ((Y.2 : Int) == 0) = false := by rw [beq_eq_false_iff_ne]; omega
          clear hn hn9 hl h1 hy2
          obtain ⟨g1, c1, e1, ho1, hb1⟩ := (show NewB (pageL n st (bl s)) W0 r1 W1 by
            rcases H1.out.1 with ⟨h0, _⟩ | h
            · rw [HP.out.1] at h0
              exact absurd (congrArg List.length h0) (by rw [pageL_length HP.out.2.2]; decide)
            · rw [HP.out.1] at h
              exact h)
          rw [pageL_length HP.out.2.2] at e1
          have O1 := Lib.hid (ho1.far H2.out.1.below)
          have G1 := Lib.hid (show g1 < W1.heap.size from ho1.2.2.1)
          rw [e1]
          have ex0 : X.2 = 0 := by rw [HP.out.1]
          rw [ex0]
          clear e1 ho1 hb1 ex0
          have TK := take_any (n : Int) (some ⟨g1, 0, none⟩) (ofL (pageL n st (bl s))) 512 c1 W2 (by rw [ofL_size, pageL_length HP.out.2.2]) (by have := O1.out.2.2.2; rw [ofL_size, pageL_length HP.out.2.2] at this; exact this) O1.out.holds
          rw [bl_ofL, takeI_nat n _ HP.out.2.1, take_page n st (bl s) HP.out.2.1 HH.out.1 HP.out.2.2] at TK
          have T1 := Lib.hid TK
          clear TK
          go_wp2_with (fail)
          refine T1.out.mono ?_
          rintro e W3 ⟨r3, rfl, hr3⟩
          obtain ⟨q3, d3, rfl, hq3, _⟩ := hr3.holds
          have FL := fill_any p s s.size c 496 W3 rfl (by have := HP.out.2.2; rw [bl_length] at this; exact this) (by decide) (HH.out.2.2.1.below (below_cat H2.out.2 hr3.below))
          rw [HM.out] at FL
          have F1 := Lib.hid FL
          have H3 := Lib.hid (And.intro hq3 hr3.below)
          have hl496 : (fillL (bl s) 496).length = 496 := fillL_length HP.out.2.2
          have HL := Lib.hid hl496
          rw [hl496]
          clear hr3 hq3 FL T1 hl496
          go_wp2_with (fail)
          refine F1.out.mono ?_
          rintro e W4 ⟨r4, rfl, g4, c4, rfl, ho4, hb4⟩
          have SM := same_told (p := q3) (q := some ⟨g4, 0, none⟩) (c := d3) (d := c4) (x := fillL (bl s) 496) (H3.out.1.below hb4) ho4.holds
          rw [HL.out] at SM ⊢
          have S1 := Lib.hid SM
          have H4 := Lib.hid (below_cat H3.out.2 hb4)
          clear ho4 hb4 SM F1
          go_wp2_with (fail)
          refine S1.out.mono ?_
          rintro e w' ⟨rfl, rfl⟩
          have hkp : k1 < (pageL n st (bl s)).length := by rw [pageL_length HP.out.2.2]; exact HK.out.1
          obtain ⟨hcl, hfz⟩ := (O1.out.far H4.out).byte k1 hkp
          have hjc : (k1 : Int) < 512 := j1
          have hput := (O1.out.far H4.out).put (t := ofL ((pageL n st (bl s)).set k1 ((pageL n st (bl s))[k1]'hkp ^^^ y))) k1 ((pageL n st (bl s))[k1]'hkp ^^^ y) (by rw [bl_ofL, bl_ofL])
          have hxr := xor_u8 ((pageL n st (bl s))[k1]'hkp) y
          have hne : y ≠ 0 → (pageL n st (bl s))[k1]? ≠ some ((pageL n st (bl s))[k1]'hkp ^^^ y) := fun h e => by
            rw [List.getElem?_eq_getElem hkp] at e
            exact xor_other _ y h (Option.some.inj e).symm
          generalize (pageL n st (bl s))[k1]'hkp = x at *
          have hb5 : Below W0.heap.size W0 W4 := below_cat (H1.out.1.below) (below_cat H2.out.1.below H4.out)
          have hb6 := below_put hb5 O1.out.2.1 k1 (.int .u8 ((x ^^^ y).toNat : Int))
          have T2 := take_any (n : Int) (some ⟨g1, 0, none⟩) (ofL ((pageL n st (bl s)).set k1 (x ^^^ y))) 512 c1 (W4.setCell ⟨g1, k1, none⟩ (.int .u8 ((x ^^^ y).toNat : Int))) (by rw [ofL_size, List.length_set, pageL_length HP.out.2.2]) (by have := hput.2.2.2; rw [ofL_size, List.length_set, pageL_length HP.out.2.2] at this; exact this) hput.holds
          rw [bl_ofL, takeI_nat n _ HP.out.2.1] at T2
          obtain ⟨Z, hZ⟩ : ∃ Z, takeR n ((pageL n st (bl s)).set k1 (x ^^^ y)) = Z := ⟨_, rfl⟩
          have hZ2 : y ≠ 0 → Z = ([], 0, 10) := fun h => by rw [← hZ]; exact turned_page n n st (bl s) HP.out.2.2 k1 HK.out.1 _ (hne h)
          rw [hZ] at T2
          have T3 := Lib.hid T2
          have HZ := Lib.hid hZ2
          have hg12 : W2.heap.size ≤ W4.heap.size := H4.out.size
          have B6 := Lib.hid hb6
          clear hput hne T2 hZ hZ2 hb5 hb6 S1 hkp
          generalize ((x ^^^ y).toNat : Int) = xv at *
          go_wp2_with (fail)
          clear hcl hfz hxr
          refine T3.out.mono ?_
          rintro e W6 ⟨r6, rfl, hr6⟩
          have B7 := Lib.hid (below_cat B6.out hr6.below)
          have K6 := Lib.hid hr6.below
          clear hr6 T3
          have hy0 : ((y.toNat : Int) == 0) = true := by rw [HYZ.out]; exact decide_eq_true HQ.out
          go_wp2_with (fail)
          go_ret
          exact ⟨rfl, B0.out.trans (B7.out.mono B0.out.size)⟩
      · have hx2 := layI_no (n : Int) st (bl s) (.inr (by omega))
        rw [HX.out] at hx2
        have tx : ((X.2 : Int) == 0) = false := by rw [beq_eq_false_iff_ne]; omega
        by_cases h1 : 1 ≤ n
        · have HE := Lib.hid (And.intro (HY.out.symm.trans (headI_nat n st h1 hn9)) (And.intro h1 hn9))
          clear hn hn9 hl h1 hx2
          obtain ⟨g2, c2, e2, ho2, hb2⟩ := (show NewB (headL n st) W1 r2 W2 by
            rcases H2.out.1 with ⟨h0, _⟩ | h
            · rw [HE.out.1] at h0
              exact absurd (congrArg List.length h0) (by rw [headL_length]; decide)
            · rw [HE.out.1] at h
              exact h)
          rw [headL_length] at e2
          have O2 := Lib.hid ho2
          clear ho2 hb2
          have ey0 : Y.2 = 0 := by rw [HE.out.1]
          (try rw [ey0])
          (try rw [e2])
          clear ey0
          have TH := takehead_any (some ⟨g2, 0, none⟩) (ofL (headL n st)) 64 c2 W2 (by rw [ofL_size, headL_length]) (by have := (O2.out).2.2.2; rw [ofL_size, headL_length] at this; exact this) (O2.out).holds
          rw [bl_ofL, take_head n st HE.out.2.1 HE.out.2.2 HH.out.1] at TH
          have TH1 := Lib.hid TH
          clear TH e2
          go_wp2_with (fail)
          refine TH1.out.mono ?_
          rintro e W8 ⟨rfl, hb8⟩
          obtain ⟨W9, hW9⟩ : ∃ W9, W8.alloc (.cells #[.int .i64 (n : Int), .int .u64 (st : Int)] 43) = W9 := ⟨_, rfl⟩
          have n9 : W9.heap[W8.heap.size]? = some (.cells #[.int .i64 (n : Int), .int .u64 (st : Int)] 43 (0, 0)) := by rw [← hW9]; exact heap_alloc_new _ _
          have b89 : Below W8.heap.size W8 W9 := by rw [← hW9]; exact (Below.refl _ _).alloc (Nat.le_refl _) _
          have u0 : W9.cell? ⟨W8.heap.size, 0, none⟩ = some (.int .i64 (n : Int)) := by rw [cell_of_row _ _ _ _ _ _ n9]; rfl
          have u1 : W9.cell? ⟨W8.heap.size, 1, none⟩ = some (.int .u64 (st : Int)) := by rw [cell_of_row _ _ _ _ _ _ n9]; rfl
          have o9 := ((O2.out).far hb8).far b89
          have hkh : k2 < (headL n st).length := by rw [headL_length]; exact HK.out.2
          obtain ⟨hcl, hfz⟩ := o9.byte k2 hkh
          have hput := o9.put (t := ofL ((headL n st).set k2 ((headL n st)[k2]'hkh ^^^ y))) k2 ((headL n st)[k2]'hkh ^^^ y) (by rw [bl_ofL, bl_ofL])
          have hxr := xor_u8 ((headL n st)[k2]'hkh) y
          have hne : y ≠ 0 → (headL n st)[k2]? ≠ some ((headL n st)[k2]'hkh ^^^ y) := fun h e => by
            rw [List.getElem?_eq_getElem hkh] at e
            exact xor_other _ y h (Option.some.inj e).symm
          generalize (headL n st)[k2]'hkh = x2 at *
          have hxr0 : bits .xor .u8 (x2.toNat : Int) 0 = ((x2 ^^^ y).toNat : Int) := by
            have := xor_u8 x2 y
            rw [HQ.out] at this ⊢
            exact this
          have hb9 := (H2.out.2).trans ((below_cat hb8 b89).mono (H2.out.2).size)
          have hb10 := below_put hb9 (show w.heap.size ≤ g2 by have := o9.2.1; have := H1.out.2.size; omega) k2 (.int .u8 ((x2 ^^^ y).toNat : Int))
          have T2 := takehead_any (some ⟨g2, 0, none⟩) (ofL ((headL n st).set k2 (x2 ^^^ y))) 64 c2 (W9.setCell ⟨g2, k2, none⟩ (.int .u8 ((x2 ^^^ y).toNat : Int))) (by rw [ofL_size, List.length_set, headL_length]) (by have := hput.2.2.2; rw [ofL_size, List.length_set, headL_length] at this; exact this) hput.holds
          rw [bl_ofL] at T2
          obtain ⟨Z, hZ⟩ : ∃ Z, headR ((headL n st).set k2 (x2 ^^^ y)) = Z := ⟨_, rfl⟩
          have hZ2 : y ≠ 0 → Z = (0, 0, 10) := fun h => by rw [← hZ]; exact turned_head n st k2 HK.out.2 _ (hne h)
          rw [hZ] at T2
          have T3 := Lib.hid T2
          have HZ2 := Lib.hid hZ2
          have B10 := Lib.hid hb10
          clear hput hne T2 hZ hZ2 hb9 hb10 hb8 b89 n9 o9 TH1 hkh
          generalize ((x2 ^^^ y).toNat : Int) = xv2 at *
          go_wp2_with (fail)
          clear hcl hfz hxr u0 u1 hW9 hxr0
          refine T3.out.mono ?_
          rintro e W11 ⟨rfl, hb11⟩
          have B11 := Lib.hid (below_cat B10.out hb11)
          clear hb11 T3
          have hy0 : ((y.toNat : Int) == 0) = true := by rw [HYZ.out]; exact decide_eq_true HQ.out
          go_wp2_with (fail)
          go_ret
          exact ⟨rfl, B11.out⟩
        · have hy2 := headI_no (n : Int) st (by unfold outH; omega)
          rw [HY.out] at hy2
          have ty : ((Y.2 : Int) == 0) = false := by rw [beq_eq_false_iff_ne]; omega
          clear hn hn9 hl h1 hx2 hy2
          go_wp2_with (fail)
          go_ret
          exact ⟨rfl, H2.out.2⟩
  · skip
    have HQ := Lib.hid hq
    clear hq
    by_cases hn : outN n
    · have hx2 := layI_no n st (bl s) (.inl hn)
      have hy2 := headI_no n st (by unfold outN at hn; unfold outH; omega)
      rw [HX.out] at hx2
      rw [HY.out] at hy2
      have tx : ((X.2 : Int) == 0) = false := by rw [beq_eq_false_iff_ne]; omega
      have ty : ((Y.2 : Int) == 0) = false := by rw [beq_eq_false_iff_ne]; omega
      clear hx2 hy2 hn
      go_wp2_with (fail)
      all_goals try (exfalso; omega; done)
      go_ret
      exact ⟨rfl, H2.out.2⟩
    · obtain ⟨n, rfl⟩ : ∃ k : Nat, n = (k : Int) := ⟨n.toNat, by unfold outN at hn; omega⟩
      have hn9 : n ≤ 4294967295 := by unfold outN at hn; omega
      by_cases hl : (bl s).length ≤ 496
      · have HP := Lib.hid (And.intro (HX.out.symm.trans (layI_page n st (bl s) hn9 hl)) (And.intro hn9 hl))
        by_cases h1 : 1 ≤ n
        · have HE := Lib.hid (And.intro (HY.out.symm.trans (headI_nat n st h1 hn9)) (And.intro h1 hn9))
          clear hn hn9 hl h1
          obtain ⟨g2, c2, e2, ho2, hb2⟩ := (show NewB (headL n st) W1 r2 W2 by
            rcases H2.out.1 with ⟨h0, _⟩ | h
            · rw [HE.out.1] at h0
              exact absurd (congrArg List.length h0) (by rw [headL_length]; decide)
            · rw [HE.out.1] at h
              exact h)
          rw [headL_length] at e2
          have O2 := Lib.hid ho2
          clear ho2 hb2
          obtain ⟨g1, c1, e1, ho1, hb1⟩ := (show NewB (pageL n st (bl s)) W0 r1 W1 by
            rcases H1.out.1 with ⟨h0, _⟩ | h
            · rw [HP.out.1] at h0
              exact absurd (congrArg List.length h0) (by rw [pageL_length HP.out.2.2]; decide)
            · rw [HP.out.1] at h
              exact h)
          rw [pageL_length HP.out.2.2] at e1
          have O1 := Lib.hid (ho1.far H2.out.1.below)
          have G1 := Lib.hid (show g1 < W1.heap.size from ho1.2.2.1)
          rw [e1]
          have ex0 : X.2 = 0 := by rw [HP.out.1]
          rw [ex0]
          clear e1 ho1 hb1 ex0
          have TK := take_any (n : Int) (some ⟨g1, 0, none⟩) (ofL (pageL n st (bl s))) 512 c1 W2 (by rw [ofL_size, pageL_length HP.out.2.2]) (by have := O1.out.2.2.2; rw [ofL_size, pageL_length HP.out.2.2] at this; exact this) O1.out.holds
          rw [bl_ofL, takeI_nat n _ HP.out.2.1, take_page n st (bl s) HP.out.2.1 HH.out.1 HP.out.2.2] at TK
          have T1 := Lib.hid TK
          clear TK
          go_wp2_with (fail)
          all_goals try (exfalso; omega; done)
          refine T1.out.mono ?_
          rintro e W3 ⟨r3, rfl, hr3⟩
          obtain ⟨q3, d3, rfl, hq3, _⟩ := hr3.holds
          have FL := fill_any p s s.size c 496 W3 rfl (by have := HP.out.2.2; rw [bl_length] at this; exact this) (by decide) (HH.out.2.2.1.below (below_cat H2.out.2 hr3.below))
          rw [HM.out] at FL
          have F1 := Lib.hid FL
          have H3 := Lib.hid (And.intro hq3 hr3.below)
          have hl496 : (fillL (bl s) 496).length = 496 := fillL_length HP.out.2.2
          have HL := Lib.hid hl496
          rw [hl496]
          clear hr3 hq3 FL T1 hl496
          go_wp2_with (fail)
          all_goals try (exfalso; omega; done)
          refine F1.out.mono ?_
          rintro e W4 ⟨r4, rfl, g4, c4, rfl, ho4, hb4⟩
          have SM := same_told (p := q3) (q := some ⟨g4, 0, none⟩) (c := d3) (d := c4) (x := fillL (bl s) 496) (H3.out.1.below hb4) ho4.holds
          rw [HL.out] at SM ⊢
          have S1 := Lib.hid SM
          have H4 := Lib.hid (below_cat H3.out.2 hb4)
          clear ho4 hb4 SM F1
          go_wp2_with (fail)
          all_goals try (exfalso; omega; done)
          refine S1.out.mono ?_
          rintro e w' ⟨rfl, rfl⟩
          have hkp : k1 < (pageL n st (bl s)).length := by rw [pageL_length HP.out.2.2]; exact HK.out.1
          obtain ⟨hcl, hfz⟩ := (O1.out.far H4.out).byte k1 hkp
          have hjc : (k1 : Int) < 512 := j1
          have hput := (O1.out.far H4.out).put (t := ofL ((pageL n st (bl s)).set k1 ((pageL n st (bl s))[k1]'hkp ^^^ y))) k1 ((pageL n st (bl s))[k1]'hkp ^^^ y) (by rw [bl_ofL, bl_ofL])
          have hxr := xor_u8 ((pageL n st (bl s))[k1]'hkp) y
          have hne : y ≠ 0 → (pageL n st (bl s))[k1]? ≠ some ((pageL n st (bl s))[k1]'hkp ^^^ y) := fun h e => by
            rw [List.getElem?_eq_getElem hkp] at e
            exact xor_other _ y h (Option.some.inj e).symm
          generalize (pageL n st (bl s))[k1]'hkp = x at *
          have hb5 : Below W0.heap.size W0 W4 := below_cat (H1.out.1.below) (below_cat H2.out.1.below H4.out)
          have hb6 := below_put hb5 O1.out.2.1 k1 (.int .u8 ((x ^^^ y).toNat : Int))
          have T2 := take_any (n : Int) (some ⟨g1, 0, none⟩) (ofL ((pageL n st (bl s)).set k1 (x ^^^ y))) 512 c1 (W4.setCell ⟨g1, k1, none⟩ (.int .u8 ((x ^^^ y).toNat : Int))) (by rw [ofL_size, List.length_set, pageL_length HP.out.2.2]) (by have := hput.2.2.2; rw [ofL_size, List.length_set, pageL_length HP.out.2.2] at this; exact this) hput.holds
          rw [bl_ofL, takeI_nat n _ HP.out.2.1] at T2
          obtain ⟨Z, hZ⟩ : ∃ Z, takeR n ((pageL n st (bl s)).set k1 (x ^^^ y)) = Z := ⟨_, rfl⟩
          have hZ2 : y ≠ 0 → Z = ([], 0, 10) := fun h => by rw [← hZ]; exact turned_page n n st (bl s) HP.out.2.2 k1 HK.out.1 _ (hne h)
          rw [hZ] at T2
          have T3 := Lib.hid T2
          have HZ := Lib.hid hZ2
          have hg12 : W2.heap.size ≤ W4.heap.size := H4.out.size
          have B6 := Lib.hid hb6
          clear hput hne T2 hZ hZ2 hb5 hb6 S1 hkp
          generalize ((x ^^^ y).toNat : Int) = xv at *
          go_wp2_with (fail)
          all_goals try (exfalso; omega; done)
          clear hcl hfz hxr
          refine T3.out.mono ?_
          rintro e W6 ⟨r6, rfl, hr6⟩
          have B7 := Lib.hid (below_cat B6.out hr6.below)
          have K6 := Lib.hid hr6.below
          clear hr6 T3
          have hy0 : ((y.toNat : Int) == 0) = false := by rw [HYZ.out]; exact decide_eq_false HQ.out
          have hy1 : ¬ (y.toNat : Int) = 0 := by have := hy0; rwa [beq_eq_false_iff_ne] at this
          rw [HZ.out HQ.out]
          have OW := Lib.hid (show Owns W6 W1.heap.size g2 c2 (ofL (headL n st)) from by
            have h4 := O2.out.far H4.out
            have hgg : g1 ≠ g2 := by have := O2.out.2.1; have h9 := G1.out; omega
            exact (h4.other hgg k1 _).far K6.out)
          have ey0 : Y.2 = 0 := by rw [HE.out.1]
          (try rw [ey0])
          (try rw [e2])
          clear ey0
          have TH := takehead_any (some ⟨g2, 0, none⟩) (ofL (headL n st)) 64 c2 W6 (by rw [ofL_size, headL_length]) (by have := (OW.out).2.2.2; rw [ofL_size, headL_length] at this; exact this) (OW.out).holds
          rw [bl_ofL, take_head n st HE.out.2.1 HE.out.2.2 HH.out.1] at TH
          have TH1 := Lib.hid TH
          clear TH e2
          go_wp2_with (fail)
          all_goals try (exfalso; omega; done)
          refine TH1.out.mono ?_
          rintro e W8 ⟨rfl, hb8⟩
          obtain ⟨W9, hW9⟩ : ∃ W9, W8.alloc (.cells #[.int .i64 (n : Int), .int .u64 (st : Int)] 43) = W9 := ⟨_, rfl⟩
          have n9 : W9.heap[W8.heap.size]? = some (.cells #[.int .i64 (n : Int), .int .u64 (st : Int)] 43 (0, 0)) := by rw [← hW9]; exact heap_alloc_new _ _
          have b89 : Below W8.heap.size W8 W9 := by rw [← hW9]; exact (Below.refl _ _).alloc (Nat.le_refl _) _
          have u0 : W9.cell? ⟨W8.heap.size, 0, none⟩ = some (.int .i64 (n : Int)) := by rw [cell_of_row _ _ _ _ _ _ n9]; rfl
          have u1 : W9.cell? ⟨W8.heap.size, 1, none⟩ = some (.int .u64 (st : Int)) := by rw [cell_of_row _ _ _ _ _ _ n9]; rfl
          have o9 := ((OW.out).far hb8).far b89
          have hkh : k2 < (headL n st).length := by rw [headL_length]; exact HK.out.2
          obtain ⟨hcl, hfz⟩ := o9.byte k2 hkh
          have hput := o9.put (t := ofL ((headL n st).set k2 ((headL n st)[k2]'hkh ^^^ y))) k2 ((headL n st)[k2]'hkh ^^^ y) (by rw [bl_ofL, bl_ofL])
          have hxr := xor_u8 ((headL n st)[k2]'hkh) y
          have hne : y ≠ 0 → (headL n st)[k2]? ≠ some ((headL n st)[k2]'hkh ^^^ y) := fun h e => by
            rw [List.getElem?_eq_getElem hkh] at e
            exact xor_other _ y h (Option.some.inj e).symm
          generalize (headL n st)[k2]'hkh = x2 at *
          have hb9 := (B0.out.trans (B7.out.mono B0.out.size)).trans ((below_cat hb8 b89).mono (B0.out.trans (B7.out.mono B0.out.size)).size)
          have hb10 := below_put hb9 (show w.heap.size ≤ g2 by have := o9.2.1; have := H1.out.2.size; omega) k2 (.int .u8 ((x2 ^^^ y).toNat : Int))
          have T2 := takehead_any (some ⟨g2, 0, none⟩) (ofL ((headL n st).set k2 (x2 ^^^ y))) 64 c2 (W9.setCell ⟨g2, k2, none⟩ (.int .u8 ((x2 ^^^ y).toNat : Int))) (by rw [ofL_size, List.length_set, headL_length]) (by have := hput.2.2.2; rw [ofL_size, List.length_set, headL_length] at this; exact this) hput.holds
          rw [bl_ofL] at T2
          obtain ⟨Z, hZ⟩ : ∃ Z, headR ((headL n st).set k2 (x2 ^^^ y)) = Z := ⟨_, rfl⟩
          have hZ2 : y ≠ 0 → Z = (0, 0, 10) := fun h => by rw [← hZ]; exact turned_head n st k2 HK.out.2 _ (hne h)
          rw [hZ] at T2
          have T3 := Lib.hid T2
          have HZ2 := Lib.hid hZ2
          have B10 := Lib.hid hb10
          clear hput hne T2 hZ hZ2 hb9 hb10 hb8 b89 n9 o9 TH1 hkh
          generalize ((x2 ^^^ y).toNat : Int) = xv2 at *
          go_wp2_with (fail)
          all_goals try (exfalso; omega; done)
          clear hcl hfz hxr u0 u1 hW9
          refine T3.out.mono ?_
          rintro e W11 ⟨rfl, hb11⟩
          have B11 := Lib.hid (below_cat B10.out hb11)
          clear hb11 T3
          have hy0 : ((y.toNat : Int) == 0) = false := by rw [HYZ.out]; exact decide_eq_false HQ.out
          have hy1 : ¬ (y.toNat : Int) = 0 := by have := hy0; rwa [beq_eq_false_iff_ne] at this
          rw [HZ2.out HQ.out]
          go_wp2_with (fail)
          all_goals try (exfalso; omega; done)
          go_ret
          exact ⟨rfl, B11.out⟩
        · have hy2 := headI_no (n : Int) st (by unfold outH; omega)
          rw [HY.out] at hy2
          have ty : ((Y.2 : Int) == 0) = false := by rw [beq_eq_false_iff_ne]; omega
          clear hn hn9 hl h1 hy2
          obtain ⟨g1, c1, e1, ho1, hb1⟩ := (show NewB (pageL n st (bl s)) W0 r1 W1 by
            rcases H1.out.1 with ⟨h0, _⟩ | h
            · rw [HP.out.1] at h0
              exact absurd (congrArg List.length h0) (by rw [pageL_length HP.out.2.2]; decide)
            · rw [HP.out.1] at h
              exact h)
          rw [pageL_length HP.out.2.2] at e1
          have O1 := Lib.hid (ho1.far H2.out.1.below)
          have G1 := Lib.hid (show g1 < W1.heap.size from ho1.2.2.1)
          rw [e1]
          have ex0 : X.2 = 0 := by rw [HP.out.1]
          rw [ex0]
          clear e1 ho1 hb1 ex0
          have TK := take_any (n : Int) (some ⟨g1, 0, none⟩) (ofL (pageL n st (bl s))) 512 c1 W2 (by rw [ofL_size, pageL_length HP.out.2.2]) (by have := O1.out.2.2.2; rw [ofL_size, pageL_length HP.out.2.2] at this; exact this) O1.out.holds
          rw [bl_ofL, takeI_nat n _ HP.out.2.1, take_page n st (bl s) HP.out.2.1 HH.out.1 HP.out.2.2] at TK
          have T1 := Lib.hid TK
          clear TK
          go_wp2_with (fail)
          all_goals try (exfalso; omega; done)
          refine T1.out.mono ?_
          rintro e W3 ⟨r3, rfl, hr3⟩
          obtain ⟨q3, d3, rfl, hq3, _⟩ := hr3.holds
          have FL := fill_any p s s.size c 496 W3 rfl (by have := HP.out.2.2; rw [bl_length] at this; exact this) (by decide) (HH.out.2.2.1.below (below_cat H2.out.2 hr3.below))
          rw [HM.out] at FL
          have F1 := Lib.hid FL
          have H3 := Lib.hid (And.intro hq3 hr3.below)
          have hl496 : (fillL (bl s) 496).length = 496 := fillL_length HP.out.2.2
          have HL := Lib.hid hl496
          rw [hl496]
          clear hr3 hq3 FL T1 hl496
          go_wp2_with (fail)
          all_goals try (exfalso; omega; done)
          refine F1.out.mono ?_
          rintro e W4 ⟨r4, rfl, g4, c4, rfl, ho4, hb4⟩
          have SM := same_told (p := q3) (q := some ⟨g4, 0, none⟩) (c := d3) (d := c4) (x := fillL (bl s) 496) (H3.out.1.below hb4) ho4.holds
          rw [HL.out] at SM ⊢
          have S1 := Lib.hid SM
          have H4 := Lib.hid (below_cat H3.out.2 hb4)
          clear ho4 hb4 SM F1
          go_wp2_with (fail)
          all_goals try (exfalso; omega; done)
          refine S1.out.mono ?_
          rintro e w' ⟨rfl, rfl⟩
          have hkp : k1 < (pageL n st (bl s)).length := by rw [pageL_length HP.out.2.2]; exact HK.out.1
          obtain ⟨hcl, hfz⟩ := (O1.out.far H4.out).byte k1 hkp
          have hjc : (k1 : Int) < 512 := j1
          have hput := (O1.out.far H4.out).put (t := ofL ((pageL n st (bl s)).set k1 ((pageL n st (bl s))[k1]'hkp ^^^ y))) k1 ((pageL n st (bl s))[k1]'hkp ^^^ y) (by rw [bl_ofL, bl_ofL])
          have hxr := xor_u8 ((pageL n st (bl s))[k1]'hkp) y
          have hne : y ≠ 0 → (pageL n st (bl s))[k1]? ≠ some ((pageL n st (bl s))[k1]'hkp ^^^ y) := fun h e => by
            rw [List.getElem?_eq_getElem hkp] at e
            exact xor_other _ y h (Option.some.inj e).symm
          generalize (pageL n st (bl s))[k1]'hkp = x at *
          have hb5 : Below W0.heap.size W0 W4 := below_cat (H1.out.1.below) (below_cat H2.out.1.below H4.out)
          have hb6 := below_put hb5 O1.out.2.1 k1 (.int .u8 ((x ^^^ y).toNat : Int))
          have T2 := take_any (n : Int) (some ⟨g1, 0, none⟩) (ofL ((pageL n st (bl s)).set k1 (x ^^^ y))) 512 c1 (W4.setCell ⟨g1, k1, none⟩ (.int .u8 ((x ^^^ y).toNat : Int))) (by rw [ofL_size, List.length_set, pageL_length HP.out.2.2]) (by have := hput.2.2.2; rw [ofL_size, List.length_set, pageL_length HP.out.2.2] at this; exact this) hput.holds
          rw [bl_ofL, takeI_nat n _ HP.out.2.1] at T2
          obtain ⟨Z, hZ⟩ : ∃ Z, takeR n ((pageL n st (bl s)).set k1 (x ^^^ y)) = Z := ⟨_, rfl⟩
          have hZ2 : y ≠ 0 → Z = ([], 0, 10) := fun h => by rw [← hZ]; exact turned_page n n st (bl s) HP.out.2.2 k1 HK.out.1 _ (hne h)
          rw [hZ] at T2
          have T3 := Lib.hid T2
          have HZ := Lib.hid hZ2
          have hg12 : W2.heap.size ≤ W4.heap.size := H4.out.size
          have B6 := Lib.hid hb6
          clear hput hne T2 hZ hZ2 hb5 hb6 S1 hkp
          generalize ((x ^^^ y).toNat : Int) = xv at *
          go_wp2_with (fail)
          all_goals try (exfalso; omega; done)
          clear hcl hfz hxr
          refine T3.out.mono ?_
          rintro e W6 ⟨r6, rfl, hr6⟩
          have B7 := Lib.hid (below_cat B6.out hr6.below)
          have K6 := Lib.hid hr6.below
          clear hr6 T3
          have hy0 : ((y.toNat : Int) == 0) = false := by rw [HYZ.out]; exact decide_eq_false HQ.out
          have hy1 : ¬ (y.toNat : Int) = 0 := by have := hy0; rwa [beq_eq_false_iff_ne] at this
          rw [HZ.out HQ.out]
          go_wp2_with (fail)
          all_goals try (exfalso; omega; done)
          go_ret
          exact ⟨rfl, B0.out.trans (B7.out.mono B0.out.size)⟩
      · have hx2 := layI_no (n : Int) st (bl s) (.inr (by omega))
        rw [HX.out] at hx2
        have tx : ((X.2 : Int) == 0) = false := by rw [beq_eq_false_iff_ne]; omega
        by_cases h1 : 1 ≤ n
        · have HE := Lib.hid (And.intro (HY.out.symm.trans (headI_nat n st h1 hn9)) (And.intro h1 hn9))
          clear hn hn9 hl h1 hx2
          obtain ⟨g2, c2, e2, ho2, hb2⟩ := (show NewB (headL n st) W1 r2 W2 by
            rcases H2.out.1 with ⟨h0, _⟩ | h
            · rw [HE.out.1] at h0
              exact absurd (congrArg List.length h0) (by rw [headL_length]; decide)
            · rw [HE.out.1] at h
              exact h)
          rw [headL_length] at e2
          have O2 := Lib.hid ho2
          clear ho2 hb2
          have ey0 : Y.2 = 0 := by rw [HE.out.1]
          (try rw [ey0])
          (try rw [e2])
          clear ey0
          have TH := takehead_any (some ⟨g2, 0, none⟩) (ofL (headL n st)) 64 c2 W2 (by rw [ofL_size, headL_length]) (by have := (O2.out).2.2.2; rw [ofL_size, headL_length] at this; exact this) (O2.out).holds
          rw [bl_ofL, take_head n st HE.out.2.1 HE.out.2.2 HH.out.1] at TH
          have TH1 := Lib.hid TH
          clear TH e2
          go_wp2_with (fail)
          all_goals try (exfalso; omega; done)
          refine TH1.out.mono ?_
          rintro e W8 ⟨rfl, hb8⟩
          obtain ⟨W9, hW9⟩ : ∃ W9, W8.alloc (.cells #[.int .i64 (n : Int), .int .u64 (st : Int)] 43) = W9 := ⟨_, rfl⟩
          have n9 : W9.heap[W8.heap.size]? = some (.cells #[.int .i64 (n : Int), .int .u64 (st : Int)] 43 (0, 0)) := by rw [← hW9]; exact heap_alloc_new _ _
          have b89 : Below W8.heap.size W8 W9 := by rw [← hW9]; exact (Below.refl _ _).alloc (Nat.le_refl _) _
          have u0 : W9.cell? ⟨W8.heap.size, 0, none⟩ = some (.int .i64 (n : Int)) := by rw [cell_of_row _ _ _ _ _ _ n9]; rfl
          have u1 : W9.cell? ⟨W8.heap.size, 1, none⟩ = some (.int .u64 (st : Int)) := by rw [cell_of_row _ _ _ _ _ _ n9]; rfl
          have o9 := ((O2.out).far hb8).far b89
          have hkh : k2 < (headL n st).length := by rw [headL_length]; exact HK.out.2
          obtain ⟨hcl, hfz⟩ := o9.byte k2 hkh
          have hput := o9.put (t := ofL ((headL n st).set k2 ((headL n st)[k2]'hkh ^^^ y))) k2 ((headL n st)[k2]'hkh ^^^ y) (by rw [bl_ofL, bl_ofL])
          have hxr := xor_u8 ((headL n st)[k2]'hkh) y
          have hne : y ≠ 0 → (headL n st)[k2]? ≠ some ((headL n st)[k2]'hkh ^^^ y) := fun h e => by
            rw [List.getElem?_eq_getElem hkh] at e
            exact xor_other _ y h (Option.some.inj e).symm
          generalize (headL n st)[k2]'hkh = x2 at *
          have hb9 := (H2.out.2).trans ((below_cat hb8 b89).mono (H2.out.2).size)
          have hb10 := below_put hb9 (show w.heap.size ≤ g2 by have := o9.2.1; have := H1.out.2.size; omega) k2 (.int .u8 ((x2 ^^^ y).toNat : Int))
          have T2 := takehead_any (some ⟨g2, 0, none⟩) (ofL ((headL n st).set k2 (x2 ^^^ y))) 64 c2 (W9.setCell ⟨g2, k2, none⟩ (.int .u8 ((x2 ^^^ y).toNat : Int))) (by rw [ofL_size, List.length_set, headL_length]) (by have := hput.2.2.2; rw [ofL_size, List.length_set, headL_length] at this; exact this) hput.holds
          rw [bl_ofL] at T2
          obtain ⟨Z, hZ⟩ : ∃ Z, headR ((headL n st).set k2 (x2 ^^^ y)) = Z := ⟨_, rfl⟩
          have hZ2 : y ≠ 0 → Z = (0, 0, 10) := fun h => by rw [← hZ]; exact turned_head n st k2 HK.out.2 _ (hne h)
          rw [hZ] at T2
          have T3 := Lib.hid T2
          have HZ2 := Lib.hid hZ2
          have B10 := Lib.hid hb10
          clear hput hne T2 hZ hZ2 hb9 hb10 hb8 b89 n9 o9 TH1 hkh
          generalize ((x2 ^^^ y).toNat : Int) = xv2 at *
          go_wp2_with (fail)
          all_goals try (exfalso; omega; done)
          clear hcl hfz hxr u0 u1 hW9
          refine T3.out.mono ?_
          rintro e W11 ⟨rfl, hb11⟩
          have B11 := Lib.hid (below_cat B10.out hb11)
          clear hb11 T3
          have hy0 : ((y.toNat : Int) == 0) = false := by rw [HYZ.out]; exact decide_eq_false HQ.out
          have hy1 : ¬ (y.toNat : Int) = 0 := by have := hy0; rwa [beq_eq_false_iff_ne] at this
          rw [HZ2.out HQ.out]
          go_wp2_with (fail)
          all_goals try (exfalso; omega; done)
          go_ret
          exact ⟨rfl, B11.out⟩
        · have hy2 := headI_no (n : Int) st (by unfold outH; omega)
          rw [HY.out] at hy2
          have ty : ((Y.2 : Int) == 0) = false := by rw [beq_eq_false_iff_ne]; omega
          clear hn hn9 hl h1 hx2 hy2
          go_wp2_with (fail)
          all_goals try (exfalso; omega; done)
          go_ret
          exact ⟨rfl, H2.out.2⟩
end Go.Proofs.Ytbbfbgccikeciaa
