/- Proved here: what the document's Read answers: the label that bytes are, or that there is none. -/
import Derived.Test.YtaiiigknlnhdgaaLabRReadP
import Derived.Deep.QuietTactic
import Derived.BigQuiet
namespace Go.Proofs.Ytaiiigknlnhdgaa
open Go.RowKit

theorem bit8 (x s : Nat) (hx : x < 256) : (bits BinOp.and IntKind.u8 ((x : Int) / 2 ^ s) 1 == 1) = x.testBit s := by
  have e1 : ((x : Int) / 2 ^ s) = ((x / 2 ^ s : Nat) : Int) := by simp
  have h2 := Nat.div_le_self x (2 ^ s)
  rw [e1, show (1 : Int) = ((1 : Nat) : Int) by rfl, u8_and_nat (x / 2 ^ s) 1 (by omega) (by decide), Nat.and_one_is_mod, Nat.testBit_eq_decide_div_mod_eq]
  by_cases q : x / 2 ^ s % 2 = 1
  · rw [q]; rfl
  · rw [decide_eq_false q, beq_eq_false_iff_ne]; omega
theorem wrap8 (x s : Nat) (hx : x < 256) : IntKind.u8.wrap ((x : Int) / 2 ^ s) = (x : Int) / 2 ^ s := by
  have e : ((x : Int) / 2 ^ s) = ((x / 2 ^ s : Nat) : Int) := by simp
  have h2 := Nat.div_le_self x (2 ^ s)
  rw [e]
  generalize x / 2 ^ s = y at *
  rw [IntKind.wrap_u8]; omega
theorem lr_drewN (w : World) (n : Nat) : Below w.heap.size w (w.drewN n) := ⟨rfl, rfl, rfl, Nat.le_refl _, fun _ _ => rfl⟩
def RO1 (U : List Bool) (n : Nat) (v4 v18 : Value) : Prop := ∃ (j : Nat) (z : ByteArray), v4 = .string z ∧ v18 = .int .i64 (j : Int) ∧ j ≤ n ∧ z.size = 8 * j ∧ Hid (z = strB (U.take (8 * j)))
def RO2 (U : List Bool) (j : Nat) (v4 v7 : Value) : Prop := ∃ (r : Nat) (y : Int) (z : ByteArray), v4 = .string z ∧ v7 = .int .i64 y ∧ y = (r : Int) - 1 ∧ r ≤ 8 ∧ z.size = 8 * j + (8 - r) ∧ Hid (z = strB (U.take (8 * j + (8 - r))))
def RO4 (U : List Bool) (t : Nat) (v10 v11 : Value) : Prop := ∃ (i : Nat) (r : Bool), v10 = .bool r ∧ v11 = .int .i64 (i : Int) ∧ t ≤ i ∧ i ≤ U.length ∧ Hid (r = true ↔ ∀ j, t ≤ j → j < i → U.getD j false = false)
theorem take_snoc {U : List Bool} {k : Nat} (h : k < U.length) (x : Bool) (hx : U.getD k false = x) : strB (U.take k) ++ strB [x] = strB (U.take (k + 1)) := by
  rw [strB_app, List.take_add_one, List.getElem?_eq_getElem h, ← hx, List.getD_eq_getElem?_getD, List.getElem?_eq_getElem h]
  rfl
set_option maxRecDepth 100000 in
set_option maxHeartbeats 16000000 in
theorem rread_any (p : Option Addr) (b : List Nat) (c : Nat) (w : World) (hb : b.length ≤ 140737488355328) (_hbc : b.length ≤ c) (h : HoldsU w p b) (hx : ∀ x ∈ b, x < 256) :
    Calls Try.prog 15 #[.slice p b.length c] w (RReadPost w (readP b)) := by
  have H := Lib.hid h
  have HX := Lib.hid (getD_lt hx)
  have CB := Lib.hid (fun W (hb : Below w.heap.size w W) => conv_any W p c b (h.below hb))
  have HXM := Lib.hid hx
  obtain ⟨n, hn⟩ : ∃ n, b.length = n := ⟨_, rfl⟩
  have hUl : (unpackB b).length = 8 * n := by rw [unpackB_length, hn]
  have HU := Lib.hid (And.intro hn hUl)
  have hbit : ∀ k r, k < n → r < 8 → (unpackB b).getD (8 * k + (7 - r)) false = (b.getD k 0).testBit r := by
    intro k r hk hr
    rw [unpackB_get _ _ (by omega)]
    unfold bitAt
    rw [show (8 * k + (7 - r)) / 8 = k by omega, show 7 - (8 * k + (7 - r)) % 8 = r by omega]
  have HBIT := Lib.hid hbit
  have RN := Lib.hid (fun (hb : n ≤ 120) i (hi : i < 8 * n) W => rnumber_any (unpackB b) (by omega) i (by omega) W)
  rw [hn] at CB hb ⊢
  have gn : (n : Int) ≤ 140737488355328 := by omega
  clear h hx _hbc hn hUl hb hbit
  go_enter Try.func15, Try.ntmps15
  go_wp2_with (fail)
  go_loop [4, 18] (fun v4 v18 => RO1 (unpackB b) n v4 v18) (fun _ v => n - (intOf v).toNat)
  case atStart => exact ⟨0, ⟨#[]⟩, rfl, rfl, Nat.zero_le _, rfl, Lib.hid (by rw [Nat.mul_zero, List.take_zero]; rfl)⟩
  case round =>
    obtain ⟨j, z, rfl, rfl, hj, hz, HZ⟩ := hrel
    by_cases hlt : j < n
    · obtain ⟨g, off, rfl, hc⟩ := H.out (by rw [HU.out.1]; omega)
      have c1 := hc j (by rw [HU.out.1]; exact hlt)
      have hx1 := HX.out j
      have BT := Lib.hid (fun r (hr : r < 8) => HBIT.out j r hlt hr)
      generalize b.getD j 0 = x at *
      have gj : (j : Int) < (n : Int) := by omega
      have HJ := Lib.hid (And.intro hlt (And.intro hz hx1))
      have gz : (z.size : Int) = 8 * (j : Int) := by omega
      clear hc hlt hj hz hx1
      go_wp2_with (fail)
      go_loop [4, 7] (fun v4 v7 => RO2 (unpackB b) j v4 v7) (fun _ v => (intOf v + 1).toNat)
      case atStart => exact ⟨8, 7, z, rfl, rfl, rfl, Nat.le_refl _, HJ.out.2.1, HZ⟩
      case round =>
        obtain ⟨r, y, z2, rfl, rfl, hy, hr, hz2, HZ2⟩ := hrel
        cases r with
        | zero =>
          obtain rfl : y = -1 := by omega
          have HR := Lib.hid hz2
          clear hy hr hz2
          go_wp2_with (fail)
          go_round
          case rel => exact ⟨j + 1, z2, rfl, by go_num, by have := HJ.out.1; omega, by rw [HR.out]; omega, HZ2⟩
          case measure => have := HJ.out.1; simp [intOf]; omega
        | succ s =>
          obtain rfl : y = (s : Int) := by omega
          have hs8 : s < 8 := by omega
          have gs : (s : Int) ≤ 7 := by omega
          have hbt := BT.out s hs8
          have h8 := bit8 x s HJ.out.2.2
          have hw8 := wrap8 x s HJ.out.2.2
          have hlen : 8 * j + (7 - s) < (unpackB b).length := by rw [HU.out.2]; have := HJ.out.1; omega
          have gz2 : (z2.size : Int) ≤ 1125899906842624 := by have := HJ.out.1; omega
          obtain ⟨x2, hx2⟩ : ∃ x2, x.testBit s = x2 := ⟨_, rfl⟩
          rw [hx2] at hbt h8
          have hsn := take_snoc hlen x2 hbt
          have HS := Lib.hid (And.intro hsn (And.intro hz2 (show s + 1 ≤ 8 by omega)))
          have z1 : ¬ z2.size + 1 > 9223372036854775807 := by omega
          have HW8 := Lib.hid hw8
          have H8 := Lib.hid h8
          clear hy hr hz2 hbt hlen hx2 hsn h8 hw8
          cases x2
          · have h8 := H8.out
            go_wp2_with (fail)
            go_round
            case rel => exact ⟨s, (s : Int) - 1, z2 ++ ⟨#[48]⟩, rfl, by go_num, rfl, by have := HS.out.2.2; omega, by rw [ByteArray.size_append, HS.out.2.1]; have := HS.out.2.2; show _ + 1 = _; omega, Lib.hid (by rw [HZ2.out, strB_nought, show 8 - (s + 1) = 7 - s by omega, show 8 * j + (8 - s) = 8 * j + (7 - s) + 1 by have := HS.out.2.2; omega]; exact HS.out.1)⟩
            case measure => simp [intOf]
          · have h8 := H8.out
            go_wp2_with (fail)
            go_round
            case rel => exact ⟨s, (s : Int) - 1, z2 ++ ⟨#[49]⟩, rfl, by go_num, rfl, by have := HS.out.2.2; omega, by rw [ByteArray.size_append, HS.out.2.1]; have := HS.out.2.2; show _ + 1 = _; omega, Lib.hid (by rw [HZ2.out, strB_one, show 8 - (s + 1) = 7 - s by omega, show 8 * j + (8 - s) = 8 * j + (7 - s) + 1 by have := HS.out.2.2; omega]; exact HS.out.1)⟩
            case measure => simp [intOf]
    · obtain rfl : j = n := by omega
      have hZ := HZ.out
      rw [List.take_of_length_le (by rw [HU.out.2]; exact Nat.le_refl _)] at hZ
      by_cases hbig : 120 < j
      · have gbig : (960 : Int) < (z.size : Int) := by omega
        have HN := Lib.hid (show readP b = none by unfold readP; rw [if_pos (by rw [HU.out.1]; exact hbig)])
        clear hlt hj hz hZ HZ hbig
        go_wp2_with (fail)
        go_ret2
        exact ⟨Below.refl _ _, .inl ⟨none, 0, 0, HN.out, rfl⟩⟩
      · have gbig : ¬ (960 : Int) < (z.size : Int) := by omega
        have RN1 := Lib.hid (RN.out (by omega))
        have hzU : z.size = (unpackB b).length := by rw [HU.out.2]; exact hz
        obtain ⟨U, hU⟩ : ∃ U, unpackB b = U := ⟨_, rfl⟩
        have HUB := Lib.hid hU
        rw [hU] at RN1 hZ hzU
        have hU9 : U.length ≤ 960 := by rw [← hU, HU.out.2]; omega
        have hUj : U.length = 8 * j := by rw [← hU, HU.out.2]
        have hat : ∀ i (h : i < z.size), ((z[i]'h).toNat : Int) = ((sgn (U.getD i false)).toNat : Int) := fun i h => by rw [strB_at U z hZ.symm i h]
        have HAT := Lib.hid hat
        have HJ := Lib.hid hUj
        rw [← hZ] at RN1
        have gU : (U.length : Int) ≤ 960 := by omega
        have gzU : (z.size : Int) = (U.length : Int) := by omega
        clear hlt hj hz hZ HZ hbig RN hU hat hUj
        go_wp2_with (fail)
        go_loopw [8, 9] (fun v8 v9 wr => RRdRel w b U v8 v9 wr) (fun _ v _ => U.length - (intOf v).toNat)
        case atStart => exact ⟨0, [], _, _, rfl, rfl, Nat.zero_le _, Lib.hid ⟨ownI_new w [] (by simp), (Below.refl _ _).alloc (Nat.le_refl _) _, Nat.le_refl _, fun m hm => ⟨0, Nat.zero_le _, rfl, rfl⟩⟩⟩
        case round =>
          obtain ⟨t, acc, q, d, rfl, rfl, ht, HR⟩ := hrel
          have gt : (t : Int) ≤ (U.length : Int) := by omega
          have HT := Lib.hid ht
          clear ht
          go_wp2_with (fail)
          go_loop [10, 11] (fun v10 v11 => RO4 U t v10 v11) (fun _ v => U.length - (intOf v).toNat)
          case atStart => exact ⟨t, true, rfl, rfl, Nat.le_refl _, HT.out, Lib.hid ⟨fun _ j h1 h2 => absurd h2 (by omega), fun _ => rfl⟩⟩
          case round =>
            obtain ⟨i, r, rfl, rfl, hi1, hi2, HRR⟩ := hrel
            by_cases hlt : i < U.length
            · have hiz : i < z.size := by omega
              have gi : (i : Int) < (U.length : Int) := by omega
              have hq : (((z[i]'hiz).toNat : Int) == 48) = !(U.getD i false) := by rw [HAT.out i hiz]; cases U.getD i false <;> rfl
              have HI := Lib.hid (And.intro hlt hi1)
              cases r
              · clear hlt hi1 hi2 hq
                go_wp2_with (fail)
                go_round
                case rel =>
                  refine ⟨i + 1, false, rfl, by go_num, by have := HI.out; omega, by have := HI.out; omega, Lib.hid ⟨fun e => by simp at e, fun e => ?_⟩⟩
                  exact HRR.out.2 (fun j h1 h2 => e j h1 (by omega))
                case measure => have := HI.out.1; simp [intOf]; omega
              · obtain ⟨x, hx⟩ : ∃ x, U.getD i false = x := ⟨_, rfl⟩
                rw [hx] at hq
                have HX2 := Lib.hid hx
                clear hlt hi1 hi2 hx
                cases x
                · have hq' : (((z[i]'hiz).toNat : Int) == 48) = true := hq
                  clear hq
                  go_wp2_with (fail)
                  go_round
                  case rel =>
                    refine ⟨i + 1, true, rfl, by go_num, by have := HI.out; omega, by have := HI.out; omega, Lib.hid ⟨fun _ j h1 h2 => ?_, fun _ => rfl⟩⟩
                    rcases Nat.lt_or_ge j i with y | y
                    · exact HRR.out.1 rfl j h1 y
                    · rw [show j = i by omega]; exact HX2.out
                  case measure => have := HI.out.1; simp [intOf]; omega
                · have hq' : (((z[i]'hiz).toNat : Int) == 48) = false := hq
                  clear hq
                  go_wp2_with (fail)
                  go_round
                  case rel =>
                    refine ⟨i + 1, false, rfl, by go_num, by have := HI.out; omega, by have := HI.out; omega, Lib.hid ⟨fun e => by simp at e, fun e => ?_⟩⟩
                    have := e i HI.out.2 (by omega)
                    rw [HX2.out] at this; exact absurd this (by decide)
                  case measure => have := HI.out.1; simp [intOf]; omega
            · have gi : ¬ (i : Int) < (U.length : Int) := by omega
              have HI := Lib.hid (show i = U.length by omega)
              clear hlt hi1 hi2
              cases r
              · obtain ⟨j, hj1, hj2⟩ : ∃ j, t ≤ j ∧ U.getD j false = true := by
                  apply Classical.byContradiction
                  intro hno
                  have := HRR.out.2 (fun j h1 h2 => by
                    cases hv : U.getD j false with
                    | false => rfl
                    | true => exact absurd ⟨j, h1, hv⟩ hno)
                  exact absurd this (by decide)
                have htU : t < U.length := by
                  rcases Nat.lt_or_ge t U.length with y | y
                  · exact y
                  · rw [getD_over U j (by omega)] at hj2; exact absurd hj2 (by decide)
                have RN2 := Lib.hid (RN1.out t (by have := HJ.out; omega))
                have hsz := numR_size (U.drop t)
                rw [List.length_drop] at hsz
                have hstep : ∀ m, readP b = some m → ∃ k, (numR (U.drop t)).2 ≠ 0 ∧ k + 1 ≤ m.length ∧ acc ++ [(numR (U.drop t)).1] = m.take (k + 1) ∧ t + (numR (U.drop t)).2 = (bitsL (m.take (k + 1))).length := by
                  intro m hm
                  obtain ⟨k, hk, hacc, htk⟩ := HR.out.2.2.2 m hm
                  have hh := rd_step hm hk (j := j) (by omega) (by rw [HUB.out]; exact hj2)
                  rw [HUB.out, ← htk] at hh
                  obtain ⟨h1, h2, h3, h4, h5⟩ := hh
                  exact ⟨k, h2, h1, by rw [hacc, h3]; exact h5, h4⟩
                obtain ⟨R, hR⟩ : ∃ R, numR (U.drop t) = R := ⟨_, rfl⟩
                rw [hR] at RN2 hsz hstep
                obtain ⟨v, s⟩ := R
                simp only at RN2 hsz hstep
                have HST := Lib.hid hstep
                have HSZ := Lib.hid (And.intro hsz htU)
                by_cases hs : s = 0
                · have hnx : nextR t s = -1 := by unfold nextR; rw [if_pos hs]
                  rw [hnx] at RN2
                  have HN := Lib.hid (show readP b = none by
                    cases hv : readP b with
                    | none => rfl
                    | some m => obtain ⟨k, h1, _⟩ := hstep m hv; exact absurd hs h1)
                  clear hs hnx hsz hstep hR htU hj1 hj2 HI
                  go_wp2_with (fail)
                  refine (RN2.out _).mono ?_
                  rintro e w' ⟨rfl, rfl⟩
                  go_wp2_with (fail)
                  go_ret2
                  exact ⟨HR.out.2.1, .inl ⟨none, 0, 0, HN.out, rfl⟩⟩
                · have hnx : nextR t s = ((t + s : Nat) : Int) := by unfold nextR; rw [if_neg hs]
                  rw [hnx] at RN2
                  obtain ⟨g, cap, w1, hrun, hown, hgr⟩ := appendI_one (x := v) HR.out.1 HR.out.2.1.size (by have := HR.out.2.2.1; omega)
                  have HA := Lib.hid hrun
                  have HG := Lib.hid (And.intro hown hgr)
                  obtain ⟨t2, ht2⟩ : ∃ t2, t + s = t2 := ⟨_, rfl⟩
                  rw [ht2] at RN2
                  have HT2 := Lib.hid (And.intro ht2 hs)
                  have gt2 : ¬ (t2 : Int) < 0 := by omega
                  clear hs hnx hsz hstep hR htU hj1 hj2 HI hrun hown hgr ht2
                  go_wp2_with (fail)
                  refine (RN2.out _).mono ?_
                  rintro e w' ⟨rfl, rfl⟩
                  go_wp2_with (at_builtin; refine t_append_eq rfl _ _ _ rfl _ _ _ _ rfl rfl HA.out ?_)
                  go_round
                  case rel =>
                    obtain ⟨ho, hb, hal, hm⟩ := HR.out
                    have hsz := HSZ.out
                    have h2 := HT2.out
                    refine ⟨t2, acc ++ [v], some ⟨g, 0, none⟩, cap, by rw [List.length_append]; rfl, rfl, by omega, Lib.hid ⟨HG.out.1, hb.grown HG.out.2 hb.size (fun k e => (World.ownsRow.lt ho.1 k e).1), by rw [List.length_append]; simp; omega, fun m hv => ?_⟩⟩
                    obtain ⟨k, h1, h3, h4, h5⟩ := HST.out m hv
                    exact ⟨k + 1, h3, h4, by rw [← h2.1]; exact h5⟩
                  case measure => have := HSZ.out; have := HT2.out; simp [intOf]; omega
              · have hall : ∀ j, t ≤ j → U.getD j false = false := by
                  intro j h1
                  rcases Nat.lt_or_ge j U.length with y | y
                  · exact HRR.out.1 rfl j h1 (by rw [HI.out]; exact y)
                  · exact getD_over U j y
                have hacc : ∀ m, readP b = some m → acc = m := by
                  intro m hm
                  obtain ⟨k, hk, hacc, htk⟩ := HR.out.2.2.2 m hm
                  have := rd_end hm hk (by rw [HUB.out]; intro j h1; exact hall j (by omega))
                  rw [hacc, this, List.take_of_length_le (Nat.le_refl _)]
                have hno : readP b = none → checkP acc = 0 → rbP acc ≠ b := by
                  intro h1 h2 h3
                  unfold rbP at h3
                  rw [if_pos h2] at h3
                  have := (read_pack h2).1
                  rw [h3, h1] at this
                  exact absurd this (by simp)
                have HACC := Lib.hid (And.intro hacc hno)
                have hal : acc.length ≤ 960 := by have := HR.out.2.2.1; have := HT.out; omega
                have RB := Lib.hid (rbytes_any q acc d wr (by omega) HR.out.1.2.2 HR.out.1.holds)
                clear hall hacc hno hal HI HRR HAT RN1
                go_wp2_with (fail)
                refine (RB.out).mono ?_
                rintro e w2 ⟨q2, c2, rfl, ho, hb⟩
                have HB := Lib.hid (t_cat HR.out.2.1 hb)
                have C1 := fun nq => conv_any (w2.drewN nq) q2 c2 (rbP acc) (ho.holds.below (lr_drewN _ _))
                have C2 := fun nq => CB.out (w2.drewN nq) (t_cat HB.out (lr_drewN _ _))
                have hlt1 : ∀ x ∈ rbP acc, x < 256 := by
                  unfold rbP
                  split
                  · exact packB_lt _
                  · intro x hx; simp at hx
                have SE := Lib.hid (strU_eq hlt1 HXM.out)
                have HO := Lib.hid ((HR.out.1.far hb).holds)
                have HQ := Lib.hid HR.out.1.2.2
                generalize strU (rbP acc) = s1 at *
                generalize strU b = s2 at *
                clear hlt1 ho hb RB
                cases hv : readP b with
                | none =>
                  have HV := Lib.hid hv
                  by_cases hk : checkP acc = 0
                  · have hne := HACC.out.2 hv hk
                    have se : (s1.toList == s2.toList) = false := by rw [SE.out, decide_eq_false hne]
                    have hq : (checkP acc == 0) = true := by rw [hk]; rfl
                    generalize checkP acc = e9 at *
                    clear hne hk hv SE
                    go_wp2_with (fail)
                    go_quiet (fail)
                    go_wp2_with (fail)
                    go_ret2
                    exact ⟨t_cat HB.out (lr_drewN _ _), .inl ⟨_, _, _, HV.out, rfl⟩⟩
                  · have hq : (checkP acc == 0) = false := by rw [beq_eq_false_iff_ne]; exact hk
                    generalize checkP acc = e9 at *
                    clear hk hv SE
                    go_wp2_with (fail)
                    go_quiet (fail)
                    go_wp2_with (fail)
                    go_ret2
                    exact ⟨t_cat HB.out (lr_drewN _ _), .inl ⟨_, _, _, HV.out, rfl⟩⟩
                | some m =>
                  have HV := Lib.hid hv
                  have hm := HACC.out.1 m hv
                  have hf := read_facts hv
                  have hrb : rbP acc = b := by unfold rbP; rw [hm, if_pos hf.1]; exact hf.2
                  have se : (s1.toList == s2.toList) = true := by rw [SE.out, decide_eq_true hrb]
                  have hq : (checkP acc == 0) = true := by rw [hm, hf.1]; rfl
                  have HM := Lib.hid hm
                  generalize checkP acc = e9 at *
                  clear hm hf hrb hv SE
                  go_wp2_with (fail)
                  go_quiet (fail)
                  go_wp2_with (fail)
                  go_ret2
                  exact ⟨t_cat HB.out (lr_drewN _ _), .inr ⟨acc, q, d, by rw [HM.out]; exact HV.out, rfl, HO.out.below (lr_drewN _ _), HQ.out⟩⟩
end Go.Proofs.Ytaiiigknlnhdgaa
