/- Proved here: what the document's Read answers of every text. -/
import Derived.Test.YtpcdcndniibalaaDoorTrailRKit
import Derived.Deep.RegionWith
import Derived.BigGuardPart
import Derived.Laws.DeepStrings4
namespace Go.Proofs.YtpcdcndniibalaaDoor
open Go.RowKit

set_option maxRecDepth 100000 in
set_option maxHeartbeats 4000000 in
theorem rread_top (w : World) : Calls Tryd.prog 13 #[.string ⟨#[47]⟩] w (RReadPost w [47]) := by
  have F0 := Lib.hid (TRSt.first w)
  obtain ⟨⟨r0, r1, r2, r3⟩, ⟨f0, f1, f2, f3⟩⟩ := t_cells F0.out.res
  obtain ⟨⟨c0, c1, c2, c3⟩, -⟩ := t_cells (t_two w (.cells #[.slice none 0 0, .bool false, .string ⟨#[]⟩, .string ⟨#[]⟩] 34) (.cells #[.slice none 0 0, .bool false, .string ⟨#[]⟩, .string ⟨#[]⟩] 34))
  go_enter Tryd.func13, Tryd.ntmps13
  go_wp2_with (fail)
  refine bodyPost_ret (v := .tuple #[.agg #[.slice none 0 0, .bool false, .string ⟨#[]⟩, .string ⟨#[]⟩], .bool true]) ?_ rfl ?_
  · rw [results_cell_tmp rfl]
    go_simp
  · exact ⟨none, 0, trZ, true, rfl, ⟨fun q => absurd q (Nat.lt_irrefl 0), Nat.le_refl _, Nat.zero_le _⟩, F0.out.below, rfl⟩
set_option maxRecDepth 100000 in
set_option maxHeartbeats 64000000 in
theorem rread_main (s : ByteArray) (w : World) (hT : Tabs w) (hs : s.size ≤ 4194304) (hne : s.data.toList ≠ [47]) :
    Calls Tryd.prog 13 #[.string s] w (RReadPost w s.data.toList) := by
  have hz : (s.toList == [47]) = false := by rw [beq_eq_false_iff_ne, ByteArray.toList_eq]; exact hne
  obtain ⟨RES, hRES⟩ : ∃ R, stepsR s.data.toList.length [] s.data.toList = R := ⟨_, rfl⟩
  have HRES := Lib.hid (And.intro hne hRES)
  have RRT := Lib.hid (fun W (y : Below w.heap.size w W) q d t (x : TrAt W q d t) (h1 : t.uri.size ≤ 4194304) (h2 : t.loc.size ≤ 4194304) => rright_any q d t W x (hT.below y) (by omega) (by omega))
  have F0 := Lib.hid (TRSt.first w)
  have l0 : (s.size : Int) ≤ 4194304 := by omega
  clear hne hRES hT
  unfold TrV at RRT
  go_enter Tryd.func13, Tryd.ntmps13
  go_wp2_with (fail)
  go_loopw [5] (fun v5 wr => ∃ (j f : Nat) (acc : List Int), v5 = .int .i64 (j : Int) ∧ j ≤ s.size ∧ acc.length ≤ 64 ∧ Hid (TRSt w wr false ⟨#[]⟩ ⟨#[]⟩ acc) ∧ Hid (stepsR f acc (s.data.toList.drop j) = RES ∧ s.size ≤ j + f)) (fun v5 _ => s.size - (intOf v5).toNat)
  case atStart => exact ⟨0, s.data.toList.length, [], rfl, Nat.zero_le _, Nat.zero_le _, F0, Lib.hid ⟨HRES.out.2, by rw [ba_size]; omega⟩⟩
  case round =>
    obtain ⟨j, f, acc, rfl, hj, hl, HM, HS⟩ := hrel
    have hl1 : (acc.length : Int) ≤ 64 := by omega
    have hjl : (j : Int) ≤ 4194304 := by omega
    by_cases hA : j + 1 < s.size
    · obtain ⟨j1, hj1⟩ : ∃ j1, j + 1 = j1 := ⟨_, rfl⟩
      obtain ⟨j2, hj2⟩ : ∃ j2, j + 2 = j2 := ⟨_, rfl⟩
      have HJ := Lib.hid (And.intro hj1 hj2)
      have e1 : (j : Int) + 1 = (j1 : Int) := by omega
      have e2 : (j : Int) + 2 = (j2 : Int) := by omega
      have i0 : (j : Int) < (s.size : Int) := by omega
      have i1 : (j1 : Int) < (s.size : Int) := by omega
      have k1 : j1 < s.size := by omega
      have k0 : j < s.size := by omega
      have k2 : j2 ≤ s.size := by omega
      have nj : ((j : Int) == (s.size : Int)) = false := by rw [beq_eq_false_iff_ne]; omega
      have hd : s.data.toList.drop j = s[j] :: s[j1] :: s.data.toList.drop j2 := by subst hj1 hj2; rw [b_drop s j (by omega), b_drop s (j + 1) (by omega)]
      have HD := Lib.hid hd
      obtain ⟨x, hx⟩ : ∃ x : Int, ((s[j]'k0).toNat : Int) = x := ⟨_, rfl⟩
      obtain ⟨y, hy⟩ : ∃ y : Int, ((s[j1]'k1).toNat : Int) = y := ⟨_, rfl⟩
      have HX := Lib.hid (show x = 47 ↔ s[j]'k0 = 47 by rw [← hx]; exact u8_int (by decide))
      have HY := Lib.hid (show y = 64 ↔ s[j1]'k1 = 64 by rw [← hy]; exact u8_int (by decide))
      have HY2 := Lib.hid (show y = 48 ↔ s[j1]'k1 = 48 by rw [← hy]; exact u8_int (by decide))
      clear hj1 hj2 hd hA
      by_cases ha : x = 47
      · subst ha
        by_cases hc : y = 64
        · subst hc
          obtain ⟨q, c, hblk, -⟩ := HM.out.own
          obtain ⟨⟨c0, c1, c2, c3⟩, ⟨f0, f1, f2, f3⟩⟩ := t_cells hblk
          have HA1 := Lib.hid (HM.out.attr true)
          have h47 : s[j]'k0 = 47 := HX.out.1 rfl
          have h64 : s[j1]'k1 = 64 := HY.out.1 rfl
          have HST := Lib.hid (HRES.out.2.trans (HS.out.1.symm.trans (stepsR_stop f acc _ (fun a c r e => by rw [HD.out, h64] at e; injection e with e3 e4; injection e4 with e5 e6; rintro ⟨_, q⟩; exact q e5.symm))))
          have HDD := Lib.hid (show s.data.toList.drop j = 47 :: 64 :: s.data.toList.drop j2 by rw [HD.out, h47, h64])
          clear h47 h64 hblk HD HX HY HY2
          go_upto_region 20 with fail
          generalize wr.setCell ⟨w.heap.size + 1, 1, none⟩ (.bool true) = wa at *
          clear HM HS c0 c1 c2 c3 f0 f1 f2 f3
          have hk2 : (j2 : Int) ≤ (s.size : Int) := by omega
          go_wp2_with (fail)
          go_loop [8] (fun v8 => ∃ k : Nat, v8 = .int .i64 (k : Int) ∧ j2 ≤ k ∧ k ≤ s.size ∧ Hid (nameR (s.data.toList.drop j2) = ((s.data.toList.drop j2).take (k - j2) ++ (nameR (s.data.toList.drop k)).1, (nameR (s.data.toList.drop k)).2))) (fun v8 => s.size - (intOf v8).toNat)
          case atStart => exact ⟨j2, rfl, Nat.le_refl _, k2, Lib.hid (by rw [Nat.sub_self, List.take_zero, List.nil_append])⟩
          case round =>
            obtain ⟨k, rfl, hk1, hk3, HK⟩ := hrel
            have g0 : (j2 : Int) ≤ (k : Int) := by omega
            have g1 : (k : Int) ≤ (s.size : Int) := by omega
            by_cases hlt : k < s.size
            · have g2 : (k : Int) < (s.size : Int) := by omega
              obtain ⟨z, hzz⟩ : ∃ z : Int, ((s[k]'hlt).toNat : Int) = z := ⟨_, rfl⟩
              have HZ := Lib.hid (show z = 123 ↔ s[k]'hlt = 123 by rw [← hzz]; exact u8_int (by decide))
              by_cases h123 : z = 123
              · subst h123
                have hsk := HZ.out.1 rfl
                have hnm : nameR (s.data.toList.drop j2) = ((s.extract j2 k).data.toList, some (s.data.toList.drop (k + 1))) := by
                  rw [HK.out, b_drop s k hlt, nameR_stop _ _ hsk, ext_from]; simp
                have HNM := Lib.hid hnm
                obtain ⟨pn, hpn⟩ : ∃ pn, s.extract j2 k = pn := ⟨_, rfl⟩
                have hpz : pn.size ≤ 4194304 := by rw [← hpn, ByteArray.size_extract]; omega
                rw [hpn] at HNM
                obtain ⟨n1, hn1⟩ : ∃ n1, s.size - 1 = n1 := ⟨_, rfl⟩
                have e3 : (s.size : Int) - 1 = (n1 : Int) := by omega
                have i3 : (n1 : Int) < (s.size : Int) := by omega
                have kn : n1 < s.size := by omega
                obtain ⟨v, hv⟩ : ∃ v : Int, ((s[n1]'kn).toNat : Int) = v := ⟨_, rfl⟩
                have HV := Lib.hid (show v = 125 ↔ s[n1]'kn = 125 by rw [← hv]; exact u8_int (by decide))
                have HSP := Lib.hid (show ((s.data.toList.drop (k + 1)).length < 2 ∨ (s.data.toList.drop (k + 1)).getLast? ≠ some 125) ↔ (s.size ≤ k + 2 ∨ ¬ v = 125) by
                  rw [b_len]
                  by_cases hq : s.size ≤ k + 2
                  · simp only [hq, true_or, iff_true]; left; omega
                  · rw [last_of s (k + 1) (by omega)]
                    have e9 : (s[s.size - 1]'(by omega)) = s[n1]'kn := by subst hn1; rfl
                    rw [e9]
                    constructor
                    · rintro (q1 | q1)
                      · omega
                      · right; intro q2; exact q1 (by rw [HV.out.1 q2])
                    · rintro (q1 | q1)
                      · omega
                      · right; intro q2; exact q1 (HV.out.2 (Option.some.inj q2)))
                have HLST := Lib.hid (show (s.data.toList.drop (k + 1)).dropLast = (s.extract (k + 1) n1).data.toList ∨ s.size ≤ k + 2 by
                  by_cases hq : s.size ≤ k + 2
                  · exact .inr hq
                  · left; rw [drop_last s (k + 1) (by omega), hn1])
                obtain ⟨qa, ca, hblk, -⟩ := HA1.out.own
                obtain ⟨⟨c0, c1, c2, c3⟩, ⟨f0, f1, f2, f3⟩⟩ := t_cells hblk
                have HL1 := Lib.hid (HA1.out.loc pn)
                have hb4 : wa.heap[w.heap.size + 1]? = _ := hblk
                clear hblk hsk hnm hn1
                by_cases hv1 : v = 125
                · subst hv1
                  by_cases hq : k + 2 < s.size
                  · have g5 : ¬ (s.size : Int) ≤ (k : Int) + 2 := by omega
                    have g6 : decide ((s.size : Int) ≤ (k : Int) + 2) = false := decide_eq_false g5
                    obtain ⟨kk, hkk⟩ : ∃ kk, k + 1 = kk := ⟨_, rfl⟩
                    have e5 : (k : Int) + 1 = (kk : Int) := by omega
                    have g7 : (kk : Int) ≤ (n1 : Int) := by omega
                    have g8 : (n1 : Int) ≤ (s.size : Int) := by omega
                    obtain ⟨pu, hpu⟩ : ∃ pu, s.extract kk n1 = pu := ⟨_, rfl⟩
                    have hpuz : pu.size ≤ 4194304 := by rw [← hpu, ByteArray.size_extract]; omega
                    have HTL := Lib.hid (show tailR acc s.data.toList.length (s.data.toList.drop j) = some ⟨acc, true, pu, pn⟩ by
                      rw [HDD.out, tailR_space _ _ _ _ _ HNM.out (fun q9 => by rcases HSP.out.1 q9 with q9 | q9; (omega); (exact q9 rfl))]
                      rcases HLST.out with q9 | q9
                      · rw [q9, hkk, hpu]
                      · omega)
                    have HRD := Lib.hid (readR_attr HRES.out.1 HST.out HTL.out rfl)
                    have hbl := HL1.out.own
                    have HU1 := Lib.hid (HL1.out.uri pu)
                    obtain ⟨qb, cb, hblk, -⟩ := hbl
                    obtain ⟨⟨d0, d1, d2, d3⟩, ⟨p0, p1, p2, p3⟩⟩ := t_cells hblk
                    clear hblk hq hkk hb4 HTL HLST HSP HNM HDD HST HRES HZ HV HK
                    go_upto_region 28 with fail
                    generalize (wa.setCell ⟨w.heap.size + 1, 3, none⟩ (.string pn)).setCell ⟨w.heap.size + 1, 2, none⟩ (.string pu) = w5 at *
                    clear c0 c1 c2 c3 f0 f1 f2 f3 d0 d1 d2 d3 p0 p1 p2 p3 HL1 HA1
                    obtain ⟨q, c, hblk, hat, -, -⟩ := (HU1.out).post hl s.data.toList (rightT ⟨acc, true, pu, pn⟩) HRD.out
                    have RR := Lib.hid (fun W (y : Below w.heap.size w W) (x : TrAt W q c ⟨acc, true, pu, pn⟩) => RRT.out W y q c ⟨acc, true, pu, pn⟩ x (by show ByteArray.size pu ≤ _; exact hpuz) hpz)
                    obtain ⟨⟨c0, c1, c2, c3⟩, -⟩ := t_cells hblk
                    have HAT := Lib.hid (And.intro hat (And.intro hblk (And.intro (HU1.out).res (HU1.out).below)))
                    have HG4 := Lib.hid (HU1.out).size
                    obtain ⟨ok, hok⟩ : ∃ ok, rightT ⟨acc, true, pu, pn⟩ = ok := ⟨_, rfl⟩
                    rw [hok] at HRD RR
                    clear hat hblk hok HU1
                    go_region_with (first
                      | (go_at_call 10
                         with_reducible (refine (RR.out _ ?_ ?_).mono ?_)
                         · exact ⟨HAT.out.2.2.2.os, HAT.out.2.2.2.tape, HAT.out.2.2.2.output, HAT.out.2.2.2.size, HAT.out.2.2.2.block⟩
                         · exact HAT.out.1
                         rintro e6 w6 ⟨rfl, hb6⟩
                         have hb7 : Below w5.heap.size w5 w6 := ⟨hb6.os, hb6.tape, hb6.output, hb6.size, hb6.block⟩
                         have hblk6 := (hb7.block _ (by have := HG4.out; omega)).trans HAT.out.2.1
                         have hres6 := (hb7.block _ (by have := HG4.out; omega)).trans HAT.out.2.2.1
                         have hat6 := HAT.out.1.below hb7
                         obtain ⟨⟨c0, c1, c2, c3⟩, -⟩ := t_cells hblk6
                         obtain ⟨⟨r0, r1, r2, r3⟩, ⟨f0, f1, f2, f3⟩⟩ := t_cells hres6
                         have HQ := Lib.hid (And.intro (setT_row (.slice q acc.length c) (.bool true) (.string pu) (.string pn) hres6) (show RReadPost w s.data.toList (.returned (.tuple #[.agg #[.slice q acc.length c, .bool true, .string pu, .string pn], .bool ok])) (setT w6 w.heap.size (.slice q acc.length c) (.bool true) (.string pu) (.string pn)) from ⟨q, c, ⟨acc, true, pu, pn⟩, ok, rfl, ⟨hat6.1.setT _ _ _ _ hres6, hat6.2⟩, setT_below _ _ _ _ (t_cat HAT.out.2.2.2 hb7) (Nat.le_refl _), HRD.out⟩))
                         clear hb6 hb7 hblk6 hres6 hat6))
                    all_goals
                      go_wp2_with (fail)
                      change bodyPost _ _ _ _ _ (setT _ w.heap.size (.slice q acc.length c) (.bool true) (.string pu) (.string pn))
                      obtain ⟨⟨d0, d1, d2, d3⟩, _⟩ := t_cells HQ.out.1
                      refine bodyPost_ret (v := .tuple #[.agg #[.slice q acc.length c, .bool true, .string pu, .string pn], .bool ok]) ?_ rfl ?_
                      · rw [results_cell_tmp rfl]
                        go_simp
                      · exact HQ.out.2
                  · have g5 : (s.size : Int) ≤ (k : Int) + 2 := by omega
                    have HTL := Lib.hid (show tailR acc s.data.toList.length (s.data.toList.drop j) = none by
                      rw [HDD.out]; exact tailR_bad _ _ _ _ _ HNM.out (HSP.out.2 (.inl (by omega))))
                    have HN := Lib.hid (readR_tail HRES.out.1 HST.out HTL.out)
                    have HQ := Lib.hid (HL1.out.postN s.data.toList HN.out)
                    obtain ⟨⟨r0, r1, r2, r3⟩, -⟩ := t_cells HA1.out.res
                    obtain ⟨-, ⟨t0, t1, t2, t3⟩⟩ := t_cells HL1.out.res
                    obtain ⟨⟨s0, s1, s2, s3⟩, -⟩ := t_cells HL1.out.res
                    clear HTL HLST HSP HNM HDD HST HRES HZ HV HK HN hb4
                    go_wp2_with (fail)
                    all_goals try (exfalso; omega)
                    change bodyPost _ _ _ _ _ (setT (wa.setCell ⟨w.heap.size + 1, 3, none⟩ (.string pn)) w.heap.size (.slice none 0 0) (.bool false) (.string ⟨#[]⟩) (.string ⟨#[]⟩))
                    generalize setT (wa.setCell ⟨w.heap.size + 1, 3, none⟩ (.string pn)) w.heap.size (.slice none 0 0) (.bool false) (.string ⟨#[]⟩) (.string ⟨#[]⟩) = w9 at *
                    obtain ⟨⟨d0, d1, d2, d3⟩, _⟩ := t_cells HQ.out.1
                    refine bodyPost_ret (v := .tuple #[.agg #[.slice none 0 0, .bool false, .string ⟨#[]⟩, .string ⟨#[]⟩], .bool false]) ?_ rfl ?_
                    · rw [results_cell_tmp rfl]
                      go_simp
                    · exact HQ.out.2
                · have v1 : (v == 125) = false := by rw [beq_eq_false_iff_ne]; exact hv1
                  have HTL := Lib.hid (show tailR acc s.data.toList.length (s.data.toList.drop j) = none by
                    rw [HDD.out]; exact tailR_bad _ _ _ _ _ HNM.out (HSP.out.2 (.inr hv1)))
                  have HN := Lib.hid (readR_tail HRES.out.1 HST.out HTL.out)
                  have HQ := Lib.hid (HL1.out.postN s.data.toList HN.out)
                  obtain ⟨⟨r0, r1, r2, r3⟩, -⟩ := t_cells HA1.out.res
                  obtain ⟨-, ⟨t0, t1, t2, t3⟩⟩ := t_cells HL1.out.res
                  obtain ⟨⟨s0, s1, s2, s3⟩, -⟩ := t_cells HL1.out.res
                  clear HTL HLST HSP HNM HDD HST HRES HZ HV HK HN hb4
                  go_wp2_with (fail)
                  all_goals try (exfalso; omega)
                  change bodyPost _ _ _ _ _ (setT (wa.setCell ⟨w.heap.size + 1, 3, none⟩ (.string pn)) w.heap.size (.slice none 0 0) (.bool false) (.string ⟨#[]⟩) (.string ⟨#[]⟩))
                  generalize setT (wa.setCell ⟨w.heap.size + 1, 3, none⟩ (.string pn)) w.heap.size (.slice none 0 0) (.bool false) (.string ⟨#[]⟩) (.string ⟨#[]⟩) = w9 at *
                  obtain ⟨⟨d0, d1, d2, d3⟩, _⟩ := t_cells HQ.out.1
                  refine bodyPost_ret (v := .tuple #[.agg #[.slice none 0 0, .bool false, .string ⟨#[]⟩, .string ⟨#[]⟩], .bool false]) ?_ rfl ?_
                  · rw [results_cell_tmp rfl]
                    go_simp
                  · exact HQ.out.2
              · have z1 : (z == 123) = false := by rw [beq_eq_false_iff_ne]; exact h123
                have HK2 := Lib.hid (show nameR (s.data.toList.drop j2) = ((s.data.toList.drop j2).take (k + 1 - j2) ++ (nameR (s.data.toList.drop (k + 1))).1, (nameR (s.data.toList.drop (k + 1))).2) by
                  rw [HK.out, b_drop s k hlt, nameR_go _ _ (fun q9 => h123 (HZ.out.2 q9))]
                  have e9 : (s.data.toList.drop j2).take (k + 1 - j2) = (s.data.toList.drop j2).take (k - j2) ++ [s[k]'hlt] := by
                    rw [show k + 1 - j2 = (k - j2) + 1 by omega, List.take_add_one, List.getElem?_drop, show j2 + (k - j2) = k by omega, List.getElem?_eq_getElem (by rw [ba_size]; exact hlt)]; rfl
                  rw [e9]; simp)
                clear h123 HK HZ
                go_wp2_with (fail)
                go_round
                case rel => exact ⟨k + 1, by go_num, by omega, by omega, HK2⟩
                case measure => simp [intOf]; omega
            · obtain rfl : k = s.size := by omega
              have hnm : nameR (s.data.toList.drop j2) = ((s.extract j2 s.size).data.toList, none) := by
                rw [HK.out, b_end s, ext_from]
                show (_ ++ [], none) = _
                rw [List.append_nil]
              have HNM := Lib.hid hnm
              obtain ⟨pn, hpn⟩ : ∃ pn, s.extract j2 s.size = pn := ⟨_, rfl⟩
              have hpz : pn.size ≤ 4194304 := by rw [← hpn, ByteArray.size_extract]; omega
              rw [hpn] at HNM
              obtain ⟨qa, ca, hblk, -⟩ := HA1.out.own
              obtain ⟨⟨c0, c1, c2, c3⟩, ⟨f0, f1, f2, f3⟩⟩ := t_cells hblk
              have HL1 := Lib.hid (HA1.out.loc pn)
              have HTL := Lib.hid (show tailR acc s.data.toList.length (s.data.toList.drop j) = some ⟨acc, true, ⟨#[]⟩, pn⟩ by
                rw [HDD.out, tailR_bare _ _ _ _ HNM.out])
              have HRD := Lib.hid (readR_attr HRES.out.1 HST.out HTL.out rfl)
              clear hblk HTL HNM HDD HST HRES HK hnm hlt
              go_upto_region 28 with fail
              generalize wa.setCell ⟨w.heap.size + 1, 3, none⟩ (.string pn) = w5 at *
              clear c0 c1 c2 c3 f0 f1 f2 f3 HA1
              obtain ⟨q, c, hblk, hat, -, -⟩ := (HL1.out).post hl s.data.toList (rightT ⟨acc, true, ⟨#[]⟩, pn⟩) HRD.out
              have RR := Lib.hid (fun W (y : Below w.heap.size w W) (x : TrAt W q c ⟨acc, true, ⟨#[]⟩, pn⟩) => RRT.out W y q c ⟨acc, true, ⟨#[]⟩, pn⟩ x (by show ByteArray.size ⟨#[]⟩ ≤ _; exact Nat.zero_le _) hpz)
              obtain ⟨⟨c0, c1, c2, c3⟩, -⟩ := t_cells hblk
              have HAT := Lib.hid (And.intro hat (And.intro hblk (And.intro (HL1.out).res (HL1.out).below)))
              have HG4 := Lib.hid (HL1.out).size
              obtain ⟨ok, hok⟩ : ∃ ok, rightT ⟨acc, true, ⟨#[]⟩, pn⟩ = ok := ⟨_, rfl⟩
              rw [hok] at HRD RR
              clear hat hblk hok HL1
              go_region_with (first
                | (go_at_call 10
                   with_reducible (refine (RR.out _ ?_ ?_).mono ?_)
                   · exact ⟨HAT.out.2.2.2.os, HAT.out.2.2.2.tape, HAT.out.2.2.2.output, HAT.out.2.2.2.size, HAT.out.2.2.2.block⟩
                   · exact HAT.out.1
                   rintro e6 w6 ⟨rfl, hb6⟩
                   have hb7 : Below w5.heap.size w5 w6 := ⟨hb6.os, hb6.tape, hb6.output, hb6.size, hb6.block⟩
                   have hblk6 := (hb7.block _ (by have := HG4.out; omega)).trans HAT.out.2.1
                   have hres6 := (hb7.block _ (by have := HG4.out; omega)).trans HAT.out.2.2.1
                   have hat6 := HAT.out.1.below hb7
                   obtain ⟨⟨c0, c1, c2, c3⟩, -⟩ := t_cells hblk6
                   obtain ⟨⟨r0, r1, r2, r3⟩, ⟨f0, f1, f2, f3⟩⟩ := t_cells hres6
                   have HQ := Lib.hid (And.intro (setT_row (.slice q acc.length c) (.bool true) (.string ⟨#[]⟩) (.string pn) hres6) (show RReadPost w s.data.toList (.returned (.tuple #[.agg #[.slice q acc.length c, .bool true, .string ⟨#[]⟩, .string pn], .bool ok])) (setT w6 w.heap.size (.slice q acc.length c) (.bool true) (.string ⟨#[]⟩) (.string pn)) from ⟨q, c, ⟨acc, true, ⟨#[]⟩, pn⟩, ok, rfl, ⟨hat6.1.setT _ _ _ _ hres6, hat6.2⟩, setT_below _ _ _ _ (t_cat HAT.out.2.2.2 hb7) (Nat.le_refl _), HRD.out⟩))
                   clear hb6 hb7 hblk6 hres6 hat6))
              all_goals
                go_wp2_with (fail)
                change bodyPost _ _ _ _ _ (setT _ w.heap.size (.slice q acc.length c) (.bool true) (.string ⟨#[]⟩) (.string pn))
                obtain ⟨⟨d0, d1, d2, d3⟩, _⟩ := t_cells HQ.out.1
                refine bodyPost_ret (v := .tuple #[.agg #[.slice q acc.length c, .bool true, .string ⟨#[]⟩, .string pn], .bool ok]) ?_ rfl ?_
                · rw [results_cell_tmp rfl]
                  go_simp
                · exact HQ.out.2
        · have h47 : s[j]'k0 = 47 := HX.out.1 rfl
          have h64 : s[j1]'k1 ≠ 64 := fun q9 => hc (HY.out.2 q9)
          obtain ⟨f', rfl⟩ : ∃ f', f = f' + 1 := ⟨f - 1, by have := HS.out.2; omega⟩
          have hj12 : j + 1 = j1 ∧ j + 2 = j2 := HJ.out
          have HG := Lib.hid (fun i m (hi : j1 ≤ i) (hi2 : i ≤ s.size) (hd : digR 9 0 (s.data.toList.drop j1) = (m, s.data.toList.drop i)) => stepsR_num HS.out.1 hj12.1 hj12.2 k1 h47 h64 hi hi2 hd)
          have HFU := Lib.hid (show s.size ≤ j + f' + 1 by have := HS.out.2; omega)
          have y64 : (y == 64) = false := by rw [beq_eq_false_iff_ne]; exact hc
          have hj9 : j1 = j + 1 := hj12.1.symm
          have HJ1 := Lib.hid hj9
          clear h47 h64 hc HS HX HY HD hj12 hj9
          go_wp2_with (fail)
          go_loop [6, 7] (fun v6 v7 => ∃ (i m : Nat), v6 = .int .i64 (i : Int) ∧ v7 = .int .i64 (m : Int) ∧ j1 ≤ i ∧ i ≤ s.size ∧ i ≤ j + 10 ∧ Hid (digR (10 - (i - j)) m (s.data.toList.drop i) = digR 9 0 (s.data.toList.drop j1)) ∧ Hid (m < 10 ^ (i - j1))) (fun v6 _ => s.size - (intOf v6).toNat)
          case atStart => exact ⟨j1, 0, rfl, rfl, Nat.le_refl _, by omega, by have := HJ1.out; omega, Lib.hid (by have := HJ1.out; rw [show 10 - (j1 - j) = 9 by omega]), Lib.hid (by rw [Nat.sub_self]; decide)⟩
          case round =>
            obtain ⟨i, m, rfl, rfl, hi1, hi2, hi3, HDG, HPW⟩ := hrel
            have g0 : (i : Int) ≤ 4194304 := by omega
            have g00 : (j : Int) ≤ (i : Int) := by have := HJ1.out; omega
            by_cases hlt : i < s.size
            · have g1 : (i : Int) < (s.size : Int) := by omega
              by_cases h9 : i ≤ j + 9
              · have g2 : (i : Int) - (j : Int) ≤ 9 := by omega
                obtain ⟨zn, hzn⟩ : ∃ zn : Nat, (s[i]'hlt).toNat = zn := ⟨_, rfl⟩
                have hz256 : zn < 256 := by rw [← hzn]; exact UInt8.toNat_lt _
                by_cases hdg : 48 ≤ zn ∧ zn ≤ 57
                · have g3 : (48 : Int) ≤ (zn : Int) := by omega
                  have g4 : (zn : Int) ≤ 57 := by omega
                  have g3d : decide ((48 : Int) ≤ (zn : Int)) = true := decide_eq_true g3
                  have g4d : decide ((zn : Int) ≤ 57) = true := decide_eq_true g4
                  have hm8 := pow_le8 HPW.out (by have := HJ1.out; omega)
                  have g5 : (m : Int) < 100000000 := by omega
                  have HDG2 := Lib.hid (show digR (10 - (i + 1 - j)) (10 * m + (zn - 48)) (s.data.toList.drop (i + 1)) = digR 9 0 (s.data.toList.drop j1) by
                    rw [← HDG.out, b_drop s i hlt, show 10 - (i - j) = (10 - (i + 1 - j)) + 1 by omega, digR_go _ _ _ _ (is_dig (by rw [hzn]; exact hdg.1) (by rw [hzn]; exact hdg.2)), hzn])
                  have HPW2 := Lib.hid (show 10 * m + (zn - 48) < 10 ^ (i + 1 - j1) by
                    rw [show i + 1 - j1 = (i - j1) + 1 by omega]
                    exact dig_bound HPW.out (by omega))
                  clear HDG HPW hm8
                  go_wp2_with (fail)
                  go_round
                  case rel => exact ⟨i + 1, 10 * m + (zn - 48), by go_num, by go_num, by omega, by omega, by omega, HDG2, HPW2⟩
                  case measure => simp [intOf]; omega
                · have HST := Lib.hid (show digR 9 0 (s.data.toList.drop j1) = (m, s.data.toList.drop i) by
                    rw [← HDG.out]
                    exact digR_stop _ _ _ (.inr (fun c r e => by
                      rw [b_drop s i hlt] at e
                      injection e with e3 e4
                      rw [← e3]
                      exact no_dig (fun q9 => hdg (by rw [hzn] at q9; exact q9)))))
                  by_cases h48 : 48 ≤ zn
                  · have g3 : (48 : Int) ≤ (zn : Int) := by omega
                    have g4 : ¬ (zn : Int) ≤ 57 := by omega
                    have g3d : decide ((48 : Int) ≤ (zn : Int)) = true := decide_eq_true g3
                    have g4d : decide ((zn : Int) ≤ 57) = false := decide_eq_false g4
                    clear hdg h48 HDG
                    have HGG := Lib.hid (HG.out i m hi1 hi2 HST.out)
                    have HB9 := Lib.hid (show m < 1000000000 by
                      have h1 := HPW.out
                      have h2 : 10 ^ (i - j1) ≤ 10 ^ 9 := Nat.pow_le_pow_right (by decide) (by have := HJ1.out; omega)
                      omega)
                    obtain ⟨qa, ca, ga, capa, w4, hblk, hrun, hblk4, hst4⟩ := HM.out.next (m : Int) hl
                    obtain ⟨⟨c0, c1, c2, c3⟩, -⟩ := t_cells hblk
                    clear HST HPW HG
                    by_cases hij : i = j1
                    · have t1 : ((i : Int) == (j1 : Int)) = true := by rw [hij]; simp
                      have hrn := HGG.out.1 (.inl hij)
                      have HN := Lib.hid (readR_no HRES.out.1 (HRES.out.2.trans hrn))
                      clear hij hrn HGG hblk hrun hblk4 hst4
                      have HQ := Lib.hid ((HM.out).postN s.data.toList (HN.out))
                      obtain ⟨⟨r0, r1, r2, r3⟩, ⟨f0, f1, f2, f3⟩⟩ := t_cells (HM.out).res
                      clear HM HRES
                      go_wp2_with (fail)
                      change bodyPost _ _ _ _ _ (setT wr w.heap.size (.slice none 0 0) (.bool false) (.string ⟨#[]⟩) (.string ⟨#[]⟩))
                      generalize setT wr w.heap.size (.slice none 0 0) (.bool false) (.string ⟨#[]⟩) (.string ⟨#[]⟩) = w9 at *
                      obtain ⟨⟨d0, d1, d2, d3⟩, _⟩ := t_cells HQ.out.1
                      refine bodyPost_ret (v := .tuple #[.agg #[.slice none 0 0, .bool false, .string ⟨#[]⟩, .string ⟨#[]⟩], .bool false]) ?_ rfl ?_
                      · rw [results_cell_tmp rfl]
                        go_simp
                      · exact HQ.out.2
                    · have t1 : ((i : Int) == (j1 : Int)) = false := by rw [beq_eq_false_iff_ne]; omega
                      by_cases h0 : y = 48
                      · subst h0
                        by_cases hi9 : j2 < i
                        · have t2 : (j2 : Int) < (i : Int) := by omega
                          have hrn := HGG.out.1 (.inr (.inl ⟨HY2.out.1 rfl, hi9⟩))
                          have HN := Lib.hid (readR_no HRES.out.1 (HRES.out.2.trans hrn))
                          clear hij hrn HGG hblk hrun hblk4 hst4
                          have HQ := Lib.hid ((HM.out).postN s.data.toList (HN.out))
                          obtain ⟨⟨r0, r1, r2, r3⟩, ⟨f0, f1, f2, f3⟩⟩ := t_cells (HM.out).res
                          clear HM HRES
                          go_wp2_with (fail)
                          change bodyPost _ _ _ _ _ (setT wr w.heap.size (.slice none 0 0) (.bool false) (.string ⟨#[]⟩) (.string ⟨#[]⟩))
                          generalize setT wr w.heap.size (.slice none 0 0) (.bool false) (.string ⟨#[]⟩) (.string ⟨#[]⟩) = w9 at *
                          obtain ⟨⟨d0, d1, d2, d3⟩, _⟩ := t_cells HQ.out.1
                          refine bodyPost_ret (v := .tuple #[.agg #[.slice none 0 0, .bool false, .string ⟨#[]⟩, .string ⟨#[]⟩], .bool false]) ?_ rfl ?_
                          · rw [results_cell_tmp rfl]
                            go_simp
                          · exact HQ.out.2
                        · have t2 : ¬ (j2 : Int) < (i : Int) := by omega
                          have t2d : decide ((j2 : Int) < (i : Int)) = false := decide_eq_false t2
                          have hno : ¬ (i = j1 ∨ (s[j1]'k1 = 48 ∧ j2 < i)) := by rintro (q9 | q9); (exact hij q9); (exact hi9 q9.2)
                          by_cases h64 : acc.length = 64
                          · have t3 : ((acc.length : Int) == 64) = true := by rw [h64]; rfl
                            have hrn := HGG.out.1 (.inr (.inr h64))
                            have HN := Lib.hid (readR_no HRES.out.1 (HRES.out.2.trans hrn))
                            clear hij hrn HGG hblk hrun hblk4 hst4 h64 hno
                            have HQ := Lib.hid ((HM.out).postN s.data.toList (HN.out))
                            obtain ⟨⟨r0, r1, r2, r3⟩, ⟨f0, f1, f2, f3⟩⟩ := t_cells (HM.out).res
                            clear HM HRES
                            go_wp2_with (fail)
                            change bodyPost _ _ _ _ _ (setT wr w.heap.size (.slice none 0 0) (.bool false) (.string ⟨#[]⟩) (.string ⟨#[]⟩))
                            generalize setT wr w.heap.size (.slice none 0 0) (.bool false) (.string ⟨#[]⟩) (.string ⟨#[]⟩) = w9 at *
                            obtain ⟨⟨d0, d1, d2, d3⟩, _⟩ := t_cells HQ.out.1
                            refine bodyPost_ret (v := .tuple #[.agg #[.slice none 0 0, .bool false, .string ⟨#[]⟩, .string ⟨#[]⟩], .bool false]) ?_ rfl ?_
                            · rw [results_cell_tmp rfl]
                              go_simp
                            · exact HQ.out.2
                          · have t3 : ((acc.length : Int) == 64) = false := by rw [beq_eq_false_iff_ne]; omega
                            have hrn := HGG.out.2 (fun q9 => by rcases q9 with q9 | q9 | q9; (exact hno (.inl q9)); (exact hno (.inr q9)); (exact h64 q9))
                            have HNX := Lib.hid (And.intro hst4 hrn)
                            have HR := Lib.hid hrun
                            obtain ⟨⟨d0, d1, d2, d3⟩, ⟨f0, f1, f2, f3⟩⟩ := t_cells hblk4
                            have hal : acc.length < 64 := by omega
                            clear hij hrn HGG hblk hrun hblk4 hst4 h64 hno
                            go_wp2_with (at_builtin; refine t_append_eq rfl _ _ _ rfl _ _ _ _ rfl rfl HR.out ?_)
                            go_roundw
                            case rel =>
                              go_light
                              exact ⟨i, f', acc ++ [(m : Int)], rfl, hi2, by simp; omega, Lib.hid HNX.out.1, Lib.hid ⟨HNX.out.2, by have := HFU.out; have := HJ1.out; omega⟩⟩
                            case measure => simp [intOf]; have := HJ1.out; omega
                      · have t2 : (y == 48) = false := by rw [beq_eq_false_iff_ne]; exact h0
                        have hno : ¬ (i = j1 ∨ (s[j1]'k1 = 48 ∧ j2 < i)) := by rintro (q9 | q9); (exact hij q9); (exact h0 (HY2.out.2 q9.1))
                        clear h0
                        by_cases h64 : acc.length = 64
                        · have t3 : ((acc.length : Int) == 64) = true := by rw [h64]; rfl
                          have hrn := HGG.out.1 (.inr (.inr h64))
                          have HN := Lib.hid (readR_no HRES.out.1 (HRES.out.2.trans hrn))
                          clear hij hrn HGG hblk hrun hblk4 hst4 h64 hno
                          have HQ := Lib.hid ((HM.out).postN s.data.toList (HN.out))
                          obtain ⟨⟨r0, r1, r2, r3⟩, ⟨f0, f1, f2, f3⟩⟩ := t_cells (HM.out).res
                          clear HM HRES
                          go_wp2_with (fail)
                          change bodyPost _ _ _ _ _ (setT wr w.heap.size (.slice none 0 0) (.bool false) (.string ⟨#[]⟩) (.string ⟨#[]⟩))
                          generalize setT wr w.heap.size (.slice none 0 0) (.bool false) (.string ⟨#[]⟩) (.string ⟨#[]⟩) = w9 at *
                          obtain ⟨⟨d0, d1, d2, d3⟩, _⟩ := t_cells HQ.out.1
                          refine bodyPost_ret (v := .tuple #[.agg #[.slice none 0 0, .bool false, .string ⟨#[]⟩, .string ⟨#[]⟩], .bool false]) ?_ rfl ?_
                          · rw [results_cell_tmp rfl]
                            go_simp
                          · exact HQ.out.2
                        · have t3 : ((acc.length : Int) == 64) = false := by rw [beq_eq_false_iff_ne]; omega
                          have hrn := HGG.out.2 (fun q9 => by rcases q9 with q9 | q9 | q9; (exact hno (.inl q9)); (exact hno (.inr q9)); (exact h64 q9))
                          have HNX := Lib.hid (And.intro hst4 hrn)
                          have HR := Lib.hid hrun
                          obtain ⟨⟨d0, d1, d2, d3⟩, ⟨f0, f1, f2, f3⟩⟩ := t_cells hblk4
                          have hal : acc.length < 64 := by omega
                          clear hij hrn HGG hblk hrun hblk4 hst4 h64 hno
                          go_wp2_with (at_builtin; refine t_append_eq rfl _ _ _ rfl _ _ _ _ rfl rfl HR.out ?_)
                          go_roundw
                          case rel =>
                            go_light
                            exact ⟨i, f', acc ++ [(m : Int)], rfl, hi2, by simp; omega, Lib.hid HNX.out.1, Lib.hid ⟨HNX.out.2, by have := HFU.out; have := HJ1.out; omega⟩⟩
                          case measure => simp [intOf]; have := HJ1.out; omega
                  · have g3 : ¬ (48 : Int) ≤ (zn : Int) := by omega
                    have g3d : decide ((48 : Int) ≤ (zn : Int)) = false := decide_eq_false g3
                    clear hdg h48 HDG
                    have HGG := Lib.hid (HG.out i m hi1 hi2 HST.out)
                    have HB9 := Lib.hid (show m < 1000000000 by
                      have h1 := HPW.out
                      have h2 : 10 ^ (i - j1) ≤ 10 ^ 9 := Nat.pow_le_pow_right (by decide) (by have := HJ1.out; omega)
                      omega)
                    obtain ⟨qa, ca, ga, capa, w4, hblk, hrun, hblk4, hst4⟩ := HM.out.next (m : Int) hl
                    obtain ⟨⟨c0, c1, c2, c3⟩, -⟩ := t_cells hblk
                    clear HST HPW HG
                    by_cases hij : i = j1
                    · have t1 : ((i : Int) == (j1 : Int)) = true := by rw [hij]; simp
                      have hrn := HGG.out.1 (.inl hij)
                      have HN := Lib.hid (readR_no HRES.out.1 (HRES.out.2.trans hrn))
                      clear hij hrn HGG hblk hrun hblk4 hst4
                      have HQ := Lib.hid ((HM.out).postN s.data.toList (HN.out))
                      obtain ⟨⟨r0, r1, r2, r3⟩, ⟨f0, f1, f2, f3⟩⟩ := t_cells (HM.out).res
                      clear HM HRES
                      go_wp2_with (fail)
                      change bodyPost _ _ _ _ _ (setT wr w.heap.size (.slice none 0 0) (.bool false) (.string ⟨#[]⟩) (.string ⟨#[]⟩))
                      generalize setT wr w.heap.size (.slice none 0 0) (.bool false) (.string ⟨#[]⟩) (.string ⟨#[]⟩) = w9 at *
                      obtain ⟨⟨d0, d1, d2, d3⟩, _⟩ := t_cells HQ.out.1
                      refine bodyPost_ret (v := .tuple #[.agg #[.slice none 0 0, .bool false, .string ⟨#[]⟩, .string ⟨#[]⟩], .bool false]) ?_ rfl ?_
                      · rw [results_cell_tmp rfl]
                        go_simp
                      · exact HQ.out.2
                    · have t1 : ((i : Int) == (j1 : Int)) = false := by rw [beq_eq_false_iff_ne]; omega
                      by_cases h0 : y = 48
                      · subst h0
                        by_cases hi9 : j2 < i
                        · have t2 : (j2 : Int) < (i : Int) := by omega
                          have hrn := HGG.out.1 (.inr (.inl ⟨HY2.out.1 rfl, hi9⟩))
                          have HN := Lib.hid (readR_no HRES.out.1 (HRES.out.2.trans hrn))
                          clear hij hrn HGG hblk hrun hblk4 hst4
                          have HQ := Lib.hid ((HM.out).postN s.data.toList (HN.out))
                          obtain ⟨⟨r0, r1, r2, r3⟩, ⟨f0, f1, f2, f3⟩⟩ := t_cells (HM.out).res
                          clear HM HRES
                          go_wp2_with (fail)
                          change bodyPost _ _ _ _ _ (setT wr w.heap.size (.slice none 0 0) (.bool false) (.string ⟨#[]⟩) (.string ⟨#[]⟩))
                          generalize setT wr w.heap.size (.slice none 0 0) (.bool false) (.string ⟨#[]⟩) (.string ⟨#[]⟩) = w9 at *
                          obtain ⟨⟨d0, d1, d2, d3⟩, _⟩ := t_cells HQ.out.1
                          refine bodyPost_ret (v := .tuple #[.agg #[.slice none 0 0, .bool false, .string ⟨#[]⟩, .string ⟨#[]⟩], .bool false]) ?_ rfl ?_
                          · rw [results_cell_tmp rfl]
                            go_simp
                          · exact HQ.out.2
                        · have t2 : ¬ (j2 : Int) < (i : Int) := by omega
                          have t2d : decide ((j2 : Int) < (i : Int)) = false := decide_eq_false t2
                          have hno : ¬ (i = j1 ∨ (s[j1]'k1 = 48 ∧ j2 < i)) := by rintro (q9 | q9); (exact hij q9); (exact hi9 q9.2)
                          by_cases h64 : acc.length = 64
                          · have t3 : ((acc.length : Int) == 64) = true := by rw [h64]; rfl
                            have hrn := HGG.out.1 (.inr (.inr h64))
                            have HN := Lib.hid (readR_no HRES.out.1 (HRES.out.2.trans hrn))
                            clear hij hrn HGG hblk hrun hblk4 hst4 h64 hno
                            have HQ := Lib.hid ((HM.out).postN s.data.toList (HN.out))
                            obtain ⟨⟨r0, r1, r2, r3⟩, ⟨f0, f1, f2, f3⟩⟩ := t_cells (HM.out).res
                            clear HM HRES
                            go_wp2_with (fail)
                            change bodyPost _ _ _ _ _ (setT wr w.heap.size (.slice none 0 0) (.bool false) (.string ⟨#[]⟩) (.string ⟨#[]⟩))
                            generalize setT wr w.heap.size (.slice none 0 0) (.bool false) (.string ⟨#[]⟩) (.string ⟨#[]⟩) = w9 at *
                            obtain ⟨⟨d0, d1, d2, d3⟩, _⟩ := t_cells HQ.out.1
                            refine bodyPost_ret (v := .tuple #[.agg #[.slice none 0 0, .bool false, .string ⟨#[]⟩, .string ⟨#[]⟩], .bool false]) ?_ rfl ?_
                            · rw [results_cell_tmp rfl]
                              go_simp
                            · exact HQ.out.2
                          · have t3 : ((acc.length : Int) == 64) = false := by rw [beq_eq_false_iff_ne]; omega
                            have hrn := HGG.out.2 (fun q9 => by rcases q9 with q9 | q9 | q9; (exact hno (.inl q9)); (exact hno (.inr q9)); (exact h64 q9))
                            have HNX := Lib.hid (And.intro hst4 hrn)
                            have HR := Lib.hid hrun
                            obtain ⟨⟨d0, d1, d2, d3⟩, ⟨f0, f1, f2, f3⟩⟩ := t_cells hblk4
                            have hal : acc.length < 64 := by omega
                            clear hij hrn HGG hblk hrun hblk4 hst4 h64 hno
                            go_wp2_with (at_builtin; refine t_append_eq rfl _ _ _ rfl _ _ _ _ rfl rfl HR.out ?_)
                            go_roundw
                            case rel =>
                              go_light
                              exact ⟨i, f', acc ++ [(m : Int)], rfl, hi2, by simp; omega, Lib.hid HNX.out.1, Lib.hid ⟨HNX.out.2, by have := HFU.out; have := HJ1.out; omega⟩⟩
                            case measure => simp [intOf]; have := HJ1.out; omega
                      · have t2 : (y == 48) = false := by rw [beq_eq_false_iff_ne]; exact h0
                        have hno : ¬ (i = j1 ∨ (s[j1]'k1 = 48 ∧ j2 < i)) := by rintro (q9 | q9); (exact hij q9); (exact h0 (HY2.out.2 q9.1))
                        clear h0
                        by_cases h64 : acc.length = 64
                        · have t3 : ((acc.length : Int) == 64) = true := by rw [h64]; rfl
                          have hrn := HGG.out.1 (.inr (.inr h64))
                          have HN := Lib.hid (readR_no HRES.out.1 (HRES.out.2.trans hrn))
                          clear hij hrn HGG hblk hrun hblk4 hst4 h64 hno
                          have HQ := Lib.hid ((HM.out).postN s.data.toList (HN.out))
                          obtain ⟨⟨r0, r1, r2, r3⟩, ⟨f0, f1, f2, f3⟩⟩ := t_cells (HM.out).res
                          clear HM HRES
                          go_wp2_with (fail)
                          change bodyPost _ _ _ _ _ (setT wr w.heap.size (.slice none 0 0) (.bool false) (.string ⟨#[]⟩) (.string ⟨#[]⟩))
                          generalize setT wr w.heap.size (.slice none 0 0) (.bool false) (.string ⟨#[]⟩) (.string ⟨#[]⟩) = w9 at *
                          obtain ⟨⟨d0, d1, d2, d3⟩, _⟩ := t_cells HQ.out.1
                          refine bodyPost_ret (v := .tuple #[.agg #[.slice none 0 0, .bool false, .string ⟨#[]⟩, .string ⟨#[]⟩], .bool false]) ?_ rfl ?_
                          · rw [results_cell_tmp rfl]
                            go_simp
                          · exact HQ.out.2
                        · have t3 : ((acc.length : Int) == 64) = false := by rw [beq_eq_false_iff_ne]; omega
                          have hrn := HGG.out.2 (fun q9 => by rcases q9 with q9 | q9 | q9; (exact hno (.inl q9)); (exact hno (.inr q9)); (exact h64 q9))
                          have HNX := Lib.hid (And.intro hst4 hrn)
                          have HR := Lib.hid hrun
                          obtain ⟨⟨d0, d1, d2, d3⟩, ⟨f0, f1, f2, f3⟩⟩ := t_cells hblk4
                          have hal : acc.length < 64 := by omega
                          clear hij hrn HGG hblk hrun hblk4 hst4 h64 hno
                          go_wp2_with (at_builtin; refine t_append_eq rfl _ _ _ rfl _ _ _ _ rfl rfl HR.out ?_)
                          go_roundw
                          case rel =>
                            go_light
                            exact ⟨i, f', acc ++ [(m : Int)], rfl, hi2, by simp; omega, Lib.hid HNX.out.1, Lib.hid ⟨HNX.out.2, by have := HFU.out; have := HJ1.out; omega⟩⟩
                          case measure => simp [intOf]; have := HJ1.out; omega
              · have g2 : ¬ (i : Int) - (j : Int) ≤ 9 := by omega
                have g2d : decide ((i : Int) - (j : Int) ≤ 9) = false := decide_eq_false g2
                have HST := Lib.hid (show digR 9 0 (s.data.toList.drop j1) = (m, s.data.toList.drop i) by
                  rw [← HDG.out]; exact digR_stop _ _ _ (.inl (by omega)))
                clear HDG
                have HGG := Lib.hid (HG.out i m hi1 hi2 HST.out)
                have HB9 := Lib.hid (show m < 1000000000 by
                  have h1 := HPW.out
                  have h2 : 10 ^ (i - j1) ≤ 10 ^ 9 := Nat.pow_le_pow_right (by decide) (by have := HJ1.out; omega)
                  omega)
                obtain ⟨qa, ca, ga, capa, w4, hblk, hrun, hblk4, hst4⟩ := HM.out.next (m : Int) hl
                obtain ⟨⟨c0, c1, c2, c3⟩, -⟩ := t_cells hblk
                clear HST HPW HG
                by_cases hij : i = j1
                · have t1 : ((i : Int) == (j1 : Int)) = true := by rw [hij]; simp
                  have hrn := HGG.out.1 (.inl hij)
                  have HN := Lib.hid (readR_no HRES.out.1 (HRES.out.2.trans hrn))
                  clear hij hrn HGG hblk hrun hblk4 hst4
                  have HQ := Lib.hid ((HM.out).postN s.data.toList (HN.out))
                  obtain ⟨⟨r0, r1, r2, r3⟩, ⟨f0, f1, f2, f3⟩⟩ := t_cells (HM.out).res
                  clear HM HRES
                  go_wp2_with (fail)
                  change bodyPost _ _ _ _ _ (setT wr w.heap.size (.slice none 0 0) (.bool false) (.string ⟨#[]⟩) (.string ⟨#[]⟩))
                  generalize setT wr w.heap.size (.slice none 0 0) (.bool false) (.string ⟨#[]⟩) (.string ⟨#[]⟩) = w9 at *
                  obtain ⟨⟨d0, d1, d2, d3⟩, _⟩ := t_cells HQ.out.1
                  refine bodyPost_ret (v := .tuple #[.agg #[.slice none 0 0, .bool false, .string ⟨#[]⟩, .string ⟨#[]⟩], .bool false]) ?_ rfl ?_
                  · rw [results_cell_tmp rfl]
                    go_simp
                  · exact HQ.out.2
                · have t1 : ((i : Int) == (j1 : Int)) = false := by rw [beq_eq_false_iff_ne]; omega
                  by_cases h0 : y = 48
                  · subst h0
                    by_cases hi9 : j2 < i
                    · have t2 : (j2 : Int) < (i : Int) := by omega
                      have hrn := HGG.out.1 (.inr (.inl ⟨HY2.out.1 rfl, hi9⟩))
                      have HN := Lib.hid (readR_no HRES.out.1 (HRES.out.2.trans hrn))
                      clear hij hrn HGG hblk hrun hblk4 hst4
                      have HQ := Lib.hid ((HM.out).postN s.data.toList (HN.out))
                      obtain ⟨⟨r0, r1, r2, r3⟩, ⟨f0, f1, f2, f3⟩⟩ := t_cells (HM.out).res
                      clear HM HRES
                      go_wp2_with (fail)
                      change bodyPost _ _ _ _ _ (setT wr w.heap.size (.slice none 0 0) (.bool false) (.string ⟨#[]⟩) (.string ⟨#[]⟩))
                      generalize setT wr w.heap.size (.slice none 0 0) (.bool false) (.string ⟨#[]⟩) (.string ⟨#[]⟩) = w9 at *
                      obtain ⟨⟨d0, d1, d2, d3⟩, _⟩ := t_cells HQ.out.1
                      refine bodyPost_ret (v := .tuple #[.agg #[.slice none 0 0, .bool false, .string ⟨#[]⟩, .string ⟨#[]⟩], .bool false]) ?_ rfl ?_
                      · rw [results_cell_tmp rfl]
                        go_simp
                      · exact HQ.out.2
                    · exfalso
                      have h5 := HJ.out
                      omega
                  · have t2 : (y == 48) = false := by rw [beq_eq_false_iff_ne]; exact h0
                    have hno : ¬ (i = j1 ∨ (s[j1]'k1 = 48 ∧ j2 < i)) := by rintro (q9 | q9); (exact hij q9); (exact h0 (HY2.out.2 q9.1))
                    clear h0
                    by_cases h64 : acc.length = 64
                    · have t3 : ((acc.length : Int) == 64) = true := by rw [h64]; rfl
                      have hrn := HGG.out.1 (.inr (.inr h64))
                      have HN := Lib.hid (readR_no HRES.out.1 (HRES.out.2.trans hrn))
                      clear hij hrn HGG hblk hrun hblk4 hst4 h64 hno
                      have HQ := Lib.hid ((HM.out).postN s.data.toList (HN.out))
                      obtain ⟨⟨r0, r1, r2, r3⟩, ⟨f0, f1, f2, f3⟩⟩ := t_cells (HM.out).res
                      clear HM HRES
                      go_wp2_with (fail)
                      change bodyPost _ _ _ _ _ (setT wr w.heap.size (.slice none 0 0) (.bool false) (.string ⟨#[]⟩) (.string ⟨#[]⟩))
                      generalize setT wr w.heap.size (.slice none 0 0) (.bool false) (.string ⟨#[]⟩) (.string ⟨#[]⟩) = w9 at *
                      obtain ⟨⟨d0, d1, d2, d3⟩, _⟩ := t_cells HQ.out.1
                      refine bodyPost_ret (v := .tuple #[.agg #[.slice none 0 0, .bool false, .string ⟨#[]⟩, .string ⟨#[]⟩], .bool false]) ?_ rfl ?_
                      · rw [results_cell_tmp rfl]
                        go_simp
                      · exact HQ.out.2
                    · have t3 : ((acc.length : Int) == 64) = false := by rw [beq_eq_false_iff_ne]; omega
                      have hrn := HGG.out.2 (fun q9 => by rcases q9 with q9 | q9 | q9; (exact hno (.inl q9)); (exact hno (.inr q9)); (exact h64 q9))
                      have HNX := Lib.hid (And.intro hst4 hrn)
                      have HR := Lib.hid hrun
                      obtain ⟨⟨d0, d1, d2, d3⟩, ⟨f0, f1, f2, f3⟩⟩ := t_cells hblk4
                      have hal : acc.length < 64 := by omega
                      clear hij hrn HGG hblk hrun hblk4 hst4 h64 hno
                      go_wp2_with (at_builtin; refine t_append_eq rfl _ _ _ rfl _ _ _ _ rfl rfl HR.out ?_)
                      go_roundw
                      case rel =>
                        go_light
                        exact ⟨i, f', acc ++ [(m : Int)], rfl, hi2, by simp; omega, Lib.hid HNX.out.1, Lib.hid ⟨HNX.out.2, by have := HFU.out; have := HJ1.out; omega⟩⟩
                      case measure => simp [intOf]; have := HJ1.out; omega
            · have g1 : ¬ (i : Int) < (s.size : Int) := by omega
              have HST := Lib.hid (show digR 9 0 (s.data.toList.drop j1) = (m, s.data.toList.drop i) by
                rw [← HDG.out]; exact digR_stop _ _ _ (.inr (fun c r e => by
                  rw [List.drop_eq_nil_of_le (by rw [ba_size]; omega)] at e; cases e)))
              clear HDG
              have HGG := Lib.hid (HG.out i m hi1 hi2 HST.out)
              have HB9 := Lib.hid (show m < 1000000000 by
                have h1 := HPW.out
                have h2 : 10 ^ (i - j1) ≤ 10 ^ 9 := Nat.pow_le_pow_right (by decide) (by have := HJ1.out; omega)
                omega)
              obtain ⟨qa, ca, ga, capa, w4, hblk, hrun, hblk4, hst4⟩ := HM.out.next (m : Int) hl
              obtain ⟨⟨c0, c1, c2, c3⟩, -⟩ := t_cells hblk
              clear HST HPW HG
              by_cases hij : i = j1
              · have t1 : ((i : Int) == (j1 : Int)) = true := by rw [hij]; simp
                have hrn := HGG.out.1 (.inl hij)
                have HN := Lib.hid (readR_no HRES.out.1 (HRES.out.2.trans hrn))
                clear hij hrn HGG hblk hrun hblk4 hst4
                have HQ := Lib.hid ((HM.out).postN s.data.toList (HN.out))
                obtain ⟨⟨r0, r1, r2, r3⟩, ⟨f0, f1, f2, f3⟩⟩ := t_cells (HM.out).res
                clear HM HRES
                go_wp2_with (fail)
                change bodyPost _ _ _ _ _ (setT wr w.heap.size (.slice none 0 0) (.bool false) (.string ⟨#[]⟩) (.string ⟨#[]⟩))
                generalize setT wr w.heap.size (.slice none 0 0) (.bool false) (.string ⟨#[]⟩) (.string ⟨#[]⟩) = w9 at *
                obtain ⟨⟨d0, d1, d2, d3⟩, _⟩ := t_cells HQ.out.1
                refine bodyPost_ret (v := .tuple #[.agg #[.slice none 0 0, .bool false, .string ⟨#[]⟩, .string ⟨#[]⟩], .bool false]) ?_ rfl ?_
                · rw [results_cell_tmp rfl]
                  go_simp
                · exact HQ.out.2
              · have t1 : ((i : Int) == (j1 : Int)) = false := by rw [beq_eq_false_iff_ne]; omega
                by_cases h0 : y = 48
                · subst h0
                  by_cases hi9 : j2 < i
                  · have t2 : (j2 : Int) < (i : Int) := by omega
                    have hrn := HGG.out.1 (.inr (.inl ⟨HY2.out.1 rfl, hi9⟩))
                    have HN := Lib.hid (readR_no HRES.out.1 (HRES.out.2.trans hrn))
                    clear hij hrn HGG hblk hrun hblk4 hst4
                    have HQ := Lib.hid ((HM.out).postN s.data.toList (HN.out))
                    obtain ⟨⟨r0, r1, r2, r3⟩, ⟨f0, f1, f2, f3⟩⟩ := t_cells (HM.out).res
                    clear HM HRES
                    go_wp2_with (fail)
                    change bodyPost _ _ _ _ _ (setT wr w.heap.size (.slice none 0 0) (.bool false) (.string ⟨#[]⟩) (.string ⟨#[]⟩))
                    generalize setT wr w.heap.size (.slice none 0 0) (.bool false) (.string ⟨#[]⟩) (.string ⟨#[]⟩) = w9 at *
                    obtain ⟨⟨d0, d1, d2, d3⟩, _⟩ := t_cells HQ.out.1
                    refine bodyPost_ret (v := .tuple #[.agg #[.slice none 0 0, .bool false, .string ⟨#[]⟩, .string ⟨#[]⟩], .bool false]) ?_ rfl ?_
                    · rw [results_cell_tmp rfl]
                      go_simp
                    · exact HQ.out.2
                  · have t2 : ¬ (j2 : Int) < (i : Int) := by omega
                    have t2d : decide ((j2 : Int) < (i : Int)) = false := decide_eq_false t2
                    have hno : ¬ (i = j1 ∨ (s[j1]'k1 = 48 ∧ j2 < i)) := by rintro (q9 | q9); (exact hij q9); (exact hi9 q9.2)
                    by_cases h64 : acc.length = 64
                    · have t3 : ((acc.length : Int) == 64) = true := by rw [h64]; rfl
                      have hrn := HGG.out.1 (.inr (.inr h64))
                      have HN := Lib.hid (readR_no HRES.out.1 (HRES.out.2.trans hrn))
                      clear hij hrn HGG hblk hrun hblk4 hst4 h64 hno
                      have HQ := Lib.hid ((HM.out).postN s.data.toList (HN.out))
                      obtain ⟨⟨r0, r1, r2, r3⟩, ⟨f0, f1, f2, f3⟩⟩ := t_cells (HM.out).res
                      clear HM HRES
                      go_wp2_with (fail)
                      change bodyPost _ _ _ _ _ (setT wr w.heap.size (.slice none 0 0) (.bool false) (.string ⟨#[]⟩) (.string ⟨#[]⟩))
                      generalize setT wr w.heap.size (.slice none 0 0) (.bool false) (.string ⟨#[]⟩) (.string ⟨#[]⟩) = w9 at *
                      obtain ⟨⟨d0, d1, d2, d3⟩, _⟩ := t_cells HQ.out.1
                      refine bodyPost_ret (v := .tuple #[.agg #[.slice none 0 0, .bool false, .string ⟨#[]⟩, .string ⟨#[]⟩], .bool false]) ?_ rfl ?_
                      · rw [results_cell_tmp rfl]
                        go_simp
                      · exact HQ.out.2
                    · have t3 : ((acc.length : Int) == 64) = false := by rw [beq_eq_false_iff_ne]; omega
                      have hrn := HGG.out.2 (fun q9 => by rcases q9 with q9 | q9 | q9; (exact hno (.inl q9)); (exact hno (.inr q9)); (exact h64 q9))
                      have HNX := Lib.hid (And.intro hst4 hrn)
                      have HR := Lib.hid hrun
                      obtain ⟨⟨d0, d1, d2, d3⟩, ⟨f0, f1, f2, f3⟩⟩ := t_cells hblk4
                      have hal : acc.length < 64 := by omega
                      clear hij hrn HGG hblk hrun hblk4 hst4 h64 hno
                      go_wp2_with (at_builtin; refine t_append_eq rfl _ _ _ rfl _ _ _ _ rfl rfl HR.out ?_)
                      go_roundw
                      case rel =>
                        go_light
                        exact ⟨i, f', acc ++ [(m : Int)], rfl, hi2, by simp; omega, Lib.hid HNX.out.1, Lib.hid ⟨HNX.out.2, by have := HFU.out; have := HJ1.out; omega⟩⟩
                      case measure => simp [intOf]; have := HJ1.out; omega
                · have t2 : (y == 48) = false := by rw [beq_eq_false_iff_ne]; exact h0
                  have hno : ¬ (i = j1 ∨ (s[j1]'k1 = 48 ∧ j2 < i)) := by rintro (q9 | q9); (exact hij q9); (exact h0 (HY2.out.2 q9.1))
                  clear h0
                  by_cases h64 : acc.length = 64
                  · have t3 : ((acc.length : Int) == 64) = true := by rw [h64]; rfl
                    have hrn := HGG.out.1 (.inr (.inr h64))
                    have HN := Lib.hid (readR_no HRES.out.1 (HRES.out.2.trans hrn))
                    clear hij hrn HGG hblk hrun hblk4 hst4 h64 hno
                    have HQ := Lib.hid ((HM.out).postN s.data.toList (HN.out))
                    obtain ⟨⟨r0, r1, r2, r3⟩, ⟨f0, f1, f2, f3⟩⟩ := t_cells (HM.out).res
                    clear HM HRES
                    go_wp2_with (fail)
                    change bodyPost _ _ _ _ _ (setT wr w.heap.size (.slice none 0 0) (.bool false) (.string ⟨#[]⟩) (.string ⟨#[]⟩))
                    generalize setT wr w.heap.size (.slice none 0 0) (.bool false) (.string ⟨#[]⟩) (.string ⟨#[]⟩) = w9 at *
                    obtain ⟨⟨d0, d1, d2, d3⟩, _⟩ := t_cells HQ.out.1
                    refine bodyPost_ret (v := .tuple #[.agg #[.slice none 0 0, .bool false, .string ⟨#[]⟩, .string ⟨#[]⟩], .bool false]) ?_ rfl ?_
                    · rw [results_cell_tmp rfl]
                      go_simp
                    · exact HQ.out.2
                  · have t3 : ((acc.length : Int) == 64) = false := by rw [beq_eq_false_iff_ne]; omega
                    have hrn := HGG.out.2 (fun q9 => by rcases q9 with q9 | q9 | q9; (exact hno (.inl q9)); (exact hno (.inr q9)); (exact h64 q9))
                    have HNX := Lib.hid (And.intro hst4 hrn)
                    have HR := Lib.hid hrun
                    obtain ⟨⟨d0, d1, d2, d3⟩, ⟨f0, f1, f2, f3⟩⟩ := t_cells hblk4
                    have hal : acc.length < 64 := by omega
                    clear hij hrn HGG hblk hrun hblk4 hst4 h64 hno
                    go_wp2_with (at_builtin; refine t_append_eq rfl _ _ _ rfl _ _ _ _ rfl rfl HR.out ?_)
                    go_roundw
                    case rel =>
                      go_light
                      exact ⟨i, f', acc ++ [(m : Int)], rfl, hi2, by simp; omega, Lib.hid HNX.out.1, Lib.hid ⟨HNX.out.2, by have := HFU.out; have := HJ1.out; omega⟩⟩
                    case measure => simp [intOf]; have := HJ1.out; omega
      · have xa : (x == 47) = false := by rw [beq_eq_false_iff_ne]; exact ha
        have HN := Lib.hid (readR_tail HRES.out.1 (HRES.out.2.trans (HS.out.1.symm.trans (stepsR_stop f acc _ (fun a c r e => by rw [HD.out] at e; injection e with e3 e4; rintro ⟨q, -⟩; exact ha (HX.out.2 (by rw [e3]; exact q)))))) (by rw [HD.out]; exact tailR_off _ _ _ _ _ (fun q => ha (HX.out.2 q.1))))
        clear ha
        have HQ := Lib.hid ((HM.out).postN s.data.toList (HN.out))
        obtain ⟨⟨r0, r1, r2, r3⟩, ⟨f0, f1, f2, f3⟩⟩ := t_cells (HM.out).res
        clear HM HS HRES
        go_wp2_with (fail)
        change bodyPost _ _ _ _ _ (setT wr w.heap.size (.slice none 0 0) (.bool false) (.string ⟨#[]⟩) (.string ⟨#[]⟩))
        generalize setT wr w.heap.size (.slice none 0 0) (.bool false) (.string ⟨#[]⟩) (.string ⟨#[]⟩) = w9 at *
        obtain ⟨⟨d0, d1, d2, d3⟩, _⟩ := t_cells HQ.out.1
        refine bodyPost_ret (v := .tuple #[.agg #[.slice none 0 0, .bool false, .string ⟨#[]⟩, .string ⟨#[]⟩], .bool false]) ?_ rfl ?_
        · rw [results_cell_tmp rfl]
          go_simp
        · exact HQ.out.2
    · by_cases hB : j = s.size
      · subst hB
        have t1 : ((s.size : Int) == (s.size : Int)) = true := by simp
        have t0 : ¬ (s.size : Int) + 1 < (s.size : Int) := by omega
        have HST := Lib.hid (HRES.out.2.trans (HS.out.1.symm.trans (stepsR_stop f acc _ (fun a c r e => by rw [b_end] at e; cases e))))
        by_cases h0 : s.size = 0
        · have t2 : ¬ (0 : Int) < (s.size : Int) := by omega
          have t2d : decide ((0 : Int) < (s.size : Int)) = false := decide_eq_false t2
          have HN := Lib.hid (show readR s.data.toList = if false = true then some ⟨acc, false, ⟨#[]⟩, ⟨#[]⟩⟩ else none by
            rw [if_neg (by decide)]
            refine readR_tail HRES.out.1 HST.out ?_
            rw [b_end, ba_size, h0]; rfl)
          have HZ0 := Lib.hid (show s = ByteArray.empty from ba_empty h0)
          clear h0 HST
          obtain ⟨q, c, hblk, hat, hrow, hpost⟩ := (HM.out).post hl s.data.toList false (HN.out)
          obtain ⟨⟨c0, c1, c2, c3⟩, -⟩ := t_cells hblk
          obtain ⟨⟨r0, r1, r2, r3⟩, ⟨f0, f1, f2, f3⟩⟩ := t_cells (HM.out).res
          have HQ := Lib.hid (And.intro hrow hpost)
          clear HM HS HRES hblk hat hrow hpost
          go_wp2_with (fail)
          change bodyPost _ _ _ _ _ (setT wr w.heap.size (.slice q acc.length c) (.bool false) (.string ⟨#[]⟩) (.string ⟨#[]⟩))
          generalize setT wr w.heap.size (.slice q acc.length c) (.bool false) (.string ⟨#[]⟩) (.string ⟨#[]⟩) = w9 at *
          obtain ⟨⟨d0, d1, d2, d3⟩, _⟩ := t_cells HQ.out.1
          refine bodyPost_ret (v := .tuple #[.agg #[.slice q acc.length c, .bool false, .string ⟨#[]⟩, .string ⟨#[]⟩], .bool false]) ?_ rfl ?_
          · rw [results_cell_tmp rfl]
            go_simp
            all_goals exact HZ0.out
          · exact HQ.out.2
        · have t2 : (0 : Int) < (s.size : Int) := by omega
          have t2d : decide ((0 : Int) < (s.size : Int)) = true := decide_eq_true t2
          have HN := Lib.hid (show readR s.data.toList = if true = true then some ⟨acc, false, ⟨#[]⟩, ⟨#[]⟩⟩ else none by
            rw [if_pos rfl]
            refine readR_yes HRES.out.1 HST.out ?_ rfl
            rw [b_end, ba_size]; exact tailR_nil _ _ h0)
          have HZ0 := Lib.hid (show 0 < s.size by omega)
          clear h0 HST
          obtain ⟨q, c, hblk, hat, hrow, hpost⟩ := (HM.out).post hl s.data.toList true (HN.out)
          obtain ⟨⟨c0, c1, c2, c3⟩, -⟩ := t_cells hblk
          obtain ⟨⟨r0, r1, r2, r3⟩, ⟨f0, f1, f2, f3⟩⟩ := t_cells (HM.out).res
          have HQ := Lib.hid (And.intro hrow hpost)
          clear HM HS HRES hblk hat hrow hpost
          go_wp2_with (fail)
          change bodyPost _ _ _ _ _ (setT wr w.heap.size (.slice q acc.length c) (.bool false) (.string ⟨#[]⟩) (.string ⟨#[]⟩))
          generalize setT wr w.heap.size (.slice q acc.length c) (.bool false) (.string ⟨#[]⟩) (.string ⟨#[]⟩) = w9 at *
          obtain ⟨⟨d0, d1, d2, d3⟩, _⟩ := t_cells HQ.out.1
          refine bodyPost_ret (v := .tuple #[.agg #[.slice q acc.length c, .bool false, .string ⟨#[]⟩, .string ⟨#[]⟩], .bool true]) ?_ rfl ?_
          · rw [results_cell_tmp rfl]
            go_simp
            all_goals exact HZ0.out
          · exact HQ.out.2
      · have hone : j + 1 = s.size := by omega
        have t1 : ((j : Int) == (s.size : Int)) = false := by rw [beq_eq_false_iff_ne]; omega
        have t0 : ¬ (j : Int) + 1 < (s.size : Int) := by omega
        have t2 : (s.size : Int) ≤ (j : Int) + 1 := by omega
        have hd1 : s.data.toList.drop j = [s[j]'(by omega)] := by rw [b_drop s j (by omega), hone, b_end]
        have HN := Lib.hid (readR_tail HRES.out.1 (HRES.out.2.trans (HS.out.1.symm.trans (stepsR_stop f acc _ (fun a c r e => by rw [hd1] at e; injection e with _ e4; cases e4)))) (by rw [hd1]; rfl))
        clear hone hd1 hA hB
        have HQ := Lib.hid ((HM.out).postN s.data.toList (HN.out))
        obtain ⟨⟨r0, r1, r2, r3⟩, ⟨f0, f1, f2, f3⟩⟩ := t_cells (HM.out).res
        clear HM HS HRES
        go_wp2_with (fail)
        change bodyPost _ _ _ _ _ (setT wr w.heap.size (.slice none 0 0) (.bool false) (.string ⟨#[]⟩) (.string ⟨#[]⟩))
        generalize setT wr w.heap.size (.slice none 0 0) (.bool false) (.string ⟨#[]⟩) (.string ⟨#[]⟩) = w9 at *
        obtain ⟨⟨d0, d1, d2, d3⟩, _⟩ := t_cells HQ.out.1
        refine bodyPost_ret (v := .tuple #[.agg #[.slice none 0 0, .bool false, .string ⟨#[]⟩, .string ⟨#[]⟩], .bool false]) ?_ rfl ?_
        · rw [results_cell_tmp rfl]
          go_simp
        · exact HQ.out.2
end Go.Proofs.YtpcdcndniibalaaDoor
