/- Proved here: what the document's Read answers of any bytes as a text: just what refer's does; what was there stays. -/
import Derived.Test.YtidimpepfkdcmaaGreatDoorM32
namespace Go.Proofs.YtidimpepfkdcmaaGreatDoor
open Go.RowKit

set_option maxHeartbeats 8000000 in
set_option maxRecDepth 100000 in
theorem refread_text (s : ByteArray) (b off cap : Nat) (w : World) (hs : s.size ≤ 140737488354000) (hcap : s.size ≤ cap) (hp : ∀ j, j < s.size → w.cell? ⟨b, off + j, none⟩ = some (.int .u8 (by_ s j))) :
    Calls Tryz.prog 34 #[.slice (some ⟨b, off, none⟩) s.size cap, .bool false] w fun e w' => e = .returned (.tuple #[.string ⟨(readF (stepT s) s.size).1.toArray⟩, .int .i64 (readF (stepT s) s.size).2.1, .int .i64 (readF (stepT s) s.size).2.2]) ∧ Below w.heap.size w w' := by
  obtain ⟨ANS, hA⟩ : ∃ A, readF (stepT s) s.size = A := ⟨_, rfl⟩
  rw [hA]
  have HA := Lib.hid hA
  have HP := Lib.hid hp
  clear hA hp
  go_enter Tryz.func34, Tryz.ntmps34
  go_wp2_with (fail)
  go_loopw [8, 7] (fun i v wr => RrRel (stepT s) s w ANS i v wr) (fun i _ _ => s.size - (intOf i).toNat)
  case atStart => exact ⟨s.size, 0, w.heap.size, 0, ⟨#[]⟩, rfl, rfl, HA.out, by omega, Nat.zero_le _, Nat.le_refl _, owns_empty w, (Below.refl _ _).alloc (Nat.le_refl _) _⟩
  case round =>
    obtain ⟨k, pos, g, gc, o, rfl, rfl, hgo, hk, hpos, hlen, ho, hb⟩ := hrel
    have G := Lib.hid hgo
    have HB := Lib.hid hb
    have HO := Lib.hid ho
    clear hgo hb ho
    by_cases hlt : pos < s.size
    · have hlz : (pos : Int) < (s.size : Int) := by omega
      obtain ⟨k, rfl⟩ : ∃ k', k = k' + 1 := ⟨k - 1, by omega⟩
      have R := Lib.hid (refRead s b off cap pos wr (by omega) hlt (fun j hj => hb_cell HB.out (HP.out j hj)))
      have hle := rd_le s pos hlt
      have hbd := rd_bd s pos
      have hok := stepT_ok s pos hlt
      by_cases h0 : (rd s pos).2 = 0
      · have hstep := (step_bad s pos hlt h0).1
        have hst := Lib.hid ((readGo_bad (stepT s) s.size k pos o.data.toList hlt (by rw [hstep]; decide)).symm.trans G.out)
        rw [hstep] at hst
        rw [h0] at R
        clear hle hbd hok h0 hstep
        go_wp2_with (fail)
        refine R.out.mono ?_
        rintro e w1 ⟨rfl, rfl⟩
        go_wp2_with (fail)
        go_ret3
        exact ⟨ret_str hst.out, HB.out⟩
      · have f0 : (((rd s pos).2 : Int) == 0) = false := by rw [beq_eq_false_iff_ne]; omega
        cases hc : charB ((rd s pos).1 : Int)
        · have hstep := (step_no s pos hlt h0 hc).1
          have hst := Lib.hid ((readGo_bad (stepT s) s.size k pos o.data.toList hlt (by rw [hstep]; decide)).symm.trans G.out)
          rw [hstep] at hst
          have IC := Lib.hid (refChar ((rd s pos).1 : Int))
          rw [hc] at IC
          clear hle hbd hok h0 hstep hc
          generalize rd s pos = d at *
          go_wp2_with (fail)
          refine R.out.mono ?_
          rintro e w1 ⟨rfl, rfl⟩
          go_wp2_with (fail)
          refine (IC.out _).mono ?_
          rintro e w1 ⟨rfl, rfl⟩
          go_wp2_with (fail)
          go_ret3
          exact ⟨ret_str hst.out, HB.out⟩
        · have IC := Lib.hid (refChar ((rd s pos).1 : Int))
          rw [hc] at IC
          by_cases h60 : by_ s pos = 60
          · have hstep := (step_lt s pos hlt h60).1
            have hst := Lib.hid ((readGo_bad (stepT s) s.size k pos o.data.toList hlt (by rw [hstep]; decide)).symm.trans G.out)
            rw [hstep] at hst
            have hd := rd_is (n := 60) (by decide) h60
            rw [hd] at R IC
            clear hle hbd hok h0 hstep hc f0 hd h60
            go_wp2_with (fail)
            refine R.out.mono ?_
            rintro e w3 ⟨rfl, rfl⟩
            go_wp2_with (fail)
            refine (IC.out _).mono ?_
            rintro e w3 ⟨rfl, rfl⟩
            go_wp2_with (fail)
            go_ret3
            exact ⟨ret_str hst.out, HB.out⟩
          · have f60 : (((rd s pos).1 : Int) == 60) = false := rd_isnt (n := 60) (by decide) h0 h60
            by_cases h38 : by_ s pos = 38
            · have hstep0 := (step_amp s pos hlt h38).1
              have E := Lib.hid (refexp_in s b off cap pos wr (by omega) hcap hlt h38 (fun j hj => hb_cell HB.out (HP.out j hj)))
              have hd := rd_is (n := 38) (by decide) h38
              rw [hd] at R IC
              obtain ⟨⟨x, y, z⟩, hx⟩ : ∃ A, expF s pos = A := ⟨_, rfl⟩
              rw [hx] at hstep0 E
              simp only at E
              by_cases hz : z = 0
              · subst hz
                have hok3 := hok
                rw [hstep0] at hok3
                obtain ⟨q1, q2, q3, q4, q5⟩ := hok3 rfl
                simp only at q1 q2 q3 q4 q5
                obtain ⟨c, rfl⟩ : ∃ n : Nat, x = n := ⟨x.toNat, by omega⟩
                obtain ⟨nx, rfl⟩ : ∃ n : Nat, y = n := ⟨y.toNat, by omega⟩
                have hstep : stepT s pos = ((c : Int), (nx : Int), 0) := hstep0
                clear hle hbd h0 hstep0 hc f0 hd hx f60 h38 h60 q1 q2 q3 q4 q5
                have hok2 := hok
                rw [hstep] at hok2
                obtain ⟨o1, o2, o3, o4, o5⟩ := hok2 rfl
                simp only at o1 o2 o3 o4 o5
                have hst := Lib.hid ((readGo_step (stepT s) s.size k pos o.data.toList hlt (by rw [hstep])).symm.trans G.out)
                rw [hstep] at hst
                simp only [Int.toNat_natCast] at hst
                rw [← list_append] at hst
                have hes := encode_size_list (c)
                have AR := append_rune (c) HO.out HB.out (by rw [hes]; omega)
                obtain ⟨kc, w1, g2, gc2, w2, hcv, happ, ho2, hb2⟩ := AR
                have HCV := hcv
                have HAPP := Lib.hid happ
                have HO2 := Lib.hid ho2
                have HB2 := Lib.hid hb2
                have hos : (o ++ Utf8.encode ((c : Nat) : Int)).size = o.size + (Utf8.encode ((c : Nat) : Int)).size := ByteArray.size_append
                have hfin : o.size + (Utf8.encode ((c : Nat) : Int)).size ≤ nx := by rw [hes]; omega
                have hnx : nx ≤ s.size := by omega
                have hpn : pos < nx := by omega
                have HOS := Lib.hid hos
                clear happ ho2 hb2 hos hes hok hstep o1 o2 o5 hcv
                go_wp2_with (fail)
                refine R.out.mono ?_
                rintro e w3 ⟨rfl, rfl⟩
                go_wp2_with (fail)
                refine (IC.out _).mono ?_
                rintro e w3 ⟨rfl, rfl⟩
                go_wp2_with (fail)
                refine E.out.mono ?_
                rintro e w3 ⟨rfl, rfl⟩
                go_wp2_with (at_builtin; refine wpList_append_eq rfl (.tmp 94) (.tmp 98) 22 rfl _ _ _ _ rfl rfl HAPP.out ?_)
                go_roundw
                case rel =>
                  go_light
                  exact ⟨k, nx, g2, gc2, o ++ Utf8.encode ((c : Nat) : Int), by go_num, by rw [HOS.out], hst.out, by omega, hnx, by rw [HOS.out]; exact hfin, HO2.out, HB2.out⟩
                case measure => simp [intOf]; omega
              · have hst := Lib.hid ((readGo_bad (stepT s) s.size k pos o.data.toList hlt (by rw [hstep0]; exact hz)).symm.trans G.out)
                rw [hstep0] at hst
                simp only at hst
                have fz : (z == 0) = false := by rw [beq_eq_false_iff_ne]; exact hz
                clear hle hbd hok h0 hstep0 hc f0 hd hx hz f60 h38 h60
                go_wp2_with (fail)
                refine R.out.mono ?_
                rintro e w3 ⟨rfl, rfl⟩
                go_wp2_with (fail)
                refine (IC.out _).mono ?_
                rintro e w3 ⟨rfl, rfl⟩
                go_wp2_with (fail)
                refine E.out.mono ?_
                rintro e w3 ⟨rfl, rfl⟩
                go_wp2_with (fail)
                go_ret3
                exact ⟨ret_str hst.out, HB.out⟩
            · have f38 : (((rd s pos).1 : Int) == 38) = false := rd_isnt (n := 38) (by decide) h0 h38
              cases hcl : closeB s pos
              · have hstep := (step_right s pos h0 hc h60 h38).1 hcl
                by_cases h93 : by_ s pos = 93
                · have hd := rd_is (n := 93) (by decide) h93
                  rw [hd] at R IC hstep
                  have hncl : ¬ (pos + 2 < s.size ∧ by_ s (pos + 1) = 93 ∧ by_ s (pos + 2) = 62) := fun e => by
                    rw [(close_iff s pos hlt).2 ⟨h93, e⟩] at hcl
                    cases hcl
                  clear hle hbd hc f0 f60 f38 h38 h60 h0 hd h93 hcl
                  by_cases g1 : pos + 2 < s.size
                  · have gz : (pos : Int) + 2 < (s.size : Int) := by omega
                    have k1 := hb_cell HB.out (HP.out (pos + 1) (by omega))
                    by_cases g2 : by_ s (pos + 1) = 93
                    · have k2 := hb_cell HB.out (HP.out (pos + 2) (by omega))
                      obtain ⟨y, hy⟩ : ∃ y, by_ s (pos + 2) = y := ⟨_, rfl⟩
                      have gy : (y == 62) = false := by rw [beq_eq_false_iff_ne]; exact fun e => hncl ⟨g1, g2, hy.trans e⟩
                      rw [g2] at k1
                      rw [hy] at k2
                      clear hncl hy g2
                      have hok2 := hok
                      rw [hstep] at hok2
                      obtain ⟨o1, o2, o3, o4, o5⟩ := hok2 rfl
                      simp only at o1 o2 o3 o4 o5
                      have hst := Lib.hid ((readGo_step (stepT s) s.size k pos o.data.toList hlt (by rw [hstep])).symm.trans G.out)
                      rw [hstep] at hst
                      simp only [Int.toNat_natCast] at hst
                      rw [← list_append] at hst
                      have hes := encode_size_list (93)
                      have AR := append_rune (93) HO.out HB.out (by rw [hes]; omega)
                      simp only [show ((93 : Nat) : Int) = 93 from rfl] at hst hes AR o5
                      obtain ⟨kc, w1, g2, gc2, w2, hcv, happ, ho2, hb2⟩ := AR
                      have HCV := hcv
                      have HAPP := Lib.hid happ
                      have HO2 := Lib.hid ho2
                      have HB2 := Lib.hid hb2
                      have hos : (o ++ Utf8.encode (93 : Int)).size = o.size + (Utf8.encode (93 : Int)).size := ByteArray.size_append
                      have hfin : o.size + (Utf8.encode (93 : Int)).size ≤ (pos + 1) := by rw [hes]; omega
                      have hnx : (pos + 1) ≤ s.size := by omega
                      have hpn : pos < (pos + 1) := by omega
                      have HOS := Lib.hid hos
                      clear happ ho2 hb2 hos hes hok hstep o1 o2 o5 hcv
                      go_wp2_with (fail)
                      refine R.out.mono ?_
                      rintro e w3 ⟨rfl, rfl⟩
                      go_wp2_with (fail)
                      refine (IC.out _).mono ?_
                      rintro e w3 ⟨rfl, rfl⟩
                      go_wp2_with (at_builtin; refine wpList_append_eq rfl (.tmp 94) (.tmp 98) 22 rfl _ _ _ _ rfl rfl HAPP.out ?_)
                      go_roundw
                      case rel =>
                        go_light
                        exact ⟨k, (pos + 1), g2, gc2, o ++ Utf8.encode (93 : Int), by go_num, by rw [HOS.out], hst.out, by omega, hnx, by rw [HOS.out]; exact hfin, HO2.out, HB2.out⟩
                      case measure => simp [intOf]; omega
                    · obtain ⟨y, hy⟩ : ∃ y, by_ s (pos + 1) = y := ⟨_, rfl⟩
                      have gy : (y == 93) = false := by rw [beq_eq_false_iff_ne]; exact fun e => g2 (hy.trans e)
                      rw [hy] at k1
                      clear hncl hy g2
                      have hok2 := hok
                      rw [hstep] at hok2
                      obtain ⟨o1, o2, o3, o4, o5⟩ := hok2 rfl
                      simp only at o1 o2 o3 o4 o5
                      have hst := Lib.hid ((readGo_step (stepT s) s.size k pos o.data.toList hlt (by rw [hstep])).symm.trans G.out)
                      rw [hstep] at hst
                      simp only [Int.toNat_natCast] at hst
                      rw [← list_append] at hst
                      have hes := encode_size_list (93)
                      have AR := append_rune (93) HO.out HB.out (by rw [hes]; omega)
                      simp only [show ((93 : Nat) : Int) = 93 from rfl] at hst hes AR o5
                      obtain ⟨kc, w1, g2, gc2, w2, hcv, happ, ho2, hb2⟩ := AR
                      have HCV := hcv
                      have HAPP := Lib.hid happ
                      have HO2 := Lib.hid ho2
                      have HB2 := Lib.hid hb2
                      have hos : (o ++ Utf8.encode (93 : Int)).size = o.size + (Utf8.encode (93 : Int)).size := ByteArray.size_append
                      have hfin : o.size + (Utf8.encode (93 : Int)).size ≤ (pos + 1) := by rw [hes]; omega
                      have hnx : (pos + 1) ≤ s.size := by omega
                      have hpn : pos < (pos + 1) := by omega
                      have HOS := Lib.hid hos
                      clear happ ho2 hb2 hos hes hok hstep o1 o2 o5 hcv
                      go_wp2_with (fail)
                      refine R.out.mono ?_
                      rintro e w3 ⟨rfl, rfl⟩
                      go_wp2_with (fail)
                      refine (IC.out _).mono ?_
                      rintro e w3 ⟨rfl, rfl⟩
                      go_wp2_with (at_builtin; refine wpList_append_eq rfl (.tmp 94) (.tmp 98) 22 rfl _ _ _ _ rfl rfl HAPP.out ?_)
                      go_roundw
                      case rel =>
                        go_light
                        exact ⟨k, (pos + 1), g2, gc2, o ++ Utf8.encode (93 : Int), by go_num, by rw [HOS.out], hst.out, by omega, hnx, by rw [HOS.out]; exact hfin, HO2.out, HB2.out⟩
                      case measure => simp [intOf]; omega
                  · have gz : ¬ (pos : Int) + 2 < (s.size : Int) := by omega
                    clear hncl
                    have hok2 := hok
                    rw [hstep] at hok2
                    obtain ⟨o1, o2, o3, o4, o5⟩ := hok2 rfl
                    simp only at o1 o2 o3 o4 o5
                    have hst := Lib.hid ((readGo_step (stepT s) s.size k pos o.data.toList hlt (by rw [hstep])).symm.trans G.out)
                    rw [hstep] at hst
                    simp only [Int.toNat_natCast] at hst
                    rw [← list_append] at hst
                    have hes := encode_size_list (93)
                    have AR := append_rune (93) HO.out HB.out (by rw [hes]; omega)
                    simp only [show ((93 : Nat) : Int) = 93 from rfl] at hst hes AR o5
                    obtain ⟨kc, w1, g2, gc2, w2, hcv, happ, ho2, hb2⟩ := AR
                    have HCV := hcv
                    have HAPP := Lib.hid happ
                    have HO2 := Lib.hid ho2
                    have HB2 := Lib.hid hb2
                    have hos : (o ++ Utf8.encode (93 : Int)).size = o.size + (Utf8.encode (93 : Int)).size := ByteArray.size_append
                    have hfin : o.size + (Utf8.encode (93 : Int)).size ≤ (pos + 1) := by rw [hes]; omega
                    have hnx : (pos + 1) ≤ s.size := by omega
                    have hpn : pos < (pos + 1) := by omega
                    have HOS := Lib.hid hos
                    clear happ ho2 hb2 hos hes hok hstep o1 o2 o5 hcv
                    go_wp2_with (fail)
                    refine R.out.mono ?_
                    rintro e w3 ⟨rfl, rfl⟩
                    go_wp2_with (fail)
                    refine (IC.out _).mono ?_
                    rintro e w3 ⟨rfl, rfl⟩
                    go_wp2_with (at_builtin; refine wpList_append_eq rfl (.tmp 94) (.tmp 98) 22 rfl _ _ _ _ rfl rfl HAPP.out ?_)
                    go_roundw
                    case rel =>
                      go_light
                      exact ⟨k, (pos + 1), g2, gc2, o ++ Utf8.encode (93 : Int), by go_num, by rw [HOS.out], hst.out, by omega, hnx, by rw [HOS.out]; exact hfin, HO2.out, HB2.out⟩
                    case measure => simp [intOf]; omega
                · have f93 : (((rd s pos).1 : Int) == 93) = false := rd_isnt (n := 93) (by decide) h0 h93
                  clear hc h60 h38 h93 h0 hcl
                  generalize rd s pos = d at *
                  have hok2 := hok
                  rw [hstep] at hok2
                  obtain ⟨o1, o2, o3, o4, o5⟩ := hok2 rfl
                  simp only at o1 o2 o3 o4 o5
                  have hst := Lib.hid ((readGo_step (stepT s) s.size k pos o.data.toList hlt (by rw [hstep])).symm.trans G.out)
                  rw [hstep] at hst
                  simp only [Int.toNat_natCast] at hst
                  rw [← list_append] at hst
                  have hes := encode_size_list (d.1)
                  have AR := append_rune (d.1) HO.out HB.out (by rw [hes]; omega)
                  obtain ⟨kc, w1, g2, gc2, w2, hcv, happ, ho2, hb2⟩ := AR
                  have HCV := hcv
                  have HAPP := Lib.hid happ
                  have HO2 := Lib.hid ho2
                  have HB2 := Lib.hid hb2
                  have hos : (o ++ Utf8.encode ((d.1 : Nat) : Int)).size = o.size + (Utf8.encode ((d.1 : Nat) : Int)).size := ByteArray.size_append
                  have hfin : o.size + (Utf8.encode ((d.1 : Nat) : Int)).size ≤ (pos + d.2) := by rw [hes]; omega
                  have hnx : (pos + d.2) ≤ s.size := by omega
                  have hpn : pos < (pos + d.2) := by omega
                  have HOS := Lib.hid hos
                  clear happ ho2 hb2 hos hes hok hstep o1 o2 o5 hcv
                  go_wp2_with (fail)
                  refine R.out.mono ?_
                  rintro e w3 ⟨rfl, rfl⟩
                  go_wp2_with (fail)
                  refine (IC.out _).mono ?_
                  rintro e w3 ⟨rfl, rfl⟩
                  go_wp2_with (at_builtin; refine wpList_append_eq rfl (.tmp 94) (.tmp 98) 22 rfl _ _ _ _ rfl rfl HAPP.out ?_)
                  go_roundw
                  case rel =>
                    go_light
                    exact ⟨k, (pos + d.2), g2, gc2, o ++ Utf8.encode ((d.1 : Nat) : Int), by go_num, by rw [HOS.out], hst.out, by omega, hnx, by rw [HOS.out]; exact hfin, HO2.out, HB2.out⟩
                  case measure => simp [intOf]; omega
              · obtain ⟨h93, g1, g2, g3⟩ := (close_iff s pos hlt).1 hcl
                have hstep : stepT s pos = (0, 0, 23) := by unfold stepT; rw [if_pos hcl]
                have hst := Lib.hid ((readGo_bad (stepT s) s.size k pos o.data.toList hlt (by rw [hstep]; decide)).symm.trans G.out)
                rw [hstep] at hst
                have hd := rd_is (n := 93) (by decide) h93
                rw [hd] at R IC
                have gz : (pos : Int) + 2 < (s.size : Int) := by omega
                have k1 := hb_cell HB.out (HP.out (pos + 1) (by omega))
                have k2 := hb_cell HB.out (HP.out (pos + 2) (by omega))
                rw [g2] at k1
                rw [g3] at k2
                clear hle hbd hok h0 hstep hc f0 hd f60 f38 h38 h60 h93 g1 g2 g3 hcl
                go_wp2_with (fail)
                refine R.out.mono ?_
                rintro e w3 ⟨rfl, rfl⟩
                go_wp2_with (fail)
                refine (IC.out _).mono ?_
                rintro e w3 ⟨rfl, rfl⟩
                go_wp2_with (fail)
                go_ret3
                exact ⟨ret_str hst.out, HB.out⟩
    · have hst := Lib.hid ((readGo_end (stepT s) s.size k pos o.data.toList hlt).symm.trans G.out)
      have hlz : ¬ (pos : Int) < (s.size : Int) := by omega
      have cv := conv_str HO.out.holds gc (fun e => by cases e)
      clear hlt
      go_wp2_with (fail)
      go_ret3
      exact ⟨ret_str hst.out, HB.out⟩
end Go.Proofs.YtidimpepfkdcmaaGreatDoor
