/- Proved here: the document's group of sectors is the one that is laid. -/
import Derived.Test.YtggchfmglaijgaaTapeRef
import Derived.Deep.CutRange
namespace Go.Proofs.Ytggchfmglaijgaa
open Go.RowKit

theorem app_bytes {w0 w : World} {g cap g2 cap2 n m : Nat} {a b : List UInt8} (ha : a.length = n) (hb : b.length = m) (h : Owns w w0.heap.size g cap (ofL a)) (hbl : Below w0.heap.size w0 w) (h2 : HoldsB w (some ⟨g2, 0, none⟩) (ofL b)) (hsz : n + m ≤ 1000) :
    ∃ g' cap' w', (∀ ty, (Builtin.append_ #[33, 33] ty #[.slice (some ⟨g, 0, none⟩) n cap, .slice (some ⟨g2, 0, none⟩) m cap2]).run Try.prog w = .ok (.slice (some ⟨g', 0, none⟩) (n + m) cap') w') ∧ Owns w' w0.heap.size g' cap' (ofL (a ++ b)) ∧ Below w0.heap.size w0 w' := by
  obtain ⟨g', cap', w', hr, ho, hb'⟩ := append_next (c := cap2) h hbl h2 (fun e => by cases e) (by rw [ofL_size, ofL_size]; omega)
  rw [ofL_size, ofL_size, ha, hb] at hr
  rw [ofL_append]
  exact ⟨g', cap', w', hr, ho, hb'⟩
theorem sector_ref (gen place group behind : Nat) (l : List UInt8) (h : l.length ≤ 48) : numL (sumN (numL gen 4 ++ numL place 2 ++ numL group 2 ++ numL behind 2 ++ numL l.length 2 ++ fillL l 48)) 4 ++ (numL gen 4 ++ numL place 2 ++ numL group 2 ++ numL behind 2 ++ numL l.length 2 ++ fillL l 48) = sectorL gen place group behind l := by
  have e : numL gen 4 ++ numL place 2 ++ numL group 2 ++ numL behind 2 ++ numL l.length 2 ++ fillL l 48 = fillL (markL gen place group behind l) 60 := by
    unfold fillL
    rw [markL_length]
    unfold markL
    simp only [List.append_assoc]
    rw [show 60 - (12 + l.length) = 48 - l.length by omega]
  rw [e]
  rfl
theorem rnum (v n : Nat) (w : World) (hv : v < 18446744073709551616) (hn0 : 0 < n) (hn : n ≤ 8) (nI : Int) (e : (n : Int) = nI) :
    Calls Try.prog 64 #[.int .u64 (v : Int), .int .i64 nI] w fun e w' => ∃ g c, e = .returned (.slice (some ⟨g, 0, none⟩) n c) ∧ Owns w' w.heap.size g c (ofL (numL v n)) ∧ Below w.heap.size w w' := by
  subst e
  refine (rnumber_any v n w hv hn0 hn).mono ?_
  rintro e w' ⟨r, rfl, g, c, rfl, ho, hb⟩
  rw [numL_length]
  exact ⟨g, c, rfl, ho, hb⟩
theorem fill48 (p : Option Addr) (s : ByteArray) (m c : Nat) (w : World) (hm : s.size = m) (hmn : m ≤ 48) (hp : HoldsB w p s) :
    Calls Try.prog 62 #[.slice p m c, .int .i64 48] w fun e w' => ∃ g c', e = .returned (.slice (some ⟨g, 0, none⟩) 48 c') ∧ Owns w' w.heap.size g c' (ofL (fillL (bl s) 48)) ∧ Below w.heap.size w w' := by
  refine (fill_any p s m c 48 w hm hmn (by decide) hp).mono ?_
  rintro e w' ⟨r, rfl, g, c, rfl, ho, hb⟩
  rw [fillL_length (by rw [bl_length, hm]; exact hmn)]
  exact ⟨g, c, rfl, ho, hb⟩
theorem row64_own' {W : World} {B g c : Nat} {l : List UInt8} (h : Owns W B g c (ofL l)) (hl : l.length = 64) : W.ownsRow 0 5 1 (.slice (some ⟨g, 0, none⟩) 64 c) (ofL l).size (bytesV (ofL l)) := by
  have h0 := h.1
  rw [ofL_size, hl] at h0 ⊢
  rcases h0.2 with ⟨e, _⟩ | ⟨g', cap', cur', e, _, h1, h2⟩
  · cases e
  · exact ⟨h0.1, .inr ⟨g', cap', cur', e, Nat.zero_le _, h1, h2⟩⟩
theorem groups_lit (w : World) : GroupsIn (w.alloc (.cells #[] 33)) (Since w) (.slice (some ⟨w.heap.size, 0, none⟩) 0 0) [] :=
  ⟨[], by
    have h := World.ownsRow_lit (base := 0) (e := 33) (size := 1) w #[] 0 (Nat.zero_le _) (by unfold maxLen; omega) rfl
    exact h, fun k hk => by
    injection hk with hk
    show w.heap.size ≤ k
    exact Nat.le_of_eq hk, fun i hi => absurd hi (Nat.not_lt_zero i)⟩
/-- What the document's group answers. -/
def GroupPost (w : World) (gen place group : Nat) (l : List UInt8) (e : Ending) (w' : World) : Prop :=
  ∃ q k, e = .returned (.slice q (countS l.length) k) ∧ GroupsIn w' (Since w) (.slice q (countS l.length) k) ((groupL gen place group l).map ofL) ∧ Below w.heap.size w w'
set_option maxRecDepth 100000 in
set_option maxHeartbeats 16000000 in
theorem rgroup_any (gen place group : Nat) (p : Option Addr) (s : ByteArray) (n c : Nat) (w : World) (hgen : gen ≤ 4294967295) (hpl : place ≤ 1000000) (hgr : group ≤ 1000000) (hn : s.size = n) (hn9 : n ≤ 10000000) (hnc : n ≤ c) (hp : HoldsB w p s) (hnil : p = none → c = 0) :
    Calls Try.prog 31 #[.int .i64 (gen : Int), .int .i64 (place : Int), .int .i64 (group : Int), .slice p n c] w (GroupPost w gen place group (bl s)) := by
  have RS := Lib.hid (fun W => rsectors_any n (by omega) W)
  have HH := Lib.hid (And.intro hgen (And.intro hpl (And.intro hgr (And.intro hn (And.intro hn9 (And.intro hnc (And.intro hp hnil)))))))
  have hbl : (bl s).length = n := by rw [bl_length, hn]
  have hc9 : countS n ≤ 1000000 := by unfold countS; omega
  have HB := Lib.hid hbl
  have hnI : (n : Int) ≤ 10000000 := by omega
  have hgI : (gen : Int) ≤ 4294967295 := by omega
  have hpI : (place : Int) ≤ 1000000 := by omega
  have hrI : (group : Int) ≤ 1000000 := by omega
  have wg : IntKind.u64.wrap (gen : Int) = (gen : Int) := by rw [IntKind.wrap_u64]; omega
  have wgr : IntKind.u64.wrap (group : Int) = (group : Int) := by rw [IntKind.wrap_u64]; omega
  obtain ⟨C, hC⟩ : ∃ C, countS n = C := ⟨_, rfl⟩
  have HC := Lib.hid hC
  rw [hC] at hc9
  have hCI : (C : Int) ≤ 1000000 := by omega
  obtain ⟨W1, hW1⟩ : ∃ W1, w.alloc (.cells #[] 33) = W1 := ⟨_, rfl⟩
  clear hgen hpl hgr hn hn9 hnc hp hnil hbl hC hgI
  go_enter Try.func31, Try.ntmps31
  go_wp2_with (fail)
  have RS1 := RS.out W1
  rw [HC.out] at RS1
  have HRS := Lib.hid RS1
  clear RS1 RS
  with_reducible (refine HRS.out.mono ?_)
  rintro e W' ⟨rfl, rfl⟩
  have gl : GroupsIn W1 (Since w) (.slice (some ⟨w.heap.size, 0, none⟩) 0 0) [] := by rw [← hW1]; exact groups_lit w
  have bl1 : Below w.heap.size w W1 := by rw [← hW1]; exact (Below.refl _ _).alloc (Nat.le_refl _) _
  have H1 := Lib.hid (And.intro gl bl1)
  clear gl bl1 hW1
  go_wp2_with (fail)
  go_loopw [9, 11] (fun v x wr => ∃ (i : Nat) (q : Option Addr) (m k : Nat), x = .int .i64 (i : Int) ∧ v = .slice q m k ∧ m = i ∧ i ≤ C ∧ Hid (GroupsIn wr (Since w) (.slice q m k) (((List.range i).map (secAt gen place group C (bl s))).map ofL) ∧ Below w.heap.size w wr)) (fun _ x _ => C - (intOf x).toNat)
  case atStart => exact ⟨0, some ⟨w.heap.size, 0, none⟩, 0, 0, rfl, rfl, rfl, Nat.zero_le _, Lib.hid ⟨H1.out.1, H1.out.2⟩⟩
  case round =>
    obtain ⟨i, q, m, k, rfl, rfl, rfl, hi, HR⟩ := hrel
    have hi9 : (m : Int) ≤ 1000000 := by omega
    have hi0 : (0 : Int) ≤ (m : Int) := by omega
    by_cases hlt : m < C
    · have hltI : (m : Int) < (C : Int) := by omega
      have hmn : m * 48 ≤ n := by have := HC.out; unfold countS at this; omega
      have hmn2 : 48 * m ≤ n := by omega
      obtain ⟨z, hz⟩ : ∃ z, 48 * m = z := ⟨_, rfl⟩
      have hzI : 48 * (m : Int) = (z : Int) := by omega
      have hz9 : (z : Int) ≤ 10000000 := by have := HH.out.2.2.2.2.1; omega
      obtain ⟨L, hL⟩ : ∃ L, min 48 (n - z) = L := ⟨_, rfl⟩
      have hLs : z + L ≤ s.size := by rw [HH.out.2.2.2.1]; omega
      obtain ⟨PT, hPT⟩ : ∃ PT, s.extract z (z + L) = PT := ⟨_, rfl⟩
      have hpt : bl PT = partAt (bl s) m := by
        rw [← hPT, bl_extract, Nat.add_sub_cancel_left]
        unfold partAt
        rw [hz]
        by_cases h48 : n - z ≤ 48
        · have hle : ((bl s).drop z).length = n - z := by rw [List.length_drop, HB.out]
          rw [List.take_of_length_le (by omega), List.take_of_length_le (by omega)]
        · rw [show L = 48 by omega]
      have HPT := Lib.hid (show PT.size = L ∧ L ≤ 48 ∧ bl PT = partAt (bl s) m from ⟨by rw [← hPT]; exact ext_size' _ _ _ hLs, by omega, hpt⟩)
      have HPR := Lib.hid (HH.out.2.2.2.2.2.2.1.below HR.out.2)
      have HLS := Lib.hid (And.intro hLs (And.intro hL (And.intro hPT hz)))
      have HL := Lib.hid hlt
      have hpm : ((place + m : Nat) : Int) = (place : Int) + (m : Int) := by omega
      have hcm : ((C - 1 - m : Nat) : Int) = (C : Int) - 1 - (m : Int) := by omega
      obtain ⟨PM, hPM⟩ : ∃ PM, place + m = PM := ⟨_, rfl⟩
      obtain ⟨CM, hCM⟩ : ∃ CM, C - 1 - m = CM := ⟨_, rfl⟩
      have wpm : IntKind.u64.wrap ((place : Int) + (m : Int)) = (PM : Int) := by rw [IntKind.wrap_u64]; omega
      have wcm : IntKind.u64.wrap ((C : Int) - 1 - (m : Int)) = (CM : Int) := by rw [IntKind.wrap_u64]; omega
      have HPM := Lib.hid (show place + m = PM ∧ C - 1 - m = CM ∧ PM < 18446744073709551616 ∧ CM < 18446744073709551616 ∧ L < 18446744073709551616 from ⟨hPM, hCM, by omega, by omega, by omega⟩)
      clear hpm hcm hPM hCM
      have hLI : (L : Int) ≤ 48 := by omega
      have wL : IntKind.u64.wrap (L : Int) = (L : Int) := by rw [IntKind.wrap_u64]; omega
      have hzn : (z : Int) ≤ (n : Int) := by omega
      clear hLs hPT hL hpt hmn hmn2 hlt hz hi
      go_upto_region 6 with (fail)
      go_cut [12] from 18 to 74 (fun v12 wx => ∃ Q cc, v12 = .slice Q L cc ∧ Hid (HoldsB wr Q PT) ∧ wx = wr)
      case first =>
        have hncI : (n : Int) ≤ (c : Int) := by have := HH.out.2.2.2.2.2.1; omega
        rcases Nat.eq_zero_or_pos n with hn0 | hn0
        · have hz0 : z = 0 := by omega
          have hL0 : L = 0 := by have := HLS.out.2.1; omega
          subst hn0 hz0 hL0
          have HPE := Lib.hid (show ∀ Q, HoldsB wr Q PT from fun Q h0 => by have := HPT.out.1; omega)
          rcases p with _ | ⟨b, off, sp⟩
          · have hc0 := HH.out.2.2.2.2.2.2.2 rfl
            subst hc0
            go_wp2_with (fail)
            all_goals try (exfalso; omega; done)
            go_meet
            exact ⟨none, 0, rfl, Lib.hid (HPE.out none), rfl⟩
          · by_cases hc : c = 0
            · subst hc
              go_wp2_with (fail)
              all_goals try (exfalso; omega; done)
              go_meet
              exact ⟨_, _, rfl, Lib.hid (HPE.out _), rfl⟩
            · have hc' : ¬ (c : Int) = 0 := by omega
              go_wp2_with (fail)
              all_goals try (exfalso; omega; done)
              go_meet
              exact ⟨_, _, rfl, Lib.hid (HPE.out _), rfl⟩
        · obtain ⟨b, off, rfl, hcells⟩ := HPR.out (by rw [HH.out.2.2.2.1]; exact hn0)
          have hPTh : HoldsB wr (some ⟨b, off + z, none⟩) PT := by
            have := HPR.out.part z (z + L) HLS.out.1
            rwa [HLS.out.2.2.1] at this
          have HPE := Lib.hid hPTh
          have hck : ¬ c = z := by have h1 := HC.out; have h2 := HLS.out.2.2.2; have h3 := HL.out; unfold countS at h1; omega
          have hck2 : ¬ z = c := fun e => hck e.symm
          clear hcells hPTh
          by_cases hfull : z + 48 < n
          · have hL8 : L = 48 := by have := HLS.out.2.1; omega
            have f1 : (z : Int) + 48 < (n : Int) := by omega
            have f2 : ¬ (n : Int) ≤ (z : Int) + 48 := by omega
            have f3 : ((z : Int) + 48).toNat - z = 48 := by omega
            subst hL8
            go_wp2_with (fail)
            all_goals try (exfalso; omega; done)
            go_meet
            exact ⟨_, _, rfl, Lib.hid HPE.out, rfl⟩
          · have hL8 : L = n - z := by have := HLS.out.2.1; omega
            have f1 : ¬ (z : Int) + 48 < (n : Int) := by omega
            have f2 : (n : Int) ≤ (z : Int) + 48 := by omega
            subst hL8
            go_wp2_with (fail)
            all_goals try (exfalso; omega; done)
            go_meet
            exact ⟨_, _, rfl, Lib.hid HPE.out, rfl⟩
      case rest =>
        obtain ⟨Q, cc, rfl, hq, hwc⟩ := hcut
        obtain rfl : wr = wc := hwc.symm
        have HQ := hq
        clear hq HPR
        have HN1 := Lib.hid (rnum gen 4 wr (by have := HH.out.1; omega) (by decide) (by decide) 4 rfl)
        go_wp2_with (fail)
        all_goals try (exfalso; omega; done)
        with_reducible (refine HN1.out.mono ?_)
        rintro e X1 ⟨g1, c1, rfl, o1, b1⟩
        have H1x := Lib.hid (And.intro o1 b1)
        clear o1 b1 HN1
        have HN2 := Lib.hid (rnum PM 2 X1 HPM.out.2.2.1 (by decide) (by decide) 2 rfl)
        go_wp2_with (fail)
        all_goals try (exfalso; omega; done)
        with_reducible (refine HN2.out.mono ?_)
        rintro e Y2 ⟨g2, c2, rfl, o2, b2⟩
        obtain ⟨h2, d2, X2, r2, p2, q2⟩ := app_bytes (cap2 := c2) (n := 4) (m := 2) (by simp only [List.length_append, numL_length]) (numL_length PM 2) (H1x.out.1.far b2) (H1x.out.2.trans (b2.mono H1x.out.2.size)) o2.holds (by decide)
        have H2x := Lib.hid (And.intro p2 q2)
        have R2x := Lib.hid r2
        clear o2 b2 p2 q2 r2 HN2
        go_wp2_with (at_builtin; refine wpList_append_eq rfl (.tmp 36) (.tmp 41) 33 rfl _ _ _ _ rfl rfl R2x.out ?_)
        all_goals try (exfalso; omega; done)
        have HN3 := Lib.hid (rnum group 2 X2 (by have := HH.out.2.2.1; omega) (by decide) (by decide) 2 rfl)
        go_wp2_with (fail)
        all_goals try (exfalso; omega; done)
        with_reducible (refine HN3.out.mono ?_)
        rintro e Y3 ⟨g3, c3, rfl, o3, b3⟩
        obtain ⟨h3, d3, X3, r3, p3, q3⟩ := app_bytes (cap2 := c3) (n := 6) (m := 2) (by simp only [List.length_append, numL_length]) (numL_length group 2) (H2x.out.1.far b3) (H2x.out.2.trans (b3.mono H2x.out.2.size)) o3.holds (by decide)
        have H3x := Lib.hid (And.intro p3 q3)
        have R3x := Lib.hid r3
        clear o3 b3 p3 q3 r3 HN3
        go_wp2_with (at_builtin; refine wpList_append_eq rfl (.tmp 43) (.tmp 46) 33 rfl _ _ _ _ rfl rfl R3x.out ?_)
        all_goals try (exfalso; omega; done)
        have HN4 := Lib.hid (rnum CM 2 X3 HPM.out.2.2.2.1 (by decide) (by decide) 2 rfl)
        go_wp2_with (fail)
        all_goals try (exfalso; omega; done)
        with_reducible (refine HN4.out.mono ?_)
        rintro e Y4 ⟨g4, c4, rfl, o4, b4⟩
        obtain ⟨h4, d4, X4, r4, p4, q4⟩ := app_bytes (cap2 := c4) (n := 8) (m := 2) (by simp only [List.length_append, numL_length]) (numL_length CM 2) (H3x.out.1.far b4) (H3x.out.2.trans (b4.mono H3x.out.2.size)) o4.holds (by decide)
        have H4x := Lib.hid (And.intro p4 q4)
        have R4x := Lib.hid r4
        clear o4 b4 p4 q4 r4 HN4
        go_wp2_with (at_builtin; refine wpList_append_eq rfl (.tmp 48) (.tmp 54) 33 rfl _ _ _ _ rfl rfl R4x.out ?_)
        all_goals try (exfalso; omega; done)
        have HN5 := Lib.hid (rnum L 2 X4 HPM.out.2.2.2.2 (by decide) (by decide) 2 rfl)
        go_wp2_with (fail)
        all_goals try (exfalso; omega; done)
        with_reducible (refine HN5.out.mono ?_)
        rintro e Y5 ⟨g5, c5, rfl, o5, b5⟩
        obtain ⟨h5, d5, X5, r5, p5, q5⟩ := app_bytes (cap2 := c5) (n := 10) (m := 2) (by simp only [List.length_append, numL_length]) (numL_length L 2) (H4x.out.1.far b5) (H4x.out.2.trans (b5.mono H4x.out.2.size)) o5.holds (by decide)
        have H5x := Lib.hid (And.intro p5 q5)
        have R5x := Lib.hid r5
        clear o5 b5 p5 q5 r5 HN5
        go_wp2_with (at_builtin; refine wpList_append_eq rfl (.tmp 56) (.tmp 60) 33 rfl _ _ _ _ rfl rfl R5x.out ?_)
        all_goals try (exfalso; omega; done)
        have HF := Lib.hid (fill48 Q PT L cc X5 HPT.out.1 HPT.out.2.1 (HQ.out.below H5x.out.2))
        go_wp2_with (fail)
        all_goals try (exfalso; omega; done)
        with_reducible (refine HF.out.mono ?_)
        rintro e Y6 ⟨g6, c6, rfl, o6, b6⟩
        have hf48 : (fillL (bl PT) 48).length = 48 := fillL_length (by rw [bl_length, HPT.out.1]; exact HPT.out.2.1)
        obtain ⟨h6, d6, X6, r6, p6, q6⟩ := app_bytes (cap2 := c6) (n := 12) (m := 48) (by simp only [List.length_append, numL_length]) hf48 (H5x.out.1.far b6) (H5x.out.2.trans (b6.mono H5x.out.2.size)) o6.holds (by decide)
        obtain ⟨BB, hBB⟩ : ∃ BB, numL gen 4 ++ numL PM 2 ++ numL group 2 ++ numL CM 2 ++ numL L 2 ++ fillL (bl PT) 48 = BB := ⟨_, rfl⟩
        have hBl : BB.length = 60 := by rw [← hBB]; simp only [List.length_append, numL_length, hf48]
        rw [hBB] at p6
        have SU := rsum_any (some ⟨h6, 0, none⟩) (ofL BB) 60 d6 X6 (by rw [ofL_size, hBl]) (by decide) p6.holds
        rw [bl_ofL] at SU
        obtain ⟨SM, hSM⟩ : ∃ SM, sumN BB = SM := ⟨_, rfl⟩
        have hS9 : SM < 4294967296 := by rw [← hSM]; exact sumN_lt BB
        rw [hSM] at SU
        have wS : IntKind.u64.wrap (SM : Int) = (SM : Int) := by rw [IntKind.wrap_u64]; omega
        have HSU := Lib.hid SU
        have H6x := Lib.hid (And.intro p6 (And.intro q6 (And.intro hBB (And.intro hBl (And.intro hSM hS9)))))
        have R6x := Lib.hid r6
        clear o6 b6 hf48 p6 q6 r6 hBB hBl SU hSM hS9 HF
        go_wp2_with (at_builtin; refine wpList_append_eq rfl (.tmp 62) (.tmp 64) 33 rfl _ _ _ _ rfl rfl R6x.out ?_)
        all_goals try (exfalso; omega; done)
        with_reducible (refine HSU.out.mono ?_)
        rintro e w' ⟨rfl, rfl⟩
        have HN7 := Lib.hid (rnum SM 4 X6 (by have := H6x.out.2.2.2.2.2; omega) (by decide) (by decide) 4 rfl)
        go_wp2_with (fail)
        all_goals try (exfalso; omega; done)
        with_reducible (refine HN7.out.mono ?_)
        rintro e Y7 ⟨g7, c7, rfl, o7, b7⟩
        obtain ⟨h7, d7, X7, r7, p7, q7⟩ := app_bytes (w0 := wr) (cap2 := d6) (n := 4) (m := 60) (numL_length SM 4) H6x.out.2.2.2.1 (o7.mono H6x.out.2.1.size) (H6x.out.2.1.trans (b7.mono H6x.out.2.1.size)) (H6x.out.1.far b7).holds (by decide)
        have hsec : numL SM 4 ++ BB = secAt gen place group C (bl s) m := by
          have h := sector_ref gen PM group CM (bl PT) (by rw [bl_length, HPT.out.1]; exact HPT.out.2.1)
          rw [bl_length, HPT.out.1, H6x.out.2.2.1, H6x.out.2.2.2.2.1] at h
          rw [h, HPT.out.2.2, ← HPM.out.1, ← HPM.out.2.1]
          rfl
        rw [hsec] at p7
        obtain ⟨U, hU⟩ : ∃ U, X7.alloc (.cells #[.slice (some ⟨h7, 0, none⟩) 64 d7] 33) = U := ⟨_, rfl⟩
        have bU : Below X7.heap.size X7 U := by rw [← hU]; exact (Below.refl _ _).alloc (Nat.le_refl _) _
        have nU : U.heap[X7.heap.size]? = some (.cells #[.slice (some ⟨h7, 0, none⟩) 64 d7] 33 (0, 0)) := by rw [← hU]; exact heap_alloc_new _ _
        have hs64 : (secAt gen place group C (bl s) m).length = 64 := sectorL_length _ _ _ _ _ (partAt_le _ _)
        have oU := row64_own' (p7.far bU) hs64
        have hl3 : (((List.range m).map (secAt gen place group C (bl s))).map ofL).length = m := by simp
        have bwU := q7.trans (bU.mono q7.size)
        obtain ⟨q', c', W8, hrun, gin, hgrow, hgY⟩ := (HR.out.1.far bwU).push oU (by rw [cell_of_row _ _ _ _ _ _ nU]; rfl) (by rw [hl3]; have := HL.out; omega)
        rw [hl3] at hrun gin
        have hb8 : Below w.heap.size w W8 := (HR.out.2.trans (bwU.mono HR.out.2.size)).grown hgrow (HR.out.2.trans (bwU.mono HR.out.2.size)).size (fun k hk => hgY k hk)
        have hsn : ((List.range m).map (secAt gen place group C (bl s))).map ofL ++ [ofL (secAt gen place group C (bl s) m)] = ((List.range (m + 1)).map (secAt gen place group C (bl s))).map ofL := by rw [List.range_succ, List.map_append, List.map_append]; rfl
        rw [hsn] at gin
        have gin2 := gin.mono (Y' := Since w) (fun k hk => by
          rcases hk with h | h | h
          · exact h
          · have e : h7 = k := by injection h
            have := p7.2.1
            have := HR.out.2.size
            show w.heap.size ≤ k
            omega
          · have := HR.out.2.size; have := bwU.size
            show w.heap.size ≤ k
            omega)
        have HNX := Lib.hid (And.intro gin2 hb8)
        have R7x := Lib.hid r7
        have HRUN := Lib.hid hrun
        have HU := Lib.hid hU
        clear o7 b7 p7 q7 r7 hsec hU bU nU hs64 oU hl3 bwU hrun gin hgrow hgY hb8 hsn gin2 HN7
        go_wp2_with (first | (at_builtin; refine wpList_append_eq rfl (.tmp 70) (.tmp 71) 33 rfl _ _ _ _ rfl rfl R7x.out ?_) | (at_builtin; refine wpList_append_eq rfl (.tmp 66) (.tmp 73) 28 rfl _ _ _ _ rfl rfl (by rw [HU.out]; exact HRUN.out) ?_))
        all_goals try (exfalso; omega; done)
        go_roundw
        case rel => exact ⟨m + 1, q', m + 1, c', by go_num, rfl, rfl, by have := HL.out; omega, HNX⟩
        case measure => simp [intOf]; have := HL.out; omega
    · obtain rfl : m = C := by omega
      go_wp2_with (fail)
      all_goals try (exfalso; omega; done)
      go_ret
      refine ⟨q, k, by rw [HB.out, HC.out]; rfl, ?_, HR.out.2⟩
      have e : groupL gen place group (bl s) = (List.range m).map (secAt gen place group m (bl s)) := by unfold groupL; rw [HB.out, HC.out]
      rw [e, HB.out, HC.out]
      exact HR.out.1
end Go.Proofs.Ytggchfmglaijgaa
