/- Proved here: what the document's comparing of lists answers; that the answers that the document fixes are there. -/
import Derived.Test.YtaiiigknlnhdgaaLabBetween
namespace Go.Proofs.Ytaiiigknlnhdgaa
open Go.RowKit

set_option maxHeartbeats 2000000 in
theorem sameInts_any (p q : Option Addr) (l m : List Int) (c d : Nat) (w : World) (hl : l.length ≤ 140737488355328) (hm : m.length ≤ 140737488355328) (__hlc : l.length ≤ c) (_hmd : m.length ≤ d) (h1 : HoldsI w p l) (h2 : HoldsI w q m) :
    Calls Try.prog 18 #[.slice p l.length c, .slice q m.length d] w fun e w' => e = .returned (.bool (decide (l = m))) ∧ Below w.heap.size w w' := by
  have H1 := Lib.hid h1
  have H2 := Lib.hid h2
  clear h1 h2
  by_cases hlen : l.length = m.length
  · obtain ⟨n, hn⟩ : ∃ n, m.length = n := ⟨_, rfl⟩
    have HL := Lib.hid (And.intro (hlen.trans hn) hn)
    rw [hlen, hn]
    have hnn : (n : Int) ≤ 140737488355328 := by omega
    clear hl hm hlen hn
    go_enter Try.func18, Try.ntmps18
    go_wp2_with (fail)
    go_loopw [13] (fun v wr => ∃ k : Nat, v = .int .i64 (k : Int) ∧ k ≤ n ∧ Hid (l.take k = m.take k ∧ Below w.heap.size w wr)) (fun v _ => n - (intOf v).toNat)
    case atStart => exact ⟨0, rfl, Nat.zero_le _, Lib.hid ⟨by simp, Below.refl _ _⟩⟩
    case round =>
      obtain ⟨k, rfl, hk, HK⟩ := hrel
      by_cases hlt : k < n
      · obtain ⟨b, off, rfl, hc⟩ := (H1.out.below HK.out.2) (by have := HL.out.1; omega)
        have c1 := hc k (by have := HL.out.1; omega)
        clear hc
        obtain ⟨b2, off2, rfl, hc⟩ := (H2.out.below HK.out.2) (by have := HL.out.2; omega)
        have c2 := hc k (by have := HL.out.2; omega)
        clear hc
        obtain ⟨x, hx⟩ : ∃ x, l.getD k 0 = x := ⟨_, rfl⟩
        obtain ⟨y, hy⟩ : ∃ y, m.getD k 0 = y := ⟨_, rfl⟩
        rw [hx] at c1
        rw [hy] at c2
        have HX := Lib.hid (And.intro hx hy)
        clear hx hy
        have hlt' : (k : Int) < (n : Int) := by omega
        by_cases hxy : x = y
        · have hq : (x != y) = false := by rw [hxy]; simp
          have HE := Lib.hid hxy
          clear hxy hk
          go_wp2_with (fail)
          go_region
          go_wp2_with (fail)
          go_round
          case rel =>
            refine ⟨k + 1, by go_num, by omega, Lib.hid ⟨?_, HK.out.2.drew⟩⟩
            obtain ⟨e1, e2⟩ := HX.out
            have hl := HL.out
            rw [List.take_add_one, List.take_add_one, HK.out.1, List.getElem?_eq_getElem (by omega), List.getElem?_eq_getElem (by omega)]
            rw [List.getD_eq_getElem?_getD, List.getElem?_eq_getElem (by omega)] at e1 e2
            simp only [Option.getD_some] at e1 e2
            rw [e1, e2, HE.out]
          case measure => simp [intOf]; omega
        · have hq : (x != y) = true := by rw [bne_iff_ne]; exact hxy
          have HE := Lib.hid hxy
          clear hxy hk
          go_wp2_with (fail)
          go_region
          go_wp2_with (fail)
          go_ret
          refine ⟨ret_b ?_, HK.out.2.drew⟩
          symm
          rw [decide_eq_false_iff_not]
          intro e
          obtain ⟨e1, e2⟩ := HX.out
          rw [e, e2] at e1
          exact HE.out e1.symm
      · obtain rfl : k = n := by omega
        go_wp2_with (fail)
        go_ret
        refine ⟨ret_b ?_, HK.out.2⟩
        symm
        rw [decide_eq_true_iff]
        have h1 := HK.out.1
        rw [List.take_of_length_le (by rw [HL.out.1]; exact Nat.le_refl _), List.take_of_length_le (by rw [HL.out.2]; exact Nat.le_refl _)] at h1
        exact h1
  · have hq : ((l.length : Int) != (m.length : Int)) = true := by rw [bne_iff_ne]; omega
    have HE := Lib.hid hlen
    have hl' : (l.length : Int) ≤ 140737488355328 := by omega
    have hm' : (m.length : Int) ≤ 140737488355328 := by omega
    clear hl hm hlen
    go_enter Try.func18, Try.ntmps18
    go_wp2_with (fail)
    go_ret
    refine ⟨ret_b ?_, Below.refl _ _⟩
    symm
    rw [decide_eq_false_iff_not]
    exact fun e => HE.out (by rw [e])
theorem ownU_new (w : World) (cs : List Nat) (hm : cs.length ≤ 1048576) : OwnU (w.alloc (.cells (bytV cs).toArray 5)) w.heap.size (some ⟨w.heap.size, 0, none⟩) cs.length cs := by
  have h := World.ownsRow_lit (size := 1) (e := 5) w (bytV cs).toArray cs.length (Nat.le_refl _) (by unfold maxLen; omega) (by simp [bytV])
  exact ⟨by simpa using h, fun e => (by cases e), Nat.le_refl _⟩
theorem lit1 : checkP [1] = 0 := by decide +kernel
theorem lit2 : packB (bitsL [1]) = [192] := by decide +kernel
theorem lit3 : sizeP [1] = 1 := by decide +kernel
theorem lit4 : readP [192] = some [1] := by decide +kernel
theorem lit5 : betP [] [1] [3] = ([2, 1], 0) := by decide +kernel
theorem lit6 : levP [3, 2, 1] = 2 := by decide +kernel
set_option maxRecDepth 100000 in
set_option maxHeartbeats 8000000 in
theorem awake12_any (w : World) : Calls Try.prog 11 #[] w fun e w' => e = .returned (.bool true) ∧ Below w.heap.size w w' := by
  have N1 := Lib.hid (fun W => And.intro (ownI_new W [1] (by simp)) ((Below.refl W.heap.size W).alloc (Nat.le_refl _) (.cells (intV [1]).toArray 3)))
  have N6 := Lib.hid (fun W => And.intro (ownI_new W [3, 2, 1] (by simp)) ((Below.refl W.heap.size W).alloc (Nat.le_refl _) (.cells (intV [3, 2, 1]).toArray 3)))
  have NU := Lib.hid (fun W => And.intro (ownU_new W [192] (by simp)) ((Below.refl W.heap.size W).alloc (Nat.le_refl _) (.cells (bytV [192]).toArray 5)))
  have BY := Lib.hid (fun W p c (h : HoldsI W p [1]) (hc : 1 ≤ c) => bytes_ok p [1] c W (by simp) hc h lit1)
  have RD := Lib.hid (fun W p c (h : HoldsU W p [192]) (hc : 1 ≤ c) => read_any p [192] c W (by simp) hc h (by simp))
  rw [lit4] at RD
  have BT := Lib.hid (fun W p q (h1 : HoldsI W p [1]) (h3 : HoldsI W q [3]) (hp : p = none → 1 = 0) (hq : q = none → 1 = 0) => between_any none p q [] [1] [3] 0 1 1 W (by simp) (by simp) (by simp) (by simp) (by simp) (by simp) (fun h => by simp at h) h1 h3 (fun _ => rfl) hp hq)
  rw [lit5] at BT
  have SI := Lib.hid (fun W p q c d (h1 : HoldsI W p [2, 1]) (h2 : HoldsI W q [2, 1]) (hc : 2 ≤ c) (hd : 2 ≤ d) => sameInts_any p q [2, 1] [2, 1] c d W (by simp) (by simp) hc hd h1 h2)
  have LV := Lib.hid (fun W p c (h : HoldsI W p [3, 2, 1]) (hc : 3 ≤ c) => level_any p [3, 2, 1] c W (by simp) hc h)
  rw [lit6] at LV
  rw [show decide (([2, 1] : List Int) = [2, 1]) = true from decide_eq_true rfl] at SI
  have L1 := lit2
  have L3 := lit3
  go_enter Try.func11, Try.ntmps11
  go_wp2_with (fail)
  refine (BY.out _ _ _ (N1.out w).1.holds (Nat.le_refl _)).mono ?_
  rintro e w1 ⟨q1, c1, rfl, ho1, hb1⟩
  rw [L1] at ho1
  rw [L3]
  have B1 := Lib.hid (t_cat (N1.out w).2 hb1)
  have O1 := Lib.hid ho1
  clear hb1 ho1 N1 BY L1 L3
  go_wp2_with (fail)
  refine (RD.out _ _ _ (NU.out w1).1.holds (Nat.le_refl _)).mono ?_
  intro e w2 hpost
  obtain ⟨q2, c2, rfl, ho2, hb2⟩ : ∃ q c, e = .returned (.tuple #[.slice q 1 c, .int .i64 0]) ∧ OwnI w2 _ q c [1] ∧ Below _ _ w2 := hpost
  have B2 := Lib.hid (t_cat (t_cat B1.out (NU.out w1).2) hb2)
  have O12 := Lib.hid (O1.out.far (t_cat (NU.out w1).2 hb2))
  have O2 := Lib.hid ho2
  clear hb2 ho2 NU RD O1 B1
  have A1 := ownI_new w2 [1] (by simp)
  have b1 := (Below.refl w2.heap.size w2).alloc (Nat.le_refl _) (.cells (intV [1]).toArray 3)
  have hs1 : (w2.alloc (.cells (intV [1]).toArray 3)).heap.size = w2.heap.size + 1 := by simp
  have A3 := ownI_new (w2.alloc (.cells (intV [1]).toArray 3)) [3] (by simp)
  have b3 := (Below.refl _ (w2.alloc (.cells (intV [1]).toArray 3))).alloc (Nat.le_refl _) (.cells (intV [3]).toArray 3)
  have A1' := A1.far b3
  have B3 := Lib.hid (t_cat b1 b3)
  rw [hs1] at A3
  have AA := Lib.hid (And.intro A1'.holds A3.holds)
  clear A1 A3 b1 b3 A1' hs1
  go_wp2_with (fail)
  refine (BT.out _ _ _ AA.out.1 AA.out.2 (fun e => by cases e) (fun e => by cases e)).mono ?_
  intro e w3 hpost
  obtain ⟨q3, c3, rfl, ho3, hb3⟩ : ∃ q c, e = .returned (.tuple #[.slice q 2 c, .int .i64 0]) ∧ OwnI w3 _ q c [2, 1] ∧ Below _ _ w3 := hpost
  have B4 := Lib.hid (t_cat B3.out hb3)
  have O13 := O12.out.far B4.out
  have O23 := O2.out.far B4.out
  have O3 := Lib.hid ho3
  obtain ⟨g1, rfl, -, -, x1, -⟩ := O13.at (j := 0) (by simp)
  obtain ⟨b, off, rfl, hcell⟩ := O23.holds (by simp)
  have x2 := hcell 0 (by simp)
  rw [Nat.add_zero] at x2
  have x1' : w3.cell? ⟨g1, 0, none⟩ = some (.int .u8 192) := x1
  have x2' : w3.cell? ⟨b, off, none⟩ = some (.int .i64 1) := x2
  have B5 := Lib.hid (t_cat B2.out B4.out)
  clear hb3 ho3 BT O12 O2 B2 B3 B4 O13 O23 AA x1 x2 hcell
  go_wp2_with (fail)
  have A4 := ownI_new w3 [2, 1] (by simp)
  have b4 := (Below.refl w3.heap.size w3).alloc (Nat.le_refl _) (.cells (intV [2, 1]).toArray 3)
  refine (SI.out _ _ _ _ _ (O3.out.far b4).holds A4.holds O3.out.2.2 (Nat.le_refl _)).mono ?_
  rintro e w5 ⟨rfl, hb5⟩
  have B6 := Lib.hid (t_cat (t_cat B5.out b4) hb5)
  clear hb5 SI A4 b4 O3 B5 x1' x2'
  go_wp2_with (fail)
  refine (LV.out _ _ _ (N6.out w5).1.holds (Nat.le_refl _)).mono ?_
  rintro e w' ⟨rfl, rfl⟩
  go_wp2_with (fail)
  go_ret
  exact ⟨rfl, t_cat B6.out (N6.out w5).2⟩
end Go.Proofs.Ytaiiigknlnhdgaa
