/- Proved here: the document's SameInts says whether two rows of numbers are one (the cache's seat). -/
import Derived.Test.YtaigbplidkakhaaCInts
namespace Go.Proofs.Ytaigbplidkakhaa
open Go.RowKit
theorem ret_b {a b : Bool} (h : a = b) : Ending.returned (.bool a) = .returned (.bool b) := by rw [h]

set_option maxHeartbeats 2000000 in
theorem sameInts_any (p q : Option Addr) (l m : List Int) (c d : Nat) (w : World) (hl : l.length ≤ 140737488355328) (hm : m.length ≤ 140737488355328) (__hlc : l.length ≤ c) (_hmd : m.length ≤ d) (h1 : HoldsI w p l) (h2 : HoldsI w q m) :
    Calls Try.prog 9 #[.slice p l.length c, .slice q m.length d] w fun e w' => e = .returned (.bool (decide (l = m))) ∧ Below w.heap.size w w' := by
  have H1 := Lib.hid h1
  have H2 := Lib.hid h2
  clear h1 h2
  by_cases hlen : l.length = m.length
  · obtain ⟨n, hn⟩ : ∃ n, m.length = n := ⟨_, rfl⟩
    have HL := Lib.hid (And.intro (hlen.trans hn) hn)
    rw [hlen, hn]
    have hnn : (n : Int) ≤ 140737488355328 := by omega
    clear hl hm hlen hn
    go_enter Try.func9, Try.ntmps9
    go_wp2_with (fail)
    go_loopw [13] (fun v wr => ∃ k : Nat, v = .int .i64 (k : Int) ∧ k ≤ n ∧ Hid (l.take k = m.take k ∧ Below w.heap.size w wr)) (fun v _ => n - (intOf v).toNat)
    case atStart => exact ⟨0, rfl, Nat.zero_le _, Lib.hid ⟨by simp, Below.refl _ _⟩⟩
    case round =>
      obtain ⟨k, rfl, hk, HK⟩ := hrel
      by_cases hlt : k < n
      · obtain ⟨b, off, rfl, hc⟩ := (H1.out.below HK.out.2) (by have := HL.out.1; omega)
        have c1 := hc k (by have := HL.out.1; omega)
        clear hc
        obtain ⟨b2, off2, rfl, hc⟩ := (H2.out.below HK.out.2) (by have := HL.out.2; omega)
        have c2 := hc k (by have := HL.out.2; omega)
        clear hc
        obtain ⟨x, hx⟩ : ∃ x, l.getD k 0 = x := ⟨_, rfl⟩
        obtain ⟨y, hy⟩ : ∃ y, m.getD k 0 = y := ⟨_, rfl⟩
        rw [hx] at c1
        rw [hy] at c2
        have HX := Lib.hid (And.intro hx hy)
        clear hx hy
        have hlt' : (k : Int) < (n : Int) := by omega
        by_cases hxy : x = y
        · have hq : (x != y) = false := by rw [hxy]; simp
          have HE := Lib.hid hxy
          clear hxy hk
          go_wp2_with (fail)
          go_region
          go_wp2_with (fail)
          go_round
          case rel =>
            refine ⟨k + 1, by go_num, by omega, Lib.hid ⟨?_, HK.out.2.drew⟩⟩
            obtain ⟨e1, e2⟩ := HX.out
            have hl := HL.out
            rw [List.take_add_one, List.take_add_one, HK.out.1, List.getElem?_eq_getElem (by omega), List.getElem?_eq_getElem (by omega)]
            rw [List.getD_eq_getElem?_getD, List.getElem?_eq_getElem (by omega)] at e1 e2
            simp only [Option.getD_some] at e1 e2
            rw [e1, e2, HE.out]
          case measure => simp [intOf]; omega
        · have hq : (x != y) = true := by rw [bne_iff_ne]; exact hxy
          have HE := Lib.hid hxy
          clear hxy hk
          go_wp2_with (fail)
          go_region
          go_wp2_with (fail)
          go_ret
          refine ⟨ret_b ?_, HK.out.2.drew⟩
          symm
          rw [decide_eq_false_iff_not]
          intro e
          obtain ⟨e1, e2⟩ := HX.out
          rw [e, e2] at e1
          exact HE.out e1.symm
      · obtain rfl : k = n := by omega
        go_wp2_with (fail)
        go_ret
        refine ⟨ret_b ?_, HK.out.2⟩
        symm
        rw [decide_eq_true_iff]
        have h1 := HK.out.1
        rw [List.take_of_length_le (by rw [HL.out.1]; exact Nat.le_refl _), List.take_of_length_le (by rw [HL.out.2]; exact Nat.le_refl _)] at h1
        exact h1
  · have hq : ((l.length : Int) != (m.length : Int)) = true := by rw [bne_iff_ne]; omega
    have HE := Lib.hid hlen
    have hl' : (l.length : Int) ≤ 140737488355328 := by omega
    have hm' : (m.length : Int) ≤ 140737488355328 := by omega
    clear hl hm hlen
    go_enter Try.func9, Try.ntmps9
    go_wp2_with (fail)
    go_ret
    refine ⟨ret_b ?_, Below.refl _ _⟩
    symm
    rw [decide_eq_false_iff_not]
    exact fun e => HE.out (by rw [e])
end Go.Proofs.Ytaigbplidkakhaa
