/- Proved here: what label.Check answers. -/
import Derived.Test.YtaiiigknlnhdgaaLabNumber
namespace Go.Proofs.Ytaiiigknlnhdgaa
open Go.RowKit

def beyond (v : Int) : Bool := decide (v < -1073741824) || decide (1073741824 < v)
theorem beyond_in {v : Int} (h : beyond v = false) : InB v := by
  unfold beyond at h
  simp only [Bool.or_eq_false_iff, decide_eq_false_iff_not] at h
  unfold InB; omega
theorem in_beyond {v : Int} (h : InB v) : beyond v = false := by
  unfold beyond
  unfold InB at h
  simp only [Bool.or_eq_false_iff, decide_eq_false_iff_not]; omega
theorem closure_any (v : Int) (w : World) : Calls Try.prog 38 #[.int .i64 v] w fun e w' => e = .returned (.bool (beyond v)) ∧ w = w' := by
  unfold beyond
  by_cases h1 : v < -1073741824
  · go_enter Try.func38, Try.ntmps38
    go_wp2_with (fail)
    go_ret
    exact ⟨ret_b (by simp [h1]), rfl⟩
  · go_enter Try.func38, Try.ntmps38
    go_wp2_with (fail)
    go_ret
    exact ⟨ret_b (by rw [decide_eq_false (show ¬ v < -1073741824 by omega)]; rfl), rfl⟩
/-- The first place from which on there is one beyond. -/
def idxP (l : List Int) : Int := if l.any beyond then ((l.findIdx beyond : Nat) : Int) else -1
set_option maxHeartbeats 2000000 in
theorem indexFunc_any (p : Option Addr) (l : List Int) (c : Nat) (w : World) (hl : l.length ≤ 140737488355328) (__hlc : l.length ≤ c) (h : HoldsI w p l) :
    Calls Try.prog 57 #[.slice p l.length c, .func (.func 38) #[] #[]] w fun e w' => (∃ k : Int, e = .returned (.int .i64 k) ∧ (decide (0 ≤ k) = l.any beyond)) ∧ w = w' := by
  have H := Lib.hid h
  clear h
  go_enter Try.func57, Try.ntmps57
  go_wp2_with (fail)
  go_loop [8] (fun v => ∃ k : Nat, v = .int .i64 (k : Int) ∧ k ≤ l.length ∧ Hid ((l.take k).any beyond = false)) (fun v => l.length - (intOf v).toNat)
  case atStart => exact ⟨0, rfl, Nat.zero_le _, Lib.hid (by simp)⟩
  case round =>
    obtain ⟨k, rfl, hk, HK⟩ := hrel
    by_cases hlt : k < l.length
    · obtain ⟨b, off, rfl, hc⟩ := H.out (by omega)
      have c1 := hc k hlt
      clear hc
      have ht : (l.take (k + 1)).any beyond = (beyond (l.getD k 0)) := by
        rw [List.take_add_one, List.any_append, HK.out, List.getElem?_eq_getElem hlt, List.getD_eq_getElem?_getD, List.getElem?_eq_getElem hlt]
        simp
      have HT := Lib.hid ht
      clear ht
      generalize l.getD k 0 = x at *
      have HC := Lib.hid (fun W => closure_any x W)
      cases hb : beyond x
      · rw [hb] at HC
        go_wp2_with (go_at_call 38; refine (HC.out _).mono ?_; rintro e w' ⟨rfl, rfl⟩)
        go_round
        case rel => exact ⟨k + 1, by go_num, by omega, Lib.hid (HT.out.trans hb)⟩
        case measure => simp [intOf]; omega
      · rw [hb] at HC
        go_wp2_with (go_at_call 38; refine (HC.out _).mono ?_; rintro e w' ⟨rfl, rfl⟩)
        go_ret
        refine ⟨⟨_, rfl, ?_⟩, rfl⟩
        have h1 : l.any beyond = true := by
          rw [← List.take_append_drop (k + 1) l, List.any_append, HT.out, hb]; rfl
        rw [h1]; simp
    · go_wp2_with (fail)
      go_ret
      refine ⟨⟨_, rfl, ?_⟩, rfl⟩
      have h1 := HK.out
      rw [List.take_of_length_le (by omega)] at h1
      rw [h1]; rfl
theorem contains_any (p : Option Addr) (l : List Int) (c : Nat) (w : World) (hl : l.length ≤ 140737488355328) (hlc : l.length ≤ c) (h : HoldsI w p l) :
    Calls Try.prog 37 #[.slice p l.length c, .func (.func 38) #[] #[]] w fun e w' => e = .returned (.bool (l.any beyond)) ∧ w = w' := by
  have C := Lib.hid (indexFunc_any p l c w hl hlc h)
  have hl' : (l.length : Int) ≤ 140737488355328 := by omega
  clear hl hlc h
  go_enter Try.func37, Try.ntmps37
  go_wp2_with (go_at_call 57; refine (C.out).mono ?_; rintro e w' ⟨⟨k, rfl, hk⟩, rfl⟩)
  go_ret
  exact ⟨rfl, rfl⟩
def sizeP (l : List Int) : Nat := ((bitsL l).length + 7) / 8
theorem bitsL_take (l : List Int) (k : Nat) (hk : k < l.length) : bitsL (l.take (k + 1)) = bitsL (l.take k) ++ bitsV (l.getD k 0) := by
  unfold bitsL
  rw [List.take_add_one, List.flatMap_append, List.getElem?_eq_getElem hk, List.getD_eq_getElem?_getD, List.getElem?_eq_getElem hk]
  simp
theorem in_of_any {l : List Int} (h : l.any beyond = false) : ∀ v ∈ l, InB v := by
  intro v hv
  rw [List.any_eq_false] at h
  have := h v hv
  exact beyond_in (by simpa using this)
theorem getD_mem {l : List Int} {k : Nat} (hk : k < l.length) : l.getD k 0 ∈ l := by
  rw [List.getD_eq_getElem?_getD, List.getElem?_eq_getElem hk]
  exact List.getElem_mem hk
set_option maxHeartbeats 2000000 in
theorem size_any (p : Option Addr) (l : List Int) (c : Nat) (w : World) (hl : l.length ≤ 140737488355328) (_hlc : l.length ≤ c) (h : HoldsI w p l) (hin : ∀ v ∈ l, InB v) :
    Calls Try.prog 40 #[.slice p l.length c] w fun e w' => e = .returned (.int .i64 (sizeP l : Int)) ∧ w = w' := by
  have H := Lib.hid h
  have HI := Lib.hid hin
  have hb := Lib.hid (fun k => bitsL_length (l := l.take k) (fun v hv => hin v (List.mem_of_mem_take hv)))
  clear h hin
  go_enter Try.func40, Try.ntmps40
  go_wp2_with (fail)
  go_loop [3, 10] (fun a v => ∃ k : Nat, v = .int .i64 (k : Int) ∧ k ≤ l.length ∧ a = .int .i64 ((bitsL (l.take k)).length : Int)) (fun _ v => l.length - (intOf v).toNat)
  case atStart => exact ⟨0, rfl, Nat.zero_le _, rfl⟩
  case round =>
    obtain ⟨k, rfl, hk, rfl⟩ := hrel
    have hbk := (hb.out k).2
    have hlk : (l.take k).length ≤ k := List.length_take_le _ _
    obtain ⟨s, hs⟩ : ∃ s, (bitsL (l.take k)).length = s := ⟨_, rfl⟩
    rw [hs] at hbk ⊢
    have hs2 : (s : Int) ≤ 8725724278030336 := by omega
    clear hbk hlk
    by_cases hlt : k < l.length
    · obtain ⟨b, off, rfl, hc⟩ := H.out (by omega)
      have c1 := hc k hlt
      clear hc
      have hin := HI.out _ (getD_mem hlt)
      have hlen := bitsL_take l k hlt
      generalize l.getD k 0 = x at *
      obtain ⟨n, hN⟩ : ∃ n, rowN x = n := ⟨_, rfl⟩
      obtain ⟨d, hD⟩ : ∃ d, digN n = d := ⟨_, rfl⟩
      have hv := bitsV_length hin
      have h31 := (digN_31 hin).2
      have hn31 := rowN_small hin
      rw [hN, hD] at hv h31
      rw [hN] at hn31
      have HL := Lib.hid (show (bitsL (l.take (k + 1))).length = s + 2 * d by rw [hlen, List.length_append, hv, hs])
      have RO := Lib.hid (fun W => rowOf_any x hin W)
      rw [hN] at RO
      have DG := Lib.hid (fun W => digits_any n (by have : (2 : Nat) ^ 31 < 2 ^ 32 := by decide
                                                    omega) W)
      rw [hD] at DG
      generalize (if x < 0 then (1 : Int) else 0) = t at *
      clear hin hlen hN hD hv hn31 hs
      go_wp2_with (go_at_call 52; refine (RO.out _).mono ?_; rintro e w' ⟨rfl, rfl⟩)
      go_wp2_with (go_at_call 53; refine (DG.out _).mono ?_; rintro e w' ⟨rfl, rfl⟩)
      go_round
      case rel => exact ⟨k + 1, by go_num, by omega, by rw [HL.out]; go_num⟩
      case measure => simp [intOf]; omega
    · obtain rfl : k = l.length := by omega
      go_wp2_with (fail)
      go_ret
      refine ⟨ret_i ?_, rfl⟩
      rw [List.take_of_length_le (Nat.le_refl _)] at hs
      unfold sizeP
      rw [hs]
      omega
/-- What is wrong with a label. -/
def lastOdd (l : List Int) : Bool := decide (l.length = 0) || oddI (l.getD (l.length - 1) 0)
def checkP (l : List Int) : Int := if l.any beyond then 11 else if lastOdd l then (if 120 < sizeP l then 5 else 0) else 11
theorem checkP_ok {l : List Int} (h : checkP l = 0) : (∀ v ∈ l, InB v) ∧ lastOdd l = true ∧ sizeP l ≤ 120 := by
  unfold checkP at h
  split at h
  · cases h
  · rename_i h1
    split at h
    · rename_i h2
      split at h
      · cases h
      · exact ⟨in_of_any (by simpa using h1), h2, by omega⟩
    · cases h
theorem checkP_len {l : List Int} (h : checkP l = 0) : l.length ≤ 480 := by
  obtain ⟨h1, _, h3⟩ := checkP_ok h
  have := bitsL_length h1
  unfold sizeP at h3
  omega
set_option maxRecDepth 100000 in
set_option maxHeartbeats 2000000 in
theorem check_far (p : Option Addr) (l : List Int) (c : Nat) (w : World) (hl : l.length ≤ 140737488355328) (hlc : l.length ≤ c) (h : HoldsI w p l) (ha : l.any beyond = true) :
    Calls Try.prog 17 #[.slice p l.length c] w fun e w' => e = .returned (.int .i64 11) ∧ w = w' := by
  have C := Lib.hid (contains_any p l c w hl hlc h)
  rw [ha] at C
  have hl' : (l.length : Int) ≤ 140737488355328 := by omega
  clear hl hlc h ha
  go_enter Try.func17, Try.ntmps17
  go_wp2_with (go_at_call 37; refine (C.out).mono ?_; rintro e w' ⟨rfl, rfl⟩)
  go_ret
  exact ⟨rfl, rfl⟩
set_option maxRecDepth 100000 in
set_option maxHeartbeats 2000000 in
theorem check_none (p : Option Addr) (l : List Int) (c : Nat) (w : World) (hlc : l.length ≤ c) (h : HoldsI w p l) (h0 : l.length = 0) :
    Calls Try.prog 17 #[.slice p l.length c] w fun e w' => e = .returned (.int .i64 0) ∧ w = w' := by
  have C := Lib.hid (contains_any p l c w (by omega) hlc h)
  have e : l = [] := List.eq_nil_of_length_eq_zero h0
  have S := Lib.hid (size_any p l c w (by omega) hlc h (by rw [e]; simp))
  have hs : sizeP l = 0 := by rw [e]; rfl
  rw [hs, h0] at S
  rw [show l.any beyond = false by rw [e]; rfl, h0] at C
  rw [h0]
  clear hlc h h0 e hs
  go_enter Try.func17, Try.ntmps17
  go_wp2_with (go_at_call 37; refine (C.out).mono ?_; rintro e w' ⟨rfl, rfl⟩)
  go_wp2_with (go_at_call 40; refine (S.out).mono ?_; rintro e w' ⟨rfl, rfl⟩)
  go_ret
  exact ⟨rfl, rfl⟩
set_option maxRecDepth 100000 in
set_option maxHeartbeats 2000000 in
theorem check_some (p : Option Addr) (l : List Int) (c : Nat) (w : World) (hl : l.length ≤ 140737488355328) (hlc : l.length ≤ c) (h : HoldsI w p l) (ha : l.any beyond = false) (h0 : 0 < l.length) (o : Bool) (ho : oddI (l.getD (l.length - 1) 0) = o) :
    Calls Try.prog 17 #[.slice p l.length c] w fun e w' => e = .returned (.int .i64 (if o then (if 120 < sizeP l then 5 else 0) else 11)) ∧ w = w' := by
  have C := Lib.hid (contains_any p l c w hl hlc h)
  rw [ha] at C
  have S := Lib.hid (size_any p l c w hl hlc h (in_of_any ha))
  obtain ⟨b, off, rfl, hc⟩ := h (by omega)
  have c1 := hc (l.length - 1) (by omega)
  clear hc
  generalize l.getD (l.length - 1) 0 = x at *
  have O := Lib.hid (fun W => isOdd_any x W)
  rw [ho] at O
  obtain ⟨n, hn⟩ : ∃ n, l.length = n + 1 := ⟨l.length - 1, by omega⟩
  obtain ⟨s, hs⟩ : ∃ s, sizeP l = s := ⟨_, rfl⟩
  rw [hs] at S ⊢
  rw [hn] at S C c1 hl ⊢
  have hl' : (n : Int) + 1 ≤ 140737488355328 := by omega
  have e1 : n + 1 - 1 = n := by omega
  rw [e1] at c1
  have e2 : ((n + 1 : Nat) : Int) - 1 = (n : Int) := by omega
  have e3 : (0 : Int) < ((n + 1 : Nat) : Int) := by omega
  clear h hl hlc ha h0 ho hn hs e1
  cases o
  · go_enter Try.func17, Try.ntmps17
    go_wp2_with (fail)
    refine (C.out).mono ?_
    rintro e w' ⟨rfl, rfl⟩
    clear C
    go_wp2_with (fail)
    refine (O.out _).mono ?_
    rintro e w' ⟨rfl, rfl⟩
    clear O c1 e2 e3 hl'
    go_wp2_with (fail)
    go_ret
    exact ⟨rfl, rfl⟩
  · by_cases h5 : 120 < s
    · rw [if_pos h5]
      have h5' : (120 : Int) < (s : Int) := by omega
      clear h5
      go_enter Try.func17, Try.ntmps17
      go_wp2_with (fail)
      refine (C.out).mono ?_
      rintro e w' ⟨rfl, rfl⟩
      clear C
      go_wp2_with (fail)
      refine (O.out _).mono ?_
      rintro e w' ⟨rfl, rfl⟩
      clear O c1 e2 e3 hl'
      go_wp2_with (fail)
      refine (S.out).mono ?_
      rintro e w' ⟨rfl, rfl⟩
      clear S
      go_wp2_with (fail)
      go_ret
      exact ⟨rfl, rfl⟩
    · rw [if_neg h5]
      have h5' : ¬ (120 : Int) < (s : Int) := by omega
      clear h5
      go_enter Try.func17, Try.ntmps17
      go_wp2_with (fail)
      refine (C.out).mono ?_
      rintro e w' ⟨rfl, rfl⟩
      clear C
      go_wp2_with (fail)
      refine (O.out _).mono ?_
      rintro e w' ⟨rfl, rfl⟩
      clear O c1 e2 e3 hl'
      go_wp2_with (fail)
      refine (S.out).mono ?_
      rintro e w' ⟨rfl, rfl⟩
      clear S
      go_wp2_with (fail)
      go_ret
      exact ⟨rfl, rfl⟩
theorem check_any (p : Option Addr) (l : List Int) (c : Nat) (w : World) (hl : l.length ≤ 140737488355328) (hlc : l.length ≤ c) (h : HoldsI w p l) :
    Calls Try.prog 17 #[.slice p l.length c] w fun e w' => e = .returned (.int .i64 (checkP l)) ∧ w = w' := by
  unfold checkP
  cases ha : l.any beyond
  · simp only [Bool.false_eq_true, if_false]
    rcases Nat.eq_zero_or_pos l.length with h0 | h0
    · have hs : sizeP l = 0 := by rw [List.eq_nil_of_length_eq_zero h0]; rfl
      rw [if_pos (by unfold lastOdd; rw [h0]; rfl), hs]
      exact check_none p l c w hlc h h0
    · have e : lastOdd l = oddI (l.getD (l.length - 1) 0) := by
        unfold lastOdd
        rw [decide_eq_false (by omega)]; rfl
      rw [e]
      exact check_some p l c w hl hlc h ha h0 _ rfl
  · simp only [if_true]
    exact check_far p l c w hl hlc h ha
end Go.Proofs.Ytaiiigknlnhdgaa
