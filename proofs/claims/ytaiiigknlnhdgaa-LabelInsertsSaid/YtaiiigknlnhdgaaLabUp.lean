/- Proved here: what label.Compare, Level, Up, Above answer. -/
import Derived.Test.YtaiiigknlnhdgaaLabRead3
import Derived.BigRegion
import Derived.Lib.MinMax
namespace Go.Proofs.Ytaiiigknlnhdgaa
open Go.RowKit

set_option maxHeartbeats 2000000 in
theorem equalI_any (p q : Option Addr) (l m : List Int) (c d : Nat) (w : World) (hl : l.length ≤ 140737488355328) (hm : m.length ≤ 140737488355328) (__hlc : l.length ≤ c) (_hmd : m.length ≤ d) (h1 : HoldsI w p l) (h2 : HoldsI w q m) :
    Calls Try.prog 42 #[.slice p l.length c, .slice q m.length d] w fun e w' => e = .returned (.bool (decide (l = m))) ∧ Below w.heap.size w w' := by
  have H1 := Lib.hid h1
  have H2 := Lib.hid h2
  clear h1 h2
  by_cases hlen : l.length = m.length
  · obtain ⟨n, hn⟩ : ∃ n, m.length = n := ⟨_, rfl⟩
    have HL := Lib.hid (And.intro (hlen.trans hn) hn)
    rw [hlen, hn]
    have hnn : (n : Int) ≤ 140737488355328 := by omega
    clear hl hm hlen hn
    go_enter Try.func42, Try.ntmps42
    go_wp2_with (fail)
    go_loopw [13] (fun v wr => ∃ k : Nat, v = .int .i64 (k : Int) ∧ k ≤ n ∧ Hid (l.take k = m.take k ∧ Below w.heap.size w wr)) (fun v _ => n - (intOf v).toNat)
    case atStart => exact ⟨0, rfl, Nat.zero_le _, Lib.hid ⟨by simp, Below.refl _ _⟩⟩
    case round =>
      obtain ⟨k, rfl, hk, HK⟩ := hrel
      by_cases hlt : k < n
      · obtain ⟨b, off, rfl, hc⟩ := (H1.out.below HK.out.2) (by have := HL.out.1; omega)
        have c1 := hc k (by have := HL.out.1; omega)
        clear hc
        obtain ⟨b2, off2, rfl, hc⟩ := (H2.out.below HK.out.2) (by have := HL.out.2; omega)
        have c2 := hc k (by have := HL.out.2; omega)
        clear hc
        obtain ⟨x, hx⟩ : ∃ x, l.getD k 0 = x := ⟨_, rfl⟩
        obtain ⟨y, hy⟩ : ∃ y, m.getD k 0 = y := ⟨_, rfl⟩
        rw [hx] at c1
        rw [hy] at c2
        have HX := Lib.hid (And.intro hx hy)
        clear hx hy
        have hlt' : (k : Int) < (n : Int) := by omega
        by_cases hxy : x = y
        · have hq : (x != y) = false := by rw [hxy]; simp
          have HE := Lib.hid hxy
          clear hxy hk
          go_wp2_with (fail)
          go_region
          go_wp2_with (fail)
          go_round
          case rel =>
            refine ⟨k + 1, by go_num, by omega, Lib.hid ⟨?_, HK.out.2.drew⟩⟩
            obtain ⟨e1, e2⟩ := HX.out
            have hl := HL.out
            rw [List.take_add_one, List.take_add_one, HK.out.1, List.getElem?_eq_getElem (by omega), List.getElem?_eq_getElem (by omega)]
            rw [List.getD_eq_getElem?_getD, List.getElem?_eq_getElem (by omega)] at e1 e2
            simp only [Option.getD_some] at e1 e2
            rw [e1, e2, HE.out]
          case measure => simp [intOf]; omega
        · have hq : (x != y) = true := by rw [bne_iff_ne]; exact hxy
          have HE := Lib.hid hxy
          clear hxy hk
          go_wp2_with (fail)
          go_region
          go_wp2_with (fail)
          go_ret
          refine ⟨ret_b ?_, HK.out.2.drew⟩
          symm
          rw [decide_eq_false_iff_not]
          intro e
          obtain ⟨e1, e2⟩ := HX.out
          rw [e, e2] at e1
          exact HE.out e1.symm
      · obtain rfl : k = n := by omega
        go_wp2_with (fail)
        go_ret
        refine ⟨ret_b ?_, HK.out.2⟩
        symm
        rw [decide_eq_true_iff]
        have h1 := HK.out.1
        rw [List.take_of_length_le (by rw [HL.out.1]; exact Nat.le_refl _), List.take_of_length_le (by rw [HL.out.2]; exact Nat.le_refl _)] at h1
        exact h1
  · have hq : ((l.length : Int) != (m.length : Int)) = true := by rw [bne_iff_ne]; omega
    have HE := Lib.hid hlen
    have hl' : (l.length : Int) ≤ 140737488355328 := by omega
    have hm' : (m.length : Int) ≤ 140737488355328 := by omega
    clear hl hm hlen
    go_enter Try.func42, Try.ntmps42
    go_wp2_with (fail)
    go_ret
    refine ⟨ret_b ?_, Below.refl _ _⟩
    symm
    rw [decide_eq_false_iff_not]
    exact fun e => HE.out (by rw [e])
theorem compare_any (p q : Option Addr) (l m : List Int) (c d : Nat) (w : World) (hl : l.length ≤ 140737488355328) (hm : m.length ≤ 140737488355328) (hlc : l.length ≤ c) (hmd : m.length ≤ d) (h1 : HoldsI w p l) (h2 : HoldsI w q m) :
    Calls Try.prog 20 #[.slice p l.length c, .slice q m.length d] w fun e w' => e = .returned (.int .i64 (cmpN l m)) ∧ w = w' := by
  have C := Lib.hid (cmpList_any p q l m c d w hl hm hlc hmd h1 h2)
  generalize cmpN l m = x at *
  clear hl hm hlc hmd h1 h2
  go_enter Try.func20, Try.ntmps20
  go_wp2_with (fail)
  refine (C.out).mono ?_
  rintro e w' ⟨rfl, rfl⟩
  go_wp2_with (fail)
  go_ret
  exact ⟨rfl, rfl⟩
/-- How many levels. -/
def levP (l : List Int) : Nat := (l.filter oddI).length
set_option maxHeartbeats 2000000 in
theorem level_any (p : Option Addr) (l : List Int) (c : Nat) (w : World) (hl : l.length ≤ 140737488355328) (_hlc : l.length ≤ c) (h : HoldsI w p l) :
    Calls Try.prog 24 #[.slice p l.length c] w fun e w' => e = .returned (.int .i64 (levP l : Int)) ∧ w = w' := by
  have H := Lib.hid h
  have hl' : (l.length : Int) ≤ 140737488355328 := by omega
  have HL := Lib.hid hl
  clear h hl _hlc
  go_enter Try.func24, Try.ntmps24
  go_wp2_with (fail)
  go_loop [3, 8] (fun a v => ∃ k : Nat, v = .int .i64 (k : Int) ∧ k ≤ l.length ∧ a = .int .i64 (levP (l.take k) : Int)) (fun _ v => l.length - (intOf v).toNat)
  case atStart => exact ⟨0, rfl, Nat.zero_le _, rfl⟩
  case round =>
    obtain ⟨k, rfl, hk, rfl⟩ := hrel
    have hlv : levP (l.take k) ≤ k := Nat.le_trans (List.length_filter_le _ _) (List.length_take_le _ _)
    by_cases hlt : k < l.length
    · obtain ⟨b, off, rfl, hc⟩ := H.out (by omega)
      have c1 := hc k hlt
      clear hc
      have hst : levP (l.take (k + 1)) = levP (l.take k) + (if oddI (l.getD k 0) then 1 else 0) := by
        unfold levP
        rw [List.take_add_one, List.filter_append, List.length_append, List.getElem?_eq_getElem hlt, List.getD_eq_getElem?_getD, List.getElem?_eq_getElem hlt]
        simp only [Option.toList_some, Option.getD_some, List.filter_cons, List.filter_nil]
        split <;> simp
      generalize l.getD k 0 = x at *
      generalize levP (l.take k) = z at *
      have hzz : (z : Int) ≤ 140737488355328 := by have := HL.out; omega
      have O := Lib.hid (fun W => isOdd_any x W)
      have HS := Lib.hid hst
      clear hlv hst
      cases ho : oddI x
      · rw [ho] at O
        go_wp2_with (fail)
        refine (O.out _).mono ?_
        rintro e w' ⟨rfl, rfl⟩
        go_wp2_with (fail)
        go_round
        case rel => exact ⟨k + 1, by go_num, by omega, by rw [HS.out, ho]; rfl⟩
        case measure => simp [intOf]; omega
      · rw [ho] at O
        go_wp2_with (fail)
        refine (O.out _).mono ?_
        rintro e w' ⟨rfl, rfl⟩
        go_wp2_with (fail)
        go_round
        case rel => exact ⟨k + 1, by go_num, by omega, by rw [HS.out, ho]; go_num⟩
        case measure => simp [intOf]; omega
    · obtain rfl : k = l.length := by omega
      go_wp2_with (fail)
      go_ret
      exact ⟨ret_i (by first | rfl | rw [List.take_of_length_le (Nat.le_refl _)]), rfl⟩
/-! ## the parent -/
/-- Where the last level begins that ends at or ahead of a place. -/
def upN (l : List Int) : Nat → Nat
  | 0 => 0
  | k + 1 => if oddI (l.getD k 0) then k + 1 else upN l k
def upP (l : List Int) : List Int := l.take (upN l (l.length - 1))
theorem upN_le (l : List Int) : ∀ k, upN l k ≤ k
  | 0 => Nat.le_refl _
  | k + 1 => by
    have := upN_le l k
    unfold upN; split <;> omega
/-- 'append([]int{}, src...)': a new row of the call's own that holds src. -/
theorem appendI_first2 {w : World} {l : List Int} {a : Addr} {c : Nat} (hp : HoldsI w (some a) l) (hsz : l.length * 8 ≤ 140737488355328) :
    ∃ q cap w', (∀ ty, (Builtin.append_ #[22, 22] ty #[.slice (some ⟨w.heap.size, 0, none⟩) 0 0, .slice (some a) l.length c]).run Try.prog (w.alloc (.cells #[] 3)) = .ok (.slice (some ⟨q, 0, none⟩) l.length cap) w') ∧
      OwnI w' w.heap.size (some ⟨q, 0, none⟩) cap l ∧ Below w.heap.size w w' ∧ w.heap.size < w'.heap.size := by
  have hb0 : Below w.heap.size w (w.alloc (.cells #[] 3)) := (Below.refl _ _).alloc (Nat.le_refl _) _
  have hp' := hp.below hb0
  obtain ⟨i0, hi, hz0, hz1, hz2⟩ := info_parts infoInt
  have hown : (w.alloc (.cells #[] 3)).ownsRow w.heap.size 3 1 (.slice (some ⟨w.heap.size, 0, none⟩) 0 0) 0 (intV []) :=
    World.ownsRow_lit w #[] 0 (Nat.le_refl _) (by unfold maxLen; omega) rfl
  have hcells : ∀ j u, (intV l)[j]? = some u → (w.alloc (.cells #[] 3)).cell? (a.add j) = some u := by
    intro j u hu
    have hj : j < l.length := by
      have := (List.getElem?_eq_some_iff.1 hu).1
      rwa [intV_length] at this
    obtain ⟨b, off, e, hc⟩ := hp' (by omega)
    obtain rfl := Option.some.inj e
    have ha : (⟨b, off, none⟩ : Addr).add j = ⟨b, off + j, none⟩ := by unfold Addr.add; split <;> simp_all
    rw [ha, hc j hj, ← hu, intV_get l j hj]
  have hs : (w.alloc (.cells #[] 3)).heap.size = w.heap.size + 1 := by simp
  obtain ⟨v', w', hrun, hown', hgrow, hne⟩ := run_append_own (P := Try.prog) (w := w.alloc (.cells #[] 3)) w.heap.size 22 22 3 i0 (.int .i64 0) 1 8 Try.underlying22 hi hz0 hz1 hz2 rfl (by decide) _ 0 (intV []) hown a l.length c (intV l) (by rw [intV_length, Nat.mul_one]) hcells (intV_one l) (by unfold maxLen; omega) (by omega) (by omega)
  have hgrow2 : (w.alloc (.cells #[] 3)).grownBy w' (some w.heap.size) := hgrow
  have hv : v' ≠ .slice none 0 0 := fun e => by
    have := hne.1 e
    cases this.1
  rw [show intV [] ++ intV l = intV l from rfl, Nat.zero_add] at hown'
  rcases hown'.2 with ⟨rfl, _⟩ | ⟨q, cap, cur, rfl, hb, hh, hc, _, _⟩
  · exact absurd rfl hv
  · refine ⟨q, cap, w', fun ty => ?_, ⟨hown', fun e => (by cases e), hc⟩, hb0.grown hgrow2 (by omega) (fun k e => by injection e with e; omega), ?_⟩
    · rw [← hrun]; rfl
    · have := hgrow.size; omega
def ClonePost (w : World) (l : List Int) (e : Ending) (w' : World) : Prop := ∃ q cap, e = .returned (.slice q l.length cap) ∧ OwnI w' w.heap.size q cap l ∧ Below w.heap.size w w'
set_option maxRecDepth 100000 in
set_option maxHeartbeats 1000000 in
theorem clone2_any (p : Option Addr) (l : List Int) (c : Nat) (w : World) (hp : HoldsI w p l) (hn : p = none → c = 0) (hsz : l.length * 8 ≤ 140737488355328) :
    Calls Try.prog 43 #[.slice p l.length c] w (ClonePost w l) := by
  cases p with
  | none =>
    have h0 : l.length = 0 := by
      rcases Nat.eq_zero_or_pos l.length with h | h
      · exact h
      · obtain ⟨_, _, e, _⟩ := hp h; cases e
    obtain rfl : l = [] := List.eq_nil_of_length_eq_zero h0
    rw [hn rfl]
    refine (cloneI_none w).mono ?_
    rintro e w' ⟨rfl, rfl⟩
    exact ⟨none, 0, rfl, OwnI.nil _ _, Below.refl _ _⟩
  | some a =>
    obtain ⟨q, cap, w', hrun, h1, h2, -⟩ := appendI_first2 (c := c) hp hsz
    have P := Lib.hid (show ClonePost w l (Ending.returned (.slice (some ⟨q, 0, none⟩) l.length cap)) w' from ⟨_, cap, rfl, h1, h2⟩)
    have HR := Lib.hid hrun
    have hnil := fun (W : World) => Lib.run_eql_slice_nil (P := Try.prog) W 22 3 (some a) l.length c 0 0 Try.underlying22
    clear hrun h1 h2 hp
    go_enter Try.func43, Try.ntmps43
    go_wp2_with (at_builtin; refine t_append_eq rfl _ _ _ rfl _ _ _ _ rfl rfl HR.out ?_)
    go_ret
    exact P.out
set_option maxRecDepth 100000 in
set_option maxHeartbeats 2000000 in
theorem up_any (p : Option Addr) (l : List Int) (c : Nat) (w : World) (hsz : l.length * 8 ≤ 140737488355328) (hlc : l.length ≤ c) (h : HoldsI w p l) (hn : p = none → c = 0) :
    Calls Try.prog 22 #[.slice p l.length c] w (ClonePost w (upP l)) := by
  obtain ⟨u, hu⟩ : ∃ u, upN l (l.length - 1) = u := ⟨_, rfl⟩
  have hul : u ≤ l.length := by have := upN_le l (l.length - 1); omega
  have htl : (l.take u).length = u := by rw [List.length_take]; omega
  have C := Lib.hid (clone2_any p (l.take u) c w (h.take u) hn (by rw [htl]; omega))
  unfold upP
  rw [hu]
  rw [htl] at C
  obtain ⟨L2, hL2⟩ : ∃ L2, l.take u = L2 := ⟨_, rfl⟩
  rw [hL2] at C ⊢
  have H := Lib.hid h
  have hl' : (l.length : Int) ≤ 17592186044416 := by omega
  have HU := Lib.hid hu
  have hc' : (l.length : Int) ≤ (c : Int) := by omega
  obtain ⟨n1, hn1⟩ : ∃ n1, l.length - 1 = n1 := ⟨_, rfl⟩
  have hmax : max ((l.length : Int) - 1) 0 = (n1 : Int) := by omega
  have hn2 : n1 ≤ l.length := by omega
  rw [hn1] at HU
  clear hsz hlc h hn hul htl hu hL2
  go_enter Try.func22, Try.ntmps22
  go_wp2_with (fail)
  go_loop [3] (fun v => ∃ k : Nat, v = .int .i64 (k : Int) ∧ k ≤ n1 ∧ Hid (upN l k = u)) (fun v => (intOf v).toNat)
  case atStart => exact ⟨n1, rfl, Nat.le_refl _, HU⟩
  case round =>
    obtain ⟨k, rfl, hk, HK⟩ := hrel
    have hkl : (k : Int) ≤ (l.length : Int) := by omega
    have hkc : (k : Int) ≤ (c : Int) := by omega
    have hkb : (k : Int) ≤ 17592186044416 := by omega
    cases k with
    | zero =>
      have hu0 : 0 = u := HK.out
      subst hu0
      go_wp2_with (fail)
      refine (C.out).mono ?_
      rintro e w' hpost
      obtain ⟨q, cap, rfl, ho, hb⟩ := hpost
      have HP := Lib.hid (And.intro ho hb)
      clear ho hb
      go_wp2_with (fail)
      go_ret
      exact ⟨q, cap, rfl, HP.out.1, HP.out.2⟩
    | succ k =>
      obtain ⟨b, off, rfl, hc⟩ := H.out (by omega)
      have c1 := hc k (by omega)
      clear hc
      have hst : upN l (k + 1) = if oddI (l.getD k 0) then k + 1 else upN l k := rfl
      rw [HK.out] at hst
      generalize l.getD k 0 = x at *
      have O := Lib.hid (fun W => isOdd_any x W)
      have e1 : ((k + 1 : Nat) : Int) - 1 = (k : Int) := by omega
      have e2 : (0 : Int) < ((k + 1 : Nat) : Int) := by omega
      cases ho : oddI x
      · rw [ho] at O hst
        have HS := Lib.hid hst
        clear hst hmax
        go_wp2_with (fail)
        refine (O.out _).mono ?_
        rintro e w' ⟨rfl, rfl⟩
        go_wp2_with (fail)
        go_round
        case rel => exact ⟨k, by go_num, by omega, Lib.hid (by simpa using HS.out.symm)⟩
        case measure => simp [intOf]
      · rw [ho] at O hst
        simp only [if_true] at hst
        subst hst
        clear hmax
        go_wp2_with (fail)
        refine (O.out _).mono ?_
        rintro e w' ⟨rfl, rfl⟩
        go_wp2_with (fail)
        refine (C.out).mono ?_
        rintro e w' hpost
        obtain ⟨q, cap, rfl, ho, hb⟩ := hpost
        have HP := Lib.hid (And.intro ho hb)
        clear ho hb
        go_wp2_with (fail)
        go_ret
        exact ⟨q, cap, rfl, HP.out.1, HP.out.2⟩
/-! ## above -/
def aboveP (a b : List Int) : Bool := decide (a.length < b.length) && decide (b.take a.length = a)
set_option maxRecDepth 100000 in
set_option maxHeartbeats 2000000 in
theorem above_any (p q : Option Addr) (l m : List Int) (c d : Nat) (w : World) (hl : l.length ≤ 140737488355328) (hm : m.length ≤ 140737488355328) (hlc : l.length ≤ c) (hmd : m.length ≤ d) (h1 : HoldsI w p l) (h2 : HoldsI w q m) :
    Calls Try.prog 21 #[.slice p l.length c, .slice q m.length d] w fun e w' => e = .returned (.bool (aboveP l m)) ∧ Below w.heap.size w w' := by
  unfold aboveP
  by_cases hlt : l.length < m.length
  · rw [decide_eq_true hlt, Bool.true_and]
    have htk : (m.take l.length).length = l.length := by rw [List.length_take]; omega
    have E := Lib.hid (equalI_any q p (m.take l.length) l d c w (by omega) hl (by omega) hlc (h2.take _) h1)
    rw [htk] at E
    have g1 : (l.length : Int) < (m.length : Int) := by omega
    have g2 : (l.length : Int) ≤ (d : Int) := by omega
    have g3 : (m.length : Int) ≤ 140737488355328 := by omega
    have g4 : (l.length : Int) ≤ 140737488355328 := by omega
    clear hl hm hlc hmd h1 h2 hlt htk
    go_enter Try.func21, Try.ntmps21
    go_wp2_with (fail)
    refine (E.out).mono ?_
    rintro e w' ⟨rfl, hb⟩
    have HB := Lib.hid hb
    clear hb
    go_wp2_with (fail)
    go_ret
    exact ⟨rfl, HB.out⟩
  · rw [decide_eq_false hlt, Bool.false_and]
    have g1 : ¬ (l.length : Int) < (m.length : Int) := by omega
    have g3 : (m.length : Int) ≤ 140737488355328 := by omega
    have g4 : (l.length : Int) ≤ 140737488355328 := by omega
    clear hl hm hlc hmd h1 h2 hlt
    go_enter Try.func21, Try.ntmps21
    go_wp2_with (fail)
    go_ret
    exact ⟨rfl, Below.refl _ _⟩
end Go.Proofs.Ytaiiigknlnhdgaa
