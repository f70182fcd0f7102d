/- Proved here: what the document's calls on labels answer that need no bytes: which is odd, Compare, Level, Up, Above. -/
import Derived.Test.YtaiiigknlnhdgaaLabSame
namespace Go.Proofs.Ytaiiigknlnhdgaa
open Go.RowKit

theorem tmod_odd (x : Int) : (x.tmod 2 != 0) = oddI x := by
  have h : x.tmod 2 = 0 ↔ x % 2 = 0 := by
    rw [← Int.dvd_iff_emod_eq_zero, ← Int.dvd_iff_tmod_eq_zero]
  cases ho : oddI x
  · rw [oddI_not] at ho
    rw [h.2 ho]; rfl
  · rw [oddI_iff] at ho
    rw [bne_iff_ne]
    intro e
    have := h.1 e
    omega
theorem rodd_any (x : Int) (w : World) : Calls Try.prog 31 #[.int .i64 x] w fun e w' => e = .returned (.bool (oddI x)) ∧ w = w' := by
  go_enter Try.func31, Try.ntmps31
  go_wp2_with (fail)
  go_ret
  exact ⟨ret_b (tmod_odd x), rfl⟩
theorem appendI_lit {w : World} {l : List Int} {p : Option Addr} {c : Nat} (hp : HoldsI w p l) (hn : p = none → c = 0) (hsz : l.length * 8 ≤ 140737488355328) :
    ∃ q cap w', (∀ ty, (Builtin.append_ #[22, 22] ty #[.slice (some ⟨w.heap.size, 0, none⟩) 0 0, .slice p l.length c]).run Try.prog (w.alloc (.cells #[] 3)) = .ok (.slice q l.length cap) w') ∧
      OwnI w' w.heap.size q cap l ∧ Below w.heap.size w w' := by
  have hb0 : Below w.heap.size w (w.alloc (.cells #[] 3)) := (Below.refl _ _).alloc (Nat.le_refl _) _
  have hown : OwnI (w.alloc (.cells #[] 3)) w.heap.size (some ⟨w.heap.size, 0, none⟩) 0 [] := ownI_new w [] (by simp)
  obtain ⟨q, cap, w', h1, h2, h3⟩ := appendI_list hown (hp.below hb0) hn (by simp) (by simpa using hsz)
  refine ⟨q, cap, w', fun ty => ?_, by simpa using h2, hb0.grown h3 (by simp) (fun k e => by simp [Value.ownBlock] at e; omega)⟩
  have := h1 ty
  simpa using this
theorem OwnI.take {w : World} {B : Nat} {q : Option Addr} {c : Nat} {l : List Int} (h : OwnI w B q c l) {k : Nat} (hk : k ≤ l.length) : OwnI w B q c (l.take k) := by
  have htl : (l.take k).length = k := by rw [List.length_take]; omega
  refine ⟨?_, h.2.1, by have := h.2.2; omega⟩
  rw [htl]
  have hown := h.1
  refine ⟨by simp [intV]; omega, ?_⟩
  rcases hown.2 with ⟨e, h1⟩ | ⟨g, cap, cur, e, hb, hh, hc, h1, h2, h3⟩
  · left
    injection e with e1 e2 e3
    subst e1 e3
    have : k = 0 := by omega
    subst this
    exact ⟨rfl, rfl⟩
  · right
    injection e with e1 e2 e3
    subst e1 e3
    refine ⟨g, c, cur, rfl, hb, hh, by omega, h1, h2, ?_⟩
    have e4 : intV (l.take k) = (intV l).take k := by simp [intV]
    rw [e4, ← h3, List.take_take]
    congr 1
    omega
set_option maxHeartbeats 2000000 in
theorem rlevel_any (p : Option Addr) (l : List Int) (c : Nat) (w : World) (hl : l.length ≤ 140737488355328) (_hlc : l.length ≤ c) (h : HoldsI w p l) :
    Calls Try.prog 25 #[.slice p l.length c] w fun e w' => e = .returned (.int .i64 (levP l : Int)) ∧ w = w' := by
  have H := Lib.hid h
  have hl' : (l.length : Int) ≤ 140737488355328 := by omega
  have HL := Lib.hid hl
  clear h hl
  go_enter Try.func25, Try.ntmps25
  go_wp2_with (fail)
  go_loop [3, 8] (fun a v => ∃ k : Nat, v = .int .i64 (k : Int) ∧ k ≤ l.length ∧ a = .int .i64 (levP (l.take k) : Int)) (fun _ v => l.length - (intOf v).toNat)
  case atStart => exact ⟨0, rfl, Nat.zero_le _, rfl⟩
  case round =>
    obtain ⟨k, rfl, hk, rfl⟩ := hrel
    have hlv : levP (l.take k) ≤ k := Nat.le_trans (List.length_filter_le _ _) (List.length_take_le _ _)
    by_cases hlt : k < l.length
    · obtain ⟨b, off, rfl, hc⟩ := H.out (by omega)
      have c1 := hc k hlt
      clear hc
      have hst : levP (l.take (k + 1)) = levP (l.take k) + (if oddI (l.getD k 0) then 1 else 0) := by
        unfold levP
        rw [List.take_add_one, List.filter_append, List.length_append, List.getElem?_eq_getElem hlt, List.getD_eq_getElem?_getD, List.getElem?_eq_getElem hlt]
        simp only [Option.toList_some, Option.getD_some, List.filter_cons, List.filter_nil]
        split <;> simp
      generalize l.getD k 0 = x at *
      generalize levP (l.take k) = z at *
      have hzz : (z : Int) ≤ 140737488355328 := by have := HL.out; omega
      have O := Lib.hid (fun W => rodd_any x W)
      have HS := Lib.hid hst
      clear hlv hst
      cases ho : oddI x
      · rw [ho] at O
        go_wp2_with (fail)
        refine (O.out _).mono ?_
        rintro e w' ⟨rfl, rfl⟩
        go_wp2_with (fail)
        go_round
        case rel => exact ⟨k + 1, by go_num, by omega, by rw [HS.out, ho]; rfl⟩
        case measure => simp [intOf]; omega
      · rw [ho] at O
        go_wp2_with (fail)
        refine (O.out _).mono ?_
        rintro e w' ⟨rfl, rfl⟩
        go_wp2_with (fail)
        go_round
        case rel => exact ⟨k + 1, by go_num, by omega, by rw [HS.out, ho]; go_num⟩
        case measure => simp [intOf]; omega
    · obtain rfl : k = l.length := by omega
      go_wp2_with (fail)
      go_ret
      exact ⟨ret_i (by first | rfl | rw [List.take_of_length_le (Nat.le_refl _)]), rfl⟩
set_option maxHeartbeats 4000000 in
theorem rcompare_any (p q : Option Addr) (l m : List Int) (c d : Nat) (w : World) (hl : l.length ≤ 140737488355328) (hm : m.length ≤ 140737488355328) (_hlc : l.length ≤ c) (_hmd : m.length ≤ d) (h1 : HoldsI w p l) (h2 : HoldsI w q m) :
    Calls Try.prog 23 #[.slice p l.length c, .slice q m.length d] w fun e w' => e = .returned (.int .i64 (cmpN l m)) ∧ Below w.heap.size w w' := by
  obtain ⟨ANS, hA⟩ : ∃ ANS, cmpN l m = ANS := ⟨_, rfl⟩
  rw [hA]
  have HA := Lib.hid hA
  have H1 := Lib.hid h1
  have H2 := Lib.hid h2
  have gl : (l.length : Int) ≤ 140737488355328 := by omega
  have gm : (m.length : Int) ≤ 140737488355328 := by omega
  clear hA h1 h2 hl hm
  go_enter Try.func23, Try.ntmps23
  go_wp2_with (fail)
  go_loopw [5] (fun v wr => ∃ k : Nat, v = .int .i64 (k : Int) ∧ k ≤ l.length ∧ k ≤ m.length ∧ Hid (cmpN (l.drop k) (m.drop k) = ANS ∧ Below w.heap.size w wr)) (fun v _ => l.length - (intOf v).toNat)
  case atStart => exact ⟨0, rfl, Nat.zero_le _, Nat.zero_le _, Lib.hid ⟨HA.out, Below.refl _ _⟩⟩
  case round =>
    obtain ⟨k, rfl, hk1, hk2, HK⟩ := hrel
    have HB := Lib.hid HK.out.2
    have hcm := HK.out.1
    by_cases hlt : k < l.length
    · obtain ⟨b, off, rfl, hc⟩ := (H1.out.below HB.out) (by omega)
      have c1 := hc k hlt
      clear hc
      by_cases hmt : k < m.length
      · obtain ⟨b2, off2, rfl, hc⟩ := (H2.out.below HB.out) (by omega)
        have c2 := hc k hmt
        clear hc
        rw [cmpN_at hlt hmt] at hcm
        generalize l.getD k 0 = x at *
        generalize m.getD k 0 = y at *
        have c1' : wr.drew.cell? ⟨b, off + k, none⟩ = some (.int .i64 x) := c1
        have c2' : wr.drew.cell? ⟨b2, off2 + k, none⟩ = some (.int .i64 y) := c2
        have HC := Lib.hid hcm
        have kl : (k : Int) < (l.length : Int) := by omega
        have km : (k : Int) < (m.length : Int) := by omega
        have HKL := Lib.hid (And.intro hlt hmt)
        clear hcm hk1 hk2 hlt hmt HK
        rcases Int.lt_trichotomy x y with h | h | h
        · have HX := Lib.hid h
          go_wp2_with (fail)
          go_region
          go_wp2_with (fail)
          go_ret
          refine ⟨ret_i ?_, HB.out.drew⟩
          have e := HC.out
          have hc : cmpI x y = -1 := by unfold cmpI; rw [if_pos HX.out]
          unfold lexI at e
          rw [hc, if_neg (by decide)] at e
          exact e
        · have HX := Lib.hid h
          have n1 : ¬ x < y := by omega
          have n2 : ¬ y < x := by omega
          clear h
          go_wp2_with (fail)
          go_region
          go_wp2_with (fail)
          go_region
          go_wp2_with (fail)
          go_round
          case rel =>
            have e := HC.out
            obtain rfl := HX.out
            have hc : cmpI x x = 0 := by simp [cmpI]
            unfold lexI at e
            rw [hc, if_pos rfl] at e
            exact ⟨k + 1, by go_num, by have := HKL.out; omega, by have := HKL.out; omega, Lib.hid ⟨e, HB.out.drew.drew⟩⟩
          case measure => have := HKL.out; simp [intOf]; omega
        · have HX := Lib.hid h
          have n1 : ¬ x < y := by omega
          go_wp2_with (fail)
          go_region
          go_wp2_with (fail)
          go_region
          go_wp2_with (fail)
          go_ret
          refine ⟨ret_i ?_, HB.out.drew.drew⟩
          have e := HC.out
          have hx := HX.out
          have hc : cmpI x y = 1 := by unfold cmpI; rw [if_neg (by omega), if_pos hx]
          unfold lexI at e
          rw [hc, if_neg (by decide)] at e
          exact e
      · rw [cmpN_over hlt hmt] at hcm
        subst hcm
        obtain rfl : k = m.length := by omega
        have kl : (m.length : Int) < (l.length : Int) := by omega
        clear hk1 hk2 hlt hmt HK HA
        go_wp2_with (fail)
        go_ret
        exact ⟨rfl, HB.out⟩
    · rw [cmpN_end hlt] at hcm
      obtain rfl : k = l.length := by omega
      by_cases hmt : l.length < m.length
      · rw [if_pos hmt] at hcm
        subst hcm
        have kl : (l.length : Int) < (m.length : Int) := by omega
        clear hk1 hk2 hlt hmt HK HA
        go_wp2_with (fail)
        go_ret
        exact ⟨rfl, HB.out⟩
      · rw [if_neg hmt] at hcm
        subst hcm
        have kl : ¬ (l.length : Int) < (m.length : Int) := by omega
        have km : ¬ (m.length : Int) < (l.length : Int) := by omega
        clear hk1 hk2 hlt hmt HK HA
        go_wp2_with (fail)
        go_ret
        exact ⟨rfl, HB.out⟩
set_option maxHeartbeats 4000000 in
theorem rabove_any (p q : Option Addr) (l m : List Int) (c d : Nat) (w : World) (hl : l.length ≤ 140737488355328) (hm : m.length ≤ 140737488355328) (_hlc : l.length ≤ c) (_hmd : m.length ≤ d) (h1 : HoldsI w p l) (h2 : HoldsI w q m) :
    Calls Try.prog 27 #[.slice p l.length c, .slice q m.length d] w fun e w' => e = .returned (.bool (aboveP l m)) ∧ Below w.heap.size w w' := by
  have H1 := Lib.hid h1
  have H2 := Lib.hid h2
  have gl : (l.length : Int) ≤ 140737488355328 := by omega
  have gm : (m.length : Int) ≤ 140737488355328 := by omega
  clear h1 h2 hl hm
  unfold aboveP
  by_cases hlm : l.length < m.length
  · rw [decide_eq_true hlm, Bool.true_and]
    have HL := Lib.hid hlm
    have g1 : ¬ (m.length : Int) ≤ (l.length : Int) := by omega
    clear hlm
    go_enter Try.func27, Try.ntmps27
    go_wp2_with (fail)
    go_loopw [13] (fun v wr => ∃ k : Nat, v = .int .i64 (k : Int) ∧ k ≤ l.length ∧ Hid (l.take k = m.take k ∧ Below w.heap.size w wr)) (fun v _ => l.length - (intOf v).toNat)
    case atStart => exact ⟨0, rfl, Nat.zero_le _, Lib.hid ⟨by simp, Below.refl _ _⟩⟩
    case round =>
      obtain ⟨k, rfl, hk, HK⟩ := hrel
      by_cases hlt : k < l.length
      · have hkm : k < m.length := by have := HL.out; omega
        obtain ⟨b, off, rfl, hc⟩ := (H1.out.below HK.out.2) (by omega)
        have c1 := hc k hlt
        clear hc
        obtain ⟨b2, off2, rfl, hc⟩ := (H2.out.below HK.out.2) (by omega)
        have c2 := hc k hkm
        clear hc
        obtain ⟨x, hx⟩ : ∃ x, l.getD k 0 = x := ⟨_, rfl⟩
        obtain ⟨y, hy⟩ : ∃ y, m.getD k 0 = y := ⟨_, rfl⟩
        rw [hx] at c1
        rw [hy] at c2
        have HX := Lib.hid (And.intro hx (And.intro hy (And.intro hlt hkm)))
        have kl : (k : Int) < (l.length : Int) := by omega
        have km : (k : Int) < (m.length : Int) := by omega
        clear hx hy hkm
        by_cases hxy : x = y
        · have hq : (x != y) = false := by rw [hxy]; simp
          have HE := Lib.hid hxy
          clear hxy hk hlt
          go_wp2_with (fail)
          go_region
          go_wp2_with (fail)
          go_round
          case rel =>
            obtain ⟨e1, e2, hlt, hkm⟩ := HX.out
            refine ⟨k + 1, by go_num, by omega, Lib.hid ⟨?_, HK.out.2.drew⟩⟩
            rw [List.take_add_one, List.take_add_one, HK.out.1, List.getElem?_eq_getElem hlt, List.getElem?_eq_getElem hkm]
            rw [List.getD_eq_getElem?_getD, List.getElem?_eq_getElem hlt] at e1
            rw [List.getD_eq_getElem?_getD, List.getElem?_eq_getElem hkm] at e2
            simp only [Option.getD_some] at e1 e2
            rw [e1, e2, HE.out]
          case measure => have := HX.out; simp [intOf]; omega
        · have hq : (x != y) = true := by rw [bne_iff_ne]; exact hxy
          have HE := Lib.hid hxy
          clear hxy hk hlt
          go_wp2_with (fail)
          go_region
          go_wp2_with (fail)
          go_ret
          refine ⟨ret_b ?_, HK.out.2.drew⟩
          symm
          rw [decide_eq_false_iff_not]
          intro e
          obtain ⟨e1, e2, hlt, hkm⟩ := HX.out
          apply HE.out
          rw [← e1, ← e2]
          conv => lhs; rw [← e]
          rw [List.getD_eq_getElem?_getD, List.getD_eq_getElem?_getD, List.getElem?_take, if_pos hlt]
      · obtain rfl : k = l.length := by omega
        go_wp2_with (fail)
        go_ret
        refine ⟨ret_b ?_, HK.out.2⟩
        symm
        rw [decide_eq_true_iff]
        have h1 := HK.out.1
        rw [List.take_of_length_le (Nat.le_refl _)] at h1
        exact h1.symm
  · rw [decide_eq_false hlm, Bool.false_and]
    have g1 : (m.length : Int) ≤ (l.length : Int) := by omega
    clear hlm
    go_enter Try.func27, Try.ntmps27
    go_wp2_with (fail)
    go_ret
    exact ⟨rfl, Below.refl _ _⟩
set_option maxRecDepth 100000 in
set_option maxHeartbeats 4000000 in
theorem rup_any (p : Option Addr) (l : List Int) (c : Nat) (w : World) (hsz : l.length * 8 ≤ 140737488355328) (h : HoldsI w p l) (hn : p = none → c = 0) :
    Calls Try.prog 26 #[.slice p l.length c] w (ClonePost w (upP l)) := by
  obtain ⟨q, cap, w1, hrun, hown, hb⟩ := appendI_lit (c := c) h hn hsz
  have HR := Lib.hid hrun
  have HO := Lib.hid (And.intro hown hb)
  have H := Lib.hid hown.holds
  have hcl : (l.length : Int) ≤ (cap : Int) := by have := hown.2.2; omega
  have hl' : (l.length : Int) ≤ 17592186044416 := by omega
  clear hrun hown hb h hn hsz
  by_cases h0 : l.length = 0
  · have e : l = [] := List.eq_nil_of_length_eq_zero h0
    subst e
    clear h0 hcl hl' H
    go_enter Try.func26, Try.ntmps26
    go_wp2_with (at_builtin; refine t_append_eq rfl _ _ _ rfl _ _ _ _ rfl rfl HR.out ?_)
    go_loop [3] (fun v => v = .slice q 0 cap) (fun _ => 0)
    case atStart => rfl
    case round =>
      subst hrel
      go_wp2_with (fail)
      go_ret
      exact ⟨q, cap, rfl, HO.out.1, HO.out.2⟩
  · obtain ⟨n, hn⟩ : ∃ n, l.length = n + 1 := ⟨l.length - 1, by omega⟩
    have HN := Lib.hid hn
    obtain ⟨u, hu⟩ : ∃ u, upN l n = u := ⟨_, rfl⟩
    have hup : upP l = l.take u := by unfold upP; rw [hn, Nat.add_sub_cancel, hu]
    have HU := Lib.hid (And.intro hup hu)
    rw [hn] at HR hcl hl' ⊢
    have e1 : ((n + 1 : Nat) : Int) - 1 = (n : Int) := by omega
    have e2 : (0 : Int) < ((n + 1 : Nat) : Int) := by omega
    have e3 : (n : Int) ≤ (cap : Int) := by omega
    have e4 : (n : Int) ≤ 17592186044416 := by omega
    clear h0 hn hup hu hcl hl'
    go_enter Try.func26, Try.ntmps26
    go_wp2_with (at_builtin; refine t_append_eq rfl _ _ _ rfl _ _ _ _ rfl rfl HR.out ?_)
    go_loop [3] (fun v => ∃ k : Nat, v = .slice q k cap ∧ k ≤ n ∧ Hid (upN l k = u)) (fun v => match v with | .slice _ k _ => k | _ => 0)
    case atStart => exact ⟨n, rfl, Nat.le_refl _, Lib.hid HU.out.2⟩
    case round =>
      obtain ⟨k, rfl, hk, HK⟩ := hrel
      have kc : (k : Int) ≤ (cap : Int) := by omega
      have kb : (k : Int) ≤ 17592186044416 := by omega
      clear e1 e2 e3 e4
      cases k with
      | zero =>
        have hu0 : 0 = u := HK.out
        go_wp2_with (fail)
        go_ret
        refine ⟨q, cap, ?_, ?_, HO.out.2⟩
        · rw [HU.out.1, ← hu0]; rfl
        · rw [HU.out.1]; exact HO.out.1.take (by rw [← hu0]; exact Nat.zero_le _)
      | succ k =>
        have hkl : k < l.length := by have := HN.out; omega
        obtain ⟨b, off, rfl, hc⟩ := H.out (by omega)
        have c1 := hc k hkl
        clear hc
        have hst : upN l (k + 1) = if oddI (l.getD k 0) then k + 1 else upN l k := rfl
        rw [HK.out] at hst
        generalize l.getD k 0 = x at *
        have O := Lib.hid (fun W => rodd_any x W)
        have e1 : ((k + 1 : Nat) : Int) - 1 = (k : Int) := by omega
        have e2 : (0 : Int) < ((k + 1 : Nat) : Int) := by omega
        have e3 : (k : Int) ≤ (cap : Int) := by omega
        have HKL := Lib.hid (And.intro hkl hk)
        clear hkl hk
        cases ho : oddI x
        · rw [ho] at O hst
          have HS := Lib.hid hst
          clear hst
          go_wp2_with (fail)
          refine (O.out _).mono ?_
          rintro e w' ⟨rfl, rfl⟩
          go_wp2_with (fail)
          go_round
          case rel => exact ⟨k, by go_num, by have := HKL.out; omega, Lib.hid (by simpa using HS.out.symm)⟩
          case measure => first | (simp; done) | (simp; omega) | decide
        · rw [ho] at O hst
          simp only [if_true] at hst
          have HS := Lib.hid hst
          clear hst
          go_wp2_with (fail)
          refine (O.out _).mono ?_
          rintro e w' ⟨rfl, rfl⟩
          go_wp2_with (fail)
          go_ret
          have hkl := HKL.out.1
          have e9 : (l.take u).length = k + 1 := by rw [HS.out, List.length_take]; omega
          refine ⟨some ⟨b, off, none⟩, cap, ?_, ?_, HO.out.2⟩
          · rw [HU.out.1, e9]; rfl
          · rw [HU.out.1]; exact HO.out.1.take (by rw [HS.out]; omega)
end Go.Proofs.Ytaiiigknlnhdgaa
