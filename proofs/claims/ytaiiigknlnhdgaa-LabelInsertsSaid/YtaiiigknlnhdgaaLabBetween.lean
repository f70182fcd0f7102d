/- Proved here: what label.room and label.Between answer. -/
import Derived.Test.YtaiiigknlnhdgaaLabRoom2
namespace Go.Proofs.Ytaiiigknlnhdgaa
open Go.RowKit

theorem ownI_new (w : World) (cs : List Int) (hm : cs.length ≤ 1048576) : OwnI (w.alloc (.cells (intV cs).toArray 3)) w.heap.size (some ⟨w.heap.size, 0, none⟩) cs.length cs := by
  have h := World.ownsRow_lit (size := 1) (e := 3) w (intV cs).toArray cs.length (Nat.le_refl _) (by unfold maxLen; omega) (by simp [intV])
  exact ⟨by simpa using h, fun e => (by cases e), Nat.le_refl _⟩
set_option maxRecDepth 100000 in
set_option maxHeartbeats 4000000 in
theorem room_any (p q : Option Addr) (l r : List Int) (c d : Nat) (w : World) (hl : l.length ≤ 1048576) (hr : r.length ≤ 1048576) (hlc : l.length ≤ c) (hrd : r.length ≤ d) (h1 : HoldsI w p l) (h2 : HoldsI w q r)
    (hnp : p = none → c = 0) (v1 : 0 < l.length → lvlB l = true) (v2 : 0 < r.length → lvlB r = true) (hc : 0 < l.length → 0 < r.length → cmpN l r = -1) (i1 : ∀ x ∈ l, InB x) (i2 : ∀ x ∈ r, InB x) :
    Calls Try.prog 47 #[.slice p l.length c, .slice q r.length d] w (ClonePost w (roomP l r)) := by
  have gl : (l.length : Int) ≤ 1048576 := by omega
  have gr : (r.length : Int) ≤ 1048576 := by omega
  unfold roomP
  by_cases hl0 : 0 < l.length
  · rw [if_pos hl0]
    by_cases hr0 : 0 < r.length
    · rw [if_pos hr0]
      have BT := Lib.hid (between2_any p q l r c d w hl hr hlc hrd h1 h2 hnp (v1 hl0) (v2 hr0) (hc hl0 hr0) i1 i2)
      have q1 : (0 : Int) < (l.length : Int) := by omega
      have q2 : (0 : Int) < (r.length : Int) := by omega
      clear hl hr hlc hrd h1 h2 hnp v1 v2 hc i1 i2 hl0 hr0
      go_enter Try.func47, Try.ntmps47
      go_wp2_with (fail)
      refine (BT.out).mono ?_
      rintro e w1 ⟨q3, c3, rfl, ho, hb⟩
      have HO := Lib.hid (And.intro ho hb)
      clear ho hb
      go_wp2_with (fail)
      go_ret
      exact ⟨q3, c3, rfl, HO.out.1, HO.out.2⟩
    · rw [if_neg hr0]
      have hr1 : r.length = 0 := by omega
      rw [hr1]
      obtain ⟨b, off, rfl, hcell⟩ := h1 hl0
      have cc := hcell 0 hl0
      rw [Nat.add_zero] at cc
      have hin := i1 _ (getD_mem hl0)
      generalize l.getD 0 0 = x at *
      have OA := Lib.hid (fun W => oddAbove_any x hin W)
      generalize oddUp x = z at *
      have q1 : (0 : Int) < (l.length : Int) := by omega
      have HN := Lib.hid (ownI_new w [z] (by simp))
      clear hl hr hlc hrd h1 h2 hnp v1 v2 hc i1 i2 hl0 hr0 hr1 hcell hin gr
      go_enter Try.func47, Try.ntmps47
      go_wp2_with (fail)
      refine (OA.out _).mono ?_
      rintro e w1 ⟨rfl, rfl⟩
      go_wp2_with (fail)
      go_ret
      exact ⟨_, _, rfl, HN.out, (Below.refl _ _).alloc (Nat.le_refl _) _⟩
      all_goals (exfalso; omega)
  · rw [if_neg hl0]
    have hl1 : l.length = 0 := by omega
    rw [hl1]
    by_cases hr0 : 0 < r.length
    · rw [if_pos hr0]
      obtain ⟨b, off, rfl, hcell⟩ := h2 hr0
      have cc := hcell 0 hr0
      rw [Nat.add_zero] at cc
      have hin := i2 _ (getD_mem hr0)
      generalize r.getD 0 0 = x at *
      have OA := Lib.hid (fun W => oddBelow_any x hin W)
      generalize oddDn x = z at *
      have q1 : (0 : Int) < (r.length : Int) := by omega
      have HN := Lib.hid (ownI_new w [z] (by simp))
      clear hl hr hlc hrd h1 h2 hnp v1 v2 hc i1 i2 hl0 hr0 hl1 hcell hin gl
      go_enter Try.func47, Try.ntmps47
      go_wp2_with (fail)
      refine (OA.out _).mono ?_
      rintro e w1 ⟨rfl, rfl⟩
      go_wp2_with (fail)
      go_ret
      exact ⟨_, _, rfl, HN.out, (Below.refl _ _).alloc (Nat.le_refl _) _⟩
      all_goals (exfalso; omega)
    · rw [if_neg hr0]
      have hr1 : r.length = 0 := by omega
      rw [hr1]
      have HN := Lib.hid (ownI_new w [1] (by decide))
      clear hl hr hlc hrd h1 h2 hnp v1 v2 hc i1 i2 hl0 hr0 hl1 hr1 gl gr
      go_enter Try.func47, Try.ntmps47
      go_wp2_with (fail)
      go_ret
      exact ⟨_, _, rfl, HN.out, (Below.refl _ _).alloc (Nat.le_refl _) _⟩
def BetPost (w : World) (b : List Int × Int) (e : Ending) (w' : World) : Prop :=
  ∃ q c, e = .returned (.tuple #[.slice q b.1.length c, .int .i64 b.2]) ∧ OwnI w' w.heap.size q c b.1 ∧ Below w.heap.size w w'
theorem bet_none {w w' : World} (hb : Below w.heap.size w w') (n : Int) : BetPost w ([], n) (.returned (.tuple #[.slice none 0 0, .int .i64 n])) w' := ⟨none, 0, rfl, OwnI.nil _ _, hb⟩
theorem room_len {up l r : List Int} (h : mayP up l r = true) : (newP up l r).length ≤ 1000 := by
  unfold mayP at h
  rw [Bool.and_eq_true, Bool.and_eq_true, Bool.and_eq_true, decide_eq_true_iff] at h
  obtain ⟨⟨⟨hup, hl⟩, _⟩, _⟩ := h
  have h1 := checkP_len hup
  have h2 : (behindP up l).length ≤ 480 := by
    rcases beside_facts hl with ⟨e1, _⟩ | ⟨hc, _, _, _, _⟩
    · rw [e1]; simp
    · have := checkP_len hc
      unfold behindP
      split
      · simp
      · rw [List.length_drop]; omega
  have h3 := bet_length (behindP up l) (behindP up r)
  unfold newP roomP
  rw [List.length_append]
  split
  · split
    · omega
    · simp; omega
  · split <;> simp <;> omega
set_option maxRecDepth 100000 in
set_option maxHeartbeats 8000000 in
theorem between_any (p1 p2 p3 : Option Addr) (up l r : List Int) (c1 c2 c3 : Nat) (w : World) (hu : up.length * 8 ≤ 140737488355328) (hl : l.length * 8 ≤ 140737488355328) (hr : r.length * 8 ≤ 140737488355328)
    (huc : up.length ≤ c1) (hlc : l.length ≤ c2) (hrc : r.length ≤ c3) (h1 : HoldsI w p1 up) (h2 : HoldsI w p2 l) (h3 : HoldsI w p3 r) (hn1 : p1 = none → c1 = 0) (hn2 : p2 = none → c2 = 0) (hn3 : p3 = none → c3 = 0) :
    Calls Try.prog 28 #[.slice p1 up.length c1, .slice p2 l.length c2, .slice p3 r.length c3] w (BetPost w (betP up l r)) := by
  have CU := Lib.hid (check_any p1 up c1 w (by omega) huc h1)
  by_cases hcu : checkP up = 0
  · have hlen := checkP_len hcu
    rw [hcu] at CU
    have BL := Lib.hid (beside_any p1 p2 up l c1 c2 w (by omega) hl huc hlc h1 h2 hn2)
    have BR := Lib.hid (fun W (hb : Below w.heap.size w W) => beside_any p1 p3 up r c1 c3 W (by omega) hr huc hrc (h1.below hb) (h3.below hb) hn3)
    have IO := Lib.hid (fun W (hb : Below w.heap.size w W) => inOrder_any p2 p3 l r c2 c3 W (by omega) (by omega) hlc hrc (h2.below hb) (h3.below hb))
    by_cases b1 : besideP up l = true
    · rw [b1] at BL
      by_cases b2 : besideP up r = true
      · rw [b2] at BR
        by_cases b3 : orderP l r = true
        · rw [b3] at IO
          have hmay : mayP up l r = true := by unfold mayP; rw [decide_eq_true hcu, b1, b2, b3]; rfl
          have hnl := room_len hmay
          obtain ⟨nf1, nf2, nf3, nf4, nf5, nf6⟩ := new_facts hmay
          have fl := beside_facts b1
          have fr := beside_facts b2
          have ll : l.length ≤ 480 := by rcases fl with ⟨_, rfl⟩ | ⟨hc, _⟩; simp; exact checkP_len hc
          have lr : r.length ≤ 480 := by rcases fr with ⟨_, rfl⟩ | ⟨hc, _⟩; simp; exact checkP_len hc
          have sl : l.length = 0 ∨ up.length < l.length := by
            rcases fl with ⟨_, rfl⟩ | ⟨hc, hne, hup, _, _⟩
            · exact .inl rfl
            · exact .inr (up_split hne (checkP_ok hc).2.1 hup).2.2
          have sr : r.length = 0 ∨ up.length < r.length := by
            rcases fr with ⟨_, rfl⟩ | ⟨hc, hne, hup, _, _⟩
            · exact .inl rfl
            · exact .inr (up_split hne (checkP_ok hc).2.1 hup).2.2
          have BHL := Lib.hid (fun W (hb : Below w.heap.size w W) => behind_any p1 p2 up l c1 c2 W (by omega) (by omega) hlc (h2.below hb) sl)
          have BHR := Lib.hid (fun W (hb : Below w.heap.size w W) => behind_any p1 p3 up r c1 c3 W (by omega) (by omega) hrc (h3.below hb) sr)
          have hsub : ∀ (k : List Int), behindP up k = [] ∧ k = [] ∨ checkP k = 0 ∧ k ≠ [] ∧ upP k = up ∧ k = up ++ behindP up k ∧ lvlB (behindP up k) = true → (behindP up k).length ≤ k.length ∧ (∀ x ∈ behindP up k, InB x) ∧ (0 < (behindP up k).length → lvlB (behindP up k) = true ∧ k ≠ [] ∧ k = up ++ behindP up k) := by
            intro k hk
            rcases hk with ⟨e1, e2⟩ | ⟨hc, hne, hup, hs, hv⟩
            · rw [e1, e2]; simp
            · refine ⟨?_, fun x hx => (checkP_ok hc).1 x ?_, fun _ => ⟨hv, hne, hs⟩⟩
              · unfold behindP; split
                · simp
                · rw [List.length_drop]; omega
              · rw [hs]; exact List.mem_append_right _ hx
          obtain ⟨a1, a2, a3⟩ := hsub l fl
          obtain ⟨e1, e2, e3⟩ := hsub r fr
          have hcmp : 0 < (behindP up l).length → 0 < (behindP up r).length → cmpN (behindP up l) (behindP up r) = -1 := by
            intro q1 q2
            have hlr : cmpN l r = -1 := by
              have ho := b3
              unfold orderP at ho
              rw [decide_eq_false (by have := List.length_pos_iff.2 (a3 q1).2.1; omega), decide_eq_false (by have := List.length_pos_iff.2 (e3 q2).2.1; omega)] at ho
              have h1 : cmpN l r < 0 := by simpa using ho
              have := cmpN_ord.rng l r
              omega
            rw [(a3 q1).2.2, (e3 q2).2.2, cmpN_app] at hlr
            exact hlr
          obtain ⟨L, hL⟩ : ∃ L, behindP up l = L := ⟨_, rfl⟩
          obtain ⟨R, hR⟩ : ∃ R, behindP up r = R := ⟨_, rfl⟩
          have hnew : newP up l r = up ++ roomP L R := by unfold newP; rw [hL, hR]
          have hbet : betP up l r = if checkP (up ++ roomP L R) = 0 then (up ++ roomP L R, 0) else ([], 5) := by unfold betP; rw [if_pos hmay, hnew]
          rw [hnew] at hnl
          rw [hL] at BHL a1 a2 a3 hcmp
          rw [hR] at BHR e1 e2 e3 hcmp
          have HF := Lib.hid (And.intro h1 (And.intro hn1 (And.intro huc hnl)))
          have HM := Lib.hid (fun W p q c d (hLc : L.length ≤ c) (hRd : R.length ≤ d) (x1 : HoldsI W p L) (x2 : HoldsI W q R) (xn : p = none → c = 0) => room_any p q L R c d W (by omega) (by omega) hLc hRd x1 x2 xn (fun q => (a3 q).1) (fun q => (e3 q).1) hcmp a2 e2)
          rw [hbet]
          obtain ⟨rm, hrm⟩ : ∃ rm, roomP L R = rm := ⟨_, rfl⟩
          rw [hrm] at HM hnl HF ⊢
          obtain ⟨N, hN⟩ : ∃ N, up ++ rm = N := ⟨_, rfl⟩
          rw [hN]
          obtain ⟨res, hres⟩ : ∃ res, (if checkP N = 0 then (N, (0 : Int)) else (([] : List Int), (5 : Int))) = res := ⟨_, rfl⟩
          rw [hres]
          have HR := Lib.hid (And.intro hres hN)
          have gu : (up.length : Int) ≤ 480 := by omega
          clear hu hl hr huc hlc hrc h1 h2 h3 hn1 hn2 hn3 hcu hlen b1 b2 b3 hmay hnl nf1 nf2 nf3 nf4 nf5 nf6 fl fr ll lr sl sr hsub a1 a2 a3 e1 e2 e3 hcmp hL hR hnew hbet hrm hN hres
          go_enter Try.func28, Try.ntmps28
          go_wp2_with (fail)
          refine (CU.out).mono ?_
          rintro e w' ⟨rfl, rfl⟩
          clear CU
          go_wp2_with (fail)
          refine (BL.out).mono ?_
          rintro e w1 ⟨rfl, hb1⟩
          have B1 := Lib.hid hb1
          clear hb1 BL
          go_wp2_with (fail)
          refine (BR.out _ B1.out).mono ?_
          rintro e w2 ⟨rfl, hb2⟩
          have B2 := Lib.hid (t_cat B1.out hb2)
          clear hb2 BR B1
          go_wp2_with (fail)
          refine (IO.out _ B2.out).mono ?_
          rintro e w' ⟨rfl, rfl⟩
          clear IO
          go_wp2_with (fail)
          refine (BHL.out _ B2.out).mono ?_
          rintro e w' ⟨⟨pL, cL, xl⟩, rfl⟩
          obtain ⟨rfl, xl1, xl2, xl3⟩ := xl
          clear BHL
          go_wp2_with (fail)
          refine (BHR.out _ B2.out).mono ?_
          rintro e w' ⟨⟨pR, cR, xr⟩, rfl⟩
          obtain ⟨rfl, xr1, xr2, xr3⟩ := xr
          clear BHR
          have RM := Lib.hid (HM.out _ pL pR cL cR xl2 xr2 xl1 xr1 xl3)
          clear xl1 xl2 xl3 xr1 xr2 xr3 HM
          go_wp2_with (fail)
          refine (RM.out).mono ?_
          rintro e w3 ⟨q3, c3', rfl, ho3, hb3⟩
          have B3 := Lib.hid (t_cat B2.out hb3)
          clear RM
          obtain ⟨W4, hW4⟩ : ∃ W, w3.alloc (.cells #[.slice p1 up.length c1, .slice q3 rm.length c3'] 22) = W := ⟨_, rfl⟩
          have hal : Below w3.heap.size w3 W4 := by rw [← hW4]; exact (Below.refl _ _).alloc (Nat.le_refl _) _
          have hrow : W4.heap[w3.heap.size]? = some (.cells #[.slice p1 up.length c1, .slice q3 rm.length c3'] 22) := by rw [← hW4]; exact heap_alloc_new w3 _
          have k0 : W4.cell? ⟨w3.heap.size, 0, none⟩ = some (.slice p1 up.length c1) := by rw [cell_of_row _ _ 0 _ 22 (0, 0) hrow]; rfl
          have k1 : W4.cell? ⟨w3.heap.size, 1, none⟩ = some (.slice q3 rm.length c3') := by rw [cell_of_row _ _ 1 _ 22 (0, 0) hrow]; rfl
          have B4 := Lib.hid (t_cat B3.out hal)
          have CC := Lib.hid (concat_any W4 w3.heap.size p1 q3 c1 c3' up rm k0 k1 (HF.out.1.below B4.out) (ho3.holds.below hal) HF.out.2.1 ho3.2.1 (by have := HF.out.2.2.2; rw [List.length_append] at this; omega))
          clear ho3 hb3 hal hrow k0 k1 B2 B3
          go_wp2_with (fail)
          refine (CC.out).mono ?_
          rintro e w5 ⟨q5, c5, rfl, ho5, hb5⟩
          have B5 := Lib.hid (t_cat B4.out hb5)
          have CN := Lib.hid (check_any q5 (up ++ rm) c5 w5 (by have := HF.out.2.2.2; omega) ho5.2.2 ho5.holds)
          have HO := Lib.hid (ho5.base (B' := w.heap.size) B4.out.size)
          have hN := HR.out.2
          rw [hN] at CN HO ⊢
          clear hN ho5 hb5 CC B4 hW4
          by_cases hcn : checkP N = 0
          · rw [hcn] at CN
            have HE := Lib.hid hcn
            clear hcn
            go_wp2_with (fail)
            refine (CN.out).mono ?_
            rintro e w' ⟨rfl, rfl⟩
            go_wp2_with (fail)
            go_ret2
            have e := HR.out.1
            rw [if_pos HE.out] at e
            rw [← e]
            exact ⟨q5, c5, rfl, HO.out, B5.out⟩
          · have HE := Lib.hid hcn
            have q1 : (checkP N != 0) = true := by rw [bne_iff_ne]; exact hcn
            obtain ⟨x, hx⟩ : ∃ x, checkP N = x := ⟨_, rfl⟩
            rw [hx] at CN q1
            clear hcn hx
            go_wp2_with (fail)
            refine (CN.out).mono ?_
            rintro e w' ⟨rfl, rfl⟩
            go_wp2_with (fail)
            go_ret2
            have e := HR.out.1
            rw [if_neg HE.out] at e
            rw [← e]
            exact bet_none B5.out 5
        · have b3' : orderP l r = false := by simpa using b3
          rw [b3'] at IO
          have hbet : betP up l r = ([], 1) := by unfold betP mayP; rw [b3', Bool.and_false, if_neg (by simp)]
          rw [hbet]
          clear hu hl hr huc hlc hrc h1 h2 h3 hn1 hn2 hn3 hcu hlen b1 b2 b3 b3' hbet
          go_enter Try.func28, Try.ntmps28
          go_wp2_with (fail)
          refine (CU.out).mono ?_
          rintro e w' ⟨rfl, rfl⟩
          clear CU
          go_wp2_with (fail)
          refine (BL.out).mono ?_
          rintro e w1 ⟨rfl, hb1⟩
          have B1 := Lib.hid hb1
          clear hb1 BL
          go_wp2_with (fail)
          refine (BR.out _ B1.out).mono ?_
          rintro e w2 ⟨rfl, hb2⟩
          have B2 := Lib.hid (t_cat B1.out hb2)
          clear hb2 BR B1
          go_wp2_with (fail)
          refine (IO.out _ B2.out).mono ?_
          rintro e w' ⟨rfl, rfl⟩
          clear IO
          go_wp2_with (fail)
          go_ret2
          exact bet_none B2.out 1
      · have b2' : besideP up r = false := by simpa using b2
        rw [b2'] at BR
        have hbet : betP up l r = ([], 1) := by unfold betP mayP; rw [b2', Bool.and_false, Bool.false_and, if_neg (by simp)]
        rw [hbet]
        clear hu hl hr huc hlc hrc h1 h2 h3 hn1 hn2 hn3 hcu hlen b1 b2 b2' hbet IO
        go_enter Try.func28, Try.ntmps28
        go_wp2_with (fail)
        refine (CU.out).mono ?_
        rintro e w' ⟨rfl, rfl⟩
        clear CU
        go_wp2_with (fail)
        refine (BL.out).mono ?_
        rintro e w1 ⟨rfl, hb1⟩
        have B1 := Lib.hid hb1
        clear hb1 BL
        go_wp2_with (fail)
        refine (BR.out _ B1.out).mono ?_
        rintro e w2 ⟨rfl, hb2⟩
        have B2 := Lib.hid (t_cat B1.out hb2)
        clear hb2 BR B1
        go_wp2_with (fail)
        go_ret2
        exact bet_none B2.out 1
    · have b1' : besideP up l = false := by simpa using b1
      rw [b1'] at BL
      have hbet : betP up l r = ([], 1) := by unfold betP mayP; rw [b1', Bool.and_false, Bool.false_and, Bool.false_and, if_neg (by simp)]
      rw [hbet]
      clear hu hl hr huc hlc hrc h1 h2 h3 hn1 hn2 hn3 hcu hlen b1 b1' hbet IO BR
      go_enter Try.func28, Try.ntmps28
      go_wp2_with (fail)
      refine (CU.out).mono ?_
      rintro e w' ⟨rfl, rfl⟩
      clear CU
      go_wp2_with (fail)
      refine (BL.out).mono ?_
      rintro e w1 ⟨rfl, hb1⟩
      have B1 := Lib.hid hb1
      clear hb1 BL
      go_wp2_with (fail)
      go_ret2
      exact bet_none B1.out 1
  · have hbet : betP up l r = ([], 1) := by unfold betP mayP; rw [decide_eq_false hcu, Bool.false_and, Bool.false_and, Bool.false_and, if_neg (by simp)]
    rw [hbet]
    have q1 : (checkP up != 0) = true := by rw [bne_iff_ne]; exact hcu
    obtain ⟨x, hx⟩ : ∃ x, checkP up = x := ⟨_, rfl⟩
    rw [hx] at CU q1
    clear hu hl hr huc hlc hrc h1 h2 h3 hn1 hn2 hn3 hcu hx hbet
    go_enter Try.func28, Try.ntmps28
    go_wp2_with (fail)
    refine (CU.out).mono ?_
    rintro e w' ⟨rfl, rfl⟩
    clear CU
    go_wp2_with (fail)
    go_ret2
    exact bet_none (Below.refl _ _) 1
end Go.Proofs.Ytaiiigknlnhdgaa
