/- Proved here: the statement LabelInserts, walked: it answers true of every two lists of numbers, in every world. -/
import Derived.Test.YtaiiigknlnhdgaaKidsPlain
import Derived.Deep.Cut
import Derived.Test.YtaiiigknlnhdgaaLawLStands
namespace Go.Proofs.Ytaiiigknlnhdgaa
open Go.RowKit

def KidsIn (w : World) (ks : List KidV) : Prop := ∀ (i : Nat) k, ks[i]? = some k → HoldsI w k.1 k.2.2 ∧ k.2.2.length ≤ k.2.1 ∧ (k.1 = none → k.2.1 = 0)
theorem KidsIn.far {w w' : World} {ks : List KidV} (h : KidsIn w ks) (hb : Below w.heap.size w w') : KidsIn w' ks := fun i k hk => ⟨(h i k hk).1.below hb, (h i k hk).2⟩
theorem KidsIn.left {w : World} {ks : List KidV} (h : KidsIn w ks) {i : Nat} (hi : i ≤ ks.length) : HoldsI w (lK ks i).1 (lK ks i).2.2 ∧ (lK ks i).2.2.length ≤ (lK ks i).2.1 ∧ ((lK ks i).1 = none → (lK ks i).2.1 = 0) := by
  by_cases h0 : 0 < i
  · exact h _ _ (lK_some hi h0)
  · have e : lK ks i = noKid := by unfold lK; rw [if_neg h0]
    rw [e]
    exact ⟨fun h => by simp [noKid] at h, Nat.le_refl _, fun _ => rfl⟩
theorem KidsIn.right {w : World} {ks : List KidV} (h : KidsIn w ks) (i : Nat) : HoldsI w (rK ks i).1 (rK ks i).2.2 ∧ (rK ks i).2.2.length ≤ (rK ks i).2.1 ∧ ((rK ks i).1 = none → (rK ks i).2.1 = 0) := by
  by_cases h0 : i < ks.length
  · exact h _ _ (kid_at h0)
  · rw [rK_none h0]
    exact ⟨fun h => by simp [noKid] at h, Nat.le_refl _, fun _ => rfl⟩
theorem KidsIn.ins {w : World} {ks : List KidV} (h : KidsIn w ks) {i : Nat} (hi : i ≤ ks.length) {n : KidV} (hn : HoldsI w n.1 n.2.2 ∧ n.2.2.length ≤ n.2.1 ∧ (n.1 = none → n.2.1 = 0)) : KidsIn w (insK ks i n) := fun j k hk => by
  rw [insK_at ks i n hi] at hk
  split at hk
  · exact h _ _ hk
  · split at hk
    · cases hk; exact hn
    · exact h _ _ hk
def InsRel (w : World) (up : List Int) (n : Nat) (v5 v25 : Value) (wr : World) : Prop :=
  ∃ (i : Nat) (q : Option Addr) (c : Nat) (ks : List KidV), v5 = .slice q ks.length c ∧ v25 = .int .i64 (i : Int) ∧ i ≤ n ∧ ks.length ≤ i ∧ i ≤ 120 ∧ Hid (OwnK wr w.heap.size q c ks ∧ Below w.heap.size w wr ∧ GoodKids up ks ∧ KidsIn wr ks ∧ (0 < i → up.length = 0 → ks ≠ []) ∧ (ks = [] → q = none ∧ c = 0))
def Ins2Rel (wr : World) (ks : List KidV) (v13 v81 : Value) (w2 : World) : Prop :=
  ∃ (j : Nat) (q : Option Addr) (c : Nat) (L : List Nat), v13 = .slice q L.length c ∧ v81 = .int .i64 (j : Int) ∧ j ≤ ks.length ∧ Hid (HoldsU w2 q L ∧ Below wr.heap.size wr w2 ∧ (∀ x ∈ L, x < 256) ∧ (0 < j → ∃ k, ks[j - 1]? = some k ∧ L = packB (bitsL k.2.2)))
theorem rem_form (x : Int) (m : Nat) (hm : m ≤ 1000) : ∃ a : Nat, wrap64 ((IntKind.u64.wrap x).tmod ((m : Int) + 1)) = (a : Int) ∧ a ≤ m := by
  rw [IntKind.wrap_u64]
  obtain ⟨y, hy⟩ : ∃ y, x % 18446744073709551616 = y := ⟨_, rfl⟩
  have h0 : 0 ≤ y := by omega
  rw [hy, Int.tmod_eq_emod_of_nonneg h0]
  obtain ⟨z, hz⟩ : ∃ z, y % ((m : Int) + 1) = z := ⟨_, rfl⟩
  have e1 := Int.emod_nonneg y (show ((m : Int) + 1) ≠ 0 by omega)
  have e2 := Int.emod_lt_of_pos y (show 0 < ((m : Int) + 1) by omega)
  rw [hz] at e1 e2 ⊢
  refine ⟨z.toNat, ?_, by omega⟩
  unfold wrap64; omega
theorem ins_three (w : World) (a m : List KidV) (n : KidV) (p p2 : Option Addr) (d d2 : Nat) (ha : HoldsK w p a) (hm : HoldsK w p2 m) (np : p = none → d = 0) (np2 : p2 = none → d2 = 0) (hsz : (a.length + 1 + m.length) * 24 ≤ 140737488355328) :
    InsA w (w.alloc (.cells #[] 22)).drew w.heap.size a m n p p2 d d2 ∧ InsB w ((w.alloc (.cells #[] 22)).alloc (.cells #[kv n] 22)).drew w.heap.size (w.heap.size + 1) a m n p p2 d d2 ∧ InsB w ((w.alloc (.cells #[kv n] 22)).alloc (.cells #[] 22)).drew (w.heap.size + 1) w.heap.size a m n p p2 d d2 := by
  have x1 : (w.alloc (.cells #[] 22)).drew = w.drew.alloc (.cells #[] 22) := rfl
  have x2 : ((w.alloc (.cells #[] 22)).alloc (.cells #[kv n] 22)).drew = (w.drew.alloc (.cells #[] 22)).alloc (.cells #[kv n] 22) := rfl
  have x3 : ((w.alloc (.cells #[kv n] 22)).alloc (.cells #[] 22)).drew = (w.drew.alloc (.cells #[kv n] 22)).alloc (.cells #[] 22) := rfl
  rw [x1, x2, x3]
  have b0 : Below w.heap.size w w.drew := (Below.refl _ _).drew
  have s1 : (w.drew.alloc (.cells #[] 22)).heap.size = w.heap.size + 1 := by simp
  have s2 : (w.drew.alloc (.cells #[kv n] 22)).heap.size = w.heap.size + 1 := by simp
  have e0 : OwnK (w.drew.alloc (.cells #[] 22)) w.heap.size (some ⟨w.heap.size, 0, none⟩) 0 [] := ownK_new w.drew [] (by simp)
  have bA : Below w.heap.size w (w.drew.alloc (.cells #[] 22)) := b0.alloc (Nat.le_refl _) _
  have bN : Below w.heap.size w (w.drew.alloc (.cells #[kv n] 22)) := b0.alloc (Nat.le_refl _) _
  have bAN : Below (w.drew.alloc (.cells #[] 22)).heap.size (w.drew.alloc (.cells #[] 22)) ((w.drew.alloc (.cells #[] 22)).alloc (.cells #[kv n] 22)) := (Below.refl _ _).alloc (Nat.le_refl _) _
  have bNA : Below (w.drew.alloc (.cells #[kv n] 22)).heap.size (w.drew.alloc (.cells #[kv n] 22)) ((w.drew.alloc (.cells #[kv n] 22)).alloc (.cells #[] 22)) := (Below.refl _ _).alloc (Nat.le_refl _) _
  refine ⟨insA bA e0 ha hm np np2 hsz, ?_, ?_⟩
  · have hn := kid_new (w.drew.alloc (.cells #[] 22)) n
    rw [s1] at hn
    exact insB (t_cat bA bAN) (e0.far bAN) hn (by simp) (by omega) ha hm np np2 hsz
  · have ho : OwnK ((w.drew.alloc (.cells #[kv n] 22)).alloc (.cells #[] 22)) (w.drew.alloc (.cells #[kv n] 22)).heap.size (some ⟨(w.drew.alloc (.cells #[kv n] 22)).heap.size, 0, none⟩) 0 [] := ownK_new _ [] (by simp)
    rw [s2] at ho
    have hn : HoldsK (w.drew.alloc (.cells #[kv n] 22)) (some ⟨w.heap.size, 0, none⟩) [n] := kid_new w.drew n
    exact insB (t_cat bN bNA) (ho.base (by omega)) (hn.below bNA) (by simp; omega) (by omega) ha hm np np2 hsz
theorem slice_n {q : Option Addr} {a b c : Nat} (h : a = b) : Value.slice q a c = .slice q b c := by rw [h]
theorem ins_end {w wr w2 W : World} {up : List Int} {n i a len : Nat} {ks : List KidV} {q2 q3 : Option Addr} {d2 c3 : Nat} {N : List Int} (hR : KidsIn wr ks) (hwr : Below w.heap.size w wr) (h2 : Below wr.heap.size wr w2) (o2 : OwnI w2 wr.heap.size q2 d2 N)
    (own : OwnK W w2.heap.size q3 c3 (ks.take a ++ [(q2, d2, N)] ++ ks.drop a) ∧ Below w2.heap.size w2 W) (good : GoodKids up (insK ks a (q2, d2, N))) (ham : a ≤ ks.length) (hi : i < n) (hi2 : i < 120) (hki : ks.length ≤ i) (hlen : len = ks.length + 1) :
    InsRel w up n (.slice q3 len c3) (.int .i64 ((i : Int) + 1)) W ∧ n - (intOf (.int .i64 ((i : Int) + 1))).toNat < n - (intOf (.int .i64 (i : Int))).toNat := by
  have hl := insK_length ks a (q2, d2, N) ham
  refine ⟨⟨i + 1, q3, c3, insK ks a (q2, d2, N), slice_n (by rw [hl]; exact hlen), by go_num, hi, by rw [hl]; omega, by omega, Lib.hid ⟨own.1.base (Nat.le_trans hwr.size h2.size), t_cat (t_cat hwr h2) own.2, good, ?_, ?_, ?_⟩⟩, by simp [intOf]; omega⟩
  · exact ((hR.far h2).far own.2).ins ham ⟨o2.holds.below own.2, o2.2.2, o2.2.1⟩
  · intro _ _ e
    rw [e] at hl
    simp at hl
  · intro e
    rw [e] at hl
    simp at hl
theorem ins_same {w wr w2 : World} {up : List Int} {n i len : Nat} {ks : List KidV} {q : Option Addr} {c : Nat} (hR : OwnK wr w.heap.size q c ks ∧ Below w.heap.size w wr ∧ GoodKids up ks ∧ KidsIn wr ks ∧ (0 < i → up.length = 0 → ks ≠ []) ∧ (ks = [] → q = none ∧ c = 0)) (h2 : Below wr.heap.size wr w2)
    (hne : up.length = 0 → ks ≠ []) (hi : i < n) (hi2 : i < 120) (hki : ks.length ≤ i) (hlen : len = ks.length) :
    InsRel w up n (.slice q len c) (.int .i64 ((i : Int) + 1)) w2 ∧ n - (intOf (.int .i64 ((i : Int) + 1))).toNat < n - (intOf (.int .i64 (i : Int))).toNat := by
  obtain ⟨h1, hb, hg, hk, _, hn⟩ := hR
  exact ⟨⟨i + 1, q, c, ks, slice_n hlen, by go_num, hi, by omega, by omega, Lib.hid ⟨h1.far h2, t_cat hb h2, hg, hk.far h2, fun _ => hne, hn⟩⟩, by simp [intOf]; omega⟩
set_option maxRecDepth 100000 in
set_option maxHeartbeats 32000000 in
theorem ins_good_walk (p1 p2 : Option Addr) (c1 c2 : Nat) (up pl : List Int) (w : World) (hu : up.length * 8 ≤ 140737488355328) (hp : pl.length * 8 ≤ 140737488355328)
    (huc : up.length ≤ c1) (hpc : pl.length ≤ c2) (h1 : HoldsI w p1 up) (h2 : HoldsI w p2 pl) (hn1 : p1 = none → c1 = 0) (hk : checkP up = 0) :
    Calls Try.prog 9 #[.slice p1 up.length c1, .slice p2 pl.length c2] w fun e w' => e = .returned (.bool true) ∧ Below w.heap.size w w' := by
  have AW := Lib.hid (awake12_any w)
  have CK := Lib.hid (fun W (h : Below w.heap.size w W) => check_any p1 up c1 W (by omega) huc (h1.below h))
  rw [hk] at CK
  have H2 := Lib.hid h2
  obtain ⟨n, hn⟩ : ∃ n, pl.length = n := ⟨_, rfl⟩
  have HN := Lib.hid hn
  rw [hn] at hp hpc ⊢
  have gn : (n : Int) ≤ 17592186044416 := by omega
  have HK := Lib.hid hk
  have hul := checkP_len hk
  have BET := Lib.hid (fun W l r q d q2 d2 (h : Below w.heap.size w W) (a1 : l.length ≤ 480) (a2 : r.length ≤ 480) (a3 : l.length ≤ d) (a4 : r.length ≤ d2) (a5 : HoldsI W q l) (a6 : HoldsI W q2 r) (a7 : q = none → d = 0) (a8 : q2 = none → d2 = 0) => between_any p1 q q2 up l r c1 d d2 W hu (by omega) (by omega) huc a3 a4 (h1.below h) a5 a6 hn1 a7 a8)
  have SUP := Lib.hid (fun W q1 d1 (h : Below w.heap.size w W) (x : HoldsI W q1 up) (y : up.length ≤ d1) => sameInts_any q1 p1 up up d1 c1 W (by omega) (by omega) y huc x (h1.below h))
  rw [decide_eq_true rfl] at SUP
  have gun : (up.length : Int) ≤ 480 := by omega
  clear h1 h2 hn hk hp hpc hn1 huc hu hul
  go_enter Try.func9, Try.ntmps9
  go_wp2_with (fail)
  refine (AW.out).mono ?_
  rintro e w1 ⟨rfl, hb1⟩
  have B1 := Lib.hid hb1
  clear hb1 AW
  go_wp2_with (fail)
  refine (CK.out _ B1.out).mono ?_
  rintro e w' ⟨rfl, rfl⟩
  clear CK
  go_wp2_with (fail)
  go_loopw [5, 25] (fun v5 v25 wr => InsRel w up n v5 v25 wr) (fun _ v _ => n - (intOf v).toNat)
  case atStart => exact ⟨0, none, 0, [], rfl, rfl, Nat.zero_le _, Nat.le_refl _, by decide, Lib.hid ⟨OwnK.nil _ _, B1.out, ⟨fun i k h => by simp at h, fun i a b h => by simp at h⟩, fun i k h => by simp at h, fun h => absurd h (Nat.lt_irrefl _), fun _ => ⟨rfl, rfl⟩⟩⟩
  case round =>
    obtain ⟨i, q, c, ks, rfl, rfl, hi, hki, hi2, HR⟩ := hrel
    by_cases hlt : i < n ∧ i < 120
    · obtain ⟨hl1, hl2⟩ := hlt
      obtain ⟨g0, off, rfl, hc⟩ := (H2.out.below HR.out.2.1) (by rw [HN.out]; omega)
      have c0 := hc i (by rw [HN.out]; exact hl1)
      generalize pl.getD i 0 = x at *
      have gi : (i : Int) < (n : Int) := by omega
      have gi2 : ¬ (120 : Int) ≤ (i : Int) := by omega
      have hgood := HR.out.2.2.1
      have hkin := HR.out.2.2.2.1
      obtain ⟨m, hm⟩ : ∃ m, ks.length = m := ⟨_, rfl⟩
      have hown := HR.out.1
      have hcm : ks.length ≤ c := hown.2.2
      have hhold := hown.holds
      have hnil := HR.out.2.2.2.2.2
      rw [hm] at hki hcm
      obtain ⟨a, hat, ham⟩ := rem_form x m (by omega)
      have HAT := Lib.hid hat
      clear hat
      have hbet := ins_bet HK.out hgood (i := a) (by omega)
      have hL := hkin.left (i := a) (by omega)
      have hR := hkin.right a
      have hL480 : (lK ks a).2.2.length ≤ 480 := by
        by_cases z : 0 < a
        · exact checkP_len (hgood.1 _ _ (lK_some (by omega) z)).1
        · have e : lK ks a = noKid := by unfold lK; rw [if_neg z]
          rw [e]; exact Nat.zero_le _
      have hR480 : (rK ks a).2.2.length ≤ 480 := by
        by_cases z : a < ks.length
        · exact checkP_len (hgood.1 _ _ (kid_at z)).1
        · rw [rK_none z]; exact Nat.zero_le _
      have BETX := Lib.hid (BET.out wr _ _ _ _ _ _ HR.out.2.1 hL480 hR480 hL.2.1 hR.2.1 hL.1 hR.1 hL.2.2 hR.2.2)
      have hlK := fun z => lK_some (ks := ks) (i := a) (by omega) z
      have hrK := fun z => kid_at (ks := ks) (i := a) z
      have hl0 : ¬ 0 < a → lK ks a = noKid := fun z => by unfold lK; rw [if_neg z]
      have hr0 : ¬ a < ks.length → rK ks a = noKid := fun z => rK_none z
      have hrKe : rK ks a = ks.getD a noKid := rfl
      rw [← hrKe] at hrK
      have hgN := fun n h1 h2 => ins_good HK.out hgood (i := a) (n := n) (by omega) h1 h2
      have hinsl := fun n => insK_length ks a n (by omega)
      generalize lK ks a = lk at *
      generalize rK ks a = rk at *
      obtain ⟨lp, lc, ll⟩ := lk
      obtain ⟨rp, rc, rl⟩ := rk
      simp only at BETX hbet
      rw [hm] at hrK hr0 hinsl ⊢
      have gm : (m : Int) ≤ 120 := by omega
      have gcm : (m : Int) ≤ (c : Int) := by omega
      have gac : (a : Int) ≤ (c : Int) := by omega
      have hIN := Lib.hid (And.intro hgN hinsl)
      have HI := Lib.hid (And.intro hl1 (And.intro hl2 (And.intro hki ham)))
      have htake : (ks.take a).length = a := by rw [List.length_take]; omega
      have hdrop : (ks.drop a).length = m - a := by rw [List.length_drop, hm]
      have hinsd : ∀ n, insK ks a n = ks.take a ++ [n] ++ ks.drop a := fun _ => rfl
      have HINS := Lib.hid hinsd
      have HM := Lib.hid hm
      clear hL480 hR480 hL hR hc hi hl1 hl2 hki hi2 hgood hkin hrKe hgN hinsl hinsd
      rcases Nat.eq_zero_or_pos m with hm0 | hm0
      · obtain rfl : ks = [] := List.eq_nil_of_length_eq_zero (by omega)
        obtain ⟨rfl, rfl⟩ := hnil rfl
        obtain rfl : a = 0 := by omega
        obtain rfl : m = 0 := hm0
        have e1 := hl0 (by omega)
        have e2 := hr0 (by omega)
        unfold noKid at e1 e2
        cases e1
        cases e2
        have hmem : HoldsK wr none (([] : List KidV).take 0) := fun h => by simp at h
        have hmem2 : HoldsK wr none (([] : List KidV).drop 0) := fun h => by simp at h
        have HX := Lib.hid (And.intro hmem (And.intro hmem2 (And.intro htake hdrop)))
        clear hmem hmem2 hown hhold hnil htake hdrop hm hlK hrK hl0 hr0
        go_upto_region 11 with fail
        try simp only [HAT.out]
        rcases hbet with ⟨hb, hk0⟩ | ⟨hb, hne⟩
        · rw [hb] at BETX
          obtain ⟨N, hN⟩ : ∃ N, newP up [] [] = N := ⟨_, rfl⟩
          rw [hN] at BETX hk0
          have hN480 := checkP_len hk0
          have HNN := Lib.hid (And.intro hN hk0)
          have gN : (N.length : Int) ≤ 480 := by omega
          clear hb hN hk0 hN480
          go_wp2_with (fail)
          refine (BETX.out).mono ?_
          intro e w2 hpost
          obtain ⟨q2, d2, rfl, ho2, hb2⟩ : ∃ q c, e = .returned (.tuple #[.slice q N.length c, .int .i64 0]) ∧ OwnI w2 _ q c N ∧ Below _ _ w2 := hpost
          have B2 := Lib.hid hb2
          have O2 := Lib.hid ho2
          obtain ⟨hA, hB, hC⟩ := ins_three w2 (([] : List KidV).take 0) (([] : List KidV).drop 0) (q2, d2, N) none none 0 0 (HX.out.1.below hb2) (HX.out.2.1.below hb2) (fun e => by first | rfl | cases e) (fun e => by first | rfl | cases e) (by rw [HX.out.2.2.1, HX.out.2.2.2]; omega)
          obtain ⟨qa1, ca1, wa1, qa2, ca2, wa2, qa3, ca3, wa3, ra1, ra2, ra3, oa, ba⟩ := hA
          obtain ⟨qb1, cb1, wb1, qb2, cb2, wb2, qb3, cb3, wb3, rb1, rb2, rb3, ob, bb⟩ := hB
          obtain ⟨qc1, cc1, wc1, qc2, cc2, wc2, qc3, cc3, wc3, rc1, rc2, rc3, oc, bc⟩ := hC
          rw [HX.out.2.2.1] at ra1 ra2 ra3 rb1 rb2 rb3 rc1 rc2 rc3
          rw [HX.out.2.2.2] at ra3 rb3 rc3
          have RA := Lib.hid (And.intro ra1 (And.intro ra2 ra3))
          have RB := Lib.hid (And.intro rb1 (And.intro rb2 rb3))
          have RC := Lib.hid (And.intro rc1 (And.intro rc2 rc3))
          have EA := Lib.hid (And.intro oa ba)
          have EB := Lib.hid (And.intro ob bb)
          have EC := Lib.hid (And.intro oc bc)
          clear ra1 ra2 ra3 rb1 rb2 rb3 rc1 rc2 rc3 oa ob oc ba bb bc hb2 ho2 BETX
          go_wp2_with (fail)
          go_region_law (first | (with_reducible (refine step_append_run ?_ (.tmp 66) (.tmp 69) 46 ?_ _ _ _ _ ?_ ?_ RA.out.1 ?_); rfl; rfl; simp [Act.eval, Act.put]; simp [Act.eval, Act.put]) | (with_reducible (refine step_append_run ?_ (.tmp 70) (.tmp 72) 46 ?_ _ _ _ _ ?_ ?_ RA.out.2.1 ?_); rfl; rfl; simp [Act.eval, Act.put]; simp [Act.eval, Act.put]) | (with_reducible (refine step_append_run ?_ (.tmp 73) (.tmp 76) 46 ?_ _ _ _ _ ?_ ?_ RA.out.2.2 ?_); rfl; rfl; simp [Act.eval, Act.put]; simp [Act.eval, Act.put]) | (with_reducible (refine step_append_run ?_ (.tmp 66) (.tmp 69) 46 ?_ _ _ _ _ ?_ ?_ RB.out.1 ?_); rfl; rfl; simp [Act.eval, Act.put]; simp [Act.eval, Act.put]) | (with_reducible (refine step_append_run ?_ (.tmp 70) (.tmp 72) 46 ?_ _ _ _ _ ?_ ?_ RB.out.2.1 ?_); rfl; rfl; simp [Act.eval, Act.put]; simp [Act.eval, Act.put]) | (with_reducible (refine step_append_run ?_ (.tmp 73) (.tmp 76) 46 ?_ _ _ _ _ ?_ ?_ RB.out.2.2 ?_); rfl; rfl; simp [Act.eval, Act.put]; simp [Act.eval, Act.put]) | (with_reducible (refine step_append_run ?_ (.tmp 66) (.tmp 69) 46 ?_ _ _ _ _ ?_ ?_ RC.out.1 ?_); rfl; rfl; simp [Act.eval, Act.put]; simp [Act.eval, Act.put]) | (with_reducible (refine step_append_run ?_ (.tmp 70) (.tmp 72) 46 ?_ _ _ _ _ ?_ ?_ RC.out.2.1 ?_); rfl; rfl; simp [Act.eval, Act.put]; simp [Act.eval, Act.put]) | (with_reducible (refine step_append_run ?_ (.tmp 73) (.tmp 76) 46 ?_ _ _ _ _ ?_ ?_ RC.out.2.2 ?_); rfl; rfl; simp [Act.eval, Act.put]; simp [Act.eval, Act.put]))
          all_goals go_wp2_with (fail)
          all_goals
            obtain ⟨i1, i2, i3, i4⟩ := HI.out
            have i5 := HM.out
            have i6 := HNN.out
            have good := hIN.out.1 (q2, d2, N) i6.1.symm i6.2
            first
              | exact ins_end HR.out.2.2.2.1 HR.out.2.1 B2.out O2.out EA.out good (by omega) i1 i2 (by omega) (by omega)
              | exact ins_end HR.out.2.2.2.1 HR.out.2.1 B2.out O2.out EB.out good (by omega) i1 i2 (by omega) (by omega)
              | exact ins_end HR.out.2.2.2.1 HR.out.2.1 B2.out O2.out EC.out good (by omega) i1 i2 (by omega) (by omega)
        · rw [hb] at BETX
          have HNE := Lib.hid hne
          clear hb hne
          go_wp2_with (fail)
          refine (BETX.out).mono ?_
          intro e w2 hpost
          obtain ⟨q2, d2, rfl, -, hb2⟩ : ∃ q c, e = .returned (.tuple #[.slice q 0 c, .int .i64 5]) ∧ OwnI w2 _ q c [] ∧ Below _ _ w2 := hpost
          have B2 := Lib.hid hb2
          clear hb2 BETX
          go_wp2_with (fail)
          obtain ⟨i1, i2, i3, i4⟩ := HI.out
          have i5 := HM.out
          exact ins_same ⟨HR.out.1, HR.out.2.1, HR.out.2.2.1, HR.out.2.2.2.1, HR.out.2.2.2.2.1, fun _ => ⟨rfl, rfl⟩⟩ B2.out HNE.out i1 i2 (by omega) (by omega)
      · obtain ⟨g, rfl⟩ : ∃ g, q = some ⟨g, 0, none⟩ := by
          rcases hown.form with ⟨_, _, e⟩ | h
          · rw [e] at hm; exact absurd hm (by simp; omega)
          · exact h
        obtain ⟨b9, off9, e9, hcell⟩ := hhold (by omega)
        injection e9 with e9
        injection e9 with e91 e92 _
        subst e91 e92
        simp only [Nat.zero_add] at hcell
        have hc0 : ¬ c = 0 := by omega
        rcases Nat.eq_zero_or_pos a with ha0 | ha0
        · obtain rfl : a = 0 := ha0
          have e1 := hl0 (by omega)
          unfold noKid at e1
          cases e1
          have cr : _ = some (Value.slice rp rl.length rc) := hcell 0 _ (hrK (by omega))
          have gm0 : (0 : Int) < (m : Int) := by omega
          have hmem : HoldsK wr (some ⟨g, 0, none⟩) (ks.take 0) := hhold.take 0
          have hmem2 : HoldsK wr (some ⟨g, 0, none⟩) (ks.drop 0) := by simpa using hhold
          have HX := Lib.hid (And.intro hmem (And.intro hmem2 (And.intro htake hdrop)))
          clear hmem hmem2 hown hhold hnil htake hdrop hm hlK hrK hl0 hr0
          go_upto_region 11 with fail
          try simp only [HAT.out]
          rcases hbet with ⟨hb, hk0⟩ | ⟨hb, hne⟩
          · rw [hb] at BETX
            obtain ⟨N, hN⟩ : ∃ N, newP up [] rl = N := ⟨_, rfl⟩
            rw [hN] at BETX hk0
            have hN480 := checkP_len hk0
            have HNN := Lib.hid (And.intro hN hk0)
            have gN : (N.length : Int) ≤ 480 := by omega
            clear hb hN hk0 hN480
            go_wp2_with (fail)
            refine (BETX.out).mono ?_
            intro e w2 hpost
            obtain ⟨q2, d2, rfl, ho2, hb2⟩ : ∃ q c, e = .returned (.tuple #[.slice q N.length c, .int .i64 0]) ∧ OwnI w2 _ q c N ∧ Below _ _ w2 := hpost
            have B2 := Lib.hid hb2
            have O2 := Lib.hid ho2
            obtain ⟨hA, hB, hC⟩ := ins_three w2 (ks.take 0) (ks.drop 0) (q2, d2, N) (some ⟨g, 0, none⟩) (some ⟨g, 0, none⟩) c c (HX.out.1.below hb2) (HX.out.2.1.below hb2) (fun e => by first | rfl | cases e) (fun e => by first | rfl | cases e) (by rw [HX.out.2.2.1, HX.out.2.2.2]; omega)
            obtain ⟨qa1, ca1, wa1, qa2, ca2, wa2, qa3, ca3, wa3, ra1, ra2, ra3, oa, ba⟩ := hA
            obtain ⟨qb1, cb1, wb1, qb2, cb2, wb2, qb3, cb3, wb3, rb1, rb2, rb3, ob, bb⟩ := hB
            obtain ⟨qc1, cc1, wc1, qc2, cc2, wc2, qc3, cc3, wc3, rc1, rc2, rc3, oc, bc⟩ := hC
            rw [HX.out.2.2.1] at ra1 ra2 ra3 rb1 rb2 rb3 rc1 rc2 rc3
            rw [HX.out.2.2.2] at ra3 rb3 rc3
            have RA := Lib.hid (And.intro ra1 (And.intro ra2 ra3))
            have RB := Lib.hid (And.intro rb1 (And.intro rb2 rb3))
            have RC := Lib.hid (And.intro rc1 (And.intro rc2 rc3))
            have EA := Lib.hid (And.intro oa ba)
            have EB := Lib.hid (And.intro ob bb)
            have EC := Lib.hid (And.intro oc bc)
            clear ra1 ra2 ra3 rb1 rb2 rb3 rc1 rc2 rc3 oa ob oc ba bb bc hb2 ho2 BETX
            go_wp2_with (fail)
            go_region_law (first | (with_reducible (refine step_append_run ?_ (.tmp 66) (.tmp 69) 46 ?_ _ _ _ _ ?_ ?_ RA.out.1 ?_); rfl; rfl; simp [Act.eval, Act.put]; simp [Act.eval, Act.put]) | (with_reducible (refine step_append_run ?_ (.tmp 70) (.tmp 72) 46 ?_ _ _ _ _ ?_ ?_ RA.out.2.1 ?_); rfl; rfl; simp [Act.eval, Act.put]; simp [Act.eval, Act.put]) | (with_reducible (refine step_append_run ?_ (.tmp 73) (.tmp 76) 46 ?_ _ _ _ _ ?_ ?_ RA.out.2.2 ?_); rfl; rfl; simp [Act.eval, Act.put]; simp [Act.eval, Act.put]) | (with_reducible (refine step_append_run ?_ (.tmp 66) (.tmp 69) 46 ?_ _ _ _ _ ?_ ?_ RB.out.1 ?_); rfl; rfl; simp [Act.eval, Act.put]; simp [Act.eval, Act.put]) | (with_reducible (refine step_append_run ?_ (.tmp 70) (.tmp 72) 46 ?_ _ _ _ _ ?_ ?_ RB.out.2.1 ?_); rfl; rfl; simp [Act.eval, Act.put]; simp [Act.eval, Act.put]) | (with_reducible (refine step_append_run ?_ (.tmp 73) (.tmp 76) 46 ?_ _ _ _ _ ?_ ?_ RB.out.2.2 ?_); rfl; rfl; simp [Act.eval, Act.put]; simp [Act.eval, Act.put]) | (with_reducible (refine step_append_run ?_ (.tmp 66) (.tmp 69) 46 ?_ _ _ _ _ ?_ ?_ RC.out.1 ?_); rfl; rfl; simp [Act.eval, Act.put]; simp [Act.eval, Act.put]) | (with_reducible (refine step_append_run ?_ (.tmp 70) (.tmp 72) 46 ?_ _ _ _ _ ?_ ?_ RC.out.2.1 ?_); rfl; rfl; simp [Act.eval, Act.put]; simp [Act.eval, Act.put]) | (with_reducible (refine step_append_run ?_ (.tmp 73) (.tmp 76) 46 ?_ _ _ _ _ ?_ ?_ RC.out.2.2 ?_); rfl; rfl; simp [Act.eval, Act.put]; simp [Act.eval, Act.put]))
            all_goals go_wp2_with (fail)
            all_goals
              obtain ⟨i1, i2, i3, i4⟩ := HI.out
              have i5 := HM.out
              have i6 := HNN.out
              have good := hIN.out.1 (q2, d2, N) i6.1.symm i6.2
              first
                | exact ins_end HR.out.2.2.2.1 HR.out.2.1 B2.out O2.out EA.out good (by omega) i1 i2 (by omega) (by omega)
                | exact ins_end HR.out.2.2.2.1 HR.out.2.1 B2.out O2.out EB.out good (by omega) i1 i2 (by omega) (by omega)
                | exact ins_end HR.out.2.2.2.1 HR.out.2.1 B2.out O2.out EC.out good (by omega) i1 i2 (by omega) (by omega)
          · rw [hb] at BETX
            have HNE := Lib.hid hne
            clear hb hne
            go_wp2_with (fail)
            refine (BETX.out).mono ?_
            intro e w2 hpost
            obtain ⟨q2, d2, rfl, -, hb2⟩ : ∃ q c, e = .returned (.tuple #[.slice q 0 c, .int .i64 5]) ∧ OwnI w2 _ q c [] ∧ Below _ _ w2 := hpost
            have B2 := Lib.hid hb2
            clear hb2 BETX
            go_wp2_with (fail)
            obtain ⟨i1, i2, i3, i4⟩ := HI.out
            have i5 := HM.out
            exact ins_same ⟨HR.out.1, HR.out.2.1, HR.out.2.2.1, HR.out.2.2.2.1, HR.out.2.2.2.2.1, HR.out.2.2.2.2.2⟩ B2.out HNE.out i1 i2 (by omega) (by omega)
        · have cl : _ = some (Value.slice lp ll.length lc) := hcell (a - 1) _ (hlK ha0)
          obtain ⟨s, hs⟩ : ∃ s, a = s + 1 := ⟨a - 1, by omega⟩
          have HSS := Lib.hid hs
          have E1 := Lib.hid (show (a : Int) - 1 = (s : Int) by omega)
          have gs : (s : Int) < (m : Int) := by omega
          rw [show a - 1 = s by omega] at cl
          clear hs
          have ga0 : (0 : Int) < (a : Int) := by omega
          have gam : (a : Int) ≤ (m : Int) := by omega
          rcases Nat.lt_or_ge a m with ham2 | ham2
          · have cr : _ = some (Value.slice rp rl.length rc) := hcell a _ (hrK ham2)
            have gam2 : (a : Int) < (m : Int) := by omega
            have hca : ¬ c = a := by omega
            have hmem : HoldsK wr (some ⟨g, 0, none⟩) (ks.take a) := hhold.take a
            have hmem2 : HoldsK wr (some ⟨g, a, none⟩) (ks.drop a) := by simpa using hhold.drop a
            have HX := Lib.hid (And.intro hmem (And.intro hmem2 (And.intro htake hdrop)))
            clear hmem hmem2 hown hhold hnil htake hdrop hm hlK hrK hl0 hr0
            go_upto_region 11 with fail
            try simp only [HAT.out]
            have e1 := E1.out
            rcases hbet with ⟨hb, hk0⟩ | ⟨hb, hne⟩
            · rw [hb] at BETX
              obtain ⟨N, hN⟩ : ∃ N, newP up ll rl = N := ⟨_, rfl⟩
              rw [hN] at BETX hk0
              have hN480 := checkP_len hk0
              have HNN := Lib.hid (And.intro hN hk0)
              have gN : (N.length : Int) ≤ 480 := by omega
              clear hb hN hk0 hN480
              go_wp2_with (fail)
              refine (BETX.out).mono ?_
              intro e w2 hpost
              obtain ⟨q2, d2, rfl, ho2, hb2⟩ : ∃ q c, e = .returned (.tuple #[.slice q N.length c, .int .i64 0]) ∧ OwnI w2 _ q c N ∧ Below _ _ w2 := hpost
              have B2 := Lib.hid hb2
              have O2 := Lib.hid ho2
              obtain ⟨hA, hB, hC⟩ := ins_three w2 (ks.take a) (ks.drop a) (q2, d2, N) (some ⟨g, 0, none⟩) (some ⟨g, a, none⟩) c (c - a) (HX.out.1.below hb2) (HX.out.2.1.below hb2) (fun e => by first | rfl | cases e) (fun e => by first | rfl | cases e) (by rw [HX.out.2.2.1, HX.out.2.2.2]; omega)
              obtain ⟨qa1, ca1, wa1, qa2, ca2, wa2, qa3, ca3, wa3, ra1, ra2, ra3, oa, ba⟩ := hA
              obtain ⟨qb1, cb1, wb1, qb2, cb2, wb2, qb3, cb3, wb3, rb1, rb2, rb3, ob, bb⟩ := hB
              obtain ⟨qc1, cc1, wc1, qc2, cc2, wc2, qc3, cc3, wc3, rc1, rc2, rc3, oc, bc⟩ := hC
              rw [HX.out.2.2.1] at ra1 ra2 ra3 rb1 rb2 rb3 rc1 rc2 rc3
              rw [HX.out.2.2.2] at ra3 rb3 rc3
              have RA := Lib.hid (And.intro ra1 (And.intro ra2 ra3))
              have RB := Lib.hid (And.intro rb1 (And.intro rb2 rb3))
              have RC := Lib.hid (And.intro rc1 (And.intro rc2 rc3))
              have EA := Lib.hid (And.intro oa ba)
              have EB := Lib.hid (And.intro ob bb)
              have EC := Lib.hid (And.intro oc bc)
              clear ra1 ra2 ra3 rb1 rb2 rb3 rc1 rc2 rc3 oa ob oc ba bb bc hb2 ho2 BETX
              go_wp2_with (fail)
              go_region_law (first | (with_reducible (refine step_append_run ?_ (.tmp 66) (.tmp 69) 46 ?_ _ _ _ _ ?_ ?_ RA.out.1 ?_); rfl; rfl; simp [Act.eval, Act.put]; simp [Act.eval, Act.put]) | (with_reducible (refine step_append_run ?_ (.tmp 70) (.tmp 72) 46 ?_ _ _ _ _ ?_ ?_ RA.out.2.1 ?_); rfl; rfl; simp [Act.eval, Act.put]; simp [Act.eval, Act.put]) | (with_reducible (refine step_append_run ?_ (.tmp 73) (.tmp 76) 46 ?_ _ _ _ _ ?_ ?_ RA.out.2.2 ?_); rfl; rfl; simp [Act.eval, Act.put]; simp [Act.eval, Act.put]) | (with_reducible (refine step_append_run ?_ (.tmp 66) (.tmp 69) 46 ?_ _ _ _ _ ?_ ?_ RB.out.1 ?_); rfl; rfl; simp [Act.eval, Act.put]; simp [Act.eval, Act.put]) | (with_reducible (refine step_append_run ?_ (.tmp 70) (.tmp 72) 46 ?_ _ _ _ _ ?_ ?_ RB.out.2.1 ?_); rfl; rfl; simp [Act.eval, Act.put]; simp [Act.eval, Act.put]) | (with_reducible (refine step_append_run ?_ (.tmp 73) (.tmp 76) 46 ?_ _ _ _ _ ?_ ?_ RB.out.2.2 ?_); rfl; rfl; simp [Act.eval, Act.put]; simp [Act.eval, Act.put]) | (with_reducible (refine step_append_run ?_ (.tmp 66) (.tmp 69) 46 ?_ _ _ _ _ ?_ ?_ RC.out.1 ?_); rfl; rfl; simp [Act.eval, Act.put]; simp [Act.eval, Act.put]) | (with_reducible (refine step_append_run ?_ (.tmp 70) (.tmp 72) 46 ?_ _ _ _ _ ?_ ?_ RC.out.2.1 ?_); rfl; rfl; simp [Act.eval, Act.put]; simp [Act.eval, Act.put]) | (with_reducible (refine step_append_run ?_ (.tmp 73) (.tmp 76) 46 ?_ _ _ _ _ ?_ ?_ RC.out.2.2 ?_); rfl; rfl; simp [Act.eval, Act.put]; simp [Act.eval, Act.put]))
              all_goals go_wp2_with (fail)
              all_goals
                obtain ⟨i1, i2, i3, i4⟩ := HI.out
                have i5 := HM.out
                have i6 := HNN.out
                have good := hIN.out.1 (q2, d2, N) i6.1.symm i6.2
                first
                  | exact ins_end HR.out.2.2.2.1 HR.out.2.1 B2.out O2.out EA.out good (by omega) i1 i2 (by omega) (by omega)
                  | exact ins_end HR.out.2.2.2.1 HR.out.2.1 B2.out O2.out EB.out good (by omega) i1 i2 (by omega) (by omega)
                  | exact ins_end HR.out.2.2.2.1 HR.out.2.1 B2.out O2.out EC.out good (by omega) i1 i2 (by omega) (by omega)
            · rw [hb] at BETX
              have HNE := Lib.hid hne
              clear hb hne
              go_wp2_with (fail)
              refine (BETX.out).mono ?_
              intro e w2 hpost
              obtain ⟨q2, d2, rfl, -, hb2⟩ : ∃ q c, e = .returned (.tuple #[.slice q 0 c, .int .i64 5]) ∧ OwnI w2 _ q c [] ∧ Below _ _ w2 := hpost
              have B2 := Lib.hid hb2
              clear hb2 BETX
              go_wp2_with (fail)
              obtain ⟨i1, i2, i3, i4⟩ := HI.out
              have i5 := HM.out
              exact ins_same ⟨HR.out.1, HR.out.2.1, HR.out.2.2.1, HR.out.2.2.2.1, HR.out.2.2.2.2.1, HR.out.2.2.2.2.2⟩ B2.out HNE.out i1 i2 (by omega) (by omega)
          · by_cases hca : c = a
            · obtain rfl : a = m := by omega
              have e2 := hr0 (by omega)
              unfold noKid at e2
              cases e2
              have hmem : HoldsK wr (some ⟨g, 0, none⟩) (ks.take a) := hhold.take a
              obtain rfl : c = a := hca
              have hmem2 : HoldsK wr (some ⟨g, 0, none⟩) (ks.drop c) := fun h => by rw [hdrop] at h; omega
              have HX := Lib.hid (And.intro hmem (And.intro hmem2 (And.intro htake hdrop)))
              clear hmem hmem2 hown hhold hnil htake hdrop hm hlK hrK hl0 hr0
              go_upto_region 11 with fail
              try simp only [HAT.out]
              have e1 := E1.out
              rcases hbet with ⟨hb, hk0⟩ | ⟨hb, hne⟩
              · rw [hb] at BETX
                obtain ⟨N, hN⟩ : ∃ N, newP up ll [] = N := ⟨_, rfl⟩
                rw [hN] at BETX hk0
                have hN480 := checkP_len hk0
                have HNN := Lib.hid (And.intro hN hk0)
                have gN : (N.length : Int) ≤ 480 := by omega
                clear hb hN hk0 hN480
                go_wp2_with (fail)
                refine (BETX.out).mono ?_
                intro e w2 hpost
                obtain ⟨q2, d2, rfl, ho2, hb2⟩ : ∃ q c, e = .returned (.tuple #[.slice q N.length c, .int .i64 0]) ∧ OwnI w2 _ q c N ∧ Below _ _ w2 := hpost
                have B2 := Lib.hid hb2
                have O2 := Lib.hid ho2
                obtain ⟨hA, hB, hC⟩ := ins_three w2 (ks.take c) (ks.drop c) (q2, d2, N) (some ⟨g, 0, none⟩) (some ⟨g, 0, none⟩) c 0 (HX.out.1.below hb2) (HX.out.2.1.below hb2) (fun e => by first | rfl | cases e) (fun e => by first | rfl | cases e) (by rw [HX.out.2.2.1, HX.out.2.2.2]; omega)
                obtain ⟨qa1, ca1, wa1, qa2, ca2, wa2, qa3, ca3, wa3, ra1, ra2, ra3, oa, ba⟩ := hA
                obtain ⟨qb1, cb1, wb1, qb2, cb2, wb2, qb3, cb3, wb3, rb1, rb2, rb3, ob, bb⟩ := hB
                obtain ⟨qc1, cc1, wc1, qc2, cc2, wc2, qc3, cc3, wc3, rc1, rc2, rc3, oc, bc⟩ := hC
                rw [HX.out.2.2.1] at ra1 ra2 ra3 rb1 rb2 rb3 rc1 rc2 rc3
                rw [HX.out.2.2.2] at ra3 rb3 rc3
                have RA := Lib.hid (And.intro ra1 (And.intro ra2 ra3))
                have RB := Lib.hid (And.intro rb1 (And.intro rb2 rb3))
                have RC := Lib.hid (And.intro rc1 (And.intro rc2 rc3))
                have EA := Lib.hid (And.intro oa ba)
                have EB := Lib.hid (And.intro ob bb)
                have EC := Lib.hid (And.intro oc bc)
                clear ra1 ra2 ra3 rb1 rb2 rb3 rc1 rc2 rc3 oa ob oc ba bb bc hb2 ho2 BETX
                go_wp2_with (fail)
                go_region_law (first | (with_reducible (refine step_append_run ?_ (.tmp 66) (.tmp 69) 46 ?_ _ _ _ _ ?_ ?_ RA.out.1 ?_); rfl; rfl; simp [Act.eval, Act.put]; simp [Act.eval, Act.put]) | (with_reducible (refine step_append_run ?_ (.tmp 70) (.tmp 72) 46 ?_ _ _ _ _ ?_ ?_ RA.out.2.1 ?_); rfl; rfl; simp [Act.eval, Act.put]; simp [Act.eval, Act.put]) | (with_reducible (refine step_append_run ?_ (.tmp 73) (.tmp 76) 46 ?_ _ _ _ _ ?_ ?_ RA.out.2.2 ?_); rfl; rfl; simp [Act.eval, Act.put]; simp [Act.eval, Act.put]) | (with_reducible (refine step_append_run ?_ (.tmp 66) (.tmp 69) 46 ?_ _ _ _ _ ?_ ?_ RB.out.1 ?_); rfl; rfl; simp [Act.eval, Act.put]; simp [Act.eval, Act.put]) | (with_reducible (refine step_append_run ?_ (.tmp 70) (.tmp 72) 46 ?_ _ _ _ _ ?_ ?_ RB.out.2.1 ?_); rfl; rfl; simp [Act.eval, Act.put]; simp [Act.eval, Act.put]) | (with_reducible (refine step_append_run ?_ (.tmp 73) (.tmp 76) 46 ?_ _ _ _ _ ?_ ?_ RB.out.2.2 ?_); rfl; rfl; simp [Act.eval, Act.put]; simp [Act.eval, Act.put]) | (with_reducible (refine step_append_run ?_ (.tmp 66) (.tmp 69) 46 ?_ _ _ _ _ ?_ ?_ RC.out.1 ?_); rfl; rfl; simp [Act.eval, Act.put]; simp [Act.eval, Act.put]) | (with_reducible (refine step_append_run ?_ (.tmp 70) (.tmp 72) 46 ?_ _ _ _ _ ?_ ?_ RC.out.2.1 ?_); rfl; rfl; simp [Act.eval, Act.put]; simp [Act.eval, Act.put]) | (with_reducible (refine step_append_run ?_ (.tmp 73) (.tmp 76) 46 ?_ _ _ _ _ ?_ ?_ RC.out.2.2 ?_); rfl; rfl; simp [Act.eval, Act.put]; simp [Act.eval, Act.put]))
                all_goals go_wp2_with (fail)
                all_goals
                  obtain ⟨i1, i2, i3, i4⟩ := HI.out
                  have i5 := HM.out
                  have i6 := HNN.out
                  have good := hIN.out.1 (q2, d2, N) i6.1.symm i6.2
                  first
                    | exact ins_end HR.out.2.2.2.1 HR.out.2.1 B2.out O2.out EA.out good (by omega) i1 i2 (by omega) (by omega)
                    | exact ins_end HR.out.2.2.2.1 HR.out.2.1 B2.out O2.out EB.out good (by omega) i1 i2 (by omega) (by omega)
                    | exact ins_end HR.out.2.2.2.1 HR.out.2.1 B2.out O2.out EC.out good (by omega) i1 i2 (by omega) (by omega)
              · rw [hb] at BETX
                have HNE := Lib.hid hne
                clear hb hne
                go_wp2_with (fail)
                refine (BETX.out).mono ?_
                intro e w2 hpost
                obtain ⟨q2, d2, rfl, -, hb2⟩ : ∃ q c, e = .returned (.tuple #[.slice q 0 c, .int .i64 5]) ∧ OwnI w2 _ q c [] ∧ Below _ _ w2 := hpost
                have B2 := Lib.hid hb2
                clear hb2 BETX
                go_wp2_with (fail)
                obtain ⟨i1, i2, i3, i4⟩ := HI.out
                have i5 := HM.out
                exact ins_same ⟨HR.out.1, HR.out.2.1, HR.out.2.2.1, HR.out.2.2.2.1, HR.out.2.2.2.2.1, HR.out.2.2.2.2.2⟩ B2.out HNE.out i1 i2 (by omega) (by omega)
            · obtain rfl : a = m := by omega
              have e2 := hr0 (by omega)
              unfold noKid at e2
              cases e2
              have hmem : HoldsK wr (some ⟨g, 0, none⟩) (ks.take a) := hhold.take a
              have hmem2 : HoldsK wr (some ⟨g, a, none⟩) (ks.drop a) := fun h => by rw [hdrop] at h; omega
              have HX := Lib.hid (And.intro hmem (And.intro hmem2 (And.intro htake hdrop)))
              clear hmem hmem2 hown hhold hnil htake hdrop hm hlK hrK hl0 hr0
              go_upto_region 11 with fail
              try simp only [HAT.out]
              have e1 := E1.out
              rcases hbet with ⟨hb, hk0⟩ | ⟨hb, hne⟩
              · rw [hb] at BETX
                obtain ⟨N, hN⟩ : ∃ N, newP up ll [] = N := ⟨_, rfl⟩
                rw [hN] at BETX hk0
                have hN480 := checkP_len hk0
                have HNN := Lib.hid (And.intro hN hk0)
                have gN : (N.length : Int) ≤ 480 := by omega
                clear hb hN hk0 hN480
                go_wp2_with (fail)
                refine (BETX.out).mono ?_
                intro e w2 hpost
                obtain ⟨q2, d2, rfl, ho2, hb2⟩ : ∃ q c, e = .returned (.tuple #[.slice q N.length c, .int .i64 0]) ∧ OwnI w2 _ q c N ∧ Below _ _ w2 := hpost
                have B2 := Lib.hid hb2
                have O2 := Lib.hid ho2
                obtain ⟨hA, hB, hC⟩ := ins_three w2 (ks.take a) (ks.drop a) (q2, d2, N) (some ⟨g, 0, none⟩) (some ⟨g, a, none⟩) c (c - a) (HX.out.1.below hb2) (HX.out.2.1.below hb2) (fun e => by first | rfl | cases e) (fun e => by first | rfl | cases e) (by rw [HX.out.2.2.1, HX.out.2.2.2]; omega)
                obtain ⟨qa1, ca1, wa1, qa2, ca2, wa2, qa3, ca3, wa3, ra1, ra2, ra3, oa, ba⟩ := hA
                obtain ⟨qb1, cb1, wb1, qb2, cb2, wb2, qb3, cb3, wb3, rb1, rb2, rb3, ob, bb⟩ := hB
                obtain ⟨qc1, cc1, wc1, qc2, cc2, wc2, qc3, cc3, wc3, rc1, rc2, rc3, oc, bc⟩ := hC
                rw [HX.out.2.2.1] at ra1 ra2 ra3 rb1 rb2 rb3 rc1 rc2 rc3
                rw [HX.out.2.2.2] at ra3 rb3 rc3
                have RA := Lib.hid (And.intro ra1 (And.intro ra2 ra3))
                have RB := Lib.hid (And.intro rb1 (And.intro rb2 rb3))
                have RC := Lib.hid (And.intro rc1 (And.intro rc2 rc3))
                have EA := Lib.hid (And.intro oa ba)
                have EB := Lib.hid (And.intro ob bb)
                have EC := Lib.hid (And.intro oc bc)
                clear ra1 ra2 ra3 rb1 rb2 rb3 rc1 rc2 rc3 oa ob oc ba bb bc hb2 ho2 BETX
                go_wp2_with (fail)
                go_region_law (first | (with_reducible (refine step_append_run ?_ (.tmp 66) (.tmp 69) 46 ?_ _ _ _ _ ?_ ?_ RA.out.1 ?_); rfl; rfl; simp [Act.eval, Act.put]; simp [Act.eval, Act.put]) | (with_reducible (refine step_append_run ?_ (.tmp 70) (.tmp 72) 46 ?_ _ _ _ _ ?_ ?_ RA.out.2.1 ?_); rfl; rfl; simp [Act.eval, Act.put]; simp [Act.eval, Act.put]) | (with_reducible (refine step_append_run ?_ (.tmp 73) (.tmp 76) 46 ?_ _ _ _ _ ?_ ?_ RA.out.2.2 ?_); rfl; rfl; simp [Act.eval, Act.put]; simp [Act.eval, Act.put]) | (with_reducible (refine step_append_run ?_ (.tmp 66) (.tmp 69) 46 ?_ _ _ _ _ ?_ ?_ RB.out.1 ?_); rfl; rfl; simp [Act.eval, Act.put]; simp [Act.eval, Act.put]) | (with_reducible (refine step_append_run ?_ (.tmp 70) (.tmp 72) 46 ?_ _ _ _ _ ?_ ?_ RB.out.2.1 ?_); rfl; rfl; simp [Act.eval, Act.put]; simp [Act.eval, Act.put]) | (with_reducible (refine step_append_run ?_ (.tmp 73) (.tmp 76) 46 ?_ _ _ _ _ ?_ ?_ RB.out.2.2 ?_); rfl; rfl; simp [Act.eval, Act.put]; simp [Act.eval, Act.put]) | (with_reducible (refine step_append_run ?_ (.tmp 66) (.tmp 69) 46 ?_ _ _ _ _ ?_ ?_ RC.out.1 ?_); rfl; rfl; simp [Act.eval, Act.put]; simp [Act.eval, Act.put]) | (with_reducible (refine step_append_run ?_ (.tmp 70) (.tmp 72) 46 ?_ _ _ _ _ ?_ ?_ RC.out.2.1 ?_); rfl; rfl; simp [Act.eval, Act.put]; simp [Act.eval, Act.put]) | (with_reducible (refine step_append_run ?_ (.tmp 73) (.tmp 76) 46 ?_ _ _ _ _ ?_ ?_ RC.out.2.2 ?_); rfl; rfl; simp [Act.eval, Act.put]; simp [Act.eval, Act.put]))
                all_goals go_wp2_with (fail)
                all_goals
                  obtain ⟨i1, i2, i3, i4⟩ := HI.out
                  have i5 := HM.out
                  have i6 := HNN.out
                  have good := hIN.out.1 (q2, d2, N) i6.1.symm i6.2
                  first
                    | exact ins_end HR.out.2.2.2.1 HR.out.2.1 B2.out O2.out EA.out good (by omega) i1 i2 (by omega) (by omega)
                    | exact ins_end HR.out.2.2.2.1 HR.out.2.1 B2.out O2.out EB.out good (by omega) i1 i2 (by omega) (by omega)
                    | exact ins_end HR.out.2.2.2.1 HR.out.2.1 B2.out O2.out EC.out good (by omega) i1 i2 (by omega) (by omega)
              · rw [hb] at BETX
                have HNE := Lib.hid hne
                clear hb hne
                go_wp2_with (fail)
                refine (BETX.out).mono ?_
                intro e w2 hpost
                obtain ⟨q2, d2, rfl, -, hb2⟩ : ∃ q c, e = .returned (.tuple #[.slice q 0 c, .int .i64 5]) ∧ OwnI w2 _ q c [] ∧ Below _ _ w2 := hpost
                have B2 := Lib.hid hb2
                clear hb2 BETX
                go_wp2_with (fail)
                obtain ⟨i1, i2, i3, i4⟩ := HI.out
                have i5 := HM.out
                exact ins_same ⟨HR.out.1, HR.out.2.1, HR.out.2.2.1, HR.out.2.2.2.1, HR.out.2.2.2.2.1, HR.out.2.2.2.2.2⟩ B2.out HNE.out i1 i2 (by omega) (by omega)
    · have hcase : i = n ∨ (i < n ∧ i = 120) := by omega
      obtain ⟨m, hm⟩ : ∃ m, ks.length = m := ⟨_, rfl⟩
      have HM := Lib.hid hm
      rw [hm] at hki ⊢
      have gm : (m : Int) ≤ 120 := by omega
      have HEX := Lib.hid hki
      rcases hcase with rfl | ⟨hl1, hi120⟩
      · clear hi hi2 hki hm hlt
        go_wp2_with (fail)
        go_loopw [13, 81] (fun v13 v81 w2 => Ins2Rel wr ks v13 v81 w2) (fun _ v _ => m - (intOf v).toNat)
        case atStart => exact ⟨0, none, 0, [], rfl, rfl, Nat.zero_le _, Lib.hid ⟨fun h => absurd h (Nat.lt_irrefl _), Below.refl _ _, fun x h => by simp at h, fun h => absurd h (Nat.lt_irrefl _)⟩⟩
        case round =>
          obtain ⟨j, ql, cl, L, rfl, rfl, hj, HJ⟩ := hrel
          rw [HM.out] at hj
          have gj : (j : Int) ≤ (m : Int) := by omega
          by_cases hjm : j < m
          · have hb := HJ.out.2.1
            obtain ⟨b, boff, rfl, hcell⟩ := (HR.out.1.holds.below hb) (by rw [HM.out]; omega)
            have hk := kid_at (ks := ks) (i := j) (by rw [HM.out]; exact hjm)
            have ck := hcell j _ hk
            obtain ⟨g1, g2, g3⟩ := HR.out.2.2.1.1 j _ hk
            obtain ⟨k1, k2, k3⟩ := (HR.out.2.2.2.1.far hb) j _ hk
            have hless : ∀ k0, 0 < j → ks[j - 1]? = some k0 → _ := fun k0 (h0 : 0 < j) (e : ks[j - 1]? = some k0) => kids_less HR.out.2.2.1 e (by rw [show j - 1 + 1 = j by omega]; exact hk)
            have hprev : 0 < j → Op.bytesLess (strU L).toList (strU (packB (bitsL (ks.getD j noKid).2.2))).toList = true := by
              intro h0
              obtain ⟨k0, e0, e1⟩ := HJ.out.2.2.2 h0
              rw [e1]
              exact hless k0 h0 e0
            generalize ks.getD j noKid = k at *
            obtain ⟨kp, kc, kl⟩ := k
            simp only at g1 g2 g3 k1 k2 k3 hprev
            have ck2 : _ = some (Value.slice kp kl.length kc) := ck
            have hkl := checkP_len g1
            have BY := Lib.hid (bytes_ok kp kl kc wr (by omega) k2 k1 g1)
            have UPX := Lib.hid (fun W (h : Below wr.heap.size wr W) => up_any kp kl kc W (by omega) k2 (k1.below h) k3)
            rw [g2] at UPX
            have BW := Lib.hid (t_cat HR.out.2.1 hb)
            have HKJ := Lib.hid (And.intro hk (And.intro hjm hb))
            have HPV := Lib.hid hprev
            have gjm : (j : Int) < (m : Int) := by omega
            have gkl : (kl.length : Int) ≤ 480 := by omega
            clear hcell hk ck g1 g2 g3 k1 k2 k3 hless hprev hkl hj hjm hb
            rcases Nat.eq_zero_or_pos j with hj0 | hj0
            all_goals
              have HJ0 := Lib.hid hj0
              try have gj0 : (0 : Int) < (j : Int) := by omega
              try have gj1 : decide ((0 : Int) < (j : Int)) = false := decide_eq_false (by omega)
              try have gj2 : decide (0 < j) = false := decide_eq_false (by omega)
              clear hj0
              go_wp2_with (fail)
              refine (BY.out).mono ?_
              rintro e w3 ⟨q3, d3, rfl, ho, hb3⟩
              have C1 := conv_any w3 ql cl L (HJ.out.1.below hb3)
              have C2 : (convert 23 9 (.slice q3 (sizeP kl) d3)).run Try.prog w3 = .ok (.string (strU (packB (bitsL kl)))) w3 := by
                have := conv_any w3 q3 d3 (packB (bitsL kl)) ho.holds
                rwa [packB_length] at this
              have UP1 := Lib.hid (UPX.out w3 hb3)
              have B3 := Lib.hid (t_cat BW.out hb3)
              have O3 := Lib.hid (And.intro ho hb3)
              have hp2 := HPV.out
              generalize strU L = s1 at *
              generalize strU (packB (bitsL kl)) = s2 at *
              try have hp3 := hp2 HJ0.out
              clear ho hb3 BY UPX hp2
              go_wp2_with (fail)
              refine (UP1.out).mono ?_
              rintro e w4 ⟨q4, d4, rfl, ho4, hb4⟩
              have B4 := Lib.hid (t_cat B3.out hb4)
              have SU := Lib.hid (SUP.out w4 q4 d4 B4.out ho4.holds ho4.2.2)
              have O4 := Lib.hid (And.intro (O3.out.1.holds.below hb4) (t_cat O3.out.2 hb4))
              clear ho4 hb4 UP1 B3 O3
              go_wp2_with (fail)
              refine (SU.out).mono ?_
              rintro e w5 ⟨rfl, hb5⟩
              have O5 := Lib.hid (And.intro (O4.out.1.below hb5) (t_cat HKJ.out.2.2 (t_cat O4.out.2 hb5)))
              clear hb5 SU B4 O4
              go_wp2_with (fail)
              have h1 := HKJ.out.1
              have h2 := HKJ.out.2.1
              go_round
              case rel => exact ⟨j + 1, q3, d3, packB (bitsL kl), slice_n (packB_length _).symm, by go_num, by rw [HM.out]; exact h2, Lib.hid ⟨O5.out.1, O5.out.2, packB_lt _, fun _ => ⟨_, h1, rfl⟩⟩⟩
              case measure => simp [intOf]; omega
          · obtain rfl : j = m := by omega
            have BF := Lib.hid (t_cat HR.out.2.1 HJ.out.2.1)
            have hnon := HR.out.2.2.2.2.1
            have HMM := HM.out
            rcases Nat.eq_zero_or_pos j with hj0 | hj0
            · have hks : ks = [] := List.eq_nil_of_length_eq_zero (by omega)
              have t0 : decide ((0 : Int) < (j : Int)) = false := decide_eq_false (by omega)
              have t0b : decide (0 < j) = false := decide_eq_false (by omega)
              rcases Nat.eq_zero_or_pos i with hi0 | hi0
              · have t1 : (((i : Nat) : Int) == 0) = true := by rw [beq_iff_eq]; omega
                clear hks hnon hj0 hjm HMM
                go_wp2_with (fail)
                go_ret
                exact ⟨rfl, BF.out⟩
              · have hup : up.length ≠ 0 := fun e => hnon hi0 e hks
                have t1 : (((i : Nat) : Int) == 0) = false := by rw [beq_eq_false_iff_ne]; omega
                have t2 : decide ((0 : Int) < (up.length : Int)) = true := decide_eq_true (by omega)
                have t3 : decide (0 < up.length) = true := decide_eq_true (by omega)
                have T3 := Lib.hid t3
                clear hks hnon hj0 hjm HMM hup hi0
                go_wp2_with (fail)
                go_ret
                exact ⟨by first | rfl | (rw [T3.out]; rfl), BF.out⟩
            · have t0 : decide ((0 : Int) < (j : Int)) = true := decide_eq_true (by omega)
              have t0b : decide (0 < j) = true := decide_eq_true (by omega)
              clear hnon hj0 hjm HMM
              go_wp2_with (fail)
              go_ret
              exact ⟨rfl, BF.out⟩
      · obtain ⟨g0, off, rfl, hc⟩ := (H2.out.below HR.out.2.1) (by rw [HN.out]; omega)
        have c0 := hc i (by rw [HN.out]; exact hl1)
        generalize pl.getD i 0 = x at *
        have gi : (i : Int) < (n : Int) := by omega
        have gi2 : (120 : Int) ≤ (i : Int) := by omega
        have HI120 := Lib.hid hi120
        clear hc hi hi2 hki hm hlt hl1 hi120
        go_wp2_with (fail)
        go_loopw [13, 81] (fun v13 v81 w2 => Ins2Rel wr ks v13 v81 w2) (fun _ v _ => m - (intOf v).toNat)
        case atStart => exact ⟨0, none, 0, [], rfl, rfl, Nat.zero_le _, Lib.hid ⟨fun h => absurd h (Nat.lt_irrefl _), Below.refl _ _, fun x h => by simp at h, fun h => absurd h (Nat.lt_irrefl _)⟩⟩
        case round =>
          obtain ⟨j, ql, cl, L, rfl, rfl, hj, HJ⟩ := hrel
          rw [HM.out] at hj
          have gj : (j : Int) ≤ (m : Int) := by omega
          by_cases hjm : j < m
          · have hb := HJ.out.2.1
            obtain ⟨b, boff, rfl, hcell⟩ := (HR.out.1.holds.below hb) (by rw [HM.out]; omega)
            have hk := kid_at (ks := ks) (i := j) (by rw [HM.out]; exact hjm)
            have ck := hcell j _ hk
            obtain ⟨g1, g2, g3⟩ := HR.out.2.2.1.1 j _ hk
            obtain ⟨k1, k2, k3⟩ := (HR.out.2.2.2.1.far hb) j _ hk
            have hless : ∀ k0, 0 < j → ks[j - 1]? = some k0 → _ := fun k0 (h0 : 0 < j) (e : ks[j - 1]? = some k0) => kids_less HR.out.2.2.1 e (by rw [show j - 1 + 1 = j by omega]; exact hk)
            have hprev : 0 < j → Op.bytesLess (strU L).toList (strU (packB (bitsL (ks.getD j noKid).2.2))).toList = true := by
              intro h0
              obtain ⟨k0, e0, e1⟩ := HJ.out.2.2.2 h0
              rw [e1]
              exact hless k0 h0 e0
            generalize ks.getD j noKid = k at *
            obtain ⟨kp, kc, kl⟩ := k
            simp only at g1 g2 g3 k1 k2 k3 hprev
            have ck2 : _ = some (Value.slice kp kl.length kc) := ck
            have hkl := checkP_len g1
            have BY := Lib.hid (bytes_ok kp kl kc wr (by omega) k2 k1 g1)
            have UPX := Lib.hid (fun W (h : Below wr.heap.size wr W) => up_any kp kl kc W (by omega) k2 (k1.below h) k3)
            rw [g2] at UPX
            have BW := Lib.hid (t_cat HR.out.2.1 hb)
            have HKJ := Lib.hid (And.intro hk (And.intro hjm hb))
            have HPV := Lib.hid hprev
            have gjm : (j : Int) < (m : Int) := by omega
            have gkl : (kl.length : Int) ≤ 480 := by omega
            clear hcell hk ck g1 g2 g3 k1 k2 k3 hless hprev hkl hj hjm hb
            rcases Nat.eq_zero_or_pos j with hj0 | hj0
            all_goals
              have HJ0 := Lib.hid hj0
              try have gj0 : (0 : Int) < (j : Int) := by omega
              try have gj1 : decide ((0 : Int) < (j : Int)) = false := decide_eq_false (by omega)
              try have gj2 : decide (0 < j) = false := decide_eq_false (by omega)
              clear hj0
              go_wp2_with (fail)
              refine (BY.out).mono ?_
              rintro e w3 ⟨q3, d3, rfl, ho, hb3⟩
              have C1 := conv_any w3 ql cl L (HJ.out.1.below hb3)
              have C2 : (convert 23 9 (.slice q3 (sizeP kl) d3)).run Try.prog w3 = .ok (.string (strU (packB (bitsL kl)))) w3 := by
                have := conv_any w3 q3 d3 (packB (bitsL kl)) ho.holds
                rwa [packB_length] at this
              have UP1 := Lib.hid (UPX.out w3 hb3)
              have B3 := Lib.hid (t_cat BW.out hb3)
              have O3 := Lib.hid (And.intro ho hb3)
              have hp2 := HPV.out
              generalize strU L = s1 at *
              generalize strU (packB (bitsL kl)) = s2 at *
              try have hp3 := hp2 HJ0.out
              clear ho hb3 BY UPX hp2
              go_wp2_with (fail)
              refine (UP1.out).mono ?_
              rintro e w4 ⟨q4, d4, rfl, ho4, hb4⟩
              have B4 := Lib.hid (t_cat B3.out hb4)
              have SU := Lib.hid (SUP.out w4 q4 d4 B4.out ho4.holds ho4.2.2)
              have O4 := Lib.hid (And.intro (O3.out.1.holds.below hb4) (t_cat O3.out.2 hb4))
              clear ho4 hb4 UP1 B3 O3
              go_wp2_with (fail)
              refine (SU.out).mono ?_
              rintro e w5 ⟨rfl, hb5⟩
              have O5 := Lib.hid (And.intro (O4.out.1.below hb5) (t_cat HKJ.out.2.2 (t_cat O4.out.2 hb5)))
              clear hb5 SU B4 O4
              go_wp2_with (fail)
              have h1 := HKJ.out.1
              have h2 := HKJ.out.2.1
              go_round
              case rel => exact ⟨j + 1, q3, d3, packB (bitsL kl), slice_n (packB_length _).symm, by go_num, by rw [HM.out]; exact h2, Lib.hid ⟨O5.out.1, O5.out.2, packB_lt _, fun _ => ⟨_, h1, rfl⟩⟩⟩
              case measure => simp [intOf]; omega
          · obtain rfl : j = m := by omega
            have BF := Lib.hid (t_cat HR.out.2.1 HJ.out.2.1)
            have hnon := HR.out.2.2.2.2.1
            have HMM := HM.out
            rcases Nat.eq_zero_or_pos j with hj0 | hj0
            · have hks : ks = [] := List.eq_nil_of_length_eq_zero (by omega)
              have t0 : decide ((0 : Int) < (j : Int)) = false := decide_eq_false (by omega)
              have t0b : decide (0 < j) = false := decide_eq_false (by omega)
              rcases Nat.eq_zero_or_pos i with hi0 | hi0
              · exact absurd HI120.out (by omega)
              · have hup : up.length ≠ 0 := fun e => hnon hi0 e hks
                have t1 : (((n : Nat) : Int) == 0) = false := by rw [beq_eq_false_iff_ne]; omega
                have t2 : decide ((0 : Int) < (up.length : Int)) = true := decide_eq_true (by omega)
                have t3 : decide (0 < up.length) = true := decide_eq_true (by omega)
                have T3 := Lib.hid t3
                clear hks hnon hj0 hjm HMM hup hi0
                go_wp2_with (fail)
                go_ret
                exact ⟨by first | rfl | (rw [T3.out]; rfl), BF.out⟩
            · have t0 : decide ((0 : Int) < (j : Int)) = true := decide_eq_true (by omega)
              have t0b : decide (0 < j) = true := decide_eq_true (by omega)
              clear hnon hj0 hjm HMM
              go_wp2_with (fail)
              go_ret
              exact ⟨rfl, BF.out⟩
set_option maxRecDepth 100000 in
set_option maxHeartbeats 2000000 in
theorem ins_bad_walk (p1 p2 : Option Addr) (c1 c2 : Nat) (up pl : List Int) (w : World) (hu : up.length * 8 ≤ 140737488355328)
    (huc : up.length ≤ c1) (h1 : HoldsI w p1 up) (hk : ¬ checkP up = 0) :
    Calls Try.prog 9 #[.slice p1 up.length c1, .slice p2 pl.length c2] w fun e w' => e = .returned (.bool true) ∧ Below w.heap.size w w' := by
  have AW := Lib.hid (awake12_any w)
  have CK := Lib.hid (fun W (h : Below w.heap.size w W) => check_any p1 up c1 W (by omega) huc (h1.below h))
  have q0 : (checkP up == 0) = false := by rw [beq_eq_false_iff_ne]; exact hk
  generalize checkP up = x at *
  clear hu huc h1 hk
  go_enter Try.func9, Try.ntmps9
  go_wp2_with (fail)
  refine (AW.out).mono ?_
  rintro e w1 ⟨rfl, hb1⟩
  have B1 := Lib.hid hb1
  clear hb1 AW
  go_wp2_with (fail)
  refine (CK.out _ B1.out).mono ?_
  rintro e w' ⟨rfl, rfl⟩
  go_wp2_with (fail)
  go_ret
  exact ⟨rfl, B1.out⟩
theorem linserts_walk (p1 p2 : Option Addr) (c1 c2 : Nat) (up pl : List Int) (w : World) (hu : up.length * 8 ≤ 140737488355328) (hp : pl.length * 8 ≤ 140737488355328)
    (huc : up.length ≤ c1) (hpc : pl.length ≤ c2) (h1 : HoldsI w p1 up) (h2 : HoldsI w p2 pl) (hn1 : p1 = none → c1 = 0) :
    Calls Try.prog 9 #[.slice p1 up.length c1, .slice p2 pl.length c2] w fun e w' => e = .returned (.bool true) ∧ Below w.heap.size w w' := by
  by_cases hk : checkP up = 0
  · exact ins_good_walk p1 p2 c1 c2 up pl w hu hp huc hpc h1 h2 hn1 hk
  · exact ins_bad_walk p1 p2 c1 c2 up pl w hu huc h1 hk
end Go.Proofs.Ytaiiigknlnhdgaa
