/- Proved here: the law ReferJoins answers true at every two slices of at most 2^20 bytes, in every world that holds the library's two tables and refer's table of names; what was there stays. -/
import Derived.Test.YtdomhjjoijkeaaaDoorAwake2
import Derived.Test.YtdomhjjoijkeaaaDoorReadValue
import Derived.Test.YtdomhjjoijkeaaaDoorOwns
import Derived.Test.YtdomhjjoijkeaaaDoorJoinRefer
import Derived.BigGuardPart
namespace Go.Proofs.YtdomhjjoijkeaaaDoor
open Go.RowKit

theorem cat_str (x y : List UInt8) : (⟨(x ++ y).toArray⟩ : ByteArray) = ⟨x.toArray⟩ ++ ⟨y.toArray⟩ := by
  apply ByteArray.ext
  simp

set_option maxHeartbeats 8000000 in
set_option maxRecDepth 100000 in
theorem referJoins_go (p q : Option Addr) (a b : ByteArray) (c d : Nat) (w : World) (hT : Tabs w) (hN : NamedAt w) (ha : a.size ≤ 1048576) (hb : b.size ≤ 1048576) (hc : a.size ≤ c) (hd : b.size ≤ d) (hp : HoldsB w p a) (hq : HoldsB w q b) (hnp : p = none → c = 0) (hnq : q = none → d = 0)
    (S1 S2 S3 U1 U2 U3 : ByteArray) (m1 m2 m3 n1 n2 n3 : Nat) (z1 z2 z3 t1 t2 t3 : Int)
    (hv1 : (⟨(readF (stepV a) a.size).1.toArray⟩, (readF (stepV a) a.size).2.1, (readF (stepV a) a.size).2.2) = (S1, m1, z1)) (hv2 : (⟨(readF (stepV b) b.size).1.toArray⟩, (readF (stepV b) b.size).2.1, (readF (stepV b) b.size).2.2) = (S2, m2, z2)) (hv3 : (⟨(readF (stepV (a ++ b)) (a ++ b).size).1.toArray⟩, (readF (stepV (a ++ b)) (a ++ b).size).2.1, (readF (stepV (a ++ b)) (a ++ b).size).2.2) = (S3, m3, z3))
    (ht1 : (⟨(readF (stepT a) a.size).1.toArray⟩, (readF (stepT a) a.size).2.1, (readF (stepT a) a.size).2.2) = (U1, n1, t1)) (ht2 : (⟨(readF (stepT b) b.size).1.toArray⟩, (readF (stepT b) b.size).2.1, (readF (stepT b) b.size).2.2) = (U2, n2, t2)) (ht3 : (⟨(readF (stepT (a ++ b)) (a ++ b).size).1.toArray⟩, (readF (stepT (a ++ b)) (a ++ b).size).2.1, (readF (stepT (a ++ b)) (a ++ b).size).2.2) = (U3, n3, t3))
    (hsv : ¬ S1.size + S2.size > 9223372036854775807) (hst : ¬ U1.size + U2.size > 9223372036854775807)
    (hv : (z1 = 0 ∧ z2 = 0 ∧ z3 = 0 ∧ m3 = 0 ∧ S3 = S1 ++ S2) ∨ (z1 = 0 ∧ (z2 == 0) = false) ∨ (z1 == 0) = false)
    (ht : (t1 == 0) = false ∨ (t1 = 0 ∧ (t2 == 0) = false) ∨ (t1 = 0 ∧ t2 = 0 ∧ t3 = 0 ∧ U3 = U1 ++ U2) ∨ (t1 = 0 ∧ t2 = 0 ∧ t3 = 23 ∧ n3 < a.size ∧ a.size ≤ n3 + 2 ∧ by_ (a ++ b) n3 = 93)) :
    Calls Tryd.prog 8 #[.slice p a.size c, .slice q b.size d] w fun e w' => e = .returned (.bool true) ∧ Below w.heap.size w w' := by
  have A := Lib.hid (awake2_any w hT hN)
  have hz : (a ++ b).size = a.size + b.size := by simp
  have V1 := Lib.hid (fun W (h : Below w.heap.size w W) => value_read p a c W (by omega) hc (hT.below h) (hN.below h) (hp.below h))
  have V2 := Lib.hid (fun W (h : Below w.heap.size w W) => value_read q b d W (by omega) hd (hT.below h) (hN.below h) (hq.below h))
  have V3 := Lib.hid (fun g k W (h : Below w.heap.size w W) (hk : (a ++ b).size ≤ k) (hh : HoldsB W (some ⟨g, 0, none⟩) (a ++ b)) => value_read (some ⟨g, 0, none⟩) (a ++ b) k W (by omega) hk (hT.below h) (hN.below h) hh)
  have T1 := Lib.hid (fun W (h : Below w.heap.size w W) => text_read p a c W (by omega) hc (hT.below h) (hN.below h) (hp.below h))
  have T2 := Lib.hid (fun W (h : Below w.heap.size w W) => text_read q b d W (by omega) hd (hT.below h) (hN.below h) (hq.below h))
  have T3 := Lib.hid (fun g k W (h : Below w.heap.size w W) (hk : (a ++ b).size ≤ k) (hh : HoldsB W (some ⟨g, 0, none⟩) (a ++ b)) => text_read (some ⟨g, 0, none⟩) (a ++ b) k W (by omega) hk (hT.below h) (hN.below h) hh)
  simp only [Prod.mk.injEq] at hv1 hv2 hv3 ht1 ht2 ht3
  simp only [hv1.1, hv1.2.1, hv1.2.2] at V1
  simp only [hv2.1, hv2.2.1, hv2.2.2] at V2
  simp only [hv3.1, hv3.2.1, hv3.2.2] at V3
  simp only [ht1.1, ht1.2.1, ht1.2.2] at T1
  simp only [ht2.1, ht2.2.1, ht2.2.2] at T2
  simp only [ht3.1, ht3.2.1, ht3.2.2] at T3
  have HP := Lib.hid hp
  have HQ := Lib.hid hq
  have HNP := Lib.hid hnp
  have HNQ := Lib.hid hnq
  have HV := Lib.hid hv
  have HT := Lib.hid ht
  clear hT hN hp hq hnp hnq hv1 hv2 hv3 ht1 ht2 ht3 hv ht
  go_enter Tryd.func8, Tryd.ntmps8
  go_wp2_with (fail)
  refine A.out.mono ?_
  rintro e w1 ⟨rfl, hB1⟩
  obtain ⟨g1, k1, w4, hr1, ho1, hb4, _⟩ := append_first (HP.out.below hB1) HNP.out (by omega)
  obtain ⟨g2, k2, w5, hr2, ho2, hb5⟩ := append_next ho1 hb4 (HQ.out.below (below_cat hB1 hb4)) HNQ.out (by omega)
  have hB5 := below_cat hB1 hb5
  have hk2 : (a ++ b).size ≤ k2 := ho2.2.2.2
  have hh := ho2.holds
  have R1 := Lib.hid hr1
  have R2 := Lib.hid hr2
  have HH := Lib.hid hh
  clear hr1 ho1 hb4 hr2 ho2 hb5 hh hB1
  go_wp2_with (first | (at_builtin; refine wpList_append_eq rfl (.tmp 17) (.tmp 18) 22 rfl _ _ _ _ rfl rfl R1.out ?_) | (at_builtin; refine wpList_append_eq rfl (.tmp 19) (.tmp 20) 22 rfl _ _ _ _ rfl rfl R2.out ?_))
  refine (V1.out w5 hB5).mono ?_
  rintro e w6 ⟨rfl, hb6⟩
  have hB6 := below_cat hB5 hb6
  have HH6 := Lib.hid (HH.out.below hb6)
  clear hb6 hB5 HH R1 R2
  go_wp2_with (fail)
  refine (V2.out w6 hB6).mono ?_
  rintro e w7 ⟨rfl, hb7⟩
  have hB7 := below_cat hB6 hb7
  have HH7 := Lib.hid (HH6.out.below hb7)
  clear hb7 hB6 HH6
  go_wp2_with (fail)
  rw [← hz]
  refine (V3.out g2 k2 w7 hB7 hk2 HH7.out).mono ?_
  rintro e w8 ⟨rfl, hb8⟩
  have hB8 := below_cat hB7 hb8
  have HH8 := Lib.hid (HH7.out.below hb8)
  clear hb8 hB7 HH7
  rcases HV.out with ⟨rfl, rfl, rfl, rfl, rfl⟩ | ⟨rfl, f2⟩ | f1
  all_goals
    go_wp2_with (fail)
    refine (T1.out w8 hB8).mono ?_
    rintro e w9 ⟨rfl, hb9⟩
    have hB9 := below_cat hB8 hb9
    have HH9 := Lib.hid (HH8.out.below hb9)
    clear hb9 hB8 HH8
    go_wp2_with (fail)
    refine (T2.out w9 hB9).mono ?_
    rintro e w10 ⟨rfl, hb10⟩
    have hB10 := below_cat hB9 hb10
    have HH10 := Lib.hid (HH9.out.below hb10)
    clear hb10 hB9 HH9
    go_wp2_with (fail)
    rw [← hz]
    refine (T3.out g2 k2 w10 hB10 hk2 HH10.out).mono ?_
    rintro e w11 ⟨rfl, hb11⟩
    have hB11 := below_cat hB10 hb11
    have HH11 := Lib.hid (HH10.out.below hb11)
    clear hb11 hB10 HH10
    rcases HT.out with f3 | ⟨rfl, f4⟩ | ⟨rfl, rfl, rfl, rfl⟩ | ⟨rfl, rfl, rfl, f5, f6, f7⟩
    · go_wp2_with (fail)
      all_goals (go_ret; exact ⟨ret_bool (by simp), hB11⟩)
    · go_wp2_with (fail)
      all_goals (go_ret; exact ⟨ret_bool (by simp), hB11⟩)
    · go_wp2_with (fail)
      all_goals (go_ret; exact ⟨ret_bool (by simp), hB11⟩)
    · have hcell : w11.cell? ⟨g2, n3, none⟩ = some (.int .u8 93) := by
        obtain ⟨b', off', e', hc'⟩ := HH11.out (by omega)
        injection e' with e'
        injection e' with e1 e2
        subst e1 e2
        have := hc' n3 (by omega)
        rw [Nat.zero_add] at this
        rw [this]
        unfold by_ at f7
        rw [f7]
      have f8 : (n3 : Int) < (a.size : Int) := by omega
      have f9 : (a.size : Int) - (n3 : Int) ≤ 2 := by omega
      have f10 : n3 < a.size + b.size := by omega
      have f11 : (n3 : Int) < (a.size : Int) + (b.size : Int) := by omega
      clear f5 f6 f7
      go_wp2_with (fail)
      all_goals (go_ret; exact ⟨ret_bool (by simp), hB11⟩)

theorem referJoins_walk (p q : Option Addr) (a b : ByteArray) (c d : Nat) (w : World) (hT : Tabs w) (hN : NamedAt w) (ha : a.size ≤ 1048576) (hb : b.size ≤ 1048576) (hc : a.size ≤ c) (hd : b.size ≤ d) (hp : HoldsB w p a) (hq : HoldsB w q b) (hnp : p = none → c = 0) (hnq : q = none → d = 0) :
    Calls Tryd.prog 8 #[.slice p a.size c, .slice q b.size d] w fun e w' => e = .returned (.bool true) ∧ Below w.heap.size w w' := by
  have jv := join_all joinV a b
  have jt := join_all joinT a b
  refine referJoins_go p q a b c d w hT hN ha hb hc hd hp hq hnp hnq _ _ _ _ _ _ _ _ _ _ _ _ _ _ _ _ _ _ rfl rfl rfl rfl rfl rfl (by have h1 := readF_size joinV a; have h2 := readF_size joinV b; omega) (by have h1 := readF_size joinT a; have h2 := readF_size joinT b; omega) ?_ ?_
  · by_cases h1 : (readF (stepV a) a.size).2.2 = 0
    · by_cases h2 : (readF (stepV b) b.size).2.2 = 0
      · rcases jv h1 h2 with e | ⟨e, _⟩
        · refine .inl ⟨h1, h2, ?_, ?_, ?_⟩
          · rw [e]
          · rw [e]
          · rw [e]
            exact cat_str _ _
        · exact e.elim
      · exact .inr (.inl ⟨h1, by rw [beq_eq_false_iff_ne]; exact h2⟩)
    · exact .inr (.inr (by rw [beq_eq_false_iff_ne]; exact h1))
  · by_cases h1 : (readF (stepT a) a.size).2.2 = 0
    · by_cases h2 : (readF (stepT b) b.size).2.2 = 0
      · rcases jt h1 h2 with e | ⟨_, k, e, e1, e2, e3⟩
        · refine .inr (.inr (.inl ⟨h1, h2, ?_, ?_⟩))
          · rw [e]
          · rw [e]
            exact cat_str _ _
        · refine .inr (.inr (.inr ⟨h1, h2, ?_, ?_, ?_, ?_⟩))
          · rw [e]
          · rw [e]; exact e1
          · rw [e]; exact e2
          · rw [e]; exact e3
      · exact .inr (.inl ⟨h1, by rw [beq_eq_false_iff_ne]; exact h2⟩)
    · exact .inl (by rw [beq_eq_false_iff_ne]; exact h1)
end Go.Proofs.YtdomhjjoijkeaaaDoor
