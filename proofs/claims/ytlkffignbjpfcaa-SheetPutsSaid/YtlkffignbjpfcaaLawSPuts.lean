/- Proved here: the statement SheetPuts, walked: it answers true of every input, in every world. -/
import Derived.Test.YtlkffignbjpfcaaPutState
import Derived.Test.YtlkffignbjpfcaaDrumActs
import Derived.Test.YtlkffignbjpfcaaBoolKit
import Derived.Deep.DeepCutAuto
import Derived.Deep.CutBlock
import Derived.Deep.QuietTactic
import Derived.BigQuiet
import Derived.Deep.RegionHeld3
namespace Go.Proofs.Ytlkffignbjpfcaa
open Go.RowKit

set_option maxHeartbeats 1000000 in
theorem put_nil (n st : Int) (p : Option Addr) (m c : Nat) (w : World) :
    Calls Try.prog 12 #[.pointer none, .int .i64 n, .int .u64 st, .slice p m c] w fun e w' => e = .returned (.int .i64 2) ∧ Below w.heap.size w w' := by
  have PN : ∀ W, Calls Try.prog 47 #[.pointer none] W fun e W' => e = .returned (.tuple #[.agg #[.int .i64 0, .int .i64 0, .int .i64 0], .int .i64 2]) ∧ Below W.heap.size W W' := fun W => by
    go_enter Try.func47, Try.ntmps47
    go_wp2_with (fail)
    (try simp only [Exit.inBlock, Exit.then])
    refine bodyPost_ret (v := .tuple #[.agg #[.int .i64 0, .int .i64 0, .int .i64 0], .int .i64 2]) ?_ rfl ⟨rfl, ?_⟩
    · rw [results_cell_tmp rfl]
      go_simp
    · exact (Below.refl _ _).alloc (Nat.le_refl _) _
  have FN : ∀ W, Calls Try.prog 43 #[.pointer none, .int .i64 n] W fun e W' => e = .returned (.tuple #[.int .i64 0, .int .i64 2]) ∧ Below W.heap.size W W' := fun W => by
    go_enter Try.func43, Try.ntmps43
    go_wp2_with (fail)
    refine (PN _).mono ?_
    rintro e W1 ⟨rfl, hb⟩
    have HB := Lib.hid hb
    clear hb
    go_wp2_with (fail)
    go_ret2
    exact ⟨rfl, HB.out.alloc HB.out.size _⟩
  go_enter Try.func12, Try.ntmps12
  go_wp2_with (fail)
  refine (FN _).mono ?_
  rintro e W1 ⟨rfl, hb⟩
  have HB := Lib.hid hb
  clear hb
  go_wp2_with (fail)
  go_ret
  exact ⟨rfl, HB.out⟩
def PuRel1 (w : World) (G N A R L : Nat) (x : Value) (wr : World) : Prop := ∃ j : Nat, x = .int .i64 (j : Int) ∧ j ≤ L ∧ j ≤ 40 ∧ Hid (∃ F M l, PSt w wr F G N (8 * j) l l M A R 0 0)
def PuRel2 (w : World) (G N A R L : Nat) (x : Value) (wr : World) : Prop := ∃ j : Nat, x = .int .i64 (j : Int) ∧ j ≤ L ∧ j ≤ 10 ∧ Hid (∃ F M l, PSt w wr F G N (1000 + 8 * j) l l M A R 0 0)
def PuRel3 (w : World) (F : Nat → Prop) (G N A R : Nat) (l : List UInt8) (M : DM) (ok : Bool) (x : Value) (wr : World) : Prop := ∃ j : Nat, x = .int .i64 (j : Int) ∧ j ≤ 2 ∧ Hid (∃ lg ls, (ok = true → newest l j = (lg, ls)) ∧ PSt w wr F G N 2000 l l M A R lg ls)
def PuRel4 (w : World) (F : Nat → Prop) (G N A R pg lg ls : Nat) (l : List UInt8) (x : Value) (wr : World) : Prop := ∃ j : Nat, x = .int .i64 (j : Int) ∧ j ≤ pg ∧ Hid (∃ M, PSt w wr F G N (3000 + 8 * j) l l M A R lg ls)
def PuRel5 (w : World) (F : Nat → Prop) (G N A R lg ls : Nat) (l : List UInt8) (x : Value) (wr : World) : Prop := ∃ j : Nat, x = .int .i64 (j : Int) ∧ j ≤ N ∧ Hid (∃ M, PSt w wr F G N (10000 + j) l l M A R lg ls)
theorem newest_zero (L : List UInt8) : ∀ k, (newest L k).1 = 0 → newest L k = (0, 0)
  | 0, _ => rfl
  | k + 1, h => by
    rw [newest] at h ⊢
    unfold updH at h ⊢
    by_cases hc : (headR ((L.drop (64 * k)).take 64)).2.2 = 0 ∧ (newest L k).1 < (headR ((L.drop (64 * k)).take 64)).1
    · rw [if_pos hc] at h
      have h1 : (headR ((L.drop (64 * k)).take 64)).1 = 0 := h
      have := hc.2
      omega
    · rw [if_neg hc] at h ⊢
      exact newest_zero L k h
theorem put_bad {w W : World} {F : Nat → Prop} {G N bs pg b : Nat} {ok : Bool} {L : List UInt8} {M : DM} (h : Seen w W F G N b L M) (hl : Lies N bs pg ok) (n st : Int) (hn : n < 0 ∨ (pg : Int) ≤ n) (p : Option Addr) (m c : Nat) :
    Calls Try.prog 12 #[.pointer (some ⟨G, 0, none⟩), .int .i64 n, .int .u64 st, .slice p m c] W fun e W' => e = .returned (.int .i64 1) ∧ Seen w W' F G N (b + 8) L M ∧ Went F F W W' :=
  (put_no h.d.drum hl n st hn p m c).mono fun e W' ⟨e1, e2⟩ => ⟨e1, h.on e2 (by omega), Went.of_below e2⟩
theorem put_six {w W : World} {F : Nat → Prop} {G N bs pg b : Nat} {ok : Bool} {L : List UInt8} {M : DM} (h : Seen w W F G N b L M) (hl : Lies N bs pg ok) (n : Nat) (st : Int) (hn : n < pg) (p : Option Addr) (m c : Nat) (hm : 496 < m) :
    Calls Try.prog 12 #[.pointer (some ⟨G, 0, none⟩), .int .i64 (n : Int), .int .u64 st, .slice p m c] W fun e W' => e = .returned (.int .i64 6) ∧ Seen w W' F G N (b + 8) L M ∧ Went F F W W' :=
  (put_long h.d.drum hl n st hn p m c hm).mono fun e W' ⟨e1, e2⟩ => ⟨e1, h.on e2 (by omega), Went.of_below e2⟩
theorem put_zero {w W : World} {F : Nat → Prop} {G N bs pg b : Nat} {ok : Bool} {L : List UInt8} {M : DM} (h : Seen w W F G N b L M) (hl : Lies N bs pg ok) (hb : b ≤ 900000) (n st : Nat) (hn : n < pg) (hst : st < 18446744073709551616)
    (p : Option Addr) (s : ByteArray) (m c : Nat) (hm : s.size = m) (hs : m ≤ 496) (hp : HoldsB W p s) (hnil : p = none → c = 0) :
    Calls Try.prog 12 #[.pointer (some ⟨G, 0, none⟩), .int .i64 (n : Int), .int .u64 (st : Int), .slice p m c] W fun e W' => e = .returned (.int .i64 0) ∧ ∃ F' M', Seen w W' F' G N (b + 8) (spliceL L (64 * (bs + 8 * n)) (pageL n st (bl s))) M' ∧ Went F F' W W' := by
  have h0 : putE pg (n : Int) m = 0 := by unfold putE; rw [if_neg (by omega), if_neg (by omega)]
  have := put_any h hl hb (n : Int) st hst p s m c hm hp hnil
  unfold putL at this
  rw [hm, h0, if_pos rfl, Int.toNat_natCast] at this
  exact this
theorem layI_good {n st : Nat} {l : List UInt8} (hn : n ≤ 4294967295) (hl : l.length ≤ 496) : layI (n : Int) st l = (pageL n st l, 0) := by
  unfold layI
  rw [if_neg (by unfold outN; omega), if_neg (by omega), Int.toNat_natCast]
theorem layI_six {n st : Nat} {l : List UInt8} (hn : n ≤ 4294967295) (hl : 496 < l.length) : layI (n : Int) st l = ([], 6) := by
  unfold layI
  rw [if_neg (by unfold outN; omega), if_pos hl]
set_option maxRecDepth 100000 in
set_option maxHeartbeats 64000000 in
theorem puts_walk (n : Int) (p1 p2 : Option Addr) (k1 k2 : Nat) (l1 : List PgM) (l2 : List Int) (w : World) (hl1 : l1.length ≤ 140737488351232) (hl2 : l2.length ≤ 140737488351232) (hp1 : HoldsPgs w p1 l1) (hp2 : HoldsI w p2 l2) (hi2 : ∀ v ∈ l2, -9223372036854775808 ≤ v ∧ v ≤ 9223372036854775807) :
    Calls Try.prog 4 #[.int .i64 n, .slice p1 l1.length k1, .slice p2 l2.length k2] w fun e w' => e = .returned (.bool true) ∧ Below w.heap.size w w' := by
  have AW := Lib.hid (awake15_any w)
  obtain ⟨L1, hL1⟩ : ∃ L, l1.length = L := ⟨_, rfl⟩
  obtain ⟨L2, hL2⟩ : ∃ L, l2.length = L := ⟨_, rfl⟩
  have HP1 := Lib.hid (And.intro hp1 hL1)
  have HP2 := Lib.hid (And.intro hp2 (And.intro hL2 hi2))
  rw [hL1] at hl1 ⊢
  rw [hL2] at hl2 ⊢
  have hl1' : (L1 : Int) ≤ 140737488351232 := by omega
  have hl2' : (L2 : Int) ≤ 140737488351232 := by omega
  clear hp1 hp2 hi2 hL1 hL2 hl1 hl2
  by_cases hr : n < 1 ∨ 400 < n
  · have hz : n < 1 ∨ 400 < n := hr
    clear hr
    go_enter Try.func4, Try.ntmps4
    go_wp2_with (fail)
    refine (AW.out).mono ?_
    rintro e w1 ⟨rfl, hb1⟩
    have B1 := Lib.hid hb1
    clear hb1 AW
    rcases hz with hz | hz
    · go_wp2_with (fail)
      refine (put_nil n 1 none 0 0 _).mono ?_
      rintro e w2 ⟨rfl, hb2⟩
      have B2 := Lib.hid (cat_b B1.out hb2)
      clear hb2
      go_wp2_with (fail)
      go_ret
      exact ⟨ret_bool (by simp), B2.out⟩
    · have hz1 : ¬ n < 1 := by omega
      go_wp2_with (fail)
      refine (put_nil n 1 none 0 0 _).mono ?_
      rintro e w2 ⟨rfl, hb2⟩
      have B2 := Lib.hid (cat_b B1.out hb2)
      clear hb2
      go_wp2_with (fail)
      go_ret
      exact ⟨ret_bool (by simp), B2.out⟩
  · obtain ⟨N, rfl⟩ : ∃ N : Nat, n = (N : Int) := ⟨n.toNat, by omega⟩
    have g1 : 1 ≤ N := by omega
    have g2 : N ≤ 400 := by omega
    have i1 : ¬ (N : Int) < 1 := by omega
    have i2 : ¬ (400 : Int) < (N : Int) := by omega
    obtain ⟨bs, pg, ok, hlies⟩ : ∃ bs pg ok, Lies N bs pg ok := ⟨_, _, _, lies N g1 g2⟩
    have HL := Lib.hid hlies
    have bbs : bs ≤ 400 := by cases ok with
      | true => have := hlies.yes rfl; omega
      | false => have := hlies.no rfl; omega
    have bpg : pg ≤ 400 := by cases ok with
      | true => have := hlies.yes rfl; omega
      | false => have := hlies.no rfl; omega
    have hm := fun w => make_row w (64 * N) (by omega)
    have e64 : ((64 * N : Nat) : Int) = 64 * (N : Int) := by omega
    rw [e64] at hm
    clear hr hlies e64
    go_enter Try.func4, Try.ntmps4
    go_wp2_with (fail)
    refine (AW.out).mono ?_
    rintro e w1 ⟨rfl, hb1⟩
    have B1 := Lib.hid hb1
    clear hb1 AW
    go_wp2_with (fail)
    refine (new_ok N g1 (by omega) _).mono ?_
    rintro e w2 ⟨G, F, rfl, hd, hb, hF⟩
    have D2 := Lib.hid (DW.mk hd (cat_b B1.out hb) (fun k hk => Nat.le_trans B1.out.size (hF k hk)))
    clear hd hb hF B1
    go_wp2_with (fail)
    refine (rdraft_any HL.out _).mono ?_
    rintro e w3 ⟨⟨lg, rfl⟩, rfl⟩
    have HM := Lib.hid hm
    have hm2 := hm w2
    clear hm
    go_upto_block 0 with (fail)
    have hw0 := D2.out.below.size
    have P0 : PSt w ((w2.alloc (.cells (bytesV (ofL (zL (64 * N)))).toArray 5)).alloc (.cells #[.int .i64 0, .int .u64 0] 49)) F G N 0 (zL (64 * N)) (zL (64 * N)) (newM N) w2.heap.size (w2.heap.size + 1) 0 0 := by
      have ha := heap_alloc_new w2 (.cells (bytesV (ofL (zL (64 * N)))).toArray 5)
      have hr := heap_alloc_new (w2.alloc (.cells (bytesV (ofL (zL (64 * N)))).toArray 5)) (.cells #[.int .i64 0, .int .u64 0] 49)
      have hz : (w2.alloc (.cells (bytesV (ofL (zL (64 * N)))).toArray 5)).heap.size = w2.heap.size + 1 := by simp
      rw [hz] at hr
      refine ⟨⟨(D2.out.alloc _).alloc _, calm_new N, Nat.le_refl _, Nat.le_refl _, nowL_new N⟩, (Below.heap_alloc _ _ _ (by omega)).trans ha, hr, D2.out.new (Nat.le_refl _), D2.out.new (by omega), hw0, by omega, by omega, by simp [zL]⟩
    have HP0 := Lib.hid P0
    clear P0 hm2 HM hw0
    generalize hA : w2.heap.size = A at HP0 ⊢
    obtain ⟨R, hR⟩ : ∃ R, A + 1 = R := ⟨_, rfl⟩
    rw [hR] at HP0 ⊢
    clear hA hR D2
    go_cut [] (fun wx => ∃ wz, wz = wx ∧ Hid (∃ F M l, PSt w wz F G N 1000 l l M A R 0 0))
    case first =>
      as_aux_lemma =>
        go_wp2_with (fail)
        go_loopw [73] (fun x wr => PuRel1 w G N A R L1 x wr) (fun x _ => L1 - (intOf x).toNat)
        case atStart => exact ⟨0, rfl, Nat.zero_le _, Nat.zero_le _, Lib.hid ⟨F, newM N, _, HP0.out⟩⟩
        case round =>
          clear HP0
          obtain ⟨j, rfl, hj, hj40, HR⟩ := hrel
          obtain ⟨F1, M1, l, hS⟩ := HR.out
          have HS := Lib.hid hS
          clear hS HR
          by_cases hlt : j < L1 ∧ j < 40
          · as_aux_lemma =>
              obtain ⟨hltL, hlt40⟩ := hlt
              have hltL' : (j : Int) < (L1 : Int) := by omega
              have hlt40' : ¬ (40 : Int) ≤ (j : Int) := by omega
              have hlt40x : (j : Int) < 40 := by omega
              obtain ⟨b, off, rfl, hc⟩ := HP1.out.1 (by rw [HP1.out.2]; omega)
              obtain ⟨pa, pc, c0, c1, c2, hB, hpn, hps, hnb, hst⟩ := hc j (by rw [HP1.out.2]; omega)
              obtain ⟨x, hx⟩ : ∃ x, l1[j]'(by rw [HP1.out.2]; omega) = x := ⟨_, rfl⟩
              rw [hx] at c0 c1 c2 hB hps hnb hst
              obtain ⟨kn, hkn⟩ : ∃ kn, x.n = kn := ⟨_, rfl⟩
              obtain ⟨st, hst0⟩ : ∃ st, x.st = st := ⟨_, rfl⟩
              obtain ⟨s, hs0⟩ : ∃ s, x.p = s := ⟨_, rfl⟩
              rw [hkn] at c0 hnb
              rw [hst0] at c1 hst
              rw [hs0] at c2 hB hps
              have d0 := hb_cell HS.out.s.d.below c0
              have d1 := hb_cell HS.out.s.d.below c1
              have d2 := hb_cell HS.out.s.d.below c2
              have HB := Lib.hid (And.intro hB (And.intro hpn (And.intro hst (And.intro hnb hps))))
              obtain ⟨sz, hsz⟩ : ∃ sz, s.size = sz := ⟨_, rfl⟩
              have HSZ := Lib.hid hsz
              rw [hsz] at d2
              clear hc hx hkn hst0 hs0 hB hpn hps hnb hst c0 c1 c2 hsz
              have RL := Lib.hid (fun (W : World) (hb : Below w.heap.size w W) => rlay_any kn st pa s sz pc W HB.out.2.2.1 HSZ.out (HB.out.1.below hb))
              go_wp2_with (fail)
              refine (RL.out _ (HS.out.s.d.below.alloc HS.out.s.d.below.size _)).mono ?_
              rintro e w5 ⟨r5, rfl, hT5⟩
              have hb5 := hT5.below
              have nT := (hb5.block _ (by simp)).trans (heap_alloc_new wr (.cells #[.int .i64 kn, .int .u64 (st : Int), .slice pa sz pc] 51))
              have S5 := Lib.hid ((HS.out.on ((Below.refl _ _).alloc (Nat.le_refl _) (.cells #[.int .i64 kn, .int .u64 (st : Int), .slice pa sz pc] 51)) (Nat.le_refl _)).on hb5 (Nat.le_refl _))
              have t0 : w5.cell? ⟨wr.heap.size, 0, none⟩ = some (.int .i64 kn) := by rw [cell_of_row _ _ _ _ _ _ nT]; rfl
              have t1 : w5.cell? ⟨wr.heap.size, 1, none⟩ = some (.int .u64 (st : Int)) := by rw [cell_of_row _ _ _ _ _ _ nT]; rfl
              have t2 : w5.cell? ⟨wr.heap.size, 2, none⟩ = some (.slice pa sz pc) := by rw [cell_of_row _ _ _ _ _ _ nT]; rfl
              have HT5 := Lib.hid hT5
              have HNT := Lib.hid nT
              clear hT5 hb5 nT RL
              by_cases hbad : kn < 0 ∨ (pg : Int) ≤ kn
              · have HBAD := Lib.hid hbad
                generalize (layI kn st (bl s)).2 = f5 at *
                cases ok with
                | false =>
                    go_wp2_with (fail)
                    refine (put_bad S5.out.s HL.out kn (st : Int) HBAD.out pa sz pc).mono ?_
                    rintro e w6 ⟨rfl, hs6, hw6⟩
                    have S6 := Lib.hid (S5.out.went hs6 hw6)
                    clear hs6 hw6 t0 t1 t2
                    go_wp2_with (fail)
                    go_round
                    case rel => exact ⟨j + 1, by go_num, by omega, by omega, Lib.hid ⟨F1, M1, l, S6.out.mono (by omega)⟩⟩
                    case measure => simp [intOf]; omega
                | true =>
                  rcases Int.lt_or_le kn 0 with hk0 | hk0
                  · clear hbad
                    go_wp2_with (fail)
                    refine (put_bad S5.out.s HL.out kn (st : Int) HBAD.out pa sz pc).mono ?_
                    rintro e w6 ⟨rfl, hs6, hw6⟩
                    have S6 := Lib.hid (S5.out.went hs6 hw6)
                    clear hs6 hw6 t0 t1 t2
                    go_wp2_with (fail)
                    go_round
                    case rel => exact ⟨j + 1, by go_num, by omega, by omega, Lib.hid ⟨F1, M1, l, S6.out.mono (by omega)⟩⟩
                    case measure => simp [intOf]; omega
                  · have hk1 : (pg : Int) ≤ kn := by omega
                    have hk2 : ¬ kn < 0 := by omega
                    clear hbad
                    go_wp2_with (fail)
                    refine (put_bad S5.out.s HL.out kn (st : Int) HBAD.out pa sz pc).mono ?_
                    rintro e w6 ⟨rfl, hs6, hw6⟩
                    have S6 := Lib.hid (S5.out.went hs6 hw6)
                    clear hs6 hw6 t0 t1 t2
                    go_wp2_with (fail)
                    go_round
                    case rel => exact ⟨j + 1, by go_num, by omega, by omega, Lib.hid ⟨F1, M1, l, S6.out.mono (by omega)⟩⟩
                    case measure => simp [intOf]; omega
              · obtain ⟨k, rfl⟩ : ∃ k : Nat, kn = (k : Int) := ⟨kn.toNat, by omega⟩
                have hkp : k < pg := by omega
                have hok : ok = true := (HL.out.fits hkp).1
                have hfit := (HL.out.fits hkp).2.2
                have htop := HL.out.top
                subst hok
                have hk0 : (0 : Int) ≤ (k : Int) := by omega
                have hk1 : ¬ (pg : Int) ≤ (k : Int) := by omega
                have hk2 : ¬ (k : Int) < 0 := by omega
                have HK := Lib.hid (And.intro hkp hfit)
                by_cases h496 : 496 < sz
                · have e6 : layI (k : Int) st (bl s) = ([], 6) := layI_six (by omega) (by rw [bl_length, HSZ.out]; exact h496)
                  have f6 : ((layI (k : Int) st (bl s)).2 : Int) = 6 := by rw [e6]; rfl
                  rw [f6]
                  clear hbad e6 f6 hkp hfit
                  go_wp2_with (fail)
                  refine (put_six S5.out.s HL.out k (st : Int) HK.out.1 pa sz pc h496).mono ?_
                  rintro e w6 ⟨rfl, hs6, hw6⟩
                  have S6 := Lib.hid (S5.out.went hs6 hw6)
                  clear hs6 hw6 t0 t1 t2
                  go_wp2_with (fail)
                  go_round
                  case rel => exact ⟨j + 1, by go_num, by omega, by omega, Lib.hid ⟨F1, M1, l, S6.out.mono (by omega)⟩⟩
                  case measure => simp [intOf]; omega
                · have e0 : layI (k : Int) st (bl s) = (pageL k st (bl s), 0) := layI_good (by omega) (by rw [bl_length, HSZ.out]; omega)
                  have hT6 := HT5.out
                  rw [e0] at hT6 ⊢
                  have hpl : (pageL k st (bl s)).length = 512 := pageL_length (by rw [bl_length, HSZ.out]; omega)
                  obtain ⟨pgl, hpg⟩ : ∃ q, pageL k st (bl s) = q := ⟨_, rfl⟩
                  have HPG := Lib.hid hpg
                  rw [hpg] at hT6 hpl
                  obtain ⟨g5, c5, rfl, o5, b5⟩ : NewB pgl (wr.alloc (.cells #[.int .i64 (k : Int), .int .u64 (st : Int), .slice pa sz pc] 51)) r5 w5 := by
                    rcases hT6 with ⟨h0, _⟩ | h1
                    · have h0' : pgl = [] := h0
                      rw [h0'] at hpl; cases hpl
                    · exact h1
                  rw [hpl]
                  have hg5 : ¬ F1 g5 := fun hf => by have h1 := HS.out.s.d.drum.lt g5 hf; have h2 := o5.2.1; simp at h2; omega
                  have H5 := Lib.hid (And.intro o5 (And.intro hg5 hpl))
                  clear hbad e0 hkp hfit hT6 hpg hg5 o5 b5 hpl HT5
                  go_wp2_with (fail)
                  refine (put_zero S5.out.s HL.out (by omega) k st HK.out.1 HB.out.2.2.1 pa s sz pc HSZ.out (by omega) (HB.out.1.below S5.out.s.d.below) HB.out.2.1).mono ?_
                  rintro e w6 ⟨rfl, F6, M6, hs6, hw6⟩
                  rw [HPG.out] at hs6
                  have S6 := Lib.hid (S5.out.went hs6 hw6)
                  have hgb := (hw6.out H5.out.2.1 H5.out.1.2.2.1).2.2
                  have H6 := Lib.hid (show HoldsB w6 (some ⟨g5, 0, none⟩) (ofL pgl) ∧ A ≠ g5 from ⟨fun h0 => by
                    obtain ⟨b', o', e', hc'⟩ := H5.out.1.holds h0
                    injection e' with e'
                    injection e' with e1 e2
                    subst e1 e2
                    exact ⟨g5, 0, rfl, fun j hj => (World.cell?_of_block (w := w5) hgb).trans (hc' j hj)⟩, fun e => by
                    have h1 := H5.out.1.2.1
                    have h2 := block_lt HS.out.a
                    simp at h1
                    omega⟩)
                  have nT6 := ((hw6.out (F := F1) (A := wr.heap.size) (fun hf => by have := HS.out.s.d.drum.lt _ hf; omega) (block_lt HNT.out)).2.2).trans HNT.out
                  have t0 : w6.cell? ⟨wr.heap.size, 0, none⟩ = some (.int .i64 (k : Int)) := by rw [cell_of_row _ _ _ _ _ _ nT6]; rfl
                  clear hs6 hw6 hgb nT6 t1 t2
                  have bo : 64 * (bs + 8 * k) + 512 ≤ 64 * N := by have := HK.out.2; omega
                  have bk : k ≤ 400 := by have := HK.out.2; omega
                  have hln : (bytesV (ofL l)).length = 64 * N := by rw [bytesV_length, ofL_size, S6.out.len]
                  have hlp : (bytesV (ofL pgl)).length = 512 := by rw [bytesV_length, ofL_size, H5.out.2.2]
                  have hsp : (spliceL l (64 * (bs + 8 * k)) pgl).length = 64 * N := by rw [spliceL_length (by rw [H5.out.2.2, S6.out.len]; exact bo), S6.out.len]
                  have HC := Lib.hid (And.intro hln (And.intro hlp (And.intro hsp bo)))
                  have hmin : (bytesV (ofL pgl)).length = Nat.min 512 (64 * N - 64 * (bs + 8 * k)) := by rw [hlp]; show 512 = min 512 _; omega
                  have HMIN := Lib.hid hmin
                  have hu8 : (Try.prog.info? 5).map (·.size) = some 1 := by kernel_rfl
                  clear hln hlp hsp hmin
                  go_wp2_with (refine wpList_copy_touch rfl (.tmp 122) (.tmp 123) 33 33 rfl 5 Try.underlying33 hu8 ⟨g5, 0, none⟩ _ _ 512 c5 A (64 * (bs + 8 * k)) rfl rfl (bytesV (ofL l)) 5 S6.out.a (bytesV (ofL pgl)) HMIN.out (fun i v hv => cells_src H6.out.1 i v hv) (by rw [HC.out.1, HC.out.2.1]; exact HC.out.2.2.2) (bytesV_one _) ?_)
                  intro w7 h7
                  have h7a := h7.out.1
                  rw [splice_bytes] at h7a
                  have S7 := Lib.hid (S6.out.copied h7a h7.out.2 HC.out.2.2.1)
                  clear h7 h7a t0 hu8
                  go_wp2_with (fail)
                  go_round
                  case rel => exact ⟨j + 1, by go_num, by omega, by omega, Lib.hid ⟨F6, M6, _, S7.out.mono (by omega)⟩⟩
                  case measure => simp [intOf]; omega
          · by_cases hL : j < L1
            · obtain rfl : j = 40 := by omega
              have hltL' : ((40 : Nat) : Int) < (L1 : Int) := by omega
              obtain ⟨b, off, rfl, hc⟩ := HP1.out.1 (by rw [HP1.out.2]; omega)
              obtain ⟨pa, pc, c0, c1, c2, -, -, -, -, -⟩ := hc 40 (by rw [HP1.out.2]; omega)
              have d0 := hb_cell HS.out.s.d.below c0
              have d1 := hb_cell HS.out.s.d.below c1
              have d2 := hb_cell HS.out.s.d.below c2
              clear hc c0 c1 c2
              have S5 := Lib.hid (fun o => HS.out.on (b' := 1000) ((Below.refl _ _).alloc (Nat.le_refl _) o) (by omega))
              go_wp2_with (fail)
              go_meet
              exact ⟨_, rfl, Lib.hid ⟨F1, M1, l, S5.out _⟩⟩
            · obtain rfl : j = L1 := by omega
              go_wp2_with (fail)
              go_meet
              exact ⟨_, rfl, Lib.hid ⟨F1, M1, l, HS.out.mono (by omega)⟩⟩
    case rest =>
      as_aux_lemma =>
        clear HP0 HP1
        obtain ⟨wx, rfl, HC⟩ := hcut
        obtain ⟨F0, M0, l0, hP0⟩ := HC.out
        have HP0 := Lib.hid hP0
        clear hP0 HC
        go_upto_block 2 with (fail)
        go_cut [] (fun wx => ∃ wz, wz = wx ∧ Hid (∃ F M l, PSt w wz F G N 2000 l l M A R 0 0))
        case first =>
          as_aux_lemma =>
            go_wp2_with (fail)
            go_loopw [128] (fun x wr => PuRel2 w G N A R L2 x wr) (fun x _ => L2 - (intOf x).toNat)
            case atStart => exact ⟨0, rfl, Nat.zero_le _, Nat.zero_le _, Lib.hid ⟨F0, M0, _, HP0.out.mono (by omega)⟩⟩
            case round =>
              clear HP0
              obtain ⟨j, rfl, hj, hj10, HR⟩ := hrel
              obtain ⟨F1, M1, l, hS⟩ := HR.out
              have HS := Lib.hid hS
              clear hS HR
              by_cases hL : j < L2
              · as_aux_lemma =>
                  have hltL' : (j : Int) < (L2 : Int) := by omega
                  obtain ⟨b, off, rfl, hc⟩ := HP2.out.1 (by rw [HP2.out.2.1]; omega)
                  have c0 := hc j (by rw [HP2.out.2.1]; omega)
                  obtain ⟨gk, hgk⟩ : ∃ gk, l2.getD j 0 = gk := ⟨_, rfl⟩
                  rw [hgk] at c0
                  have d0 := hb_cell HS.out.s.d.below c0
                  clear hc hgk c0
                  by_cases hlt10 : j < 10
                  · have hlt10' : ¬ (10 : Int) ≤ (j : Int) := by omega
                    have hlt10x : (j : Int) < 10 := by omega
                    have hjw : IntKind.u64.wrap (j : Int) = (j : Int) := by rw [IntKind.wrap_u64]; omega
                    have RL := Lib.hid (fun (W : World) => rlayhead_any gk j W (by omega))
                    go_wp2_with (fail)
                    refine (RL.out _).mono ?_
                    rintro e w5 ⟨r5, rfl, hT5⟩
                    have S5 := Lib.hid (HS.out.on hT5.below (Nat.le_refl _))
                    have HT5 := Lib.hid hT5
                    clear hT5 RL
                    cases ok with
                    | false =>
                      generalize (headI gk j).2 = f5 at *
                      clear HT5
                      go_wp2_with (fail)
                      refine (puthead_any S5.out.s HL.out (by omega) gk j (by omega)).mono ?_
                      rintro e w6 ⟨rfl, F6, M6, hs6, hw6⟩
                      have e1 : headE false gk = 1 := rfl
                      have e2 : headRow l false gk j = l := rfl
                      rw [e2] at hs6
                      rw [e1]
                      have S6 := Lib.hid (S5.out.went hs6 hw6)
                      clear hs6 hw6 e1 e2
                      go_wp2_with (fail)
                      go_round
                      case rel => exact ⟨j + 1, by go_num, by omega, by omega, Lib.hid ⟨F6, M6, l, S6.out.mono (by omega)⟩⟩
                      case measure => simp [intOf]; omega
                    | true =>
                      by_cases ho : outH gk
                      · have e5 : ((headI gk j).2 : Int) = 1 := by unfold headI; rw [if_pos ho]; rfl
                        rw [e5]
                        have e1 : headE true gk = 1 := by unfold headE; rw [if_pos rfl, if_pos ho]
                        have e2 : headRow l true gk j = l := by unfold headRow; rw [e1, if_neg (by decide)]
                        have HE := Lib.hid (And.intro e1 e2)
                        clear HT5 e5 e1 e2 ho
                        go_wp2_with (fail)
                        refine (puthead_any S5.out.s HL.out (by omega) gk j (by omega)).mono ?_
                        rintro e w6 ⟨rfl, F6, M6, hs6, hw6⟩
                        rw [HE.out.2] at hs6
                        rw [HE.out.1]
                        have S6 := Lib.hid (S5.out.went hs6 hw6)
                        clear hs6 hw6
                        go_wp2_with (fail)
                        go_round
                        case rel => exact ⟨j + 1, by go_num, by omega, by omega, Lib.hid ⟨F6, M6, l, S6.out.mono (by omega)⟩⟩
                        case measure => simp [intOf]; omega
                      · obtain ⟨k, rfl⟩ : ∃ k : Nat, gk = (k : Int) := ⟨gk.toNat, by unfold outH at ho; omega⟩
                        have e5 : headI (k : Int) j = (headL k j, 0) := by unfold headI; rw [if_neg ho, Int.toNat_natCast]
                        have e1 : headE true (k : Int) = 0 := by unfold headE; rw [if_pos rfl, if_neg ho]
                        have e2 : headRow l true (k : Int) j = spliceL l (64 * (k % 2)) (headL k j) := by unfold headRow; rw [e1, if_pos rfl, Int.toNat_natCast]
                        have hN64 : 64 ≤ N := (HL.out.yes rfl).1
                        have hT6 := HT5.out
                        rw [e5] at hT6 ⊢
                        have hpl : (headL k j).length = 64 := headL_length k j
                        obtain ⟨hl0, hhl⟩ : ∃ q, headL k j = q := ⟨_, rfl⟩
                        have HHL := Lib.hid hhl
                        rw [hhl] at hT6 hpl e2
                        obtain ⟨g5, c5, rfl, o5, b5⟩ : NewB hl0 wr r5 w5 := by
                          rcases hT6 with ⟨h0, _⟩ | h1
                          · have h0' : hl0 = [] := h0
                            rw [h0'] at hpl; cases hpl
                          · exact h1
                        rw [hpl]
                        have hg5 : ¬ F1 g5 := fun hf => by have h1 := HS.out.s.d.drum.lt g5 hf; have h2 := o5.2.1; omega
                        have H5 := Lib.hid (And.intro o5 (And.intro hg5 hpl))
                        have hm2 : k % 2 ≤ 1 := by omega
                        have hg0 : (0 : Int) ≤ (k : Int) := by omega
                        have hgm : (k : Int) % 2 = ((k % 2 : Nat) : Int) := by omega
                        generalize hm : k % 2 = m at *
                        have HE := Lib.hid (And.intro e1 e2)
                        clear HT5 e5 e1 e2 ho hT6 hhl hg5 o5 b5 hpl hm
                        go_wp2_with (fail)
                        refine (puthead_any S5.out.s HL.out (by omega) (k : Int) j (by omega)).mono ?_
                        rintro e w6 ⟨rfl, F6, M6, hs6, hw6⟩
                        rw [HE.out.2] at hs6
                        rw [HE.out.1]
                        have S6 := Lib.hid (S5.out.went hs6 hw6)
                        have hgb := (hw6.out H5.out.2.1 H5.out.1.2.2.1).2.2
                        have H6 := Lib.hid (show HoldsB w6 (some ⟨g5, 0, none⟩) (ofL hl0) from fun h0 => by
                          obtain ⟨b', o', e', hc'⟩ := H5.out.1.holds h0
                          injection e' with e'
                          injection e' with e1 e2
                          subst e1 e2
                          exact ⟨g5, 0, rfl, fun j hj => (World.cell?_of_block (w := w5) hgb).trans (hc' j hj)⟩)
                        clear hs6 hw6 hgb
                        have hln : (bytesV (ofL l)).length = 64 * N := by rw [bytesV_length, ofL_size, S6.out.len]
                        have hlp : (bytesV (ofL hl0)).length = 64 := by rw [bytesV_length, ofL_size, H5.out.2.2]
                        have hsp : (spliceL l (64 * m) hl0).length = 64 * N := by rw [spliceL_length (by rw [H5.out.2.2, S6.out.len]; omega), S6.out.len]
                        have HCC := Lib.hid (And.intro hln (And.intro hlp hsp))
                        have hmin : (bytesV (ofL hl0)).length = Nat.min 64 (64 * N - 64 * m) := by rw [hlp]; show 64 = min 64 _; omega
                        have HMIN := Lib.hid hmin
                        have hu8 : (Try.prog.info? 5).map (·.size) = some 1 := by kernel_rfl
                        clear hln hlp hsp hmin
                        go_wp2_with (refine wpList_copy_touch rfl (.tmp 159) (.tmp 160) 33 33 rfl 5 Try.underlying33 hu8 ⟨g5, 0, none⟩ _ _ 64 c5 A (64 * m) rfl rfl (bytesV (ofL l)) 5 S6.out.a (bytesV (ofL hl0)) HMIN.out (fun i v hv => cells_src H6.out i v hv) (by rw [HCC.out.1, HCC.out.2.1]; omega) (bytesV_one _) ?_)
                        intro w7 h7
                        have h7a := h7.out.1
                        rw [splice_bytes] at h7a
                        have S7 := Lib.hid (S6.out.copied h7a h7.out.2 HCC.out.2.2)
                        clear h7 h7a hu8
                        go_wp2_with (fail)
                        go_round
                        case rel => exact ⟨j + 1, by go_num, by omega, by omega, Lib.hid ⟨F6, M6, _, S7.out.mono (by omega)⟩⟩
                        case measure => simp [intOf]; omega
                  · obtain rfl : j = 10 := by omega
                    go_wp2_with (fail)
                    go_meet
                    exact ⟨_, rfl, Lib.hid ⟨F1, M1, l, HS.out.mono (by omega)⟩⟩
              · obtain rfl : j = L2 := by omega
                go_wp2_with (fail)
                go_meet
                exact ⟨_, rfl, Lib.hid ⟨F1, M1, l, HS.out.mono (by omega)⟩⟩
        case rest =>
          as_aux_lemma =>
            clear HP0 HP2
            obtain ⟨wx, rfl, HC⟩ := hcut
            obtain ⟨F0, M0, l0, hP0⟩ := HC.out
            have HP0 := Lib.hid hP0
            clear hP0 HC
            go_wp2_with (fail)
            go_loopw [163] (fun x wr => PuRel3 w F0 G N A R l0 M0 ok x wr) (fun x _ => 2 - (intOf x).toNat)
            case atStart => exact ⟨0, rfl, Nat.zero_le _, Lib.hid ⟨0, 0, fun _ => rfl, HP0.out⟩⟩
            case round =>
              clear HP0
              obtain ⟨j, rfl, hj, HR⟩ := hrel
              obtain ⟨hg, hs, hnew, hS⟩ := HR.out
              have HS := Lib.hid hS
              have HNEW := Lib.hid hnew
              clear hS HR hnew
              by_cases hlt : j < 2
              · as_aux_lemma =>
                  have hlt' : (j : Int) < 2 := by omega
                  by_cases hq : j ≤ N - 1
                  · as_aux_lemma =>
                      have hq1 : ¬ (N : Int) - 1 < (j : Int) := by omega
                      have hq2 : (j : Int) ≤ (N : Int) - 1 := by omega
                      have hq3 : 64 * j + 64 ≤ 64 * N := by omega
                      have hq4 : ¬ 64 * N = 64 * j := by omega
                      go_wp2_with (fail)
                      all_goals try (exfalso; omega; done)
                      have TH := rtakehead_any (some ⟨A, 64 * j, none⟩) (ofL ((l0.drop (64 * j)).take 64)) 64 (64 * N - 64 * j) wr (piece_size HS.out.len _ _ (by omega)) (by omega) (HS.out.piece (64 * j) 64 (by omega))
                      rw [bl_ofL] at TH
                      obtain ⟨x, hx⟩ : ∃ x, headR ((l0.drop (64 * j)).take 64) = x := ⟨_, rfl⟩
                      rw [hx] at TH
                      have T4 := Lib.hid TH
                      have HX := Lib.hid hx
                      clear TH hx
                      refine T4.out.mono ?_
                      rintro e W5 ⟨rfl, hb⟩
                      obtain ⟨W6, hW6⟩ : ∃ W6, W5.alloc (.cells #[.int .i64 (x.1 : Int), .int .u64 (x.2.1 : Int)] 49) = W6 := ⟨_, rfl⟩
                      have n6 : W6.heap[W5.heap.size]? = some (.cells #[.int .i64 (x.1 : Int), .int .u64 (x.2.1 : Int)] 49 (0, 0)) := by rw [← hW6]; exact heap_alloc_new _ _
                      have b56 : Below W5.heap.size W5 W6 := by rw [← hW6]; exact (Below.refl _ _).alloc (Nat.le_refl _) _
                      have S6 := Lib.hid ((HS.out.on hb (Nat.le_refl _)).on b56 (Nat.le_refl _))
                      have x0 : W6.cell? ⟨W5.heap.size, 0, none⟩ = some (.int .i64 (x.1 : Int)) := by rw [cell_of_row _ _ _ _ _ _ n6]; rfl
                      have x1 : W6.cell? ⟨W5.heap.size, 1, none⟩ = some (.int .u64 (x.2.1 : Int)) := by rw [cell_of_row _ _ _ _ _ _ n6]; rfl
                      have a0 : W6.cell? ⟨R, 0, none⟩ = some (.int .i64 (hg : Int)) := by rw [cell_of_row _ _ _ _ _ _ S6.out.r]; rfl
                      have a1 : W6.cell? ⟨R, 1, none⟩ = some (.int .u64 (hs : Int)) := by rw [cell_of_row _ _ _ _ _ _ S6.out.r]; rfl
                      have f0 : W6.frozen? ⟨R, 0, none⟩ = false := frozen_of_row _ _ _ _ _ S6.out.r
                      have f1 : W6.frozen? ⟨R, 1, none⟩ = false := frozen_of_row _ _ _ _ _ S6.out.r
                      clear hb n6 b56 T4
                      by_cases he : x.2.2 = 0
                      · have te : ((x.2.2 : Int) == 0) = true := by rw [beq_iff_eq]; omega
                        by_cases hgr : hg < x.1
                        · have tg : (hg : Int) < (x.1 : Int) := by omega
                          have HU := Lib.hid (show updH (hg, hs) x = (x.1, x.2.1) from by unfold updH; rw [if_pos ⟨he, hgr⟩])
                          clear he hgr
                          go_wp2_with (fail)
                          go_roundw
                          case rel =>
                            refine ⟨j + 1, by go_num, by omega, Lib.hid ⟨x.1, x.2.1, fun h => by rw [newest, HNEW.out h, HX.out]; exact HU.out, ?_⟩⟩
                            exact S6.out.headed (u_row (k := 1) (.int .u64 (x.2.1 : Int)) (u_row (k := 0) (.int .i64 (x.1 : Int)) S6.out.r)) (((Touch.refl (Only R) W6).set1 _).set1 _)
                          case measure => simp [intOf]; omega
                        · have tg : ¬ (hg : Int) < (x.1 : Int) := by omega
                          have HU := Lib.hid (show updH (hg, hs) x = (hg, hs) from by unfold updH; rw [if_neg (fun h => hgr h.2)])
                          clear he hgr
                          go_wp2_with (fail)
                          go_roundw
                          case rel => exact ⟨j + 1, by go_num, by omega, Lib.hid ⟨hg, hs, fun h => by rw [newest, HNEW.out h, HX.out]; exact HU.out, S6.out⟩⟩
                          case measure => simp [intOf]; omega
                      · have te : ((x.2.2 : Int) == 0) = false := by rw [beq_eq_false_iff_ne]; omega
                        have HU := Lib.hid (show updH (hg, hs) x = (hg, hs) from by unfold updH; rw [if_neg (fun h => he h.1)])
                        clear he
                        go_wp2_with (fail)
                        go_roundw
                        case rel => exact ⟨j + 1, by go_num, by omega, Lib.hid ⟨hg, hs, fun h => by rw [newest, HNEW.out h, HX.out]; exact HU.out, S6.out⟩⟩
                        case measure => simp [intOf]; omega
                  · as_aux_lemma =>
                      have hN1 : N = 1 := by omega
                      have hj1 : j = 1 := by omega
                      have HNO := Lib.hid (show ok = true → False from fun h => by have := (HL.out.yes h).1; omega)
                      have hN0 : (N : Int) - 1 = 0 := by omega
                      have hj0 : (0 : Int) < (j : Int) := by omega
                      have hq3 : 64 ≤ 64 * N := by omega
                      have HN1 := Lib.hid hN1
                      clear hlt hq hN1 hj1
                      go_wp2_with (fail)
                      all_goals try (exfalso; omega; done)
                      have TH := rtakehead_any (some ⟨A, 0, none⟩) (ofL ((l0.drop 0).take 64)) 64 (64 * N) wr (piece_size HS.out.len _ _ (by omega)) (by omega) (HS.out.piece 0 64 (by omega))
                      rw [bl_ofL] at TH
                      obtain ⟨x, hx⟩ : ∃ x, headR ((l0.drop 0).take 64) = x := ⟨_, rfl⟩
                      rw [hx] at TH
                      have T4 := Lib.hid TH
                      have HX := Lib.hid hx
                      clear TH hx
                      refine T4.out.mono ?_
                      rintro e W5 ⟨rfl, hb⟩
                      obtain ⟨W6, hW6⟩ : ∃ W6, W5.alloc (.cells #[.int .i64 (x.1 : Int), .int .u64 (x.2.1 : Int)] 49) = W6 := ⟨_, rfl⟩
                      have n6 : W6.heap[W5.heap.size]? = some (.cells #[.int .i64 (x.1 : Int), .int .u64 (x.2.1 : Int)] 49 (0, 0)) := by rw [← hW6]; exact heap_alloc_new _ _
                      have b56 : Below W5.heap.size W5 W6 := by rw [← hW6]; exact (Below.refl _ _).alloc (Nat.le_refl _) _
                      have S6 := Lib.hid ((HS.out.on hb (Nat.le_refl _)).on b56 (Nat.le_refl _))
                      have x0 : W6.cell? ⟨W5.heap.size, 0, none⟩ = some (.int .i64 (x.1 : Int)) := by rw [cell_of_row _ _ _ _ _ _ n6]; rfl
                      have x1 : W6.cell? ⟨W5.heap.size, 1, none⟩ = some (.int .u64 (x.2.1 : Int)) := by rw [cell_of_row _ _ _ _ _ _ n6]; rfl
                      have a0 : W6.cell? ⟨R, 0, none⟩ = some (.int .i64 (hg : Int)) := by rw [cell_of_row _ _ _ _ _ _ S6.out.r]; rfl
                      have a1 : W6.cell? ⟨R, 1, none⟩ = some (.int .u64 (hs : Int)) := by rw [cell_of_row _ _ _ _ _ _ S6.out.r]; rfl
                      have f0 : W6.frozen? ⟨R, 0, none⟩ = false := frozen_of_row _ _ _ _ _ S6.out.r
                      have f1 : W6.frozen? ⟨R, 1, none⟩ = false := frozen_of_row _ _ _ _ _ S6.out.r
                      clear hb n6 b56 T4
                      by_cases he : x.2.2 = 0
                      · have te : ((x.2.2 : Int) == 0) = true := by rw [beq_iff_eq]; omega
                        by_cases hgr : hg < x.1
                        · have tg : (hg : Int) < (x.1 : Int) := by omega
                          have HU := Lib.hid (show updH (hg, hs) x = (x.1, x.2.1) from by unfold updH; rw [if_pos ⟨he, hgr⟩])
                          clear he hgr
                          go_wp2_with (fail)
                          go_roundw
                          case rel =>
                            refine ⟨j + 1, by go_num, by omega, Lib.hid ⟨x.1, x.2.1, fun h => (HNO.out h).elim, ?_⟩⟩
                            exact S6.out.headed (u_row (k := 1) (.int .u64 (x.2.1 : Int)) (u_row (k := 0) (.int .i64 (x.1 : Int)) S6.out.r)) (((Touch.refl (Only R) W6).set1 _).set1 _)
                          case measure => simp [intOf]; omega
                        · have tg : ¬ (hg : Int) < (x.1 : Int) := by omega
                          have HU := Lib.hid (show updH (hg, hs) x = (hg, hs) from by unfold updH; rw [if_neg (fun h => hgr h.2)])
                          clear he hgr
                          go_wp2_with (fail)
                          go_roundw
                          case rel => exact ⟨j + 1, by go_num, by omega, Lib.hid ⟨hg, hs, fun h => (HNO.out h).elim, S6.out⟩⟩
                          case measure => simp [intOf]; omega
                      · have te : ((x.2.2 : Int) == 0) = false := by rw [beq_eq_false_iff_ne]; omega
                        have HU := Lib.hid (show updH (hg, hs) x = (hg, hs) from by unfold updH; rw [if_neg (fun h => he h.1)])
                        clear he
                        go_wp2_with (fail)
                        go_roundw
                        case rel => exact ⟨j + 1, by go_num, by omega, Lib.hid ⟨hg, hs, fun h => (HNO.out h).elim, S6.out⟩⟩
                        case measure => simp [intOf]; omega
              · obtain rfl : j = 2 := by omega
                clear hlt
                go_wp2_with (fail)
                refine (gethead_any HS.out.s HL.out (by omega)).mono ?_
                rintro e w5 ⟨rfl, M5, hs5, hw5⟩
                obtain ⟨G1, G2, G3, hG⟩ : ∃ a b c, headG l0 ok = ((a, b), c) := ⟨_, _, _, rfl⟩
                rw [hG]
                have HG := Lib.hid hG
                have S5 := Lib.hid (HS.out.went hs5 hw5)
                clear hs5 hw5 hG
                have n6 := fun o => (Below.heap_alloc w5 o R (block_lt S5.out.r)).trans S5.out.r
                have S6 := Lib.hid (fun o => S5.out.on (b' := 3000) ((Below.refl w5.heap.size w5).alloc (Nat.le_refl _) o) (by omega))
                go_upto_region 43 with (fail)
                go_cut [237] (fun v wx => v = .bool false ∧ ∃ wz, wz = wx ∧ Hid (∃ M, PSt w wz F0 G N 3000 l0 l0 M A R hg hs))
                case first =>
                  as_aux_lemma =>
                    have N6 := n6 (.cells #[.int .i64 (G1 : Int), .int .u64 (G2 : Int)] 56)
                    have nH := heap_alloc_new w5 (.cells #[.int .i64 (G1 : Int), .int .u64 (G2 : Int)] 56)
                    have a0 : (w5.alloc (.cells #[.int .i64 (G1 : Int), .int .u64 (G2 : Int)] 56)).cell? ⟨R, 0, none⟩ = some (.int .i64 (hg : Int)) := by rw [cell_of_row _ _ _ _ _ _ N6]; rfl
                    have a1 : (w5.alloc (.cells #[.int .i64 (G1 : Int), .int .u64 (G2 : Int)] 56)).cell? ⟨R, 1, none⟩ = some (.int .u64 (hs : Int)) := by rw [cell_of_row _ _ _ _ _ _ N6]; rfl
                    have S7 := Lib.hid (S6.out (.cells #[.int .i64 (G1 : Int), .int .u64 (G2 : Int)] 56))
                    clear N6 nH n6
                    cases ok with
                    | false =>
                      have e : (G1 = 0 ∧ G2 = 0) ∧ G3 = 1 := by
                        have h : ((0, 0), 1) = ((G1, G2), G3) := HG.out
                        simpa [eq_comm] using h
                      obtain ⟨⟨rfl, rfl⟩, rfl⟩ := e
                      go_wp2_with (fail)
                      go_meet
                      exact ⟨rfl, _, rfl, Lib.hid ⟨_, S7.out⟩⟩
                    | true =>
                      have hn2 := HNEW.out rfl
                      by_cases hz : hg = 0
                      · have hz2 := newest_zero l0 2 (by rw [hn2]; exact hz)
                        rw [hn2] at hz2
                        have e : (G1 = 0 ∧ G2 = 0) ∧ G3 = 11 := by
                          have h := HG.out
                          unfold headG at h
                          rw [if_pos rfl, hn2, if_pos hz] at h
                          simpa [eq_comm] using h
                        have e2 : hg = 0 ∧ hs = 0 := by simpa using hz2
                        obtain ⟨⟨rfl, rfl⟩, rfl⟩ := e
                        obtain ⟨rfl, rfl⟩ := e2
                        have a0' : (w5.alloc (.cells #[.int .i64 0, .int .u64 0] 56)).cell? ⟨R, 0, none⟩ = some (.int .i64 0) := a0
                        have a1' : (w5.alloc (.cells #[.int .i64 0, .int .u64 0] 56)).cell? ⟨R, 1, none⟩ = some (.int .u64 0) := a1
                        clear hz2 hn2 hz a0 a1
                        go_wp2_with (fail)
                        go_meet
                        exact ⟨rfl, _, rfl, Lib.hid ⟨_, S7.out⟩⟩
                      · have e : (hg = G1 ∧ hs = G2) ∧ 0 = G3 := by
                          have h := HG.out
                          unfold headG at h
                          rw [if_pos rfl, hn2, if_neg hz] at h
                          simpa using h
                        obtain ⟨⟨rfl, rfl⟩, rfl⟩ := e
                        have hz3 : (0 : Int) < (hg : Int) := by omega
                        clear hn2 hz
                        go_wp2_with (fail)
                        go_meet
                        exact ⟨rfl, _, rfl, Lib.hid ⟨_, S7.out⟩⟩
                case rest =>
                  as_aux_lemma =>
                    clear n6 S6 S5 HS HG HNEW
                    obtain ⟨rfl, wx, rfl, HC⟩ := hcut
                    obtain ⟨M6, hP6⟩ := HC.out
                    have HP6 := Lib.hid hP6
                    clear hP6 HC
                    go_wp2_with (fail)
                    go_loopw [239] (fun x wr => PuRel4 w F0 G N A R pg hg hs l0 x wr) (fun x _ => pg - (intOf x).toNat)
                    case atStart => exact ⟨0, rfl, Nat.zero_le _, Lib.hid ⟨M6, HP6.out⟩⟩
                    case round =>
                      clear HP6
                      obtain ⟨j, rfl, hj, HR⟩ := hrel
                      obtain ⟨M1, hS⟩ := HR.out
                      have HS := Lib.hid hS
                      clear hS HR
                      by_cases hlt : j < pg
                      · as_aux_lemma =>
                          have hlt' : (j : Int) < (pg : Int) := by omega
                          have hfit := (HL.out.fits hlt).2.2
                          have GA := get_any HS.out.s HL.out (by have := HL.out.top; omega) j hlt
                          have hpl : partL l0 (bs + 8 * j) 8 = (l0.drop (64 * (bs + 8 * j))).take 512 := rfl
                          rw [hpl] at GA
                          have hsz : (ofL ((l0.drop (64 * (bs + 8 * j))).take 512)).size = 512 := piece_size HS.out.len _ _ (by omega)
                          have q1 : 64 * (bs + 8 * j) + 512 ≤ 64 * N := by omega
                          have q2 : ¬ 64 * N = 64 * (bs + 8 * j) := by omega
                          have bj : j ≤ 400 := by omega
                          obtain ⟨X, hX⟩ : ∃ X, takeI (j : Int) ((l0.drop (64 * (bs + 8 * j))).take 512) = X := ⟨_, rfl⟩
                          rw [hX] at GA
                          have HGA := Lib.hid GA
                          have HX := Lib.hid (And.intro hX hsz)
                          clear GA hpl hsz hX
                          go_wp2_with (fail)
                          refine HGA.out.mono ?_
                          rintro e w5 ⟨r5, M5, rfl, ⟨p5, c5, rfl, hB5, hn5⟩, hs5, ht5⟩
                          have S5 := Lib.hid (HS.out.went hs5 ⟨ht5.mono (only_F HS.out.s.d.drum.fG), fun _ hk => .inl hk⟩)
                          have RT := rtake_any (j : Int) (some ⟨A, 64 * (bs + 8 * j), none⟩) (ofL ((l0.drop (64 * (bs + 8 * j))).take 512)) 512 (64 * N - 64 * (bs + 8 * j)) w5 HX.out.2 (by omega) (S5.out.piece (64 * (bs + 8 * j)) 512 q1)
                          rw [bl_ofL, HX.out.1] at RT
                          have HRT := Lib.hid RT
                          have HB5 := Lib.hid hB5
                          clear hs5 ht5 hB5 hn5 RT HGA
                          go_wp2_with (fail)
                          refine HRT.out.mono ?_
                          rintro e w6 ⟨r6, rfl, hT6⟩
                          have hb6 := hT6.below
                          obtain ⟨p6, c6, rfl, hB6, hn6⟩ := hT6.holds
                          have S6 := Lib.hid (S5.out.on hb6 (Nat.le_refl _))
                          have HSM := Lib.hid (same_told (c := c5) (d := c6) (HB5.out.below hb6) hB6)
                          clear hT6 hb6 hB6 hn6 HRT HB5
                          generalize X.1.length = n1 at *
                          generalize X.2.1 = n2 at *
                          generalize X.2.2 = n3 at *
                          go_wp2_with (fail)
                          refine HSM.out.mono ?_
                          rintro e w7 ⟨rfl, rfl⟩
                          go_wp2_with (fail)
                          go_round
                          case rel => exact ⟨j + 1, by go_num, by omega, Lib.hid ⟨M5, S6.out.mono (by omega)⟩⟩
                          case measure => simp [intOf]; omega
                      · obtain rfl : j = pg := by omega
                        go_wp2_with (fail)
                        go_loopw [284] (fun x wr => PuRel5 w F0 G N A R hg hs l0 x wr) (fun x _ => N - (intOf x).toNat)
                        case atStart => exact ⟨0, rfl, Nat.zero_le _, Lib.hid ⟨M1, HS.out.mono (by omega)⟩⟩
                        case round =>
                          clear HS
                          obtain ⟨i, rfl, hi, HR⟩ := hrel
                          obtain ⟨M2, hS⟩ := HR.out
                          have HS := Lib.hid hS
                          clear hS HR
                          by_cases hlt5 : i < N
                          · as_aux_lemma =>
                              have hlt5' : (i : Int) < (N : Int) := by omega
                              have RD := dread_ok HS.out.s.d HS.out.s.calm.tame HS.out.s.calm.off i hlt5
                              have hrow := now_sector HS.out.s.d.drum.ok hlt5
                              rw [HS.out.s.row] at hrow
                              obtain ⟨row, hr⟩ : ∃ row, M2.now.getD i ⟨#[]⟩ = row := ⟨_, rfl⟩
                              rw [hr] at RD hrow
                              have HRD := Lib.hid RD
                              have HROW := Lib.hid hrow
                              have q1 : 64 * i + 64 ≤ 64 * N := by omega
                              have q2 : ¬ 64 * N = 64 * i := by omega
                              clear RD hr hrow
                              go_wp2_with (fail)
                              refine HRD.out.mono ?_
                              rintro e w5 ⟨g5, rfl, d5, o5, z5, nf5, t5⟩
                              have c5 := HS.out.s.calm
                              have s5 : Seen w w5 F0 G N (10000 + (i + 1)) l0 M2.step := by
                                have h1 := HS.out.s.steps
                                have h2 := HS.out.s.loose
                                have h3 := DM.step_steps _ c5.off
                                refine ⟨d5, ⟨?_, ?_, ?_, ?_⟩, ?_, ?_, ?_⟩
                                · rw [DM.step_fuse _ c5.off, c5.fuse]; rfl
                                · rw [DM.step_down _ c5.off, c5.down]
                                · rw [h3]; omega
                                · rw [DM.step_loose]; exact c5.loose
                                · rw [h3]; omega
                                · rw [DM.step_loose]; omega
                                · unfold nowL; rw [DM.step_now]; exact HS.out.s.row
                              have S5 := Lib.hid (HS.out.went s5 ⟨t5.mono (only_F HS.out.s.d.drum.fG), fun _ hk => .inl hk⟩)
                              have hx : (ofL ((l0.drop (64 * i)).take 64)).size = 64 := piece_size HS.out.len _ _ q1
                              have eqr : row = ofL ((l0.drop (64 * i)).take 64) := by rw [← HROW.out, ofL_bl]
                              rw [eqr] at o5
                              have SM := same_yes (some ⟨g5, 0, none⟩) (some ⟨A, 64 * i, none⟩) (ofL ((l0.drop (64 * i)).take 64)) 64 (64 * N - 64 * i) w5 o5.holds (S5.out.piece (64 * i) 64 q1)
                              rw [hx] at SM
                              have HSM := Lib.hid SM
                              clear d5 o5 z5 nf5 t5 c5 s5 hx eqr SM HRD
                              go_wp2_with (fail)
                              refine HSM.out.mono ?_
                              rintro e w6 ⟨rfl, rfl⟩
                              go_wp2_with (fail)
                              go_round
                              case rel => exact ⟨i + 1, by go_num, by omega, Lib.hid ⟨_, S5.out⟩⟩
                              case measure => simp [intOf]; omega
                          · obtain rfl : i = N := by omega
                            go_wp2_with (fail)
                            go_ret
                            exact ⟨ret_bool (by simp), HS.out.s.d.below⟩
end Go.Proofs.Ytlkffignbjpfcaa
