/- Proved here: the statement DrumClones, walked: it answers true of every input, in every world. -/
import Derived.Test.YtlkffignbjpfcaaTwoPairs
import Derived.Test.YtlkffignbjpfcaaRTwin
import Derived.Test.YtlkffignbjpfcaaDrumCloneW
import Derived.Test.YtlkffignbjpfcaaDrumAwake
import Derived.Test.YtlkffignbjpfcaaDrumOps
import Derived.Deep.QuietTactic
import Derived.BigQuiet
import Derived.Deep.RegionHeld3
namespace Go.Proofs.Ytlkffignbjpfcaa
open Go.RowKit

theorem plays_in (w W : World) (E F : Nat → Prop) (G R N b : Nat) (M : DM) (kind n : Int) (pa ka : Option Addr) (s : ByteArray) (keep : List Bool) (pc kc : Nat) (h : PS w W E F G R N M) (hb : b ≤ 2000) (hs : Small M b)
    (hB : HoldsB w pa s) (hpn : pa = none → pc = 0) (hsz : s.size ≤ 140737488351232) (hK : HoldsT w ka keep) (hkn : ka = none → kc = 0) (hkz : keep.length ≤ 140737488351232) (hn : -9223372036854775808 ≤ n ∧ n ≤ 9223372036854775807) (sz kz : Nat) (h1 : s.size = sz) (h2 : keep.length = kz) :
    Calls Try.prog 8 #[.pointer (some ⟨G, 0, none⟩), .pointer (some ⟨R, 0, none⟩), .agg #[.int .i64 kind, .int .i64 n, .slice pa sz pc, .slice ka kz kc]] W fun e W' => e = .returned (.bool true) ∧ ∃ F' M', PS w W' E F' G R N M' ∧ Small M' (b + 1) ∧ Touch (Mut F R) W W' ∧ ∀ k, F' k → Grow F W W' k := by
  subst h1 h2
  exact plays_touch w W E F G R N b M kind n pa ka s keep pc kc h hb hs hB hpn hsz hK hkn hkz hn
theorem plays_nil (w W : World) (E F : Nat → Prop) (G R N b : Nat) (M : DM) (kind n : Int) (h : PS w W E F G R N M) (hb : b ≤ 2000) (hs : Small M b) (hn : -9223372036854775808 ≤ n ∧ n ≤ 9223372036854775807) :
    Calls Try.prog 8 #[.pointer (some ⟨G, 0, none⟩), .pointer (some ⟨R, 0, none⟩), .agg #[.int .i64 kind, .int .i64 n, .slice none 0 0, .slice none 0 0]] W fun e W' => e = .returned (.bool true) ∧ ∃ F' M', PS w W' E F' G R N M' ∧ Small M' (b + 1) ∧ Touch (Mut F R) W W' ∧ ∀ k, F' k → Grow F W W' k :=
  plays_touch w W E F G R N b M kind n none none ⟨#[]⟩ [] 0 0 h hb hs (fun h => absurd h (by decide)) (fun _ => rfl) (by decide) (fun h => absurd h (by decide)) (fun _ => rfl) (by decide) hn
def ClRel1 (w : World) (G R L : Nat) (v : Value) (wr : World) : Prop := ∃ j : Nat, v = .int .i64 (j : Int) ∧ j ≤ L ∧ Hid (∃ F M, PS w wr (fun _ => False) F G R 6 M ∧ Small M (min j 100))
def ClRel2 (w : World) (G R G2 R2 L : Nat) (v : Value) (wr : World) : Prop := ∃ j : Nat, v = .int .i64 (j : Int) ∧ j ≤ L ∧ j ≤ 100 ∧ Hid (∃ F M F2 M2, Two w wr F G R M F2 G2 R2 M2 6 ∧ Small M (101 + j) ∧ Small M2 (101 + j))
def ClRel3 (w : World) (G R G2 R2 : Nat) (v : Value) (wr : World) : Prop := ∃ j : Nat, v = .int .i64 (j : Int) ∧ j ≤ 6 ∧ Hid (∃ F M F2 M2, Two w wr F G R M F2 G2 R2 M2 6 ∧ Small M (301 + 2 * j) ∧ Small M2 (301 + 2 * j))
/-- A step of a script as it lies in memory. -/
structure OpIn (w : World) (b o : Nat) (kind n : Int) (pa ka : Option Addr) (sz kz pc kc : Nat) : Prop where
  c0 : w.cell? ⟨b, o, none⟩ = some (.int .i64 kind)
  c1 : w.cell? ⟨b, o + 1, none⟩ = some (.int .i64 n)
  c2 : w.cell? ⟨b, o + 2, none⟩ = some (.slice pa sz pc)
  c3 : w.cell? ⟨b, o + 3, none⟩ = some (.slice ka kz kc)
  nb : -9223372036854775808 ≤ n ∧ n ≤ 9223372036854775807
  play : ∀ (W : World) (E F : Nat → Prop) (G R N b : Nat) (M : DM), PS w W E F G R N M → b ≤ 2000 → Small M b → Calls Try.prog 8 #[.pointer (some ⟨G, 0, none⟩), .pointer (some ⟨R, 0, none⟩), .agg #[.int .i64 kind, .int .i64 n, .slice pa sz pc, .slice ka kz kc]] W fun e W' => e = .returned (.bool true) ∧ ∃ F' M', PS w W' E F' G R N M' ∧ Small M' (b + 1) ∧ Touch (Mut F R) W W' ∧ ∀ k, F' k → Grow F W W' k
theorem ops_in {w : World} {p : Option Addr} {l : List OpM} (hp : HoldsOps w p l) {j L : Nat} (hL : l.length = L) (hj : j < L) : ∃ b off, p = some ⟨b, off, none⟩ ∧ ∃ kind n pa ka sz kz pc kc, OpIn w b (off + j * 4) kind n pa ka sz kz pc kc := by
  subst hL
  obtain ⟨b, off, rfl, hc⟩ := hp (by omega)
  obtain ⟨pa, pc, ka, kc, c0, c1, c2, c3, hB, hpn, hps, hK, hkn, hks, hkb, hnb⟩ := hc j hj
  exact ⟨b, off, rfl, _, _, pa, ka, _, _, pc, kc, ⟨c0, c1, c2, c3, hnb, fun W E F G R N b M h hb hs => plays_in w W E F G R N b M _ _ pa ka _ _ pc kc h hb hs hB hpn hps hK hkn hks hnb _ _ rfl rfl⟩⟩
set_option maxRecDepth 100000 in
set_option maxHeartbeats 64000000 in
theorem drumClones_walk (p1 p2 p3 : Option Addr) (k1 k2 k3 : Nat) (l1 l2 l3 : List OpM) (w : World) (hl1 : l1.length ≤ 140737488351232) (hl2 : l2.length ≤ 140737488351232) (hl3 : l3.length ≤ 140737488351232) (hp1 : HoldsOps w p1 l1) (hp2 : HoldsOps w p2 l2) (hp3 : HoldsOps w p3 l3) :
    Calls Try.prog 3 #[.slice p1 l1.length k1, .slice p2 l2.length k2, .slice p3 l3.length k3] w fun e w' => e = .returned (.bool true) ∧ Below w.heap.size w w' := by
  have AW := Lib.hid (awake13_any w)
  obtain ⟨L1, hL1⟩ : ∃ L, l1.length = L := ⟨_, rfl⟩
  obtain ⟨L2, hL2⟩ : ∃ L, l2.length = L := ⟨_, rfl⟩
  obtain ⟨L3, hL3⟩ : ∃ L, l3.length = L := ⟨_, rfl⟩
  have HP1 := Lib.hid (And.intro hp1 hL1)
  have HP2 := Lib.hid (And.intro hp2 hL2)
  have HP3 := Lib.hid (And.intro hp3 hL3)
  rw [hL1] at hl1 ⊢
  rw [hL2] at hl2 ⊢
  rw [hL3] at hl3 ⊢
  have hl1' : (L1 : Int) ≤ 140737488351232 := by omega
  have hl2' : (L2 : Int) ≤ 140737488351232 := by omega
  have hl3' : (L3 : Int) ≤ 140737488351232 := by omega
  clear hp1 hp2 hp3 hL1 hL2 hL3 hl1 hl2 hl3
  go_enter Try.func3, Try.ntmps3
  go_wp2_with (fail)
  refine (AW.out).mono ?_
  rintro e w1 ⟨rfl, hb1⟩
  have B1 := Lib.hid hb1
  clear hb1 AW
  go_wp2_with (fail)
  refine (new_ok 6 (by decide) (by decide) _).mono ?_
  rintro e w2 ⟨G, F, rfl, hd, hb, hF⟩
  have D2 := Lib.hid (DW.mk hd (cat_b B1.out hb) (fun k hk => Nat.le_trans B1.out.size (hF k hk)))
  clear hd hb hF B1
  go_wp2_with (fail)
  refine (rnew_any 6 (by decide) _).mono ?_
  rintro e w3 ⟨s3, c3, Vs3, rfl, ho3, hr3, hb3⟩
  have P3 := Lib.hid (boxed_new D2.out (by decide) (by decide) ho3 hr3 hb3)
  clear ho3 hr3 hb3 D2
  go_wp2_with (fail)
  generalize hR : w3.heap.size = R at P3 ⊢
  clear hR
  go_loopw [31] (fun v wr => ClRel1 w G R L1 v wr) (fun v _ => L1 - (intOf v).toNat)
  case atStart => exact ⟨0, rfl, Nat.zero_le _, Lib.hid ⟨F, newM 6, P3.out, small_new 6⟩⟩
  case round =>
    obtain ⟨j, rfl, hj, HR⟩ := hrel
    obtain ⟨F', M, hD, hI⟩ := HR.out
    have HI := Lib.hid hI
    have HD := Lib.hid hD
    clear hD hI HR
    by_cases hlt : j < L1
    · obtain ⟨b, off, rfl, kind, y, pa, ka, sz, kz, pc, kc, hop⟩ := ops_in HP1.out.1 HP1.out.2 hlt
      have d0 := hb_cell HD.out.d.below hop.c0
      have d1 := hb_cell HD.out.d.below hop.c1
      have d2 := hb_cell HD.out.d.below hop.c2
      have d3 := hb_cell HD.out.d.below hop.c3
      have HOP := Lib.hid hop
      have hlt' : (j : Int) < (L1 : Int) := by omega
      clear hop
      by_cases h400 : j < 100
      · have h400' : (j : Int) < 100 := by omega
        go_wp2_with (fail)
        refine (HOP.out.play _ _ F' G R 6 (min j 100) M (HD.out.on ((Below.refl _ _).alloc (Nat.le_refl _) _)) (by omega) HI.out).mono ?_
        rintro e w5 ⟨rfl, F5, M5, hp5, hs5, -, -⟩
        have H5 := Lib.hid (And.intro hp5 hs5)
        clear hp5 hs5
        go_wp2_with (fail)
        go_round
        case rel => exact ⟨j + 1, by go_num, by omega, Lib.hid ⟨F5, M5, H5.out.1, H5.out.2.mono (by omega)⟩⟩
        case measure => simp [intOf]; omega
      · have h400' : ¬ (j : Int) < 100 := by omega
        go_wp2_with (fail)
        go_round
        case rel => exact ⟨j + 1, by go_num, by omega, Lib.hid ⟨F', M, HD.out.on ((Below.refl _ _).alloc (Nat.le_refl _) _), HI.out.mono (by omega)⟩⟩
        case measure => simp [intOf]; omega
    · obtain rfl : j = L1 := by omega
      go_wp2_with (fail)
      refine (dclone_any wr F' G 6 M HD.out.d.drum (by have := HI.out.loose; omega)).mono ?_
      rintro e w6 ⟨G2, F2, rfl, hd2, hb6, hF2⟩
      have RT := rtwin_any w6 (Mue F2 F' R) R 6 M (HD.out.twin_in hb6 (fun k hk => ⟨hF2 k hk, hd2.lt k hk⟩)) (by have := HI.out.loose; omega)
      have HRT := Lib.hid RT
      have H6 := Lib.hid (And.intro hd2 (And.intro hb6 hF2))
      clear RT hd2 hb6 hF2
      go_wp2_with (fail)
      refine (HRT.out).mono ?_
      rintro e w7 ⟨g7, q7, c7, d7, Vs7, Ws7, rfl, o1, o2, hr7, hwl, hw7, hb7⟩
      have T7 := Lib.hid (two_made HD.out H6.out.1 H6.out.2.1 H6.out.2.2 o1 o2 hr7 hwl hw7 hb7)
      clear o1 o2 hr7 hwl hw7 hb7 H6 HRT
      go_wp2_with (fail)
      · generalize hR2 : w7.heap.size = R2 at T7 ⊢
        clear hR2
        have hI0 := HI.out.mono (c := 101 + 0) (by omega)
        have HI7 := Lib.hid hI0
        clear hI0
        go_loopw [55] (fun v wr => ClRel2 w G R G2 R2 L3 v wr) (fun v _ => L3 - (intOf v).toNat)
        case atStart => exact ⟨0, rfl, Nat.zero_le _, by omega, Lib.hid ⟨F', M, F2, M, T7.out, HI7.out, HI7.out⟩⟩
        case round =>
          clear T7 HI7 HI HD
          obtain ⟨i, rfl, hi, hi100, HR⟩ := hrel
          obtain ⟨Fa, Ma, Fb, Mb, hT, hIa, hIb⟩ := HR.out
          have HT := Lib.hid (And.intro hT (And.intro hIa hIb))
          clear hT hIa hIb HR
          by_cases hltM : i < L3
          · have hltM' : (i : Int) < (L3 : Int) := by omega
            by_cases hlt100 : i < 100
            · have hlt100' : ¬ (100 : Int) ≤ (i : Int) := by omega
              have hlt100x : (i : Int) < 100 := by omega
              by_cases h2 : i < L2
              · have h2' : (i : Int) < (L2 : Int) := by omega
                obtain ⟨b2, off2, rfl, kind2, y2, pa2, ka2, sz2, kz2, pc2, kc2, hop2⟩ := ops_in HP2.out.1 HP2.out.2 h2
                have HOP2 := Lib.hid hop2
                clear hop2
                have d0_2 := hb_cell HT.out.1.a.d.below HOP2.out.c0
                have d1_2 := hb_cell HT.out.1.a.d.below HOP2.out.c1
                have d2_2 := hb_cell HT.out.1.a.d.below HOP2.out.c2
                have d3_2 := hb_cell HT.out.1.a.d.below HOP2.out.c3
                by_cases h3 : i < L3
                · have h3' : (i : Int) < (L3 : Int) := by omega
                  go_wp2_with (fail)
                  refine (HOP2.out.play _ (Mut Fb R2) Fa G R 6 (101 + i) Ma HT.out.1.a (by omega) HT.out.2.1).mono ?_
                  rintro e w8 ⟨rfl, F8, M8, hp8, hs8, ht8, hg8⟩
                  have T8 := HT.out.1.left hp8 ht8 hg8
                  have HT8 := Lib.hid (And.intro T8 hs8)
                  clear hp8 hs8 ht8 hg8 T8
                  obtain ⟨b3, off3, rfl, kind3, y3, pa3, ka3, sz3, kz3, pc3, kc3, hop3⟩ := ops_in HP3.out.1 HP3.out.2 h3
                  have HOP3 := Lib.hid hop3
                  clear hop3
                  have d0_3 := hb_cell HT8.out.1.a.d.below HOP3.out.c0
                  have d1_3 := hb_cell HT8.out.1.a.d.below HOP3.out.c1
                  have d2_3 := hb_cell HT8.out.1.a.d.below HOP3.out.c2
                  have d3_3 := hb_cell HT8.out.1.a.d.below HOP3.out.c3
                  go_wp2_with (fail)
                  refine (HOP3.out.play _ (Mut F8 R) Fb G2 R2 6 (101 + i) Mb HT8.out.1.b (by omega) HT.out.2.2).mono ?_
                  rintro e w9 ⟨rfl, F9, M9, hp9, hs9, ht9, hg9⟩
                  have T9 := HT8.out.1.right hp9 ht9 hg9
                  have HT9 := Lib.hid (And.intro T9 hs9)
                  clear hp9 hs9 ht9 hg9 T9
                  go_wp2_with (fail)
                  go_round
                  case rel => exact ⟨i + 1, by go_num, by omega, by omega, Lib.hid ⟨_, _, _, _, HT9.out.1, HT8.out.2.mono (by omega), HT9.out.2.mono (by omega)⟩⟩
                  case measure => simp [intOf]; omega
                · have h3' : ¬ (i : Int) < (L3 : Int) := by omega
                  exfalso; omega
              · have h2' : ¬ (i : Int) < (L2 : Int) := by omega
                by_cases h3 : i < L3
                · have h3' : (i : Int) < (L3 : Int) := by omega
                  obtain ⟨b3, off3, rfl, kind3, y3, pa3, ka3, sz3, kz3, pc3, kc3, hop3⟩ := ops_in HP3.out.1 HP3.out.2 h3
                  have HOP3 := Lib.hid hop3
                  clear hop3
                  have d0_3 := hb_cell HT.out.1.a.d.below HOP3.out.c0
                  have d1_3 := hb_cell HT.out.1.a.d.below HOP3.out.c1
                  have d2_3 := hb_cell HT.out.1.a.d.below HOP3.out.c2
                  have d3_3 := hb_cell HT.out.1.a.d.below HOP3.out.c3
                  go_wp2_with (fail)
                  refine (HOP3.out.play _ (Mut Fa R) Fb G2 R2 6 (101 + i) Mb HT.out.1.b (by omega) HT.out.2.2).mono ?_
                  rintro e w9 ⟨rfl, F9, M9, hp9, hs9, ht9, hg9⟩
                  have T9 := HT.out.1.right hp9 ht9 hg9
                  have HT9 := Lib.hid (And.intro T9 hs9)
                  clear hp9 hs9 ht9 hg9 T9
                  go_wp2_with (fail)
                  go_round
                  case rel => exact ⟨i + 1, by go_num, by omega, by omega, Lib.hid ⟨_, _, _, _, HT9.out.1, HT.out.2.1.mono (by omega), HT9.out.2.mono (by omega)⟩⟩
                  case measure => simp [intOf]; omega
                · exfalso; omega
            · have hlt100' : (100 : Int) ≤ (i : Int) := by omega
              have hlt100x : ¬ (i : Int) < 100 := by omega
              go_wp2_with (fail)
              go_loopw [89] (fun v wr => ClRel3 w G R G2 R2 v wr) (fun v _ => 6 - (intOf v).toNat)
              case atStart => exact ⟨0, rfl, by omega, Lib.hid ⟨_, _, _, _, HT.out.1, HT.out.2.1.mono (by omega), HT.out.2.2.mono (by omega)⟩⟩
              case round =>
                clear HT
                obtain ⟨k, rfl, hk, HR⟩ := hrel
                obtain ⟨Fc, Mc, Fd, Md, hT, hIa, hIb⟩ := HR.out
                have HT := Lib.hid (And.intro hT (And.intro hIa hIb))
                clear hT hIa hIb HR
                by_cases hk6 : k < 6
                · have hk6' : (k : Int) < 6 := by omega
                  go_wp2_with (fail)
                  refine (plays_nil w _ (Mut Fd R2) Fc G R 6 (301 + 2 * k) Mc 4 0 HT.out.1.a (by omega) HT.out.2.1 (by omega)).mono ?_
                  rintro e wa ⟨rfl, F5, M5, hp5, hs5, ht5, hg5⟩
                  have T5 := HT.out.1.left hp5 ht5 hg5
                  have HT5 := Lib.hid (And.intro T5 hs5)
                  clear hp5 hs5 ht5 hg5 T5
                  go_wp2_with (fail)
                  refine (plays_nil w _ (Mut Fd R2) F5 G R 6 (301 + 2 * k + 1) M5 0 (k : Int) HT5.out.1.a (by omega) HT5.out.2 (by omega)).mono ?_
                  rintro e wb ⟨rfl, F6, M6, hp6, hs6, ht6, hg6⟩
                  have T6 := HT5.out.1.left hp6 ht6 hg6
                  have HT6 := Lib.hid (And.intro T6 hs6)
                  clear hp6 hs6 ht6 hg6 T6
                  go_wp2_with (fail)
                  refine (plays_nil w _ (Mut F6 R) Fd G2 R2 6 (301 + 2 * k) Md 4 0 HT6.out.1.b (by omega) HT.out.2.2 (by omega)).mono ?_
                  rintro e wc ⟨rfl, F7, M7, hp7, hs7, ht7, hg7⟩
                  have T7 := HT6.out.1.right hp7 ht7 hg7
                  have HT7 := Lib.hid (And.intro T7 hs7)
                  clear hp7 hs7 ht7 hg7 T7
                  go_wp2_with (fail)
                  refine (plays_nil w _ (Mut F6 R) F7 G2 R2 6 (301 + 2 * k + 1) M7 0 (k : Int) HT7.out.1.b (by omega) HT7.out.2 (by omega)).mono ?_
                  rintro e wd ⟨rfl, F8, M8, hp8, hs8, ht8, hg8⟩
                  have T8 := HT7.out.1.right hp8 ht8 hg8
                  have HT8 := Lib.hid (And.intro T8 hs8)
                  clear hp8 hs8 ht8 hg8 T8
                  go_wp2_with (fail)
                  go_round
                  case rel => exact ⟨k + 1, by go_num, by omega, Lib.hid ⟨_, _, _, _, HT8.out.1, HT6.out.2.mono (by omega), HT8.out.2.mono (by omega)⟩⟩
                  case measure => simp [intOf]; omega
                · obtain rfl : k = 6 := by omega
                  go_wp2_with (fail)
                  go_ret
                  exact ⟨ret_bool (by simp), HT.out.1.a.d.below⟩
          · have hltM' : ¬ (i : Int) < (L3 : Int) := by omega
            go_wp2_with (fail)
            go_loopw [89] (fun v wr => ClRel3 w G R G2 R2 v wr) (fun v _ => 6 - (intOf v).toNat)
            case atStart => exact ⟨0, rfl, by omega, Lib.hid ⟨_, _, _, _, HT.out.1, HT.out.2.1.mono (by omega), HT.out.2.2.mono (by omega)⟩⟩
            case round =>
              clear HT
              obtain ⟨k, rfl, hk, HR⟩ := hrel
              obtain ⟨Fc, Mc, Fd, Md, hT, hIa, hIb⟩ := HR.out
              have HT := Lib.hid (And.intro hT (And.intro hIa hIb))
              clear hT hIa hIb HR
              by_cases hk6 : k < 6
              · have hk6' : (k : Int) < 6 := by omega
                go_wp2_with (fail)
                refine (plays_nil w _ (Mut Fd R2) Fc G R 6 (301 + 2 * k) Mc 4 0 HT.out.1.a (by omega) HT.out.2.1 (by omega)).mono ?_
                rintro e wa ⟨rfl, F5, M5, hp5, hs5, ht5, hg5⟩
                have T5 := HT.out.1.left hp5 ht5 hg5
                have HT5 := Lib.hid (And.intro T5 hs5)
                clear hp5 hs5 ht5 hg5 T5
                go_wp2_with (fail)
                refine (plays_nil w _ (Mut Fd R2) F5 G R 6 (301 + 2 * k + 1) M5 0 (k : Int) HT5.out.1.a (by omega) HT5.out.2 (by omega)).mono ?_
                rintro e wb ⟨rfl, F6, M6, hp6, hs6, ht6, hg6⟩
                have T6 := HT5.out.1.left hp6 ht6 hg6
                have HT6 := Lib.hid (And.intro T6 hs6)
                clear hp6 hs6 ht6 hg6 T6
                go_wp2_with (fail)
                refine (plays_nil w _ (Mut F6 R) Fd G2 R2 6 (301 + 2 * k) Md 4 0 HT6.out.1.b (by omega) HT.out.2.2 (by omega)).mono ?_
                rintro e wc ⟨rfl, F7, M7, hp7, hs7, ht7, hg7⟩
                have T7 := HT6.out.1.right hp7 ht7 hg7
                have HT7 := Lib.hid (And.intro T7 hs7)
                clear hp7 hs7 ht7 hg7 T7
                go_wp2_with (fail)
                refine (plays_nil w _ (Mut F6 R) F7 G2 R2 6 (301 + 2 * k + 1) M7 0 (k : Int) HT7.out.1.b (by omega) HT7.out.2 (by omega)).mono ?_
                rintro e wd ⟨rfl, F8, M8, hp8, hs8, ht8, hg8⟩
                have T8 := HT7.out.1.right hp8 ht8 hg8
                have HT8 := Lib.hid (And.intro T8 hs8)
                clear hp8 hs8 ht8 hg8 T8
                go_wp2_with (fail)
                go_round
                case rel => exact ⟨k + 1, by go_num, by omega, Lib.hid ⟨_, _, _, _, HT8.out.1, HT6.out.2.mono (by omega), HT8.out.2.mono (by omega)⟩⟩
                case measure => simp [intOf]; omega
              · obtain rfl : k = 6 := by omega
                go_wp2_with (fail)
                go_ret
                exact ⟨ret_bool (by simp), HT.out.1.a.d.below⟩
      · generalize hR2 : w7.heap.size = R2 at T7 ⊢
        clear hR2
        have hI0 := HI.out.mono (c := 101 + 0) (by omega)
        have HI7 := Lib.hid hI0
        clear hI0
        go_loopw [55] (fun v wr => ClRel2 w G R G2 R2 L2 v wr) (fun v _ => L2 - (intOf v).toNat)
        case atStart => exact ⟨0, rfl, Nat.zero_le _, by omega, Lib.hid ⟨F', M, F2, M, T7.out, HI7.out, HI7.out⟩⟩
        case round =>
          clear T7 HI7 HI HD
          obtain ⟨i, rfl, hi, hi100, HR⟩ := hrel
          obtain ⟨Fa, Ma, Fb, Mb, hT, hIa, hIb⟩ := HR.out
          have HT := Lib.hid (And.intro hT (And.intro hIa hIb))
          clear hT hIa hIb HR
          by_cases hltM : i < L2
          · have hltM' : (i : Int) < (L2 : Int) := by omega
            by_cases hlt100 : i < 100
            · have hlt100' : ¬ (100 : Int) ≤ (i : Int) := by omega
              have hlt100x : (i : Int) < 100 := by omega
              by_cases h2 : i < L2
              · have h2' : (i : Int) < (L2 : Int) := by omega
                obtain ⟨b2, off2, rfl, kind2, y2, pa2, ka2, sz2, kz2, pc2, kc2, hop2⟩ := ops_in HP2.out.1 HP2.out.2 h2
                have HOP2 := Lib.hid hop2
                clear hop2
                have d0_2 := hb_cell HT.out.1.a.d.below HOP2.out.c0
                have d1_2 := hb_cell HT.out.1.a.d.below HOP2.out.c1
                have d2_2 := hb_cell HT.out.1.a.d.below HOP2.out.c2
                have d3_2 := hb_cell HT.out.1.a.d.below HOP2.out.c3
                by_cases h3 : i < L3
                · have h3' : (i : Int) < (L3 : Int) := by omega
                  go_wp2_with (fail)
                  refine (HOP2.out.play _ (Mut Fb R2) Fa G R 6 (101 + i) Ma HT.out.1.a (by omega) HT.out.2.1).mono ?_
                  rintro e w8 ⟨rfl, F8, M8, hp8, hs8, ht8, hg8⟩
                  have T8 := HT.out.1.left hp8 ht8 hg8
                  have HT8 := Lib.hid (And.intro T8 hs8)
                  clear hp8 hs8 ht8 hg8 T8
                  obtain ⟨b3, off3, rfl, kind3, y3, pa3, ka3, sz3, kz3, pc3, kc3, hop3⟩ := ops_in HP3.out.1 HP3.out.2 h3
                  have HOP3 := Lib.hid hop3
                  clear hop3
                  have d0_3 := hb_cell HT8.out.1.a.d.below HOP3.out.c0
                  have d1_3 := hb_cell HT8.out.1.a.d.below HOP3.out.c1
                  have d2_3 := hb_cell HT8.out.1.a.d.below HOP3.out.c2
                  have d3_3 := hb_cell HT8.out.1.a.d.below HOP3.out.c3
                  go_wp2_with (fail)
                  refine (HOP3.out.play _ (Mut F8 R) Fb G2 R2 6 (101 + i) Mb HT8.out.1.b (by omega) HT.out.2.2).mono ?_
                  rintro e w9 ⟨rfl, F9, M9, hp9, hs9, ht9, hg9⟩
                  have T9 := HT8.out.1.right hp9 ht9 hg9
                  have HT9 := Lib.hid (And.intro T9 hs9)
                  clear hp9 hs9 ht9 hg9 T9
                  go_wp2_with (fail)
                  go_round
                  case rel => exact ⟨i + 1, by go_num, by omega, by omega, Lib.hid ⟨_, _, _, _, HT9.out.1, HT8.out.2.mono (by omega), HT9.out.2.mono (by omega)⟩⟩
                  case measure => simp [intOf]; omega
                · have h3' : ¬ (i : Int) < (L3 : Int) := by omega
                  go_wp2_with (fail)
                  refine (HOP2.out.play _ (Mut Fb R2) Fa G R 6 (101 + i) Ma HT.out.1.a (by omega) HT.out.2.1).mono ?_
                  rintro e w8 ⟨rfl, F8, M8, hp8, hs8, ht8, hg8⟩
                  have T8 := HT.out.1.left hp8 ht8 hg8
                  have HT8 := Lib.hid (And.intro T8 hs8)
                  clear hp8 hs8 ht8 hg8 T8
                  go_wp2_with (fail)
                  go_round
                  case rel => exact ⟨i + 1, by go_num, by omega, by omega, Lib.hid ⟨_, _, _, _, HT8.out.1, HT8.out.2.mono (by omega), HT.out.2.2.mono (by omega)⟩⟩
                  case measure => simp [intOf]; omega
              · have h2' : ¬ (i : Int) < (L2 : Int) := by omega
                by_cases h3 : i < L3
                · have h3' : (i : Int) < (L3 : Int) := by omega
                  exfalso; omega
                · exfalso; omega
            · have hlt100' : (100 : Int) ≤ (i : Int) := by omega
              have hlt100x : ¬ (i : Int) < 100 := by omega
              go_wp2_with (fail)
              go_loopw [89] (fun v wr => ClRel3 w G R G2 R2 v wr) (fun v _ => 6 - (intOf v).toNat)
              case atStart => exact ⟨0, rfl, by omega, Lib.hid ⟨_, _, _, _, HT.out.1, HT.out.2.1.mono (by omega), HT.out.2.2.mono (by omega)⟩⟩
              case round =>
                clear HT
                obtain ⟨k, rfl, hk, HR⟩ := hrel
                obtain ⟨Fc, Mc, Fd, Md, hT, hIa, hIb⟩ := HR.out
                have HT := Lib.hid (And.intro hT (And.intro hIa hIb))
                clear hT hIa hIb HR
                by_cases hk6 : k < 6
                · have hk6' : (k : Int) < 6 := by omega
                  go_wp2_with (fail)
                  refine (plays_nil w _ (Mut Fd R2) Fc G R 6 (301 + 2 * k) Mc 4 0 HT.out.1.a (by omega) HT.out.2.1 (by omega)).mono ?_
                  rintro e wa ⟨rfl, F5, M5, hp5, hs5, ht5, hg5⟩
                  have T5 := HT.out.1.left hp5 ht5 hg5
                  have HT5 := Lib.hid (And.intro T5 hs5)
                  clear hp5 hs5 ht5 hg5 T5
                  go_wp2_with (fail)
                  refine (plays_nil w _ (Mut Fd R2) F5 G R 6 (301 + 2 * k + 1) M5 0 (k : Int) HT5.out.1.a (by omega) HT5.out.2 (by omega)).mono ?_
                  rintro e wb ⟨rfl, F6, M6, hp6, hs6, ht6, hg6⟩
                  have T6 := HT5.out.1.left hp6 ht6 hg6
                  have HT6 := Lib.hid (And.intro T6 hs6)
                  clear hp6 hs6 ht6 hg6 T6
                  go_wp2_with (fail)
                  refine (plays_nil w _ (Mut F6 R) Fd G2 R2 6 (301 + 2 * k) Md 4 0 HT6.out.1.b (by omega) HT.out.2.2 (by omega)).mono ?_
                  rintro e wc ⟨rfl, F7, M7, hp7, hs7, ht7, hg7⟩
                  have T7 := HT6.out.1.right hp7 ht7 hg7
                  have HT7 := Lib.hid (And.intro T7 hs7)
                  clear hp7 hs7 ht7 hg7 T7
                  go_wp2_with (fail)
                  refine (plays_nil w _ (Mut F6 R) F7 G2 R2 6 (301 + 2 * k + 1) M7 0 (k : Int) HT7.out.1.b (by omega) HT7.out.2 (by omega)).mono ?_
                  rintro e wd ⟨rfl, F8, M8, hp8, hs8, ht8, hg8⟩
                  have T8 := HT7.out.1.right hp8 ht8 hg8
                  have HT8 := Lib.hid (And.intro T8 hs8)
                  clear hp8 hs8 ht8 hg8 T8
                  go_wp2_with (fail)
                  go_round
                  case rel => exact ⟨k + 1, by go_num, by omega, Lib.hid ⟨_, _, _, _, HT8.out.1, HT6.out.2.mono (by omega), HT8.out.2.mono (by omega)⟩⟩
                  case measure => simp [intOf]; omega
                · obtain rfl : k = 6 := by omega
                  go_wp2_with (fail)
                  go_ret
                  exact ⟨ret_bool (by simp), HT.out.1.a.d.below⟩
          · have hltM' : ¬ (i : Int) < (L2 : Int) := by omega
            go_wp2_with (fail)
            go_loopw [89] (fun v wr => ClRel3 w G R G2 R2 v wr) (fun v _ => 6 - (intOf v).toNat)
            case atStart => exact ⟨0, rfl, by omega, Lib.hid ⟨_, _, _, _, HT.out.1, HT.out.2.1.mono (by omega), HT.out.2.2.mono (by omega)⟩⟩
            case round =>
              clear HT
              obtain ⟨k, rfl, hk, HR⟩ := hrel
              obtain ⟨Fc, Mc, Fd, Md, hT, hIa, hIb⟩ := HR.out
              have HT := Lib.hid (And.intro hT (And.intro hIa hIb))
              clear hT hIa hIb HR
              by_cases hk6 : k < 6
              · have hk6' : (k : Int) < 6 := by omega
                go_wp2_with (fail)
                refine (plays_nil w _ (Mut Fd R2) Fc G R 6 (301 + 2 * k) Mc 4 0 HT.out.1.a (by omega) HT.out.2.1 (by omega)).mono ?_
                rintro e wa ⟨rfl, F5, M5, hp5, hs5, ht5, hg5⟩
                have T5 := HT.out.1.left hp5 ht5 hg5
                have HT5 := Lib.hid (And.intro T5 hs5)
                clear hp5 hs5 ht5 hg5 T5
                go_wp2_with (fail)
                refine (plays_nil w _ (Mut Fd R2) F5 G R 6 (301 + 2 * k + 1) M5 0 (k : Int) HT5.out.1.a (by omega) HT5.out.2 (by omega)).mono ?_
                rintro e wb ⟨rfl, F6, M6, hp6, hs6, ht6, hg6⟩
                have T6 := HT5.out.1.left hp6 ht6 hg6
                have HT6 := Lib.hid (And.intro T6 hs6)
                clear hp6 hs6 ht6 hg6 T6
                go_wp2_with (fail)
                refine (plays_nil w _ (Mut F6 R) Fd G2 R2 6 (301 + 2 * k) Md 4 0 HT6.out.1.b (by omega) HT.out.2.2 (by omega)).mono ?_
                rintro e wc ⟨rfl, F7, M7, hp7, hs7, ht7, hg7⟩
                have T7 := HT6.out.1.right hp7 ht7 hg7
                have HT7 := Lib.hid (And.intro T7 hs7)
                clear hp7 hs7 ht7 hg7 T7
                go_wp2_with (fail)
                refine (plays_nil w _ (Mut F6 R) F7 G2 R2 6 (301 + 2 * k + 1) M7 0 (k : Int) HT7.out.1.b (by omega) HT7.out.2 (by omega)).mono ?_
                rintro e wd ⟨rfl, F8, M8, hp8, hs8, ht8, hg8⟩
                have T8 := HT7.out.1.right hp8 ht8 hg8
                have HT8 := Lib.hid (And.intro T8 hs8)
                clear hp8 hs8 ht8 hg8 T8
                go_wp2_with (fail)
                go_round
                case rel => exact ⟨k + 1, by go_num, by omega, Lib.hid ⟨_, _, _, _, HT8.out.1, HT6.out.2.mono (by omega), HT8.out.2.mono (by omega)⟩⟩
                case measure => simp [intOf]; omega
              · obtain rfl : k = 6 := by omega
                go_wp2_with (fail)
                go_ret
                exact ⟨ret_bool (by simp), HT.out.1.a.d.below⟩
end Go.Proofs.Ytlkffignbjpfcaa
