/- Proved here: the statement DrumPlays, walked: it answers true of every input, in every world. -/
import Derived.Test.YtjjdclnikhbikaaPlNew
import Derived.Test.YtjjdclnikhbikaaPlays
import Derived.Test.YtjjdclnikhbikaaDrumOps
import Derived.Deep.QuietTactic
import Derived.BigQuiet
import Derived.Deep.RegionHeld3
namespace Go.Proofs.Ytjjdclnikhbikaa
open Go.RowKit

theorem below_drewN3 {B : Nat} {a w : World} {n : Nat} (h : Below B a w) : Below B a (w.drewN n) := ⟨h.os, h.tape, h.output, h.size, h.block⟩
def PlRel (w : World) (G R N L : Nat) (v : Value) (wr : World) : Prop := ∃ j : Nat, v = .int .i64 (j : Int) ∧ j ≤ L ∧ Hid (∃ F M, PS w wr F G R N M ∧ Small M (min j 400))
def PlRel2 (w : World) (G R N : Nat) (v : Value) (wr : World) : Prop := ∃ j : Nat, v = .int .i64 (j : Int) ∧ j ≤ N ∧ Hid (∃ F M, PS w wr F G R N M ∧ Small M (401 + j))
theorem play_nil (w W : World) (F : Nat → Prop) (G R N b : Nat) (M : DM) (kind n : Int) (h : PS w W F G R N M) (hb : b ≤ 2000) (hs : Small M b) (hn : -9223372036854775808 ≤ n ∧ n ≤ 9223372036854775807) :
    Calls Try.prog 9 #[.pointer (some ⟨G, 0, none⟩), .pointer (some ⟨R, 0, none⟩), .agg #[.int .i64 kind, .int .i64 n, .slice none 0 0, .slice none 0 0]] W fun e W' => e = .returned (.bool true) ∧ ∃ F' M', PS w W' F' G R N M' ∧ Small M' (b + 1) :=
  plays_any w W F G R N b M kind n none none ⟨#[]⟩ [] 0 0 h hb hs (fun h => absurd h (by decide)) (fun _ => rfl) (by decide) (fun h => absurd h (by decide)) (fun _ => rfl) (by decide) hn
set_option maxRecDepth 100000 in
set_option maxHeartbeats 64000000 in
theorem drumPlays_walk (p : Option Addr) (c : Nat) (l : List OpM) (n : Int) (w : World) (hl : l.length ≤ 140737488351232) (hp : HoldsOps w p l) (hn : -9223372036854775808 ≤ n ∧ n ≤ 9223372036854775807) :
    Calls Try.prog 3 #[.int .i64 n, .slice p l.length c] w fun e w' => e = .returned (.bool true) ∧ Below w.heap.size w w' := by
  have AW := Lib.hid (awake13_any w)
  have HP := Lib.hid hp
  obtain ⟨L, hL⟩ : ∃ L, l.length = L := ⟨_, rfl⟩
  have HL := Lib.hid hL
  rw [hL] at hl ⊢
  have hl' : (L : Int) ≤ 140737488351232 := by omega
  clear hp hL
  by_cases hr : n < 1 ∨ 16384 < n
  · have HR := Lib.hid hr
    have AR := Lib.hid (fun W => new_arg n hr W)
    have hz : n < 1 ∨ 16384 < n := hr
    go_enter Try.func3, Try.ntmps3
    go_wp2_with (fail)
    refine (AW.out).mono ?_
    rintro e w1 ⟨rfl, hb1⟩
    have B1 := Lib.hid hb1
    clear hb1 AW hr
    go_wp2_with (fail)
    refine (AR.out _).mono ?_
    rintro e w2 ⟨rfl, rfl⟩
    rcases hz with hz | hz
    · go_wp2_with (fail)
      go_ret
      exact ⟨ret_bool (by simp), B1.out⟩
    · have hz1 : ¬ n < 1 := by omega
      go_wp2_with (fail)
      go_ret
      exact ⟨ret_bool (by simp), B1.out⟩
  · obtain ⟨N, rfl⟩ : ∃ N : Nat, n = (N : Int) := ⟨n.toNat, by omega⟩
    have g1 : 1 ≤ N := by omega
    have g2 : N ≤ 16384 := by omega
    have i1 : ¬ (N : Int) < 1 := by omega
    have i2 : ¬ (16384 : Int) < (N : Int) := by omega
    clear hr hn
    go_enter Try.func3, Try.ntmps3
    go_wp2_with (fail)
    refine (AW.out).mono ?_
    rintro e w1 ⟨rfl, hb1⟩
    have B1 := Lib.hid hb1
    clear hb1 AW
    go_wp2_with (fail)
    refine (new_ok N g1 g2 _).mono ?_
    rintro e w2 ⟨G, F, rfl, hd, hb, hF⟩
    have D2 := Lib.hid (DW.mk hd (cat_b B1.out hb) (fun k hk => Nat.le_trans B1.out.size (hF k hk)))
    clear hd hb hF B1
    by_cases h2 : N ≤ 200
    · have i3 : ¬ (200 : Int) < (N : Int) := by omega
      go_wp2_with (fail)
      refine (rnew_any N h2 _).mono ?_
      rintro e w3 ⟨s3, c3, Vs3, rfl, ho3, hr3, hb3⟩
      have P3 := Lib.hid (boxed_new D2.out g1 g2 ho3 hr3 hb3)
      clear ho3 hr3 hb3 D2
      go_wp2_with (fail)
      all_goals try (exfalso; omega)
      generalize hR : w3.heap.size = R at P3 ⊢
      clear hR
      go_loopw [54] (fun v wr => PlRel w G R N L v wr) (fun v _ => L - (intOf v).toNat)
      case atStart => exact ⟨0, rfl, Nat.zero_le _, Lib.hid ⟨F, newM N, P3.out, small_new N⟩⟩
      case round =>
        obtain ⟨j, rfl, hj, HR⟩ := hrel
        obtain ⟨F', M, hD, hI⟩ := HR.out
        have HI := Lib.hid hI
        have HD := Lib.hid hD
        clear hD hI HR
        by_cases hlt : j < L
        · obtain ⟨b, off, rfl, hc⟩ := HP.out (by rw [HL.out]; omega)
          obtain ⟨pa, pc, ka, kc, c0, c1, c2, c3, hB, hpn, hps, hK, hkn, hks, hkb, hnb⟩ := hc j (by rw [HL.out]; exact hlt)
          obtain ⟨x, hx⟩ : ∃ x, l[j]'(by rw [HL.out]; exact hlt) = x := ⟨_, rfl⟩
          rw [hx] at c0 c1 c2 c3 hB hps hK hks hkb hnb
          obtain ⟨kind, hkd⟩ : ∃ kind, x.kind = kind := ⟨_, rfl⟩
          obtain ⟨y, hy⟩ : ∃ y, x.n = y := ⟨_, rfl⟩
          rw [hkd] at c0 hkb
          rw [hy] at c1 hnb
          have d0 := hb_cell HD.out.d.below c0
          have d1 := hb_cell HD.out.d.below c1
          have d2 := hb_cell HD.out.d.below c2
          have d3 := hb_cell HD.out.d.below c3
          have HB := Lib.hid (And.intro hB (And.intro hpn hps))
          have HK := Lib.hid (And.intro hK (And.intro hkn hks))
          have HNB := Lib.hid hnb
          have hlt' : (j : Int) < (L : Int) := by omega
          clear hc hx hkd hy hB hpn hps hK hkn hks c0 c1 c2 c3 hnb
          obtain ⟨sz, hsz⟩ : ∃ sz, x.p.size = sz := ⟨_, rfl⟩
          obtain ⟨kz, hkz⟩ : ∃ kz, x.keep.length = kz := ⟨_, rfl⟩
          rw [hsz] at d2
          rw [hkz] at d3
          have PX := Lib.hid (fun (W : World) (h : PS w W F' G R N M) (hj400 : j < 400) => by
            have := plays_any w W F' G R N (min j 400) M kind y pa ka x.p x.keep pc kc h (by omega) HI.out HB.out.1 HB.out.2.1 HB.out.2.2 HK.out.1 HK.out.2.1 HK.out.2.2 HNB.out
            rw [hsz, hkz] at this
            exact this)
          clear hsz hkz
          by_cases h400 : j < 400
          · have h400' : (j : Int) < 400 := by omega
            go_wp2_with (fail)
            refine (PX.out _ (HD.out.on ((Below.refl _ _).alloc (Nat.le_refl _) _)) h400).mono ?_
            rintro e w5 ⟨rfl, F5, M5, hp5, hs5⟩
            have H5 := Lib.hid (And.intro hp5 hs5)
            clear hp5 hs5
            go_wp2_with (fail)
            go_round
            case rel => exact ⟨j + 1, by go_num, by omega, Lib.hid ⟨F5, M5, H5.out.1, H5.out.2.mono (by omega)⟩⟩
            case measure => simp [intOf]; omega
          · have h400' : ¬ (j : Int) < 400 := by omega
            go_wp2_with (fail)
            go_round
            case rel => exact ⟨j + 1, by go_num, by omega, Lib.hid ⟨F', M, HD.out.on ((Below.refl _ _).alloc (Nat.le_refl _) _), HI.out.mono (by omega)⟩⟩
            case measure => simp [intOf]; omega
        · obtain rfl : j = L := by omega
          go_wp2_with (fail)
          refine (play_nil w _ F' G R N (min j 400) M 4 0 HD.out (by omega) HI.out (by decide)).mono ?_
          rintro e w6 ⟨rfl, F6, M6, hp6, hs6⟩
          have H6 := Lib.hid (And.intro hp6 hs6)
          clear hp6 hs6
          go_wp2_with (fail)
          go_loopw [73] (fun v wr => PlRel2 w G R N v wr) (fun v _ => N - (intOf v).toNat)
          case atStart => exact ⟨0, rfl, Nat.zero_le _, Lib.hid ⟨F6, M6, H6.out.1, H6.out.2.mono (by omega)⟩⟩
          case round =>
            obtain ⟨i, rfl, hi, HR⟩ := hrel
            obtain ⟨F7, M7, hD7, hI7⟩ := HR.out
            have H7 := Lib.hid (And.intro hD7 hI7)
            clear hD7 hI7 HR
            by_cases hiN : i < N
            · have hiN' : (i : Int) < (N : Int) := by omega
              go_wp2_with (fail)
              refine (play_nil w _ F7 G R N (401 + i) M7 0 (i : Int) H7.out.1 (by omega) H7.out.2 (by omega)).mono ?_
              rintro e w8 ⟨rfl, F8, M8, hp8, hs8⟩
              have H8 := Lib.hid (And.intro hp8 hs8)
              clear hp8 hs8
              go_wp2_with (fail)
              go_round
              case rel => exact ⟨i + 1, by go_num, by omega, Lib.hid ⟨F8, M8, H8.out.1, H8.out.2.mono (by omega)⟩⟩
              case measure => simp [intOf]; omega
            · obtain rfl : i = N := by omega
              go_wp2_with (fail)
              go_ret
              exact ⟨ret_bool (by simp), H7.out.1.d.below⟩
    · have i3 : (200 : Int) < (N : Int) := by omega
      go_wp2_with (fail)
      all_goals try (exfalso; omega)
      refine (sectors_any w2 F G N (newM N) D2.out.drum).mono ?_
      rintro e w' ⟨rfl, rfl⟩
      go_wp2_with (fail)
      go_ret
      exact ⟨ret_bool (by simp), D2.out.below⟩
end Go.Proofs.Ytjjdclnikhbikaa
