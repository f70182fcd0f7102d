/- Proved here: the document's Lines answers, in a new row, linesB of every slice of bytes of less than 2^47 bytes, as char.Lines does; what was there stays. -/
import Derived.Test.YtcfecnleibeegaaGreatDoorLines
namespace Go.Proofs.YtcfecnleibeegaaGreatDoor
open Go.RowKit

def RLinesRel (s : ByteArray) (w : World) (v i : Value) (wr : World) : Prop := ∃ (k g cap : Nat) (o : ByteArray), i = .int .i64 k ∧ v = .slice (some ⟨g, 0, none⟩) o.size cap ∧ Owns wr w.heap.size g cap o ∧ Below w.heap.size w wr ∧ k ≤ s.size ∧ o.size ≤ k ∧ RAcc s o k

set_option maxHeartbeats 4000000 in
set_option maxRecDepth 100000 in
theorem refLines_some (s : ByteArray) (b off c : Nat) (w : World) (hs : s.size ≤ 140737488355000) (hp : ∀ j, j < s.size → w.cell? ⟨b, off + j, none⟩ = some (.int .u8 (s.get! j).toNat)) :
    Calls Tryz.prog 25 #[.slice (some ⟨b, off, none⟩) s.size c] w (MadeB (linesB s) w) := by
  have HP := Lib.hid hp
  clear hp
  go_enter Tryz.func25, Tryz.ntmps25
  go_wp2_with (fail)
  go_loopw [3, 4] (fun v i wr => RLinesRel s w v i wr) (fun _ i _ => s.size - (intOf i).toNat)
  case atStart => exact ⟨0, w.heap.size, 0, ⟨#[]⟩, rfl, rfl, owns_empty w, (Below.refl _ _).alloc (Nat.le_refl _) _, Nat.zero_le _, Nat.le_refl _, racc_zero s⟩
  case round =>
    obtain ⟨k, g, cap, o, rfl, rfl, ho, hB, hk, hok, hacc⟩ := hrel
    have ACC := Lib.hid hacc
    clear hacc
    by_cases hlt : k < s.size
    · have hlz : (k : Int) < (s.size : Int) := by omega
      have ck := hb_cell hB (HP.out k hlt)
      by_cases hx : s.get! k = 13
      · have e1 : (s.get! k).toNat = 13 := by rw [hx]; rfl
        rw [e1] at ck
        have HN := Lib.hid (racc_13 s o k hlt hx ACC.out)
        clear hx e1
        obtain ⟨g', cap', w2, hr, ho', hb'⟩ := append_one 10 ho hB (by omega)
        have HR := Lib.hid hr
        have HO := Lib.hid ho'
        have HB := Lib.hid hb'
        have HACC := Lib.hid (HN.out)
        clear hr ho' hb' ho hB
        go_wp2_with (first | (at_builtin; refine wpList_append_eq rfl (.tmp 17) (.tmp 18) 22 rfl _ _ _ _ rfl rfl HR.out ?_) | (at_builtin; refine wpList_append_eq rfl (.tmp 37) (.tmp 42) 22 rfl _ _ _ _ rfl rfl HR.out ?_))
        go_roundw
        case rel =>
          go_light
          exact ⟨k + 1, g', cap', _, by go_num, by rw [size_push], HO.out, HB.out, by omega, by rw [size_push]; omega, HACC.out⟩
        case measure => simp [intOf]; omega
      · have e2 : ¬ (s.get! k).toNat = 13 := fun e => hx (UInt8.toNat_inj.1 (by rw [e]; rfl))
        have e3 : (((s.get! k).toNat : Int) == 13) = false := by rw [beq_eq_false_iff_ne]; omega
        by_cases hy : s.get! k = 10
        · have e4 : (s.get! k).toNat = 10 := by rw [hy]; rfl
          rw [e4] at ck
          clear e2 e3
          by_cases h0 : k = 0
          · have h01 : ((k : Int) == 0) = true := by rw [h0]; rfl
            have HN := Lib.hid (racc_other s o k hlt hx (by rintro ⟨_, e⟩; rw [h0] at e; exact absurd e (by show ¬ ((0 : UInt8) = 13); decide)) ACC.out)
            rw [hy] at HN
            clear hx hy e4 h0
            obtain ⟨g', cap', w2, hr, ho', hb'⟩ := append_one 10 ho hB (by omega)
            have HR := Lib.hid hr
            have HO := Lib.hid ho'
            have HB := Lib.hid hb'
            have HACC := Lib.hid (HN.out)
            clear hr ho' hb' ho hB
            go_wp2_with (first | (at_builtin; refine wpList_append_eq rfl (.tmp 17) (.tmp 18) 22 rfl _ _ _ _ rfl rfl HR.out ?_) | (at_builtin; refine wpList_append_eq rfl (.tmp 37) (.tmp 42) 22 rfl _ _ _ _ rfl rfl HR.out ?_))
            go_roundw
            case rel =>
              go_light
              exact ⟨k + 1, g', cap', _, by go_num, by rw [size_push], HO.out, HB.out, by omega, by rw [size_push]; omega, HACC.out⟩
            case measure => simp [intOf]; omega
          · have h01 : ((k : Int) == 0) = false := by rw [beq_eq_false_iff_ne]; omega
            have cq := hb_cell hB (HP.out (k - 1) (by omega))
            have hk1 : ((k - 1 : Nat) : Int) = (k : Int) - 1 := by omega
            have hk2 : (0 : Int) ≤ (k : Int) - 1 := by omega
            have hk3 : (k : Int) - 1 < (s.size : Int) := by omega
            have hk4 : ((k : Int) - 1).toNat = k - 1 := by omega
            have hpv : prevOf s k = s.get! (k - 1) := by unfold prevOf; rw [if_neg h0]
            by_cases hz : s.get! (k - 1) = 13
            · have e5 : (s.get! (k - 1)).toNat = 13 := by rw [hz]; rfl
              rw [e5] at cq
              have HACC := Lib.hid (racc_skip s o k hlt hy (by rw [hpv]; exact hz) ACC.out)
              have HO := Lib.hid ho
              have HB := Lib.hid hB
              clear hx hy e4 hz e5 hpv ho hB h0 hk1
              go_wp2_with (fail)
              go_roundw
              case rel =>
                go_light
                exact ⟨k + 1, g, cap, o, by go_num, rfl, HO.out, HB.out, by omega, by omega, HACC.out⟩
              case measure => simp [intOf]; omega
            · have e5 : ¬ (s.get! (k - 1)).toNat = 13 := fun e => hz (UInt8.toNat_inj.1 (by rw [e]; rfl))
              have e6 : (((s.get! (k - 1)).toNat : Int) != 13) = true := by rw [bne_iff_ne]; omega
              have HN := Lib.hid (racc_other s o k hlt hx (by rintro ⟨_, e⟩; rw [hpv] at e; exact hz e) ACC.out)
              rw [hy] at HN
              clear hx hy e4 hz e5 hpv h0 hk1
              obtain ⟨g', cap', w2, hr, ho', hb'⟩ := append_one 10 ho hB (by omega)
              have HR := Lib.hid hr
              have HO := Lib.hid ho'
              have HB := Lib.hid hb'
              have HACC := Lib.hid (HN.out)
              clear hr ho' hb' ho hB
              generalize (s.get! (k - 1)).toNat = y at *
              go_wp2_with (first | (at_builtin; refine wpList_append_eq rfl (.tmp 17) (.tmp 18) 22 rfl _ _ _ _ rfl rfl HR.out ?_) | (at_builtin; refine wpList_append_eq rfl (.tmp 37) (.tmp 42) 22 rfl _ _ _ _ rfl rfl HR.out ?_))
              go_roundw
              case rel =>
                go_light
                exact ⟨k + 1, g', cap', _, by go_num, by rw [size_push], HO.out, HB.out, by omega, by rw [size_push]; omega, HACC.out⟩
              case measure => simp [intOf]; omega
        · have e4 : ¬ (s.get! k).toNat = 10 := fun e => hy (UInt8.toNat_inj.1 (by rw [e]; rfl))
          have e5 : (((s.get! k).toNat : Int) != 10) = true := by rw [bne_iff_ne]; omega
          have HN := Lib.hid (racc_other s o k hlt hx (by rintro ⟨e, _⟩; exact hy e) ACC.out)
          clear hx e2 hy e4
          obtain ⟨g', cap', w2, hr, ho', hb'⟩ := append_one (s.get! k) ho hB (by omega)
          have HR := Lib.hid hr
          have HO := Lib.hid ho'
          have HB := Lib.hid hb'
          have HACC := Lib.hid (HN.out)
          clear hr ho' hb' ho hB
          go_wp2_with (first | (at_builtin; refine wpList_append_eq rfl (.tmp 17) (.tmp 18) 22 rfl _ _ _ _ rfl rfl HR.out ?_) | (at_builtin; refine wpList_append_eq rfl (.tmp 37) (.tmp 42) 22 rfl _ _ _ _ rfl rfl HR.out ?_))
          go_roundw
          case rel =>
            go_light
            exact ⟨k + 1, g', cap', _, by go_num, by rw [size_push], HO.out, HB.out, by omega, by rw [size_push]; omega, HACC.out⟩
          case measure => simp [intOf]; omega
    · have e : o = linesB s := racc_end s o k hlt ACC.out
      have HO := Lib.hid ho
      have HB := Lib.hid hB
      have HE := Lib.hid e
      clear e ho hB
      go_wp2_with (fail)
      go_ret
      refine ⟨g, cap, ?_, ?_, HB.out⟩
      · rw [← HE.out]; rfl
      · rw [← HE.out]; exact HO.out

theorem linesB_none (s : ByteArray) (h : s.size = 0) : linesB s = ⟨#[]⟩ := by
  have e : s = ⟨#[]⟩ := by
    apply ByteArray.ext
    exact Array.eq_empty_of_size_eq_zero h
  subst e
  rfl

theorem lines_any (p : Option Addr) (s : ByteArray) (c : Nat) (w : World) (hs : s.size ≤ 140737488355000) (hp : HoldsB w p s) :
    Calls Tryz.prog 23 #[.slice p s.size c] w (MadeB (linesB s) w) := by
  by_cases h0 : 0 < s.size
  · obtain ⟨b, off, rfl, hc⟩ := hp h0
    exact lines_some s b off c w hs hc
  · have hz : s.size = 0 := by omega
    rw [linesB_none s hz, hz]
    obtain ⟨w1, hmk, ho0, hb0⟩ := make_own w 0 (by omega)
    have HO := Lib.hid ho0
    have HB := Lib.hid hb0
    clear ho0 hb0 hz h0 hp hs
    simp only [Int.cast_ofNat_Int] at hmk
    go_enter Tryz.func23, Tryz.ntmps23
    go_wp2_with (fail)
    clear hmk
    go_loop [3, 11] (fun v i => i = .int .i64 0 ∧ v = .slice (some ⟨w.heap.size, 0, none⟩) 0 0) (fun _ _ => 0)
    case atStart => exact ⟨rfl, rfl⟩
    case round =>
      obtain ⟨rfl, rfl⟩ := hrel
      go_wp2_with (fail)
      go_ret
      exact ⟨w.heap.size, 0, rfl, HO.out, HB.out⟩

theorem refLines_any (p : Option Addr) (s : ByteArray) (c : Nat) (w : World) (hs : s.size ≤ 140737488355000) (hp : HoldsB w p s) :
    Calls Tryz.prog 25 #[.slice p s.size c] w (MadeB (linesB s) w) := by
  by_cases h0 : 0 < s.size
  · obtain ⟨b, off, rfl, hc⟩ := hp h0
    exact refLines_some s b off c w hs hc
  · have hz : s.size = 0 := by omega
    rw [linesB_none s hz, hz]
    clear hz h0 hp hs
    go_enter Tryz.func25, Tryz.ntmps25
    go_wp2_with (fail)
    go_loop [3, 4] (fun v i => i = .int .i64 0 ∧ v = .slice (some ⟨w.heap.size, 0, none⟩) 0 0) (fun _ _ => 0)
    case atStart => exact ⟨rfl, rfl⟩
    case round =>
      obtain ⟨rfl, rfl⟩ := hrel
      go_wp2_with (fail)
      go_ret
      exact ⟨w.heap.size, 0, rfl, owns_empty w, (Below.refl _ _).alloc (Nat.le_refl _) _⟩
end Go.Proofs.YtcfecnleibeegaaGreatDoor
