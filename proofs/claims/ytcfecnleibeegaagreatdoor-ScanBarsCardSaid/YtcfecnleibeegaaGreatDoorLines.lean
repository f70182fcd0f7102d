/- Proved here: char.Lines answers, in a new row, the bytes with all line ends made one (linesB), of every slice of bytes of less than 2^47 bytes; what was there stays. -/
import Derived.Test.YtcfecnleibeegaaGreatDoorOwns2
import Derived.Test.YtcfecnleibeegaaGreatDoorM0
import Derived.BigGuardPart
namespace Go.Proofs.YtcfecnleibeegaaGreatDoor
open Go.RowKit

def LinesRel (s : ByteArray) (w : World) (v i : Value) (wr : World) : Prop := ∃ (k g cap : Nat) (o : ByteArray), i = .int .i64 k ∧ v = .slice (some ⟨g, 0, none⟩) o.size cap ∧ Owns wr w.heap.size g cap o ∧ Below w.heap.size w wr ∧ k ≤ s.size ∧ o.size ≤ k ∧ LAcc s o k

theorem u8_int {x : UInt8} {n : Nat} (hn : n < 256) : (x.toNat : Int) = (n : Int) ↔ x = UInt8.ofNat n := by
  constructor
  · intro h
    apply UInt8.toNat_inj.1
    rw [UInt8.toNat_ofNat']
    omega
  · rintro rfl
    rw [UInt8.toNat_ofNat']
    omega

/-- It ends with a row of the call's own that holds t. -/
def MadeB (t : ByteArray) (w : World) (e : Ending) (w' : World) : Prop := ∃ g cap, e = .returned (.slice (some ⟨g, 0, none⟩) t.size cap) ∧ Owns w' w.heap.size g cap t ∧ Below w.heap.size w w'

set_option maxHeartbeats 4000000 in
set_option maxRecDepth 100000 in
theorem lines_some (s : ByteArray) (b off c : Nat) (w : World) (hs : s.size ≤ 140737488355000) (hp : ∀ j, j < s.size → w.cell? ⟨b, off + j, none⟩ = some (.int .u8 (s.get! j).toNat)) :
    Calls Tryz.prog 23 #[.slice (some ⟨b, off, none⟩) s.size c] w (MadeB (linesB s) w) := by
  have HP := Lib.hid hp
  clear hp
  obtain ⟨w1, hmk, ho0, hb0⟩ := make_own w s.size (by omega)
  go_enter Tryz.func23, Tryz.ntmps23
  go_wp2_with (fail)
  clear hmk
  go_loopw [3, 11] (fun v i wr => LinesRel s w v i wr) (fun _ i _ => s.size - (intOf i).toNat)
  case atStart => exact ⟨0, w.heap.size, s.size, ⟨#[]⟩, rfl, rfl, ho0, hb0, Nat.zero_le _, Nat.le_refl _, lacc_zero s⟩
  case round =>
    obtain ⟨k, g, cap, o, rfl, rfl, ho, hB, hk, hok, hacc⟩ := hrel
    have ACC := Lib.hid hacc
    clear hacc ho0 hb0
    by_cases hlt : k < s.size
    · have hlz : (k : Int) < (s.size : Int) := by omega
      have ck := hb_cell hB (HP.out k hlt)
      by_cases hx : s.get! k = 13
      · have e1 : (s.get! k).toNat = 13 := by rw [hx]; rfl
        rw [e1] at ck
        by_cases hl : k + 1 = s.size
        · have hl1 : ((k : Int) + 1 == (s.size : Int)) = true := by rw [beq_iff_eq]; omega
          have HN := Lib.hid (lacc_end13 s o k hlt hx (by omega) ACC.out)
          clear hx e1 hl
          obtain ⟨g', cap', w2, hr, ho', hb'⟩ := append_one 10 ho hB (by omega)
          have HR := Lib.hid hr
          have HO := Lib.hid ho'
          have HB := Lib.hid hb'
          have HACC := Lib.hid (HN.out)
          clear hr ho' hb' ho hB
          go_wp2_with (first | (at_builtin; refine wpList_append_eq rfl (.tmp 19) (.tmp 21) 22 rfl _ _ _ _ rfl rfl HR.out ?_) | (at_builtin; refine wpList_append_eq rfl (.tmp 37) (.tmp 38) 22 rfl _ _ _ _ rfl rfl HR.out ?_))
          go_roundw
          case rel =>
            go_light
            exact ⟨k + 1, g', cap', _, by go_num, by rw [size_push], HO.out, HB.out, by omega, by rw [size_push]; omega, HACC.out⟩
          case measure => simp [intOf]; omega
        · have hl1 : ((k : Int) + 1 == (s.size : Int)) = false := by rw [beq_eq_false_iff_ne]; omega
          have hk1 : (k : Int) + 1 < (s.size : Int) := by omega
          have cn := hb_cell hB (HP.out (k + 1) (by omega))
          by_cases hy : s.get! (k + 1) = 10
          · have e2 : (s.get! (k + 1)).toNat = 10 := by rw [hy]; rfl
            rw [e2] at cn
            have HACC := Lib.hid (lacc_skip s o k hlt hx (by omega) hy ACC.out)
            have HO := Lib.hid ho
            have HB := Lib.hid hB
            clear hx e1 e2 hy hl ho hB
            go_wp2_with (fail)
            go_roundw
            case rel =>
              go_light
              exact ⟨k + 1, g, cap, o, by go_num, rfl, HO.out, HB.out, by omega, by omega, HACC.out⟩
            case measure => simp [intOf]; omega
          · have e2 : ¬ (s.get! (k + 1)).toNat = 10 := fun e => hy (UInt8.toNat_inj.1 (by rw [e]; rfl))
            have e3 : (((s.get! (k + 1)).toNat : Int) != 10) = true := by rw [bne_iff_ne]; omega
            have HN := Lib.hid (lacc_end13 s o k hlt hx (by rintro ⟨_, e⟩; exact hy e) ACC.out)
            clear hx e1 e2 hy hl
            obtain ⟨g', cap', w2, hr, ho', hb'⟩ := append_one 10 ho hB (by omega)
            have HR := Lib.hid hr
            have HO := Lib.hid ho'
            have HB := Lib.hid hb'
            have HACC := Lib.hid (HN.out)
            clear hr ho' hb' ho hB
            generalize (s.get! (k + 1)).toNat = y at *
            go_wp2_with (first | (at_builtin; refine wpList_append_eq rfl (.tmp 19) (.tmp 21) 22 rfl _ _ _ _ rfl rfl HR.out ?_) | (at_builtin; refine wpList_append_eq rfl (.tmp 37) (.tmp 38) 22 rfl _ _ _ _ rfl rfl HR.out ?_))
            go_roundw
            case rel =>
              go_light
              exact ⟨k + 1, g', cap', _, by go_num, by rw [size_push], HO.out, HB.out, by omega, by rw [size_push]; omega, HACC.out⟩
            case measure => simp [intOf]; omega
      · have e2 : ¬ (s.get! k).toNat = 13 := fun e => hx (UInt8.toNat_inj.1 (by rw [e]; rfl))
        have e3 : (((s.get! k).toNat : Int) != 13) = true := by rw [bne_iff_ne]; omega
        have HN := Lib.hid (lacc_other s o k hlt hx ACC.out)
        clear hx e2
        obtain ⟨g', cap', w2, hr, ho', hb'⟩ := append_one (s.get! k) ho hB (by omega)
        have HR := Lib.hid hr
        have HO := Lib.hid ho'
        have HB := Lib.hid hb'
        have HACC := Lib.hid (HN.out)
        clear hr ho' hb' ho hB
        go_wp2_with (first | (at_builtin; refine wpList_append_eq rfl (.tmp 19) (.tmp 21) 22 rfl _ _ _ _ rfl rfl HR.out ?_) | (at_builtin; refine wpList_append_eq rfl (.tmp 37) (.tmp 38) 22 rfl _ _ _ _ rfl rfl HR.out ?_))
        go_roundw
        case rel =>
          go_light
          exact ⟨k + 1, g', cap', _, by go_num, by rw [size_push], HO.out, HB.out, by omega, by rw [size_push]; omega, HACC.out⟩
        case measure => simp [intOf]; omega
    · have e : o = linesB s := lacc_end s o k hlt ACC.out
      have HO := Lib.hid ho
      have HB := Lib.hid hB
      have HE := Lib.hid e
      clear e ho hB
      go_wp2_with (fail)
      go_ret
      refine ⟨g, cap, ?_, ?_, HB.out⟩
      · rw [← HE.out]; rfl
      · rw [← HE.out]; exact HO.out
end Go.Proofs.YtcfecnleibeegaaGreatDoor
