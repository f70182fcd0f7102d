/- Proved here: what refer's write makes of a text, byte for byte (Text): the document's way of writing it; what was there stays. -/
import Derived.Test.YtdomhjjoijkeaaaDoorWritePlain
import Derived.Test.YtdomhjjoijkeaaaDoorShelfR
import Derived.Test.YtdomhjjoijkeaaaDoorExpandKit
import Derived.BigGuardPart
import Derived.Lib.OthersKept
namespace Go.Proofs.YtdomhjjoijkeaaaDoor
open Go.RowKit

theorem index_str (s : ByteArray) (k : Nat) (h : k < s.size) (W : World) : (Instr.index 9 (.string s) (.int .i64 (k : Int))).run Tryd.prog W = .ok (.int .u8 (by_ s k)) W := by
  rw [run_index_string W 9 s .i64 (k : Int) Tryd.underlying9]
  rw [by_get s k h]
  simp [h]
theorem text_esc (c : Int) (w : World) : Calls Tryd.prog 31 #[.int .u8 c] w fun e w' => e = .returned (.string (escT c)) ∧ w = w' := by
  obtain ⟨p, hp⟩ : ∃ p, escT c = p := ⟨_, rfl⟩
  have HP := Lib.hid hp
  rw [hp]; clear hp
  go_enter Tryd.func31, Tryd.ntmps31
  go_wp2
  all_goals go_ret
  all_goals refine ⟨?_, rfl⟩
  all_goals (rw [← HP.out]; unfold escT; simp [*])

def WrRel_text (s : ByteArray) (w : World) (i : Value) (wr : World) : Prop := ∃ (k : Nat) (out : List UInt8), i = .int .i64 k ∧ k ≤ s.size ∧ Lib.IsBuilderF 60 5 w.heap.size w.heap.size (Lib.byteCells out) wr ∧ Below w.heap.size w wr ∧ WAcc escT s k out ∧ out.length ≤ 6 * k
set_option maxHeartbeats 4000000 in
set_option maxRecDepth 100000 in
theorem text_write (s : ByteArray) (w : World) (hs : s.size ≤ 20000000000000) :
    Calls Tryd.prog 30 #[.string s, .func (.func 31) #[] #[]] w fun e w' => e = .returned (.string (writtenB escT s)) ∧ Below w.heap.size w w' := by
  have F0 := Lib.hid (Lib.IsBuilderF.of (Lib.fresh_isBuilder 60 5 w))
  go_enter Tryd.func30, Tryd.ntmps30
  go_wp2_with (fail)
  go_loopw [10] (fun i wr => WrRel_text s w i wr) (fun i _ => s.size - (intOf i).toNat)
  case atStart => exact ⟨0, [], rfl, Nat.zero_le _, F0.out, (Below.refl _ _).alloc (Nat.le_refl _) _, wacc_zero escT s, Nat.zero_le _⟩
  case round =>
    obtain ⟨k, out, rfl, hk, hbd, hb, hacc, hlen⟩ := hrel
    by_cases hlt : k < s.size
    · have hlz : (k : Int) < (s.size : Int) := by omega
      have hkz : (0 : Int) ≤ (k : Int) := by omega
      have E := Lib.hid (fun W => text_esc (by_ s k) W)
      have hz := escT_size (by_ s k)
      have hidx : ∀ W : World, (Instr.index 9 (.string s) (.int .i64 (k : Int))).run Tryd.prog W = .ok (.int .u8 (by_ s k)) W := fun W => index_str s k hlt W
      by_cases ht : escT (by_ s k) = ⟨#[]⟩
      · rw [ht] at E
        have HA := Lib.hid (wacc_self escT s k out hlt ht hacc)
        have HW := Lib.hid (Tryd.Builder_WriteByte_k w.heap.size w.heap.size (Lib.byteCells out) (by_ s k) wr hbd (by rw [byteCells_length]; omega) hb.size)
        clear hacc hbd ht hz
        go_wp2_with (fail)
        refine (E.out _).mono ?_
        rintro e w1 ⟨rfl, rfl⟩
        go_wp2_with (fail)
        refine HW.out.mono ?_
        rintro e w1 ⟨rfl, hb1, hb2, _⟩
        go_wp2_with (fail)
        go_roundw
        case rel =>
          go_light
          exact ⟨k + 1, out ++ [s.get! k], by go_num, by omega, .inr (by rw [byteCells_append]; exact hb1), hb.trans hb2, HA.out, by simp; omega⟩
        case measure => simp [intOf]; omega
      · have HA := Lib.hid (wacc_esc escT s k out hlt ht hacc)
        obtain ⟨t, hte⟩ : ∃ t, escT (by_ s k) = t := ⟨_, rfl⟩
        rw [hte] at E HA ht hz
        have htb := str_some ht
        have HW := Lib.hid (Tryd.Builder_WriteString_k w.heap.size w.heap.size (Lib.byteCells out) t wr hbd (by rw [byteCells_length]; omega) hb.size)
        clear hacc hbd hte
        go_wp2_with (fail)
        refine (E.out _).mono ?_
        rintro e w1 ⟨rfl, rfl⟩
        go_wp2_with (fail)
        refine HW.out.mono ?_
        rintro e w1 ⟨rfl, hb1, hb2, _⟩
        go_wp2_with (fail)
        go_roundw
        case rel =>
          go_light
          exact ⟨k + 1, out ++ t.data.toList, by go_num, by omega, .inr (by rw [byteCells_append]; exact hb1), hb.trans hb2, HA.out, by simp; omega⟩
        case measure => simp [intOf]; omega
    · have hout := wacc_end escT s k out hlt hacc
      have HS := Lib.hid (Tryd.Builder_String_any_k w.heap.size w.heap.size out wr hbd hb.size)
      have HO := Lib.hid hout
      clear hacc hbd hout
      go_wp2_with (fail)
      refine HS.out.mono ?_
      rintro e w1 ⟨rfl, _, hb2, _⟩
      go_wp2_with (fail)
      go_ret
      exact ⟨by rw [HO.out]; rfl, hb.trans hb2⟩

theorem text_any (s : ByteArray) (w : World) (hs : s.size ≤ 20000000000000) :
    Calls Tryd.prog 13 #[.string s] w fun e w' => e = .returned (.string (writtenB escT s)) ∧ Below w.heap.size w w' := by
  have H := Lib.hid (text_write s w hs)
  go_enter Tryd.func13, Tryd.ntmps13
  go_wp2_with (fail)
  refine H.out.mono ?_
  rintro e w1 ⟨rfl, hb⟩
  go_wp2_with (fail)
  go_ret
  exact ⟨rfl, hb⟩
end Go.Proofs.YtdomhjjoijkeaaaDoor
