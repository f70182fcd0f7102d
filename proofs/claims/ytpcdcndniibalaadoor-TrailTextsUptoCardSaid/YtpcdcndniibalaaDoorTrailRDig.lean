/- Proved here: what the document's digits writes of a number of at most nine digits. -/
import Derived.Test.YtpcdcndniibalaaDoorTrailDoc
import Derived.Test.YtpcdcndniibalaaDoorTrailRPlain
import Derived.Test.YtpcdcndniibalaaDoorConvStr
import Derived.BigGuardPart
namespace Go.Proofs.YtpcdcndniibalaaDoor
open Go.RowKit

theorem t_one_str (w : World) (z : Int) (c : Nat) (hz : z = c) (hc : c < 256) : (convert 48 9 (.slice (some ⟨w.heap.size, 0, none⟩) 1 1)).run Tryd.prog (w.alloc (.cells #[.int .u8 z] 5)) = .ok (.string ⟨#[UInt8.ofNat c]⟩) (w.alloc (.cells #[.int .u8 z] 5)) := by
  subst hz
  have hh : (w.alloc (.cells #[.int .u8 (c : Int)] 5)).heap[w.heap.size]? = some (.cells #[.int .u8 (c : Int)] 5) := heap_alloc_new w _
  have hp : HoldsB (w.alloc (.cells #[.int .u8 (c : Int)] 5)) (some ⟨w.heap.size, 0, none⟩) ⟨#[UInt8.ofNat c]⟩ := fun _ => ⟨_, _, rfl, fun j hj => by
    have hj1 : j < 1 := hj
    obtain rfl : j = 0 := by omega
    rw [cell_of_row _ _ _ #[.int .u8 (c : Int)] 5 _ hh]
    show some (Value.int .u8 (c : Int)) = some (.int .u8 ((UInt8.ofNat c).toNat : Int))
    rw [UInt8.toNat_ofNat', Nat.mod_eq_of_lt hc]⟩
  exact conv_str hp 1 (fun e => by cases e)
def DgRel (n : Nat) (w : World) (v0 v3 : Value) (wr : World) : Prop := ∃ (m : Nat) (z : ByteArray), v0 = .int .i64 (m : Int) ∧ v3 = .string z ∧ m ≤ n ∧ z.size ≤ 9 ∧ Hid (Lib.decDigits m ++ z.data.toList = Lib.decDigits n ∧ Below w.heap.size w wr)
theorem dig_cat (D z : ByteArray) (a : UInt8) (h : (⟨#[a]⟩ : ByteArray) = D) : (D ++ z).data.toList = a :: z.data.toList := by rw [← h]; simp
set_option maxRecDepth 100000 in
set_option maxHeartbeats 4000000 in
theorem digits8_any (n : Nat) (hn : n ≤ 999999999) (w : World) : Calls Tryd.prog 25 #[.int .i64 (n : Int)] w fun e w' => e = .returned (.string ⟨(Lib.decDigits n).toArray⟩) ∧ Below w.heap.size w w' := by
  have h9 := dig_len 8 n (by omega)
  go_enter Tryd.func25, Tryd.ntmps25
  go_wp2_with (fail)
  go_loopw [0, 3] (fun v0 v3 wr => DgRel n w v0 v3 wr) (fun v0 _ _ => (intOf v0).toNat)
  case atStart => exact ⟨n, ⟨#[]⟩, rfl, rfl, Nat.le_refl _, Nat.zero_le _, Lib.hid ⟨by simp, Below.refl _ _⟩⟩
  case round =>
    obtain ⟨m, z, rfl, rfl, hm, hz, HR⟩ := hrel
    by_cases h : 9 < m
    · have g1 : (9 : Int) < (m : Int) := by omega
      have hmb : (m : Int) % 10 < 10 := by omega
      have hdd : Lib.decDigits m = Lib.decDigits (m / 10) ++ [UInt8.ofNat (48 + m % 10)] := by rw [Lib.decDigits, dif_neg (by omega)]
      have hcv := t_one_str wr (48 + (m : Int) % 10) (48 + m % 10) (by omega) (by omega)
      obtain ⟨D, hD⟩ : ∃ D : ByteArray, (⟨#[UInt8.ofNat (48 + m % 10)]⟩ : ByteArray) = D := ⟨_, rfl⟩
      have hcat := dig_cat D z _ hD
      rw [hD] at hcv
      have hsz : (D ++ z).size = z.size + 1 := by rw [ByteArray.size_append, ← hD]; show 1 + z.size = _; omega
      have hlen : (D ++ z).size ≤ 9 := by
        have h1 := congrArg List.length HR.out.1
        rw [hdd] at h1
        simp only [List.length_append, List.length_cons, List.length_nil, Array.length_toList] at h1
        have e : z.data.size = z.size := rfl
        omega
      have hsum : ¬ D.size + z.size > 9223372036854775807 := by rw [← ByteArray.size_append]; omega
      have KEEP := Lib.hid (And.intro (show Lib.decDigits (m / 10) ++ (D ++ z).data.toList = Lib.decDigits n by rw [hcat, ← HR.out.1, hdd]; simp) (HR.out.2.alloc HR.out.2.size (.cells #[.int .u8 (48 + (m : Int) % 10)] 5)))
      have HL := Lib.hid hlen
      clear hdd hD hcat hsz hlen HR h9
      go_wp2_with (fail)
      go_roundw
      case rel =>
        go_light
        exact ⟨m / 10, D ++ z, by go_num, rfl, by omega, HL.out, KEEP⟩
      case measure => simp [intOf]; omega
    · have g1 : ¬ (9 : Int) < (m : Int) := by omega
      have hdd : Lib.decDigits m = [UInt8.ofNat (48 + m)] := by rw [Lib.decDigits, dif_pos (by omega)]
      have hcv := t_one_str wr (48 + (m : Int)) (48 + m) (by omega) (by omega)
      obtain ⟨D, hD⟩ : ∃ D : ByteArray, (⟨#[UInt8.ofNat (48 + m)]⟩ : ByteArray) = D := ⟨_, rfl⟩
      have hcat := dig_cat D z _ hD
      rw [hD] at hcv
      have hds : D.size = 1 := by rw [← hD]; rfl
      have hsum : ¬ D.size + z.size > 9223372036854775807 := by omega
      have hres : D ++ z = ⟨(Lib.decDigits n).toArray⟩ := ba_ext (by rw [hcat, ← HR.out.1, hdd]; simp)
      have KEEP := Lib.hid (And.intro hres (HR.out.2.alloc HR.out.2.size (.cells #[.int .u8 (48 + (m : Int))] 5)))
      clear hdd hD hcat hres HR hds h9
      go_wp2_with (fail)
      go_ret
      exact ⟨by rw [← KEEP.out.1]; rfl, KEEP.out.2⟩
end Go.Proofs.YtpcdcndniibalaaDoor
