/- Proved here: what the statement's marked makes of a text: its bytes, behind a mark where it begins with one. -/
import Derived.Test.YteipiaefamfleaaGreatDoorM23
import Derived.Test.YteipiaefamfleaaGreatDoorM26
import Derived.Test.YteipiaefamfleaaGreatDoorM0
import Derived.Test.YteipiaefamfleaaGreatDoorM24
import Derived.BigGuardPart
import Derived.Laws.DeepStrings4
namespace Go.Proofs.YteipiaefamfleaaGreatDoor
open Go.RowKit

/-- What marked answers: a row of the bytes in new memory. -/
def MarkPost (m : ByteArray) (w : World) (e : Ending) (w' : World) : Prop := ∃ c, e = .returned (.slice (some ⟨w.heap.size, 0, none⟩) m.size c) ∧ m.size ≤ c ∧ HoldsB w' (some ⟨w.heap.size, 0, none⟩) m ∧ Below w.heap.size w w'
theorem mark_post {w W : World} {m : ByteArray} {cap : Nat} (h1 : m.size ≤ cap) (h2 : Below w.heap.size w W) (h3 : ∀ j, j < m.size → W.cell? ⟨w.heap.size, 0 + j, none⟩ = some (.int .u8 (m.get! j).toNat)) : MarkPost m w (.returned (.slice (some ⟨w.heap.size, 0, none⟩) m.size cap)) W :=
  ⟨cap, rfl, h1, fun _ => ⟨_, _, rfl, h3⟩, h2⟩
set_option maxRecDepth 100000 in
set_option maxHeartbeats 1000000 in
theorem marked_few (u : ByteArray) (w : World) (hu : u.size ≤ 4194304) (h3 : ¬ 3 ≤ u.size) :
    Calls Tryz.prog 7 #[.string u] w (MarkPost (u) w) := by
  have hz : ¬ (3 + u.size > 9223372036854775807) := by omega
  obtain ⟨cap, W3, hcv, hcap, hb3, -, hp3⟩ := bytes_of w (u)
  have HM := Lib.hid (mark_post hcap hb3 hp3)
  clear hcap hb3 hp3
  have g1 : ¬ (2 : Int) < (u.size : Int) := by omega
  have g2 : decide ((2 : Int) < (u.size : Int)) = false := decide_eq_false g1
  clear h3 hu
  go_enter Tryz.func7, Tryz.ntmps7
  go_wp2_with (fail)
  go_ret
  exact HM.out
set_option maxRecDepth 100000 in
set_option maxHeartbeats 1000000 in
theorem marked_not0 (u : ByteArray) (w : World) (hu : u.size ≤ 4194304) (h3 : 3 ≤ u.size) (b0 : ¬ u.get! 0 = UInt8.ofNat 239) :
    Calls Tryz.prog 7 #[.string u] w (MarkPost (u) w) := by
  have hz : ¬ (3 + u.size > 9223372036854775807) := by omega
  obtain ⟨cap, W3, hcv, hcap, hb3, -, hp3⟩ := bytes_of w (u)
  have HM := Lib.hid (mark_post hcap hb3 hp3)
  clear hcap hb3 hp3
  have g1 : (2 : Int) < (u.size : Int) := by omega
  have g2 : decide ((2 : Int) < (u.size : Int)) = true := decide_eq_true g1
  have i0 : (0 : Int) < (u.size : Int) := by omega
  have i1 : (1 : Int) < (u.size : Int) := by omega
  rw [idx_get u 0 (by omega)] at b0
  have n0 := u8_ne (n := 239) (by decide) b0
  have m0 : (((u[0]'(by omega)).toNat : Int) == 239) = false := by rw [beq_eq_false_iff_ne]; exact n0
  go_enter Tryz.func7, Tryz.ntmps7
  go_wp2_with (fail)
  go_ret
  exact HM.out
set_option maxRecDepth 100000 in
set_option maxHeartbeats 1000000 in
theorem marked_not1 (u : ByteArray) (w : World) (hu : u.size ≤ 4194304) (h3 : 3 ≤ u.size) (b0 : u.get! 0 = 239) (b1 : ¬ u.get! 1 = UInt8.ofNat 187) :
    Calls Tryz.prog 7 #[.string u] w (MarkPost (u) w) := by
  have hz : ¬ (3 + u.size > 9223372036854775807) := by omega
  obtain ⟨cap, W3, hcv, hcap, hb3, -, hp3⟩ := bytes_of w (u)
  have HM := Lib.hid (mark_post hcap hb3 hp3)
  clear hcap hb3 hp3
  have g1 : (2 : Int) < (u.size : Int) := by omega
  have g2 : decide ((2 : Int) < (u.size : Int)) = true := decide_eq_true g1
  have i0 : (0 : Int) < (u.size : Int) := by omega
  have i1 : (1 : Int) < (u.size : Int) := by omega
  rw [idx_get u 0 (by omega)] at b0
  have m0 : (((u[0]'(by omega)).toNat : Int) == 239) = true := by rw [b0]; rfl
  rw [idx_get u 1 (by omega)] at b1
  have n1 := u8_ne (n := 187) (by decide) b1
  have m1 : (((u[1]'(by omega)).toNat : Int) == 187) = false := by rw [beq_eq_false_iff_ne]; exact n1
  go_enter Tryz.func7, Tryz.ntmps7
  go_wp2_with (fail)
  go_ret
  exact HM.out
set_option maxRecDepth 100000 in
set_option maxHeartbeats 1000000 in
theorem marked_not2 (u : ByteArray) (w : World) (hu : u.size ≤ 4194304) (h3 : 3 ≤ u.size) (b0 : u.get! 0 = 239) (b1 : u.get! 1 = 187) (b2 : ¬ u.get! 2 = UInt8.ofNat 191) :
    Calls Tryz.prog 7 #[.string u] w (MarkPost (u) w) := by
  have hz : ¬ (3 + u.size > 9223372036854775807) := by omega
  obtain ⟨cap, W3, hcv, hcap, hb3, -, hp3⟩ := bytes_of w (u)
  have HM := Lib.hid (mark_post hcap hb3 hp3)
  clear hcap hb3 hp3
  have g1 : (2 : Int) < (u.size : Int) := by omega
  have g2 : decide ((2 : Int) < (u.size : Int)) = true := decide_eq_true g1
  have i0 : (0 : Int) < (u.size : Int) := by omega
  have i1 : (1 : Int) < (u.size : Int) := by omega
  rw [idx_get u 0 (by omega)] at b0
  have m0 : (((u[0]'(by omega)).toNat : Int) == 239) = true := by rw [b0]; rfl
  rw [idx_get u 1 (by omega)] at b1
  have m1 : (((u[1]'(by omega)).toNat : Int) == 187) = true := by rw [b1]; rfl
  rw [idx_get u 2 (by omega)] at b2
  have n2 := u8_ne (n := 191) (by decide) b2
  have m2 : (((u[2]'(by omega)).toNat : Int) == 191) = false := by rw [beq_eq_false_iff_ne]; exact n2
  go_enter Tryz.func7, Tryz.ntmps7
  go_wp2_with (fail)
  go_ret
  exact HM.out
set_option maxRecDepth 100000 in
set_option maxHeartbeats 1000000 in
theorem marked_yes (u : ByteArray) (w : World) (hu : u.size ≤ 4194304) (h3 : 3 ≤ u.size) (b0 : u.get! 0 = 239) (b1 : u.get! 1 = 187) (b2 : u.get! 2 = 191) :
    Calls Tryz.prog 7 #[.string u] w (MarkPost (markB ++ u) w) := by
  have hz : ¬ (3 + u.size > 9223372036854775807) := by omega
  obtain ⟨cap, W3, hcv, hcap, hb3, -, hp3⟩ := bytes_of w (⟨#[239, 187, 191]⟩ ++ u)
  have hz2 : ((⟨#[239, 187, 191]⟩ : ByteArray) ++ u).size = 3 + u.size := by rw [ByteArray.size_append]; rfl
  have HM : Hid (MarkPost (markB ++ u) w (.returned (.slice (some ⟨w.heap.size, 0, none⟩) (3 + u.size) cap)) W3) := Lib.hid (by have h := mark_post hcap hb3 hp3; rw [hz2] at h; exact h)
  clear hz2
  clear hcap hb3 hp3
  have g1 : (2 : Int) < (u.size : Int) := by omega
  have g2 : decide ((2 : Int) < (u.size : Int)) = true := decide_eq_true g1
  have i0 : (0 : Int) < (u.size : Int) := by omega
  have i1 : (1 : Int) < (u.size : Int) := by omega
  rw [idx_get u 0 (by omega)] at b0
  have m0 : (((u[0]'(by omega)).toNat : Int) == 239) = true := by rw [b0]; rfl
  rw [idx_get u 1 (by omega)] at b1
  have m1 : (((u[1]'(by omega)).toNat : Int) == 187) = true := by rw [b1]; rfl
  rw [idx_get u 2 (by omega)] at b2
  have m2 : (((u[2]'(by omega)).toNat : Int) == 191) = true := by rw [b2]; rfl
  go_enter Tryz.func7, Tryz.ntmps7
  go_wp2_with (fail)
  go_ret
  exact HM.out
theorem marked_any (u : ByteArray) (w : World) (hu : u.size ≤ 4194304) :
    Calls Tryz.prog 7 #[.string u] w (MarkPost (markedB u) w) := by
  unfold markedB
  cases hp : Lib.hasPrefix u.data.toList [239, 187, 191]
  · rw [if_neg (by decide)]
    by_cases h3 : 3 ≤ u.size
    · have hn := pre3_no hp h3
      by_cases b0 : u.get! 0 = 239
      · by_cases b1 : u.get! 1 = 187
        · exact marked_not2 u w hu h3 b0 b1 (fun b2 => hn ⟨b0, b1, b2⟩)
        · exact marked_not1 u w hu h3 b0 b1
      · exact marked_not0 u w hu h3 b0
    · exact marked_few u w hu h3
  · rw [if_pos rfl]
    obtain ⟨h3, b0, b1, b2⟩ := pre3_yes hp
    exact marked_yes u w hu h3 b0 b1 b2
end Go.Proofs.YteipiaefamfleaaGreatDoor
