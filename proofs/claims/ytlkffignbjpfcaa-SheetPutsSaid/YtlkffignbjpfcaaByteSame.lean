/- Proved here: what the document's helpers Same, Spare, Kept and Twin answer: two slices of the same bytes are the same; a copy with room behind it, and that it is as it was. -/
import Derived.Test.YtlkffignbjpfcaaByteKit
import Derived.BigGuardPart
namespace Go.Proofs.Ytlkffignbjpfcaa
open Go.RowKit


set_option maxHeartbeats 1000000 in
theorem same_yes (p q : Option Addr) (s : ByteArray) (c d : Nat) (w : World) (hp : HoldsB w p s) (hq : HoldsB w q s) :
    Calls Try.prog 21 #[.slice p s.size c, .slice q s.size d] w fun e w' => e = .returned (.bool true) ∧ w = w' := by
  have h1 := conv_str hp c (holds_none hp)
  have h2 := conv_str hq d (holds_none hq)
  clear hp hq
  generalize hn : s.size = n at *
  clear hn
  go_enter Try.func21, Try.ntmps21
  go_wp2_with (fail)
  all_goals (go_ret; exact ⟨ret_bool (by simp), rfl⟩)

/-- It ends with a copy that has room behind it, in which 165 stands. -/
def SparedB (s : ByteArray) (w : World) (e : Ending) (w' : World) : Prop := ∃ g cap, e = .returned (.slice (some ⟨g, 0, none⟩) s.size cap) ∧ Owns w' w.heap.size g cap (s ++ ⟨#[165]⟩) ∧ Below w.heap.size w w'

set_option maxRecDepth 100000 in
set_option maxHeartbeats 2000000 in
theorem spare_any (p : Option Addr) (s : ByteArray) (c : Nat) (w : World) (hs : s.size ≤ 140737488355000) (hp : HoldsB w p s) (hnil : p = none → c = 0) :
    Calls Try.prog 28 #[.slice p s.size c] w (SparedB s w) := by
  obtain ⟨w1, hmk, ho0, hb0⟩ := make_own w (s.size + 3) (by omega)
  have hz : (⟨#[]⟩ : ByteArray).size = 0 := rfl
  obtain ⟨g1, k1, w2, hr1, ho1, hb1⟩ := append_next (t := s) ho0 hb0 (hp.below hb0) hnil (by rw [hz]; omega)
  rw [empty_append] at ho1
  simp only [hz, Nat.zero_add] at hr1
  obtain ⟨g2, k2, w3, hr2, ho2, hb2⟩ := append_one 165 ho1 hb1 (by omega)
  have hcap := ho2.2.2.2
  rw [size_push] at hcap
  have HO := Lib.hid ho2
  have HB := Lib.hid hb2
  have R1 := Lib.hid hr1
  have R2 := Lib.hid hr2
  have hmk' : (Instr.makeSlice 33 (.int .i64 0) (.int .i64 ((s.size : Int) + 3))).run Try.prog w = .ok (.slice (some ⟨w.heap.size, 0, none⟩) 0 (s.size + 3)) w1 := by
    rw [← hmk]; congr 2
  have hc1 : (s.size : Int) ≤ (k2 : Int) := by omega
  clear hmk ho0 hb0 hr1 ho1 hb1 hr2 ho2 hb2 hp hz
  go_enter Try.func28, Try.ntmps28
  go_wp2_with (first | (at_builtin; refine wpList_append_eq rfl (.tmp 6) (.tmp 7) 33 rfl _ _ _ _ rfl rfl R1.out ?_) | (at_builtin; refine wpList_append_eq rfl (.tmp 8) (.tmp 9) 33 rfl _ _ _ _ rfl rfl R2.out ?_))
  go_ret
  exact ⟨g2, k2, rfl, HO.out, HB.out⟩

theorem owns_front {w : World} {B g cap : Nat} {s t : ByteArray} (h : Owns w B g cap (s ++ t)) : HoldsB w (some ⟨g, 0, none⟩) s := fun h0 => by
  obtain ⟨b, off, e, hc⟩ := h.holds (by rw [ByteArray.size_append]; omega)
  cases e
  refine ⟨g, 0, rfl, fun j hj => ?_⟩
  rw [hc j (by rw [ByteArray.size_append]; omega), get!_left s t j hj]
theorem owns_behind {w : World} {B g cap : Nat} {s : ByteArray} (h : Owns w B g cap (s ++ ⟨#[165]⟩)) : w.cell? ⟨g, s.size, none⟩ = some (.int .u8 165) := by
  obtain ⟨b, off, e, hc⟩ := h.holds (by rw [size_push]; omega)
  cases e
  have h1 := hc s.size (by rw [size_push]; omega)
  rw [Nat.zero_add] at h1
  have h2 := get!_right s ⟨#[165]⟩ 0
  rw [Nat.add_zero] at h2
  rw [h1, h2]
  rfl

set_option maxRecDepth 100000 in
set_option maxHeartbeats 2000000 in
theorem kept_yes (B g cap : Nat) (q : Option Addr) (s : ByteArray) (d : Nat) (w : World) (hs : s.size ≤ 140737488355000) (ho : Owns w B g cap (s ++ ⟨#[165]⟩)) (hq : HoldsB w q s) :
    Calls Try.prog 31 #[.slice (some ⟨g, 0, none⟩) s.size cap, .slice q s.size d] w fun e w' => e = .returned (.bool true) ∧ w = w' := by
  have S := Lib.hid (same_yes (some ⟨g, 0, none⟩) q s cap d w (owns_front ho) hq)
  have hc := owns_behind ho
  have hcap := ho.2.2.2
  rw [size_push] at hcap
  have c1 : (s.size : Int) < (cap : Int) := by omega
  have c2 : (s.size : Int) + 1 ≤ (cap : Int) := by omega
  have c3 : (0 : Int) ≤ (s.size : Int) + 1 := by omega
  have c4 : (s.size : Int) < (s.size : Int) + 1 := by omega
  clear ho hq
  go_enter Try.func31, Try.ntmps31
  go_wp2_with (fail)
  refine S.out.mono ?_
  rintro e w1 ⟨rfl, rfl⟩
  go_wp2_with (fail)
  all_goals first | (exfalso; omega) | (go_ret; exact ⟨ret_bool (by simp), rfl⟩)
end Go.Proofs.Ytlkffignbjpfcaa
