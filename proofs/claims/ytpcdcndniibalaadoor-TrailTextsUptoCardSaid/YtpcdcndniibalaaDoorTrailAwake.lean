/- Proved here: the trail statements' own first look (awake) answers true in every world that holds what trail leans on. -/
import Derived.Test.YtpcdcndniibalaaDoorTrailRead
namespace Go.Proofs.YtpcdcndniibalaaDoor
open Go.RowKit

def trA : Tr := ⟨[1, 0], true, ⟨#[117]⟩, ⟨#[98]⟩⟩
theorem dig_1 : Lib.itoa 1 = [49] := by
  unfold Lib.itoa
  rw [if_neg (by decide), Lib.decDigits]; rfl
theorem dig_0 : Lib.itoa 0 = [48] := by
  unfold Lib.itoa
  rw [if_neg (by decide), Lib.decDigits]; rfl
theorem showA : showL trA = [47, 49, 47, 48, 47, 64, 98, 123, 117, 125] := by
  unfold showL
  rw [if_neg (by decide)]
  unfold stepsL nameL spaceL trA
  simp only [List.flatMap_cons, List.flatMap_nil, dig_1, dig_0]
  rfl
theorem rightA : rightT trA = true := by
  have h1 : nameB ⟨#[98]⟩ = true := by kernel_rfl
  have h2 : (faultF ⟨#[117]⟩).2 = 0 := by kernel_rfl
  unfold rightT nameOk trA
  simp only [h1, h2]
  rfl
theorem readA : readT [47, 49, 47, 48, 47, 64, 98, 123, 117, 125] = some trA := by rw [← showA]; exact read_show rightA
theorem readB : readT [47, 48, 49] = none := by
  have h : guessL [47, 48, 49] = ⟨[1], false, ⟨#[]⟩, ⟨#[]⟩⟩ := by kernel_rfl
  unfold readT
  rw [h, if_neg]
  intro q
  simp only [Bool.and_eq_true, decide_eq_true_eq] at q
  have e : showL ⟨[1], false, ⟨#[]⟩, ⟨#[]⟩⟩ = [47, 49] := by
    unfold showL
    rw [if_neg (by decide)]
    unfold stepsL
    simp only [List.flatMap_cons, List.flatMap_nil, dig_1]
    rfl
  rw [e] at q
  exact absurd q.2 (by decide)
set_option maxRecDepth 100000 in
set_option maxHeartbeats 4000000 in
theorem awake8_any (w : World) (hL : TLeans w) : Calls Tryd.prog 7 #[] w fun e w' => e = .returned (.bool true) ∧ Below w.heap.size w w' := by
  have hb1 : Below w.heap.size w (w.alloc (.cells #[.int .i64 1, .int .i64 0] 3)) := (Below.refl _ _).alloc (Nat.le_refl _) _
  have S := show_any (some ⟨w.heap.size, 0, none⟩) 2 trA _ ⟨fun _ => ⟨w.heap.size, 0, rfl, fun j hj => by
    rw [Nat.zero_add, cell_of_row _ _ j #[.int .i64 1, .int .i64 0] 3 (0, 0) (heap_alloc_new w _)]
    match j, hj with
    | 0, _ => rfl
    | 1, _ => rfl⟩, Nat.le_refl _, by decide⟩ (hL.below hb1) (by decide) (by decide)
  rw [rightA, if_pos rfl, showA] at S
  have SH := Lib.hid S
  have RA := Lib.hid (fun W (y : Below w.heap.size w W) => read_any ⟨#[47, 49, 47, 48, 47, 64, 98, 123, 117, 125]⟩ W (hL.below y) (by decide))
  have RB := Lib.hid (fun W (y : Below w.heap.size w W) => read_any ⟨#[47, 48, 49]⟩ W (hL.below y) (by decide))
  rw [show (⟨#[47, 49, 47, 48, 47, 64, 98, 123, 117, 125]⟩ : ByteArray).data.toList = [47, 49, 47, 48, 47, 64, 98, 123, 117, 125] from rfl, readA] at RA
  rw [show (⟨#[47, 48, 49]⟩ : ByteArray).data.toList = [47, 48, 49] from rfl, readB] at RB
  have HB := Lib.hid hb1
  clear S hb1 hL
  go_enter Tryd.func7, Tryd.ntmps7
  go_wp2_with (fail)
  refine SH.out.mono ?_
  rintro e w1 ⟨rfl, hb⟩
  have HB1 := Lib.hid (t_cat HB.out hb)
  clear hb
  go_wp2_with (fail)
  refine (RA.out _ HB1.out).mono ?_
  intro e w2 hpost
  obtain ⟨q, d, rfl, hat, -, hb⟩ : ∃ q d, e = .returned (.tuple #[.agg #[.slice q 2 d, .bool true, .string ⟨#[117]⟩, .string ⟨#[98]⟩], .int .i64 0]) ∧ TrAt w2 q d trA ∧ (q = none → d = 0) ∧ Below w1.heap.size w1 w2 := hpost
  have hb2 := t_cat HB1.out hb
  have hk2 := t_one w2 (.cells #[.slice q 2 d, .bool true, .string ⟨#[117]⟩, .string ⟨#[98]⟩] 26)
  have HB2 := Lib.hid (And.intro hb2 hk2)
  clear hb hb2 hat hk2
  go_wp2_with (fail)
  refine (RB.out _ (HB2.out.1.trans ((Below.refl _ _).alloc HB2.out.1.size _))).mono ?_
  intro e w3 hpost
  obtain ⟨q3, d3, rfl, hat, -, hb⟩ : ∃ q3 d3, e = .returned (.tuple #[.agg #[.slice q3 0 d3, .bool false, .string ⟨#[]⟩, .string ⟨#[]⟩], .int .i64 35]) ∧ TrAt w3 q3 d3 trZ ∧ (q3 = none → d3 = 0) ∧ Below (w2.alloc (.cells #[.slice q 2 d, .bool true, .string ⟨#[117]⟩, .string ⟨#[98]⟩] 26)).heap.size (w2.alloc (.cells #[.slice q 2 d, .bool true, .string ⟨#[117]⟩, .string ⟨#[98]⟩] 26)) w3 := hpost
  have hk3 := (((Below.refl _ w3).alloc (Nat.le_refl _) (.cells #[.slice q3 0 d3, .bool false, .string ⟨#[]⟩, .string ⟨#[]⟩] 26)).block w2.heap.size (by have := hb.size; simp at this; omega)).trans ((hb.block w2.heap.size (by simp)).trans HB2.out.2)
  obtain ⟨⟨c0, c1, c2, c3⟩, -⟩ := t_cells hk3
  have HB3 := Lib.hid ((HB2.out.1.trans ((Below.refl _ _).alloc HB2.out.1.size _)).trans (hb.mono (by have := HB2.out.1.size; simp; omega)))
  clear hb hat hk3
  go_wp2_with (fail)
  go_ret
  exact ⟨rfl, HB3.out.alloc HB3.out.size _⟩
end Go.Proofs.YtpcdcndniibalaaDoor
