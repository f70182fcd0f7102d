/- Proved here: the law ReferReads answers true at every slice of bytes of less than 2^47 bytes, in every world that holds the library's two tables and refer's table of names; what was there stays. -/
import Derived.Test.YtgfnfblekilheaaDoorAwake2
import Derived.Test.YtgfnfblekilheaaDoorReadValue
import Derived.Test.YtgfnfblekilheaaDoorRefReadText
import Derived.Test.YtgfnfblekilheaaDoorRefReadValue
import Derived.Test.YtgfnfblekilheaaDoorSame
namespace Go.Proofs.YtgfnfblekilheaaDoor
open Go.RowKit

theorem refread_none (v : Bool) (p : Option Addr) (cap : Nat) (w : World) :
    Calls Tryd.prog 19 #[.slice p 0 cap, .bool v] w fun e w' => e = .returned (.tuple #[.string ⟨#[]⟩, .int .i64 0, .int .i64 0]) ∧ Below w.heap.size w w' := by
  have hb0 := Lib.hid (show Below w.heap.size w (w.alloc (.cells #[] 5)) from (Below.refl _ _).alloc (Nat.le_refl _) _)
  have cv : (convert 22 9 (.slice (some ⟨w.heap.size, 0, none⟩) 0 0)).run Tryd.prog (w.alloc (.cells #[] 5)) = .ok (.string ⟨#[]⟩) (w.alloc (.cells #[] 5)) := conv_str (s := ⟨#[]⟩) (owns_empty w).holds 0 (fun e => by cases e)
  go_enter Tryd.func19, Tryd.ntmps19
  go_wp2_with (fail)
  go_loop [8, 7] (fun i x => i = .int .i64 0 ∧ x = .slice (some ⟨w.heap.size, 0, none⟩) 0 0) (fun _ _ => 0)
  case atStart => exact ⟨rfl, rfl⟩
  case round =>
    obtain ⟨rfl, rfl⟩ := hrel
    go_wp2_with (fail)
    go_ret3
    exact ⟨rfl, hb0.out⟩
theorem refread_any (v : Bool) (step : ByteArray → Nat → Int × Int × Int) (hstep : (v = false ∧ step = stepT) ∨ (v = true ∧ step = stepV)) (p : Option Addr) (s : ByteArray) (cap : Nat) (w : World) (hs : s.size ≤ 140737488354000) (hcap : s.size ≤ cap) (hp : HoldsB w p s) :
    Calls Tryd.prog 19 #[.slice p s.size cap, .bool v] w fun e w' => e = .returned (.tuple #[.string ⟨(readF (step s) s.size).1.toArray⟩, .int .i64 (readF (step s) s.size).2.1, .int .i64 (readF (step s) s.size).2.2]) ∧ Below w.heap.size w w' := by
  by_cases h0 : 0 < s.size
  · obtain ⟨b, off, rfl, hc⟩ := hp h0
    rcases hstep with ⟨rfl, rfl⟩ | ⟨rfl, rfl⟩
    · exact refread_text s b off cap w hs hcap hc
    · exact refread_value s b off cap w hs hcap hc
  · have hz : s.size = 0 := by omega
    rw [hz]
    exact refread_none v p cap w
set_option maxHeartbeats 4000000 in
set_option maxRecDepth 100000 in
theorem referReads_walk (p : Option Addr) (s : ByteArray) (c : Nat) (w : World) (hT : Tabs w) (hN : NamedAt w) (hs : s.size ≤ 140737488354000) (hcap : s.size ≤ c) (hp : HoldsB w p s) (hnil : p = none → c = 0) :
    Calls Tryd.prog 5 #[.slice p s.size c] w fun e w' => e = .returned (.bool true) ∧ Below w.heap.size w w' := by
  have A := Lib.hid (awake2_any w hT hN)
  have HP := Lib.hid hp
  have HNIL := Lib.hid hnil
  have HT := Lib.hid hT
  have HN := Lib.hid hN
  have RT := Lib.hid (fun g cap W (h : Below w.heap.size w W) (hc : s.size ≤ cap) (hh : HoldsB W (some ⟨g, 0, none⟩) s) => text_read (some ⟨g, 0, none⟩) s cap W hs hc (HT.out.below h) (HN.out.below h) hh)
  have RV := Lib.hid (fun g cap W (h : Below w.heap.size w W) (hc : s.size ≤ cap) (hh : HoldsB W (some ⟨g, 0, none⟩) s) => value_read (some ⟨g, 0, none⟩) s cap W hs hc (HT.out.below h) (HN.out.below h) hh)
  have DT := Lib.hid (fun W (h : Below w.heap.size w W) => refread_any false stepT (.inl ⟨rfl, rfl⟩) p s c W hs hcap (HP.out.below h))
  have DV := Lib.hid (fun W (h : Below w.heap.size w W) => refread_any true stepV (.inr ⟨rfl, rfl⟩) p s c W hs hcap (HP.out.below h))
  generalize readF (stepT s) s.size = X at *
  generalize readF (stepV s) s.size = Y at *
  obtain ⟨x1, x2, x3⟩ := X
  obtain ⟨y1, y2, y3⟩ := Y
  simp only at RT RV DT DV
  clear hT hN hp hnil
  go_enter Tryd.func5, Tryd.ntmps5
  go_wp2_with (fail)
  refine A.out.mono ?_
  rintro e w0 ⟨rfl, hB0⟩
  go_wp2_with (fail)
  refine (spare_any p s c w0 (by omega) (HP.out.below hB0) HNIL.out).mono ?_
  rintro e w1 ⟨g, cap, rfl, ho1, hb1⟩
  have hB1 := below_cat hB0 hb1
  have hcp : s.size ≤ cap := by
    have := ho1.2.2.2
    rw [size_push] at this
    omega
  have O1 := Lib.hid ho1
  clear ho1 hb1
  go_wp2_with (fail)
  refine (RT.out g cap w1 hB1 hcp (owns_front O1.out)).mono ?_
  rintro e w2 ⟨rfl, hb2⟩
  have hB2 := below_cat hB1 hb2
  have O2 := Lib.hid (O1.out.far hb2)
  clear hb2 hB1
  go_wp2_with (fail)
  refine (DT.out w2 hB2).mono ?_
  rintro e w3 ⟨rfl, hb3⟩
  have hB3 := below_cat hB2 hb3
  have O3 := Lib.hid (O2.out.far hb3)
  clear hb3 hB2
  go_wp2_with (fail)
  refine (RV.out g cap w3 hB3 hcp (owns_front O3.out)).mono ?_
  rintro e w4 ⟨rfl, hb4⟩
  have hB4 := below_cat hB3 hb4
  have O4 := Lib.hid (O3.out.far hb4)
  clear hb4 hB3
  go_wp2_with (fail)
  refine (DV.out w4 hB4).mono ?_
  rintro e w5 ⟨rfl, hb5⟩
  have hB5 := below_cat hB4 hb5
  have O5 := Lib.hid (O4.out.far hb5)
  have K := Lib.hid (kept_yes w0.heap.size g cap p s c w5 (by omega) O5.out (HP.out.below hB5))
  clear hb5 hB4
  go_wp2_with (fail)
  all_goals try (exfalso; omega)
  refine K.out.mono ?_
  rintro e w6 ⟨rfl, rfl⟩
  go_wp2_with (fail)
  all_goals (go_ret; exact ⟨ret_bool (by simp), hB5⟩)
end Go.Proofs.YtgfnfblekilheaaDoor
