/- Proved here: the law CharSets answers true at every number, in every world that holds the library's two tables; what was there stays. -/
import Derived.Test.YtiibmpjfkgohpaaDoorAwake
import Derived.BigGuardPart
namespace Go.Proofs.YtiibmpjfkgohpaaDoor
open Go.RowKit

set_option maxHeartbeats 2000000 in
theorem charSets_walk (r : Int) (w : World) (hT : Tabs w) (h0 : -2147483648 ≤ r) (h1 : r ≤ 2147483647) :
    Calls Tryd.prog 3 #[.int .i32 r] w fun e w' => e = .returned (.bool true) ∧ Below w.heap.size w w' := by
  have A := Lib.hid (awake_any w hT)
  clear hT
  go_enter Tryd.func3, Tryd.ntmps3
  go_wp2_with (fail)
  refine A.out.mono ?_
  rintro e W ⟨rfl, hb⟩
  go_wp2_with (fail)
  go_loop [7] (fun i => ∃ k : Nat, k ≤ 64 ∧ i = .int .i32 k) (fun i => (64 - (intOf i).toNat))
  case atStart => exact ⟨0, by omega, rfl⟩
  case round =>
    obtain ⟨k, hk, rfl⟩ := hrel
    by_cases hlt : k < 64
    · by_cases ho : r + k ≤ 2147483647
      · have c1 := Lib.hid (isChar (r + k))
        have c2 := Lib.hid (refChar (r + k))
        have c3 := Lib.hid (isStart (r + k))
        have c4 := Lib.hid (refStart (r + k))
        have c5 := Lib.hid (isPart (r + k))
        have c6 := Lib.hid (refPart (r + k))
        generalize charB (r + k) = x1 at *
        generalize startB (r + k) = x2 at *
        generalize partB (r + k) = x3 at *
        go_wp2_with (fail)
        refine (c1.out _).mono ?_
        rintro e w1 ⟨rfl, rfl⟩
        go_wp2_with (fail)
        refine (c2.out _).mono ?_
        rintro e w2 ⟨rfl, rfl⟩
        go_wp2_with (fail)
        refine (c3.out _).mono ?_
        rintro e w3 ⟨rfl, rfl⟩
        go_wp2_with (fail)
        refine (c4.out _).mono ?_
        rintro e w4 ⟨rfl, rfl⟩
        go_wp2_with (fail)
        refine (c5.out _).mono ?_
        rintro e w5 ⟨rfl, rfl⟩
        go_wp2_with (fail)
        refine (c6.out _).mono ?_
        rintro e w6 ⟨rfl, rfl⟩
        go_wp2_with (fail)
        go_round
        case rel =>
          go_light
          exact ⟨k + 1, by omega, by go_num⟩
        case measure => simp [intOf]; omega
      · obtain ⟨x, hx⟩ : ∃ x, wrap32 (r + k) = x := ⟨_, rfl⟩
        have hx0 : -2147483648 ≤ x ∧ x ≤ 2147483647 := by unfold wrap32 at hx; omega
        obtain ⟨hx1, hx2⟩ := hx0
        have c1 := Lib.hid (isChar (x))
        have c2 := Lib.hid (refChar (x))
        have c3 := Lib.hid (isStart (x))
        have c4 := Lib.hid (refStart (x))
        have c5 := Lib.hid (isPart (x))
        have c6 := Lib.hid (refPart (x))
        generalize charB (x) = x1 at *
        generalize startB (x) = x2 at *
        generalize partB (x) = x3 at *
        go_wp2_with (fail)
        refine (c1.out _).mono ?_
        rintro e w1 ⟨rfl, rfl⟩
        go_wp2_with (fail)
        refine (c2.out _).mono ?_
        rintro e w2 ⟨rfl, rfl⟩
        go_wp2_with (fail)
        refine (c3.out _).mono ?_
        rintro e w3 ⟨rfl, rfl⟩
        go_wp2_with (fail)
        refine (c4.out _).mono ?_
        rintro e w4 ⟨rfl, rfl⟩
        go_wp2_with (fail)
        refine (c5.out _).mono ?_
        rintro e w5 ⟨rfl, rfl⟩
        go_wp2_with (fail)
        refine (c6.out _).mono ?_
        rintro e w6 ⟨rfl, rfl⟩
        go_wp2_with (fail)
        go_round
        case rel =>
          go_light
          exact ⟨k + 1, by omega, by go_num⟩
        case measure => simp [intOf]; omega
    · go_wp2_with (fail)
      go_ret
      exact ⟨rfl, hb⟩
end Go.Proofs.YtiibmpjfkgohpaaDoor
