/- Proved here: the law CharNames answers true at every string, in every world that holds the library's two tables; what was there stays. -/
import Derived.Test.YtiibmpjfkgohpaaDoorRefSplit
import Derived.BigGuardPart
namespace Go.Proofs.YtiibmpjfkgohpaaDoor
open Go.RowKit

set_option maxHeartbeats 2000000 in
theorem charNames_walk (q : ByteArray) (w : World) (hT : Tabs w) (hq : q.size ≤ 140737488355328) :
    Calls Tryd.prog 6 #[.string q] w fun e w' => e = .returned (.bool true) ∧ Below w.heap.size w w' := by
  have A := Lib.hid (awake_any w hT)
  have S1 := Lib.hid (fun W (h : Below w.heap.size w W) => split_any q W (hT.below h) hq)
  have S2 := Lib.hid (fun W => refSplit_any q W hq)
  have N1 := Lib.hid (fun W (h : Below w.heap.size w W) => name_any q W (hT.below h) hq)
  have N2 := Lib.hid (fun W => refName_any q W hq)
  clear hT
  generalize splitF q = d at *
  generalize nameB q = b at *
  obtain ⟨x, y, z⟩ := d
  go_enter Tryd.func6, Tryd.ntmps6
  go_wp2_with (fail)
  refine A.out.mono ?_
  rintro e w1 ⟨rfl, hb1⟩
  go_wp2_with (fail)
  refine (S1.out _ hb1).mono ?_
  rintro e w2 ⟨rfl, hb2⟩
  have hB2 := below_cat hb1 hb2
  clear hb1 hb2
  go_wp2_with (fail)
  refine (S2.out _).mono ?_
  rintro e w3 ⟨rfl, hb3⟩
  have hB3 := below_cat hB2 hb3
  clear hb3 hB2
  go_wp2_with (fail)
  refine (N1.out _ hB3).mono ?_
  rintro e w4 ⟨rfl, hb4⟩
  have hB4 := below_cat hB3 hb4
  clear hb4 hB3
  go_wp2_with (fail)
  refine (N2.out _).mono ?_
  rintro e w5 ⟨rfl, hb5⟩
  have hB5 := below_cat hB4 hb5
  clear hb5 hB4
  go_wp2_with (fail)
  go_ret
  exact ⟨ret_bool (by simp), hB5⟩
end Go.Proofs.YtiibmpjfkgohpaaDoor
