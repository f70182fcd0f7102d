/- Proved here: the law CharFaults answers true at every slice of bytes, in every world that holds the library's two tables; what was there stays. -/
import Derived.Test.YtiibmpjfkgohpaaDoorAwake
import Derived.Test.YtiibmpjfkgohpaaDoorRefFault
import Derived.BigGuardPart
namespace Go.Proofs.YtiibmpjfkgohpaaDoor
open Go.RowKit

set_option maxHeartbeats 2000000 in
theorem charFaults_walk (p : Option Addr) (s : ByteArray) (cap : Nat) (w : World) (hT : Tabs w) (hs : s.size ≤ 140737488355328) (hcap : s.size ≤ cap) (hp : HoldsB w p s) :
    Calls Tryd.prog 5 #[.slice p s.size cap] w fun e w' => e = .returned (.bool true) ∧ Below w.heap.size w w' := by
  have A := Lib.hid (awake_any w hT)
  have C := Lib.hid (fun W (h : Below w.heap.size w W) => fault_any p s cap W (hT.below h) hs hcap (hp.below h))
  have R := Lib.hid (fun W (h : Below w.heap.size w W) => refFault_any p s cap W hs (hp.below h))
  clear hT hp
  generalize faultF s = d at *
  go_enter Tryd.func5, Tryd.ntmps5
  go_wp2_with (fail)
  refine A.out.mono ?_
  rintro e w1 ⟨rfl, hb1⟩
  go_wp2_with (fail)
  refine (C.out _ hb1).mono ?_
  rintro e w2 ⟨rfl, hb2⟩
  have hb3 := below_cat hb1 hb2
  clear hb1 hb2
  go_wp2_with (fail)
  refine (R.out _ hb3).mono ?_
  rintro e w3 ⟨rfl, rfl⟩
  go_wp2_with (fail)
  go_ret
  exact ⟨rfl, hb3⟩
end Go.Proofs.YtiibmpjfkgohpaaDoor
