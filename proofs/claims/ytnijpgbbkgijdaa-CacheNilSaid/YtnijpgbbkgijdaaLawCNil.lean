/- Proved here: the law CacheNil. -/
import Derived.Test.YtnijpgbbkgijdaaCAwake
namespace Go.Proofs.Ytnijpgbbkgijdaa
open Go.RowKit Go.ChangeMaps

set_option maxHeartbeats 1000000 in
theorem cacheNil_any (k v : Int) (d : Bool) (W : World) : Calls Try.prog 3 #[.int .i64 k, .int .i64 v, .bool d] W fun x W' => x = .returned (.bool true) ∧ Below W.heap.size W W' := by
  go_enter Try.func3, Try.ntmps3
  go_wp2_with (fail)
  refine (awake_any W).mono ?_
  rintro x W1 ⟨rfl, hb⟩
  have H1 := Lib.hid hb
  clear hb
  go_wp2_with (fail)
  refine (getNilI k W1).mono ?_
  rintro x W2 ⟨rfl, rfl⟩
  go_wp2_with (fail)
  refine (putNilI k v d W1).mono ?_
  rintro x W2 ⟨rfl, rfl⟩
  go_wp2_with (fail)
  refine (nilDrop k W1).mono ?_
  rintro x W2 ⟨rfl, rfl⟩
  go_wp2_with (fail)
  refine (nilPin k W1).mono ?_
  rintro x W2 ⟨rfl, rfl⟩
  go_wp2_with (fail)
  refine (nilUnpin k W1).mono ?_
  rintro x W2 ⟨rfl, rfl⟩
  go_wp2_with (fail)
  refine (nilClean k W1).mono ?_
  rintro x W2 ⟨rfl, rfl⟩
  go_wp2_with (fail)
  refine (nilKeys W1).mono ?_
  rintro x W2 ⟨rfl, hb⟩
  have H2 := Lib.hid (bcat H1.out hb)
  clear hb
  go_wp2_with (fail)
  refine (nilDirty W2).mono ?_
  rintro x W3 ⟨rfl, hb⟩
  have H3 := Lib.hid (bcat H2.out hb)
  clear hb
  go_wp2_with (fail)
  refine (lenNilI W3).mono ?_
  rintro x W4 ⟨rfl, rfl⟩
  go_wp2_with (fail)
  go_ret
  exact ⟨rfl, H3.out⟩
end Go.Proofs.Ytnijpgbbkgijdaa
