/- Proved here: the law ReferWrites answers true at every string of at most 2^44 bytes, in every world that holds the library's two tables and refer's table of names; what was there stays. -/
import Derived.Test.YtgfnfblekilheaaDoorAwake2
import Derived.Test.YtgfnfblekilheaaDoorQuote
import Derived.Test.YtgfnfblekilheaaDoorWritten
namespace Go.Proofs.YtgfnfblekilheaaDoor
open Go.RowKit

set_option maxHeartbeats 2000000 in
theorem referWrites_walk (s : ByteArray) (w : World) (hT : Tabs w) (hN : NamedAt w) (hs : s.size ≤ 20000000000000) :
    Calls Tryd.prog 4 #[.string s] w fun e w' => e = .returned (.bool true) ∧ Below w.heap.size w w' := by
  have A := Lib.hid (awake2_any w hT hN)
  have T1 := Lib.hid (fun W => text_any s W hs)
  have T2 := Lib.hid (fun W => reftext_any s W hs)
  have Q1 := Lib.hid (fun W => quote_any s W hs)
  have Q2 := Lib.hid (fun W => refquote_any s W hs)
  generalize writtenB escT s = t at *
  generalize writtenB escV s = q at *
  clear hT hN
  go_enter Tryd.func4, Tryd.ntmps4
  go_wp2_with (fail)
  refine A.out.mono ?_
  rintro e w1 ⟨rfl, hb1⟩
  go_wp2_with (fail)
  refine (T1.out _).mono ?_
  rintro e w2 ⟨rfl, hb2⟩
  have hB2 := below_cat hb1 hb2
  clear hb1 hb2
  go_wp2_with (fail)
  refine (T2.out _).mono ?_
  rintro e w3 ⟨rfl, hb3⟩
  have hB3 := below_cat hB2 hb3
  clear hB2 hb3
  go_wp2_with (fail)
  refine (Q1.out _).mono ?_
  rintro e w4 ⟨rfl, hb4⟩
  have hB4 := below_cat hB3 hb4
  clear hB3 hb4
  go_wp2_with (fail)
  refine (Q2.out _).mono ?_
  rintro e w5 ⟨rfl, hb5⟩
  have hB5 := below_cat hB4 hb5
  clear hB4 hb5
  go_wp2_with (fail)
  go_ret
  exact ⟨ret_bool (by simp), hB5⟩
end Go.Proofs.YtgfnfblekilheaaDoor
