/- Proved here: what the document's Between answers. -/
import Derived.Test.YtaiiigknlnhdgaaLabRBet2
namespace Go.Proofs.Ytaiiigknlnhdgaa
open Go.RowKit

theorem rbetween_any (p1 p2 p3 : Option Addr) (up l r : List Int) (c1 c2 c3 : Nat) (w : World) (hu : up.length * 8 ≤ 140737488355328) (hl : l.length * 8 ≤ 140737488355328) (hr : r.length * 8 ≤ 140737488355328)
    (huc : up.length ≤ c1) (hlc : l.length ≤ c2) (hrc : r.length ≤ c3) (h1 : HoldsI w p1 up) (h2 : HoldsI w p2 l) (h3 : HoldsI w p3 r) (hn1 : p1 = none → c1 = 0) (hn2 : p2 = none → c2 = 0) (hn3 : p3 = none → c3 = 0) :
    Calls Try.prog 29 #[.slice p1 up.length c1, .slice p2 l.length c2, .slice p3 r.length c3] w (BetPost w (betP up l r)) := by
  cases hm : mayP up l r
  · rw [bet_bad hm]
    exact rbet_bad p1 p2 p3 up l r c1 c2 c3 w hu hl hr huc hlc hrc h1 h2 h3 hn1 hn2 hn3 hm
  · by_cases l1 : l.length = 0
    · by_cases r1 : r.length = 0
      · exact rbet_none p1 p2 p3 up l r c1 c2 c3 w hu hl hr huc hlc hrc h1 h2 h3 hn1 hn2 hn3 hm l1 r1
      · exact rbet_r p1 p2 p3 up l r c1 c2 c3 w hu hl hr huc hlc hrc h1 h2 h3 hn1 hn2 hn3 hm (by omega) l1
    · by_cases r1 : r.length = 0
      · exact rbet_l p1 p2 p3 up l r c1 c2 c3 w hu hl hr huc hlc hrc h1 h2 h3 hn1 hn2 hn3 hm (by omega) r1
      · exact rbet_both p1 p2 p3 up l r c1 c2 c3 w hu hl hr huc hlc hrc h1 h2 h3 hn1 hn2 hn3 hm (by omega) (by omega)
end Go.Proofs.Ytaiiigknlnhdgaa
