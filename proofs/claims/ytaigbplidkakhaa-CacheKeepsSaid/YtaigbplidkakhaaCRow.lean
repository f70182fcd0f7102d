/- Proved here: a world for the witness of a row of plain arguments. -/
import Derived.Test.YtaigbplidkakhaaRowKit
import Derived.Below
import Derived.Stop.Joined
import Derived.Deep.Grids
namespace Go.Proofs.Ytaigbplidkakhaa
open Go.ChangeShapes Go.WideShapes Go.ChangeAt Go.RowKit
noncomputable def plainWorld (os : Os) : World := World.holding Try.prog os ⟨#[], #[], []⟩
end Go.Proofs.Ytaigbplidkakhaa
