/- Proved here: the variables that a tree row lists, and the world's shape, give all that trees lean on; a world for the witness. -/
import Derived.Test.YtfmlmdfehaajbaaGreatDoorKit
import Derived.Test.YtfmlmdfehaajbaaGreatDoorRows
import Derived.Test.YtfmlmdfehaajbaaGreatDoorAsks6
import Derived.Lib.LaidTab
import Derived.Lay
import Derived.Shelf.Vars
import Derived.Deep.Strs
namespace Go.Proofs.YtfmlmdfehaajbaaGreatDoor
open Go.ChangeShapes Go.WideShapes Go.ChangeAt Go.RowKit
open Go.Lib

def listed : List (String × DataW Unit) := [("unicode/utf8.acceptRanges", Rows.laid_unicode_utf8_acceptRanges), ("unicode.asciiFold", Rows.laid_unicode_asciiFold), ("unicode.caseOrbit", Rows.laid_unicode_caseOrbit), ("unicode.CaseRanges", Rows.laid_unicode_CaseRanges), ("unicode/utf8.first", Rows.laid_unicode_utf8_first)]
def u8ren : Go.Shelf.Ren := ⟨fun n => n, fun | 5 => 5 | 119 => 130 | 138 => 132 | 139 => 133 | n => n, fun | 3 => 0 | 4 => 1 | n => n⟩
theorem u8types : U8Types Tryz.prog u8ren := { t5 := by kernel_rfl, t119 := by kernel_rfl, t138 := by kernel_rfl, t139 := by kernel_rfl }
theorem u8extra : U8Extra Tryz.prog u8ren := { n3 := by kernel_rfl, n4 := by kernel_rfl, y3 := by kernel_rfl, y4 := by kernel_rfl, c5 := by kernel_rfl, c119 := by kernel_rfl, c138 := by kernel_rfl }
theorem accept_eq : (Rows.laid_unicode_utf8_acceptRanges : DataW Unit) = acceptData := by kernel_rfl
/-- SOME INT STANDS IN MaxLen: out of the world's shape. -/
theorem max_of {W : World} (h : W.ShapedOpen Tryz.prog) : MaxAt W :=
  cell_of_shapedOpen_int (t := 3) (zero := #[.int .i64 0]) (k := .i64) h (of_decide_eq_true (by kernel_rfl)) (by kernel_rfl) rfl (by kernel_rfl) (by kernel_rfl) (by kernel_rfl)

set_option maxRecDepth 100000 in
theorem fold_of {W : World} (h : VarReads Tryz.prog W "unicode.asciiFold" Rows.laid_unicode_asciiFold) : FoldAt W := by
  obtain ⟨g, t, cs, fuel, p, hg, hty, hvar, hd⟩ := h
  obtain rfl := Option.some.inj ((show Tryz.prog.globalNamed "unicode.asciiFold" = some 2 by kernel_rfl).symm.trans hg)
  obtain rfl := Option.some.inj ((show (Tryz.prog.globals[(2 : Nat)]?).map (·.type) = some 136 by kernel_rfl).symm.trans hty)
  have c1 : Tryz.prog.cellsOf 135 = 1 := by kernel_rfl
  intro k v hkv
  simp only [List.mem_cons, Prod.mk.injEq, List.mem_nil_iff, or_false] at hkv
  have hk : k < 128 := by omega
  obtain ⟨fuel', d, q, hdi, he⟩ := array_elem Tryz.underlying136 hd k hk
  have hd' : d = .lit (.int .u16 (v : Int)) := by
    rcases hkv with ⟨rfl, rfl⟩ | ⟨rfl, rfl⟩ | ⟨rfl, rfl⟩ | ⟨rfl, rfl⟩ | ⟨rfl, rfl⟩ | ⟨rfl, rfl⟩ <;> exact Option.some.inj (hdi.symm.trans (by kernel_rfl))
  subst hd'
  obtain ⟨z, e0, e1, _⟩ := DataW.trod_int Tryz.underlying135 he
  simp only [Prod.mk.injEq, DataW.lit.injEq, Lit.int.injEq, true_and] at e1
  obtain ⟨hz, _⟩ := e1
  rw [c1] at e0
  have g0 := congrArg (·[0]?) e0
  simp only [List.getElem?_take, List.getElem?_drop] at g0
  rw [World.var?_cell hg hvar k, ← Array.getElem?_toList, hz]
  simpa using g0

/-- What trees lean on. -/
structure Leans5 (w : World) : Prop where
  tabs : Tabs w
  fold : FoldAt w
  max : MaxAt w
theorem Leans5.below {w W : World} (h : Leans5 w) (hb : Below w.heap.size w W) : Leans5 W := ⟨h.tabs.below hb, h.fold.below hb, h.max.below hb⟩
set_option maxRecDepth 100000 in
theorem leans5_of {W : World} (h : laidMetH Tryz.prog listed W) (hsh : W.ShapedOpen Tryz.prog) : Leans5 W := by
  rw [MakeChecks.laidMetH_plain Tryz.prog listed W (by kernel_rfl)] at h
  have h1 := laidMet.reads h (n := "unicode/utf8.first") (d := Rows.laid_unicode_utf8_first) (by simp [listed])
  have h2 := laidMet.reads h (n := "unicode/utf8.acceptRanges") (d := Rows.laid_unicode_utf8_acceptRanges) (by simp [listed])
  have h4 := laidMet.reads h (n := "unicode.asciiFold") (d := Rows.laid_unicode_asciiFold) (by simp [listed])
  rw [accept_eq] at h2
  rw [show Rows.laid_unicode_utf8_first = Pinned.utf8First from rfl, Pinned.utf8First_eq] at h1
  exact ⟨utf8Tabs_of_readsT u8types u8extra h1 h2, fold_of h4, max_of hsh⟩
/-- A WORLD FOR THE WITNESS. -/
noncomputable def laidWorld (os : Os) : World := World.laidAll Tryz.prog os listed
theorem laidWorld_os (os : Os) : (laidWorld os).os = os := World.laidAll_os _ _ _
set_option maxRecDepth 100000 in
theorem laidWorld_met (os : Os) (args : Array Value) : laidMet Tryz.prog listed ((laidWorld os).forCall (fun _ _ => 0) ⟨#[], args, []⟩).memory := laidMet_laidAll args (by kernel_rfl) (by kernel_rfl)
end Go.Proofs.YtfmlmdfehaajbaaGreatDoor
