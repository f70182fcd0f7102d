/- Proved here: the variables that a tree row lists give the tables; a world for the witness; how an argument that is a name is opened. -/
import Derived.Test.YtmgeejjpoiaglaaDoorKit
import Derived.Test.YtmgeejjpoiaglaaDoorRows
import Derived.Lib.LaidTab
import Derived.Lay
import Derived.Shelf.Vars
import Derived.Deep.Strs
namespace Go.Proofs.YtmgeejjpoiaglaaDoor
open Go.ChangeShapes Go.WideShapes Go.ChangeAt Go.RowKit
open Go.Lib

def listed : List (String × DataW Unit) := Rows.treeOrdersRow.laid
def u8ren : Go.Shelf.Ren := ⟨fun n => n, fun | 5 => 5 | 119 => 99 | 138 => 101 | 139 => 102 | n => n, fun | 3 => 1 | 4 => 2 | n => n⟩
theorem u8types : U8Types Tryd.prog u8ren := { t5 := by kernel_rfl, t119 := by kernel_rfl, t138 := by kernel_rfl, t139 := by kernel_rfl }
theorem u8extra : U8Extra Tryd.prog u8ren := { n3 := by kernel_rfl, n4 := by kernel_rfl, y3 := by kernel_rfl, y4 := by kernel_rfl, c5 := by kernel_rfl, c119 := by kernel_rfl, c138 := by kernel_rfl }
theorem accept_eq : (Rows.laid_unicode_utf8_acceptRanges : DataW Unit) = acceptData := by kernel_rfl
set_option maxRecDepth 100000 in
theorem tabsR_of {W : World} (h : laidMetH Tryd.prog listed W) : Tabs W := by
  rw [MakeChecks.laidMetH_plain Tryd.prog listed W (by kernel_rfl)] at h
  have h1 := laidMet.reads h (n := "unicode/utf8.first") (d := Rows.laid_unicode_utf8_first) (by simp [listed, Rows.treeOrdersRow])
  have h2 := laidMet.reads h (n := "unicode/utf8.acceptRanges") (d := Rows.laid_unicode_utf8_acceptRanges) (by simp [listed, Rows.treeOrdersRow])
  rw [accept_eq] at h2
  rw [show Rows.laid_unicode_utf8_first = Pinned.utf8First from rfl, Pinned.utf8First_eq] at h1
  exact utf8Tabs_of_readsT u8types u8extra h1 h2
/-- A WORLD FOR THE WITNESS. -/
noncomputable def laidWorld (os : Os) : World := World.laidAll Tryd.prog os listed
theorem laidWorld_os (os : Os) : (laidWorld os).os = os := World.laidAll_os _ _ _
set_option maxRecDepth 100000 in
theorem laidWorld_met (os : Os) (args : Array Value) : laidMet Tryd.prog listed ((laidWorld os).forCall (fun _ _ => 0) ⟨#[], args, []⟩).memory := laidMet_laidAll args (by kernel_rfl) (by kernel_rfl)
/-! ## an argument that is a name -/
set_option maxRecDepth 100000 in
theorem open_name {H : Type} {enc : TypeId × Value → H} {W : World} {v : Value} {d : DataW H} {p : List MemPlace} {base : Nat}
    (hval : Value.okWide Tryd.prog W .any base 23 v) (h : DataW.Trod enc Tryd.prog W 0 (fun _ => true) true 23 v d p) :
    ∃ (u l : ByteArray), v = .agg #[.string u, .string l] := by
  obtain ⟨arr, rfl, hsize⟩ := okWide_struct Tryd.underlying23 hval
  obtain ⟨fuel, hf⟩ := h
  have c9 : Tryd.prog.cellsOf 9 = 1 := by kernel_rfl
  have c24 : Tryd.prog.cellsOf 23 = 2 := by kernel_rfl
  obtain ⟨z0, z1, m, hx, hlen, k0, k1⟩ := trod_struct2 Tryd.underlying23 hf
  rw [c24] at hlen
  obtain ⟨l⟩ := arr
  change l.length = 2 at hlen
  match l, hlen with
  | [x2, x3], _ =>
    change DataW.trod enc Tryd.prog W 0 (fun _ => true) true m 9 (([x2, x3].drop 0).take (Tryd.prog.cellsOf 9)) = some z0 at k0
    change DataW.trod enc Tryd.prog W 0 (fun _ => true) true m 9 (([x2, x3].drop 1).take (Tryd.prog.cellsOf 9)) = some z1 at k1
    rw [c9] at k0 k1
    change DataW.trod enc Tryd.prog W 0 (fun _ => true) true m 9 [x2] = some z0 at k0
    change DataW.trod enc Tryd.prog W 0 (fun _ => true) true m 9 [x3] = some z1 at k1
    obtain ⟨su, e2, rfl, _⟩ := DataW.trod_string Tryd.underlying9 k0
    obtain ⟨sl, e3, rfl, _⟩ := DataW.trod_string Tryd.underlying9 k1
    simp only [List.cons.injEq, and_true] at e2 e3
    subst e2 e3
    exact ⟨su, sl, rfl⟩
end Go.Proofs.YtmgeejjpoiaglaaDoor
