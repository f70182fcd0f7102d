/- Proved here: the listed table of references with names, as it is read, lies in the variable's cells: five words, and what each stands for. -/
import Derived.Test.YtdomhjjoijkeaaaDoorKit
import Derived.ChangeSame
namespace Go.Proofs.YtdomhjjoijkeaaaDoor
open Go.ChangeShapes Go.WideShapes Go.ChangeAt Go.RowKit
open Go.Lib

def wordOf : Nat → ByteArray
  | 0 => ⟨#[38, 108, 116, 59]⟩
  | 1 => ⟨#[38, 103, 116, 59]⟩
  | 2 => ⟨#[38, 97, 109, 112, 59]⟩
  | 3 => ⟨#[38, 97, 112, 111, 115, 59]⟩
  | _ => ⟨#[38, 113, 117, 111, 116, 59]⟩
def charOf : Nat → Int
  | 0 => 60
  | 1 => 62
  | 2 => 38
  | 3 => 39
  | _ => 34
def NamedAt (W : World) : Prop := ∀ k, k < 5 → W.cell? ⟨0, 2 * k, none⟩ = some (.string (wordOf k)) ∧ W.cell? ⟨0, 2 * k + 1, none⟩ = some (.int .i32 (charOf k))
theorem NamedAt.below {w W : World} (h : NamedAt w) (hb : Below w.heap.size w W) : NamedAt W := fun k hk => ⟨hb_cell hb (h k hk).1, hb_cell hb (h k hk).2⟩

theorem named_of {W : World} (h : VarReads Tryd.prog W "lectern/refer.named" Rows.laid_lectern_refer_named) : NamedAt W := by
  obtain ⟨g, t, cs, fuel, p, hg, hty, hvar, hd⟩ := h
  obtain rfl := Option.some.inj ((show Tryd.prog.globalNamed "lectern/refer.named" = some 0 by kernel_rfl).symm.trans hg)
  obtain rfl := Option.some.inj ((show (Tryd.prog.globals[(0 : Nat)]?).map (·.type) = some 45 by kernel_rfl).symm.trans hty)
  have c2 : Tryd.prog.cellsOf 44 = 2 := by kernel_rfl
  have c1 : Tryd.prog.cellsOf 9 = 1 := by kernel_rfl
  have c1' : Tryd.prog.cellsOf 21 = 1 := by kernel_rfl
  intro k hk
  obtain ⟨fuel', d, q, hdi, he⟩ := array_elem Tryd.underlying45 hd k hk
  have hd' : d = .agg [.lit (.string (wordOf k).data.toList), .lit (.int .i32 (charOf k))] := by
    match k, hk, hdi with
    | 0, _, hdi => exact (Option.some.inj hdi).symm
    | 1, _, hdi => exact (Option.some.inj hdi).symm
    | 2, _, hdi => exact (Option.some.inj hdi).symm
    | 3, _, hdi => exact (Option.some.inj hdi).symm
    | 4, _, hdi => exact (Option.some.inj hdi).symm
  subst hd'
  obtain ⟨y0, y1, n, hx, hl, h0, h1⟩ := trod_struct2 Tryd.underlying44 he
  obtain ⟨s, e0, e1, _⟩ := DataW.trod_string Tryd.underlying9 h0
  obtain ⟨z, e2, e3, _⟩ := DataW.trod_int Tryd.underlying21 h1
  subst e1 e3
  simp only [Prod.mk.injEq, DataW.agg.injEq, List.cons.injEq, DataW.lit.injEq, Lit.string.injEq, Lit.int.injEq, true_and, and_true] at hx
  obtain ⟨⟨hs, hz⟩, _⟩ := hx
  have es : s = wordOf k := by
    apply ByteArray.ext
    exact Array.ext' hs.symm
  subst es
  rw [c2, c1] at e0
  rw [c2, c1'] at e2
  have g0 := congrArg (·[0]?) e0
  have g1 := congrArg (·[0]?) e2
  simp only [List.getElem?_take, List.getElem?_drop] at g0 g1
  constructor
  · rw [World.var?_cell hg hvar (2 * k), ← Array.getElem?_toList]
    simpa [Nat.mul_comm] using g0
  · rw [World.var?_cell hg hvar (2 * k + 1), ← Array.getElem?_toList, hz]
    simpa [Nat.mul_comm] using g1
theorem named_met {W : World} (h : laidMetH Tryd.prog listed W) : NamedAt W := by
  rw [MakeChecks.laidMetH_plain Tryd.prog listed W (by kernel_rfl)] at h
  exact named_of (laidMet.reads h (n := "lectern/refer.named") (d := Rows.laid_lectern_refer_named) (by simp [listed]))
end Go.Proofs.YtdomhjjoijkeaaaDoor
