/- Proved here: an argument that is a script of a cache's steps, as it lies in memory. -/
import Derived.Test.YtaigbplidkakhaaCRow
import Derived.Test.YtaigbplidkakhaaCInts
import Derived.Deep.Slices
namespace Go.Proofs.Ytaigbplidkakhaa
open Go.ChangeShapes Go.WideShapes Go.ChangeAt Go.RowKit
open Go.Lib Go.Deep

/-- A step. -/
structure OpC where
  kind : Int
  k : Int
  v : Int
  d : Bool
  deriving Inhabited
def OpAt (W : World) (b o : Nat) (x : OpC) : Prop := W.cell? ⟨b, o, none⟩ = some (.int .i64 x.kind) ∧ W.cell? ⟨b, o + 1, none⟩ = some (.int .i64 x.k) ∧ W.cell? ⟨b, o + 2, none⟩ = some (.int .i64 x.v) ∧ W.cell? ⟨b, o + 3, none⟩ = some (.bool x.d) ∧
  (-9223372036854775808 ≤ x.kind ∧ x.kind ≤ 9223372036854775807) ∧ (-9223372036854775808 ≤ x.k ∧ x.k ≤ 9223372036854775807) ∧ (-9223372036854775808 ≤ x.v ∧ x.v ≤ 9223372036854775807)
def HoldsOps (W : World) (p : Option Addr) (l : List OpC) : Prop := 0 < l.length → ∃ b off, p = some ⟨b, off, none⟩ ∧ ∀ j (h : j < l.length), OpAt W b (off + j * 4) l[j]
theorem OpAt.below {W W' : World} {b o : Nat} {x : OpC} (h : OpAt W b o x) (hb : Below W.heap.size W W') : OpAt W' b o x := by
  obtain ⟨h1, h2, h3, h4, h5⟩ := h
  exact ⟨(hb.cell (World.block_lt_of_cell? _ _ h1)).trans h1, (hb.cell (World.block_lt_of_cell? _ _ h2)).trans h2, (hb.cell (World.block_lt_of_cell? _ _ h3)).trans h3, (hb.cell (World.block_lt_of_cell? _ _ h4)).trans h4, h5⟩
theorem HoldsOps.below {W W' : World} {p : Option Addr} {l : List OpC} (h : HoldsOps W p l) (hb : Below W.heap.size W W') : HoldsOps W' p l := fun h0 => by
  obtain ⟨b, off, e, hc⟩ := h h0
  exact ⟨b, off, e, fun j hj => (hc j hj).below hb⟩
theorem cellsOp : Try.prog.cellsOf 33 = 4 := by kernel_rfl
theorem wf64 {n : Int} (h : (Lit.int .i64 n).wf = true) : -9223372036854775808 ≤ n ∧ n ≤ 9223372036854775807 := by
  have e1 : IntKind.i64.min = -9223372036854775808 := rfl
  have e2 : IntKind.i64.max = 9223372036854775807 := rfl
  simp only [Lit.wf, Bool.and_eq_true, decide_eq_true_eq] at h
  omega
set_option maxRecDepth 100000 in
/-- One step. -/
theorem op_core {H : Type} {enc : TypeId × Value → H} {W : World} {fuel : Nat} {b o : Nat} {cs : List Value} {x : DataW H × List MemPlace} (hcl : ∀ j v, cs[j]? = some v → W.cell? ⟨b, o + j, none⟩ = some v)
    (hf : DataW.trod enc Try.prog W 0 (fun _ => true) true fuel 33 cs = some x) : ∃ y, OpAt W b o y := by
  have c3 : Try.prog.cellsOf 3 = 1 := by kernel_rfl
  have c4 : Try.prog.cellsOf 4 = 1 := by kernel_rfl
  obtain ⟨xs, n, _, hx, hlen, hxl, hg⟩ := DataW.trod_struct Try.underlying33 hf
  rw [cellsOp] at hlen
  match cs, hlen with
  | [x0, x1, x2, x3], _ =>
    match xs, hxl with
    | [y0, y1, y2, y3], _ =>
      have h0 := hg 0 _ rfl
      have h1 := hg 1 _ rfl
      have h2 := hg 2 _ rfl
      have h3 := hg 3 _ rfl
      change DataW.trod enc Try.prog W 0 (fun _ => true) true n 3 (([x0, x1, x2, x3].drop 0).take (Try.prog.cellsOf 3)) = some y0 at h0
      change DataW.trod enc Try.prog W 0 (fun _ => true) true n 3 (([x0, x1, x2, x3].drop 1).take (Try.prog.cellsOf 3)) = some y1 at h1
      change DataW.trod enc Try.prog W 0 (fun _ => true) true n 3 (([x0, x1, x2, x3].drop 2).take (Try.prog.cellsOf 3)) = some y2 at h2
      change DataW.trod enc Try.prog W 0 (fun _ => true) true n 4 (([x0, x1, x2, x3].drop 3).take (Try.prog.cellsOf 4)) = some y3 at h3
      rw [c3] at h0 h1 h2
      rw [c4] at h3
      change DataW.trod enc Try.prog W 0 (fun _ => true) true n 3 [x0] = some y0 at h0
      change DataW.trod enc Try.prog W 0 (fun _ => true) true n 3 [x1] = some y1 at h1
      change DataW.trod enc Try.prog W 0 (fun _ => true) true n 3 [x2] = some y2 at h2
      change DataW.trod enc Try.prog W 0 (fun _ => true) true n 4 [x3] = some y3 at h3
      subst hx
      obtain ⟨k, e0, _, wk⟩ := DataW.trod_int Try.underlying3 h0
      obtain ⟨m, e1, _, wm⟩ := DataW.trod_int Try.underlying3 h1
      obtain ⟨v, e2, _, wv⟩ := DataW.trod_int Try.underlying3 h2
      obtain ⟨d, e3, _⟩ := DataW.trod_bool Try.underlying4 h3
      simp only [List.cons.injEq, and_true] at e0 e1 e2 e3
      subst e0 e1 e2 e3
      exact ⟨⟨k, m, v, d⟩, hcl 0 _ rfl, hcl 1 _ rfl, hcl 2 _ rfl, hcl 3 _ rfl, wf64 wk, wf64 wm, wf64 wv⟩
set_option maxRecDepth 100000 in
/-- AN ARGUMENT THAT IS A SCRIPT. -/
theorem open_ops16 {H : Type} {enc : TypeId × Value → H} {W : World} {a0 : Option Addr} {len cap : Nat} {d0 : DataW H} {p : List MemPlace} {ts : List TypeId} {ds : List (DataW H)} {j : Nat}
    (hsz : (DataW.weightsEach Try.prog ts ds).all (· ≤ reachBytes) = true) (ht : ts[j]? = some 22) (hd : ds[j]? = some d0)
    (h0 : DataW.Trod enc Try.prog W 0 (fun _ => true) true 22 (.slice a0 len cap) d0 p) :
    ∃ l : List OpC, l.length = len ∧ len ≤ cap ∧ len ≤ 140737488351232 ∧ HoldsOps W a0 l := by
  obtain ⟨fuel, hf⟩ := h0
  rcases open_slice Try.underlying22 hf with ⟨hcs, hx⟩ | ⟨a, len', cap', m, n, D, Pl, hcs, _, hl, hm, hmm, hx, hi⟩
  · simp [Value.cells] at hcs
    obtain ⟨rfl, rfl, rfl⟩ := hcs
    exact ⟨[], rfl, Nat.le_refl _, by omega, fun h => absurd h (by decide)⟩
  · simp [Value.cells] at hcs
    obtain ⟨rfl, rfl, rfl⟩ := hcs
    simp only [if_true] at hmm
    subst hmm
    simp only [Prod.mk.injEq] at hx
    obtain ⟨rfl, rfl⟩ := hx
    have hb : Try.prog.bytesOf 33 = 32 := by kernel_rfl
    have hr : reachBytes = 140737488351232 := rfl
    have hw := sized_slice hsz ht hd Try.underlying22
    rw [hb, hr] at hw
    simp only [List.length_map, List.length_range] at hw
    by_cases h0 : len = 0
    · subst h0
      exact ⟨[], rfl, Nat.zero_le _, by omega, fun h => absurd h (by decide)⟩
    · have hsp : ∃ b off, a = ⟨b, off, none⟩ := by
        obtain ⟨cs', hc, _⟩ := hi 0 (by omega)
        rw [cellsOp] at hc
        obtain ⟨_, hcl, hat⟩ := World.cells?_some hc
        have h1 := hat 0 (by omega)
        obtain ⟨b, off, sp⟩ := a
        have hv : cs'[0]? = some (cs'[0]'(by omega)) := List.getElem?_eq_getElem (by omega)
        rw [hv] at h1
        have hspot : sp = none := by simpa [Addr.add] using World.cell?_spot h1
        subst hspot
        exact ⟨b, off, rfl⟩
      obtain ⟨b, off, rfl⟩ := hsp
      have hall : ∀ i, i < len → ∃ y, OpAt W b (off + i * 4) y := fun i hil => by
        obtain ⟨cs', hc, htr⟩ := hi i (by omega)
        rw [cellsOp] at hc
        obtain ⟨_, hcl, hat⟩ := World.cells?_some hc
        refine op_core (fun j v hv => ?_) htr
        have hj : j < 4 := by have := (List.getElem?_eq_some_iff.1 hv).1; omega
        have h1 := hat j hj
        rw [Addr.add_mid, Addr.add_mid] at h1
        rw [h1, hv]
      obtain ⟨V, hV⟩ := choose_lt (α := OpC) (p := fun i y => OpAt W b (off + i * 4) y) hall
      refine ⟨(List.range len).map V, by simp, hl, by omega, fun _ => ⟨b, off, rfl, fun j hj => ?_⟩⟩
      simp only [List.length_map, List.length_range] at hj
      simpa using hV j hj
end Go.Proofs.Ytaigbplidkakhaa
