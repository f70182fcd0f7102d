/- Proved here: how an argument that is a script of a tape's steps is opened. -/
import Derived.Test.YtggchfmglaijgaaRowsArg
namespace Go.Proofs.Ytggchfmglaijgaa
open Go.ChangeShapes Go.WideShapes Go.ChangeAt Go.RowKit
open Go.Lib Go.Deep

/-- A step of a script. -/
structure OpT where
  kind : Int
  n : Int
  p : ByteArray
  deriving Inhabited
def OpAtT (W : World) (b o : Nat) (x : OpT) : Prop := ∃ pa pc, W.cell? ⟨b, o, none⟩ = some (.int .i64 x.kind) ∧ W.cell? ⟨b, o + 1, none⟩ = some (.int .i64 x.n) ∧ W.cell? ⟨b, o + 2, none⟩ = some (.slice pa x.p.size pc) ∧
  HoldsB W pa x.p ∧ (pa = none → pc = 0) ∧ x.p.size ≤ pc ∧ x.p.size ≤ 140737488351232 ∧ (-9223372036854775808 ≤ x.kind ∧ x.kind ≤ 9223372036854775807) ∧ (-9223372036854775808 ≤ x.n ∧ x.n ≤ 9223372036854775807)
def HoldsOpsT (W : World) (p : Option Addr) (l : List OpT) : Prop := 0 < l.length → ∃ b off, p = some ⟨b, off, none⟩ ∧ ∀ j (h : j < l.length), OpAtT W b (off + j * 3) l[j]
theorem OpAtT.below {W W' : World} {b o : Nat} {x : OpT} (h : OpAtT W b o x) (hb : Below W.heap.size W W') : OpAtT W' b o x := by
  obtain ⟨pa, pc, h1, h2, h3, h4, h5⟩ := h
  exact ⟨pa, pc, hb_cell hb h1, hb_cell hb h2, hb_cell hb h3, h4.below hb, h5⟩
theorem HoldsOpsT.below {W W' : World} {p : Option Addr} {l : List OpT} (h : HoldsOpsT W p l) (hb : Below W.heap.size W W') : HoldsOpsT W' p l := fun h0 => by
  obtain ⟨b, off, e, hc⟩ := h h0
  exact ⟨b, off, e, fun j hj => (hc j hj).below hb⟩
theorem cellsOpT : Try.prog.cellsOf 60 = 3 := by kernel_rfl
theorem wf64T {n : Int} (h : (Lit.int .i64 n).wf = true) : -9223372036854775808 ≤ n ∧ n ≤ 9223372036854775807 := by
  have e1 : IntKind.i64.min = -9223372036854775808 := rfl
  have e2 : IntKind.i64.max = 9223372036854775807 := rfl
  simp only [Lit.wf, Bool.and_eq_true, decide_eq_true_eq] at h
  omega
set_option maxRecDepth 100000 in
/-- One step. -/
theorem op_coreT {H : Type} {enc : TypeId × Value → H} {W : World} {fuel : Nat} {b o : Nat} {cs : List Value} {x : DataW H × List MemPlace} (hcl : ∀ j v, cs[j]? = some v → W.cell? ⟨b, o + j, none⟩ = some v)
    (hf : DataW.trod enc Try.prog W 0 (fun _ => true) true fuel 60 cs = some x) (hw : ∀ n ∈ x.1.weights Try.prog 60, n ≤ reachBytes) : ∃ y, OpAtT W b o y := by
  have c34 : Try.prog.cellsOf 33 = 1 := by kernel_rfl
  have c3 : Try.prog.cellsOf 3 = 1 := by kernel_rfl
  obtain ⟨xs, n, _, hx, hlen, hxl, hg⟩ := DataW.trod_struct Try.underlying60 hf
  rw [cellsOpT] at hlen
  match cs, hlen with
  | [x0, x1, x2], _ =>
    match xs, hxl with
    | [y0, y1, y2], _ =>
      have h0 := hg 0 _ rfl
      have h1 := hg 1 _ rfl
      have h2 := hg 2 _ rfl
      change DataW.trod enc Try.prog W 0 (fun _ => true) true n 3 (([x0, x1, x2].drop 0).take (Try.prog.cellsOf 3)) = some y0 at h0
      change DataW.trod enc Try.prog W 0 (fun _ => true) true n 3 (([x0, x1, x2].drop 1).take (Try.prog.cellsOf 3)) = some y1 at h1
      change DataW.trod enc Try.prog W 0 (fun _ => true) true n 33 (([x0, x1, x2].drop 2).take (Try.prog.cellsOf 33)) = some y2 at h2
      rw [c3] at h0 h1
      rw [c34] at h2
      change DataW.trod enc Try.prog W 0 (fun _ => true) true n 3 [x0] = some y0 at h0
      change DataW.trod enc Try.prog W 0 (fun _ => true) true n 3 [x1] = some y1 at h1
      change DataW.trod enc Try.prog W 0 (fun _ => true) true n 33 [x2] = some y2 at h2
      subst hx
      have w2 : ∀ n ∈ y2.1.weights Try.prog 33, n ≤ reachBytes := fun n hn => hw n (by simp [DataW.weights, DataW.weightsEach, Try.underlying60, hn])
      obtain ⟨k, e0, _, wk⟩ := DataW.trod_int Try.underlying3 h0
      obtain ⟨m, e1, _, wm⟩ := DataW.trod_int Try.underlying3 h1
      obtain ⟨pa, pc, s, e2, hpc, hs, hB, hpn⟩ := bytes_coreR h2 w2
      simp only [List.cons.injEq, and_true] at e0 e1 e2
      subst e0 e1 e2
      exact ⟨⟨k, m, s⟩, pa, pc, hcl 0 _ rfl, hcl 1 _ rfl, hcl 2 _ rfl, hB, hpn, hpc, hs, wf64T wk, wf64T wm⟩
set_option maxRecDepth 100000 in
/-- AN ARGUMENT THAT IS A SCRIPT. -/
theorem open_ops14 {H : Type} {enc : TypeId × Value → H} {W : World} {a0 : Option Addr} {len cap : Nat} {d0 : DataW H} {p : List MemPlace} {ts : List TypeId} {ds : List (DataW H)} {j : Nat}
    (hsz : (DataW.weightsEach Try.prog ts ds).all (· ≤ reachBytes) = true) (ht : ts[j]? = some 58) (hd : ds[j]? = some d0)
    (h0 : DataW.Trod enc Try.prog W 0 (fun _ => true) true 58 (.slice a0 len cap) d0 p) :
    ∃ l : List OpT, l.length = len ∧ len ≤ cap ∧ len ≤ 140737488351232 ∧ HoldsOpsT W a0 l := by
  have hwt := sized_allR hsz ht hd
  obtain ⟨fuel, hf⟩ := h0
  rcases open_slice Try.underlying58 hf with ⟨hcs, hx⟩ | ⟨a, len', cap', m, n, D, Pl, hcs, _, hl, hm, hmm, hx, hi⟩
  · simp [Value.cells] at hcs
    obtain ⟨rfl, rfl, rfl⟩ := hcs
    exact ⟨[], rfl, Nat.le_refl _, by omega, fun h => absurd h (by decide)⟩
  · simp [Value.cells] at hcs
    obtain ⟨rfl, rfl, rfl⟩ := hcs
    simp only [if_true] at hmm
    subst hmm
    simp only [Prod.mk.injEq] at hx
    obtain ⟨rfl, rfl⟩ := hx
    have hb : Try.prog.bytesOf 60 = 40 := by kernel_rfl
    have hr : reachBytes = 140737488351232 := rfl
    have hw := sized_slice hsz ht hd Try.underlying58
    rw [hb, hr] at hw
    simp only [List.length_map, List.length_range] at hw
    by_cases h0 : len = 0
    · subst h0
      exact ⟨[], rfl, Nat.zero_le _, by omega, fun h => absurd h (by decide)⟩
    · have hsp : ∃ b off, a = ⟨b, off, none⟩ := by
        obtain ⟨cs', hc, _⟩ := hi 0 (by omega)
        rw [cellsOpT] at hc
        obtain ⟨_, hcl, hat⟩ := World.cells?_some hc
        have h1 := hat 0 (by omega)
        obtain ⟨b, off, sp⟩ := a
        have hv : cs'[0]? = some (cs'[0]'(by omega)) := List.getElem?_eq_getElem (by omega)
        rw [hv] at h1
        have hspot : sp = none := by simpa [Addr.add] using World.cell?_spot h1
        subst hspot
        exact ⟨b, off, rfl⟩
      obtain ⟨b, off, rfl⟩ := hsp
      have hall : ∀ i, i < len → ∃ y, OpAtT W b (off + i * 3) y := fun i hil => by
        obtain ⟨cs', hc, htr⟩ := hi i (by omega)
        rw [cellsOpT] at hc
        obtain ⟨_, hcl, hat⟩ := World.cells?_some hc
        refine op_coreT (fun j v hv => ?_) htr (fun n hn => hwt n ?_)
        · have hj : j < 3 := by have := (List.getElem?_eq_some_iff.1 hv).1; omega
          have h1 := hat j hj
          rw [Addr.add_mid, Addr.add_mid] at h1
          rw [h1, hv]
        · simp only [DataW.weights, Try.underlying58, List.mem_cons, List.mem_append]
          exact .inr (.inl (weightsAll_memR (List.mem_map.2 ⟨i, List.mem_range.2 hil, rfl⟩) hn))
      obtain ⟨V, hV⟩ := choose_lt (α := OpT) (p := fun i y => OpAtT W b (off + i * 3) y) hall
      refine ⟨(List.range len).map V, by simp, hl, by omega, fun _ => ⟨b, off, rfl, fun j hj => ?_⟩⟩
      simp only [List.length_map, List.length_range] at hj
      simpa using hV j hj
end Go.Proofs.Ytggchfmglaijgaa
