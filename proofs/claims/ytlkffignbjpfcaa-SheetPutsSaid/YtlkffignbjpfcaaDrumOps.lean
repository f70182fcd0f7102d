/- Proved here: how an argument that is a script of a drum's steps is opened. -/
import Derived.Test.YtlkffignbjpfcaaDrumRow
import Derived.Test.YtlkffignbjpfcaaBoolKit
import Derived.Deep.Slices
namespace Go.Proofs.Ytlkffignbjpfcaa
open Go.ChangeShapes Go.WideShapes Go.ChangeAt Go.RowKit
open Go.Lib Go.Deep

/-- What a slice of bytes that lies within an argument holds. -/
theorem bytes_core {H : Type} {enc : TypeId × Value → H} {W : World} {fuel : Nat} {cs : List Value} {x : DataW H × List MemPlace}
    (hf : DataW.trod enc Try.prog W 0 (fun _ => true) true fuel 33 cs = some x) (hw : ∀ n ∈ x.1.weights Try.prog 33, n ≤ reachBytes) :
    ∃ (a0 : Option Addr) (cap : Nat) (s : ByteArray), cs = [.slice a0 s.size cap] ∧ s.size ≤ cap ∧ s.size ≤ 140737488351232 ∧ HoldsB W a0 s ∧ (a0 = none → cap = 0) := by
  rcases open_ints Try.underlying33 Try.underlying5 cellsByte hf with ⟨hcs, hx⟩ | ⟨a, len, cap, zs, hcs, _, hl, hm, hz, hx, hcell, hwz⟩
  · exact ⟨none, 0, ⟨#[]⟩, hcs, Nat.le_refl _, by decide, fun h => absurd h (by decide), fun _ => rfl⟩
  · subst hx
    simp only [if_true] at hz
    have hb : Try.prog.bytesOf 5 = 1 := by kernel_rfl
    have hr : reachBytes = 140737488351232 := rfl
    have hw1 := hw ((len + (cap - len)) * 1) (by
      simp [DataW.weights, Try.underlying33, hb, lits, List.length_take, List.length_drop, hz, hl, Nat.min_eq_left])
    rw [hr] at hw1
    have byte : ∀ j, j < zs.length → 0 ≤ zs.getD j 0 ∧ zs.getD j 0 < 256 := fun j hj => by
      have h1 := hwz (zs.getD j 0) (by simp [List.getD, hj])
      have h2 : IntKind.u8.min = 0 := rfl
      have h3 : IntKind.u8.max = 255 := rfl
      simp only [Lit.wf, Bool.and_eq_true, decide_eq_true_eq] at h1
      omega
    have hsz : (ByteArray.mk ((zs.take len).map fun n => UInt8.ofNat n.toNat).toArray).size = len := by simp [ByteArray.size]; omega
    refine ⟨some a, cap, ⟨((zs.take len).map fun n => UInt8.ofNat n.toNat).toArray⟩, by rw [hsz]; exact hcs, by rw [hsz]; exact hl, by rw [hsz]; omega, fun h => ?_, (fun h => by cases h)⟩
    rw [hsz] at h
    obtain ⟨b, off, rfl, hc⟩ := ints_at hcell (by omega)
    refine ⟨b, off, rfl, fun j hj => ?_⟩
    rw [hsz] at hj
    rw [hc j (by omega)]
    have e : (ByteArray.mk ((zs.take len).map fun n => UInt8.ofNat n.toNat).toArray).get! j = UInt8.ofNat (zs.getD j 0).toNat := by
      show (((zs.take len).map fun n => UInt8.ofNat n.toNat).toArray)[j]! = _
      rw [getElem!_pos _ _ (by simp; omega)]
      simp [List.getD, show j < zs.length by omega]
    have := byte j (by omega)
    have e3 : ((UInt8.ofNat (zs.getD j 0).toNat).toNat : Int) = zs.getD j 0 := by
      rw [UInt8.toNat_ofNat']
      omega
    rw [e, e3]
theorem bools_core {H : Type} {enc : TypeId × Value → H} {W : World} {fuel : Nat} {cs : List Value} {x : DataW H × List MemPlace}
    (hf : DataW.trod enc Try.prog W 0 (fun _ => true) true fuel 34 cs = some x) (hw : ∀ n ∈ x.1.weights Try.prog 34, n ≤ reachBytes) :
    ∃ (a0 : Option Addr) (cap : Nat) (l : List Bool), cs = [.slice a0 l.length cap] ∧ l.length ≤ cap ∧ l.length ≤ 140737488351232 ∧ HoldsT W a0 l ∧ (a0 = none → cap = 0) := by
  rcases open_bools Try.underlying34 Try.underlying4 cellsBool hf with ⟨hcs, hx⟩ | ⟨a, len, cap, B, hcs, _, hl, hm, hx, hcell⟩
  · exact ⟨none, 0, [], hcs, Nat.le_refl _, by decide, fun h => absurd h (by decide), fun _ => rfl⟩
  · subst hx
    have hb : Try.prog.bytesOf 4 = 1 := by kernel_rfl
    have hr : reachBytes = 140737488351232 := rfl
    have hw1 := hw ((len + (cap - len)) * 1) (by simp [boolRow, DataW.weights, Try.underlying34, hb])
    rw [hr] at hw1
    have hsz : ((List.range len).map B).length = len := by simp
    refine ⟨some a, cap, (List.range len).map B, by rw [hsz]; exact hcs, by rw [hsz]; exact hl, by rw [hsz]; omega, fun h => ?_, (fun h => by cases h)⟩
    rw [hsz] at h
    have hc0 := hcell 0 (by omega)
    obtain ⟨b, off, sp⟩ := a
    have hspot : sp = none := by simpa [Addr.add] using World.cell?_spot hc0
    subst hspot
    refine ⟨b, off, rfl, fun j hj => ?_⟩
    rw [hsz] at hj
    have := hcell j (by omega)
    rw [Addr.add_mid] at this
    rw [this]
    simp [List.getD_eq_getElem?_getD, hj]

/-- A step of a script. -/
structure OpM where
  kind : Int
  n : Int
  p : ByteArray
  keep : List Bool
  deriving Inhabited
def OpAt (W : World) (b o : Nat) (x : OpM) : Prop := ∃ pa pc ka kc, W.cell? ⟨b, o, none⟩ = some (.int .i64 x.kind) ∧ W.cell? ⟨b, o + 1, none⟩ = some (.int .i64 x.n) ∧ W.cell? ⟨b, o + 2, none⟩ = some (.slice pa x.p.size pc) ∧ W.cell? ⟨b, o + 3, none⟩ = some (.slice ka x.keep.length kc) ∧
  HoldsB W pa x.p ∧ (pa = none → pc = 0) ∧ x.p.size ≤ 140737488351232 ∧ HoldsT W ka x.keep ∧ (ka = none → kc = 0) ∧ x.keep.length ≤ 140737488351232 ∧ (-9223372036854775808 ≤ x.kind ∧ x.kind ≤ 9223372036854775807) ∧ (-9223372036854775808 ≤ x.n ∧ x.n ≤ 9223372036854775807)
def HoldsOps (W : World) (p : Option Addr) (l : List OpM) : Prop := 0 < l.length → ∃ b off, p = some ⟨b, off, none⟩ ∧ ∀ j (h : j < l.length), OpAt W b (off + j * 4) l[j]
theorem OpAt.below {W W' : World} {b o : Nat} {x : OpM} (h : OpAt W b o x) (hb : Below W.heap.size W W') : OpAt W' b o x := by
  obtain ⟨pa, pc, ka, kc, h1, h2, h3, h4, h5, h6, h7, h8, h9⟩ := h
  exact ⟨pa, pc, ka, kc, hb_cell hb h1, hb_cell hb h2, hb_cell hb h3, hb_cell hb h4, h5.below hb, h6, h7, h8.below hb, h9⟩
theorem HoldsOps.below {W W' : World} {p : Option Addr} {l : List OpM} (h : HoldsOps W p l) (hb : Below W.heap.size W W') : HoldsOps W' p l := fun h0 => by
  obtain ⟨b, off, e, hc⟩ := h h0
  exact ⟨b, off, e, fun j hj => (hc j hj).below hb⟩
theorem weightsAll_mem {H : Type} {P : Program} {e : TypeId} : ∀ {l : List (DataW H)} {d : DataW H} {n : Nat}, d ∈ l → n ∈ d.weights P e → n ∈ DataW.weightsAll P e l
  | x :: r, d, n, hd, hn => by
    simp only [DataW.weightsAll, List.mem_append]
    rcases List.mem_cons.1 hd with rfl | hd
    · exact .inl hn
    · exact .inr (weightsAll_mem hd hn)
theorem sized_all {H : Type} {P : Program} {ts : List TypeId} {ds : List (DataW H)} (h : (DataW.weightsEach P ts ds).all (· ≤ reachBytes) = true) {j : Nat} {t : TypeId} {d : DataW H} (ht : ts[j]? = some t) (hd : ds[j]? = some d) : ∀ n ∈ d.weights P t, n ≤ reachBytes := fun n hn => by
  have := List.all_eq_true.1 h n (DataW.weights_mem_each ht hd n hn)
  simpa using this
theorem cellsOp : Try.prog.cellsOf 36 = 4 := by kernel_rfl
theorem wf64 {n : Int} (h : (Lit.int .i64 n).wf = true) : -9223372036854775808 ≤ n ∧ n ≤ 9223372036854775807 := by
  have e1 : IntKind.i64.min = -9223372036854775808 := rfl
  have e2 : IntKind.i64.max = 9223372036854775807 := rfl
  simp only [Lit.wf, Bool.and_eq_true, decide_eq_true_eq] at h
  omega
set_option maxRecDepth 100000 in
/-- One step. -/
theorem op_core {H : Type} {enc : TypeId × Value → H} {W : World} {fuel : Nat} {b o : Nat} {cs : List Value} {x : DataW H × List MemPlace} (hcl : ∀ j v, cs[j]? = some v → W.cell? ⟨b, o + j, none⟩ = some v)
    (hf : DataW.trod enc Try.prog W 0 (fun _ => true) true fuel 36 cs = some x) (hw : ∀ n ∈ x.1.weights Try.prog 36, n ≤ reachBytes) : ∃ y, OpAt W b o y := by
  have c35 : Try.prog.cellsOf 34 = 1 := by kernel_rfl
  have c34 : Try.prog.cellsOf 33 = 1 := by kernel_rfl
  have c3 : Try.prog.cellsOf 3 = 1 := by kernel_rfl
  obtain ⟨xs, n, _, hx, hlen, hxl, hg⟩ := DataW.trod_struct Try.underlying36 hf
  rw [cellsOp] at hlen
  match cs, hlen with
  | [x0, x1, x2, x3], _ =>
    match xs, hxl with
    | [y0, y1, y2, y3], _ =>
      have h0 := hg 0 _ rfl
      have h1 := hg 1 _ rfl
      have h2 := hg 2 _ rfl
      have h3 := hg 3 _ rfl
      change DataW.trod enc Try.prog W 0 (fun _ => true) true n 3 (([x0, x1, x2, x3].drop 0).take (Try.prog.cellsOf 3)) = some y0 at h0
      change DataW.trod enc Try.prog W 0 (fun _ => true) true n 3 (([x0, x1, x2, x3].drop 1).take (Try.prog.cellsOf 3)) = some y1 at h1
      change DataW.trod enc Try.prog W 0 (fun _ => true) true n 33 (([x0, x1, x2, x3].drop 2).take (Try.prog.cellsOf 33)) = some y2 at h2
      change DataW.trod enc Try.prog W 0 (fun _ => true) true n 34 (([x0, x1, x2, x3].drop 3).take (Try.prog.cellsOf 34)) = some y3 at h3
      rw [c3] at h0 h1
      rw [c34] at h2
      rw [c35] at h3
      change DataW.trod enc Try.prog W 0 (fun _ => true) true n 3 [x0] = some y0 at h0
      change DataW.trod enc Try.prog W 0 (fun _ => true) true n 3 [x1] = some y1 at h1
      change DataW.trod enc Try.prog W 0 (fun _ => true) true n 33 [x2] = some y2 at h2
      change DataW.trod enc Try.prog W 0 (fun _ => true) true n 34 [x3] = some y3 at h3
      subst hx
      have w2 : ∀ n ∈ y2.1.weights Try.prog 33, n ≤ reachBytes := fun n hn => hw n (by simp [DataW.weights, DataW.weightsEach, Try.underlying36, hn])
      have w3 : ∀ n ∈ y3.1.weights Try.prog 34, n ≤ reachBytes := fun n hn => hw n (by simp [DataW.weights, DataW.weightsEach, Try.underlying36, hn])
      obtain ⟨k, e0, _, wk⟩ := DataW.trod_int Try.underlying3 h0
      obtain ⟨m, e1, _, wm⟩ := DataW.trod_int Try.underlying3 h1
      obtain ⟨pa, pc, s, e2, _, hs, hB, hpn⟩ := bytes_core h2 w2
      obtain ⟨ka, kc, l, e3, _, hl, hT, hkn⟩ := bools_core h3 w3
      simp only [List.cons.injEq, and_true] at e0 e1 e2 e3
      subst e0 e1 e2 e3
      exact ⟨⟨k, m, s, l⟩, pa, pc, ka, kc, hcl 0 _ rfl, hcl 1 _ rfl, hcl 2 _ rfl, hcl 3 _ rfl, hB, hpn, hs, hT, hkn, hl, wf64 wk, wf64 wm⟩
set_option maxRecDepth 100000 in
/-- AN ARGUMENT THAT IS A SCRIPT. -/
theorem open_ops13 {H : Type} {enc : TypeId × Value → H} {W : World} {a0 : Option Addr} {len cap : Nat} {d0 : DataW H} {p : List MemPlace} {ts : List TypeId} {ds : List (DataW H)} {j : Nat}
    (hsz : (DataW.weightsEach Try.prog ts ds).all (· ≤ reachBytes) = true) (ht : ts[j]? = some 22) (hd : ds[j]? = some d0)
    (h0 : DataW.Trod enc Try.prog W 0 (fun _ => true) true 22 (.slice a0 len cap) d0 p) :
    ∃ l : List OpM, l.length = len ∧ len ≤ cap ∧ len ≤ 140737488351232 ∧ HoldsOps W a0 l := by
  have hwt := sized_all hsz ht hd
  obtain ⟨fuel, hf⟩ := h0
  rcases open_slice Try.underlying22 hf with ⟨hcs, hx⟩ | ⟨a, len', cap', m, n, D, Pl, hcs, _, hl, hm, hmm, hx, hi⟩
  · simp [Value.cells] at hcs
    obtain ⟨rfl, rfl, rfl⟩ := hcs
    exact ⟨[], rfl, Nat.le_refl _, by omega, fun h => absurd h (by decide)⟩
  · simp [Value.cells] at hcs
    obtain ⟨rfl, rfl, rfl⟩ := hcs
    simp only [if_true] at hmm
    subst hmm
    simp only [Prod.mk.injEq] at hx
    obtain ⟨rfl, rfl⟩ := hx
    have hb : Try.prog.bytesOf 36 = 64 := by kernel_rfl
    have hr : reachBytes = 140737488351232 := rfl
    have hw := sized_slice hsz ht hd Try.underlying22
    rw [hb, hr] at hw
    simp only [List.length_map, List.length_range] at hw
    by_cases h0 : len = 0
    · subst h0
      exact ⟨[], rfl, Nat.zero_le _, by omega, fun h => absurd h (by decide)⟩
    · have hsp : ∃ b off, a = ⟨b, off, none⟩ := by
        obtain ⟨cs', hc, _⟩ := hi 0 (by omega)
        rw [cellsOp] at hc
        obtain ⟨_, hcl, hat⟩ := World.cells?_some hc
        have h1 := hat 0 (by omega)
        obtain ⟨b, off, sp⟩ := a
        have hv : cs'[0]? = some (cs'[0]'(by omega)) := List.getElem?_eq_getElem (by omega)
        rw [hv] at h1
        have hspot : sp = none := by simpa [Addr.add] using World.cell?_spot h1
        subst hspot
        exact ⟨b, off, rfl⟩
      obtain ⟨b, off, rfl⟩ := hsp
      have hall : ∀ i, i < len → ∃ y, OpAt W b (off + i * 4) y := fun i hil => by
        obtain ⟨cs', hc, htr⟩ := hi i (by omega)
        rw [cellsOp] at hc
        obtain ⟨_, hcl, hat⟩ := World.cells?_some hc
        refine op_core (fun j v hv => ?_) htr (fun n hn => hwt n ?_)
        · have hj : j < 4 := by have := (List.getElem?_eq_some_iff.1 hv).1; omega
          have h1 := hat j hj
          rw [Addr.add_mid, Addr.add_mid] at h1
          rw [h1, hv]
        · simp only [DataW.weights, Try.underlying22, List.mem_cons, List.mem_append]
          exact .inr (.inl (weightsAll_mem (List.mem_map.2 ⟨i, List.mem_range.2 hil, rfl⟩) hn))
      obtain ⟨V, hV⟩ := choose_lt (α := OpM) (p := fun i y => OpAt W b (off + i * 4) y) hall
      refine ⟨(List.range len).map V, by simp, hl, by omega, fun _ => ⟨b, off, rfl, fun j hj => ?_⟩⟩
      simp only [List.length_map, List.length_range] at hj
      simpa using hV j hj
end Go.Proofs.Ytlkffignbjpfcaa
