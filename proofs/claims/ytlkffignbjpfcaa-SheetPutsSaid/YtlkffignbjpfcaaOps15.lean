/- Proved here: an argument that is a list of pages to be put, as it lies in memory. -/
import Derived.Test.YtlkffignbjpfcaaDrumOps
namespace Go.Proofs.Ytlkffignbjpfcaa
open Go.ChangeShapes Go.WideShapes Go.ChangeAt Go.RowKit
open Go.Lib Go.Deep

/-- A page that is put. -/
structure PgM where
  n : Int
  st : Nat
  p : ByteArray
  deriving Inhabited
def PgAt (W : World) (b o : Nat) (x : PgM) : Prop := ∃ pa pc, W.cell? ⟨b, o, none⟩ = some (.int .i64 x.n) ∧ W.cell? ⟨b, o + 1, none⟩ = some (.int .u64 (x.st : Int)) ∧ W.cell? ⟨b, o + 2, none⟩ = some (.slice pa x.p.size pc) ∧
  HoldsB W pa x.p ∧ (pa = none → pc = 0) ∧ x.p.size ≤ 140737488351232 ∧ (-9223372036854775808 ≤ x.n ∧ x.n ≤ 9223372036854775807) ∧ x.st < 18446744073709551616
def HoldsPgs (W : World) (p : Option Addr) (l : List PgM) : Prop := 0 < l.length → ∃ b off, p = some ⟨b, off, none⟩ ∧ ∀ j (h : j < l.length), PgAt W b (off + j * 3) l[j]
theorem cellsPg : Try.prog.cellsOf 51 = 3 := by kernel_rfl
theorem wfu64 {n : Int} (h : (Lit.int .u64 n).wf = true) : 0 ≤ n ∧ n < 18446744073709551616 := by
  have e1 : IntKind.u64.min = 0 := rfl
  have e2 : IntKind.u64.max = 18446744073709551615 := rfl
  simp only [Lit.wf, Bool.and_eq_true, decide_eq_true_eq] at h
  omega
set_option maxRecDepth 100000 in
theorem pg_core {H : Type} {enc : TypeId × Value → H} {W : World} {fuel : Nat} {b o : Nat} {cs : List Value} {x : DataW H × List MemPlace} (hcl : ∀ j v, cs[j]? = some v → W.cell? ⟨b, o + j, none⟩ = some v)
    (hf : DataW.trod enc Try.prog W 0 (fun _ => true) true fuel 51 cs = some x) (hw : ∀ n ∈ x.1.weights Try.prog 51, n ≤ reachBytes) : ∃ y, PgAt W b o y := by
  have c34 : Try.prog.cellsOf 33 = 1 := by kernel_rfl
  have c3 : Try.prog.cellsOf 3 = 1 := by kernel_rfl
  have c4 : Try.prog.cellsOf 45 = 1 := by kernel_rfl
  obtain ⟨xs, n, _, hx, hlen, hxl, hg⟩ := DataW.trod_struct Try.underlying51 hf
  rw [cellsPg] at hlen
  match cs, hlen with
  | [x0, x1, x2], _ =>
    match xs, hxl with
    | [y0, y1, y2], _ =>
      have h0 := hg 0 _ rfl
      have h1 := hg 1 _ rfl
      have h2 := hg 2 _ rfl
      change DataW.trod enc Try.prog W 0 (fun _ => true) true n 3 (([x0, x1, x2].drop 0).take (Try.prog.cellsOf 3)) = some y0 at h0
      change DataW.trod enc Try.prog W 0 (fun _ => true) true n 45 (([x0, x1, x2].drop 1).take (Try.prog.cellsOf 45)) = some y1 at h1
      change DataW.trod enc Try.prog W 0 (fun _ => true) true n 33 (([x0, x1, x2].drop 2).take (Try.prog.cellsOf 33)) = some y2 at h2
      rw [c3] at h0
      rw [c4] at h1
      rw [c34] at h2
      change DataW.trod enc Try.prog W 0 (fun _ => true) true n 3 [x0] = some y0 at h0
      change DataW.trod enc Try.prog W 0 (fun _ => true) true n 45 [x1] = some y1 at h1
      change DataW.trod enc Try.prog W 0 (fun _ => true) true n 33 [x2] = some y2 at h2
      subst hx
      have w2 : ∀ n ∈ y2.1.weights Try.prog 33, n ≤ reachBytes := fun n hn => hw n (by simp [DataW.weights, DataW.weightsEach, Try.underlying51, hn])
      obtain ⟨k, e0, _, wk⟩ := DataW.trod_int Try.underlying3 h0
      obtain ⟨m, e1, _, wm⟩ := DataW.trod_int Try.underlying45 h1
      obtain ⟨pa, pc, s, e2, _, hs, hB, hpn⟩ := bytes_core h2 w2
      simp only [List.cons.injEq, and_true] at e0 e1 e2
      obtain ⟨m0, m1⟩ := wfu64 wm
      obtain ⟨mn, rfl⟩ : ∃ mn : Nat, m = (mn : Int) := ⟨m.toNat, by omega⟩
      subst e0 e1 e2
      exact ⟨⟨k, mn, s⟩, pa, pc, hcl 0 _ rfl, hcl 1 _ rfl, hcl 2 _ rfl, hB, hpn, hs, wf64 wk, by show mn < 18446744073709551616; omega⟩
set_option maxRecDepth 100000 in
/-- AN ARGUMENT THAT IS A LIST OF PAGES. -/
theorem open_pgs15 {H : Type} {enc : TypeId × Value → H} {W : World} {a0 : Option Addr} {len cap : Nat} {d0 : DataW H} {p : List MemPlace} {ts : List TypeId} {ds : List (DataW H)} {j : Nat}
    (hsz : (DataW.weightsEach Try.prog ts ds).all (· ≤ reachBytes) = true) (ht : ts[j]? = some 42) (hd : ds[j]? = some d0)
    (h0 : DataW.Trod enc Try.prog W 0 (fun _ => true) true 42 (.slice a0 len cap) d0 p) :
    ∃ l : List PgM, l.length = len ∧ len ≤ cap ∧ len ≤ 140737488351232 ∧ HoldsPgs W a0 l := by
  have hwt := sized_all hsz ht hd
  obtain ⟨fuel, hf⟩ := h0
  rcases open_slice Try.underlying42 hf with ⟨hcs, hx⟩ | ⟨a, len', cap', m, n, D, Pl, hcs, _, hl, hm, hmm, hx, hi⟩
  · simp [Value.cells] at hcs
    obtain ⟨rfl, rfl, rfl⟩ := hcs
    exact ⟨[], rfl, Nat.le_refl _, by omega, fun h => absurd h (by decide)⟩
  · simp [Value.cells] at hcs
    obtain ⟨rfl, rfl, rfl⟩ := hcs
    simp only [if_true] at hmm
    subst hmm
    simp only [Prod.mk.injEq] at hx
    obtain ⟨rfl, rfl⟩ := hx
    have hb : Try.prog.bytesOf 51 = 40 := by kernel_rfl
    have hr : reachBytes = 140737488351232 := rfl
    have hw := sized_slice hsz ht hd Try.underlying42
    rw [hb, hr] at hw
    simp only [List.length_map, List.length_range] at hw
    by_cases h0 : len = 0
    · subst h0
      exact ⟨[], rfl, Nat.zero_le _, by omega, fun h => absurd h (by decide)⟩
    · have hsp : ∃ b off, a = ⟨b, off, none⟩ := by
        obtain ⟨cs', hc, _⟩ := hi 0 (by omega)
        rw [cellsPg] at hc
        obtain ⟨_, hcl, hat⟩ := World.cells?_some hc
        have h1 := hat 0 (by omega)
        obtain ⟨b, off, sp⟩ := a
        have hv : cs'[0]? = some (cs'[0]'(by omega)) := List.getElem?_eq_getElem (by omega)
        rw [hv] at h1
        have hspot : sp = none := by simpa [Addr.add] using World.cell?_spot h1
        subst hspot
        exact ⟨b, off, rfl⟩
      obtain ⟨b, off, rfl⟩ := hsp
      have hall : ∀ i, i < len → ∃ y, PgAt W b (off + i * 3) y := fun i hil => by
        obtain ⟨cs', hc, htr⟩ := hi i (by omega)
        rw [cellsPg] at hc
        obtain ⟨_, hcl, hat⟩ := World.cells?_some hc
        refine pg_core (fun j v hv => ?_) htr (fun n hn => hwt n ?_)
        · have hj : j < 3 := by have := (List.getElem?_eq_some_iff.1 hv).1; omega
          have h1 := hat j hj
          rw [Addr.add_mid, Addr.add_mid] at h1
          rw [h1, hv]
        · simp only [DataW.weights, Try.underlying42, List.mem_cons, List.mem_append]
          exact .inr (.inl (weightsAll_mem (List.mem_map.2 ⟨i, List.mem_range.2 hil, rfl⟩) hn))
      obtain ⟨V, hV⟩ := choose_lt (α := PgM) (p := fun i y => PgAt W b (off + i * 3) y) hall
      refine ⟨(List.range len).map V, by simp, hl, by omega, fun _ => ⟨b, off, rfl, fun j hj => ?_⟩⟩
      simp only [List.length_map, List.length_range] at hj
      simpa using hV j hj
def HoldsI (w : World) (p : Option Addr) (l : List Int) : Prop := 0 < l.length → ∃ b off, p = some ⟨b, off, none⟩ ∧ ∀ j, j < l.length → w.cell? ⟨b, off + j, none⟩ = some (.int .i64 (l.getD j 0))
theorem HoldsI.below {w W : World} {p : Option Addr} {l : List Int} (h : HoldsI w p l) (hb : Below w.heap.size w W) : HoldsI W p l := fun h0 => by
  obtain ⟨b, off, e, hc⟩ := h h0
  exact ⟨b, off, e, fun j hj => hb_cell hb (hc j hj)⟩
theorem cells_int15 : Try.prog.cellsOf 3 = 1 := by kernel_rfl
/-- AN ARGUMENT OF NUMBERS. -/
theorem open_nums {H : Type} {enc : TypeId × Value → H} {W : World} {a0 : Option Addr} {len cap : Nat} {d0 : DataW H} {p : List MemPlace} {ts : List TypeId} {ds : List (DataW H)} {j : Nat}
    (hsz : (DataW.weightsEach Try.prog ts ds).all (· ≤ reachBytes) = true) (ht : ts[j]? = some 43) (hd : ds[j]? = some d0)
    (h0 : DataW.Trod enc Try.prog W 0 (fun _ => true) true 43 (.slice a0 len cap) d0 p) :
    ∃ l : List Int, l.length = len ∧ len ≤ cap ∧ len * 8 ≤ 140737488351232 ∧ HoldsI W a0 l ∧ (a0 = none → cap = 0) ∧ (∀ v ∈ l, -9223372036854775808 ≤ v ∧ v ≤ 9223372036854775807) := by
  obtain ⟨fuel, hf⟩ := h0
  rcases open_ints Try.underlying43 Try.underlying3 cells_int15 hf with ⟨hcs, hx⟩ | ⟨a, len', cap', zs, hcs, _, hl, hm, hz, hx, hcell, hwz⟩
  · simp [Value.cells] at hcs
    obtain ⟨rfl, rfl, rfl⟩ := hcs
    exact ⟨[], rfl, Nat.le_refl _, by omega, fun h => absurd h (by decide), fun _ => rfl, fun v hv => by simp at hv⟩
  · simp [Value.cells] at hcs
    obtain ⟨rfl, rfl, rfl⟩ := hcs
    simp only [Prod.mk.injEq] at hx
    obtain ⟨rfl, rfl⟩ := hx
    simp only [if_true] at hz
    have hb : Try.prog.bytesOf 3 = 8 := by kernel_rfl
    have hw := sized_slice hsz ht hd Try.underlying43
    have hr : reachBytes = 140737488351232 := rfl
    rw [hb, hr] at hw
    simp only [lits, List.length_map, List.length_take, List.length_drop] at hw
    have htl : (zs.take len).length = len := by rw [List.length_take]; omega
    refine ⟨zs.take len, htl, by omega, by omega, fun h => ?_, (fun h => by cases h), fun v hv => ?_⟩
    · rw [htl] at h
      obtain ⟨b, off, rfl, hc⟩ := ints_at hcell (by omega)
      refine ⟨b, off, rfl, fun j hj => ?_⟩
      rw [htl] at hj
      rw [hc j (by omega)]
      simp [List.getD_eq_getElem?_getD, hj]
    · have h1 := hwz v (List.mem_of_mem_take hv)
      have h2 : IntKind.i64.min = -9223372036854775808 := rfl
      have h3 : IntKind.i64.max = 9223372036854775807 := rfl
      simp only [Lit.wf, Bool.and_eq_true, decide_eq_true_eq] at h1
      omega
end Go.Proofs.Ytlkffignbjpfcaa
