/- Proved here: an argument that is a list of rows of bytes. -/
import Derived.Test.YtggchfmglaijgaaDrumRow
import Derived.Deep.Slices
namespace Go.Proofs.Ytggchfmglaijgaa
open Go.ChangeShapes Go.WideShapes Go.ChangeAt Go.RowKit
open Go.Lib Go.Deep

theorem bytes_coreR {H : Type} {enc : TypeId × Value → H} {W : World} {fuel : Nat} {cs : List Value} {x : DataW H × List MemPlace}
    (hf : DataW.trod enc Try.prog W 0 (fun _ => true) true fuel 33 cs = some x) (hw : ∀ n ∈ x.1.weights Try.prog 33, n ≤ reachBytes) :
    ∃ (a0 : Option Addr) (cap : Nat) (s : ByteArray), cs = [.slice a0 s.size cap] ∧ s.size ≤ cap ∧ s.size ≤ 140737488351232 ∧ HoldsB W a0 s ∧ (a0 = none → cap = 0) := by
  rcases open_ints Try.underlying33 Try.underlying5 cellsByte hf with ⟨hcs, hx⟩ | ⟨a, len, cap, zs, hcs, _, hl, hm, hz, hx, hcell, hwz⟩
  · exact ⟨none, 0, ⟨#[]⟩, hcs, Nat.le_refl _, by decide, fun h => absurd h (by decide), fun _ => rfl⟩
  · subst hx
    simp only [if_true] at hz
    have hb : Try.prog.bytesOf 5 = 1 := by kernel_rfl
    have hr : reachBytes = 140737488351232 := rfl
    have hw1 := hw ((len + (cap - len)) * 1) (by
      simp [DataW.weights, Try.underlying33, hb, lits, List.length_take, List.length_drop, hz, hl, Nat.min_eq_left])
    rw [hr] at hw1
    have byte : ∀ j, j < zs.length → 0 ≤ zs.getD j 0 ∧ zs.getD j 0 < 256 := fun j hj => by
      have h1 := hwz (zs.getD j 0) (by simp [List.getD, hj])
      have h2 : IntKind.u8.min = 0 := rfl
      have h3 : IntKind.u8.max = 255 := rfl
      simp only [Lit.wf, Bool.and_eq_true, decide_eq_true_eq] at h1
      omega
    have hsz : (ByteArray.mk ((zs.take len).map fun n => UInt8.ofNat n.toNat).toArray).size = len := by simp [ByteArray.size]; omega
    refine ⟨some a, cap, ⟨((zs.take len).map fun n => UInt8.ofNat n.toNat).toArray⟩, by rw [hsz]; exact hcs, by rw [hsz]; exact hl, by rw [hsz]; omega, fun h => ?_, (fun h => by cases h)⟩
    rw [hsz] at h
    obtain ⟨b, off, rfl, hc⟩ := ints_at hcell (by omega)
    refine ⟨b, off, rfl, fun j hj => ?_⟩
    rw [hsz] at hj
    rw [hc j (by omega)]
    have e : (ByteArray.mk ((zs.take len).map fun n => UInt8.ofNat n.toNat).toArray).get! j = UInt8.ofNat (zs.getD j 0).toNat := by
      show (((zs.take len).map fun n => UInt8.ofNat n.toNat).toArray)[j]! = _
      rw [getElem!_pos _ _ (by simp; omega)]
      simp [List.getD, show j < zs.length by omega]
    have := byte j (by omega)
    have e3 : ((UInt8.ofNat (zs.getD j 0).toNat).toNat : Int) = zs.getD j 0 := by
      rw [UInt8.toNat_ofNat']
      omega
    rw [e, e3]
def RowAt (W : World) (b o : Nat) (x : ByteArray) : Prop := ∃ pa pc, W.cell? ⟨b, o, none⟩ = some (.slice pa x.size pc) ∧ HoldsB W pa x ∧ (pa = none → pc = 0) ∧ x.size ≤ pc ∧ x.size ≤ 140737488351232
def HoldsRows (W : World) (p : Option Addr) (l : List ByteArray) : Prop := 0 < l.length → ∃ b off, p = some ⟨b, off, none⟩ ∧ ∀ j (h : j < l.length), RowAt W b (off + j) l[j]
theorem RowAt.below {W W' : World} {b o : Nat} {x : ByteArray} (h : RowAt W b o x) (hb : Below W.heap.size W W') : RowAt W' b o x := by
  obtain ⟨pa, pc, h1, h2, h3⟩ := h
  exact ⟨pa, pc, hb_cell hb h1, h2.below hb, h3⟩
theorem HoldsRows.below {W W' : World} {p : Option Addr} {l : List ByteArray} (h : HoldsRows W p l) (hb : Below W.heap.size W W') : HoldsRows W' p l := fun h0 => by
  obtain ⟨b, off, e, hc⟩ := h h0
  exact ⟨b, off, e, fun j hj => (hc j hj).below hb⟩
theorem weightsAll_memR {H : Type} {P : Program} {e : TypeId} : ∀ {l : List (DataW H)} {d : DataW H} {n : Nat}, d ∈ l → n ∈ d.weights P e → n ∈ DataW.weightsAll P e l
  | x :: r, d, n, hd, hn => by
    simp only [DataW.weightsAll, List.mem_append]
    rcases List.mem_cons.1 hd with rfl | hd
    · exact .inl hn
    · exact .inr (weightsAll_memR hd hn)
theorem sized_allR {H : Type} {P : Program} {ts : List TypeId} {ds : List (DataW H)} (h : (DataW.weightsEach P ts ds).all (· ≤ reachBytes) = true) {j : Nat} {t : TypeId} {d : DataW H} (ht : ts[j]? = some t) (hd : ds[j]? = some d) : ∀ n ∈ d.weights P t, n ≤ reachBytes := fun n hn => by
  have := List.all_eq_true.1 h n (DataW.weights_mem_each ht hd n hn)
  simpa using this
theorem cellsRow : Try.prog.cellsOf 33 = 1 := by kernel_rfl
set_option maxRecDepth 100000 in
/-- AN ARGUMENT THAT IS A LIST OF ROWS. -/
theorem open_rowsU {H : Type} {enc : TypeId × Value → H} {W : World} {a0 : Option Addr} {len cap : Nat} {d0 : DataW H} {p : List MemPlace} {ts : List TypeId} {ds : List (DataW H)} {j : Nat}
    (hsz : (DataW.weightsEach Try.prog ts ds).all (· ≤ reachBytes) = true) (ht : ts[j]? = some 28) (hd : ds[j]? = some d0)
    (h0 : DataW.Trod enc Try.prog W 0 (fun _ => true) true 28 (.slice a0 len cap) d0 p) :
    ∃ l : List ByteArray, l.length = len ∧ len ≤ cap ∧ len ≤ 140737488351232 ∧ HoldsRows W a0 l := by
  have hwt := sized_allR hsz ht hd
  obtain ⟨fuel, hf⟩ := h0
  rcases open_slice Try.underlying28 hf with ⟨hcs, hx⟩ | ⟨a, len', cap', m, n, D, Pl, hcs, _, hl, hm, hmm, hx, hi⟩
  · simp [Value.cells] at hcs
    obtain ⟨rfl, rfl, rfl⟩ := hcs
    exact ⟨[], rfl, Nat.le_refl _, by omega, fun h => absurd h (by decide)⟩
  · simp [Value.cells] at hcs
    obtain ⟨rfl, rfl, rfl⟩ := hcs
    simp only [if_true] at hmm
    subst hmm
    simp only [Prod.mk.injEq] at hx
    obtain ⟨rfl, rfl⟩ := hx
    have hb : Try.prog.bytesOf 33 = 24 := by kernel_rfl
    have hr : reachBytes = 140737488351232 := rfl
    have hw := sized_slice hsz ht hd Try.underlying28
    rw [hb, hr] at hw
    simp only [List.length_map, List.length_range] at hw
    by_cases h0 : len = 0
    · subst h0
      exact ⟨[], rfl, Nat.zero_le _, by omega, fun h => absurd h (by decide)⟩
    · have hsp : ∃ b off, a = ⟨b, off, none⟩ := by
        obtain ⟨cs', hc, _⟩ := hi 0 (by omega)
        rw [cellsRow] at hc
        obtain ⟨_, hcl, hat⟩ := World.cells?_some hc
        have h1 := hat 0 (by omega)
        obtain ⟨b, off, sp⟩ := a
        have hv : cs'[0]? = some (cs'[0]'(by omega)) := List.getElem?_eq_getElem (by omega)
        rw [hv] at h1
        have hspot : sp = none := by simpa [Addr.add] using World.cell?_spot h1
        subst hspot
        exact ⟨b, off, rfl⟩
      obtain ⟨b, off, rfl⟩ := hsp
      have hall : ∀ i, i < len → ∃ y, RowAt W b (off + i) y := fun i hil => by
        obtain ⟨cs', hc, htr⟩ := hi i (by omega)
        rw [cellsRow] at hc
        obtain ⟨_, hcl, hat⟩ := World.cells?_some hc
        obtain ⟨pa, pc, s, e, hpc, hss, hB, hpn⟩ := bytes_coreR htr (fun n hn => hwt n (by
          simp only [DataW.weights, Try.underlying28, List.mem_cons, List.mem_append]
          exact .inr (.inl (weightsAll_memR (List.mem_map.2 ⟨i, List.mem_range.2 hil, rfl⟩) hn))))
        subst e
        have h1 := hat 0 (by omega)
        rw [Addr.add_mid, Addr.add_mid, Nat.mul_one, Nat.add_zero] at h1
        exact ⟨s, pa, pc, h1, hB, hpn, hpc, hss⟩
      obtain ⟨V, hV⟩ := choose_lt (α := ByteArray) (p := fun i y => RowAt W b (off + i) y) hall
      refine ⟨(List.range len).map V, by simp, hl, by omega, fun _ => ⟨b, off, rfl, fun j hj => ?_⟩⟩
      simp only [List.length_map, List.length_range] at hj
      simpa using hV j hj
end Go.Proofs.Ytggchfmglaijgaa
