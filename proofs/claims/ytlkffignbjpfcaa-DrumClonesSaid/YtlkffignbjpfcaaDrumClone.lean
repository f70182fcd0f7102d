/- Proved here: slices.Clone at a drum's rows. -/
import Derived.Test.YtlkffignbjpfcaaDrumNew
import Derived.Test.YtlkffignbjpfcaaRDWrite
namespace Go.Proofs.Ytlkffignbjpfcaa
open Go.RowKit

theorem infoSectorT : (Try.prog.info? 84).map (fun i => (i.zero, i.size, i.bytes)) = some (some (.agg zRow.toArray), 64, 64) := by kernel_rfl
/-- All cells of rows of 64. -/
def flatV (L : List ByteArray) : List Value := L.flatMap bytesV
theorem flatV_length : ∀ (L : List ByteArray), (∀ s ∈ L, s.size = 64) → (flatV L).length = L.length * 64
  | [], _ => rfl
  | s :: r, h => by
    have ih := flatV_length r (fun x hx => h x (by simp [hx]))
    have h0 := h s (by simp)
    unfold flatV at ih ⊢
    rw [List.flatMap_cons, List.length_append, bytesV_length, h0, ih, List.length_cons]
    omega
theorem flatV_at : ∀ (L : List ByteArray), (∀ s ∈ L, s.size = 64) → ∀ i (hi : i < L.length) j, j < 64 → (flatV L)[i * 64 + j]? = (bytesV L[i])[j]?
  | [], _, i, hi, _, _ => absurd hi (Nat.not_lt_zero i)
  | s :: r, h, 0, _, j, hj => by
    have h0 := h s (by simp)
    show (bytesV s ++ flatV r)[0 * 64 + j]? = _
    rw [List.getElem?_append_left (by rw [bytesV_length, h0]; omega), Nat.zero_mul, Nat.zero_add]
    rfl
  | s :: r, h, i + 1, hi, j, hj => by
    have h0 := h s (by simp)
    have ih := flatV_at r (fun x hx => h x (by simp [hx])) i (by simpa using hi) j hj
    show (bytesV s ++ flatV r)[(i + 1) * 64 + j]? = _
    rw [List.getElem?_append_right (by rw [bytesV_length, h0]; omega), bytesV_length, h0, show (i + 1) * 64 + j - 64 = i * 64 + j by omega, ih]
    rfl
theorem flatV_one : ∀ (L : List ByteArray), ∀ u ∈ flatV L, u.oneCell' = true := fun L u hu => by
  unfold flatV at hu
  obtain ⟨s, _, hs⟩ := List.mem_flatMap.1 hu
  exact bytesV_one s u hs
theorem RowsAt.own {W : World} {B g N c : Nat} {L : List ByteArray} (h : W.ownsRow B 84 64 (.slice (some ⟨g, 0, none⟩) N c) N (flatV L)) (hL : L.length = N) (h64 : ∀ s ∈ L, s.size = 64) : RowsAt W g N L :=
  ⟨hL, fun i hi => ⟨h64 _ (List.getElem_mem hi), fun j v hv => by
    have hj : j < 64 := by
      have := (List.getElem?_eq_some_iff.1 hv).1
      rwa [bytesV_length, h64 _ (List.getElem_mem hi)] at this
    rw [h.cellAt (i * 64 + j) (by omega), flatV_at L h64 i hi j hj]
    exact hv⟩, fun j hj => by
    rw [Nat.zero_add]
    have hl := flatV_length L h64
    refine ⟨?_, World.ownsRow.frozenAt h j⟩
    rw [h.cellAt j hj, List.getElem?_eq_getElem (by rw [hl, hL]; exact hj)]
    rfl⟩
set_option maxRecDepth 100000 in
set_option maxHeartbeats 2000000 in
theorem clone_sectors (W : World) (g N c : Nat) (L : List ByteArray) (h : RowsAt W g N L) (hN : N ≤ 16384) (h0 : 0 < N) :
    Calls Try.prog 38 #[.slice (some ⟨g, 0, none⟩) N c] W fun e W' => ∃ g' c', e = .returned (.slice (some ⟨g', 0, none⟩) N c') ∧ RowsAt W' g' N L ∧ W.heap.size ≤ g' ∧ g' < W'.heap.size ∧ N ≤ c' ∧ Below W.heap.size W W' := by
  have h64 : ∀ s ∈ L, s.size = 64 := fun s hs => by
    obtain ⟨i, hi, rfl⟩ := List.getElem_of_mem hs
    exact (h.row i hi).1
  have hl := flatV_length L h64
  rw [h.len] at hl
  obtain ⟨i0, hi, hz0, hz1, hz2⟩ := info_parts infoSectorT
  have hb0 : Below W.heap.size W (W.alloc (.cells #[] 84)) := (Below.refl _ _).alloc (Nat.le_refl _) _
  have hown : (W.alloc (.cells #[] 84)).ownsRow W.heap.size 84 64 (.slice (some ⟨W.heap.size, 0, none⟩) 0 0) 0 [] := World.ownsRow_lit W #[] 0 (Nat.le_refl _) (by unfold maxLen; omega) (by simp)
  have hcells : ∀ j u, (flatV L)[j]? = some u → (W.alloc (.cells #[] 84)).cell? ((⟨g, 0, none⟩ : Addr).add j) = some u := fun j u hu => by
    have hj : j < N * 64 := by
      have := (List.getElem?_eq_some_iff.1 hu).1
      rwa [hl] at this
    have e : (⟨g, 0, none⟩ : Addr).add j = ⟨g, j, none⟩ := by unfold Addr.add; split <;> simp_all
    rw [e]
    have hi2 : j / 64 < L.length := by rw [h.len]; omega
    have hr := (h.row (j / 64) hi2).2 (j % 64) u (by rw [← flatV_at L h64 (j / 64) hi2 (j % 64) (Nat.mod_lt _ (by decide)), show j / 64 * 64 + j % 64 = j by omega]; exact hu)
    rw [show j / 64 * 64 + j % 64 = j by omega] at hr
    exact hb_cell hb0 hr
  obtain ⟨v', w', hrun, hown', hgrow, _, hat⟩ := run_append_own_at (P := Try.prog) (W.alloc (.cells #[] 84)) W.heap.size 73 73 84 i0 (.agg zRow.toArray) 64 64 Try.underlying73 hi hz0 hz1 hz2 rfl (by decide) (.slice (some ⟨W.heap.size, 0, none⟩) 0 0) 0 [] hown ⟨g, 0, none⟩ N c (flatV L) hl hcells (flatV_one L) (by unfold maxLen; omega) (by omega) (by simp)
  rw [Nat.zero_add, List.nil_append] at hown'
  obtain ⟨g', c', rfl, hg1, hg2⟩ := hown'.form h0
  have hcap : N ≤ c' := by
    rcases hown'.2 with ⟨e, _⟩ | ⟨g2, cap, cur, e, _, _, hc, _⟩
    · cases e
    · injection e with e1 e2 e3; omega
  have hb' : Below W.heap.size W w' := hb0.grown hgrow (by simp) (fun k hk => by
    injection hk with hk
    exact Nat.le_of_eq hk)
  have HE := Lib.hid (And.intro (RowsAt.own hown' h.len h64) (And.intro hg1 (And.intro hg2 (And.intro hcap hb'))))
  have hrun' : ∀ ty, (Builtin.append_ #[73, 73] ty #[.slice (some ⟨W.heap.size, 0, none⟩) 0 0, .slice (some ⟨g, 0, none⟩) N c]).run Try.prog (W.alloc (.cells #[] 84)) = .ok (.slice (some ⟨g', 0, none⟩) N c') w' := fun ty => by rw [← hrun]; rfl
  have HRUN := Lib.hid hrun'
  have hNI : (N : Int) ≤ 16384 := by omega
  have hnil := Lib.run_eql_slice_nil (P := Try.prog) W 73 84 (some ⟨g, 0, none⟩) N c 0 0 Try.underlying73
  clear h h64 hl hown hcells hrun hrun' hown' hgrow hat hg1 hg2 hcap hb' hb0
  go_enter Try.func38, Try.ntmps38
  go_wp2_with (at_builtin; refine wpList_append_eq rfl (.tmp 5) (.tmp 6) 73 rfl _ _ _ _ rfl rfl HRUN.out ?_)
  all_goals try (exfalso; omega; done)
  go_ret
  exact ⟨g', c', rfl, HE.out⟩
theorem infoWriteT : (Try.prog.info? 87).map (fun i => (i.zero, i.size, i.bytes)) = some (some (.agg zWrite), 65, 72) := by kernel_rfl
set_option maxRecDepth 100000 in
set_option maxHeartbeats 2000000 in
theorem clone_writes (W : World) (q : Option Addr) (n c : Nat) (xs : List Value) (h : W.ownsRow 0 87 65 (.slice q n c) n xs) (h1 : ∀ u ∈ xs, u.oneCell' = true) (hn : n ≤ 1000000) :
    Calls Try.prog 39 #[.slice q n c] W fun e W' => ∃ q' c', e = .returned (.slice q' n c') ∧ W'.ownsRow 0 87 65 (.slice q' n c') n xs ∧ (∀ k, (Value.slice q' n c').ownBlock = some k → W.heap.size ≤ k) ∧ (q = none → q' = none) ∧ Below W.heap.size W W' := by
  rcases q with _ | ⟨g, off, sp⟩
  · obtain ⟨rfl, rfl⟩ : n = 0 ∧ c = 0 := by
      rcases h.2 with ⟨e, h0⟩ | ⟨g, cap, cur, e, _⟩
      · injection e with e1 e2 e3
        exact ⟨e2, e3⟩
      · cases e
    have hnil := Lib.run_eql_slice_nil (P := Try.prog) W 74 87 none 0 0 0 0 Try.underlying74
    have HE := Lib.hid h
    clear h h1 hn
    go_enter Try.func39, Try.ntmps39
    go_wp2_with (fail)
    all_goals try (exfalso; omega; done)
    go_ret
    exact ⟨none, 0, rfl, HE.out, fun k hk => (by cases hk), fun _ => rfl, Below.refl _ _⟩
  · obtain ⟨i0, hi, hz0, hz1, hz2⟩ := info_parts infoWriteT
    obtain ⟨g', c', w', hrun, hown, hg, hb, hlt⟩ := copy_first 74 87 i0 (.agg zWrite) 65 72 Try.underlying74 hi hz0 hz1 hz2 rfl (by decide) h (fun e => by cases e) h1 (by omega) (by omega)
    have hown0 : w'.ownsRow 0 87 65 (.slice (some ⟨g', 0, none⟩) n c') n xs := by
      rcases hown.2 with ⟨e, _⟩ | ⟨g2, cap, cur, e, _, hr⟩
      · cases e
      · exact ⟨hown.1, .inr ⟨g2, cap, cur, e, Nat.zero_le _, hr⟩⟩
    have HE := Lib.hid (And.intro hown0 (And.intro hg hb))
    have HRUN := Lib.hid hrun
    have hnI : (n : Int) ≤ 1000000 := by omega
    have hnil := Lib.run_eql_slice_nil (P := Try.prog) W 74 87 (some ⟨g, off, sp⟩) n c 0 0 Try.underlying74
    clear h h1 hn hrun hown hown0 hg hb hlt
    go_enter Try.func39, Try.ntmps39
    go_wp2_with (at_builtin; refine wpList_append_eq rfl (.tmp 5) (.tmp 6) 74 rfl _ _ _ _ rfl rfl HRUN.out ?_)
    all_goals try (exfalso; omega; done)
    go_ret
    exact ⟨some ⟨g', 0, none⟩, c', rfl, HE.out.1, fun k hk => (by injection hk with hk; rw [← hk]; exact HE.out.2.1), fun e => (by cases e), HE.out.2.2⟩
end Go.Proofs.Ytlkffignbjpfcaa
