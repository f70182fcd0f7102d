/- Proved here: slices.Sort of a call's own row of strings leaves the same strings in some order. -/
import Derived.Test.YtfmlmdfehaajbaaGreatDoorRowsV
import Derived.Test.YtfmlmdfehaajbaaGreatDoorShelfR
import Derived.Sort.EncStr
namespace Go.Proofs.YtfmlmdfehaajbaaGreatDoor
open Go.RowKit

theorem appendV16 {T S : TypeId} {i0 : TypeInfo} {z : Value} (hS : Tryz.prog.underlying S = some (.slice T)) (hi : Tryz.prog.info? T = some i0) (hz0 : i0.zero = some z) (hz1 : i0.size = 1) (hz2 : i0.bytes = 16) (hzc : z.cells.size = 1)
    {w : World} {B : Nat} {q : Option Addr} {c : Nat} {xs : List Value} {x : Value} (h : OwnV T w B q c xs) (hx : x.oneCell' = true) (hB : B ≤ w.heap.size) (hsz : (xs.length + 1) * 16 ≤ 140737488355328) :
    ∃ g cap w', (∀ ty, (Builtin.append_ #[S, S] ty #[.slice q xs.length c, .slice (some ⟨w.heap.size, 0, none⟩) 1 1]).run Tryz.prog (w.alloc (.cells #[x] T)) = .ok (.slice (some ⟨g, 0, none⟩) (xs.length + 1) cap) w') ∧
      OwnV T w' B (some ⟨g, 0, none⟩) cap (xs ++ [x]) ∧ w.grownBy w' (Value.slice q xs.length c).ownBlock ∧ (q = some ⟨g, 0, none⟩ ∨ g = w.heap.size + 1) := by
  have hown := World.ownsRow.alloc h.1 (.cells #[x] T)
  have hs : (w.alloc (.cells #[x] T)).heap.size = w.heap.size + 1 := by simp
  have hcells : ∀ j u, [x][j]? = some u → (w.alloc (.cells #[x] T)).cell? ((⟨w.heap.size, 0, none⟩ : Addr).add j) = some u := by
    intro j u hu
    have hj : j = 0 := by
      have := (List.getElem?_eq_some_iff.1 hu).1
      simp at this
      omega
    subst hj
    have e : u = x := by simpa using hu.symm
    subst e
    have ha : (⟨w.heap.size, 0, none⟩ : Addr).add 0 = ⟨w.heap.size, 0, none⟩ := rfl
    rw [ha, cell_of_row _ _ 0 #[u] T (0, 0) (heap_alloc_new w _)]
    rfl
  obtain ⟨v', w', hrun, hown', hgrow, hne, hblk⟩ := run_append_own_at (P := Tryz.prog) (w := w.alloc (.cells #[x] T)) B S S T i0 z 1 16 hS hi hz0 hz1 hz2 hzc (by decide) _ xs.length xs hown ⟨w.heap.size, 0, none⟩ 1 1 [x] rfl hcells (by simp [hx]) (by unfold maxLen; omega) (by omega) (by omega)
  have hv : v' ≠ .slice none 0 0 := fun e => by
    have := (hne.1 e).2
    cases this
  have hgr : w.grownBy w' (Value.slice q xs.length c).ownBlock := ⟨hgrow.os, hgrow.tape, hgrow.output, by have := hgrow.size; omega, fun k hk hr => (hgrow.block k (by omega) hr).trans (((Below.refl _ w).alloc (Nat.le_refl _) _).block k hk)⟩
  rcases hown'.2 with ⟨e, _⟩ | ⟨g, cap, cur, rfl, hb, hh, hc, h1, h2⟩
  · exact absurd e hv
  · refine ⟨g, cap, w', fun ty => by rw [← hrun]; rfl, ⟨by rw [List.length_append]; exact hown', by rw [List.length_append]; exact hc, (fun e => by cases e), fun u hu => ?_, h1⟩, hgr, ?_⟩
    · rcases List.mem_append.1 hu with hu | hu
      · exact h.2.2.2.1 u hu
      · rw [List.mem_singleton.1 hu]; exact hx
    · rcases hblk with e | e
      · cases q with
        | none => cases e
        | some a =>
          obtain ⟨g', rfl⟩ : ∃ g', a = ⟨g', 0, none⟩ := by
            rcases h.1.2 with ⟨e1, _⟩ | ⟨g', _, _, e1, _⟩
            · cases e1
            · injection e1 with e1
              injection e1 with e1
              exact ⟨g', e1⟩
          injection e with e
          exact .inl (by rw [show g' = g from e.symm])
      · injection e with e
        exact .inr (by rw [World.size_alloc] at e; exact e)
theorem infoStr : (Tryz.prog.info? 9).map (fun i => (i.zero, i.size, i.bytes)) = some (some (.string ⟨#[]⟩), 1, 16) := by kernel_rfl
theorem sortS (T : TypeId) (W : World) (B g c : Nat) (xs : List ByteArray) (h : OwnV T W B (some ⟨g, 0, none⟩) c (xs.map Value.string)) (hx : xs.length ≤ 1000000000) :
    Calls Tryz.prog 48 #[.slice (some ⟨g, 0, none⟩) xs.length c] W fun e W' => e = .returned (.tuple #[]) ∧ ∃ l : List ByteArray, l.Perm xs ∧ (∀ j (hj : j < l.length), W'.cell? ⟨g, 0 + j, none⟩ = some (.string l[j])) ∧
      (W'.os = W.os ∧ W'.tape = W.tape ∧ W'.output = W.output ∧ W.heap.size ≤ W'.heap.size ∧ ∀ k, k < W.heap.size → k ≠ g → W'.heap[k]? = W.heap[k]?) := by
  obtain ⟨_, hlt, _, cur, hcur⟩ := h.block g 0 rfl
  have hfz : ∀ a : Addr, a.block = g → W.frozen? a = false := fun a ha => by
    simp [World.frozen?, ha, hcur]
  obtain ⟨ss, hss⟩ : ∃ ss, xs.map (fun b => b.data.toList) = ss := ⟨_, rfl⟩
  have hlen : ss.length = xs.length := by rw [← hss, List.length_map]
  have hback : ∀ b : ByteArray, (⟨b.data.toList.toArray⟩ : ByteArray) = b := fun b => by cases b; rfl
  have hH : Go.Sort.Holds Go.Proofs.encStr W g 0 ss.toArray := fun j hj => by
    have hj' : j < xs.length := by rw [← hlen]; simpa using hj
    refine ⟨?_, hfz _ rfl⟩
    rw [Nat.zero_add, h.cell (j := j) (v := .string xs[j]) (by simp [hj'])]
    have : ss.toArray[j]! = xs[j].data.toList := by
      subst hss
      simp [hj']
    rw [this]
  have C := Tryz.sortStrings g 0 c ss W hH hlt (by omega)
  rw [hlen] at C
  refine C.mono ?_
  rintro e W' ⟨rfl, n, os, rfl⟩
  obtain ⟨ms, hms⟩ : ∃ ms, (ss.mergeSort fun x y => decide (x ≤ y)) = ms := ⟨_, rfl⟩
  have hperm : ms.Perm ss := by rw [← hms]; exact List.mergeSort_perm _ _
  rw [hms]
  refine ⟨rfl, ms.map (fun b => (⟨b.toArray⟩ : ByteArray)), ?_, fun j hj => ?_, ?_⟩
  · have := hperm.map (fun b => (⟨b.toArray⟩ : ByteArray))
    rw [← hss, List.map_map] at this
    have e : xs.map ((fun b => (⟨b.toArray⟩ : ByteArray)) ∘ fun b => b.data.toList) = xs := by
      clear hss hlen hH C hperm this h hx
      induction xs with
      | nil => rfl
      | cons a r ih => rw [List.map_cons, ih]; rfl
    rwa [e] at this
  · have hj2 : j < ms.length := by simpa using hj
    have hsz : ms.length = ss.length := hperm.length_eq
    have hH2 : Go.Sort.Holds Go.Proofs.encStr (Go.Sort.ahead W n) g 0 ss.toArray := hH
    have hc := Go.Sort.holds_putRow Go.Proofs.encStr (Go.Sort.ahead W n) g 0 ss.toArray ms.toArray hH2 (by simp [hsz]) j (by simpa using hj2)
    have hc1 := hc.1
    have hlt2 : g < (Go.Sort.putRow Go.Proofs.encStr (Go.Sort.ahead W n) g 0 ms.toArray).heap.size := by simpa using hlt
    have := (World.cell?_of_block (w := Go.Sort.putRow Go.Proofs.encStr (Go.Sort.ahead W n) g 0 ms.toArray) (a := ⟨g, 0 + j, none⟩) (Go.Sort.heap_grow_old _ os hlt2)).trans hc1
    rw [this]
    have e : ms.toArray[j]! = ms[j] := by simp [hj2]
    rw [e, List.getElem_map]
  · refine ⟨rfl, rfl, rfl, by simp, fun k hk hne => ?_⟩
    rw [Go.Sort.heap_grow_old _ os (by simpa using hk)]
    have hne' : g ≠ k := fun e => hne e.symm
    show ((Go.Sort.ahead W n).heap.modify g _)[k]? = _
    rw [Array.getElem?_modify, if_neg hne']
    rfl
end Go.Proofs.YtfmlmdfehaajbaaGreatDoor
