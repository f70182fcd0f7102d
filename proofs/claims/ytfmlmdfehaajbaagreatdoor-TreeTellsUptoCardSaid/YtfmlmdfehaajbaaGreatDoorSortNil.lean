/- Proved here: slices.Sort of no strings at all does nothing. -/
import Derived.Test.YtfmlmdfehaajbaaGreatDoorSize
import Derived.Maps.OwnSet
import Derived.Maps.Own
import Derived.Maps.OwnOps
import Derived.Maps.Views
import Derived.Maps.Range
import Derived.Maps.Keyed
import Derived.Test.YtfmlmdfehaajbaaGreatDoorRowsV
import Derived.Test.YtfmlmdfehaajbaaGreatDoorShelfR
import Derived.Sort.EncStr
import Derived.BigGuardPart
namespace Go.Proofs.YtfmlmdfehaajbaaGreatDoor
open Go.RowKit Go.ChangeMaps

def unitR : Value → Option (DataW Unit × List MemPlace)
  | .agg cs => if cs.size = 0 then some (.nil, []) else none
  | _ => none
theorem unitR_inv {v : Value} {y : DataW Unit × List MemPlace} (h : unitR v = some y) : v = .agg #[] := by
  cases v with
  | agg cs =>
    unfold unitR at h
    dsimp only at h
    split at h
    · rename_i h0
      rw [Array.eq_empty_of_size_eq_zero h0]
    · cases h
  | _ => cases h
abbrev KSt : Maps.Keyed Tryz.prog 9 := Maps.string_keyed Tryz.underlying9
def litS (s : ByteArray) : Lit := .string s.data.toList
theorem litS_inj {a b : ByteArray} (h : litS a = litS b) : a = b := by
  unfold litS at h
  injection h with h
  apply ByteArray.ext
  exact Array.toList_inj.1 h
theorem keyOfS (k : ByteArray) (h : k.size ≤ maxLen) : keyOf Tryz.prog 9 (.string k) = some (litS k) := by
  simp [keyOf, mapKey, Tryz.underlying9, h, litS]
theorem keyOfS_inv {v : Value} {kl : Lit} (h : keyOf Tryz.prog 9 v = some kl) : ∃ s, v = .string s ∧ kl = litS s := by
  cases v with
  | string s =>
    refine ⟨s, rfl, ?_⟩
    simp [keyOf, mapKey, Tryz.underlying9] at h
    exact h.2.symm
  | _ => simp [keyOf, mapKey, Tryz.underlying9] at h
/-- The map in block b, written at most n times, holds just these strings. -/
def SetL (W : World) (b n : Nat) (L : List ByteArray) : Prop := ∃ D, W.ownsMap Tryz.prog 9 unitR b n D ∧ Maps.IsMap D ∧ ∀ kl, Maps.has D kl = true ↔ ∃ s ∈ L, kl = litS s
theorem SetL.made (W : World) : SetL (W.alloc (.map #[] 0)) W.heap.size 0 [] :=
  ⟨.map [], World.ownsMap_made W _ _ unitR, Maps.isMap_empty, fun kl => ⟨(fun h => (by simp [Maps.has_eq] at h)), fun ⟨s, hs, _⟩ => (by cases hs)⟩⟩
theorem SetL.lt {W : World} {b n : Nat} {L : List ByteArray} (h : SetL W b n L) : b < W.heap.size := by
  obtain ⟨D, h1, _⟩ := h
  exact h1.lt
theorem SetL.keep {W W' : World} {b n : Nat} {L : List ByteArray} (h : SetL W b n L) (hb : W'.heap[b]? = W.heap[b]?) : SetL W' b n L := by
  obtain ⟨D, ⟨es, clock, h1, h2⟩, h3⟩ := h
  exact ⟨D, ⟨es, clock, hb.trans h1, h2⟩, h3⟩
theorem SetL.block {W : World} {b n : Nat} {L : List ByteArray} (h : SetL W b n L) : ∃ o, W.heap[b]? = some o ∧ o.isCells = false := by
  obtain ⟨D, ⟨es, clock, h1, h2⟩, h3⟩ := h
  exact ⟨_, h1, rfl⟩
/-- What a step at one block leaves. -/
structure AtOne (b : Nat) (W W' : World) : Prop where
  os : W'.os = W.os
  tape : W'.tape = W.tape
  output : W'.output = W.output
  size : W'.heap.size = W.heap.size
  other : ∀ k, k ≠ b → W'.heap[k]? = W.heap[k]?
theorem SetL.put {W : World} {b n : Nat} {L : List ByteArray} (h : SetL W b n L) (hn : n < maxLen) (s : ByteArray) (hs : s.size ≤ maxLen) :
    ∃ W', (Instr.mapUpdate 64 (.map (some b)) (.string s) (.agg #[])).run Tryz.prog W = .ok () W' ∧ SetL W' b (n + 1) (L ++ [s]) ∧ AtOne b W W' := by
  obtain ⟨D, h1, h2, h3⟩ := h
  obtain ⟨W', hrun, h4, es, clock, es', clock', hb, rfl⟩ := h1.store KSt Tryz.underlying64 hn (keyOfS s hs) (val := .agg #[]) (d := .nil) (ps := []) rfl
  refine ⟨_, hrun, ⟨_, h4, h2.put _ _, fun kl => ?_⟩, ⟨rfl, rfl, rfl, by simp [setBlock], fun j hj => heap_setBlock_other hb _ hj⟩⟩
  by_cases e : kl = litS s
  · subst e
    rw [Maps.has_put_same h2 (KSt.key (keyOfS s hs))]
    exact ⟨fun _ => ⟨s, by simp, rfl⟩, fun _ => rfl⟩
  · rw [Maps.has_put_other e, h3]
    constructor
    · rintro ⟨x, hx, ex⟩
      exact ⟨x, List.mem_append_left _ hx, ex⟩
    · rintro ⟨x, hx, ex⟩
      rcases List.mem_append.1 hx with hx | hx
      · exact ⟨x, hx, ex⟩
      · rw [List.mem_singleton.1 hx] at ex
        exact absurd ex e
theorem SetL.del {W : World} {b n : Nat} {L : List ByteArray} (h : SetL W b n L) (s : ByteArray) (hs : s.size ≤ maxLen) :
    ∃ W', (∀ ty, (Builtin.delete_ #[64, 9] ty #[.map (some b), .string s]).run Tryz.prog W = .ok (.tuple #[]) W') ∧ SetL W' b n (L.filter (fun x => decide (¬ x = s))) ∧ AtOne b W W' := by
  obtain ⟨D, h1, h2, h3⟩ := h
  obtain ⟨W', hrun, h4, es, clock, es', clock', hb, rfl⟩ := h1.drop KSt Tryz.underlying64 (keyOfS s hs) 0
  refine ⟨_, fun ty => by rw [← hrun]; rfl, ⟨_, h4, h2.del _, fun kl => ?_⟩, ⟨rfl, rfl, rfl, by simp [setBlock], fun j hj => heap_setBlock_other hb _ hj⟩⟩
  by_cases e : kl = litS s
  · subst e
    rw [Maps.has_del_same]
    refine ⟨(fun h => (by cases h)), fun ⟨x, hx, ex⟩ => ?_⟩
    have := litS_inj ex
    subst this
    exact absurd rfl (of_decide_eq_true (List.mem_filter.1 hx).2)
  · rw [Maps.has_del_other e, h3]
    constructor
    · rintro ⟨x, hx, ex⟩
      exact ⟨x, List.mem_filter.2 ⟨hx, decide_eq_true (fun e2 => e (by rw [ex, e2]))⟩, ex⟩
    · rintro ⟨x, hx, ex⟩
      exact ⟨x, (List.mem_filter.1 hx).1, ex⟩
/-- A range over the map; acc: what has come. -/
def SetR (W : World) (b r n : Nat) (L acc : List ByteArray) (cnt : Nat) : Prop := ∃ D left, W.ranges Tryz.prog 9 unitR b r n D left cnt ∧ (∀ s, left (litS s) = true → s ∈ L) ∧ acc.Nodup ∧ (∀ s, s ∈ acc ↔ s ∈ L ∧ left (litS s) = false)
theorem SetL.range {W : World} {b n : Nat} {L : List ByteArray} (h : SetL W b n L) :
    ∃ W' cnt, (Instr.range 64 (.map (some b))).run Tryz.prog W = .ok (.pointer (some ⟨W.heap.size, 0, none⟩)) W' ∧ SetR W' b W.heap.size n L [] cnt ∧ W.grownBy W' none ∧ W'.heap.size = W.heap.size + 1 := by
  obtain ⟨D, h1, h2, h3⟩ := h
  obtain ⟨W', hrun, hrg, hg, hsz⟩ := h1.range KSt Tryz.underlying64
  refine ⟨W', _, hrun, ⟨D, _, hrg, fun s hs => ?_, List.nodup_nil, fun s => ⟨(fun h => (by cases h)), fun ⟨hs, hl⟩ => ?_⟩⟩, hg, hsz⟩
  · obtain ⟨x, hx, e⟩ := (h3 _).1 hs
    rwa [litS_inj e]
  · rw [(h3 _).2 ⟨s, hs, rfl⟩] at hl
    cases hl
theorem SetR.next {W : World} {b r n : Nat} {L acc : List ByteArray} {cnt : Nat} (h : SetR W b r n L acc cnt) (ty : TypeId) :
    ((∀ s, s ∈ acc ↔ s ∈ L) ∧ acc.Nodup ∧ (Instr.next (.pointer (some ⟨r, 0, none⟩)) false ty).run Tryz.prog W = .ok (.tuple #[.bool false]) W) ∨
    ∃ s W' cnt', s ∈ L ∧ (Instr.next (.pointer (some ⟨r, 0, none⟩)) false ty).run Tryz.prog W = .ok (.tuple #[.bool true, .string s, .agg #[]]) W' ∧ SetR W' b r n L (acc ++ [s]) cnt' ∧ cnt' < cnt ∧ W.grownBy W' (some r) ∧ W'.heap.size = W.heap.size ∧
      (Instr.entry (.pointer (some ⟨r, 0, none⟩))).run Tryz.prog W' = .ok (.tuple #[.string s, .agg #[]]) W' := by
  obtain ⟨D, left, hrg, hl, hnd, hacc⟩ := h
  rcases hrg.next KSt ty with ⟨h0, h1, hrun⟩ | ⟨key, v, kl, y, W', cnt', hkey, hlk, hv, hat, hrun, hrg', hlt, hgr, hsz, hen⟩
  · exact .inl ⟨fun s => by rw [hacc, h1]; simp, hnd, hrun⟩
  · obtain ⟨s, rfl, rfl⟩ := keyOfS_inv hkey
    have := unitR_inv hv
    subst this
    refine .inr ⟨s, W', cnt', hl s hlk, hrun, ⟨D, _, hrg', fun x hx => hl x (by simp at hx; exact hx.1), ?_, fun x => ?_⟩, hlt, hgr, hsz, hen⟩
    · refine List.nodup_append.2 ⟨hnd, by simp, fun a ha c hc e => ?_⟩
      rw [List.mem_singleton.1 hc] at e
      subst e
      have := ((hacc a).1 ha).2
      rw [hlk] at this
      cases this
    · have hsk : (litS x).sameKey (litS s) = true ↔ x = s := (WideAt.sameKey_iff (KSt.key hkey)).trans ⟨fun h => litS_inj h, fun h => by rw [h]⟩
      rw [List.mem_append, hacc, List.mem_singleton]
      by_cases e : x = s
      · subst e
        simp [hsk.2 rfl, hl _ hlk]
      · have : (litS x).sameKey (litS s) = false := by
          cases h : (litS x).sameKey (litS s)
          · rfl
          · exact absurd (hsk.1 h) e
        simp [this, e]
end Go.Proofs.YtfmlmdfehaajbaaGreatDoor
namespace Go.Proofs.YtfmlmdfehaajbaaGreatDoor
open Go.RowKit

theorem appendV16 {T S : TypeId} {i0 : TypeInfo} {z : Value} (hS : Tryz.prog.underlying S = some (.slice T)) (hi : Tryz.prog.info? T = some i0) (hz0 : i0.zero = some z) (hz1 : i0.size = 1) (hz2 : i0.bytes = 16) (hzc : z.cells.size = 1)
    {w : World} {B : Nat} {q : Option Addr} {c : Nat} {xs : List Value} {x : Value} (h : OwnV T w B q c xs) (hx : x.oneCell' = true) (hB : B ≤ w.heap.size) (hsz : (xs.length + 1) * 16 ≤ 140737488355328) :
    ∃ g cap w', (∀ ty, (Builtin.append_ #[S, S] ty #[.slice q xs.length c, .slice (some ⟨w.heap.size, 0, none⟩) 1 1]).run Tryz.prog (w.alloc (.cells #[x] T)) = .ok (.slice (some ⟨g, 0, none⟩) (xs.length + 1) cap) w') ∧
      OwnV T w' B (some ⟨g, 0, none⟩) cap (xs ++ [x]) ∧ w.grownBy w' (Value.slice q xs.length c).ownBlock ∧ (q = some ⟨g, 0, none⟩ ∨ g = w.heap.size + 1) := by
  have hown := World.ownsRow.alloc h.1 (.cells #[x] T)
  have hs : (w.alloc (.cells #[x] T)).heap.size = w.heap.size + 1 := by simp
  have hcells : ∀ j u, [x][j]? = some u → (w.alloc (.cells #[x] T)).cell? ((⟨w.heap.size, 0, none⟩ : Addr).add j) = some u := by
    intro j u hu
    have hj : j = 0 := by
      have := (List.getElem?_eq_some_iff.1 hu).1
      simp at this
      omega
    subst hj
    have e : u = x := by simpa using hu.symm
    subst e
    have ha : (⟨w.heap.size, 0, none⟩ : Addr).add 0 = ⟨w.heap.size, 0, none⟩ := rfl
    rw [ha, cell_of_row _ _ 0 #[u] T (0, 0) (heap_alloc_new w _)]
    rfl
  obtain ⟨v', w', hrun, hown', hgrow, hne, hblk⟩ := run_append_own_at (P := Tryz.prog) (w := w.alloc (.cells #[x] T)) B S S T i0 z 1 16 hS hi hz0 hz1 hz2 hzc (by decide) _ xs.length xs hown ⟨w.heap.size, 0, none⟩ 1 1 [x] rfl hcells (by simp [hx]) (by unfold maxLen; omega) (by omega) (by omega)
  have hv : v' ≠ .slice none 0 0 := fun e => by
    have := (hne.1 e).2
    cases this
  have hgr : w.grownBy w' (Value.slice q xs.length c).ownBlock := ⟨hgrow.os, hgrow.tape, hgrow.output, by have := hgrow.size; omega, fun k hk hr => (hgrow.block k (by omega) hr).trans (((Below.refl _ w).alloc (Nat.le_refl _) _).block k hk)⟩
  rcases hown'.2 with ⟨e, _⟩ | ⟨g, cap, cur, rfl, hb, hh, hc, h1, h2⟩
  · exact absurd e hv
  · refine ⟨g, cap, w', fun ty => by rw [← hrun]; rfl, ⟨by rw [List.length_append]; exact hown', by rw [List.length_append]; exact hc, (fun e => by cases e), fun u hu => ?_, h1⟩, hgr, ?_⟩
    · rcases List.mem_append.1 hu with hu | hu
      · exact h.2.2.2.1 u hu
      · rw [List.mem_singleton.1 hu]; exact hx
    · rcases hblk with e | e
      · cases q with
        | none => cases e
        | some a =>
          obtain ⟨g', rfl⟩ : ∃ g', a = ⟨g', 0, none⟩ := by
            rcases h.1.2 with ⟨e1, _⟩ | ⟨g', _, _, e1, _⟩
            · cases e1
            · injection e1 with e1
              injection e1 with e1
              exact ⟨g', e1⟩
          injection e with e
          exact .inl (by rw [show g' = g from e.symm])
      · injection e with e
        exact .inr (by rw [World.size_alloc] at e; exact e)
theorem infoStr : (Tryz.prog.info? 9).map (fun i => (i.zero, i.size, i.bytes)) = some (some (.string ⟨#[]⟩), 1, 16) := by kernel_rfl
theorem sortS (T : TypeId) (W : World) (B g c : Nat) (xs : List ByteArray) (h : OwnV T W B (some ⟨g, 0, none⟩) c (xs.map Value.string)) (hx : xs.length ≤ 1000000000) :
    Calls Tryz.prog 48 #[.slice (some ⟨g, 0, none⟩) xs.length c] W fun e W' => e = .returned (.tuple #[]) ∧ ∃ l : List ByteArray, l.Perm xs ∧ (∀ j (hj : j < l.length), W'.cell? ⟨g, 0 + j, none⟩ = some (.string l[j])) ∧
      (W'.os = W.os ∧ W'.tape = W.tape ∧ W'.output = W.output ∧ W.heap.size ≤ W'.heap.size ∧ ∀ k, k < W.heap.size → k ≠ g → W'.heap[k]? = W.heap[k]?) := by
  obtain ⟨_, hlt, _, cur, hcur⟩ := h.block g 0 rfl
  have hfz : ∀ a : Addr, a.block = g → W.frozen? a = false := fun a ha => by
    simp [World.frozen?, ha, hcur]
  obtain ⟨ss, hss⟩ : ∃ ss, xs.map (fun b => b.data.toList) = ss := ⟨_, rfl⟩
  have hlen : ss.length = xs.length := by rw [← hss, List.length_map]
  have hback : ∀ b : ByteArray, (⟨b.data.toList.toArray⟩ : ByteArray) = b := fun b => by cases b; rfl
  have hH : Go.Sort.Holds Go.Proofs.encStr W g 0 ss.toArray := fun j hj => by
    have hj' : j < xs.length := by rw [← hlen]; simpa using hj
    refine ⟨?_, hfz _ rfl⟩
    rw [Nat.zero_add, h.cell (j := j) (v := .string xs[j]) (by simp [hj'])]
    have : ss.toArray[j]! = xs[j].data.toList := by
      subst hss
      simp [hj']
    rw [this]
  have C := Tryz.sortStrings g 0 c ss W hH hlt (by omega)
  rw [hlen] at C
  refine C.mono ?_
  rintro e W' ⟨rfl, n, os, rfl⟩
  obtain ⟨ms, hms⟩ : ∃ ms, (ss.mergeSort fun x y => decide (x ≤ y)) = ms := ⟨_, rfl⟩
  have hperm : ms.Perm ss := by rw [← hms]; exact List.mergeSort_perm _ _
  rw [hms]
  refine ⟨rfl, ms.map (fun b => (⟨b.toArray⟩ : ByteArray)), ?_, fun j hj => ?_, ?_⟩
  · have := hperm.map (fun b => (⟨b.toArray⟩ : ByteArray))
    rw [← hss, List.map_map] at this
    have e : xs.map ((fun b => (⟨b.toArray⟩ : ByteArray)) ∘ fun b => b.data.toList) = xs := by
      clear hss hlen hH C hperm this h hx
      induction xs with
      | nil => rfl
      | cons a r ih => rw [List.map_cons, ih]; rfl
    rwa [e] at this
  · have hj2 : j < ms.length := by simpa using hj
    have hsz : ms.length = ss.length := hperm.length_eq
    have hH2 : Go.Sort.Holds Go.Proofs.encStr (Go.Sort.ahead W n) g 0 ss.toArray := hH
    have hc := Go.Sort.holds_putRow Go.Proofs.encStr (Go.Sort.ahead W n) g 0 ss.toArray ms.toArray hH2 (by simp [hsz]) j (by simpa using hj2)
    have hc1 := hc.1
    have hlt2 : g < (Go.Sort.putRow Go.Proofs.encStr (Go.Sort.ahead W n) g 0 ms.toArray).heap.size := by simpa using hlt
    have := (World.cell?_of_block (w := Go.Sort.putRow Go.Proofs.encStr (Go.Sort.ahead W n) g 0 ms.toArray) (a := ⟨g, 0 + j, none⟩) (Go.Sort.heap_grow_old _ os hlt2)).trans hc1
    rw [this]
    have e : ms.toArray[j]! = ms[j] := by simp [hj2]
    rw [e, List.getElem_map]
  · refine ⟨rfl, rfl, rfl, by simp, fun k hk hne => ?_⟩
    rw [Go.Sort.heap_grow_old _ os (by simpa using hk)]
    have hne' : g ≠ k := fun e => hne e.symm
    show ((Go.Sort.ahead W n).heap.modify g _)[k]? = _
    rw [Array.getElem?_modify, if_neg hne']
    rfl
end Go.Proofs.YtfmlmdfehaajbaaGreatDoor
namespace Go.Proofs.YtfmlmdfehaajbaaGreatDoor
open Go.RowKit Go.Shelf

set_option maxRecDepth 100000 in
theorem len64_0 (w : World) : Calls Tryz.prog 112 #[.int .u64 0] w fun e w' => e = .returned (.int .i64 0) ∧ w = w' := by
  go_enter Tryz.func112, Tryz.ntmps112
  go_wp2_with (fail)
  go_ret
  refine ⟨?_, rfl⟩
  show Ending.returned (.int .i64 (wrap64 (wrap64 (Lib.len8 0)))) = _
  rw [show wrap64 (wrap64 (Lib.len8 0)) = 0 by kernel_rfl]
theorem len_0 (w : World) : Calls Tryz.prog 80 #[.int .u64 0] w fun e w' => e = .returned (.int .i64 0) ∧ w = w' := by
  go_enter Tryz.func80, Tryz.ntmps80
  go_wp2_with (go_at_call 112; refine (len64_0 _).mono ?_; rintro e w' ⟨rfl, rfl⟩)
  go_ret
  exact ⟨rfl, rfl⟩
theorem insertion_0 (w : World) (c : Nat) : Calls Tryz.prog 102 #[.slice none 0 c, .int .i64 0, .int .i64 0] w fun e w' => e = .returned (.tuple #[]) ∧ w = w' := by
  go_enter Tryz.func102, Tryz.ntmps102
  go_wp2_with (fail)
  go_loopw [6] (fun v wr => v = .int .i64 1 ∧ w = wr) (fun _ _ => 0)
  case atStart => exact ⟨rfl, rfl⟩
  case round =>
    obtain ⟨rfl, rfl⟩ := hrel
    go_wp2_with (fail)
    refine bodyPost_end (results_none rfl _ _ _) rfl ?_
    exact ⟨rfl, rfl⟩
theorem pdq_0 (w : World) (c : Nat) : Calls Tryz.prog 79 #[.slice none 0 c, .int .i64 0, .int .i64 0, .int .i64 0] w fun e w' => e = .returned (.tuple #[]) ∧ w = w' := by
  go_enter Tryz.func79, Tryz.ntmps79
  go_wp2_with (fail)
  go_loopw [1, 2] (fun v u wr => v = .int .i64 0 ∧ u = .int .i64 0 ∧ w = wr) (fun _ _ _ => 0)
  case atStart => exact ⟨rfl, rfl, rfl⟩
  case round =>
    obtain ⟨rfl, rfl, rfl⟩ := hrel
    go_wp2_with (go_at_call 102; refine (insertion_0 _ _).mono ?_; rintro e w' ⟨rfl, rfl⟩)
    refine bodyPost_ret (results_none rfl _ _ _) rfl ?_
    exact ⟨rfl, rfl⟩
theorem sort_0 (w : World) (c : Nat) : Calls Tryz.prog 48 #[.slice none 0 c] w fun e w' => e = .returned (.tuple #[]) ∧ w = w' := by
  go_enter Tryz.func48, Tryz.ntmps48
  go_wp2_with (first | (go_at_call 80; refine (len_0 _).mono ?_; rintro e w' ⟨rfl, rfl⟩) | (go_at_call 79; refine (pdq_0 _ _).mono ?_; rintro e w' ⟨rfl, rfl⟩))
  refine bodyPost_end (results_none rfl _ _ _) rfl ?_
  exact ⟨rfl, rfl⟩
end Go.Proofs.YtfmlmdfehaajbaaGreatDoor
