/- Proved here: a map of the call's own that stands for a set of strings: made, put, deleted from, ranged over. -/
import Derived.Test.YtfmlmdfehaajbaaGreatDoorSize
import Derived.Maps.OwnSet
import Derived.Maps.Own
import Derived.Maps.OwnOps
import Derived.Maps.Views
import Derived.Maps.Range
import Derived.Maps.Keyed
namespace Go.Proofs.YtfmlmdfehaajbaaGreatDoor
open Go.RowKit Go.ChangeMaps

def unitR : Value → Option (DataW Unit × List MemPlace)
  | .agg cs => if cs.size = 0 then some (.nil, []) else none
  | _ => none
theorem unitR_inv {v : Value} {y : DataW Unit × List MemPlace} (h : unitR v = some y) : v = .agg #[] := by
  cases v with
  | agg cs =>
    unfold unitR at h
    dsimp only at h
    split at h
    · rename_i h0
      rw [Array.eq_empty_of_size_eq_zero h0]
    · cases h
  | _ => cases h
abbrev KSt : Maps.Keyed Tryz.prog 9 := Maps.string_keyed Tryz.underlying9
def litS (s : ByteArray) : Lit := .string s.data.toList
theorem litS_inj {a b : ByteArray} (h : litS a = litS b) : a = b := by
  unfold litS at h
  injection h with h
  apply ByteArray.ext
  exact Array.toList_inj.1 h
theorem keyOfS (k : ByteArray) (h : k.size ≤ maxLen) : keyOf Tryz.prog 9 (.string k) = some (litS k) := by
  simp [keyOf, mapKey, Tryz.underlying9, h, litS]
theorem keyOfS_inv {v : Value} {kl : Lit} (h : keyOf Tryz.prog 9 v = some kl) : ∃ s, v = .string s ∧ kl = litS s := by
  cases v with
  | string s =>
    refine ⟨s, rfl, ?_⟩
    simp [keyOf, mapKey, Tryz.underlying9] at h
    exact h.2.symm
  | _ => simp [keyOf, mapKey, Tryz.underlying9] at h
/-- The map in block b, written at most n times, holds just these strings. -/
def SetL (W : World) (b n : Nat) (L : List ByteArray) : Prop := ∃ D, W.ownsMap Tryz.prog 9 unitR b n D ∧ Maps.IsMap D ∧ ∀ kl, Maps.has D kl = true ↔ ∃ s ∈ L, kl = litS s
theorem SetL.made (W : World) : SetL (W.alloc (.map #[] 0)) W.heap.size 0 [] :=
  ⟨.map [], World.ownsMap_made W _ _ unitR, Maps.isMap_empty, fun kl => ⟨(fun h => (by simp [Maps.has_eq] at h)), fun ⟨s, hs, _⟩ => (by cases hs)⟩⟩
theorem SetL.lt {W : World} {b n : Nat} {L : List ByteArray} (h : SetL W b n L) : b < W.heap.size := by
  obtain ⟨D, h1, _⟩ := h
  exact h1.lt
theorem SetL.keep {W W' : World} {b n : Nat} {L : List ByteArray} (h : SetL W b n L) (hb : W'.heap[b]? = W.heap[b]?) : SetL W' b n L := by
  obtain ⟨D, ⟨es, clock, h1, h2⟩, h3⟩ := h
  exact ⟨D, ⟨es, clock, hb.trans h1, h2⟩, h3⟩
theorem SetL.block {W : World} {b n : Nat} {L : List ByteArray} (h : SetL W b n L) : ∃ o, W.heap[b]? = some o ∧ o.isCells = false := by
  obtain ⟨D, ⟨es, clock, h1, h2⟩, h3⟩ := h
  exact ⟨_, h1, rfl⟩
/-- What a step at one block leaves. -/
structure AtOne (b : Nat) (W W' : World) : Prop where
  os : W'.os = W.os
  tape : W'.tape = W.tape
  output : W'.output = W.output
  size : W'.heap.size = W.heap.size
  other : ∀ k, k ≠ b → W'.heap[k]? = W.heap[k]?
theorem SetL.put {W : World} {b n : Nat} {L : List ByteArray} (h : SetL W b n L) (hn : n < maxLen) (s : ByteArray) (hs : s.size ≤ maxLen) :
    ∃ W', (Instr.mapUpdate 64 (.map (some b)) (.string s) (.agg #[])).run Tryz.prog W = .ok () W' ∧ SetL W' b (n + 1) (L ++ [s]) ∧ AtOne b W W' := by
  obtain ⟨D, h1, h2, h3⟩ := h
  obtain ⟨W', hrun, h4, es, clock, es', clock', hb, rfl⟩ := h1.store KSt Tryz.underlying64 hn (keyOfS s hs) (val := .agg #[]) (d := .nil) (ps := []) rfl
  refine ⟨_, hrun, ⟨_, h4, h2.put _ _, fun kl => ?_⟩, ⟨rfl, rfl, rfl, by simp [setBlock], fun j hj => heap_setBlock_other hb _ hj⟩⟩
  by_cases e : kl = litS s
  · subst e
    rw [Maps.has_put_same h2 (KSt.key (keyOfS s hs))]
    exact ⟨fun _ => ⟨s, by simp, rfl⟩, fun _ => rfl⟩
  · rw [Maps.has_put_other e, h3]
    constructor
    · rintro ⟨x, hx, ex⟩
      exact ⟨x, List.mem_append_left _ hx, ex⟩
    · rintro ⟨x, hx, ex⟩
      rcases List.mem_append.1 hx with hx | hx
      · exact ⟨x, hx, ex⟩
      · rw [List.mem_singleton.1 hx] at ex
        exact absurd ex e
theorem SetL.del {W : World} {b n : Nat} {L : List ByteArray} (h : SetL W b n L) (s : ByteArray) (hs : s.size ≤ maxLen) :
    ∃ W', (∀ ty, (Builtin.delete_ #[64, 9] ty #[.map (some b), .string s]).run Tryz.prog W = .ok (.tuple #[]) W') ∧ SetL W' b n (L.filter (fun x => decide (¬ x = s))) ∧ AtOne b W W' := by
  obtain ⟨D, h1, h2, h3⟩ := h
  obtain ⟨W', hrun, h4, es, clock, es', clock', hb, rfl⟩ := h1.drop KSt Tryz.underlying64 (keyOfS s hs) 0
  refine ⟨_, fun ty => by rw [← hrun]; rfl, ⟨_, h4, h2.del _, fun kl => ?_⟩, ⟨rfl, rfl, rfl, by simp [setBlock], fun j hj => heap_setBlock_other hb _ hj⟩⟩
  by_cases e : kl = litS s
  · subst e
    rw [Maps.has_del_same]
    refine ⟨(fun h => (by cases h)), fun ⟨x, hx, ex⟩ => ?_⟩
    have := litS_inj ex
    subst this
    exact absurd rfl (of_decide_eq_true (List.mem_filter.1 hx).2)
  · rw [Maps.has_del_other e, h3]
    constructor
    · rintro ⟨x, hx, ex⟩
      exact ⟨x, List.mem_filter.2 ⟨hx, decide_eq_true (fun e2 => e (by rw [ex, e2]))⟩, ex⟩
    · rintro ⟨x, hx, ex⟩
      exact ⟨x, (List.mem_filter.1 hx).1, ex⟩
/-- A range over the map; acc: what has come. -/
def SetR (W : World) (b r n : Nat) (L acc : List ByteArray) (cnt : Nat) : Prop := ∃ D left, W.ranges Tryz.prog 9 unitR b r n D left cnt ∧ (∀ s, left (litS s) = true → s ∈ L) ∧ acc.Nodup ∧ (∀ s, s ∈ acc ↔ s ∈ L ∧ left (litS s) = false)
theorem SetL.range {W : World} {b n : Nat} {L : List ByteArray} (h : SetL W b n L) :
    ∃ W' cnt, (Instr.range 64 (.map (some b))).run Tryz.prog W = .ok (.pointer (some ⟨W.heap.size, 0, none⟩)) W' ∧ SetR W' b W.heap.size n L [] cnt ∧ W.grownBy W' none ∧ W'.heap.size = W.heap.size + 1 := by
  obtain ⟨D, h1, h2, h3⟩ := h
  obtain ⟨W', hrun, hrg, hg, hsz⟩ := h1.range KSt Tryz.underlying64
  refine ⟨W', _, hrun, ⟨D, _, hrg, fun s hs => ?_, List.nodup_nil, fun s => ⟨(fun h => (by cases h)), fun ⟨hs, hl⟩ => ?_⟩⟩, hg, hsz⟩
  · obtain ⟨x, hx, e⟩ := (h3 _).1 hs
    rwa [litS_inj e]
  · rw [(h3 _).2 ⟨s, hs, rfl⟩] at hl
    cases hl
theorem SetR.next {W : World} {b r n : Nat} {L acc : List ByteArray} {cnt : Nat} (h : SetR W b r n L acc cnt) (ty : TypeId) :
    ((∀ s, s ∈ acc ↔ s ∈ L) ∧ acc.Nodup ∧ (Instr.next (.pointer (some ⟨r, 0, none⟩)) false ty).run Tryz.prog W = .ok (.tuple #[.bool false]) W) ∨
    ∃ s W' cnt', s ∈ L ∧ (Instr.next (.pointer (some ⟨r, 0, none⟩)) false ty).run Tryz.prog W = .ok (.tuple #[.bool true, .string s, .agg #[]]) W' ∧ SetR W' b r n L (acc ++ [s]) cnt' ∧ cnt' < cnt ∧ W.grownBy W' (some r) ∧ W'.heap.size = W.heap.size ∧
      (Instr.entry (.pointer (some ⟨r, 0, none⟩))).run Tryz.prog W' = .ok (.tuple #[.string s, .agg #[]]) W' := by
  obtain ⟨D, left, hrg, hl, hnd, hacc⟩ := h
  rcases hrg.next KSt ty with ⟨h0, h1, hrun⟩ | ⟨key, v, kl, y, W', cnt', hkey, hlk, hv, hat, hrun, hrg', hlt, hgr, hsz, hen⟩
  · exact .inl ⟨fun s => by rw [hacc, h1]; simp, hnd, hrun⟩
  · obtain ⟨s, rfl, rfl⟩ := keyOfS_inv hkey
    have := unitR_inv hv
    subst this
    refine .inr ⟨s, W', cnt', hl s hlk, hrun, ⟨D, _, hrg', fun x hx => hl x (by simp at hx; exact hx.1), ?_, fun x => ?_⟩, hlt, hgr, hsz, hen⟩
    · refine List.nodup_append.2 ⟨hnd, by simp, fun a ha c hc e => ?_⟩
      rw [List.mem_singleton.1 hc] at e
      subst e
      have := ((hacc a).1 ha).2
      rw [hlk] at this
      cases this
    · have hsk : (litS x).sameKey (litS s) = true ↔ x = s := (WideAt.sameKey_iff (KSt.key hkey)).trans ⟨fun h => litS_inj h, fun h => by rw [h]⟩
      rw [List.mem_append, hacc, List.mem_singleton]
      by_cases e : x = s
      · subst e
        simp [hsk.2 rfl, hl _ hlk]
      · have : (litS x).sameKey (litS s) = false := by
          cases h : (litS x).sameKey (litS s)
          · rfl
          · exact absurd (hsk.1 h) e
        simp [this, e]
end Go.Proofs.YtfmlmdfehaajbaaGreatDoor
