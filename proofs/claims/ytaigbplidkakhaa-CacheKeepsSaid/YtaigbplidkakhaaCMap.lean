/- Proved here: a map of pointers as the call has made it: what stands under a key. -/
import Derived.Test.YtaigbplidkakhaaCNodes
import Derived.Maps.OwnSet
import Derived.Maps.Own
import Derived.Maps.OwnOps
import Derived.Maps.Views
namespace Go.Proofs.Ytaigbplidkakhaa
open Go.RowKit Go.ChangeMaps

def ptrR : Value → Option (DataW Unit × List MemPlace)
  | .pointer none => some (.nil, [])
  | .pointer (some ⟨a, 0, none⟩) => some (.lit (.int .i64 (a : Int)), [])
  | _ => none
def slotD : Option Nat → DataW Unit
  | none => .nil
  | some a => .lit (.int .i64 (a : Int))
def slotV : Option Nat → Value
  | none => .pointer none
  | some a => PV a
theorem ptrR_inv {v : Value} {o : Option Nat} {ps : List MemPlace} (h : ptrR v = some (slotD o, ps)) : v = slotV o := by
  unfold ptrR at h
  split at h
  · cases o with
    | none => rfl
    | some a => simp [slotD] at h
  · rename_i a
    cases o with
    | none => simp [slotD] at h
    | some b =>
      simp [slotD] at h
      obtain ⟨h1, _⟩ := h
      have : a = b := by omega
      rw [this]; rfl
  · cases h
open Classical in
noncomputable def updO (f : Lit → Option Nat) (kl : Lit) (o : Option Nat) (x : Lit) : Option Nat := if x = kl then o else f x
/-- The map in block b says f. -/
def MapAt (P : Program) (k : TypeId) (W : World) (b n : Nat) (f : Lit → Option Nat) : Prop := ∃ D : DataW Unit, W.ownsMap P k ptrR b n D ∧ Maps.IsMap D ∧ ∀ kl, WideAt.IsKeyLit kl → D.atKey kl .nil = slotD (f kl)
theorem MapAt.made (P : Program) (k : TypeId) (W : World) : MapAt P k (W.alloc (.map #[] 0)) W.heap.size 0 (fun _ => none) :=
  ⟨.map [], World.ownsMap_made W P k ptrR, Maps.isMap_empty, fun kl _ => WideAt.atKey_none _ (fun _ hp => by cases hp)⟩
theorem MapAt.lt {P : Program} {k : TypeId} {W : World} {b n : Nat} {f : Lit → Option Nat} (h : MapAt P k W b n f) : b < W.heap.size := by
  obtain ⟨D, h1, _⟩ := h
  exact h1.lt
theorem MapAt.keep {P : Program} {k : TypeId} {W W' : World} {b n : Nat} {f : Lit → Option Nat} (h : MapAt P k W b n f) (hb : W'.heap[b]? = W.heap[b]?) : MapAt P k W' b n f := by
  obtain ⟨D, ⟨es, clock, h1, h2⟩, h3⟩ := h
  exact ⟨D, ⟨es, clock, hb.trans h1, h2⟩, h3⟩
theorem MapAt.look {P : Program} {k t e : TypeId} {W : World} {b n : Nat} {f : Lit → Option Nat} (h : MapAt P k W b n f) (K : Maps.Keyed P k) (ht : P.underlying t = some (.map k e)) (hz : (zeroValue e).run P W = .ok (.pointer none) W) {key : Value} {kl : Lit} (hkey : keyOf P k key = some kl) :
    (Instr.lookup t (.map (some b)) key false).run P W = .ok (slotV (f kl)) W := by
  obtain ⟨D, h1, _, h3⟩ := h
  obtain ⟨v, ps, hrun, hv⟩ := h1.lookup K ht hz (zd := .nil) (zp := []) rfl hkey
  rw [h3 kl (K.key hkey)] at hv
  rw [hrun, ptrR_inv hv]
theorem MapAt.put {P : Program} {k t e : TypeId} {W : World} {b n : Nat} {f : Lit → Option Nat} (h : MapAt P k W b n f) (K : Maps.Keyed P k) (ht : P.underlying t = some (.map k e)) (hn : n < maxLen) {key : Value} {kl : Lit} (hkey : keyOf P k key = some kl) (a : Nat) :
    ∃ W', (Instr.mapUpdate t (.map (some b)) key (PV a)).run P W = .ok () W' ∧ MapAt P k W' b (n + 1) (updO f kl (some a)) ∧ Tch (fun j => j = b) W W' ∧ W'.heap.size = W.heap.size := by
  obtain ⟨D, h1, h2, h3⟩ := h
  obtain ⟨W', hrun, h4, es, clock, es', clock', hb, rfl⟩ := h1.store K ht hn hkey (val := PV a) (d := slotD (some a)) (ps := []) rfl
  refine ⟨_, hrun, ⟨_, h4, h2.put _ _, fun x hx => ?_⟩, ⟨rfl, rfl, rfl, by simp [setBlock], fun j _ hj => heap_setBlock_other hb _ (fun e => hj e)⟩, by simp [setBlock]⟩
  unfold updO
  by_cases e : x = kl
  · subst e
    rw [if_pos rfl, Maps.atKey_put_same h2 hx]
  · rw [if_neg e, Maps.atKey_put_other e, h3 x hx]
theorem MapAt.del {P : Program} {k t e : TypeId} {W : World} {b n : Nat} {f : Lit → Option Nat} (h : MapAt P k W b n f) (K : Maps.Keyed P k) (ht : P.underlying t = some (.map k e)) {key : Value} {kl : Lit} (hkey : keyOf P k key = some kl) :
    ∃ W', (∀ ty, (Builtin.delete_ #[t, k] ty #[.map (some b), key]).run P W = .ok (.tuple #[]) W') ∧ MapAt P k W' b n (updO f kl none) ∧ Tch (fun j => j = b) W W' ∧ W'.heap.size = W.heap.size := by
  obtain ⟨D, h1, h2, h3⟩ := h
  obtain ⟨W', hrun, h4, es, clock, es', clock', hb, rfl⟩ := h1.drop K ht hkey 0
  refine ⟨_, fun ty => by rw [← hrun]; rfl, ⟨_, h4, h2.del _, fun x hx => ?_⟩, ⟨rfl, rfl, rfl, by simp [setBlock], fun j _ hj => heap_setBlock_other hb _ (fun e => hj e)⟩, by simp [setBlock]⟩
  unfold updO
  by_cases e : x = kl
  · subst e
    rw [if_pos rfl, Maps.atKey_del_same]
    rfl
  · rw [if_neg e, Maps.atKey_del_other e, h3 x hx]
end Go.Proofs.Ytaigbplidkakhaa
