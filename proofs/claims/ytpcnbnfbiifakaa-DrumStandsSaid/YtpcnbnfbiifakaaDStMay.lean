/- Proved here: the lists of rows that each sector may be: how they lie, and one row more. -/
import Derived.Test.YtpcnbnfbiifakaaDStKit
import Derived.Deep.AppendLies
namespace Go.Proofs.Ytpcnbnfbiifakaa
open Go.RowKit

/-- Eight lists of rows out of a drum's way. -/
structure MayAt (W : World) (F : Nat → Prop) (B A : Nat) (T : TypeId) (V : List Value) (Ls : Nat → List ByteArray) : Prop where
  len : V.length = 8
  blk : W.heap[A]? = some (.cells V.toArray T (0, 0))
  out : ¬ F A ∧ B ≤ A
  rows : ∀ i (h : i < V.length), ∃ q c Vs, V[i] = .slice q (Ls i).length c ∧ W.ownsRow B 34 1 (.slice q (Ls i).length c) (Ls i).length Vs ∧ ∀ j (hj : j < (Ls i).length), ∃ v, Vs[j]? = some v ∧ RowOut W F v (Ls i)[j]
  far : ∀ i (h : i < V.length) k, V[i].ownBlock = some k → ¬ F k
  dist : ∀ i j (hi : i < V.length) (hj : j < V.length) k, V[i].ownBlock = some k → V[j].ownBlock = some k → i = j
theorem owns_type {W : World} {B : Nat} {e : TypeId} {v : Value} {n k : Nat} {xs : List Value} (h : W.ownsRow B e 1 v n xs) (hk : v.ownBlock = some k) : ∃ cur, W.heap[k]? = some (.cells cur e (0, 0)) := by
  rcases h.2 with ⟨e1, _⟩ | ⟨g, cap, cur, e1, _, hh, _⟩
  · rw [e1] at hk; cases hk
  · rw [e1] at hk
    injection hk with hk
    subst hk
    exact ⟨cur, hh⟩
theorem obj_type {o : Option Obj} {c d : Array Value} {t u : TypeId} {f f' : Nat × Nat} (h1 : o = some (.cells c t f)) (h2 : o = some (.cells d u f')) : t = u := by
  rw [h1] at h2
  injection h2 with e
  injection e
/-- Where a drum changed, the lists stand. -/
theorem MayAt.touch {W W' : World} {F F' : Nat → Prop} {B A : Nat} {T : TypeId} {V : List Value} {Ls : Nat → List ByteArray} (h : MayAt W F B A T V Ls) (ht : Touch F W W') (hg : ∀ k, F' k → Grow F W W' k) : MayAt W' F' B A T V Ls := by
  have hA := block_lt h.blk
  have hnew : ∀ k, k < W.heap.size → ¬ F k → ¬ F' k := fun k hk hf hf' => by
    rcases hg k hf' with h1 | h1
    · exact hf h1
    · omega
  refine ⟨h.len, (ht.block A hA h.out.1).trans h.blk, ⟨hnew A hA h.out.1, h.out.2⟩, fun i hi => ?_, fun i hi k hk => ?_, h.dist⟩
  · obtain ⟨q, c, Vs, e, ho, hr⟩ := h.rows i hi
    refine ⟨q, c, Vs, e, owns_block ho (fun k hk => ht.block k (ho.lt k hk).2 (h.far i hi k (by rw [e]; exact hk))), fun j hj => ?_⟩
    obtain ⟨v, hv, hro⟩ := hr j hj
    exact ⟨v, hv, hro.touch ht hg⟩
  · obtain ⟨q, c, Vs, e, ho, hr⟩ := h.rows i hi
    rw [e] at hk
    exact hnew k (ho.lt k hk).2 (h.far i hi k (by rw [e]; exact hk))
theorem MayAt.below {W W' : World} {F : Nat → Prop} {B A : Nat} {T : TypeId} {V : List Value} {Ls : Nat → List ByteArray} (h : MayAt W F B A T V Ls) (hb : Below W.heap.size W W') (hF : ∀ k, F k → k < W.heap.size) : MayAt W' F B A T V Ls :=
  h.touch (Touch.of_below hb) (fun _ hk => .inl hk)
def addL (Ls : Nat → List ByteArray) (n : Nat) (row : ByteArray) (i : Nat) : List ByteArray := if i = n then Ls i ++ [row] else Ls i
theorem may_new {W : World} {F : Nat → Prop} {B A : Nat} {T : TypeId} (hb : W.heap[A]? = some (.cells (List.replicate 8 (Value.slice none 0 0)).toArray T (0, 0))) (hf : ¬ F A) (hB : B ≤ A) : MayAt W F B A T (List.replicate 8 (Value.slice none 0 0)) (fun _ => []) := by
  refine ⟨rfl, hb, ⟨hf, hB⟩, fun i hi => ⟨none, 0, [], by rw [List.getElem_replicate]; rfl, World.ownsRow_nil _ _ _ _, fun j hj => absurd hj (by simp)⟩, fun i hi k hk => ?_, fun i j hi hj k hk _ => ?_⟩
  · rw [List.getElem_replicate] at hk; cases hk
  · rw [List.getElem_replicate] at hk; cases hk
set_option maxRecDepth 100000 in
set_option maxHeartbeats 1000000 in
/-- A row more. -/
theorem MayAt.more {W : World} {F : Nat → Prop} {B A : Nat} {T : TypeId} {V : List Value} {Ls : Nat → List ByteArray} (h : MayAt W F B A T V Ls) (hT : T ≠ 34) (hTu : T ≠ 5) {n : Nat} (hn : n < 8) {v : Value} {row : ByteArray} (hv : RowOut W F v row) (hB : B ≤ W.heap.size) (hF : ∀ k, F k → k < W.heap.size) (hsz : ((Ls n).length + 1) * 24 ≤ 140737488355328) :
    ∃ q L c, W.cell? ⟨A, n, none⟩ = some (.slice q L c) ∧ L = (Ls n).length ∧ ∃ g cap w5, (∀ ty, (Builtin.append_ #[29, 29] ty #[.slice q L c, .slice (some ⟨W.heap.size, 0, none⟩) 1 1]).run Try.prog (W.drew.alloc (.cells #[v] 34)) = .ok (.slice (some ⟨g, 0, none⟩) (L + 1) cap) w5) ∧
      w5.heap[A]? = W.heap[A]? ∧ W.heap.size < w5.heap.size ∧ (∀ (k : Nat) (cur : Array Value) (t : TypeId), t ≠ 34 → W.heap[k]? = some (Obj.cells cur t (0, 0)) → w5.heap[k]? = W.heap[k]?) ∧ (∀ k, k < W.heap.size → some k ≠ (Value.slice q L c).ownBlock → w5.heap[k]? = W.heap[k]?) ∧
      (∃ V', MayAt (w5.setCell ⟨A, n, none⟩ (.slice (some ⟨g, 0, none⟩) (L + 1) cap)) F B A T V' (addL Ls n row)) ∧ (∀ k, F k → k < W.heap.size → (w5.setCell ⟨A, n, none⟩ (.slice (some ⟨g, 0, none⟩) (L + 1) cap)).heap[k]? = W.heap[k]?) ∧ Below B W (w5.setCell ⟨A, n, none⟩ (.slice (some ⟨g, 0, none⟩) (L + 1) cap)) ∧
      (∀ (k : Nat) (cur : Array Value) (t : TypeId), k ≠ A → t ≠ 34 → W.heap[k]? = some (.cells cur t (0, 0)) → (w5.setCell ⟨A, n, none⟩ (.slice (some ⟨g, 0, none⟩) (L + 1) cap)).heap[k]? = W.heap[k]?) := by
  obtain ⟨i0, hi0, hz0, hz1, hz2⟩ := info_parts infoRow
  have hA := block_lt h.blk
  have hnl : n < V.length := by rw [h.len]; exact hn
  obtain ⟨q, c, Vs, e, ho, hr⟩ := h.rows n hnl
  obtain ⟨rg, rc, rcur, rfl, hrf, hrh, hrt, hrs⟩ := hv
  obtain ⟨L, hL⟩ : ∃ L, (Ls n).length = L := ⟨_, rfl⟩
  rw [hL] at e ho hsz
  refine ⟨q, L, c, ?_, hL.symm, ?_⟩
  · rw [cell_of_row _ _ _ _ _ _ h.blk, List.getElem?_toArray, List.getElem?_eq_getElem hnl, e]
  have hnA : ∀ k, (Value.slice q L c).ownBlock = some k → k ≠ A := fun k hk ek => by
    obtain ⟨cur, hc⟩ := owns_type ho hk
    rw [ek] at hc
    exact hT (obj_type h.blk hc)
  have hfar : ∀ k, (Value.slice q L c).ownBlock = some k → ¬ F k := fun k hk => h.far n hnl k (by rw [e]; exact hk)
  have hW4 : ∀ k, k < W.heap.size → (W.drew.alloc (.cells #[Value.slice (some ⟨rg, 0, none⟩) 64 rc] 34)).heap[k]? = W.heap[k]? := fun k hk => Below.heap_alloc W.drew _ k hk
  have ho4 := owns_block (W' := W.drew.alloc (.cells #[Value.slice (some ⟨rg, 0, none⟩) 64 rc] 34)) ho (fun k hk => hW4 k (ho.lt k hk).2)
  have hz4 : (W.drew.alloc (.cells #[Value.slice (some ⟨rg, 0, none⟩) 64 rc] 34)).heap.size = W.heap.size + 1 := by simp
  obtain ⟨g, cap, w5, hrun, hown5, hgrow, hat, hlt⟩ := run_append_lies (P := Try.prog) (W.drew.alloc (.cells #[Value.slice (some ⟨rg, 0, none⟩) 64 rc] 34)) 29 29 B 34 i0 (.slice none 0 0) 1 24 Try.underlying29 hi0 hz0 hz1 hz2 rfl (by decide) (.slice q L c) L Vs ho4 ⟨W.heap.size, 0, none⟩ 1 1 [Value.slice (some ⟨rg, 0, none⟩) 64 rc] rfl
    (World.news_of_block (cs := #[Value.slice (some ⟨rg, 0, none⟩) 64 rc]) (heap_alloc_new W.drew _)) (by intro u hu; rw [List.mem_singleton.1 hu]; rfl) (by decide) (by unfold maxLen; omega) hsz (by omega) (W.heap.size + 1) hz4
  have h5b : ∀ k, k < W.heap.size → some k ≠ (Value.slice q L c).ownBlock → w5.heap[k]? = W.heap[k]? := fun k hk hne => (hgrow.block k (by omega) hne).trans (hW4 k hk)
  have h5A : w5.heap[A]? = W.heap[A]? := h5b A hA (fun e' => hnA A e'.symm rfl)
  have hz5 : W.heap.size < w5.heap.size := by have := hgrow.size; omega
  have hgA : g ≠ A := by
    rcases hat with h1 | h1
    · exact hnA g h1
    · omega
  have hgF : ∀ k, F k → k < W.heap.size → k ≠ g := fun k hk hkz => by
    rcases hat with h1 | h1
    · exact fun e' => hfar g h1 (e' ▸ hk)
    · omega
  have hown6 := owns_block (W' := w5.setCell ⟨A, n, none⟩ (.slice (some ⟨g, 0, none⟩) (L + 1) cap)) hown5 (fun k hk => set_other k (by injection hk with e'; rw [← e']; exact hgA))
  have h6 : ∀ k, k < W.heap.size → k ≠ A → some k ≠ (Value.slice q L c).ownBlock → (w5.setCell ⟨A, n, none⟩ (.slice (some ⟨g, 0, none⟩) (L + 1) cap)).heap[k]? = W.heap[k]? := fun k hk hkA hne => (set_other k hkA).trans (h5b k hk hne)
  have hrow : ∀ {u : Value} {r : ByteArray}, RowOut W F u r → RowOut (w5.setCell ⟨A, n, none⟩ (.slice (some ⟨g, 0, none⟩) (L + 1) cap)) F u r := fun hro => hro.keep fun b cur hf hh => ⟨h6 b (block_lt hh) (fun e' => by
      subst e'
      exact hTu (obj_type h.blk hh)) (fun e' => by
      obtain ⟨cur', hc⟩ := owns_type ho e'.symm
      exact absurd (obj_type hh hc) (by decide)), hf⟩
  have hot : ∀ i (hi : i < V.length), i ≠ n → ∀ k, V[i].ownBlock = some k → k < W.heap.size ∧ k ≠ A ∧ some k ≠ (Value.slice q L c).ownBlock := fun i hi hin k hk => by
    obtain ⟨q', c', Vs', e', ho', _⟩ := h.rows i hi
    have hk' := hk
    rw [e'] at hk
    refine ⟨(ho'.lt k hk).2, fun ek => ?_, fun ek => ?_⟩
    · obtain ⟨cur, hc⟩ := owns_type ho' hk
      rw [ek] at hc
      exact hT (obj_type h.blk hc)
    · exact hin (h.dist i n hi hnl k hk' (by rw [e]; exact ek.symm))
  have hVl : (V.set n (.slice (some ⟨g, 0, none⟩) (L + 1) cap)).length = 8 := by rw [List.length_set, h.len]
  refine ⟨g, cap, w5, fun ty => hrun, h5A, hz5, (fun k cur t ht hh => h5b k (block_lt hh) (fun e' => by obtain ⟨cur', hc⟩ := owns_type ho e'.symm; exact ht (obj_type hh hc))), h5b, ⟨V.set n (.slice (some ⟨g, 0, none⟩) (L + 1) cap), ⟨hVl, ?_, h.out, fun i hi => ?_, fun i hi k hk => ?_, fun i j hi hj k hk hk2 => ?_⟩⟩, fun k hk hkz => ?_, ?_, fun k cur t hkA ht hh => ?_⟩
  · have := u_row (k := n) (.slice (some ⟨g, 0, none⟩) (L + 1) cap) (h5A.trans h.blk)
    rw [this]
    simp
  · rw [List.length_set] at hi
    by_cases hin : i = n
    · subst hin
      have e1 : (addL Ls i row i).length = L + 1 := by unfold addL; rw [if_pos rfl, List.length_append, hL]; rfl
      refine ⟨some ⟨g, 0, none⟩, cap, Vs ++ [Value.slice (some ⟨rg, 0, none⟩) 64 rc], by rw [List.getElem_set_self, e1], by rw [e1]; exact hown6, fun j hj => ?_⟩
      rw [e1] at hj
      have hvl : Vs.length = L := by have := ho.1; omega
      by_cases hjL : j < L
      · obtain ⟨u, hu, hro⟩ := hr j (by rw [hL]; exact hjL)
        refine ⟨u, by rw [List.getElem?_append_left (by omega)]; exact hu, ?_⟩
        have e2 : (addL Ls i row i)[j]'(by rw [e1]; exact hj) = (Ls i)[j]'(by rw [hL]; exact hjL) := by
          unfold addL
          simp [show j < (Ls i).length by rw [hL]; exact hjL]
        rw [e2]
        exact hrow hro
      · obtain rfl : j = L := by omega
        refine ⟨Value.slice (some ⟨rg, 0, none⟩) 64 rc, by rw [List.getElem?_append_right (by omega), hvl, Nat.sub_self]; rfl, ?_⟩
        have e2 : (addL Ls i row i)[(Ls i).length]? = some row := by
          unfold addL
          simp
        have e3 : (addL Ls i row i)[j]'(by rw [e1]; exact hj) = row := by
          rw [hL] at e2
          rw [List.getElem?_eq_getElem (by rw [e1]; exact hj)] at e2
          exact Option.some.inj e2
        rw [e3]
        exact hrow ⟨rg, rc, rcur, rfl, hrf, hrh, hrt, hrs⟩
    · obtain ⟨q', c', Vs', e', ho', hr'⟩ := h.rows i hi
      have e1 : addL Ls n row i = Ls i := by unfold addL; rw [if_neg hin]
      have hoB := owns_block (W' := w5.setCell ⟨A, n, none⟩ (.slice (some ⟨g, 0, none⟩) (L + 1) cap)) ho' (fun k hk => by
        obtain ⟨a1, a2, a3⟩ := hot i hi hin k (by rw [e']; exact hk)
        exact h6 k a1 a2 a3)
      refine ⟨q', c', Vs', by rw [List.getElem_set_ne (fun e => hin e.symm), e1]; exact e', by rw [e1]; exact hoB, fun j hj => ?_⟩
      · rw [e1] at hj
        obtain ⟨u, hu, hro⟩ := hr' j hj
        refine ⟨u, hu, ?_⟩
        have e2 : (addL Ls n row i)[j]'(by rw [e1]; exact hj) = (Ls i)[j] := by simp only [e1]
        rw [e2]
        exact hrow hro
  · rw [List.length_set] at hi
    by_cases hin : i = n
    · subst hin
      rw [List.getElem_set_self] at hk
      have hgk : g = k := by injection hk
      rw [hgk] at hat
      rcases hat with h1 | h1
      · exact hfar k h1
      · exact fun hf => by have := hF k hf; omega
    · rw [List.getElem_set_ne (fun e => hin e.symm)] at hk
      exact h.far i hi k hk
  · rw [List.length_set] at hi hj
    by_cases hin : i = n <;> by_cases hjn : j = n
    · omega
    · subst hin
      rw [List.getElem_set_self] at hk
      have hgk : g = k := by injection hk
      rw [List.getElem_set_ne (fun e => hjn e.symm)] at hk2
      obtain ⟨a1, _, a3⟩ := hot j (by simpa using hj) hjn k hk2
      rw [hgk] at hat
      rcases hat with h1 | h1
      · exact absurd h1.symm a3
      · omega
    · subst hjn
      rw [List.getElem_set_self] at hk2
      have hgk : g = k := by injection hk2
      rw [List.getElem_set_ne (fun e => hin e.symm)] at hk
      obtain ⟨a1, _, a3⟩ := hot i (by simpa using hi) hin k hk
      rw [hgk] at hat
      rcases hat with h1 | h1
      · exact absurd h1.symm a3
      · omega
    · rw [List.getElem_set_ne (fun e => hin e.symm)] at hk
      rw [List.getElem_set_ne (fun e => hjn e.symm)] at hk2
      exact h.dist i j hi hj k hk hk2
  · exact h6 k hkz (fun e' => h.out.1 (e' ▸ hk)) (fun e' => hfar k e'.symm hk)
  · refine ⟨hgrow.os, hgrow.tape, hgrow.output, by rw [set_size]; omega, fun k hk => ?_⟩
    exact h6 k (by omega) (fun e' => by have := h.out.2; omega) (fun e' => by have := (ho.lt k e'.symm).1; omega)
  · refine h6 k (block_lt hh) hkA (fun e' => ?_)
    obtain ⟨cur', hc⟩ := owns_type ho e'.symm
    exact ht (obj_type hh hc)
end Go.Proofs.Ytpcnbnfbiifakaa
