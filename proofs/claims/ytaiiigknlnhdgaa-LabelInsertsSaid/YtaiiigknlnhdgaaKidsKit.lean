/- Proved here: a call's own row of lists of numbers, made longer by another such row; the three ways in which a list's insertion may lay its memory. -/
import Derived.Test.YtaiiigknlnhdgaaLabSame
import Derived.Test.YtaiiigknlnhdgaaNumsCat
import Derived.Deep.RegionLaw
namespace Go.Proofs.Ytaiiigknlnhdgaa
open Go.RowKit

/-- A list of numbers with where it stands, and its room. -/
abbrev KidV := Option Addr × Nat × List Int
def kv (k : KidV) : Value := .slice k.1 k.2.2.length k.2.1
def kidV (ks : List KidV) : List Value := ks.map kv
theorem kidV_length (ks : List KidV) : (kidV ks).length = ks.length := by simp [kidV]
theorem kidV_get {ks : List KidV} {j : Nat} {k : KidV} (h : ks[j]? = some k) : (kidV ks)[j]? = some (kv k) := by simp [kidV, h]
theorem kidV_one (ks : List KidV) : ∀ u ∈ kidV ks, u.oneCell' = true := by
  intro u hu
  simp only [kidV, List.mem_map] at hu
  obtain ⟨b, _, rfl⟩ := hu
  rfl
theorem infoNums : (Try.prog.info? 22).map (fun i => (i.zero, i.size, i.bytes)) = some (some (.slice none 0 0), 1, 24) := by kernel_rfl
/-- These lists stand behind this address (nothing is asked of none). -/
def HoldsK (w : World) (p : Option Addr) (ks : List KidV) : Prop := 0 < ks.length → ∃ b off, p = some ⟨b, off, none⟩ ∧ ∀ j k, ks[j]? = some k → w.cell? ⟨b, off + j, none⟩ = some (kv k)
theorem HoldsK.below {w W : World} {p : Option Addr} {ks : List KidV} (h : HoldsK w p ks) (hb : Below w.heap.size w W) : HoldsK W p ks := fun h0 => by
  obtain ⟨b, off, e, hc⟩ := h h0
  exact ⟨b, off, e, fun j k hj => t_cell hb (hc j k hj)⟩
theorem HoldsK.take {w : World} {p : Option Addr} {ks : List KidV} (h : HoldsK w p ks) (n : Nat) : HoldsK w p (ks.take n) := fun h0 => by
  rw [List.length_take] at h0
  obtain ⟨b, off, e, hc⟩ := h (by omega)
  refine ⟨b, off, e, fun j k hj => hc j k ?_⟩
  rw [List.getElem?_take] at hj
  split at hj
  · exact hj
  · cases hj
theorem HoldsK.drop {w : World} {b off : Nat} {ks : List KidV} (h : HoldsK w (some ⟨b, off, none⟩) ks) (n : Nat) : HoldsK w (some ⟨b, off + n, none⟩) (ks.drop n) := fun h0 => by
  rw [List.length_drop] at h0
  obtain ⟨b', off', e, hc⟩ := h (by omega)
  injection e with e
  injection e with e1 e2 _
  subst e1 e2
  refine ⟨_, _, rfl, fun j k hj => ?_⟩
  rw [List.getElem?_drop] at hj
  rw [Nat.add_assoc]
  exact hc _ k hj
/-- Lists that are being gathered: a row of the call's own (from block B on), or none. -/
def OwnK (w : World) (B : Nat) (q : Option Addr) (c : Nat) (ks : List KidV) : Prop := w.ownsRow B 22 1 (.slice q ks.length c) ks.length (kidV ks) ∧ (q = none → c = 0) ∧ ks.length ≤ c
theorem OwnK.nil (w : World) (B : Nat) : OwnK w B none 0 [] := ⟨World.ownsRow_nil w B _ 1, fun _ => rfl, Nat.le_refl _⟩
theorem OwnK.holds {w : World} {B : Nat} {q : Option Addr} {c : Nat} {ks : List KidV} (h : OwnK w B q c ks) : HoldsK w q ks := fun h0 => by
  have hown := h.1
  rcases hown.2 with ⟨e, h1⟩ | ⟨g, cap, cur, e, hb, hh, hc, _, _⟩
  · omega
  · injection e with e1 e2 e3
    subst e1
    refine ⟨g, 0, rfl, fun j k hj => ?_⟩
    have hj' : j < ks.length := (List.getElem?_eq_some_iff.1 hj).1
    rw [Nat.zero_add, World.ownsRow.cellAt hown j (by omega), kidV_get hj]
theorem OwnK.form {w : World} {B : Nat} {q : Option Addr} {c : Nat} {ks : List KidV} (h : OwnK w B q c ks) : (q = none ∧ c = 0 ∧ ks = []) ∨ ∃ g, q = some ⟨g, 0, none⟩ := by
  rcases h.1.2 with ⟨e, h1⟩ | ⟨g, cap, cur, e, hb, hh, hc, _, _⟩
  · injection e with e1 e2 e3
    exact .inl ⟨e1, e3, List.eq_nil_of_length_eq_zero h1⟩
  · injection e with e1 e2 e3
    exact .inr ⟨g, e1⟩
theorem OwnK.far {w w' : World} {B : Nat} {q : Option Addr} {c : Nat} {ks : List KidV} (h : OwnK w B q c ks) (hb : Below w.heap.size w w') : OwnK w' B q c ks :=
  ⟨h.1.kept (row := none) ⟨hb.os, hb.tape, hb.output, hb.size, fun i hi _ => hb.block i hi⟩ (by cases hv : (Value.slice q ks.length c).ownBlock <;> simp), h.2⟩
theorem OwnK.base {w : World} {B B' : Nat} {q : Option Addr} {c : Nat} {ks : List KidV} (h : OwnK w B q c ks) (hB : B' ≤ B) : OwnK w B' q c ks := by
  refine ⟨⟨h.1.1, ?_⟩, h.2⟩
  rcases h.1.2 with hn | ⟨g, cap, cur, e, hb, rest⟩
  · exact .inl hn
  · exact .inr ⟨g, cap, cur, e, by omega, rest⟩
theorem ownK_new (w : World) (ks : List KidV) (hm : ks.length ≤ 1048576) : OwnK (w.alloc (.cells (kidV ks).toArray 22)) w.heap.size (some ⟨w.heap.size, 0, none⟩) ks.length ks := by
  have h := World.ownsRow_lit (size := 1) (e := 22) w (kidV ks).toArray ks.length (Nat.le_refl _) (by unfold maxLen; omega) (by simp [kidV])
  exact ⟨by simpa using h, fun e => (by cases e), Nat.le_refl _⟩
theorem appendK_list {w : World} {B : Nat} {q p : Option Addr} {c d : Nat} {l m : List KidV} (h : OwnK w B q c l) (hp : HoldsK w p m) (hn : p = none → d = 0) (hB : B ≤ w.heap.size) (hsz : (l.length + m.length) * 24 ≤ 140737488355328) :
    ∃ q' c' w', (∀ ty, (Builtin.append_ #[46, 46] ty #[.slice q l.length c, .slice p m.length d]).run Try.prog w = .ok (.slice q' (l.length + m.length) c') w') ∧
      OwnK w' B q' c' (l ++ m) ∧ w.grownBy w' (Value.slice q l.length c).ownBlock := by
  obtain ⟨i0, hi, hz0, hz1, hz2⟩ := info_parts infoNums
  cases p with
  | none =>
    have h0 : m.length = 0 := by
      rcases Nat.eq_zero_or_pos m.length with h | h
      · exact h
      · obtain ⟨_, _, e, _⟩ := hp h; cases e
    obtain rfl : m = [] := List.eq_nil_of_length_eq_zero h0
    rw [hn rfl, List.append_nil]
    refine ⟨q, c, w, fun ty => ?_, h, World.grownBy.refl w _⟩
    exact run_append_owned_none (P := Try.prog) (w := w) B 46 ty 22 i0 1 Try.underlying46 hi _ l.length (kidV l) h.1
  | some a =>
    have hcells : ∀ j u, (kidV m)[j]? = some u → w.cell? (a.add j) = some u := by
      intro j u hu
      have hj : j < m.length := by
        have := (List.getElem?_eq_some_iff.1 hu).1
        rwa [kidV_length] at this
      obtain ⟨b, off, e, hc⟩ := hp (by omega)
      obtain rfl := Option.some.inj e
      have ha : (⟨b, off, none⟩ : Addr).add j = ⟨b, off + j, none⟩ := by unfold Addr.add; split <;> simp_all
      rw [ha, hc j m[j] (List.getElem?_eq_getElem hj), ← hu, kidV_get (List.getElem?_eq_getElem hj)]
    obtain ⟨v', w', hrun, hown', hgrow, hne⟩ := run_append_own (P := Try.prog) (w := w) B 46 46 22 i0 (.slice none 0 0) 1 24 Try.underlying46 hi hz0 hz1 hz2 rfl (by decide) _ l.length (kidV l) h.1 a m.length d (kidV m) (by rw [kidV_length, Nat.mul_one]) hcells (kidV_one m) (by unfold maxLen; omega) (by omega) hB
    have hl : (l ++ m).length = l.length + m.length := by simp
    rw [show kidV l ++ kidV m = kidV (l ++ m) by simp [kidV]] at hown'
    have hrun' : ∀ ty, (Builtin.append_ #[46, 46] ty #[.slice q l.length c, .slice (some a) m.length d]).run Try.prog w = .ok v' w' := fun ty => by rw [← hrun]; rfl
    rcases hown'.2 with ⟨rfl, h0⟩ | ⟨g, cap, cur, rfl, hb, hh, hc, h1, h2⟩
    · refine ⟨none, 0, w', fun ty => ?_, ⟨?_, fun _ => rfl, by rw [hl]; omega⟩, hgrow⟩
      · rw [hrun' ty, h0]
      · rw [hl, h0]
        rw [h0] at hown'
        exact hown'
    · refine ⟨some ⟨g, 0, none⟩, cap, w', hrun', ⟨?_, (fun e => (by cases e)), by rw [hl]; exact hc⟩, hgrow⟩
      rw [hl]; exact hown'
/-- What is left where the new list was laid ahead of the first append: the three appends' runs; the last row; all elder blocks stand. -/
def InsB (w W1 : World) (g h : Nat) (a m : List KidV) (n : KidV) (p p2 : Option Addr) (d d2 : Nat) : Prop :=
  ∃ q1 c1 w1 q2 c2 w2 q3 c3 w3, (∀ ty, (Builtin.append_ #[46, 46] ty #[.slice (some ⟨g, 0, none⟩) 0 0, .slice p a.length d]).run Try.prog W1 = .ok (.slice q1 a.length c1) w1) ∧
    (∀ ty, (Builtin.append_ #[46, 46] ty #[.slice q1 a.length c1, .slice (some ⟨h, 0, none⟩) 1 1]).run Try.prog w1 = .ok (.slice q2 (a.length + 1) c2) w2) ∧
    (∀ ty, (Builtin.append_ #[46, 46] ty #[.slice q2 (a.length + 1) c2, .slice p2 m.length d2]).run Try.prog w2 = .ok (.slice q3 (a.length + 1 + m.length) c3) w3) ∧
    OwnK w3 w.heap.size q3 c3 (a ++ [n] ++ m) ∧ Below w.heap.size w w3
/-- The same, where it was laid behind the first append. -/
def InsA (w W1 : World) (g : Nat) (a m : List KidV) (n : KidV) (p p2 : Option Addr) (d d2 : Nat) : Prop :=
  ∃ q1 c1 w1 q2 c2 w2 q3 c3 w3, (∀ ty, (Builtin.append_ #[46, 46] ty #[.slice (some ⟨g, 0, none⟩) 0 0, .slice p a.length d]).run Try.prog W1 = .ok (.slice q1 a.length c1) w1) ∧
    (∀ ty, (Builtin.append_ #[46, 46] ty #[.slice q1 a.length c1, .slice (some ⟨w1.heap.size, 0, none⟩) 1 1]).run Try.prog (w1.alloc (.cells #[kv n] 22)) = .ok (.slice q2 (a.length + 1) c2) w2) ∧
    (∀ ty, (Builtin.append_ #[46, 46] ty #[.slice q2 (a.length + 1) c2, .slice p2 m.length d2]).run Try.prog w2 = .ok (.slice q3 (a.length + 1 + m.length) c3) w3) ∧
    OwnK w3 w.heap.size q3 c3 (a ++ [n] ++ m) ∧ Below w.heap.size w w3
theorem kid_new (w : World) (n : KidV) : HoldsK (w.alloc (.cells #[kv n] 22)) (some ⟨w.heap.size, 0, none⟩) [n] := fun _ => by
  refine ⟨_, _, rfl, fun j k hj => ?_⟩
  have hj0 : j = 0 := by
    have := (List.getElem?_eq_some_iff.1 hj).1
    simpa using this
  subst hj0
  have e : k = n := by simpa using hj.symm
  subst e
  rw [cell_of_row _ _ 0 #[kv k] 22 (0, 0) (heap_alloc_new w _)]
  rfl
theorem below_grown {w W w' : World} {B : Nat} {q : Option Addr} {c : Nat} {ks : List KidV} (hb : Below B w W) (hg : W.grownBy w' (Value.slice q ks.length c).ownBlock) (ho : OwnK W B q c ks) (hB : B ≤ W.heap.size) : Below B w w' :=
  hb.grown hg hB (fun k e => (World.ownsRow.lt ho.1 k e).1)
theorem insB {w W1 : World} {g h : Nat} {a m : List KidV} {n : KidV} {p p2 : Option Addr} {d d2 : Nat} (hb : Below w.heap.size w W1) (ho : OwnK W1 w.heap.size (some ⟨g, 0, none⟩) 0 []) (hn : HoldsK W1 (some ⟨h, 0, none⟩) [n]) (hh : h < W1.heap.size) (hg : h ≠ g)
    (ha : HoldsK w p a) (hm : HoldsK w p2 m) (np : p = none → d = 0) (np2 : p2 = none → d2 = 0) (hsz : (a.length + 1 + m.length) * 24 ≤ 140737488355328) : InsB w W1 g h a m n p p2 d d2 := by
  obtain ⟨q1, c1, w1, r1, o1, g1⟩ := appendK_list ho (ha.below hb) np hb.size (by simp; omega)
  simp only [List.length_nil, Nat.zero_add, List.nil_append] at r1 o1 g1
  have b1 := below_grown (ks := []) hb g1 ho hb.size
  have n1 : HoldsK w1 (some ⟨h, 0, none⟩) [n] := fun h0 => by
    obtain ⟨b, off, e, hc⟩ := hn h0
    injection e with e
    injection e with e1 e2 _
    subst e1 e2
    refine ⟨_, _, rfl, fun j k hj => ?_⟩
    have hbk : w1.heap[h]? = W1.heap[h]? := g1.block h hh (by simpa [Value.ownBlock] using hg)
    rw [World.cell?_of_block (w := W1) (a := ⟨h, 0 + j, none⟩) hbk]
    exact hc j k hj
  obtain ⟨q2, c2, w2, r2, o2, g2⟩ := appendK_list o1 n1 (fun e => by cases e) b1.size (d := 1) (by simp; omega)
  have b2 := below_grown b1 g2 o1 b1.size
  obtain ⟨q3, c3, w3, r3, o3, g3⟩ := appendK_list o2 (hm.below b2) np2 b2.size (by simp; omega)
  have b3 := below_grown b2 g3 o2 b2.size
  have hl : (a ++ [n]).length = a.length + 1 := by simp
  rw [hl] at r3
  exact ⟨q1, c1, w1, q2, c2, w2, q3, c3, w3, r1, r2, r3, o3, b3⟩
theorem insA {w W1 : World} {g : Nat} {a m : List KidV} {n : KidV} {p p2 : Option Addr} {d d2 : Nat} (hb : Below w.heap.size w W1) (ho : OwnK W1 w.heap.size (some ⟨g, 0, none⟩) 0 [])
    (ha : HoldsK w p a) (hm : HoldsK w p2 m) (np : p = none → d = 0) (np2 : p2 = none → d2 = 0) (hsz : (a.length + 1 + m.length) * 24 ≤ 140737488355328) : InsA w W1 g a m n p p2 d d2 := by
  obtain ⟨q1, c1, w1, r1, o1, g1⟩ := appendK_list ho (ha.below hb) np hb.size (by simp; omega)
  simp only [List.length_nil, Nat.zero_add, List.nil_append] at r1 o1 g1
  have b1 := below_grown (ks := []) hb g1 ho hb.size
  have ba : Below w1.heap.size w1 (w1.alloc (.cells #[kv n] 22)) := (Below.refl _ _).alloc (Nat.le_refl _) _
  have b1' := t_cat b1 ba
  obtain ⟨q2, c2, w2, r2, o2, g2⟩ := appendK_list (o1.far ba) (kid_new w1 n) (fun e => by cases e) b1'.size (d := 1) (by simp; omega)
  have b2 := below_grown b1' g2 (o1.far ba) b1'.size
  obtain ⟨q3, c3, w3, r3, o3, g3⟩ := appendK_list o2 (hm.below b2) np2 b2.size (by simp; omega)
  have b3 := below_grown b2 g3 o2 b2.size
  have hl : (a ++ [n]).length = a.length + 1 := by simp
  rw [hl] at r3
  exact ⟨q1, c1, w1, q2, c2, w2, q3, c3, w3, r1, r2, r3, o3, b3⟩
/-- append, its run known, as one step of a region that draws. -/
theorem step_append_run {P : Program} {ops : Array Oper} {o : Oper} {a : Act} {w : World} {K : Act → World → Prop} {Q : Exit → Act → World → Prop} {E : Prop}
    (hg : o.guard = none) (s x : Operand) (t : TypeId) (hop : o.op = Op.call { callee := Callee.builtin Builtin.append, args := #[s, x], argTypes := #[t, t] })
    (v u v' : Value) (w' : World) (hs : a.eval s = v) (hx : a.eval x = u) (hrun : ∀ ty, (Builtin.append_ #[t, t] ty #[v, u]).run P w = .ok v' w')
    (hK : K (a.put o.dst v') w') : if Region.wanted o (yielded ops a.tmps) = true then Oper.wp P o a w K Q else E := by
  have hw : Region.wanted o (yielded ops a.tmps) = true := by simp [Region.wanted, hg]
  rw [if_pos hw]
  have hr := hrun o.type
  unfold Oper.wp
  simp [execOp, hop, resolve, invoke, builtin, hs, hx, hr, Result.andThen]
  exact hK
end Go.Proofs.Ytaiiigknlnhdgaa
