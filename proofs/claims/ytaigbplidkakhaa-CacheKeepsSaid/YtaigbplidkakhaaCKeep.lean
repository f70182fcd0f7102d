/- Proved here: the law's own maps of numbers; what CacheKeeps keeps in them beside a cache, in plain words and as it lies. -/
import Derived.Test.YtaigbplidkakhaaCMore
import Derived.Test.YtaigbplidkakhaaCKeys
import Derived.Test.YtaigbplidkakhaaCAwake
import Derived.Maps.RangeWalk
import Derived.Carry
namespace Go.Proofs.Ytaigbplidkakhaa
open Go.RowKit Go.ChangeMaps

theorem keyK (k : Int) (h : -9223372036854775808 ≤ k ∧ k ≤ 9223372036854775807) : keyOf Try.prog 3 (.int .i64 k) = some (.int .i64 k) := by
  refine Maps.keyOf_int_mk Try.underlying3 ?_
  have e1 : IntKind.i64.min = -9223372036854775808 := rfl
  have e2 : IntKind.i64.max = 9223372036854775807 := rfl
  simp only [Lit.wf, Bool.and_eq_true, decide_eq_true_eq]
  omega
theorem wfK (k : Int) (h : -9223372036854775808 ≤ k ∧ k ≤ 9223372036854775807) : (Lit.int .i64 k).wf = true := by
  have e1 : IntKind.i64.min = -9223372036854775808 := rfl
  have e2 : IntKind.i64.max = 9223372036854775807 := rfl
  simp only [Lit.wf, Bool.and_eq_true, decide_eq_true_eq]
  omega
theorem rangeK {k : Int} (h : (Lit.int .i64 k).wf = true) : -9223372036854775808 ≤ k ∧ k ≤ 9223372036854775807 := by
  have e1 : IntKind.i64.min = -9223372036854775808 := rfl
  have e2 : IntKind.i64.max = 9223372036854775807 := rfl
  simp only [Lit.wf, Bool.and_eq_true, decide_eq_true_eq] at h
  omega
abbrev KI : Maps.Keyed Try.prog 3 := Maps.int_keyed Try.underlying3
/-- A map of numbers in block b says h (0 where nothing stands). -/
def IntM (W : World) (b n : Nat) (h : Int → Int) : Prop := ∃ D : DataW Unit, W.ownsMap Try.prog 3 (plainElem Try.prog 3) b n D ∧ Maps.IsMap D ∧ ∀ x, (Lit.int .i64 x).wf = true → D.atKey (.int .i64 x) (.lit (.int .i64 0)) = .lit (.int .i64 (h x))
theorem IntM.made (W : World) : IntM (W.alloc (.map #[] 0)) W.heap.size 0 (fun _ => 0) :=
  ⟨.map [], World.ownsMap_made W _ _ _, Maps.isMap_empty, fun kl _ => WideAt.atKey_none _ (fun _ hp => by cases hp)⟩
theorem IntM.lt {W : World} {b n : Nat} {h : Int → Int} (m : IntM W b n h) : b < W.heap.size := by
  obtain ⟨D, h1, _⟩ := m
  exact h1.lt
theorem IntM.keep {W W' : World} {b n : Nat} {h : Int → Int} (m : IntM W b n h) (hb : W'.heap[b]? = W.heap[b]?) : IntM W' b n h := by
  obtain ⟨D, ⟨es, clock, h1, h2⟩, h3⟩ := m
  exact ⟨D, ⟨es, clock, hb.trans h1, h2⟩, h3⟩
theorem IntM.look {W : World} {b n : Nat} {h : Int → Int} (m : IntM W b n h) (x : Int) (hx : (Lit.int .i64 x).wf = true) : (Instr.lookup 42 (.map (some b)) (.int .i64 x) false).run Try.prog W = .ok (.int .i64 (h x)) W := by
  obtain ⟨D, h1, _, h3⟩ := m
  obtain ⟨c, hrun, hat, _⟩ := h1.lookup_int KI Try.underlying42 Try.underlying3 (Try.zeroValue3 W) (keyK x (rangeK hx))
  have e : DataW.lit (.int .i64 (h x)) = (DataW.lit (.int .i64 c) : DataW Unit) := (h3 x hx).symm.trans hat
  cases e
  exact hrun
def upd1 (h : Int → Int) (k v : Int) (x : Int) : Int := if x = k then v else h x
theorem IntM.put {W : World} {b n : Nat} {h : Int → Int} (m : IntM W b n h) (hn : n < maxLen) (k v : Int) (hk : (Lit.int .i64 k).wf = true) (hv : (Lit.int .i64 v).wf = true) :
    ∃ W', (Instr.mapUpdate 42 (.map (some b)) (.int .i64 k) (.int .i64 v)).run Try.prog W = .ok () W' ∧ IntM W' b (n + 1) (upd1 h k v) ∧ Tch (fun j => j = b) W W' ∧ W'.heap.size = W.heap.size := by
  obtain ⟨D, h1, h2, h3⟩ := m
  obtain ⟨W', hrun, h4, es, clock, es', clock', hb, rfl⟩ := h1.store KI Try.underlying42 hn (keyK k (rangeK hk)) (plainElem_int Try.underlying3 hv)
  refine ⟨_, hrun, ⟨_, h4, h2.put _ _, fun x hx => ?_⟩, ⟨rfl, rfl, rfl, by simp [setBlock], fun j _ hj => heap_setBlock_other hb _ (fun e => hj e)⟩, by simp [setBlock]⟩
  unfold upd1
  by_cases e : x = k
  · subst e
    rw [if_pos rfl, Maps.atKey_put_same h2 (KI.key (keyK x (rangeK hx)))]
  · rw [if_neg e, Maps.atKey_put_other (fun e' => e (by injection e')), h3 x hx]
/-- What is kept of an entry. -/
def wt (e : EntI) : Int := 2 * (e.p : Int) + (if e.d then 1 else 0)
def Rel (l : List EntI) (hf lf : Int → Int) : Prop := (∀ e ∈ l, hf e.k = wt e ∧ lf e.k = e.v) ∧ ∀ x, (∀ e ∈ l, e.k ≠ x) → hf x = 0
theorem Rel.perm {l l' : List EntI} {hf lf : Int → Int} (h : Rel l hf lf) (hm : ∀ y, y ∈ l' ↔ y ∈ l) : Rel l' hf lf :=
  ⟨fun e he => h.1 e ((hm e).1 he), fun x hx => h.2 x (fun e he => hx e ((hm e).2 he))⟩
theorem Rel.step {l l' : List EntI} {hf lf hf' lf' : Int → Int} (h : Rel l hf lf) {k : Int} {e' : EntI} (hk : e'.k = k) (h1 : hf' k = wt e') (h2 : ∀ x, x ≠ k → hf' x = hf x) (g1 : lf' k = e'.v) (g2 : ∀ x, x ≠ k → lf' x = lf x)
    (hin : ∀ y ∈ l', y = e' ∨ (y ∈ l ∧ y.k ≠ k)) (hmem : e' ∈ l') (hout : ∀ y ∈ l, y.k ≠ k → y ∈ l' ∨ (y.p = 0 ∧ y.d = false)) : Rel l' hf' lf' := by
  refine ⟨fun y hy => ?_, fun x hx => ?_⟩
  · rcases hin y hy with rfl | ⟨h3, h4⟩
    · rw [hk]; exact ⟨h1, g1⟩
    · rw [h2 _ h4, g2 _ h4]; exact h.1 y h3
  · have hxk : x ≠ k := fun e => hx e' hmem (by rw [hk, e])
    rw [h2 x hxk]
    by_cases hex : ∃ y ∈ l, y.k = x
    · obtain ⟨y, hy, rfl⟩ := hex
      rcases hout y hy hxk with h5 | ⟨h5, h6⟩
      · exact absurd rfl (hx y h5)
      · rw [(h.1 y hy).1]
        unfold wt
        rw [h5, h6]
        rfl
    · exact h.2 x (fun e he hex' => hex ⟨e, he, hex'⟩)
theorem Rel.fit {l : List EntI} {hf lf : Int → Int} (h : Rel l hf lf) (x : Int) : 0 ≤ hf x ∧ (0 < hf x → ∃ e ∈ l, e.k = x) := by
  by_cases hex : ∃ y ∈ l, y.k = x
  · obtain ⟨y, hy, rfl⟩ := hex
    refine ⟨?_, fun _ => ⟨y, hy, rfl⟩⟩
    rw [(h.1 y hy).1]
    unfold wt
    split <;> omega
  · rw [h.2 x (fun e he hex' => hex ⟨e, he, hex'⟩)]
    exact ⟨by omega, fun h => absurd h (by omega)⟩
theorem CSI.nodup {M : Nat → Prop} {W : World} {C nb : Nat} {places : Int} {l : List EntI} (h : CSI M W C places nb l) : (l.map (·.k)).Nodup := by
  obtain ⟨r, m, L, B, nx, pv, f, h1, h2, _, _⟩ := h
  have hn := h1.ring.nodup
  rw [List.nodup_cons] at hn
  have e1 : l.map (·.k) = L.map (fun a => match (B a).k with | .int _ z => z | _ => 0) := by
    have : l.map (·.k) = (l.map EntI.enc).map (fun v => match v.k with | .int _ z => z | _ => 0) := by rw [List.map_map]; rfl
    rw [this, ← h2, List.map_map]
    rfl
  have hkey : ∀ a ∈ L, ∃ z : Int, (B a).k = .int .i64 z := fun a ha => by
    have hm : B a ∈ l.map EntI.enc := by rw [← h2]; exact List.mem_map_of_mem ha
    obtain ⟨e, _, he⟩ := List.mem_map.1 hm
    exact ⟨e.k, by rw [← he]; rfl⟩
  rw [e1]
  unfold List.Nodup
  rw [List.pairwise_map]
  refine hn.2.imp_of_mem (fun {a b} ha hb hne => ?_)
  intro heq
  obtain ⟨z, hz⟩ := hkey a ha
  obtain ⟨y, hy⟩ := hkey b hb
  rw [hz, hy] at heq
  simp only at heq
  subst heq
  obtain ⟨ka, k1, k2⟩ := h1.keyed a ha
  obtain ⟨kb, k3, k4⟩ := h1.keyed b hb
  rw [hz] at k1
  rw [hy, k1] at k3
  injection k3 with k3
  subst k3
  rw [k2] at k4
  injection k4 with k4
  exact hne k4
theorem apart_of_nodup {p q : List EntI} {e : EntI} (h : ((p ++ e :: q).map (·.k)).Nodup) : ∀ y, y ∈ p ++ q → y.k ≠ e.k := fun y hy hyk => by
  rw [List.map_append, List.map_cons, List.nodup_append, List.nodup_cons] at h
  obtain ⟨_, ⟨h1, _⟩, h2⟩ := h
  rcases List.mem_append.1 hy with hy | hy
  · exact h2 y.k (List.mem_map_of_mem hy) e.k List.mem_cons_self hyk
  · exact h1 (by rw [← hyk]; exact List.mem_map_of_mem hy)
/-- How all lies. -/
structure KS (W : World) (C m bl bh : Nat) (wr : World) (M : Nat → Prop) (nb : Nat) (l : List EntI) (hf lf : Int → Int) (n1 n2 : Nat) : Prop where
  cs : CSI M wr C (m : Int) nb l
  mb : ∀ k, M k → W.heap.size ≤ k ∧ k < wr.heap.size ∧ k ≠ bl ∧ k ≠ bh
  im : IntM wr bl n1 lf
  ih : IntM wr bh n2 hf
  bw : Below W.heap.size W wr
  bb : W.heap.size ≤ bl ∧ W.heap.size ≤ bh ∧ bl ≠ bh
section
variable {W : World} {C m bl bh : Nat} {wr w' : World} {M M' : Nat → Prop} {nb nb' : Nat} {l l' : List EntI} {hf lf : Int → Int} {n1 n2 : Nat}
theorem KS.call (h : KS W C m bl bh wr M nb l hf lf n1 n2) (c : CSI M' w' C (m : Int) nb' l') (s : Step M M' wr w') : KS W C m bl bh w' M' nb' l' hf lf n1 n2 := by
  refine ⟨c, fun k hk => ?_, h.im.keep (s.1.block bl h.im.lt (fun e => (h.mb bl e).2.2.1 rfl)), h.ih.keep (s.1.block bh h.ih.lt (fun e => (h.mb bh e).2.2.2 rfl)), h.bw.trans (s.1.below (fun k hk => (h.mb k hk).1) h.bw.size), h.bb⟩
  have i1 := h.im.lt
  have i2 := h.ih.lt
  have i3 := h.bw.size
  rcases s.2 k hk with e | e
  · obtain ⟨a1, a2, a3, a4⟩ := h.mb k e
    exact ⟨a1, Nat.lt_of_lt_of_le a2 s.1.size, a3, a4⟩
  · exact ⟨by omega, e.2, by omega, by omega⟩
theorem KS.below (h : KS W C m bl bh wr M nb l hf lf n1 n2) (b : Below wr.heap.size wr w') : KS W C m bl bh w' M nb l hf lf n1 n2 :=
  h.call (h.cs.tch (Tch.of_below (F := fun _ => False) b) (fun _ _ => id)) ⟨(Tch.of_below (F := fun _ => False) b).mono (fun _ h => h.elim), fun _ hk => .inl hk⟩
theorem KS.other (h : KS W C m bl bh wr M nb l hf lf n1 n2) {b : Nat} (t : Tch (fun j => j = b) wr w') (h1 : ¬ M b) (h2 : b ≠ bl) (h3 : b ≠ bh) (h4 : W.heap.size ≤ b) : KS W C m bl bh w' M nb l hf lf n1 n2 :=
  ⟨h.cs.tch t (fun k hk e => h1 (by have e' : k = b := e; rw [← e']; exact hk)), fun k hk => by obtain ⟨a1, a2, a3⟩ := h.mb k hk; exact ⟨a1, Nat.lt_of_lt_of_le a2 t.size, a3⟩, h.im.keep (t.block bl h.im.lt (fun e => h2 e.symm)), h.ih.keep (t.block bh h.ih.lt (fun e => h3 e.symm)), h.bw.trans (t.below (fun k hk => by have e : k = b := hk; rw [e]; exact h4) h.bw.size), h.bb⟩
theorem KS.putL (h : KS W C m bl bh wr M nb l hf lf n1 n2) {lf' : Int → Int} {n1' : Nat} (i : IntM w' bl n1' lf') (t : Tch (fun j => j = bl) wr w') : KS W C m bl bh w' M nb l hf lf' n1' n2 :=
  ⟨h.cs.tch t (fun k hk e => (h.mb k hk).2.2.1 e), fun k hk => by obtain ⟨a1, a2, a3⟩ := h.mb k hk; exact ⟨a1, Nat.lt_of_lt_of_le a2 t.size, a3⟩, i, h.ih.keep (t.block bh h.ih.lt (fun e => h.bb.2.2 e.symm)), h.bw.trans (t.below (fun k hk => by have e : k = bl := hk; rw [e]; exact h.bb.1) h.bw.size), h.bb⟩
theorem KS.putH (h : KS W C m bl bh wr M nb l hf lf n1 n2) {hf' : Int → Int} {n2' : Nat} (i : IntM w' bh n2' hf') (t : Tch (fun j => j = bh) wr w') : KS W C m bl bh w' M nb l hf' lf n1 n2' :=
  ⟨h.cs.tch t (fun k hk e => (h.mb k hk).2.2.2 e), fun k hk => by obtain ⟨a1, a2, a3⟩ := h.mb k hk; exact ⟨a1, Nat.lt_of_lt_of_le a2 t.size, a3⟩, h.im.keep (t.block bl h.im.lt (fun e => h.bb.2.2 e)), i, h.bw.trans (t.below (fun k hk => by have e : k = bh := hk; rw [e]; exact h.bb.2.1) h.bw.size), h.bb⟩
end
/-- A block beside all this. -/
def Beside (M : Nat → Prop) (bl bh : Nat) (w : World) (x : Nat) (o : Obj) : Prop := w.heap[x]? = some o ∧ ¬ M x ∧ x ≠ bl ∧ x ≠ bh
theorem Beside.call {M M' : Nat → Prop} {bl bh x : Nat} {w w' : World} {o : Obj} (h : Beside M bl bh w x o) (s : Step M M' w w') : Beside M' bl bh w' x o := by
  have hl := heap_lt h.1
  refine ⟨(s.1.block x hl h.2.1).trans h.1, fun e => ?_, h.2.2⟩
  rcases s.2 x e with e | e
  · exact h.2.1 e
  · omega
theorem Beside.tch {M : Nat → Prop} {bl bh x b : Nat} {w w' : World} {o : Obj} (h : Beside M bl bh w x o) (t : Tch (fun j => j = b) w w') (hb : b = bl ∨ b = bh) : Beside M bl bh w' x o :=
  ⟨(t.block x (heap_lt h.1) (fun e => by rcases hb with rfl | rfl; exact h.2.2.1 e; exact h.2.2.2 e)).trans h.1, h.2⟩
theorem Beside.below {M : Nat → Prop} {bl bh x : Nat} {w w' : World} {o : Obj} (h : Beside M bl bh w x o) (b : Below w.heap.size w w') : Beside M bl bh w' x o :=
  ⟨(b.block x (heap_lt h.1)).trans h.1, h.2⟩
end Go.Proofs.Ytaigbplidkakhaa
