/- Proved here: what Copy has built stands wherever its blocks stand; Copy's visits for together. -/
import Derived.Test.YtfmlmdfehaajbaaGreatDoorTogether
import Derived.Test.YtfmlmdfehaajbaaGreatDoorPartsPlain
namespace Go.Proofs.YtfmlmdfehaajbaaGreatDoor
open Go.RowKit Go.Shelf

def Owe.pa (r : Owe) : PA := ⟨r.x.b, r.x.o, r.d, r.q⟩
def Owe.sum (os : List Owe) : Nat := (os.map (fun r => r.x.count)).sum
theorem Owe.sum_cat (os os' : List Owe) : Owe.sum (os ++ os') = Owe.sum os + Owe.sum os' := by unfold Owe.sum; rw [List.map_append, List.sum_append]
theorem Owe.sum_one (r : Owe) : Owe.sum [r] = r.x.count := by simp [Owe.sum]
theorem Owe.len_le : ∀ os : List Owe, os.length ≤ Owe.sum os
  | [] => Nat.zero_le _
  | r :: os => by
    have h1 := Owe.len_le os
    have h2 := Owe.sum_cat [r] os
    rw [Owe.sum_one] at h2
    have h3 := count_kids' r.x
    simp only [List.singleton_append] at h2
    rw [List.length_cons]
    omega
theorem counted_sum : ∀ ks : List AT, counted ks = (ks.map AT.count).sum
  | [] => rfl
  | k :: ks => by
    have := counted_sum ks
    unfold counted AT.count at this ⊢
    rw [List.flatMap_cons, List.length_append, this]
    simp
theorem oweKids_x (K : Nat) (ks : List AT) : (oweKids K ks).map (fun r => r.x) = ks := by
  apply List.ext_getElem (by rw [List.length_map, oweKids_len])
  intro i h1 h2
  rw [List.getElem_map, oweKids_at K ks i (by rw [oweKids_len]; exact h2) h2]
theorem Owe.sum_kids (K : Nat) (ks : List AT) : Owe.sum (oweKids K ks) = counted ks := by
  rw [counted_sum]
  conv => rhs; rw [← oweKids_x K ks]
  unfold Owe.sum
  rw [List.map_map]
  rfl
/-- What Copy owes, with the nodes it is of. -/
def JC (w0 : World) (n O : Nat) (t : AT) (m : Nat) (ps : List PA) (tb : Option Nat) (W : World) : Prop := ∃ os : List Owe, ps = os.map Owe.pa ∧ CSt n O t tb os W ∧ (∀ r ∈ os, TreeAt w0 r.x ∧ r.x.Fits 1048576 ∧ n ≤ r.d) ∧ Owe.sum os = m ∧ m ≤ 1048576 ∧
  Below w0.heap.size w0 W ∧ w0.heap.size ≤ n ∧ n ≤ W.heap.size ∧ (∀ k, tb = some k → n ≤ k ∧ k < W.heap.size)
theorem JC.move {w0 : World} {n O : Nat} {t : AT} {m : Nat} {ps : List PA} {tb tb' : Option Nat} {W W2 : World} (h : JC w0 n O t m ps tb W) (mv : Moved tb tb' W W2) : JC w0 n O t m ps tb' W2 := by
  obtain ⟨os, h1, h2, h3, h4, h5, h6, h7, h8, h9⟩ := h
  refine ⟨os, h1, h2.move mv.block (by rcases mv.there with e | ⟨g, e1, e2, _⟩; exact .inl e; exact .inr ⟨g, e1, e2⟩), h3, h4, h5, ⟨mv.os.trans h6.os, mv.tape.trans h6.tape, mv.output.trans h6.output, Nat.le_trans h6.size mv.size, fun k hk => ?_⟩, h7, Nat.le_trans h8 mv.size, fun k e => ?_⟩
  · refine (mv.block k (Nat.lt_of_lt_of_le hk h6.size) (fun e => ?_)).trans (h6.block k hk)
    have := (h9 k e.symm).1
    omega
  · rcases mv.there with e2 | ⟨g, e2, hg, hg2⟩
    · have := h9 k (e2 ▸ e)
      exact ⟨this.1, Nat.lt_of_lt_of_le this.2 mv.size⟩
    · rw [e2] at e
      injection e with e
      omega
theorem visits_copy (w0 : World) (n O : Nat) (t : AT) {m : Nat} {ps : List PA} {p : PA} {tb : Option Nat} {V W : World} (h : JC w0 n O t m (ps ++ [p]) tb V) (htb : ∀ k, tb = some k → k < V.heap.size) (mv : Moved tb tb V W) :
    Calls Tryz.prog 52 #[.pointer (some ⟨p.b, p.o, none⟩), .pointer (some ⟨p.d, p.q, none⟩)] W fun e W2 =>
      e = .returned (.bool true) ∧ W.heap.size ≤ W2.heap.size ∧ (∀ k, k < W.heap.size → (tb = some k ∨ V.heap.size ≤ k) → W2.heap[k]? = W.heap[k]?) ∧ ∃ n2 K1 o1 K2 o2 q1 c1 q2 c2, n2 ≤ 1048576 ∧ n2 ≤ c1 ∧ n2 ≤ c2 ∧ (0 < n2 → q1 = some ⟨K1, o1, none⟩ ∧ q2 = some ⟨K2, o2, none⟩) ∧ KidsOf2 W2 tb p n2 q1 c1 q2 c2 ∧ JC w0 n O t (m - 1) (ps ++ kidPairs K1 o1 K2 o2 n2) tb W2 := by
  have hJ := h.move mv
  obtain ⟨osV, e0V, hV, _⟩ := h
  obtain ⟨os, e0, hC, hT, hm, hm2, hb, hn0, hnW, htn⟩ := hJ
  obtain ⟨os', last, rfl, e1, e2⟩ : ∃ os' last, os = os' ++ last ∧ os'.map Owe.pa = ps ∧ last.map Owe.pa = [p] := by
    obtain ⟨a, b, h1, h2, h3⟩ := List.map_eq_append_iff.1 e0.symm
    exact ⟨a, b, h1, h2, h3⟩
  obtain ⟨r, rfl, rfl⟩ : ∃ r, last = [r] ∧ p = r.pa := by
    match last, e2 with
    | [r], e2 => exact ⟨r, rfl, by simpa using e2.symm⟩
  obtain ⟨hTr, hFr, hnd⟩ := hT r (by simp)
  obtain ⟨⟨arr, hr, hq, hz⟩, hsix⟩ := hC.room r (by simp)
  obtain ⟨pa0, ca0, pk0, ck0, hP, c0, c1, c2, c3, c4, c5⟩ := hTr.top
  have hdV : r.d < V.heap.size := by
    apply Classical.byContradiction
    intro hc
    obtain ⟨os2, f1, f2, _⟩ : ∃ os2 : List Owe, os2.map Owe.pa = ps ++ [r.pa] ∧ (∀ r2 ∈ os2, r2.d < V.heap.size) ∧ True := ⟨osV, e0V.symm, fun r2 hr2 => by
      obtain ⟨a, h1, _⟩ := (hV.room r2 hr2).row
      exact it_lt h1, trivial⟩
    have hmem : r.pa ∈ os2.map Owe.pa := by rw [f1]; simp
    obtain ⟨r2, g1, g2⟩ := List.mem_map.1 hmem
    have := f2 r2 g1
    have e : r2.d = r.d := congrArg PA.d g2
    omega
  have hne : some r.d ≠ tb := hC.free r (by simp)
  refine (visit_any w0 r.x hTr hFr W hb r.d r.q arr hr hq hz (Nat.le_trans hn0 hnd)).mono (fun e W2 hv => ?_)
  obtain ⟨K, hC2, hKc⟩ := hC.laid hnW hr hFr hP (fun k e => (htn k e).2) hv
  obtain ⟨he, qa, da, qk, dk, hV2, hA, hda, hdn, hty, hkids⟩ := hv
  have hsz := hV2.size
  have hoth := hV2.oth
  have hcell : W2.cell? ⟨r.d, r.q + 4, none⟩ = some (.slice qk r.x.kids.length dk) := hV2.cell 4 (by decide)
  have hb2 : Below w0.heap.size w0 W2 := ⟨hV2.os.trans hb.os, hV2.tape.trans hb.tape, hV2.output.trans hb.output, Nat.le_trans hb.size hsz, fun k hk => (hoth k (Nat.lt_of_lt_of_le hk hb.size) (by omega)).trans (hb.block k hk)⟩
  have hsrc : W2.cell? ⟨r.x.b, r.x.o + 4, none⟩ = some (.slice pk0 r.x.kids.length ck0) := by
    have hl := World.block_lt_of_cell? _ _ c4
    exact (World.cell?_of_block (hb2.block _ hl)).trans c4
  have hkl : r.x.kids.length ≤ 1048576 := (hFr r.x r.x.self_mem).2.2.2.2.1
  obtain ⟨g, off, hg⟩ : ∃ g off, 0 < r.x.kids.length → pk0 = some ⟨g, off, none⟩ ∧ ∀ i (h : i < r.x.kids.length), r.x.kids[i].b = g ∧ r.x.kids[i].o = off + i * 6 := by
    by_cases h0 : 0 < r.x.kids.length
    · obtain ⟨g, off, h1, h2⟩ := hP.kids h0
      exact ⟨g, off, fun _ => ⟨h1, h2⟩⟩
    · exact ⟨0, 0, fun h => absurd h h0⟩
  have hpairs : (oweKids K r.x.kids).map Owe.pa = kidPairs g off K 0 r.x.kids.length := by
    apply List.ext_getElem (by rw [List.length_map, oweKids_len, kidPairs_len])
    intro i h1 h2
    have hi : i < r.x.kids.length := by rwa [kidPairs_len] at h2
    rw [List.getElem_map, oweKids_at K _ i (by rw [oweKids_len]; exact hi) hi, kidPairs_at]
    obtain ⟨_, hk⟩ := hg (by omega)
    obtain ⟨k1, k2⟩ := hk i hi
    show PA.mk _ _ _ _ = _
    rw [k1, k2, Nat.zero_add]
  have hsrcn : some r.x.b ≠ tb := fun e => by
    have hl := World.block_lt_of_cell? _ _ c4
    have hl' : r.x.b < w0.heap.size := hl
    have := (htn r.x.b e.symm).1
    omega
  refine ⟨he, hsz, fun k hk hor => hoth k hk (fun e => ?_), r.x.kids.length, g, off, K, 0, pk0, ck0, qk, dk, hkl, hP.kcap, ?_, fun h0 => ⟨(hg h0).1, ?_⟩, ⟨hsrc, hcell, hsrcn, hne⟩, os' ++ oweKids K r.x.kids, ?_, hC2, fun r2 hr2 => ?_, ?_, by omega, hb2, hn0, Nat.le_trans hnW hsz, fun k e => ⟨(htn k e).1, Nat.lt_of_lt_of_le (htn k e).2 hsz⟩⟩
  · rcases hor with h1 | h1
    · exact hne (by rw [← e]; exact h1.symm)
    · omega
  · rcases hkids with ⟨h1, h2, h3⟩ | ⟨K', h1, h2, _⟩
    · rw [h3]
      exact Nat.zero_le _
    · omega
  · obtain ⟨ck, h1, _⟩ := hKc h0
    rw [hcell] at h1
    injection h1 with h1
    injection h1 with h1
  · rw [List.map_append, e1, hpairs]
  · rcases List.mem_append.1 hr2 with hr2 | hr2
    · exact hT r2 (by simp [hr2])
    · obtain ⟨i, hi, rfl⟩ := oweKids_mem hr2
      refine ⟨hTr.kid (List.getElem_mem hi), hFr.kid (List.getElem_mem hi), ?_⟩
      obtain ⟨_, _, _, hK⟩ := hKc (by omega)
      exact Nat.le_trans hnW hK
  · rw [Owe.sum_cat, Owe.sum_kids]
    rw [Owe.sum_cat, Owe.sum_one, count_kids'] at hm
    omega
end Go.Proofs.YtfmlmdfehaajbaaGreatDoor
namespace Go.Proofs.YtfmlmdfehaajbaaGreatDoor
open Go.RowKit Go.Shelf

theorem copy_visits (w0 : World) (n O : Nat) (t : AT) : Visits 52 (JC w0 n O t) (fun _ => False) where
  enter := enters_of Tryz.func52 (by kernel_rfl) rfl
  size := fun ⟨os, h1, _, _, h4, h5, _⟩ => by
    refine ⟨?_, h5⟩
    rw [h1, List.length_map, ← h4]
    exact Owe.len_le os
  move := fun h mv => h.move mv
  visit := fun h _ htb mv => (visits_copy w0 n O t h htb mv).mono (fun e W2 he => .inr he)
/-- Lists stand where their blocks stand. -/
theorem PartsAt.typed {n : Nat} {W W' : World} {x : AT} {pa : Option Addr} {ca : Nat} {pk : Option Addr} {ck : Nat} (h : PartsAt W x pa ca pk ck) (ht : ∀ a, pa = some a → ∃ g, a = ⟨g, 0, none⟩ ∧ n ≤ g ∧ ∃ cur, W.heap[g]? = some (.cells cur 67 (0, 0))) (hk : ∀ k, k < W.heap.size → n ≤ k → W'.heap[k]? = W.heap[k]?) : PartsAt W' x pa ca pk ck := by
  refine ⟨fun h0 => ?_, h.acap, h.anil, h.kids, h.kcap, h.knil, h.kind, h.uri, h.loc, h.text, h.asz, h.ksz, h.each⟩
  obtain ⟨g, off, e1, hc⟩ := h.attrs h0
  obtain ⟨g', e2, e3, cur, e4⟩ := ht _ e1
  injection e2 with e5 e6
  subst e5
  have hb := hk g (it_lt e4) e3
  have cells : ∀ j v, W.cell? ⟨g, j, none⟩ = some v → W'.cell? ⟨g, j, none⟩ = some v := fun j v hv => (World.cell?_of_block hb).trans hv
  exact ⟨g, off, e1, fun j hj => ⟨cells _ _ (hc j hj).1, cells _ _ (hc j hj).2.1, cells _ _ (hc j hj).2.2⟩⟩
theorem TypedAt.stay {n : Nat} {W W' : World} {x : AT} (h : TypedAt n W x) (hb : n ≤ x.b) (hk : ∀ k, k < W.heap.size → n ≤ k → W'.heap[k]? = W.heap[k]?) : TypedAt n W' x := by
  obtain ⟨pa, ca, pk, ck, hP, ⟨c0, c1, c2, c3, c4, c5⟩, ha, hkk⟩ := h
  have hl : x.b < W.heap.size := World.block_lt_of_cell? _ _ c0
  have hbl := hk x.b hl hb
  have cells : ∀ j v, W.cell? ⟨x.b, j, none⟩ = some v → W'.cell? ⟨x.b, j, none⟩ = some v := fun j v hv => (World.cell?_of_block hbl).trans hv
  refine ⟨pa, ca, pk, ck, hP.typed ha hk, ⟨cells _ _ c0, cells _ _ c1, cells _ _ c2, cells _ _ c3, cells _ _ c4, cells _ _ c5⟩, fun a e => ?_, fun a e => ?_⟩
  · obtain ⟨g, e1, e2, cur, e3⟩ := ha a e
    exact ⟨g, e1, e2, cur, (hk g (it_lt e3) e2).trans e3⟩
  · obtain ⟨g, e1, e2, cur, e3⟩ := hkk a e
    exact ⟨g, e1, e2, cur, (hk g (it_lt e3) e2).trans e3⟩
theorem Built.low {n : Nat} {W : World} : ∀ (X : AT), Built n W X → n ≤ X.b → ∀ x ∈ X.all, n ≤ x.b := fun X => by
  induction X using AT.ind with
  | h X ih =>
    intro h hb x hx
    rw [AT.all_eq, AT.alls_eq] at hx
    rcases List.mem_cons.1 hx with rfl | hx
    · exact hb
    · obtain ⟨k, h1, h2⟩ := List.mem_flatMap.1 hx
      refine ih k h1 (fun y hy => h y (AT.kid_mem h1 y hy)) ?_ x h2
      obtain ⟨pa, ca, pk, ck, hP, _, _, hkk⟩ := h X X.self_mem
      obtain ⟨i, hi, rfl⟩ := List.mem_iff_getElem.1 h1
      obtain ⟨kb, ko, e1, e2⟩ := hP.kids (by omega)
      obtain ⟨g, e3, e4, _⟩ := hkk _ e1
      injection e3 with e5 e6
      rw [(e2 i hi).1, e5]
      exact e4
theorem Built.stay {n : Nat} {W W' : World} {X : AT} (h : Built n W X) (hb : n ≤ X.b) (hk : ∀ k, k < W.heap.size → n ≤ k → W'.heap[k]? = W.heap[k]?) : Built n W' X :=
  fun x hx => (h x hx).stay (h.low X hb x hx) hk
theorem Built.less {n n' : Nat} {W : World} {X : AT} (h : Built n W X) (hn : n' ≤ n) : Built n' W X := fun x hx => by
  obtain ⟨pa, ca, pk, ck, hP, hc, ha, hk⟩ := h x hx
  refine ⟨pa, ca, pk, ck, hP, hc, fun a e => ?_, fun a e => ?_⟩
  · obtain ⟨g, e1, e2, e3⟩ := ha a e
    exact ⟨g, e1, Nat.le_trans hn e2, e3⟩
  · obtain ⟨g, e1, e2, e3⟩ := hk a e
    exact ⟨g, e1, Nat.le_trans hn e2, e3⟩
/-- A node's two lists lie in typed blocks from n on. -/
def Typed2 (n : Nat) (W : World) (pa pk : Option Addr) : Prop := (∀ a, pa = some a → ∃ g, a = ⟨g, 0, none⟩ ∧ n ≤ g ∧ ∃ cur, W.heap[g]? = some (.cells cur 67 (0, 0))) ∧ (∀ a, pk = some a → ∃ g, a = ⟨g, 0, none⟩ ∧ n ≤ g ∧ ∃ cur, W.heap[g]? = some (.cells cur 27 (0, 0)))
theorem Typed2.stay {n n' : Nat} {W W' : World} {pa pk : Option Addr} (h : Typed2 n W pa pk) (hn : n' ≤ n) (hk : ∀ k, k < W.heap.size → n ≤ k → W'.heap[k]? = W.heap[k]?) : Typed2 n' W' pa pk := by
  refine ⟨fun a e => ?_, fun a e => ?_⟩
  · obtain ⟨g, e1, e2, cur, e3⟩ := h.1 a e
    exact ⟨g, e1, Nat.le_trans hn e2, cur, (hk g (it_lt e3) e2).trans e3⟩
  · obtain ⟨g, e1, e2, cur, e3⟩ := h.2 a e
    exact ⟨g, e1, Nat.le_trans hn e2, cur, (hk g (it_lt e3) e2).trans e3⟩
/-- What Copy answers: the same tree, in blocks that weren't there. -/
def CopyOut (w : World) (t : AT) (e : Ending) (W : World) : Prop := ∃ X pa ca pk ck, e = .returned (nodeV X pa ca pk ck) ∧ X.plain = t.plain ∧ Below w.heap.size w W ∧ w.heap.size ≤ X.b ∧
  ∀ W', (∀ k, k < W.heap.size → w.heap.size ≤ k → W'.heap[k]? = W.heap[k]?) → PartsAt W' X pa ca pk ck ∧ KidsAt W' X ∧ Built w.heap.size W' X ∧ Typed2 w.heap.size W' pa pk
/-- How Copy begins. -/
theorem JC.start {w0 : World} {t x : AT} (hx : TreeAt w0 x) (hF : x.Fits 1048576) (hc : x.count ≤ 1048576) (hp : x.plain = t.plain) : JC w0 w0.heap.size w0.heap.size t x.count [⟨x.b, x.o, w0.heap.size, 0⟩] none (w0.alloc (.cells #[.int .i64 0, .string ⟨#[]⟩, .string ⟨#[]⟩, .slice none 0 0, .slice none 0 0, .string ⟨#[]⟩] 27)) := by
  refine ⟨[⟨x, w0.heap.size, 0⟩], rfl, ⟨fun p hp' => ?_, fun i j hi hj _ _ => ?_, fun p hp' => ?_, fun W' ha hf => ?_⟩, fun r hr => ?_, Owe.sum_one _, hc, (Below.refl _ _).alloc (Nat.le_refl _) _, Nat.le_refl _, by simp, fun k e => by cases e⟩
  · rw [List.mem_singleton.1 hp']
    refine ⟨⟨_, heap_alloc_new _ _, by simp, fun j hj => ?_⟩, rfl⟩
    match j, hj with
    | 0, _ => rfl
    | 1, _ => rfl
    | 2, _ => rfl
    | 3, _ => rfl
    | 4, _ => rfl
    | 5, _ => rfl
  · simp only [List.length_singleton] at hi hj
    omega
  · intro e
    cases e
  · obtain ⟨X, h1, h2, h3, h4⟩ := hf _ (List.mem_singleton.2 rfl)
    exact ⟨X, h1, h2, h3, h4.trans hp⟩
  · rw [List.mem_singleton.1 hr]
    exact ⟨hx, hF, Nat.le_refl _⟩
/-- How Copy ends. -/
theorem JC.done {w0 : World} {n O : Nat} {t : AT} {m : Nat} {tb : Option Nat} {W : World} (h : JC w0 n O t m [] tb W) : Below w0.heap.size w0 W ∧ ∃ X : AT, X.b = O ∧ X.o = 0 ∧ Built n W X ∧ X.plain = t.plain := by
  obtain ⟨os, h1, h2, _, _, _, h6, _⟩ := h
  have : os = [] := List.map_eq_nil_iff.1 h1.symm
  subst this
  exact ⟨h6, h2.fin W (fun k arr T _ hk => ⟨arr, hk, rfl, fun j _ => rfl⟩) (fun p hp => by cases hp)⟩
end Go.Proofs.YtfmlmdfehaajbaaGreatDoor
