/- Proved here: a row of nodes of the call's own: made longer; as the kids of a node. -/
import Derived.Test.YtgcdbmpnddbcoaaDoorPlainT
import Derived.Test.YtgcdbmpnddbcoaaDoorRowsV
import Derived.Test.YtgcdbmpnddbcoaaDoorKidAt
import Derived.Test.YtgcdbmpnddbcoaaDoorAsks1
import Derived.Maps.AppendAt
namespace Go.Proofs.YtgcdbmpnddbcoaaDoor
open Go.RowKit Go.Shelf

def encN (zs : List KN) : List Value := zs.flatMap KN.enc
theorem enc_len (z : KN) : z.enc.length = 6 := rfl
theorem encN_len (zs : List KN) : (encN zs).length = zs.length * 6 := by
  induction zs with
  | nil => rfl
  | cons z r ih =>
    unfold encN at ih ⊢
    rw [List.flatMap_cons, List.length_append, ih, enc_len, List.length_cons]
    omega
theorem encN_cat (zs ys : List KN) : encN (zs ++ ys) = encN zs ++ encN ys := List.flatMap_append
theorem encN_one (z : KN) : encN [z] = z.enc := by unfold encN; simp
theorem encN_at : ∀ (zs : List KN) (i j : Nat) (h : i < zs.length), j < 6 → (encN zs)[i * 6 + j]? = zs[i].enc[j]? := fun zs => by
  induction zs with
  | nil => intro i j h; simp at h
  | cons z r ih =>
    intro i j h hj
    unfold encN
    rw [List.flatMap_cons]
    cases i with
    | zero =>
      rw [List.getElem?_append_left (by rw [enc_len]; omega), Nat.zero_mul, Nat.zero_add]
      rfl
    | succ i =>
      rw [List.getElem?_append_right (by rw [enc_len]; omega), enc_len, show (i + 1) * 6 + j - 6 = i * 6 + j by omega]
      exact ih i j (by simpa using h) hj
theorem enc_one' (z : KN) : ∀ u ∈ z.enc, u.oneCell' = true := by
  intro u hu
  unfold KN.enc at hu
  simp only [List.mem_cons, List.mem_nil_iff, or_false] at hu
  rcases hu with rfl | rfl | rfl | rfl | rfl | rfl <;> rfl
theorem encN_one' (zs : List KN) : ∀ u ∈ encN zs, u.oneCell' = true := fun u hu => by
  obtain ⟨z, _, h⟩ := List.mem_flatMap.1 hu
  exact enc_one' z u h
theorem infoNode : (Tryd.prog.info? 27).map (fun i => (i.zero, i.size)) = some (some (.agg #[.int .i64 0, .string ⟨#[]⟩, .string ⟨#[]⟩, .slice none 0 0, .slice none 0 0, .string ⟨#[]⟩]), 6) := by kernel_rfl
theorem info_node : ∃ i0, Tryd.prog.info? 27 = some i0 ∧ i0.zero = some (.agg #[.int .i64 0, .string ⟨#[]⟩, .string ⟨#[]⟩, .slice none 0 0, .slice none 0 0, .string ⟨#[]⟩]) ∧ i0.size = 6 := by
  have h := infoNode
  obtain ⟨i0, h1, h2⟩ := Option.map_eq_some_iff.1 h
  simp only [Prod.mk.injEq] at h2
  exact ⟨i0, h1, h2.1, h2.2⟩
/-- A row of nodes of the call's own. -/
def OwnN (W : World) (B : Nat) (q : Option Addr) (c : Nat) (zs : List KN) : Prop := W.ownsRow B 27 6 (.slice q zs.length c) zs.length (encN zs) ∧ zs.length ≤ c ∧ (q = none → c = 0)
theorem OwnN.nil (W : World) (B : Nat) : OwnN W B none 0 [] := ⟨⟨rfl, .inl ⟨rfl, rfl⟩⟩, Nat.le_refl _, fun _ => rfl⟩
theorem OwnN.block {W : World} {B : Nat} {q : Option Addr} {c : Nat} {zs : List KN} (h : OwnN W B q c zs) : ∀ b off, q = some ⟨b, off, none⟩ → B ≤ b ∧ b < W.heap.size ∧ off = 0 ∧ ∃ cur, W.heap[b]? = some (.cells cur 27 (0, 0)) := fun b off e => by
  rcases h.1.2 with ⟨e1, _⟩ | ⟨g, cap, cur, e1, hb, hh, _⟩
  · injection e1 with e2
    rw [e] at e2
    cases e2
  · injection e1 with e2
    rw [e] at e2
    injection e2 with e2
    injection e2 with e3 e4
    subst e3 e4
    exact ⟨hb, it_lt hh, rfl, cur, hh⟩
theorem OwnN.form {W : World} {B : Nat} {q : Option Addr} {c : Nat} {zs : List KN} (h : OwnN W B q c zs) (h0 : 0 < zs.length) : ∃ g, q = some ⟨g, 0, none⟩ := by
  rcases h.1.2 with ⟨_, e⟩ | ⟨g, cap, cur, e1, _⟩
  · omega
  · injection e1 with e2
    exact ⟨g, e2⟩
/-- It stands where its block stands. -/
theorem OwnN.keep {W W' : World} {B : Nat} {q : Option Addr} {c : Nat} {zs : List KN} (h : OwnN W B q c zs) (hk : ∀ b, q = some ⟨b, 0, none⟩ → W'.heap[b]? = W.heap[b]?) : OwnN W' B q c zs := by
  refine ⟨⟨h.1.1, ?_⟩, h.2⟩
  rcases h.1.2 with e | ⟨g, cap, cur, e1, hb, hh, hr⟩
  · exact .inl e
  · have e2 : q = some ⟨g, 0, none⟩ := by injection e1
    exact .inr ⟨g, cap, cur, e1, hb, (hk g e2).trans hh, hr⟩
theorem OwnN.below {W W' : World} {B : Nat} {q : Option Addr} {c : Nat} {zs : List KN} (h : OwnN W B q c zs) (b : Below W.heap.size W W') : OwnN W' B q c zs :=
  h.keep (fun g e => b.block g (h.block g 0 e).2.1)
theorem OwnN.cell {W : World} {B g c : Nat} {zs : List KN} (h : OwnN W B (some ⟨g, 0, none⟩) c zs) {i j : Nat} (hi : i < zs.length) (hj : j < 6) : W.cell? ⟨g, i * 6 + j, none⟩ = zs[i].enc[j]? := by
  rw [World.ownsRow.cellAt h.1 (i * 6 + j) (by omega), encN_at zs i j hi hj]
/-- A row of nodes in some block, wherever it begins. -/
def RowN (W : World) (a : Addr) (ys : List KN) : Prop := ∀ j u, (encN ys)[j]? = some u → W.cell? (a.add j) = some u
theorem RowN.one {W : World} {b : Nat} {z : KN} {T : TypeId} (h : W.heap[b]? = some (.cells z.enc.toArray T (0, 0))) : RowN W ⟨b, 0, none⟩ [z] := fun j u hu => by
  have ha : (⟨b, 0, none⟩ : Addr).add j = ⟨b, j, none⟩ := by unfold Addr.add; split <;> simp_all
  rw [encN_one] at hu
  rw [ha, cell_of_row _ _ _ _ _ _ h, ← hu]
  simp
theorem OwnN.row {W : World} {B g c : Nat} {zs : List KN} (h : OwnN W B (some ⟨g, 0, none⟩) c zs) : RowN W ⟨g, 0, none⟩ zs := fun j u hu => World.ownsRow.cells h.1 (g := g) rfl j u hu
/-- Nodes appended. -/
theorem appendN {W : World} {B : Nat} {q : Option Addr} {c : Nat} {zs : List KN} (h : OwnN W B q c zs) {a : Addr} {m : Nat} {ys : List KN} (hr : RowN W a ys) (hB : B ≤ W.heap.size) (hsz : zs.length + ys.length ≤ 8388608) :
    ∃ q' c' W', (∀ ty, (Builtin.append_ #[25, 25] ty #[.slice q zs.length c, .slice (some a) ys.length m]).run Tryd.prog W = .ok (.slice q' (zs ++ ys).length c') W') ∧
      OwnN W' B q' c' (zs ++ ys) ∧ W.grownBy W' (Value.slice q zs.length c).ownBlock ∧ (∀ g, q' = some ⟨g, 0, none⟩ → q = some ⟨g, 0, none⟩ ∨ g = W.heap.size) := by
  obtain ⟨i0, hi, hz0, hz1⟩ := info_node
  have hby : i0.bytes ≤ 1000000 := by
    have e : (Tryd.prog.info? 27).map (fun i => decide (i.bytes ≤ 1000000)) = some true := by kernel_rfl
    rw [hi] at e
    simpa using e
  obtain ⟨v', w', hrun, hown', hgrow, hne, hblk⟩ := run_append_own_at (P := Tryd.prog) (w := W) B 25 25 27 i0 _ 6 i0.bytes Tryd.underlying25 hi hz0 hz1 rfl rfl (by decide) _ zs.length (encN zs) h.1 a ys.length m (encN ys) (encN_len ys) hr (encN_one' ys)
    (by unfold maxLen; omega) (Nat.le_trans (Nat.mul_le_mul hsz hby) (by decide)) hB
  rw [← encN_cat] at hown'
  have hlen : (zs ++ ys).length = zs.length + ys.length := List.length_append
  rcases hown'.2 with ⟨e, h0⟩ | ⟨g, cap, cur, rfl, hb, hh, hc, h1, h2⟩
  · subst e
    refine ⟨none, 0, w', fun ty => ?_, ⟨?_, ?_, fun _ => rfl⟩, hgrow, fun g e => (by cases e)⟩
    · rw [hlen, h0, ← hrun]
      rfl
    · rw [hlen, h0]
      rw [h0] at hown'
      exact hown'
    · rw [hlen, h0]
      exact Nat.le_refl _
  · refine ⟨some ⟨g, 0, none⟩, cap, w', fun ty => ?_, ⟨by rw [hlen]; exact hown', by rw [hlen]; exact hc, fun e => (by cases e)⟩, hgrow, fun g' e => ?_⟩
    · rw [hlen, ← hrun]
      rfl
    · injection e with e
      injection e with e
      subst e
      rcases hblk with e | e
      · cases q with
        | none => cases e
        | some a' =>
          obtain ⟨g', rfl⟩ : ∃ g', a' = ⟨g', 0, none⟩ := by
            rcases h.1.2 with ⟨e1, _⟩ | ⟨g', _, _, e1, _⟩
            · cases e1
            · injection e1 with e1
              injection e1 with e1
              exact ⟨g', e1⟩
          injection e with e
          exact .inl (by rw [show g' = g from e.symm])
      · injection e with e
        exact .inr e
/-! ## a row of nodes as the kids of a node -/
/-- The nodes of a row, each at its place. -/
def placed (g : Nat) : Nat → List KN → List AT
  | _, [] => []
  | i, z :: r => z.t.put g (i * 6) :: placed g (i + 1) r
theorem placed_len (g : Nat) : ∀ (zs : List KN) (i : Nat), (placed g i zs).length = zs.length := fun zs => by
  induction zs with
  | nil => intro i; rfl
  | cons z r ih => intro i; rw [placed, List.length_cons, List.length_cons, ih]
theorem placed_at (g : Nat) : ∀ (zs : List KN) (i j : Nat) (h : j < zs.length) (h' : j < (placed g i zs).length), (placed g i zs)[j] = zs[j].t.put g ((i + j) * 6) := fun zs => by
  induction zs with
  | nil => intro i j h; simp at h
  | cons z r ih =>
    intro i j h h'
    cases j with
    | zero => rfl
    | succ j =>
      have := ih (i + 1) j (by simpa using h) (by simpa [placed] using h')
      simp only [placed, List.getElem_cons_succ, this]
      rw [show i + 1 + j = i + (j + 1) by omega]
theorem placed_plain (g : Nat) : ∀ (zs : List KN) (i : Nat), (placed g i zs).map AT.plain = zs.map (fun z => z.t.plain) := fun zs => by
  induction zs with
  | nil => intro i; rfl
  | cons z r ih => intro i; rw [placed, List.map_cons, List.map_cons, ih, AT.plain_put]
/-- What the nodes of a row stand on. -/
def StandN (W : World) (zs : List KN) : Prop := ∀ z ∈ zs, PartsAt W z.t z.pa z.ca z.pk z.ck ∧ KidsAt W z.t
theorem StandN.stay {W W' : World} {zs : List KN} (h : StandN W zs) (s : Stay W W') : StandN W' zs := fun z hz => ⟨(h z hz).1.stay s, (h z hz).2.stay s⟩
theorem placed_tree {W : World} {B g c : Nat} {zs : List KN} (h : OwnN W B (some ⟨g, 0, none⟩) c zs) (hs : StandN W zs) : ∀ k ∈ placed g 0 zs, TreeAt W k := fun k hk => by
  obtain ⟨j, hj, rfl⟩ := List.mem_iff_getElem.1 hk
  have hj' : j < zs.length := by rwa [placed_len] at hj
  rw [placed_at g zs 0 j hj' hj, Nat.zero_add]
  obtain ⟨h1, h2⟩ := hs _ (List.getElem_mem hj')
  refine TreeAt.mk ⟨zs[j].pa, zs[j].ca, zs[j].pk, zs[j].ck, put_parts _ _ h1, ?_⟩ (fun k hk => h2 k (by rwa [put_kids] at hk))
  rw [put_b, put_o]
  have e0 := h.cell hj' (j := 0) (by decide)
  have e1 := h.cell hj' (j := 1) (by decide)
  have e2 := h.cell hj' (j := 2) (by decide)
  have e3 := h.cell hj' (j := 3) (by decide)
  have e4 := h.cell hj' (j := 4) (by decide)
  have e5 := h.cell hj' (j := 5) (by decide)
  generalize zs[j] = z at *
  obtain ⟨t, pa, ca, pk, ck⟩ := z
  cases t
  exact ⟨e0, e1, e2, e3, e4, e5⟩
/-- The kids of a row's node: none where the row is empty. -/
def kidsOf (q : Option Addr) (zs : List KN) : List AT := match q with
  | some a => placed a.block 0 zs
  | none => []
theorem kidsOf_plain {W : World} {B : Nat} {q : Option Addr} {c : Nat} {zs : List KN} (h : OwnN W B q c zs) : (kidsOf q zs).map AT.plain = zs.map (fun z => z.t.plain) := by
  cases q with
  | some a => exact placed_plain a.block zs 0
  | none =>
    have : zs = [] := List.eq_nil_of_length_eq_zero (by have := h.2.2 rfl; have := h.2.1; omega)
    rw [this]
    rfl
theorem kidsOf_len {W : World} {B : Nat} {q : Option Addr} {c : Nat} {zs : List KN} (h : OwnN W B q c zs) : (kidsOf q zs).length = zs.length := by
  have := congrArg List.length (kidsOf_plain h)
  simpa using this
theorem kidsOf_tree {W : World} {B : Nat} {q : Option Addr} {c : Nat} {zs : List KN} (h : OwnN W B q c zs) (hs : StandN W zs) : ∀ k ∈ kidsOf q zs, TreeAt W k := by
  cases q with
  | none => intro k hk; cases hk
  | some a =>
    obtain ⟨b, off, sp⟩ := a
    by_cases h0 : 0 < zs.length
    · obtain ⟨g, e⟩ := h.form h0
      injection e with e
      injection e with e1 e2 e3
      subst e1 e2 e3
      exact placed_tree h hs
    · have : zs = [] := List.eq_nil_of_length_eq_zero (by omega)
      subst this
      intro k hk
      cases hk
/-- A node whose kids are such a row: its lists and texts. -/
theorem kidsOf_parts {W : World} {B : Nat} {q : Option Addr} {c : Nat} {zs : List KN} (h : OwnN W B q c zs) (hn : zs.length ≤ 8388608) {pa : Option Addr} {ca : Nat} {kd : Int} {u l s : ByteArray} {la : List AttrM} (hA : AttrsAt W pa la) (hac : la.length ≤ ca) (han : pa = none → ca = 0)
    (hk : -9223372036854775808 ≤ kd ∧ kd ≤ 9223372036854775807) (hu : u.size ≤ 140737488351232) (hl : l.size ≤ 140737488351232) (hs : s.size ≤ 140737488351232) (hal : la.length ≤ 140737488351232) (he : ∀ a ∈ la, a.uri.size ≤ 140737488351232 ∧ a.loc.size ≤ 140737488351232 ∧ a.val.size ≤ 140737488351232) (b o : Nat) :
    PartsAt W (.node b o kd u l la s (kidsOf q zs)) pa ca q c := by
  have hlen := kidsOf_len h
  refine ⟨hA, hac, han, fun h0 => ?_, ?_, h.2.2, hk, hu, hl, hs, hal, ?_, he⟩
  · have h0' : 0 < zs.length := by
      rw [← hlen]
      exact h0
    obtain ⟨g, rfl⟩ := h.form h0'
    refine ⟨g, 0, rfl, fun i hi => ?_⟩
    have hi' : i < (placed g 0 zs).length := hi
    have hi2 : i < zs.length := by rwa [placed_len] at hi'
    show (placed g 0 zs)[i].b = g ∧ (placed g 0 zs)[i].o = 0 + i * 6
    rw [placed_at g zs 0 i hi2 hi', put_b, put_o, Nat.zero_add]
    exact ⟨rfl, (Nat.zero_add _).symm⟩
  · show (kidsOf q zs).length ≤ c
    rw [hlen]
    exact h.2.1
  · show (kidsOf q zs).length ≤ _
    omega
end Go.Proofs.YtgcdbmpnddbcoaaDoor
