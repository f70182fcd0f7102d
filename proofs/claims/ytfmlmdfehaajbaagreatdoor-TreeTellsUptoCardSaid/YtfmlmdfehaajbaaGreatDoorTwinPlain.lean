/- Proved here: how the document's Twin stands in a round; what it answers. -/
import Derived.Test.YtfmlmdfehaajbaaGreatDoorPlainT
import Derived.Test.YtfmlmdfehaajbaaGreatDoorRowsV
import Derived.Test.YtfmlmdfehaajbaaGreatDoorTreeArg
import Derived.Test.YtfmlmdfehaajbaaGreatDoorAsks1
import Derived.Maps.AppendAt
import Derived.Laws.AppendOwn
namespace Go.Proofs.YtfmlmdfehaajbaaGreatDoor
open Go.RowKit Go.Shelf

def encN (zs : List KN) : List Value := zs.flatMap KN.enc
theorem enc_len (z : KN) : z.enc.length = 6 := rfl
theorem encN_len (zs : List KN) : (encN zs).length = zs.length * 6 := by
  induction zs with
  | nil => rfl
  | cons z r ih =>
    unfold encN at ih ⊢
    rw [List.flatMap_cons, List.length_append, ih, enc_len, List.length_cons]
    omega
theorem encN_cat (zs ys : List KN) : encN (zs ++ ys) = encN zs ++ encN ys := List.flatMap_append
theorem encN_one (z : KN) : encN [z] = z.enc := by unfold encN; simp
theorem encN_at : ∀ (zs : List KN) (i j : Nat) (h : i < zs.length), j < 6 → (encN zs)[i * 6 + j]? = zs[i].enc[j]? := fun zs => by
  induction zs with
  | nil => intro i j h; simp at h
  | cons z r ih =>
    intro i j h hj
    unfold encN
    rw [List.flatMap_cons]
    cases i with
    | zero =>
      rw [List.getElem?_append_left (by rw [enc_len]; omega), Nat.zero_mul, Nat.zero_add]
      rfl
    | succ i =>
      rw [List.getElem?_append_right (by rw [enc_len]; omega), enc_len, show (i + 1) * 6 + j - 6 = i * 6 + j by omega]
      exact ih i j (by simpa using h) hj
theorem enc_one' (z : KN) : ∀ u ∈ z.enc, u.oneCell' = true := by
  intro u hu
  unfold KN.enc at hu
  simp only [List.mem_cons, List.mem_nil_iff, or_false] at hu
  rcases hu with rfl | rfl | rfl | rfl | rfl | rfl <;> rfl
theorem encN_one' (zs : List KN) : ∀ u ∈ encN zs, u.oneCell' = true := fun u hu => by
  obtain ⟨z, _, h⟩ := List.mem_flatMap.1 hu
  exact enc_one' z u h
theorem infoNode : (Tryz.prog.info? 27).map (fun i => (i.zero, i.size)) = some (some (.agg #[.int .i64 0, .string ⟨#[]⟩, .string ⟨#[]⟩, .slice none 0 0, .slice none 0 0, .string ⟨#[]⟩]), 6) := by kernel_rfl
theorem info_node : ∃ i0, Tryz.prog.info? 27 = some i0 ∧ i0.zero = some (.agg #[.int .i64 0, .string ⟨#[]⟩, .string ⟨#[]⟩, .slice none 0 0, .slice none 0 0, .string ⟨#[]⟩]) ∧ i0.size = 6 := by
  have h := infoNode
  obtain ⟨i0, h1, h2⟩ := Option.map_eq_some_iff.1 h
  simp only [Prod.mk.injEq] at h2
  exact ⟨i0, h1, h2.1, h2.2⟩
/-- A row of nodes of the call's own. -/
def OwnN (W : World) (B : Nat) (q : Option Addr) (c : Nat) (zs : List KN) : Prop := W.ownsRow B 27 6 (.slice q zs.length c) zs.length (encN zs) ∧ zs.length ≤ c ∧ (q = none → c = 0)
theorem OwnN.nil (W : World) (B : Nat) : OwnN W B none 0 [] := ⟨⟨rfl, .inl ⟨rfl, rfl⟩⟩, Nat.le_refl _, fun _ => rfl⟩
theorem OwnN.block {W : World} {B : Nat} {q : Option Addr} {c : Nat} {zs : List KN} (h : OwnN W B q c zs) : ∀ b off, q = some ⟨b, off, none⟩ → B ≤ b ∧ b < W.heap.size ∧ off = 0 ∧ ∃ cur, W.heap[b]? = some (.cells cur 27 (0, 0)) := fun b off e => by
  rcases h.1.2 with ⟨e1, _⟩ | ⟨g, cap, cur, e1, hb, hh, _⟩
  · injection e1 with e2
    rw [e] at e2
    cases e2
  · injection e1 with e2
    rw [e] at e2
    injection e2 with e2
    injection e2 with e3 e4
    subst e3 e4
    exact ⟨hb, it_lt hh, rfl, cur, hh⟩
theorem OwnN.form {W : World} {B : Nat} {q : Option Addr} {c : Nat} {zs : List KN} (h : OwnN W B q c zs) (h0 : 0 < zs.length) : ∃ g, q = some ⟨g, 0, none⟩ := by
  rcases h.1.2 with ⟨_, e⟩ | ⟨g, cap, cur, e1, _⟩
  · omega
  · injection e1 with e2
    exact ⟨g, e2⟩
/-- It stands where its block stands. -/
theorem OwnN.keep {W W' : World} {B : Nat} {q : Option Addr} {c : Nat} {zs : List KN} (h : OwnN W B q c zs) (hk : ∀ b, q = some ⟨b, 0, none⟩ → W'.heap[b]? = W.heap[b]?) : OwnN W' B q c zs := by
  refine ⟨⟨h.1.1, ?_⟩, h.2⟩
  rcases h.1.2 with e | ⟨g, cap, cur, e1, hb, hh, hr⟩
  · exact .inl e
  · have e2 : q = some ⟨g, 0, none⟩ := by injection e1
    exact .inr ⟨g, cap, cur, e1, hb, (hk g e2).trans hh, hr⟩
theorem OwnN.below {W W' : World} {B : Nat} {q : Option Addr} {c : Nat} {zs : List KN} (h : OwnN W B q c zs) (b : Below W.heap.size W W') : OwnN W' B q c zs :=
  h.keep (fun g e => b.block g (h.block g 0 e).2.1)
theorem OwnN.cell {W : World} {B g c : Nat} {zs : List KN} (h : OwnN W B (some ⟨g, 0, none⟩) c zs) {i j : Nat} (hi : i < zs.length) (hj : j < 6) : W.cell? ⟨g, i * 6 + j, none⟩ = zs[i].enc[j]? := by
  rw [World.ownsRow.cellAt h.1 (i * 6 + j) (by omega), encN_at zs i j hi hj]
/-- A row of nodes in some block, wherever it begins. -/
def RowN (W : World) (a : Addr) (ys : List KN) : Prop := ∀ j u, (encN ys)[j]? = some u → W.cell? (a.add j) = some u
theorem RowN.one {W : World} {b : Nat} {z : KN} {T : TypeId} (h : W.heap[b]? = some (.cells z.enc.toArray T (0, 0))) : RowN W ⟨b, 0, none⟩ [z] := fun j u hu => by
  have ha : (⟨b, 0, none⟩ : Addr).add j = ⟨b, j, none⟩ := by unfold Addr.add; split <;> simp_all
  rw [encN_one] at hu
  rw [ha, cell_of_row _ _ _ _ _ _ h, ← hu]
  simp
theorem OwnN.row {W : World} {B g c : Nat} {zs : List KN} (h : OwnN W B (some ⟨g, 0, none⟩) c zs) : RowN W ⟨g, 0, none⟩ zs := fun j u hu => World.ownsRow.cells h.1 (g := g) rfl j u hu
/-- Nodes appended. -/
theorem appendN {W : World} {B : Nat} {q : Option Addr} {c : Nat} {zs : List KN} (h : OwnN W B q c zs) {a : Addr} {m : Nat} {ys : List KN} (hr : RowN W a ys) (hB : B ≤ W.heap.size) (hsz : zs.length + ys.length ≤ 8388608) :
    ∃ q' c' W', (∀ ty, (Builtin.append_ #[25, 25] ty #[.slice q zs.length c, .slice (some a) ys.length m]).run Tryz.prog W = .ok (.slice q' (zs ++ ys).length c') W') ∧
      OwnN W' B q' c' (zs ++ ys) ∧ W.grownBy W' (Value.slice q zs.length c).ownBlock ∧ (∀ g, q' = some ⟨g, 0, none⟩ → q = some ⟨g, 0, none⟩ ∨ g = W.heap.size) := by
  obtain ⟨i0, hi, hz0, hz1⟩ := info_node
  have hby : i0.bytes ≤ 1000000 := by
    have e : (Tryz.prog.info? 27).map (fun i => decide (i.bytes ≤ 1000000)) = some true := by kernel_rfl
    rw [hi] at e
    simpa using e
  obtain ⟨v', w', hrun, hown', hgrow, hne, hblk⟩ := run_append_own_at (P := Tryz.prog) (w := W) B 25 25 27 i0 _ 6 i0.bytes Tryz.underlying25 hi hz0 hz1 rfl rfl (by decide) _ zs.length (encN zs) h.1 a ys.length m (encN ys) (encN_len ys) hr (encN_one' ys)
    (by unfold maxLen; omega) (Nat.le_trans (Nat.mul_le_mul hsz hby) (by decide)) hB
  rw [← encN_cat] at hown'
  have hlen : (zs ++ ys).length = zs.length + ys.length := List.length_append
  rcases hown'.2 with ⟨e, h0⟩ | ⟨g, cap, cur, rfl, hb, hh, hc, h1, h2⟩
  · subst e
    refine ⟨none, 0, w', fun ty => ?_, ⟨?_, ?_, fun _ => rfl⟩, hgrow, fun g e => (by cases e)⟩
    · rw [hlen, h0, ← hrun]
      rfl
    · rw [hlen, h0]
      rw [h0] at hown'
      exact hown'
    · rw [hlen, h0]
      exact Nat.le_refl _
  · refine ⟨some ⟨g, 0, none⟩, cap, w', fun ty => ?_, ⟨by rw [hlen]; exact hown', by rw [hlen]; exact hc, fun e => (by cases e)⟩, hgrow, fun g' e => ?_⟩
    · rw [hlen, ← hrun]
      rfl
    · injection e with e
      injection e with e
      subst e
      rcases hblk with e | e
      · cases q with
        | none => cases e
        | some a' =>
          obtain ⟨g', rfl⟩ : ∃ g', a' = ⟨g', 0, none⟩ := by
            rcases h.1.2 with ⟨e1, _⟩ | ⟨g', _, _, e1, _⟩
            · cases e1
            · injection e1 with e1
              injection e1 with e1
              exact ⟨g', e1⟩
          injection e with e
          exact .inl (by rw [show g' = g from e.symm])
      · injection e with e
        exact .inr e
/-! ## a row of nodes as the kids of a node -/
/-- The nodes of a row, each at its place. -/
def placed (g : Nat) : Nat → List KN → List AT
  | _, [] => []
  | i, z :: r => z.t.put g (i * 6) :: placed g (i + 1) r
theorem placed_len (g : Nat) : ∀ (zs : List KN) (i : Nat), (placed g i zs).length = zs.length := fun zs => by
  induction zs with
  | nil => intro i; rfl
  | cons z r ih => intro i; rw [placed, List.length_cons, List.length_cons, ih]
theorem placed_at (g : Nat) : ∀ (zs : List KN) (i j : Nat) (h : j < zs.length) (h' : j < (placed g i zs).length), (placed g i zs)[j] = zs[j].t.put g ((i + j) * 6) := fun zs => by
  induction zs with
  | nil => intro i j h; simp at h
  | cons z r ih =>
    intro i j h h'
    cases j with
    | zero => rfl
    | succ j =>
      have := ih (i + 1) j (by simpa using h) (by simpa [placed] using h')
      simp only [placed, List.getElem_cons_succ, this]
      rw [show i + 1 + j = i + (j + 1) by omega]
theorem placed_plain (g : Nat) : ∀ (zs : List KN) (i : Nat), (placed g i zs).map AT.plain = zs.map (fun z => z.t.plain) := fun zs => by
  induction zs with
  | nil => intro i; rfl
  | cons z r ih => intro i; rw [placed, List.map_cons, List.map_cons, ih, AT.plain_put]
/-- What the nodes of a row stand on. -/
def StandN (W : World) (zs : List KN) : Prop := ∀ z ∈ zs, PartsAt W z.t z.pa z.ca z.pk z.ck ∧ KidsAt W z.t
theorem StandN.stay {W W' : World} {zs : List KN} (h : StandN W zs) (s : Stay W W') : StandN W' zs := fun z hz => ⟨(h z hz).1.stay s, (h z hz).2.stay s⟩
theorem placed_tree {W : World} {B g c : Nat} {zs : List KN} (h : OwnN W B (some ⟨g, 0, none⟩) c zs) (hs : StandN W zs) : ∀ k ∈ placed g 0 zs, TreeAt W k := fun k hk => by
  obtain ⟨j, hj, rfl⟩ := List.mem_iff_getElem.1 hk
  have hj' : j < zs.length := by rwa [placed_len] at hj
  rw [placed_at g zs 0 j hj' hj, Nat.zero_add]
  obtain ⟨h1, h2⟩ := hs _ (List.getElem_mem hj')
  refine TreeAt.mk ⟨zs[j].pa, zs[j].ca, zs[j].pk, zs[j].ck, put_parts _ _ h1, ?_⟩ (fun k hk => h2 k (by rwa [put_kids] at hk))
  rw [put_b, put_o]
  have e0 := h.cell hj' (j := 0) (by decide)
  have e1 := h.cell hj' (j := 1) (by decide)
  have e2 := h.cell hj' (j := 2) (by decide)
  have e3 := h.cell hj' (j := 3) (by decide)
  have e4 := h.cell hj' (j := 4) (by decide)
  have e5 := h.cell hj' (j := 5) (by decide)
  generalize zs[j] = z at *
  obtain ⟨t, pa, ca, pk, ck⟩ := z
  cases t
  exact ⟨e0, e1, e2, e3, e4, e5⟩
/-- The kids of a row's node: none where the row is empty. -/
def kidsOf (q : Option Addr) (zs : List KN) : List AT := match q with
  | some a => placed a.block 0 zs
  | none => []
theorem kidsOf_plain {W : World} {B : Nat} {q : Option Addr} {c : Nat} {zs : List KN} (h : OwnN W B q c zs) : (kidsOf q zs).map AT.plain = zs.map (fun z => z.t.plain) := by
  cases q with
  | some a => exact placed_plain a.block zs 0
  | none =>
    have : zs = [] := List.eq_nil_of_length_eq_zero (by have := h.2.2 rfl; have := h.2.1; omega)
    rw [this]
    rfl
theorem kidsOf_len {W : World} {B : Nat} {q : Option Addr} {c : Nat} {zs : List KN} (h : OwnN W B q c zs) : (kidsOf q zs).length = zs.length := by
  have := congrArg List.length (kidsOf_plain h)
  simpa using this
theorem kidsOf_tree {W : World} {B : Nat} {q : Option Addr} {c : Nat} {zs : List KN} (h : OwnN W B q c zs) (hs : StandN W zs) : ∀ k ∈ kidsOf q zs, TreeAt W k := by
  cases q with
  | none => intro k hk; cases hk
  | some a =>
    obtain ⟨b, off, sp⟩ := a
    by_cases h0 : 0 < zs.length
    · obtain ⟨g, e⟩ := h.form h0
      injection e with e
      injection e with e1 e2 e3
      subst e1 e2 e3
      exact placed_tree h hs
    · have : zs = [] := List.eq_nil_of_length_eq_zero (by omega)
      subst this
      intro k hk
      cases hk
/-- A node whose kids are such a row: its lists and texts. -/
theorem kidsOf_parts {W : World} {B : Nat} {q : Option Addr} {c : Nat} {zs : List KN} (h : OwnN W B q c zs) (hn : zs.length ≤ 8388608) {pa : Option Addr} {ca : Nat} {kd : Int} {u l s : ByteArray} {la : List AttrM} (hA : AttrsAt W pa la) (hac : la.length ≤ ca) (han : pa = none → ca = 0)
    (hk : -9223372036854775808 ≤ kd ∧ kd ≤ 9223372036854775807) (hu : u.size ≤ 140737488351232) (hl : l.size ≤ 140737488351232) (hs : s.size ≤ 140737488351232) (hal : la.length ≤ 140737488351232) (he : ∀ a ∈ la, a.uri.size ≤ 140737488351232 ∧ a.loc.size ≤ 140737488351232 ∧ a.val.size ≤ 140737488351232) (b o : Nat) :
    PartsAt W (.node b o kd u l la s (kidsOf q zs)) pa ca q c := by
  have hlen := kidsOf_len h
  refine ⟨hA, hac, han, fun h0 => ?_, ?_, h.2.2, hk, hu, hl, hs, hal, ?_, he⟩
  · have h0' : 0 < zs.length := by
      rw [← hlen]
      exact h0
    obtain ⟨g, rfl⟩ := h.form h0'
    refine ⟨g, 0, rfl, fun i hi => ?_⟩
    have hi' : i < (placed g 0 zs).length := hi
    have hi2 : i < zs.length := by rwa [placed_len] at hi'
    show (placed g 0 zs)[i].b = g ∧ (placed g 0 zs)[i].o = 0 + i * 6
    rw [placed_at g zs 0 i hi2 hi', put_b, put_o, Nat.zero_add]
    exact ⟨rfl, (Nat.zero_add _).symm⟩
  · show (kidsOf q zs).length ≤ c
    rw [hlen]
    exact h.2.1
  · show (kidsOf q zs).length ≤ _
    omega
end Go.Proofs.YtfmlmdfehaajbaaGreatDoor
namespace Go.Proofs.YtfmlmdfehaajbaaGreatDoor
open Go.RowKit Go.Shelf

def encA (la : List AttrM) : List Value := la.flatMap AttrM.enc
theorem encA_len (la : List AttrM) : (encA la).length = la.length * 3 := by
  induction la with
  | nil => rfl
  | cons z r ih =>
    unfold encA at ih ⊢
    rw [List.flatMap_cons, List.length_append, ih, List.length_cons]
    show 3 + _ = _
    omega
theorem encA_at : ∀ (la : List AttrM) (i j : Nat) (h : i < la.length), j < 3 → (encA la)[i * 3 + j]? = la[i].enc[j]? := fun la => by
  induction la with
  | nil => intro i j h; simp at h
  | cons z r ih =>
    intro i j h hj
    have hz : z.enc.length = 3 := rfl
    unfold encA
    rw [List.flatMap_cons]
    cases i with
    | zero =>
      rw [List.getElem?_append_left (by omega), Nat.zero_mul, Nat.zero_add]
      rfl
    | succ i =>
      rw [List.getElem?_append_right (by omega), hz, show (i + 1) * 3 + j - 3 = i * 3 + j by omega]
      exact ih i j (by simpa using h) hj
theorem encA_one (la : List AttrM) : ∀ u ∈ encA la, u.oneCell' = true := fun u hu => by
  obtain ⟨z, _, h⟩ := List.mem_flatMap.1 hu
  unfold AttrM.enc at h
  simp only [List.mem_cons, List.mem_nil_iff, or_false] at h
  rcases h with rfl | rfl | rfl <;> rfl
theorem attrs_cells {W : World} {b off : Nat} {la : List AttrM} (hc : ∀ j (h : j < la.length), W.cell? ⟨b, off + j * 3, none⟩ = some (.string la[j].uri) ∧ W.cell? ⟨b, off + j * 3 + 1, none⟩ = some (.string la[j].loc) ∧ W.cell? ⟨b, off + j * 3 + 2, none⟩ = some (.string la[j].val)) :
    ∀ j u, (encA la)[j]? = some u → W.cell? ((⟨b, off, none⟩ : Addr).add j) = some u := fun j u hu => by
  have hlt := (List.getElem?_eq_some_iff.1 hu).1
  rw [encA_len] at hlt
  have ha : (⟨b, off, none⟩ : Addr).add j = ⟨b, off + j, none⟩ := by unfold Addr.add; split <;> simp_all
  have hi : j / 3 < la.length := by omega
  have hj : j = j / 3 * 3 + j % 3 := by omega
  have h3 : j % 3 < 3 := Nat.mod_lt _ (by decide)
  rw [hj, encA_at la _ _ hi h3] at hu
  rw [ha]
  obtain ⟨c0, c1, c2⟩ := hc (j / 3) hi
  have cases3 : j % 3 = 0 ∨ j % 3 = 1 ∨ j % 3 = 2 := by omega
  rcases cases3 with e | e | e <;> rw [e] at hu
  · have e2 : u = .string la[j / 3].uri := by simpa [AttrM.enc] using hu.symm
    rw [e2, show off + j = off + j / 3 * 3 by omega]; exact c0
  · have e2 : u = .string la[j / 3].loc := by simpa [AttrM.enc] using hu.symm
    rw [e2, show off + j = off + j / 3 * 3 + 1 by omega]; exact c1
  · have e2 : u = .string la[j / 3].val := by simpa [AttrM.enc] using hu.symm
    rw [e2, show off + j = off + j / 3 * 3 + 2 by omega]; exact c2
theorem infoAttr : (Tryz.prog.info? 67).map (fun i => (i.zero, i.size)) = some (some (.agg #[.string ⟨#[]⟩, .string ⟨#[]⟩, .string ⟨#[]⟩]), 3) := by kernel_rfl
/-- 'append([]Attr{}, l...)', wherever the literal lies. -/
theorem copyA {W : World} {A B : Nat} (hA : W.heap[A]? = some (.cells #[] 67 (0, 0))) (hB : B ≤ A) {pa : Option Addr} {ca : Nat} {la : List AttrM} (hl : AttrsAt W pa la) (hn : pa = none → ca = 0) (hca : la.length ≤ ca) (hsz : la.length ≤ 8388608) :
    ∃ g c' W', (∀ ty, (Builtin.append_ #[24, 24] ty #[.slice (some ⟨A, 0, none⟩) 0 0, .slice pa la.length ca]).run Tryz.prog W = .ok (.slice (some ⟨g, 0, none⟩) la.length c') W') ∧ AttrsAt W' (some ⟨g, 0, none⟩) la ∧ la.length ≤ c' ∧
      (∀ k, k < W.heap.size → k ≠ A → W'.heap[k]? = W.heap[k]?) ∧ W'.os = W.os ∧ W'.tape = W.tape ∧ W'.output = W.output ∧ W.heap.size ≤ W'.heap.size ∧ (g = A ∨ g = W.heap.size) ∧ g < W'.heap.size ∧ ∃ cur, W'.heap[g]? = some (.cells cur 67 (0, 0)) := by
  obtain ⟨i0, hi, h2⟩ := Option.map_eq_some_iff.1 infoAttr
  simp only [Prod.mk.injEq] at h2
  obtain ⟨hz0, hz1⟩ := h2
  have hby : i0.bytes ≤ 1000000 := by
    have e : (Tryz.prog.info? 67).map (fun i => decide (i.bytes ≤ 1000000)) = some true := by kernel_rfl
    rw [hi] at e
    simpa using e
  have hlt := it_lt hA
  have hown : W.ownsRow B 67 3 (.slice (some ⟨A, 0, none⟩) 0 0) 0 [] := ⟨by simp, .inr ⟨A, 0, #[], rfl, hB, hA, Nat.le_refl _, by unfold maxLen; omega, by simp, by simp⟩⟩
  have fin : ∀ (a : Addr) (m : Nat), pa = some a → (∀ j u, (encA la)[j]? = some u → W.cell? (a.add j) = some u) → _ := fun a m e hcells => run_append_own_at (P := Tryz.prog) (w := W) B 24 24 67 i0 _ 3 i0.bytes Tryz.underlying24 hi hz0 hz1 rfl rfl (by decide) _ 0 [] hown a la.length m (encA la) (encA_len la) hcells (encA_one la)
    (by unfold maxLen; omega) (Nat.le_trans (Nat.mul_le_mul (show 0 + la.length ≤ 8388608 by omega) hby) (by decide)) (by omega)
  cases pa with
  | none =>
    have hc0 := hn rfl
    have hl0 : la = [] := List.eq_nil_of_length_eq_zero (by omega)
    subst hc0 hl0
    have hrun := fun ty => run_append_owned_none (P := Tryz.prog) (w := W) B 24 ty 67 i0 3 Tryz.underlying24 hi _ 0 [] hown
    exact ⟨A, 0, _, hrun, fun h => absurd h (by decide), Nat.le_refl _, fun _ _ _ => rfl, rfl, rfl, rfl, Nat.le_refl _, .inl rfl, hlt, _, hA⟩
  | some a =>
    have hcells : ∀ j u, (encA la)[j]? = some u → W.cell? (a.add j) = some u := by
      by_cases h0 : 0 < la.length
      · obtain ⟨b, off, e, hc⟩ := hl h0
        injection e with e
        subst e
        exact attrs_cells hc
      · have : la = [] := List.eq_nil_of_length_eq_zero (by omega)
        subst this
        intro j u hu
        simp [encA] at hu
    obtain ⟨v', W', hrun, hown', hgrow, hne, hat⟩ := fin a ca rfl hcells
    rw [Nat.zero_add, List.nil_append] at hown'
    have hv : v' ≠ .slice none 0 0 := fun e => by
      have := (hne.1 e).1
      cases this
    have hown2 := hown'
    rcases hown'.2 with ⟨e, _⟩ | ⟨g, cap', cur', rfl, hb, hh', hc, _⟩
    · exact absurd e hv
    · refine ⟨g, cap', W', fun ty => by rw [← hrun]; rfl, fun _ => ⟨g, 0, rfl, fun j hj => ?_⟩, hc, fun k hk hne => hgrow.block k hk (fun e => hne (by injection e)), hgrow.os, hgrow.tape, hgrow.output, hgrow.size, ?_, it_lt hh', _, hh'⟩
      · have e0 := World.ownsRow.cellAt hown2 (j * 3) (by omega)
        have e1 := World.ownsRow.cellAt hown2 (j * 3 + 1) (by omega)
        have e2 := World.ownsRow.cellAt hown2 (j * 3 + 2) (by omega)
        have q0 := encA_at la j 0 hj (by decide)
        rw [Nat.add_zero] at q0
        rw [q0] at e0
        rw [encA_at la j 1 hj (by decide)] at e1
        rw [encA_at la j 2 hj (by decide)] at e2
        rw [Nat.zero_add]
        exact ⟨e0, e1, e2⟩
      · rcases hat with h | h
        · exact .inl (by simpa [Value.ownBlock] using h)
        · exact .inr (by simpa [Value.ownBlock] using h)
end Go.Proofs.YtfmlmdfehaajbaaGreatDoor
namespace Go.Proofs.YtfmlmdfehaajbaaGreatDoor
open Go.RowKit Go.Shelf

theorem set_row6 {w : World} {G k : Nat} {row : Array Value} {T : TypeId} (v : Value) (h : w.heap[G]? = some (.cells row T)) : (w.setCell ⟨G, k, none⟩ v).heap[G]? = some (.cells (row.setIfInBounds k v) T) := by
  show (w.heap.modify G _)[G]? = _
  rw [Array.getElem?_modify, if_pos rfl, h]
  rfl
theorem set_oth6 {w : World} {p : Addr} {v : Value} {k : Nat} (h : k ≠ p.block) : (w.setCell p v).heap[k]? = w.heap[k]? := Below.heap_setCell w p v k h
/-- What Twin answers: the same tree, in blocks that weren't there. -/
def TwinOut (w : World) (t : AT) (e : Ending) (W : World) : Prop := ∃ T pa ca pk ck, e = .returned (nodeV T pa ca pk ck) ∧ T.plain = t.plain ∧ Below w.heap.size w W ∧ ∀ W', (∀ k, k < W.heap.size → w.heap.size ≤ k → W'.heap[k]? = W.heap[k]?) → PartsAt W' T pa ca pk ck ∧ KidsAt W' T
/-- How Twin stands in a round: what it makes lies at O. -/
structure TSt (w : World) (O : Nat) (kd : Int) (u l s : ByteArray) (la : List AttrM) (pa : Option Addr) (ca : Nat) (q : Option Addr) (c : Nat) (zs : List KN) (W : World) : Prop where
  below : Below w.heap.size w W
  res : W.heap[w.heap.size + 1]? = some (.cells #[.int .i64 0, .string ⟨#[]⟩, .string ⟨#[]⟩, .slice none 0 0, .slice none 0 0, .string ⟨#[]⟩] 27)
  out : W.heap[O]? = some (.cells #[.int .i64 kd, .string u, .string l, .slice pa la.length ca, .slice q zs.length c, .string s] 27)
  hO : w.heap.size + 2 ≤ O
  own : OwnN W (w.heap.size + 2) q c zs
  qO : q ≠ some ⟨O, 0, none⟩
  acap : la.length ≤ ca
  anil : pa = none → ca = 0
  live : ∀ W', (∀ k, k < W.heap.size → w.heap.size + 2 ≤ k → k ≠ O → q ≠ some ⟨k, 0, none⟩ → W'.heap[k]? = W.heap[k]?) → StandN W' zs ∧ AttrsAt W' pa la
theorem TSt.far {w : World} {O : Nat} {kd : Int} {u l s : ByteArray} {la : List AttrM} {pa : Option Addr} {ca : Nat} {q : Option Addr} {c : Nat} {zs : List KN} {W W' : World} (h : TSt w O kd u l s la pa ca q c zs W) (k : Below W.heap.size W W') : TSt w O kd u l s la pa ca q c zs W' where
  below := h.below.trans (k.mono h.below.size)
  res := (k.block _ (it_lt h.res)).trans h.res
  out := (k.block _ (it_lt h.out)).trans h.out
  hO := h.hO
  own := h.own.below k
  qO := h.qO
  acap := h.acap
  anil := h.anil
  live := fun X hX => h.live X (fun j hj h1 h2 h3 => (hX j (Nat.lt_of_lt_of_le hj k.size) h1 h2 h3).trans (k.block j hj))
/-- A kid more. -/
theorem TSt.more {w : World} {O : Nat} {kd : Int} {u l s : ByteArray} {la : List AttrM} {pa : Option Addr} {ca : Nat} {q : Option Addr} {c : Nat} {zs : List KN} {V W W2 : World} {z : KN} (hV : TSt w O kd u l s la pa ca q c zs V)
    (hz : ∀ W', (∀ k, k < W.heap.size → V.heap.size ≤ k → W'.heap[k]? = W.heap[k]?) → PartsAt W' z.t z.pa z.ca z.pk z.ck ∧ KidsAt W' z.t) (hb : Below V.heap.size V W) (hW2 : W.alloc (.cells z.enc.toArray 27) = W2) (hsz : zs.length + 1 ≤ 8388608) :
    ∃ q' c' W3, (∀ ty, (Builtin.append_ #[25, 25] ty #[.slice q zs.length c, .slice (some ⟨W.heap.size, 0, none⟩) 1 1]).run Tryz.prog W2 = .ok (.slice q' (zs.length + 1) c') W3) ∧
      TSt w O kd u l s la pa ca q' c' (zs ++ [z]) (W3.setCell ⟨O, 4, none⟩ (.slice q' (zs.length + 1) c')) ∧ (∀ k, k < W2.heap.size → V.heap.size ≤ k → W3.heap[k]? = W2.heap[k]?) ∧
      W3.heap[O]? = some (.cells #[.int .i64 kd, .string u, .string l, .slice pa la.length ca, .slice q zs.length c, .string s] 27) ∧ (∀ k, k < w.heap.size + 2 → W3.heap[k]? = W2.heap[k]?) := by
  have hW := hV.far hb
  have b2 : Below W.heap.size W W2 := by rw [← hW2]; exact (Below.refl _ _).alloc (Nat.le_refl _) _
  have h2 := hW.far b2
  have hrow : W2.heap[W.heap.size]? = some (.cells z.enc.toArray 27 (0, 0)) := by rw [← hW2]; exact heap_alloc_new _ _
  have hs2 : W2.heap.size = W.heap.size + 1 := by rw [← hW2]; simp
  have hsV := hb.size
  have hres := it_lt hV.res
  have hout := it_lt hV.out
  have hO := hV.hO
  obtain ⟨q', c', W3, hrun, hown, hgrow, hq'⟩ := appendN (m := 1) h2.own (RowN.one hrow) (by omega) (by simpa using hsz)
  have hlen : (zs ++ [z]).length = zs.length + 1 := by simp
  rw [hlen] at hrun
  have hqb : ∀ k, (Value.slice q zs.length c).ownBlock = some k → w.heap.size + 2 ≤ k ∧ k < V.heap.size ∧ q = some ⟨k, 0, none⟩ := fun k hk => by
    cases q with
    | none => cases hk
    | some a =>
      have e : a.block = k := by simpa [Value.ownBlock] using hk
      obtain ⟨b, off, sp⟩ := a
      subst e
      rcases hV.own.1.2 with ⟨e1, _⟩ | ⟨g, cap, cur, e1, hbb, hh, _⟩
      · cases e1
      · injection e1 with e2
        injection e2 with e2
        injection e2 with e3 e4 e5
        subst e3 e4 e5
        exact ⟨hbb, it_lt hh, rfl⟩
  have keep : ∀ k, k < W2.heap.size → q ≠ some ⟨k, 0, none⟩ → W3.heap[k]? = W2.heap[k]? := fun k hk hne => hgrow.block k hk (fun e => hne (hqb k e.symm).2.2)
  have hB1 : ∀ k, k < w.heap.size + 2 → q ≠ some ⟨k, 0, none⟩ := fun k hk e => by
    have := (hV.own.block _ _ e).1
    omega
  have hq0 : ∀ k, q' = some ⟨k, 0, none⟩ → w.heap.size + 2 ≤ k := fun k e => (hown.block _ _ e).1
  have hqO : q' ≠ some ⟨O, 0, none⟩ := fun e => by
    rcases hq' O e with h | h
    · exact hV.qO h
    · omega
  have b3 : Below w.heap.size w W3 := ⟨hgrow.os.trans h2.below.os, hgrow.tape.trans h2.below.tape, hgrow.output.trans h2.below.output, Nat.le_trans h2.below.size hgrow.size, fun k hk => (keep k (by have := h2.below.size; omega) (hB1 k (by omega))).trans (h2.below.block k hk)⟩
  refine ⟨q', c', W3, hrun, ⟨b3.setCell (p := ⟨O, 4, none⟩) (by show w.heap.size ≤ O; omega) _, ?_, ?_, hO, ?_, hqO, hV.acap, hV.anil, ?_⟩, fun k hk hV' => keep k hk (fun e => by have := (hV.own.block _ _ e).2.1; omega), (keep _ (it_lt h2.out) hV.qO).trans h2.out, fun k hk => keep k (by omega) (hB1 k hk)⟩
  · exact (set_oth6 (by show w.heap.size + 1 ≠ O; omega)).trans ((keep _ (it_lt h2.res) (hB1 _ (by omega))).trans h2.res)
  · rw [hlen]
    have := set_row6 (k := 4) (.slice q' (zs.length + 1) c') ((keep _ (it_lt h2.out) hV.qO).trans h2.out)
    simpa using this
  · exact hown.keep (fun g e => set_oth6 (by show g ≠ O; intro e2; rw [e2] at e; exact hqO e))
  · intro X hX
    have size4 : (W3.setCell ⟨O, 4, none⟩ (.slice q' (zs.length + 1) c')).heap.size = W3.heap.size := by simp [World.setCell]
    have agree : ∀ k, k < W2.heap.size → w.heap.size + 2 ≤ k → k ≠ O → q ≠ some ⟨k, 0, none⟩ → X.heap[k]? = W2.heap[k]? := fun k hk hs hkO hne => by
      have hk3 : k < W3.heap.size := Nat.lt_of_lt_of_le hk hgrow.size
      refine (hX k (by rw [size4]; exact hk3) hs hkO (fun e => ?_)).trans ((set_oth6 hkO).trans (keep k hk hne))
      rcases hq' k e with h | h
      · exact hne h
      · omega
    obtain ⟨g1, g2⟩ := h2.live X agree
    refine ⟨fun y hy => ?_, g2⟩
    rcases List.mem_append.1 hy with hy | hy
    · exact g1 y hy
    · rw [List.mem_singleton.1 hy]
      exact hz X (fun k hk hs => (agree k (by omega) (by omega) (by omega) (fun e => by have := (hV.own.block _ _ e).2.1; omega)).trans (b2.block k hk))
/-- What Twin leaves behind. -/
theorem TSt.fin {w : World} {O : Nat} {kd : Int} {u l s : ByteArray} {la : List AttrM} {pa : Option Addr} {ca : Nat} {q : Option Addr} {c : Nat} {zs : List KN} {W : World} (h : TSt w O kd u l s la pa ca q c zs W) (hn : zs.length ≤ 8388608)
    (hk : -9223372036854775808 ≤ kd ∧ kd ≤ 9223372036854775807) (hu : u.size ≤ 140737488351232) (hl : l.size ≤ 140737488351232) (hs : s.size ≤ 140737488351232) (hal : la.length ≤ 140737488351232) (he : ∀ a ∈ la, a.uri.size ≤ 140737488351232 ∧ a.loc.size ≤ 140737488351232 ∧ a.val.size ≤ 140737488351232)
    {W4 : World} (h4 : ∀ k, k ≠ w.heap.size + 1 → k < W.heap.size → W4.heap[k]? = W.heap[k]?) (h4s : W4.heap.size = W.heap.size) :
    ∀ W', (∀ k, k < W4.heap.size → w.heap.size ≤ k → W'.heap[k]? = W4.heap[k]?) → PartsAt W' (.node 0 0 kd u l la s (kidsOf q zs)) pa ca q c ∧ KidsAt W' (.node 0 0 kd u l la s (kidsOf q zs)) := fun W' hW' => by
  have agree : ∀ k, k < W.heap.size → w.heap.size + 2 ≤ k → W'.heap[k]? = W.heap[k]? := fun k hk h2 => (hW' k (by omega) (by omega)).trans (h4 k (by omega) hk)
  have hown : OwnN W' (w.heap.size + 2) q c zs := h.own.keep (fun g e => by
    have := h.own.block _ _ e
    exact agree g (by omega) (by omega))
  obtain ⟨g1, g2⟩ := h.live W' (fun k hk h2 _ _ => agree k hk h2)
  exact ⟨kidsOf_parts hown hn g2 h.acap h.anil hk hu hl hs hal he 0 0, kidsOf_tree hown g1⟩
end Go.Proofs.YtfmlmdfehaajbaaGreatDoor
