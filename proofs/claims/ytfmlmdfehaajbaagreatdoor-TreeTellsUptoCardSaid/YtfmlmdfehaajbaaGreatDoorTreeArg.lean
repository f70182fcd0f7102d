/- Proved here: an argument that is a tree, as it lies in memory, and how many values and letters it has. -/
import Derived.Test.YtfmlmdfehaajbaaGreatDoorSize
import Derived.Test.YtfmlmdfehaajbaaGreatDoorRows
import Derived.ChangeArms
import Derived.ChangeSame
import Derived.Deep.Slices
import Derived.ChangeShapes
namespace Go.Proofs.YtfmlmdfehaajbaaGreatDoor
open Go.RowKit Go.Shelf

theorem kid_at {W : World} {t : AT} {pa : Option Addr} {ca : Nat} {pk : Option Addr} {ck : Nat} (h : PartsAt W t pa ca pk ck) (hk : KidsAt W t) (i : Nat) (hi : i < t.kids.length) :
    ∃ kb ko pa' ca' pk' ck', pk = some ⟨kb, ko, none⟩ ∧ PartsAt W t.kids[i] pa' ca' pk' ck' ∧ KidsAt W t.kids[i] ∧ W.cell? ⟨kb, ko + i * 6, none⟩ = some (.int .i64 t.kids[i].kind) ∧ W.cell? ⟨kb, ko + i * 6 + 1, none⟩ = some (.string t.kids[i].uri) ∧
      W.cell? ⟨kb, ko + i * 6 + 2, none⟩ = some (.string t.kids[i].loc) ∧ W.cell? ⟨kb, ko + i * 6 + 3, none⟩ = some (.slice pa' t.kids[i].attrs.length ca') ∧ W.cell? ⟨kb, ko + i * 6 + 4, none⟩ = some (.slice pk' t.kids[i].kids.length ck') ∧
      W.cell? ⟨kb, ko + i * 6 + 5, none⟩ = some (.string t.kids[i].text) := by
  obtain ⟨kb, ko, e, hc⟩ := h.kids (by omega)
  have hT := hk _ (List.getElem_mem hi)
  obtain ⟨pa', ca', pk', ck', h0, c0, c1, c2, c3, c4, c5⟩ := hT.top
  obtain ⟨e1, e2⟩ := hc i hi
  rw [e1, e2] at c0 c1 c2 c3 c4 c5
  exact ⟨kb, ko, pa', ca', pk', ck', e, h0, hT.kids, c0, c1, c2, c3, c4, c5⟩
/-- The first cell of a tree's kids is there: where a list is not empty its block is. -/
theorem kid_block {W : World} {t : AT} {kb ko : Nat} {ca ck : Nat} {pa : Option Addr} (h : PartsAt W t pa ca (some ⟨kb, ko, none⟩) ck) (hk : KidsAt W t) (h0 : 0 < t.kids.length) : kb < W.heap.size := by
  obtain ⟨kb', ko', _, _, _, _, e, _, _, c0, _⟩ := kid_at h hk 0 h0
  cases e
  exact World.block_lt_of_cell? _ _ c0
end Go.Proofs.YtfmlmdfehaajbaaGreatDoor
namespace Go.Proofs.YtfmlmdfehaajbaaGreatDoor
open Go.ChangeShapes Go.WideShapes Go.RowKit
open Go.Lib Go.Deep

theorem add_mid5 (b o j : Nat) : (⟨b, o, none⟩ : Addr).add j = ⟨b, o + j, none⟩ := by unfold Addr.add; split <;> simp_all
theorem cellsNode : Tryz.prog.cellsOf 27 = 6 := by kernel_rfl
theorem cellsAttr : Tryz.prog.cellsOf 67 = 3 := by kernel_rfl
theorem bulk_one {H : Type} (d : DataW H) : 1 ≤ Rows.uptoBulk d := by
  cases d with
  | lit l => cases l <;> simp [Rows.uptoBulk]
  | nil => simp [Rows.uptoBulk]
  | ptr d => simp [Rows.uptoBulk]
  | slice elems spare => simp [Rows.uptoBulk]
  | agg parts => simp [Rows.uptoBulk]
  | iface t d => simp [Rows.uptoBulk]
  | map entries => simp [Rows.uptoBulk]
  | held h => simp [Rows.uptoBulk]
theorem bulk_mem {H : Type} {d : DataW H} {l : List (DataW H)} (h : d ∈ l) : Rows.uptoBulk d ≤ Rows.uptoBulkAll l := by
  induction l with
  | nil => cases h
  | cons x r ih =>
    simp only [Rows.uptoBulkAll]
    cases List.mem_cons.1 h with
    | inl e => subst e; omega
    | inr e => have := ih e; omega
theorem bulk_length {H : Type} (l : List (DataW H)) : l.length ≤ Rows.uptoBulkAll l := by
  induction l with
  | nil => simp [Rows.uptoBulkAll]
  | cons x r ih => have := bulk_one x; simp only [Rows.uptoBulkAll, List.length_cons]; omega
theorem wfI64 {n : Int} (h : (Lit.int .i64 n).wf = true) : -9223372036854775808 ≤ n ∧ n ≤ 9223372036854775807 := by
  have e1 : IntKind.i64.min = -9223372036854775808 := rfl
  have e2 : IntKind.i64.max = 9223372036854775807 := rfl
  simp only [Lit.wf, Bool.and_eq_true, decide_eq_true_eq] at h
  omega
/-- No list and no text of an attribute is longer. -/
def AttrM.Fits (n : Nat) (a : AttrM) : Prop := a.uri.size ≤ n ∧ a.loc.size ≤ n ∧ a.val.size ≤ n
/-- No list and no text of a tree is longer. -/
def AT.Fits (n : Nat) (t : AT) : Prop := ∀ x ∈ t.all, x.uri.size ≤ n ∧ x.loc.size ≤ n ∧ x.text.size ≤ n ∧ x.attrs.length ≤ n ∧ x.kids.length ≤ n ∧ ∀ a ∈ x.attrs, a.Fits n
theorem AT.put_all (t : AT) (b o : Nat) : (t.put b o).all = t.put b o :: AT.alls t.kids := by
  rw [AT.all_eq, put_kids]
theorem AT.Fits.put {n : Nat} {t : AT} (h : t.Fits n) (b o : Nat) : (t.put b o).Fits n := fun x hx => by
  rw [AT.put_all] at hx
  rcases List.mem_cons.1 hx with rfl | hx
  · have := h t t.self_mem
    cases t
    exact this
  · exact h x (by rw [AT.all_eq]; exact List.mem_cons_of_mem _ hx)
theorem AT.Fits.kid {n : Nat} {t k : AT} (h : t.Fits n) (hk : k ∈ t.kids) : k.Fits n := fun x hx => h x (AT.kid_mem hk x hx)
theorem count_kids (t : AT) : t.count = (t.kids.flatMap AT.all).length + 1 := by
  unfold AT.count
  rw [AT.all_eq, AT.alls_eq, List.length_cons]
theorem count_sum {H : Type} : ∀ (ks : List AT) (ds : List (DataW H)), ks.length = ds.length → (∀ (i : Nat) (h : i < ks.length) (g : i < ds.length), ks[i].count ≤ Rows.uptoBulk ds[i]) → (ks.flatMap AT.all).length ≤ Rows.uptoBulkAll ds := fun ks => by
  induction ks with
  | nil => intro ds _ _; simp
  | cons k r ih =>
    intro ds hl h
    cases ds with
    | nil => simp at hl
    | cons d ds =>
      have h0 := h 0 (by simp) (by simp)
      have h1 := ih ds (by simpa using hl) (fun i hi gi => by
        have := h (i + 1) (by simpa using hi) (by simpa using gi)
        simpa using this)
      rw [List.flatMap_cons, List.length_append]
      simp only [Rows.uptoBulkAll]
      simp only [List.getElem_cons_zero] at h0
      unfold AT.count at h0
      omega
set_option maxRecDepth 100000 in
theorem attr_core {H : Type} {enc : TypeId × Value → H} {W : World} {fuel : Nat} {cs : List Value} {x : DataW H × List MemPlace} (hf : DataW.trod enc Tryz.prog W 0 (fun _ => true) true fuel 67 cs = some x) :
    ∃ a : AttrM, cs = [.string a.uri, .string a.loc, .string a.val] ∧ a.Fits (Rows.uptoBulk x.1) := by
  have c24 : Tryz.prog.cellsOf 23 = 2 := by kernel_rfl
  have c9 : Tryz.prog.cellsOf 9 = 1 := by kernel_rfl
  obtain ⟨y0, y1, n, hx, hlen, h0, h1⟩ := trod_struct2 Tryz.underlying67 hf
  rw [cellsAttr] at hlen
  match cs, hlen with
  | [x0, x1, x2], _ =>
    change DataW.trod enc Tryz.prog W 0 (fun _ => true) true n 23 (([x0, x1, x2].drop 0).take (Tryz.prog.cellsOf 23)) = some y0 at h0
    change DataW.trod enc Tryz.prog W 0 (fun _ => true) true n 9 (([x0, x1, x2].drop 2).take (Tryz.prog.cellsOf 9)) = some y1 at h1
    rw [c24] at h0
    rw [c9] at h1
    change DataW.trod enc Tryz.prog W 0 (fun _ => true) true n 23 [x0, x1] = some y0 at h0
    change DataW.trod enc Tryz.prog W 0 (fun _ => true) true n 9 [x2] = some y1 at h1
    obtain ⟨z0, z1, m, hy, _, k0, k1⟩ := trod_struct2 Tryz.underlying23 h0
    change DataW.trod enc Tryz.prog W 0 (fun _ => true) true m 9 (([x0, x1].drop 0).take (Tryz.prog.cellsOf 9)) = some z0 at k0
    change DataW.trod enc Tryz.prog W 0 (fun _ => true) true m 9 (([x0, x1].drop 1).take (Tryz.prog.cellsOf 9)) = some z1 at k1
    rw [c9] at k0 k1
    change DataW.trod enc Tryz.prog W 0 (fun _ => true) true m 9 [x0] = some z0 at k0
    change DataW.trod enc Tryz.prog W 0 (fun _ => true) true m 9 [x1] = some z1 at k1
    obtain ⟨u, e0, g0, _⟩ := DataW.trod_string Tryz.underlying9 k0
    obtain ⟨l, e1, g1, _⟩ := DataW.trod_string Tryz.underlying9 k1
    obtain ⟨v, e2, g2, _⟩ := DataW.trod_string Tryz.underlying9 h1
    simp only [List.cons.injEq, and_true] at e0 e1 e2
    subst e0 e1 e2 g0 g1 g2 hy hx
    refine ⟨⟨u, l, v⟩, rfl, ?_, ?_, ?_⟩ <;> (simp [Rows.uptoBulk, Rows.uptoBulkAll]; omega)
set_option maxRecDepth 100000 in
theorem attrs_core {H : Type} {enc : TypeId × Value → H} {W : World} {fuel : Nat} {v : Value} {x : DataW H × List MemPlace} (hf : DataW.trod enc Tryz.prog W 0 (fun _ => true) true fuel 24 [v] = some x) :
    ∃ (pa : Option Addr) (ca : Nat) (l : List AttrM), v = .slice pa l.length ca ∧ AttrsAt W pa l ∧ l.length ≤ ca ∧ (pa = none → ca = 0) ∧ l.length ≤ Rows.uptoBulk x.1 ∧ ∀ a ∈ l, a.Fits (Rows.uptoBulk x.1) := by
  rcases DataW.trod_slice Tryz.underlying24 hf with ⟨hcs, hx⟩ | ⟨a, len, cap, elems, rest, n, _, hcs, hx, _, hl, hm, hlen, hi, _⟩
  · simp only [List.cons.injEq, and_true] at hcs
    subst hcs
    exact ⟨none, 0, [], rfl, fun h => absurd h (by decide), Nat.le_refl _, fun _ => rfl, Nat.zero_le _, fun a ha => (by cases ha)⟩
  · simp only [List.cons.injEq, and_true] at hcs
    subst hcs hx
    have hbl : (elems.map (·.1)).length ≤ Rows.uptoBulkAll (elems.map (·.1)) := bulk_length _
    rw [List.length_map, hlen] at hbl
    by_cases h0 : len = 0
    · subst h0
      exact ⟨some a, cap, [], rfl, fun h => absurd h (by decide), Nat.zero_le _, fun h => (by cases h), Nat.zero_le _, fun a ha => (by cases ha)⟩
    · have hsp : ∃ b off, a = ⟨b, off, none⟩ := by
        have h2 := hi 0 (by omega)
        rw [List.getElem?_eq_getElem (by omega)] at h2
        obtain ⟨cs', hc, _⟩ := Option.bind_eq_some_iff.1 h2
        rw [cellsAttr] at hc
        obtain ⟨_, hcl, hat⟩ := World.cells?_some hc
        have h1 := hat 0 (by omega)
        obtain ⟨b, off, sp⟩ := a
        have hv : cs'[0]? = some (cs'[0]'(by omega)) := List.getElem?_eq_getElem (by omega)
        rw [hv] at h1
        have hspot : sp = none := by simpa [Addr.add] using World.cell?_spot h1
        subst hspot
        exact ⟨b, off, rfl⟩
      obtain ⟨b, off, rfl⟩ := hsp
      have hall : ∀ i, i < len → ∃ y : AttrM, (W.cell? ⟨b, off + i * 3, none⟩ = some (.string y.uri) ∧ W.cell? ⟨b, off + i * 3 + 1, none⟩ = some (.string y.loc) ∧ W.cell? ⟨b, off + i * 3 + 2, none⟩ = some (.string y.val)) ∧ y.Fits (Rows.uptoBulkAll (elems.map (·.1))) := fun i hil => by
        have h2 := hi i hil
        rw [List.getElem?_eq_getElem (by omega)] at h2
        obtain ⟨cs', hc, htr⟩ := Option.bind_eq_some_iff.1 h2
        rw [cellsAttr] at hc
        obtain ⟨_, hcl, hat⟩ := World.cells?_some hc
        obtain ⟨y, hy, hft⟩ := attr_core htr
        have hmem : (elems[i]'(by omega)).1 ∈ elems.map (·.1) := List.mem_map_of_mem (List.getElem_mem (by omega))
        have hle := bulk_mem hmem
        subst hy
        have q0 := hat 0 (by decide)
        have q1 := hat 1 (by decide)
        have q2 := hat 2 (by decide)
        rw [add_mid5, add_mid5] at q0 q1 q2
        exact ⟨y, ⟨q0, q1, q2⟩, by have := hft.1; omega, by have := hft.2.1; omega, by have := hft.2.2; omega⟩
      obtain ⟨V, hV⟩ := choose_lt (α := AttrM) hall
      refine ⟨some ⟨b, off, none⟩, cap, (List.range len).map V, by simp, fun _ => ⟨b, off, rfl, fun j hj => ?_⟩, by simpa using hl, fun h => (by cases h), ?_, fun a ha => ?_⟩
      · simp only [List.length_map, List.length_range] at hj
        simpa using (hV j hj).1
      · simp only [List.length_map, List.length_range, Rows.uptoBulk]
        omega
      · obtain ⟨i, hi', rfl⟩ := List.mem_map.1 ha
        obtain ⟨f0, f1, f2⟩ := (hV i (List.mem_range.1 hi')).2
        simp only [Rows.uptoBulk]
        exact ⟨by omega, by omega, by omega⟩
set_option maxRecDepth 100000 in
/-- WHAT A TREE'S CELLS SAY. -/
theorem node_core {H : Type} {enc : TypeId × Value → H} {W : World} (B : Nat) (hB : B ≤ 1048576) : ∀ (fuel : Nat) {cs : List Value} {x : DataW H × List MemPlace}, DataW.trod enc Tryz.prog W 0 (fun _ => true) true fuel 27 cs = some x → Rows.uptoBulk x.1 ≤ B →
    ∃ t pa ca pk ck, cs = (nodeC t pa ca pk ck).toList ∧ PartsAt W t pa ca pk ck ∧ KidsAt W t ∧ t.count ≤ Rows.uptoBulk x.1 ∧ t.Fits B := fun fuel => by
  induction fuel using Nat.strongRecOn with
  | ind fuel ih =>
    intro cs x hf hb
    have c24 : Tryz.prog.cellsOf 23 = 2 := by kernel_rfl
    have c9 : Tryz.prog.cellsOf 9 = 1 := by kernel_rfl
    have c3 : Tryz.prog.cellsOf 3 = 1 := by kernel_rfl
    have cA : Tryz.prog.cellsOf 24 = 1 := by kernel_rfl
    have cK : Tryz.prog.cellsOf 25 = 1 := by kernel_rfl
    obtain ⟨N, hN⟩ : ∃ N, Rows.uptoBulk x.1 = N := ⟨_, rfl⟩
    rw [hN] at hb ⊢
    obtain ⟨xs, n, rfl, hx, hlen, hxl, hg⟩ := DataW.trod_struct Tryz.underlying27 hf
    rw [cellsNode] at hlen
    match cs, hlen with
    | [x0, x1, x2, x3, x4, x5], _ =>
      match xs, hxl with
      | [y0, y1, y2, y3, y4], _ =>
        have h0 := hg 0 _ rfl
        have h1 := hg 1 _ rfl
        have h2 := hg 2 _ rfl
        have h3 := hg 3 _ rfl
        have h4 := hg 4 _ rfl
        change DataW.trod enc Tryz.prog W 0 (fun _ => true) true n 3 (([x0, x1, x2, x3, x4, x5].drop 0).take (Tryz.prog.cellsOf 3)) = some y0 at h0
        change DataW.trod enc Tryz.prog W 0 (fun _ => true) true n 23 (([x0, x1, x2, x3, x4, x5].drop 1).take (Tryz.prog.cellsOf 23)) = some y1 at h1
        change DataW.trod enc Tryz.prog W 0 (fun _ => true) true n 24 (([x0, x1, x2, x3, x4, x5].drop 3).take (Tryz.prog.cellsOf 24)) = some y2 at h2
        change DataW.trod enc Tryz.prog W 0 (fun _ => true) true n 25 (([x0, x1, x2, x3, x4, x5].drop 4).take (Tryz.prog.cellsOf 25)) = some y3 at h3
        change DataW.trod enc Tryz.prog W 0 (fun _ => true) true n 9 (([x0, x1, x2, x3, x4, x5].drop 5).take (Tryz.prog.cellsOf 9)) = some y4 at h4
        rw [c3] at h0
        rw [c24] at h1
        rw [cA] at h2
        rw [cK] at h3
        rw [c9] at h4
        change DataW.trod enc Tryz.prog W 0 (fun _ => true) true n 3 [x0] = some y0 at h0
        change DataW.trod enc Tryz.prog W 0 (fun _ => true) true n 23 [x1, x2] = some y1 at h1
        change DataW.trod enc Tryz.prog W 0 (fun _ => true) true n 24 [x3] = some y2 at h2
        change DataW.trod enc Tryz.prog W 0 (fun _ => true) true n 25 [x4] = some y3 at h3
        change DataW.trod enc Tryz.prog W 0 (fun _ => true) true n 9 [x5] = some y4 at h4
        clear hg hf
        obtain ⟨z0, z1, m, hy1, _, k0, k1⟩ := trod_struct2 Tryz.underlying23 h1
        change DataW.trod enc Tryz.prog W 0 (fun _ => true) true m 9 (([x1, x2].drop 0).take (Tryz.prog.cellsOf 9)) = some z0 at k0
        change DataW.trod enc Tryz.prog W 0 (fun _ => true) true m 9 (([x1, x2].drop 1).take (Tryz.prog.cellsOf 9)) = some z1 at k1
        rw [c9] at k0 k1
        change DataW.trod enc Tryz.prog W 0 (fun _ => true) true m 9 [x1] = some z0 at k0
        change DataW.trod enc Tryz.prog W 0 (fun _ => true) true m 9 [x2] = some z1 at k1
        obtain ⟨kd, e0, g0, wk⟩ := DataW.trod_int Tryz.underlying3 h0
        obtain ⟨u, e1, g1, _⟩ := DataW.trod_string Tryz.underlying9 k0
        obtain ⟨l, e2, g2, _⟩ := DataW.trod_string Tryz.underlying9 k1
        obtain ⟨s, e5, g5, _⟩ := DataW.trod_string Tryz.underlying9 h4
        obtain ⟨pa, ca, la, e3, hAt, hac, han, hal, haf⟩ := attrs_core h2
        simp only [List.cons.injEq, and_true] at e0 e1 e2 e5
        have hwk := wfI64 wk
        subst e0 e1 e2 e3 e5 g0 g1 g2 g5 hy1 hx
        simp only [Rows.uptoBulk, Rows.uptoBulkAll, List.map_cons, List.map_nil] at hN
        have hu : u.size = u.data.toList.length := by simp
        have hl : l.size = l.data.toList.length := by simp
        have hs : s.size = s.data.toList.length := by simp
        have mk : ∀ (pk : Option Addr) (ck : Nat) (ks : List AT), x4 = .slice pk ks.length ck → ks.length ≤ ck → (pk = none → ck = 0) → ks.length ≤ B → (0 < ks.length → ∃ kb ko, pk = some ⟨kb, ko, none⟩ ∧ ∀ i (h : i < ks.length), ks[i].b = kb ∧ ks[i].o = ko + i * 6) →
            (∀ k ∈ ks, TreeAt W k) → (ks.flatMap AT.all).length ≤ Rows.uptoBulk y3.1 → (∀ k ∈ ks, k.Fits B) →
            ∃ t pa' ca' pk' ck', [Value.int .i64 kd, .string u, .string l, .slice pa la.length ca, x4, .string s] = (nodeC t pa' ca' pk' ck').toList ∧ PartsAt W t pa' ca' pk' ck' ∧ KidsAt W t ∧ t.count ≤ N ∧ t.Fits B := fun pk ck ks h4 h5 h6 h7 h8 h9 h10 h11 => by
          refine ⟨.node 0 0 kd u l la s ks, pa, ca, pk, ck, by rw [h4]; rfl, ⟨hAt, hac, han, h8, h5, h6, hwk, ?_, ?_, ?_, ?_, ?_, fun a ha => ?_⟩, h9, ?_, fun x hx => ?_⟩
          · show u.size ≤ _; omega
          · show l.size ≤ _; omega
          · show s.size ≤ _; omega
          · show la.length ≤ _; omega
          · show ks.length ≤ _; omega
          · have := haf a ha
            exact ⟨by have := this.1; omega, by have := this.2.1; omega, by have := this.2.2; omega⟩
          · rw [count_kids]
            show (ks.flatMap AT.all).length + 1 ≤ _
            omega
          · rw [AT.all_eq, AT.alls_eq] at hx
            rcases List.mem_cons.1 hx with rfl | hx
            · refine ⟨?_, ?_, ?_, ?_, h7, fun a ha => ?_⟩
              · show u.size ≤ _; omega
              · show l.size ≤ _; omega
              · show s.size ≤ _; omega
              · show la.length ≤ _; omega
              · have := haf a ha
                exact ⟨by have := this.1; omega, by have := this.2.1; omega, by have := this.2.2; omega⟩
            · obtain ⟨k, hk, hx⟩ := List.mem_flatMap.1 hx
              exact h11 k hk x hx
        rcases DataW.trod_slice Tryz.underlying25 h3 with ⟨hcs, hx⟩ | ⟨a, len, cap, elems, rest, m2, rfl, hcs, hx, _, hlc, hm, hlen, hi, _⟩
        · simp only [List.cons.injEq, and_true] at hcs
          exact mk none 0 [] hcs (Nat.le_refl _) (fun _ => rfl) (Nat.zero_le _) (fun h => absurd h (by decide)) (fun k hk => by cases hk) (Nat.zero_le _) (fun k hk => by cases hk)
        · simp only [List.cons.injEq, and_true] at hcs
          have hy3 : y3.1 = .slice (elems.map (·.1)) (rest.map (·.1)) := by rw [hx]
          have hb3 : Rows.uptoBulk y3.1 = Rows.uptoBulkAll (elems.map (·.1)) + Rows.uptoBulkAll (rest.map (·.1)) + 1 := by rw [hy3, Rows.uptoBulk]
          have hbl : (elems.map (·.1)).length ≤ Rows.uptoBulkAll (elems.map (·.1)) := bulk_length _
          rw [List.length_map, hlen] at hbl
          by_cases h0 : len = 0
          · subst h0
            exact mk (some a) cap [] hcs (Nat.zero_le _) (fun h => by cases h) (Nat.zero_le _) (fun h => absurd h (by decide)) (fun k hk => by cases hk) (Nat.zero_le _) (fun k hk => by cases hk)
          · have hsp : ∃ b off, a = ⟨b, off, none⟩ := by
              have h2 := hi 0 (by omega)
              rw [List.getElem?_eq_getElem (by omega)] at h2
              obtain ⟨cs', hc, _⟩ := Option.bind_eq_some_iff.1 h2
              rw [cellsNode] at hc
              obtain ⟨_, hcl, hat⟩ := World.cells?_some hc
              have h1 := hat 0 (by omega)
              obtain ⟨b, off, sp⟩ := a
              have hv : cs'[0]? = some (cs'[0]'(by omega)) := List.getElem?_eq_getElem (by omega)
              rw [hv] at h1
              have hspot : sp = none := by simpa [Addr.add] using World.cell?_spot h1
              subst hspot
              exact ⟨b, off, rfl⟩
            obtain ⟨b, off, rfl⟩ := hsp
            have hall : ∀ i, i < len → ∃ y : AT, y.b = b ∧ y.o = off + i * 6 ∧ TreeAt W y ∧ y.Fits B ∧ ∀ (h : i < elems.length), y.count ≤ Rows.uptoBulk (elems[i]).1 := fun i hil => by
              have h2 := hi i hil
              rw [List.getElem?_eq_getElem (by omega)] at h2
              obtain ⟨cs', hc, htr⟩ := Option.bind_eq_some_iff.1 h2
              rw [cellsNode] at hc
              obtain ⟨_, hcl, hat⟩ := World.cells?_some hc
              have hmem : (elems[i]'(by omega)).1 ∈ elems.map (·.1) := List.mem_map_of_mem (List.getElem_mem (by omega))
              have hle := bulk_mem hmem
              obtain ⟨t, pa', ca', pk', ck', hcs', hP, hK, hcnt, hfit⟩ := ih m2 (by omega) htr (by omega)
              subst hcs'
              have q0 := hat 0 (by decide)
              have q1 := hat 1 (by decide)
              have q2 := hat 2 (by decide)
              have q3 := hat 3 (by decide)
              have q4 := hat 4 (by decide)
              have q5 := hat 5 (by decide)
              rw [add_mid5, add_mid5] at q0 q1 q2 q3 q4 q5
              refine ⟨t.put b (off + i * 6), put_b _ _ _, put_o _ _ _, TreeAt.mk ?_ (fun k hk => hK k (by rwa [put_kids] at hk)), hfit.put _ _, fun _ => by rw [put_count]; exact hcnt⟩
              refine ⟨pa', ca', pk', ck', put_parts _ _ hP, ?_⟩
              rw [put_b, put_o]
              cases t
              exact ⟨q0, q1, q2, q3, q4, q5⟩
            obtain ⟨V, hV⟩ := choose_lt (α := AT) hall
            refine mk (some ⟨b, off, none⟩) cap ((List.range len).map V) (by rw [hcs]; simp) (by simpa using hlc) (fun h => by cases h) (by simp; omega) (fun _ => ⟨b, off, rfl, fun i h => ?_⟩) (fun k hk => ?_) ?_ (fun k hk => ?_)
            · have h' : i < len := by simpa using h
              have := hV i h'
              simp only [List.getElem_map, List.getElem_range]
              exact ⟨this.1, this.2.1⟩
            · obtain ⟨i, hi', rfl⟩ := List.mem_map.1 hk
              exact (hV i (List.mem_range.1 hi')).2.2.1
            · rw [hb3]
              have := count_sum ((List.range len).map V) (elems.map (·.1)) (by simp [hlen]) (fun i h g => by
                have h' : i < len := by simpa using h
                have := (hV i h').2.2.2.2 (by omega)
                simpa using this)
              omega
            · obtain ⟨i, hi', rfl⟩ := List.mem_map.1 hk
              exact (hV i (List.mem_range.1 hi')).2.2.2.1
set_option maxRecDepth 100000 in
/-- AN ARGUMENT THAT IS A TREE. -/
theorem open_node {H : Type} {enc : TypeId × Value → H} {W : World} {v : Value} {d : DataW H} {p : List MemPlace} {base : Nat}
    (hval : Value.okWide Tryz.prog W .any base 27 v) (h : DataW.Trod enc Tryz.prog W 0 (fun _ => true) true 27 v d p) (hb : Rows.uptoBulk d ≤ 1048576) :
    ∃ t pa ca pk ck, v = nodeV t pa ca pk ck ∧ PartsAt W t pa ca pk ck ∧ KidsAt W t ∧ t.count ≤ 1048576 ∧ t.Fits 1048576 := by
  obtain ⟨arr, rfl, _⟩ := okWide_struct Tryz.underlying27 hval
  obtain ⟨fuel, hf⟩ := h
  obtain ⟨t, pa, ca, pk, ck, hcs, hP, hK, hc, hF⟩ := node_core 1048576 (Nat.le_refl _) fuel hf hb
  refine ⟨t, pa, ca, pk, ck, ?_, hP, hK, Nat.le_trans hc hb, hF⟩
  have : arr = nodeC t pa ca pk ck := by
    cases arr
    exact congrArg Array.mk hcs
  rw [this]
  rfl
end Go.Proofs.YtfmlmdfehaajbaaGreatDoor
