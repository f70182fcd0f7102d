/- Proved here: the statement TreeTells, walked: it answers true of any two trees, in every world. -/
import Derived.Test.YtfmlmdfehaajbaaGreatDoorTreeArg
import Derived.Test.YtfmlmdfehaajbaaGreatDoorSpaces
import Derived.Test.YtfmlmdfehaajbaaGreatDoorAwake5A
import Derived.Test.YtfmlmdfehaajbaaGreatDoorTwinW
import Derived.Test.YtfmlmdfehaajbaaGreatDoorEqualW
import Derived.Test.YtfmlmdfehaajbaaGreatDoorCopyW
import Derived.Test.YtfmlmdfehaajbaaGreatDoorSpoilStart
import Derived.Test.YtfmlmdfehaajbaaGreatDoorFlatW
import Derived.Test.YtfmlmdfehaajbaaGreatDoorSpacesR
import Derived.Test.YtfmlmdfehaajbaaGreatDoorRSpaces
namespace Go.Proofs.YtfmlmdfehaajbaaGreatDoor
open Go.ChangeShapes Go.WideShapes Go.RowKit
open Go.Lib Go.Deep

/-- How many spaces are said in a tree, each as often as it is said. -/
def AT.wt (t : AT) : Nat := (t.all.flatMap AT.uris).length
theorem put_uris (t : AT) (b o : Nat) : (t.put b o).uris = t.uris := by cases t; rfl
theorem put_wt (t : AT) (b o : Nat) : (t.put b o).wt = t.wt := by
  unfold AT.wt
  rw [AT.put_all, AT.all_eq t, List.flatMap_cons, List.flatMap_cons, put_uris]
theorem uris_pos (t : AT) : t.uris.length = t.attrs.length + 1 := by
  unfold AT.uris
  simp
theorem count_wt (t : AT) : t.count ≤ t.wt := by
  unfold AT.count AT.wt
  generalize t.all = l
  induction l with
  | nil => exact Nat.le_refl _
  | cons x r ih =>
    rw [List.flatMap_cons, List.length_append, List.length_cons, uris_pos]
    omega
theorem wt_kids (t : AT) : t.wt = ((t.kids.flatMap AT.all).flatMap AT.uris).length + 1 + t.attrs.length := by
  unfold AT.wt
  rw [AT.all_eq, AT.alls_eq, List.flatMap_cons, List.length_append, uris_pos]
  omega
theorem wt_sum {H : Type} : ∀ (ks : List AT) (ds : List (DataW H)), ks.length = ds.length → (∀ (i : Nat) (h : i < ks.length) (g : i < ds.length), ks[i].wt ≤ Rows.uptoBulk ds[i]) → ((ks.flatMap AT.all).flatMap AT.uris).length ≤ Rows.uptoBulkAll ds := fun ks => by
  induction ks with
  | nil => intro ds _ _; simp
  | cons k r ih =>
    intro ds hl h
    cases ds with
    | nil => simp at hl
    | cons d ds =>
      have h0 := h 0 (by simp) (by simp)
      have h1 := ih ds (by simpa using hl) (fun i hi gi => by
        have := h (i + 1) (by simpa using hi) (by simpa using gi)
        simpa using this)
      rw [List.flatMap_cons, List.flatMap_append, List.length_append]
      simp only [Rows.uptoBulkAll]
      simp only [List.getElem_cons_zero] at h0
      unfold AT.wt at h0
      omega

set_option maxRecDepth 100000 in
/-- WHAT A TREE'S CELLS SAY. -/
theorem node_coreU {H : Type} {enc : TypeId × Value → H} {W : World} (B : Nat) (hB : B ≤ 1048576) : ∀ (fuel : Nat) {cs : List Value} {x : DataW H × List MemPlace}, DataW.trod enc Tryz.prog W 0 (fun _ => true) true fuel 27 cs = some x → Rows.uptoBulk x.1 ≤ B →
    ∃ t pa ca pk ck, cs = (nodeC t pa ca pk ck).toList ∧ PartsAt W t pa ca pk ck ∧ KidsAt W t ∧ t.wt ≤ Rows.uptoBulk x.1 ∧ t.Fits B := fun fuel => by
  induction fuel using Nat.strongRecOn with
  | ind fuel ih =>
    intro cs x hf hb
    have c24 : Tryz.prog.cellsOf 23 = 2 := by kernel_rfl
    have c9 : Tryz.prog.cellsOf 9 = 1 := by kernel_rfl
    have c3 : Tryz.prog.cellsOf 3 = 1 := by kernel_rfl
    have cA : Tryz.prog.cellsOf 24 = 1 := by kernel_rfl
    have cK : Tryz.prog.cellsOf 25 = 1 := by kernel_rfl
    obtain ⟨N, hN⟩ : ∃ N, Rows.uptoBulk x.1 = N := ⟨_, rfl⟩
    rw [hN] at hb ⊢
    obtain ⟨xs, n, rfl, hx, hlen, hxl, hg⟩ := DataW.trod_struct Tryz.underlying27 hf
    rw [cellsNode] at hlen
    match cs, hlen with
    | [x0, x1, x2, x3, x4, x5], _ =>
      match xs, hxl with
      | [y0, y1, y2, y3, y4], _ =>
        have h0 := hg 0 _ rfl
        have h1 := hg 1 _ rfl
        have h2 := hg 2 _ rfl
        have h3 := hg 3 _ rfl
        have h4 := hg 4 _ rfl
        change DataW.trod enc Tryz.prog W 0 (fun _ => true) true n 3 (([x0, x1, x2, x3, x4, x5].drop 0).take (Tryz.prog.cellsOf 3)) = some y0 at h0
        change DataW.trod enc Tryz.prog W 0 (fun _ => true) true n 23 (([x0, x1, x2, x3, x4, x5].drop 1).take (Tryz.prog.cellsOf 23)) = some y1 at h1
        change DataW.trod enc Tryz.prog W 0 (fun _ => true) true n 24 (([x0, x1, x2, x3, x4, x5].drop 3).take (Tryz.prog.cellsOf 24)) = some y2 at h2
        change DataW.trod enc Tryz.prog W 0 (fun _ => true) true n 25 (([x0, x1, x2, x3, x4, x5].drop 4).take (Tryz.prog.cellsOf 25)) = some y3 at h3
        change DataW.trod enc Tryz.prog W 0 (fun _ => true) true n 9 (([x0, x1, x2, x3, x4, x5].drop 5).take (Tryz.prog.cellsOf 9)) = some y4 at h4
        rw [c3] at h0
        rw [c24] at h1
        rw [cA] at h2
        rw [cK] at h3
        rw [c9] at h4
        change DataW.trod enc Tryz.prog W 0 (fun _ => true) true n 3 [x0] = some y0 at h0
        change DataW.trod enc Tryz.prog W 0 (fun _ => true) true n 23 [x1, x2] = some y1 at h1
        change DataW.trod enc Tryz.prog W 0 (fun _ => true) true n 24 [x3] = some y2 at h2
        change DataW.trod enc Tryz.prog W 0 (fun _ => true) true n 25 [x4] = some y3 at h3
        change DataW.trod enc Tryz.prog W 0 (fun _ => true) true n 9 [x5] = some y4 at h4
        clear hg hf
        obtain ⟨z0, z1, m, hy1, _, k0, k1⟩ := trod_struct2 Tryz.underlying23 h1
        change DataW.trod enc Tryz.prog W 0 (fun _ => true) true m 9 (([x1, x2].drop 0).take (Tryz.prog.cellsOf 9)) = some z0 at k0
        change DataW.trod enc Tryz.prog W 0 (fun _ => true) true m 9 (([x1, x2].drop 1).take (Tryz.prog.cellsOf 9)) = some z1 at k1
        rw [c9] at k0 k1
        change DataW.trod enc Tryz.prog W 0 (fun _ => true) true m 9 [x1] = some z0 at k0
        change DataW.trod enc Tryz.prog W 0 (fun _ => true) true m 9 [x2] = some z1 at k1
        obtain ⟨kd, e0, g0, wk⟩ := DataW.trod_int Tryz.underlying3 h0
        obtain ⟨u, e1, g1, _⟩ := DataW.trod_string Tryz.underlying9 k0
        obtain ⟨l, e2, g2, _⟩ := DataW.trod_string Tryz.underlying9 k1
        obtain ⟨s, e5, g5, _⟩ := DataW.trod_string Tryz.underlying9 h4
        obtain ⟨pa, ca, la, e3, hAt, hac, han, hal, haf⟩ := attrs_core h2
        simp only [List.cons.injEq, and_true] at e0 e1 e2 e5
        have hwk := wfI64 wk
        subst e0 e1 e2 e3 e5 g0 g1 g2 g5 hy1 hx
        simp only [Rows.uptoBulk, Rows.uptoBulkAll, List.map_cons, List.map_nil] at hN
        have hu : u.size = u.data.toList.length := by simp
        have hl : l.size = l.data.toList.length := by simp
        have hs : s.size = s.data.toList.length := by simp
        have mk : ∀ (pk : Option Addr) (ck : Nat) (ks : List AT), x4 = .slice pk ks.length ck → ks.length ≤ ck → (pk = none → ck = 0) → ks.length ≤ B → (0 < ks.length → ∃ kb ko, pk = some ⟨kb, ko, none⟩ ∧ ∀ i (h : i < ks.length), ks[i].b = kb ∧ ks[i].o = ko + i * 6) →
            (∀ k ∈ ks, TreeAt W k) → ((ks.flatMap AT.all).flatMap AT.uris).length ≤ Rows.uptoBulk y3.1 → (∀ k ∈ ks, k.Fits B) →
            ∃ t pa' ca' pk' ck', [Value.int .i64 kd, .string u, .string l, .slice pa la.length ca, x4, .string s] = (nodeC t pa' ca' pk' ck').toList ∧ PartsAt W t pa' ca' pk' ck' ∧ KidsAt W t ∧ t.wt ≤ N ∧ t.Fits B := fun pk ck ks h4 h5 h6 h7 h8 h9 h10 h11 => by
          refine ⟨.node 0 0 kd u l la s ks, pa, ca, pk, ck, by rw [h4]; rfl, ⟨hAt, hac, han, h8, h5, h6, hwk, ?_, ?_, ?_, ?_, ?_, fun a ha => ?_⟩, h9, ?_, fun x hx => ?_⟩
          · show u.size ≤ _; omega
          · show l.size ≤ _; omega
          · show s.size ≤ _; omega
          · show la.length ≤ _; omega
          · show ks.length ≤ _; omega
          · have := haf a ha
            exact ⟨by have := this.1; omega, by have := this.2.1; omega, by have := this.2.2; omega⟩
          · rw [wt_kids]
            show ((ks.flatMap AT.all).flatMap AT.uris).length + 1 + la.length ≤ _
            omega
          · rw [AT.all_eq, AT.alls_eq] at hx
            rcases List.mem_cons.1 hx with rfl | hx
            · refine ⟨?_, ?_, ?_, ?_, h7, fun a ha => ?_⟩
              · show u.size ≤ _; omega
              · show l.size ≤ _; omega
              · show s.size ≤ _; omega
              · show la.length ≤ _; omega
              · have := haf a ha
                exact ⟨by have := this.1; omega, by have := this.2.1; omega, by have := this.2.2; omega⟩
            · obtain ⟨k, hk, hx⟩ := List.mem_flatMap.1 hx
              exact h11 k hk x hx
        rcases DataW.trod_slice Tryz.underlying25 h3 with ⟨hcs, hx⟩ | ⟨a, len, cap, elems, rest, m2, rfl, hcs, hx, _, hlc, hm, hlen, hi, _⟩
        · simp only [List.cons.injEq, and_true] at hcs
          exact mk none 0 [] hcs (Nat.le_refl _) (fun _ => rfl) (Nat.zero_le _) (fun h => absurd h (by decide)) (fun k hk => by cases hk) (Nat.zero_le _) (fun k hk => by cases hk)
        · simp only [List.cons.injEq, and_true] at hcs
          have hy3 : y3.1 = .slice (elems.map (·.1)) (rest.map (·.1)) := by rw [hx]
          have hb3 : Rows.uptoBulk y3.1 = Rows.uptoBulkAll (elems.map (·.1)) + Rows.uptoBulkAll (rest.map (·.1)) + 1 := by rw [hy3, Rows.uptoBulk]
          have hbl : (elems.map (·.1)).length ≤ Rows.uptoBulkAll (elems.map (·.1)) := bulk_length _
          rw [List.length_map, hlen] at hbl
          by_cases h0 : len = 0
          · subst h0
            exact mk (some a) cap [] hcs (Nat.zero_le _) (fun h => by cases h) (Nat.zero_le _) (fun h => absurd h (by decide)) (fun k hk => by cases hk) (Nat.zero_le _) (fun k hk => by cases hk)
          · have hsp : ∃ b off, a = ⟨b, off, none⟩ := by
              have h2 := hi 0 (by omega)
              rw [List.getElem?_eq_getElem (by omega)] at h2
              obtain ⟨cs', hc, _⟩ := Option.bind_eq_some_iff.1 h2
              rw [cellsNode] at hc
              obtain ⟨_, hcl, hat⟩ := World.cells?_some hc
              have h1 := hat 0 (by omega)
              obtain ⟨b, off, sp⟩ := a
              have hv : cs'[0]? = some (cs'[0]'(by omega)) := List.getElem?_eq_getElem (by omega)
              rw [hv] at h1
              have hspot : sp = none := by simpa [Addr.add] using World.cell?_spot h1
              subst hspot
              exact ⟨b, off, rfl⟩
            obtain ⟨b, off, rfl⟩ := hsp
            have hall : ∀ i, i < len → ∃ y : AT, y.b = b ∧ y.o = off + i * 6 ∧ TreeAt W y ∧ y.Fits B ∧ ∀ (h : i < elems.length), y.wt ≤ Rows.uptoBulk (elems[i]).1 := fun i hil => by
              have h2 := hi i hil
              rw [List.getElem?_eq_getElem (by omega)] at h2
              obtain ⟨cs', hc, htr⟩ := Option.bind_eq_some_iff.1 h2
              rw [cellsNode] at hc
              obtain ⟨_, hcl, hat⟩ := World.cells?_some hc
              have hmem : (elems[i]'(by omega)).1 ∈ elems.map (·.1) := List.mem_map_of_mem (List.getElem_mem (by omega))
              have hle := bulk_mem hmem
              obtain ⟨t, pa', ca', pk', ck', hcs', hP, hK, hcnt, hfit⟩ := ih m2 (by omega) htr (by omega)
              subst hcs'
              have q0 := hat 0 (by decide)
              have q1 := hat 1 (by decide)
              have q2 := hat 2 (by decide)
              have q3 := hat 3 (by decide)
              have q4 := hat 4 (by decide)
              have q5 := hat 5 (by decide)
              rw [add_mid5, add_mid5] at q0 q1 q2 q3 q4 q5
              refine ⟨t.put b (off + i * 6), put_b _ _ _, put_o _ _ _, TreeAt.mk ?_ (fun k hk => hK k (by rwa [put_kids] at hk)), hfit.put _ _, fun _ => by rw [put_wt]; exact hcnt⟩
              refine ⟨pa', ca', pk', ck', put_parts _ _ hP, ?_⟩
              rw [put_b, put_o]
              cases t
              exact ⟨q0, q1, q2, q3, q4, q5⟩
            obtain ⟨V, hV⟩ := choose_lt (α := AT) hall
            refine mk (some ⟨b, off, none⟩) cap ((List.range len).map V) (by rw [hcs]; simp) (by simpa using hlc) (fun h => by cases h) (by simp; omega) (fun _ => ⟨b, off, rfl, fun i h => ?_⟩) (fun k hk => ?_) ?_ (fun k hk => ?_)
            · have h' : i < len := by simpa using h
              have := hV i h'
              simp only [List.getElem_map, List.getElem_range]
              exact ⟨this.1, this.2.1⟩
            · obtain ⟨i, hi', rfl⟩ := List.mem_map.1 hk
              exact (hV i (List.mem_range.1 hi')).2.2.1
            · rw [hb3]
              have := wt_sum ((List.range len).map V) (elems.map (·.1)) (by simp [hlen]) (fun i h g => by
                have h' : i < len := by simpa using h
                have := (hV i h').2.2.2.2 (by omega)
                simpa using this)
              omega
            · obtain ⟨i, hi', rfl⟩ := List.mem_map.1 hk
              exact (hV i (List.mem_range.1 hi')).2.2.2.1
set_option maxRecDepth 100000 in
/-- AN ARGUMENT THAT IS A TREE. -/
theorem open_nodeU {H : Type} {enc : TypeId × Value → H} {W : World} {v : Value} {d : DataW H} {p : List MemPlace} {base : Nat}
    (hval : Value.okWide Tryz.prog W .any base 27 v) (h : DataW.Trod enc Tryz.prog W 0 (fun _ => true) true 27 v d p) (hb : Rows.uptoBulk d ≤ 1048576) :
    ∃ t pa ca pk ck, v = nodeV t pa ca pk ck ∧ PartsAt W t pa ca pk ck ∧ KidsAt W t ∧ t.wt ≤ 1048576 ∧ t.Fits 1048576 := by
  obtain ⟨arr, rfl, _⟩ := okWide_struct Tryz.underlying27 hval
  obtain ⟨fuel, hf⟩ := h
  obtain ⟨t, pa, ca, pk, ck, hcs, hP, hK, hc, hF⟩ := node_coreU 1048576 (Nat.le_refl _) fuel hf hb
  refine ⟨t, pa, ca, pk, ck, ?_, hP, hK, Nat.le_trans hc hb, hF⟩
  have : arr = nodeC t pa ca pk ck := by
    cases arr
    exact congrArg Array.mk hcs
  rw [this]
  rfl
end Go.Proofs.YtfmlmdfehaajbaaGreatDoor
namespace Go.Proofs.YtfmlmdfehaajbaaGreatDoor
open Go.RowKit Go.Shelf

theorem count_of_plain : ∀ (x y : AT), x.plain = y.plain → x.count = y.count := fun x => by
  induction x using AT.ind with
  | h x ih =>
    intro y h
    have hk := (plain_iff.1 h).2.2.2.2.2
    rw [count_kids' x, count_kids' y, counted_sum, counted_sum]
    have go : ∀ (ks ls : List AT), (∀ k ∈ ks, ∀ z : AT, k.plain = z.plain → k.count = z.count) → ks.map AT.plain = ls.map AT.plain → (ks.map AT.count).sum = (ls.map AT.count).sum := fun ks => by
      induction ks with
      | nil =>
        intro ls _ h
        cases ls with
        | nil => rfl
        | cons l r => simp at h
      | cons k ks ih2 =>
        intro ls hk h
        cases ls with
        | nil => simp at h
        | cons l r =>
          simp only [List.map_cons, List.cons.injEq] at h
          simp only [List.map_cons, List.sum_cons]
          rw [hk k (by simp) l h.1, ih2 r (fun k2 h2 => hk k2 (by simp [h2])) h.2]
    rw [go x.kids y.kids (fun k hk z hz => ih k hk z hz) hk]
theorem cells6 {W : World} {b : Nat} {c0 c1 c2 c3 c4 c5 : Value} {T : TypeId} (h : W.heap[b]? = some (.cells #[c0, c1, c2, c3, c4, c5] T (0, 0))) :
    W.cell? ⟨b, 0, none⟩ = some c0 ∧ W.cell? ⟨b, 1, none⟩ = some c1 ∧ W.cell? ⟨b, 2, none⟩ = some c2 ∧ W.cell? ⟨b, 3, none⟩ = some c3 ∧ W.cell? ⟨b, 4, none⟩ = some c4 ∧ W.cell? ⟨b, 5, none⟩ = some c5 :=
  ⟨cell_of_row _ _ 0 _ _ _ h, cell_of_row _ _ 1 _ _ _ h, cell_of_row _ _ 2 _ _ _ h, cell_of_row _ _ 3 _ _ _ h, cell_of_row _ _ 4 _ _ _ h, cell_of_row _ _ 5 _ _ _ h⟩
set_option maxRecDepth 100000 in
set_option maxHeartbeats 16000000 in
theorem tells_walk (w : World) (hL : Leans5 w) (a : AT) (pa : Option Addr) (ca : Nat) (pk : Option Addr) (ck : Nat) (b : AT) (qa : Option Addr) (da : Nat) (qk : Option Addr) (dk : Nat) (hP : PartsAt w a pa ca pk ck) (hK : KidsAt w a) (hw : a.wt ≤ 1048576) (hF : a.Fits 1048576) (hQ : PartsAt w b qa da qk dk) (hJ : KidsAt w b) :
    Calls Tryz.prog 4 #[nodeV a pa ca pk ck, nodeV b qa da qk dk] w fun e W' => e = .returned (.bool true) ∧ Below w.heap.size w W' := by
  have hc : a.count ≤ 1048576 := Nat.le_trans (count_wt a) hw
  obtain ⟨W1, hW1⟩ : ∃ W1, (w.alloc (.cells (nodeC a pa ca pk ck) 27)).alloc (.cells (nodeC b qa da qk dk) 27) = W1 := ⟨_, rfl⟩
  have hB : Below w.heap.size w W1 := by rw [← hW1]; exact ((Below.refl _ _).alloc (Nat.le_refl _) _).alloc (by simp) _
  have ra : W1.heap[w.heap.size]? = some (.cells (nodeC a pa ca pk ck) 27 (0, 0)) := by rw [← hW1]; exact (Below.heap_alloc _ _ _ (by simp)).trans (heap_alloc_new _ _)
  have rb : W1.heap[w.heap.size + 1]? = some (.cells (nodeC b qa da qk dk) 27 (0, 0)) := by
    rw [← hW1]
    have := heap_alloc_new (w.alloc (.cells (nodeC a pa ca pk ck) 27)) (.cells (nodeC b qa da qk dk) 27)
    rwa [World.size_alloc] at this
  have HB := Lib.hid hB
  have HRA := Lib.hid (And.intro ra rb)
  have CA := Lib.hid (awake5_any W1 (hL.below hB))
  have hst : ∀ W, Below W1.heap.size W1 W → Below w.heap.size w W := fun W y => hB.trans (y.mono hB.size)
  have HST := Lib.hid hst
  obtain ⟨ls, hls⟩ : ∃ ls, insAll [] (a.all.flatMap AT.uris) = ls := ⟨_, rfl⟩
  obtain ⟨nS, hnS⟩ : ∃ n, ls.length = n := ⟨_, rfl⟩
  have hnb : nS ≤ 1048576 := by
    have := insAll_len [] (a.all.flatMap AT.uris)
    rw [hls, hnS] at this
    unfold AT.wt at hw
    simp only [List.length_nil] at this
    omega
  have CS := Lib.hid (fun (W : World) (y : Below W1.heap.size W1 W) => (spaces_rise W a pa ca pk ck (hP.stay (Stay.below (hst W y))) (fun k hk => (hK k hk).stay (Stay.below (hst W y))) (by omega) (by unfold AT.wt at hw; omega)).mono (R' := fun e W' => ∃ q cap, e = .returned (.slice q nS cap) ∧ nS ≤ cap ∧ Below W.heap.size W W' ∧ Hid' (StrsAt W' q ls)) (fun e W' z => by
    obtain ⟨q, cap, l, h1, h2, h3, ⟨h4, h5, h6⟩, h7⟩ := z
    have : l = ls := by rw [← hls]; exact spaces_one h4 h2 h3
    subst this
    exact ⟨q, cap, by rw [h1, hnS], by omega, h7, h6⟩))
  have CR := Lib.hid (fun (W : World) (y : Below W1.heap.size W1 W) => (rspaces_any W a pa ca pk ck (hP.stay (Stay.below (hst W y))) (fun k hk => (hK k hk).stay (Stay.below (hst W y))) hc hw).mono (R' := fun e W' => ∃ g c, e = .returned (.slice (some ⟨g, 0, none⟩) nS c) ∧ Below W.heap.size W W' ∧ Hid' (StrRow W' g ls)) (fun e W' z => by
    obtain ⟨g, c, h1, h2, h3⟩ := z
    rw [hls] at h1 h3
    exact ⟨g, c, by rw [h1, hnS], h2, h3⟩))
  obtain ⟨r0, hr0⟩ := says_of (a.plain = b.plain)
  have CE := Lib.hid (fun (W : World) (y : Below W1.heap.size W1 W) => (equal_any W a b pa ca pk ck qa da qk dk (hP.stay (Stay.below (hst W y))) (fun k hk => (hK k hk).stay (Stay.below (hst W y))) (hQ.stay (Stay.below (hst W y))) (fun k hk => (hJ k hk).stay (Stay.below (hst W y))) hc).mono (R' := fun e W' => e = .returned (.bool r0) ∧ Below W.heap.size W W') (fun e W' z => ⟨z.1.of hr0, z.2⟩))
  have CM := Lib.hid (fun (W : World) (y : Below W1.heap.size W1 W) => (same_any a b W pa ca pk ck qa da qk dk (hP.stay (Stay.below (hst W y))) (fun k hk => (hK k hk).stay (Stay.below (hst W y))) (hQ.stay (Stay.below (hst W y))) (fun k hk => (hJ k hk).stay (Stay.below (hst W y)))).mono (R' := fun e W' => e = .returned (.bool r0) ∧ Below W.heap.size W W') (fun e W' z => ⟨z.1.of hr0, z.2⟩))
  obtain ⟨N, hN⟩ : ∃ N, a.count = N := ⟨_, rfl⟩
  obtain ⟨D, hD⟩ : ∃ D, a.deep = D := ⟨_, rfl⟩
  have CZ := Lib.hid (fun (W : World) (y : Below W1.heap.size W1 W) => (size_any W a pa ca pk ck (hP.stay (Stay.below (hst W y))) (fun k hk => (hK k hk).stay (Stay.below (hst W y))) (by omega)).mono (R' := fun e W' => e = .returned (.int .i64 (N : Int)) ∧ Below W.heap.size W W') (fun e W' z => ⟨by rw [z.1, hN], z.2⟩))
  have CD := Lib.hid (fun (W : World) (y : Below W1.heap.size W1 W) => (depth_any W a pa ca pk ck (hP.stay (Stay.below (hst W y))) (fun k hk => (hK k hk).stay (Stay.below (hst W y))) (by omega)).mono (R' := fun e W' => e = .returned (.int .i64 (D : Int)) ∧ Below W.heap.size W W') (fun e W' z => ⟨by rw [z.1, put_deep, hD], z.2⟩))
  have CQ := Lib.hid (fun (W : World) (y : Below W1.heap.size W1 W) => (deepR_any w a W pa ca pk ck hP hK (hst W y) hc).mono (R' := fun e W' => e = .returned (.int .i64 (D : Int)) ∧ Below W.heap.size W W') (fun e W' z => ⟨by rw [z.1, hD], z.2⟩))
  have CL := Lib.hid (fun (W : World) (y : Below W1.heap.size W1 W) => (flat_any w a W pa ca pk ck hP hK (hst W y) hc).mono (R' := fun e W' => ∃ g c, e = .returned (.slice (some ⟨g, 0, none⟩) N c) ∧ Below W.heap.size W W') (fun e W' z => by
    obtain ⟨g, c, zs, h1, h2, h3, _⟩ := z
    have : zs.length = N := by rw [← hN]; have := congrArg List.length h3; rwa [List.length_map] at this
    exact ⟨g, c, by rw [h1, this], h2⟩))
  have CT := Lib.hid (fun (W : World) (y : Below W1.heap.size W1 W) => (twin_any w a W pa ca pk ck hP hK (hst W y) hc hF).mono (R' := fun e W' => ∃ T ta tca tk tck, e = .returned (.agg #[.int .i64 T.kind, .string T.uri, .string T.loc, .slice ta T.attrs.length tca, .slice tk T.kids.length tck, .string T.text]) ∧ Below W.heap.size W W' ∧ Hid' (T.plain = a.plain ∧ ∀ W2 : World, (∀ k, k < W'.heap.size → W.heap.size ≤ k → W2.heap[k]? = W'.heap[k]?) → PartsAt W2 T ta tca tk tck ∧ KidsAt W2 T)) (fun e W' z => by
    obtain ⟨T, ta, tca, tk, tck, h1, h2, h3, h4⟩ := z
    exact ⟨T, ta, tca, tk, tck, h1, h3, h2, h4⟩))
  have CC := Lib.hid (fun (W : World) (y : Below W1.heap.size W1 W) => (copy_any W a pa ca pk ck (hP.stay (Stay.below (hst W y))) (fun k hk => (hK k hk).stay (Stay.below (hst W y))) hc hF).mono (R' := fun e W' => ∃ X xa xca xk xck, e = .returned (.agg #[.int .i64 X.kind, .string X.uri, .string X.loc, .slice xa X.attrs.length xca, .slice xk X.kids.length xck, .string X.text]) ∧ Below W.heap.size W W' ∧ Hid' (X.plain = a.plain ∧ ∀ W2 : World, (∀ k, k < W'.heap.size → W.heap.size ≤ k → W2.heap[k]? = W'.heap[k]?) → PartsAt W2 X xa xca xk xck ∧ KidsAt W2 X ∧ Built W.heap.size W2 X ∧ Typed2 W.heap.size W2 xa xk)) (fun e W' z => by
    obtain ⟨X, xa, xca, xk, xck, h1, h2, h3, h4, h5⟩ := z
    exact ⟨X, xa, xca, xk, xck, h1, h3, h2, h5⟩))
  have HH := Lib.hid (And.intro hP (And.intro hK hc))
  have HS := Lib.hid (fun (W : World) (y : Below W1.heap.size W1 W) => show W.cell? ⟨w.heap.size, 0, none⟩ = some (.int .i64 a.kind) ∧ W.cell? ⟨w.heap.size, 1, none⟩ = some (.string a.uri) ∧ W.cell? ⟨w.heap.size, 2, none⟩ = some (.string a.loc) ∧ W.cell? ⟨w.heap.size, 3, none⟩ = some (.slice pa a.attrs.length ca) ∧ W.cell? ⟨w.heap.size, 4, none⟩ = some (.slice pk a.kids.length ck) ∧ W.cell? ⟨w.heap.size, 5, none⟩ = some (.string a.text) ∧ W.cell? ⟨w.heap.size + 1, 0, none⟩ = some (.int .i64 b.kind) ∧ W.cell? ⟨w.heap.size + 1, 1, none⟩ = some (.string b.uri) ∧ W.cell? ⟨w.heap.size + 1, 2, none⟩ = some (.string b.loc) ∧ W.cell? ⟨w.heap.size + 1, 3, none⟩ = some (.slice qa b.attrs.length da) ∧ W.cell? ⟨w.heap.size + 1, 4, none⟩ = some (.slice qk b.kids.length dk) ∧ W.cell? ⟨w.heap.size + 1, 5, none⟩ = some (.string b.text) from by
    obtain ⟨a0, a1, a2, a3, a4, a5⟩ := cells6 ((y.block _ (it_lt ra)).trans ra)
    obtain ⟨b0, b1, b2, b3, b4, b5⟩ := cells6 ((y.block _ (it_lt rb)).trans rb)
    exact ⟨a0, a1, a2, a3, a4, a5, b0, b1, b2, b3, b4, b5⟩)
  have HLS := Lib.hid hnS
  have hbb : (r0 != r0) = false := by simp
  have hNb : N ≤ 1048576 := by omega
  have hDb : D ≤ 1048576 := by have := deep_le_count a; omega
  have hz1 : W1.heap.size = w.heap.size + 2 := by rw [← hW1]; simp
  unfold nodeC at hW1 HRA
  unfold nodeV at CS CR CE CM CZ CD CQ CL CT CC ⊢
  clear hP hK hw hF hQ hJ hc hst hB ra rb hL hls hnS hr0 hN hD hz1
  go_enter Tryz.func4, Tryz.ntmps4
  go_upto_region 3 with (go_at_call 7; with_reducible refine CA.out.mono ?_; rintro e wA ⟨rfl, hbA⟩)
  refine wp_region_held_drew (S := fun W => W.cell? ⟨w.heap.size, 0, none⟩ = some (.int .i64 a.kind) ∧ W.cell? ⟨w.heap.size, 1, none⟩ = some (.string a.uri) ∧ W.cell? ⟨w.heap.size, 2, none⟩ = some (.string a.loc) ∧ W.cell? ⟨w.heap.size, 3, none⟩ = some (.slice pa a.attrs.length ca) ∧ W.cell? ⟨w.heap.size, 4, none⟩ = some (.slice pk a.kids.length ck) ∧ W.cell? ⟨w.heap.size, 5, none⟩ = some (.string a.text) ∧ W.cell? ⟨w.heap.size + 1, 0, none⟩ = some (.int .i64 b.kind) ∧ W.cell? ⟨w.heap.size + 1, 1, none⟩ = some (.string b.uri) ∧ W.cell? ⟨w.heap.size + 1, 2, none⟩ = some (.string b.loc) ∧ W.cell? ⟨w.heap.size + 1, 3, none⟩ = some (.slice qa b.attrs.length da) ∧ W.cell? ⟨w.heap.size + 1, 4, none⟩ = some (.slice qk b.kids.length dk) ∧ W.cell? ⟨w.heap.size + 1, 5, none⟩ = some (.string b.text)) (by kernel_rfl) (HS.out _ hbA.drew) (fun hHeld => ?_)
  have e0 : Below W1.heap.size W1 wA.drew := hbA.drew
  obtain ⟨X0, hX0⟩ : ∃ X, wA.drew = X := ⟨_, rfl⟩
  rw [hX0] at e0 hHeld ⊢
  clear hX0
  refine wpAnyH_take (i := 0) (oi := _) (v := ?v0r) rfl (by kernel_rfl) (by kernel_rfl) (by kernel_rfl) (fun _ _ _ h => h) (Or.inl ⟨by rfl, ?hy0r⟩) (by assumption) ?rest0r
  case hy0r =>
    intro W hSw
    obtain ⟨h0, h1, h2, h3, h4, h5, h6, h7, h8, h9, h10, h11⟩ := hSw
    go_simp
    try (with_reducible rfl)
  try simp only [Act.put, List.getElem_toArray, List.getElem_cons_zero, List.getElem_cons_succ, List.setIfInBounds_toArray, List.set_cons_zero, List.set_cons_succ]
  refine wpAnyH_take (i := 2) (oi := _) (v := ?v2r) rfl (by kernel_rfl) (by kernel_rfl) (by kernel_rfl) (fun _ _ _ h => h) (Or.inl ⟨by rfl, ?hy2r⟩) (by assumption) ?rest2r
  case hy2r =>
    intro W hSw
    obtain ⟨h0, h1, h2, h3, h4, h5, h6, h7, h8, h9, h10, h11⟩ := hSw
    go_simp
    try (with_reducible rfl)
  try simp only [Act.put, List.getElem_toArray, List.getElem_cons_zero, List.getElem_cons_succ, List.setIfInBounds_toArray, List.set_cons_zero, List.set_cons_succ]
  refine wpAnyH_ready (rs := [1]) (by kernel_rfl) (by simp) ?_
  refine AllReadyH.cons (o := _) rfl (fun K hK => ?_) AllReadyH.nil
  go_simp
  refine (CS.out _ e0).mono ?_
  rintro e X1 ⟨q, cap, rfl, hqc, hbX1, hq⟩
  have e1 := below_cat5 e0 hbX1
  have HQ := Lib.hid (show StrsAt X1 q ls from hq)
  clear hq
  refine hK.out _ _ (HS.out _ e1) (fun hHeldX1 => ?_)
  clear hK K
  try simp only [Act.put, List.getElem_toArray, List.getElem_cons_zero, List.getElem_cons_succ, List.setIfInBounds_toArray, List.set_cons_zero, List.set_cons_succ]
  refine wpAnyH_ready (rs := [3]) (by kernel_rfl) (by simp) ?_
  refine AllReadyH.cons (o := _) rfl (fun K hK => ?_) AllReadyH.nil
  go_simp
  refine (CR.out _ e1).mono ?_
  rintro e X2 ⟨g, gc, rfl, hbX2, hg⟩
  have e2 := below_cat5 e1 hbX2
  have HG := Lib.hid (show StrRow X2 g ls from hg)
  clear hg
  refine hK.out _ _ (HS.out _ e2) (fun hHeldX2 => ?_)
  clear hK K
  try simp only [Act.put, List.getElem_toArray, List.getElem_cons_zero, List.getElem_cons_succ, List.setIfInBounds_toArray, List.set_cons_zero, List.set_cons_succ]
  refine wpAnyH_take (i := 4) (oi := _) (v := ?v4r) rfl (by kernel_rfl) (by kernel_rfl) (by kernel_rfl) (fun _ _ _ h => h) (Or.inl ⟨by rfl, ?hy4r⟩) (by assumption) ?rest4r
  case hy4r =>
    intro W hSw
    obtain ⟨h0, h1, h2, h3, h4, h5, h6, h7, h8, h9, h10, h11⟩ := hSw
    go_simp
    try (with_reducible rfl)
  try simp only [Act.put, List.getElem_toArray, List.getElem_cons_zero, List.getElem_cons_succ, List.setIfInBounds_toArray, List.set_cons_zero, List.set_cons_succ]
  refine wpAnyH_take (i := 5) (oi := _) (v := ?v5r) rfl (by kernel_rfl) (by kernel_rfl) (by kernel_rfl) (fun _ _ _ h => h) (Or.inl ⟨by rfl, ?hy5r⟩) (by assumption) ?rest5r
  case hy5r =>
    intro W hSw
    obtain ⟨h0, h1, h2, h3, h4, h5, h6, h7, h8, h9, h10, h11⟩ := hSw
    go_simp
    try (with_reducible rfl)
  try simp only [Act.put, List.getElem_toArray, List.getElem_cons_zero, List.getElem_cons_succ, List.setIfInBounds_toArray, List.set_cons_zero, List.set_cons_succ]
  refine wpAnyH_done (by kernel_rfl) ?_ _
  go_upto_region 4 with (fail)
  refine wp_region_held_drew (S := fun W => W.cell? ⟨w.heap.size, 0, none⟩ = some (.int .i64 a.kind) ∧ W.cell? ⟨w.heap.size, 1, none⟩ = some (.string a.uri) ∧ W.cell? ⟨w.heap.size, 2, none⟩ = some (.string a.loc) ∧ W.cell? ⟨w.heap.size, 3, none⟩ = some (.slice pa a.attrs.length ca) ∧ W.cell? ⟨w.heap.size, 4, none⟩ = some (.slice pk a.kids.length ck) ∧ W.cell? ⟨w.heap.size, 5, none⟩ = some (.string a.text) ∧ W.cell? ⟨w.heap.size + 1, 0, none⟩ = some (.int .i64 b.kind) ∧ W.cell? ⟨w.heap.size + 1, 1, none⟩ = some (.string b.uri) ∧ W.cell? ⟨w.heap.size + 1, 2, none⟩ = some (.string b.loc) ∧ W.cell? ⟨w.heap.size + 1, 3, none⟩ = some (.slice qa b.attrs.length da) ∧ W.cell? ⟨w.heap.size + 1, 4, none⟩ = some (.slice qk b.kids.length dk) ∧ W.cell? ⟨w.heap.size + 1, 5, none⟩ = some (.string b.text)) (by kernel_rfl) (HS.out _ e2.drew) (fun hHeld => ?_)
  have f0 : Below W1.heap.size W1 X2.drew := e2.drew
  have k0 : Below X2.heap.size X2 X2.drew := (Below.refl _ _).drew
  obtain ⟨Y0, hY0⟩ : ∃ X, X2.drew = X := ⟨_, rfl⟩
  rw [hY0] at f0 k0 hHeld ⊢
  clear hY0
  refine wpAnyH_take (i := 0) (oi := _) (v := ?v0s) rfl (by kernel_rfl) (by kernel_rfl) (by kernel_rfl) (fun _ _ _ h => h) (Or.inl ⟨by rfl, ?hy0s⟩) (by assumption) ?rest0s
  case hy0s =>
    intro W hSw
    obtain ⟨h0, h1, h2, h3, h4, h5, h6, h7, h8, h9, h10, h11⟩ := hSw
    go_simp
    try (with_reducible rfl)
  try simp only [Act.put, List.getElem_toArray, List.getElem_cons_zero, List.getElem_cons_succ, List.setIfInBounds_toArray, List.set_cons_zero, List.set_cons_succ]
  refine wpAnyH_take (i := 1) (oi := _) (v := ?v1s) rfl (by kernel_rfl) (by kernel_rfl) (by kernel_rfl) (fun _ _ _ h => h) (Or.inl ⟨by rfl, ?hy1s⟩) (by assumption) ?rest1s
  case hy1s =>
    intro W hSw
    obtain ⟨h0, h1, h2, h3, h4, h5, h6, h7, h8, h9, h10, h11⟩ := hSw
    go_simp
    try (with_reducible rfl)
  try simp only [Act.put, List.getElem_toArray, List.getElem_cons_zero, List.getElem_cons_succ, List.setIfInBounds_toArray, List.set_cons_zero, List.set_cons_succ]
  refine wpAnyH_take (i := 3) (oi := _) (v := ?v3s) rfl (by kernel_rfl) (by kernel_rfl) (by kernel_rfl) (fun _ _ _ h => h) (Or.inl ⟨by rfl, ?hy3s⟩) (by assumption) ?rest3s
  case hy3s =>
    intro W hSw
    obtain ⟨h0, h1, h2, h3, h4, h5, h6, h7, h8, h9, h10, h11⟩ := hSw
    go_simp
    try (with_reducible rfl)
  try simp only [Act.put, List.getElem_toArray, List.getElem_cons_zero, List.getElem_cons_succ, List.setIfInBounds_toArray, List.set_cons_zero, List.set_cons_succ]
  refine wpAnyH_take (i := 4) (oi := _) (v := ?v4s) rfl (by kernel_rfl) (by kernel_rfl) (by kernel_rfl) (fun _ _ _ h => h) (Or.inl ⟨by rfl, ?hy4s⟩) (by assumption) ?rest4s
  case hy4s =>
    intro W hSw
    obtain ⟨h0, h1, h2, h3, h4, h5, h6, h7, h8, h9, h10, h11⟩ := hSw
    go_simp
    try (with_reducible rfl)
  try simp only [Act.put, List.getElem_toArray, List.getElem_cons_zero, List.getElem_cons_succ, List.setIfInBounds_toArray, List.set_cons_zero, List.set_cons_succ]
  refine wpAnyH_ready (rs := [2]) (by kernel_rfl) (by simp) ?_
  refine AllReadyH.cons (o := _) rfl (fun K hK => ?_) AllReadyH.nil
  go_simp
  refine (CE.out _ f0).mono ?_
  rintro e Y1 ⟨rfl, hbY1⟩
  have f1 := below_cat5 f0 hbY1
  refine hK.out _ _ (HS.out _ f1) (fun hHeldY1 => ?_)
  clear hK K
  try simp only [Act.put, List.getElem_toArray, List.getElem_cons_zero, List.getElem_cons_succ, List.setIfInBounds_toArray, List.set_cons_zero, List.set_cons_succ]
  refine wpAnyH_ready (rs := [5]) (by kernel_rfl) (by simp) ?_
  refine AllReadyH.cons (o := _) rfl (fun K hK => ?_) AllReadyH.nil
  go_simp
  refine (CM.out _ f1).mono ?_
  rintro e Y2 ⟨rfl, hbY2⟩
  have f2 := below_cat5 f1 hbY2
  refine hK.out _ _ (HS.out _ f2) (fun hHeldY2 => ?_)
  clear hK K
  try simp only [Act.put, List.getElem_toArray, List.getElem_cons_zero, List.getElem_cons_succ, List.setIfInBounds_toArray, List.set_cons_zero, List.set_cons_succ]
  refine wpAnyH_take (i := 6) (oi := _) (v := ?v6s) rfl (by kernel_rfl) (by kernel_rfl) (by kernel_rfl) (fun _ _ _ h => h) (Or.inl ⟨by rfl, ?hy6s⟩) (by assumption) ?rest6s
  case hy6s =>
    intro W hSw
    obtain ⟨h0, h1, h2, h3, h4, h5, h6, h7, h8, h9, h10, h11⟩ := hSw
    go_simp
    try (with_reducible rfl)
  try simp only [Act.put, List.getElem_toArray, List.getElem_cons_zero, List.getElem_cons_succ, List.setIfInBounds_toArray, List.set_cons_zero, List.set_cons_succ]
  refine wpAnyH_take (i := 7) (oi := _) (v := ?v7s) rfl (by kernel_rfl) (by kernel_rfl) (by kernel_rfl) (fun _ _ _ h => h) (Or.inl ⟨by rfl, ?hy7s⟩) (by assumption) ?rest7s
  case hy7s =>
    intro W hSw
    obtain ⟨h0, h1, h2, h3, h4, h5, h6, h7, h8, h9, h10, h11⟩ := hSw
    go_simp
    try (with_reducible rfl)
  try simp only [Act.put, List.getElem_toArray, List.getElem_cons_zero, List.getElem_cons_succ, List.setIfInBounds_toArray, List.set_cons_zero, List.set_cons_succ]
  refine wpAnyH_take (i := 8) (oi := _) (v := ?v8s) rfl (by kernel_rfl) (by kernel_rfl) (by kernel_rfl) (fun _ _ _ h => h) (Or.inl ⟨by rfl, ?hy8s⟩) (by assumption) ?rest8s
  case hy8s =>
    intro W hSw
    obtain ⟨h0, h1, h2, h3, h4, h5, h6, h7, h8, h9, h10, h11⟩ := hSw
    go_simp
    try (with_reducible rfl)
  try simp only [Act.put, List.getElem_toArray, List.getElem_cons_zero, List.getElem_cons_succ, List.setIfInBounds_toArray, List.set_cons_zero, List.set_cons_succ]
  refine wpAnyH_take (i := 10) (oi := _) (v := ?v10s) rfl (by kernel_rfl) (by kernel_rfl) (by kernel_rfl) (fun _ _ _ h => h) (Or.inl ⟨by rfl, ?hy10s⟩) (by assumption) ?rest10s
  case hy10s =>
    intro W hSw
    obtain ⟨h0, h1, h2, h3, h4, h5, h6, h7, h8, h9, h10, h11⟩ := hSw
    go_simp
    try (with_reducible rfl)
  try simp only [Act.put, List.getElem_toArray, List.getElem_cons_zero, List.getElem_cons_succ, List.setIfInBounds_toArray, List.set_cons_zero, List.set_cons_succ]
  refine wpAnyH_ready (rs := [9]) (by kernel_rfl) (by simp) ?_
  refine AllReadyH.cons (o := _) rfl (fun K hK => ?_) AllReadyH.nil
  go_simp
  refine (CZ.out _ f2).mono ?_
  rintro e Y3 ⟨rfl, hbY3⟩
  have f3 := below_cat5 f2 hbY3
  refine hK.out _ _ (HS.out _ f3) (fun hHeldY3 => ?_)
  clear hK K
  try simp only [Act.put, List.getElem_toArray, List.getElem_cons_zero, List.getElem_cons_succ, List.setIfInBounds_toArray, List.set_cons_zero, List.set_cons_succ]
  refine wpAnyH_ready (rs := [11]) (by kernel_rfl) (by simp) ?_
  refine AllReadyH.cons (o := _) rfl (fun K hK => ?_) AllReadyH.nil
  go_simp
  refine (CL.out _ f3).mono ?_
  rintro e Y4 ⟨fg, fc, rfl, hbY4⟩
  have f4 := below_cat5 f3 hbY4
  refine hK.out _ _ (HS.out _ f4) (fun hHeldY4 => ?_)
  clear hK K
  try simp only [Act.put, List.getElem_toArray, List.getElem_cons_zero, List.getElem_cons_succ, List.setIfInBounds_toArray, List.set_cons_zero, List.set_cons_succ]
  refine wpAnyH_take (i := 12) (oi := _) (v := ?v12s) rfl (by kernel_rfl) (by kernel_rfl) (by kernel_rfl) (fun _ _ _ h => h) (Or.inl ⟨by rfl, ?hy12s⟩) (by assumption) ?rest12s
  case hy12s =>
    intro W hSw
    obtain ⟨h0, h1, h2, h3, h4, h5, h6, h7, h8, h9, h10, h11⟩ := hSw
    go_simp
    try (with_reducible rfl)
  try simp only [Act.put, List.getElem_toArray, List.getElem_cons_zero, List.getElem_cons_succ, List.setIfInBounds_toArray, List.set_cons_zero, List.set_cons_succ]
  refine wpAnyH_take (i := 13) (oi := _) (v := ?v13s) rfl (by kernel_rfl) (by kernel_rfl) (by kernel_rfl) (fun _ _ _ h => h) (Or.inl ⟨by rfl, ?hy13s⟩) (by assumption) ?rest13s
  case hy13s =>
    intro W hSw
    obtain ⟨h0, h1, h2, h3, h4, h5, h6, h7, h8, h9, h10, h11⟩ := hSw
    go_simp
    try (with_reducible rfl)
  try simp only [Act.put, List.getElem_toArray, List.getElem_cons_zero, List.getElem_cons_succ, List.setIfInBounds_toArray, List.set_cons_zero, List.set_cons_succ]
  refine wpAnyH_take (i := 14) (oi := _) (v := ?v14s) rfl (by kernel_rfl) (by kernel_rfl) (by kernel_rfl) (fun _ _ _ h => h) (Or.inl ⟨by rfl, ?hy14s⟩) (by assumption) ?rest14s
  case hy14s =>
    intro W hSw
    obtain ⟨h0, h1, h2, h3, h4, h5, h6, h7, h8, h9, h10, h11⟩ := hSw
    go_simp
    try (with_reducible rfl)
  try simp only [Act.put, List.getElem_toArray, List.getElem_cons_zero, List.getElem_cons_succ, List.setIfInBounds_toArray, List.set_cons_zero, List.set_cons_succ]
  refine wpAnyH_take (i := 15) (oi := _) (v := ?v15s) rfl (by kernel_rfl) (by kernel_rfl) (by kernel_rfl) (fun _ _ _ h => h) (Or.inl ⟨by rfl, ?hy15s⟩) (by assumption) ?rest15s
  case hy15s =>
    intro W hSw
    obtain ⟨h0, h1, h2, h3, h4, h5, h6, h7, h8, h9, h10, h11⟩ := hSw
    go_simp
    try (with_reducible rfl)
  try simp only [Act.put, List.getElem_toArray, List.getElem_cons_zero, List.getElem_cons_succ, List.setIfInBounds_toArray, List.set_cons_zero, List.set_cons_succ]
  refine wpAnyH_take (i := 16) (oi := _) (v := ?v16s) rfl (by kernel_rfl) (by kernel_rfl) (by kernel_rfl) (fun _ _ _ h => h) (Or.inl ⟨by rfl, ?hy16s⟩) (by assumption) ?rest16s
  case hy16s =>
    intro W hSw
    obtain ⟨h0, h1, h2, h3, h4, h5, h6, h7, h8, h9, h10, h11⟩ := hSw
    go_simp
    try (with_reducible rfl)
  try simp only [Act.put, List.getElem_toArray, List.getElem_cons_zero, List.getElem_cons_succ, List.setIfInBounds_toArray, List.set_cons_zero, List.set_cons_succ]
  refine wpAnyH_take (i := 18) (oi := _) (v := ?v18s) rfl (by kernel_rfl) (by kernel_rfl) (by kernel_rfl) (fun _ _ _ h => h) (Or.inl ⟨by rfl, ?hy18s⟩) (by assumption) ?rest18s
  case hy18s =>
    intro W hSw
    obtain ⟨h0, h1, h2, h3, h4, h5, h6, h7, h8, h9, h10, h11⟩ := hSw
    go_simp
    try (with_reducible rfl)
  try simp only [Act.put, List.getElem_toArray, List.getElem_cons_zero, List.getElem_cons_succ, List.setIfInBounds_toArray, List.set_cons_zero, List.set_cons_succ]
  refine wpAnyH_ready (rs := [17]) (by kernel_rfl) (by simp) ?_
  refine AllReadyH.cons (o := _) rfl (fun K hK => ?_) AllReadyH.nil
  go_simp
  refine (CD.out _ f4).mono ?_
  rintro e Y5 ⟨rfl, hbY5⟩
  have f5 := below_cat5 f4 hbY5
  refine hK.out _ _ (HS.out _ f5) (fun hHeldY5 => ?_)
  clear hK K
  try simp only [Act.put, List.getElem_toArray, List.getElem_cons_zero, List.getElem_cons_succ, List.setIfInBounds_toArray, List.set_cons_zero, List.set_cons_succ]
  refine wpAnyH_ready (rs := [19]) (by kernel_rfl) (by simp) ?_
  refine AllReadyH.cons (o := _) rfl (fun K hK => ?_) AllReadyH.nil
  go_simp
  refine (CQ.out _ f5).mono ?_
  rintro e Y6 ⟨rfl, hbY6⟩
  have f6 := below_cat5 f5 hbY6
  refine hK.out _ _ (HS.out _ f6) (fun hHeldY6 => ?_)
  clear hK K
  try simp only [Act.put, List.getElem_toArray, List.getElem_cons_zero, List.getElem_cons_succ, List.setIfInBounds_toArray, List.set_cons_zero, List.set_cons_succ]
  refine wpAnyH_take (i := 20) (oi := _) (v := ?v20s) rfl (by kernel_rfl) (by kernel_rfl) (by kernel_rfl) (fun _ _ _ h => h) (Or.inl ⟨by rfl, ?hy20s⟩) (by assumption) ?rest20s
  case hy20s =>
    intro W hSw
    obtain ⟨h0, h1, h2, h3, h4, h5, h6, h7, h8, h9, h10, h11⟩ := hSw
    go_simp
    try (with_reducible rfl)
  try simp only [Act.put, List.getElem_toArray, List.getElem_cons_zero, List.getElem_cons_succ, List.setIfInBounds_toArray, List.set_cons_zero, List.set_cons_succ]
  refine wpAnyH_take (i := 21) (oi := _) (v := ?v21s) rfl (by kernel_rfl) (by kernel_rfl) (by kernel_rfl) (fun _ _ _ h => h) (Or.inl ⟨by rfl, ?hy21s⟩) (by assumption) ?rest21s
  case hy21s =>
    intro W hSw
    obtain ⟨h0, h1, h2, h3, h4, h5, h6, h7, h8, h9, h10, h11⟩ := hSw
    go_simp
    try (with_reducible rfl)
  try simp only [Act.put, List.getElem_toArray, List.getElem_cons_zero, List.getElem_cons_succ, List.setIfInBounds_toArray, List.set_cons_zero, List.set_cons_succ]
  refine wpAnyH_take (i := 22) (oi := _) (v := ?v22s) rfl (by kernel_rfl) (by kernel_rfl) (by kernel_rfl) (fun _ _ _ h => h) (Or.inl ⟨by rfl, ?hy22s⟩) (by assumption) ?rest22s
  case hy22s =>
    intro W hSw
    obtain ⟨h0, h1, h2, h3, h4, h5, h6, h7, h8, h9, h10, h11⟩ := hSw
    go_simp
    try (with_reducible rfl)
  try simp only [Act.put, List.getElem_toArray, List.getElem_cons_zero, List.getElem_cons_succ, List.setIfInBounds_toArray, List.set_cons_zero, List.set_cons_succ]
  refine wpAnyH_take (i := 23) (oi := _) (v := ?v23s) rfl (by kernel_rfl) (by kernel_rfl) (by kernel_rfl) (fun _ _ _ h => h) (Or.inl ⟨by rfl, ?hy23s⟩) (by assumption) ?rest23s
  case hy23s =>
    intro W hSw
    obtain ⟨h0, h1, h2, h3, h4, h5, h6, h7, h8, h9, h10, h11⟩ := hSw
    go_simp
    try (with_reducible rfl)
  try simp only [Act.put, List.getElem_toArray, List.getElem_cons_zero, List.getElem_cons_succ, List.setIfInBounds_toArray, List.set_cons_zero, List.set_cons_succ]
  refine wpAnyH_take (i := 24) (oi := _) (v := ?v24s) rfl (by kernel_rfl) (by kernel_rfl) (by kernel_rfl) (fun _ _ _ h => h) (Or.inl ⟨by rfl, ?hy24s⟩) (by assumption) ?rest24s
  case hy24s =>
    intro W hSw
    obtain ⟨h0, h1, h2, h3, h4, h5, h6, h7, h8, h9, h10, h11⟩ := hSw
    go_simp
    try (with_reducible rfl)
  try simp only [Act.put, List.getElem_toArray, List.getElem_cons_zero, List.getElem_cons_succ, List.setIfInBounds_toArray, List.set_cons_zero, List.set_cons_succ]
  refine wpAnyH_take (i := 25) (oi := _) (v := ?v25s) rfl (by kernel_rfl) (by kernel_rfl) (by kernel_rfl) (fun _ _ _ h => h) (Or.inl ⟨by rfl, ?hy25s⟩) (by assumption) ?rest25s
  case hy25s =>
    intro W hSw
    obtain ⟨h0, h1, h2, h3, h4, h5, h6, h7, h8, h9, h10, h11⟩ := hSw
    go_simp
    try (with_reducible rfl)
  try simp only [Act.put, List.getElem_toArray, List.getElem_cons_zero, List.getElem_cons_succ, List.setIfInBounds_toArray, List.set_cons_zero, List.set_cons_succ]
  refine wpAnyH_take (i := 26) (oi := _) (v := ?v26s) rfl (by kernel_rfl) (by kernel_rfl) (by kernel_rfl) (fun _ _ _ h => h) (Or.inl ⟨by rfl, ?hy26s⟩) (by assumption) ?rest26s
  case hy26s =>
    intro W hSw
    obtain ⟨h0, h1, h2, h3, h4, h5, h6, h7, h8, h9, h10, h11⟩ := hSw
    go_simp
    try (with_reducible rfl)
  try simp only [Act.put, List.getElem_toArray, List.getElem_cons_zero, List.getElem_cons_succ, List.setIfInBounds_toArray, List.set_cons_zero, List.set_cons_succ]
  refine wpAnyH_take (i := 27) (oi := _) (v := ?v27s) rfl (by kernel_rfl) (by kernel_rfl) (by kernel_rfl) (fun _ _ _ h => h) (Or.inl ⟨by rfl, ?hy27s⟩) (by assumption) ?rest27s
  case hy27s =>
    intro W hSw
    obtain ⟨h0, h1, h2, h3, h4, h5, h6, h7, h8, h9, h10, h11⟩ := hSw
    go_simp
    try (with_reducible rfl)
  try simp only [Act.put, List.getElem_toArray, List.getElem_cons_zero, List.getElem_cons_succ, List.setIfInBounds_toArray, List.set_cons_zero, List.set_cons_succ]
  refine wpAnyH_take (i := 28) (oi := _) (v := ?v28s) rfl (by kernel_rfl) (by kernel_rfl) (by kernel_rfl) (fun _ _ _ h => h) (Or.inl ⟨by rfl, ?hy28s⟩) (by assumption) ?rest28s
  case hy28s =>
    intro W hSw
    obtain ⟨h0, h1, h2, h3, h4, h5, h6, h7, h8, h9, h10, h11⟩ := hSw
    go_simp
    try (with_reducible rfl)
  try simp only [Act.put, List.getElem_toArray, List.getElem_cons_zero, List.getElem_cons_succ, List.setIfInBounds_toArray, List.set_cons_zero, List.set_cons_succ]
  refine wpAnyH_done (by kernel_rfl) ?_ _
  have hX26 := below_cat5 (below_cat5 (below_cat5 (below_cat5 (below_cat5 (below_cat5 k0 hbY1) hbY2) hbY3) hbY4) hbY5) hbY6
  have HR := Lib.hid (And.intro f6 (And.intro (show StrsAt Y6 q ls from fun h0 => by obtain ⟨b1, o1, e1, hc⟩ := HQ.out h0; exact ⟨b1, o1, e1, fun j hj => t_cell' hX26 (t_cell' hbX2 (hc j hj))⟩) (HG.out.below hX26)))
  clear hX26 k0 hbX1 hbX2 hbY1 hbY2 hbY3 hbY4 hbY5 hbY6 e0 e1 e2 f0 f1 f2 f3 f4 f5 hHeld hHeldX1 hHeldX2 hHeldY1 hHeldY2 hHeldY3 hHeldY4 hHeldY5 hHeldY6 HQ HG
  go_wp2_with (fail)
  go_loopw [47] (fun v wr => ∃ j : Nat, v = .int .i64 (j : Int) ∧ j ≤ nS ∧ Hid' (∃ m, wr = Y6.drewN m)) (fun v _ => nS - (intOf v).toNat)
  case atStart => exact ⟨0, rfl, Nat.zero_le _, ⟨0, rfl⟩⟩
  case round =>
    obtain ⟨j, rfl, hj, m, hm⟩ := hrel
    have hY : Below Y6.heap.size Y6 wr := by rw [hm]; exact below_drewN' (Below.refl _ _) m
    have HM := Lib.hid (show ∀ k, ∃ m', wr.drewN k = Y6.drewN m' from fun k => ⟨m + k, by rw [hm, World.drewN_drewN]⟩)
    have HY := Lib.hid hY
    clear hm
    by_cases hlt : j < nS
    · have hi' : (j : Int) < (nS : Int) := by omega
      have hjl : j < ls.length := by rw [HLS.out]; exact hlt
      obtain ⟨qb, qo, rfl, hqc⟩ := HR.out.2.1 (by omega)
      have s0 := t_cell' hY (hqc j hjl)
      have s1 := t_cell' hY (HR.out.2.2 j hjl)
      have hss : ((ls[j]).toList == (ls[j]).toList) = true := by simp
      have hss2 : ((ls[j]).toList != (ls[j]).toList) = false := by simp
      generalize ls[j] = v at s0 s1 hss hss2
      clear hqc hY
      go_wp2_with (fail)
      go_quiet (fail)
      go_wp2_with (fail)
      go_roundw
      case rel => exact ⟨j + 1, by go_num, hlt, HM.out _⟩
      case measure => simp only [intOf]; omega
    · have hi' : ¬ (j : Int) < (nS : Int) := by omega
      have hbR := HR.out.1.trans (hY.mono HR.out.1.size)
      clear hY
      obtain ⟨q0, q1, q2, q3, q4, q5, _, _, _, _, _, _⟩ := HS.out _ hbR
      go_wp2_with (first
        | (go_at_call 8
           with_reducible refine (CT.out _ hbR).mono ?_
           rintro e wB ⟨T, ta, tca, tk, tck, rfl, hbB, hTT⟩
           have HT := Lib.hid (show _ ∧ _ from hTT)
           clear hTT
           obtain ⟨WB, hWB⟩ : ∃ Y, wB.alloc (.cells #[.int .i64 T.kind, .string T.uri, .string T.loc, .slice ta T.attrs.length tca, .slice tk T.kids.length tck, .string T.text] 27) = Y := ⟨_, rfl⟩
           have HWB := Lib.hid (show Below wB.heap.size wB WB ∧ WB.heap[wB.heap.size]? = some (.cells #[.int .i64 T.kind, .string T.uri, .string T.loc, .slice ta T.attrs.length tca, .slice tk T.kids.length tck, .string T.text] 27 (0, 0)) ∧ wB.heap.size < WB.heap.size from (by rw [← hWB]; exact ⟨(Below.refl _ _).alloc (Nat.le_refl _) _, heap_alloc_new _ _, by simp⟩))
           have bB2 : Below W1.heap.size W1 WB := below_cat5 (below_cat5 hbR hbB) HWB.out.1
           obtain ⟨r0', r1', r2', r3', r4', r5', _, _, _, _, _, _⟩ := HS.out _ bB2)
        | (go_at_call 19
           with_reducible refine (CC.out _ bB2).mono ?_
           rintro e wC ⟨X, xa, xca, xk, xck, rfl, hbC, hXX⟩
           have HX1 := Lib.hid (show _ ∧ _ from hXX)
           clear hXX
           obtain ⟨WC, hWC⟩ : ∃ Y, wC.alloc (.cells #[.int .i64 X.kind, .string X.uri, .string X.loc, .slice xa X.attrs.length xca, .slice xk X.kids.length xck, .string X.text] 27) = Y := ⟨_, rfl⟩
           have HWC := Lib.hid (show Below wC.heap.size wC WC ∧ WC.heap[wC.heap.size]? = some (.cells #[.int .i64 X.kind, .string X.uri, .string X.loc, .slice xa X.attrs.length xca, .slice xk X.kids.length xck, .string X.text] 27 (0, 0)) from (by rw [← hWC]; exact ⟨(Below.refl _ _).alloc (Nat.le_refl _) _, heap_alloc_new _ _⟩))
           have bC2 : Below W1.heap.size W1 WC := below_cat5 (below_cat5 bB2 hbC) HWC.out.1
           obtain ⟨s0, s1, s2, s3, s4, s5, _, _, _, _, _, _⟩ := HS.out _ bC2
           obtain ⟨g0, g1, g2, g3, g4, g5⟩ := cells6 HWC.out.2
           have SX := Lib.hid (fun (W : World) (y : Below WC.heap.size WC W) => show Calls Tryz.prog 11 #[.agg #[.int .i64 X.kind, .string X.uri, .string X.loc, .slice xa X.attrs.length xca, .slice xk X.kids.length xck, .string X.text], .agg #[.int .i64 a.kind, .string a.uri, .string a.loc, .slice pa a.attrs.length ca, .slice pk a.kids.length ck, .string a.text]] W (fun e W' => e = .returned (.bool true) ∧ Below W.heap.size W W') from by
             obtain ⟨hx1, hx2⟩ := HX1.out
             obtain ⟨i1, i2, _, _⟩ := hx2 W (fun k hk1 _ => (below_cat5 HWC.out.1 y).block k hk1)
             have hbW := HST.out _ (below_cat5 bC2 y)
             exact (same_any X a W xa xca xk xck pa ca pk ck i1 i2 (HH.out.1.stay (Stay.below hbW)) (fun k hk' => (HH.out.2.1 k hk').stay (Stay.below hbW))).mono (fun e W' z => ⟨z.1.of (by simp [hx1]), z.2⟩))
           have EX := Lib.hid (fun (W : World) (y : Below WC.heap.size WC W) => show Calls Tryz.prog 14 #[.agg #[.int .i64 X.kind, .string X.uri, .string X.loc, .slice xa X.attrs.length xca, .slice xk X.kids.length xck, .string X.text], .agg #[.int .i64 a.kind, .string a.uri, .string a.loc, .slice pa a.attrs.length ca, .slice pk a.kids.length ck, .string a.text]] W (fun e W' => e = .returned (.bool true) ∧ Below W.heap.size W W') from by
             obtain ⟨hx1, hx2⟩ := HX1.out
             obtain ⟨i1, i2, _, _⟩ := hx2 W (fun k hk1 _ => (below_cat5 HWC.out.1 y).block k hk1)
             have hbW := HST.out _ (below_cat5 bC2 y)
             exact (equal_any W X a xa xca xk xck pa ca pk ck i1 i2 (HH.out.1.stay (Stay.below hbW)) (fun k hk' => (HH.out.2.1 k hk').stay (Stay.below hbW)) (by rw [count_of_plain X a hx1]; exact HH.out.2.2)).mono (fun e W' z => ⟨z.1.of (by simp [hx1]), z.2⟩)))
        | (go_at_call 11
           with_reducible refine (SX.out _ (Below.refl _ _)).mono ?_
           rintro e wD ⟨rfl, hbD⟩
           have bD2 := below_cat5 bC2 hbD
           obtain ⟨k0, k1, k2, k3, k4, k5, _, _, _, _, _, _⟩ := HS.out _ bD2
           obtain ⟨m0, m1, m2, m3, m4, m5⟩ := cells6 ((hbD.block _ (it_lt HWC.out.2)).trans HWC.out.2))
        | (go_at_call 14
           with_reducible refine (EX.out _ hbD).mono ?_
           rintro e wE ⟨rfl, hbE⟩
           have bE2 := below_cat5 bD2 hbE
           obtain ⟨l0, l1, l2, l3, l4, l5, _, _, _, _, _, _⟩ := HS.out _ bE2
           obtain ⟨x0, x1, x2, x3, x4, x5⟩ := cells6 (((below_cat5 hbD hbE).block _ (it_lt HWC.out.2)).trans HWC.out.2)
           have HCE := Lib.hid (below_cat5 HWC.out.1 (below_cat5 hbD hbE))
           have SP := Lib.hid (show Calls Tryz.prog 20 #[.agg #[.int .i64 X.kind, .string X.uri, .string X.loc, .slice xa X.attrs.length xca, .slice xk X.kids.length xck, .string X.text]] wE (fun e W2 => e = .returned (.tuple #[]) ∧ Below WB.heap.size wE W2 ∧ wE.heap.size ≤ W2.heap.size) from by
             obtain ⟨i1, i2, i3, i4⟩ := HX1.out.2 wE (fun k hk1 _ => HCE.out.block k hk1)
             exact spoil_copy i1 i3 i4 (Nat.le_trans hbC.size HCE.out.size)))
        | (go_at_call 20
           with_reducible refine SP.out.mono ?_
           rintro e wG ⟨rfl, hbG, hzG⟩
           have HG := Lib.hid (show Below WB.heap.size WB wG from (below_cat5 hbC HCE.out).trans hbG)
           have bG2 : Below W1.heap.size W1 wG := bB2.trans (HG.out.mono bB2.size)
           obtain ⟨z0, z1, z2, z3, z4, z5, _, _, _, _, _, _⟩ := HS.out _ bG2
           obtain ⟨n0, n1, n2, n3, n4, n5⟩ := cells6 ((HG.out.block _ (it_lt HWB.out.2.1)).trans HWB.out.2.1)
           have SL := Lib.hid (show Calls Tryz.prog 11 #[.agg #[.int .i64 a.kind, .string a.uri, .string a.loc, .slice pa a.attrs.length ca, .slice pk a.kids.length ck, .string a.text], .agg #[.int .i64 T.kind, .string T.uri, .string T.loc, .slice ta T.attrs.length tca, .slice tk T.kids.length tck, .string T.text]] wG (fun e W' => e = .returned (.bool true) ∧ Below wG.heap.size wG W') from by
             obtain ⟨hpl, hliv⟩ := HT.out
             obtain ⟨j1, j2⟩ := hliv wG (fun k hk1 _ => (HG.out.block k (Nat.lt_trans hk1 HWB.out.2.2)).trans (HWB.out.1.block k hk1))
             exact (same_any a T _ pa ca pk ck ta tca tk tck (HH.out.1.stay (Stay.below (HST.out _ bG2))) (fun k hk' => (HH.out.2.1 k hk').stay (Stay.below (HST.out _ bG2))) j1 j2).mono (fun e W' z => ⟨z.1.of (by simp [hpl]), z.2⟩)))
        | (go_at_call 11
           with_reducible refine SL.out.mono ?_
           rintro e wH ⟨rfl, hbH⟩))
      go_ret
      exact ⟨rfl, HST.out _ (below_cat5 bG2 hbH)⟩
end Go.Proofs.YtfmlmdfehaajbaaGreatDoor
