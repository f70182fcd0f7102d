/- Proved here: a copy may be spoiled: nothing that was there before changes. -/
import Derived.Test.YtfmlmdfehaajbaaGreatDoorSpoilGone
namespace Go.Proofs.YtfmlmdfehaajbaaGreatDoor
open Go.RowKit Go.Shelf

/-- How spoil stands: the node in its box. -/
structure SSt (n : Nat) (V0 : World) (S : List AT) (V : World) (x : AT) (pa : Option Addr) (ca : Nat) (pk : Option Addr) (ck : Nat) (U : World) : Prop where
  inv : SInv n V0 S U
  box : U.heap[V.heap.size]? = some (.cells (nodeC x pa ca pk ck) 27 (0, 0))
  size : V.heap.size ≤ U.heap.size
  old : ∀ k, V0.heap.size ≤ k → k < V.heap.size → U.heap[k]? = V.heap[k]?
set_option maxRecDepth 100000 in
set_option maxHeartbeats 8000000 in
theorem spoil_any {n : Nat} {V0 : World} {S : List AT} (hp : Places n V0 S) (hn : n ≤ V0.heap.size) : ∀ (x : AT) (pa : Option Addr) (ca : Nat) (pk : Option Addr) (ck : Nat), TypedOf n V0 x pa ca pk ck → (∀ k ∈ x.kids, ∀ y ∈ k.all, y ∈ S) → ∀ V, SInv n V0 S V →
    Calls Tryz.prog 20 #[nodeV x pa ca pk ck] V (SOut n V0 S V) := fun x => by
  induction x using AT.ind with
  | h x ih =>
    intro pa ca pk ck hT hS V hV
    have H0 := Lib.hid (show SSt n V0 S V x pa ca pk ck (V.alloc (.cells (nodeC x pa ca pk ck) 27)) from
      ⟨hV.far (Nat.le_trans hn hV.below.size) ((Below.refl _ _).alloc (Nat.le_refl _) _), heap_alloc_new _ _, by simp, fun k _ hk => Below.heap_alloc _ _ _ hk⟩)
    have HT := Lib.hid hT
    have HS := Lib.hid hS
    have HIH := Lib.hid ih
    have HV := Lib.hid hV
    unfold nodeC at H0
    unfold nodeV
    clear hT hS ih hV
    go_enter Tryz.func20, Tryz.ntmps20
    go_wp2_with (fail)
    go_loopw [7] (fun v wr => ∃ i : Nat, v = .int .i64 (i : Int) ∧ i ≤ x.attrs.length ∧ Hid' (SSt n V0 S V x pa ca pk ck wr)) (fun v _ => x.attrs.length - (intOf v).toNat)
    case atStart => exact ⟨0, rfl, Nat.zero_le _, H0.out⟩
    case round =>
      obtain ⟨i, rfl, hi, hI⟩ := hrel
      obtain ⟨U, rfl⟩ : ∃ U, U = wr := ⟨_, rfl⟩
      have HI := Lib.hid (show SSt n V0 S V x pa ca pk ck U from hI)
      have hr := HI.out.box
      unfold nodeC at hr
      have c3 := cell_of_row _ _ 3 _ _ _ hr
      have c4 := cell_of_row _ _ 4 _ _ _ hr
      have hac := HT.out.parts.acap
      have hal := HT.out.parts.asz
      clear hI hr
      by_cases hlt : i < x.attrs.length
      · have hlt' : (i : Int) < (x.attrs.length : Int) := by omega
        obtain ⟨g, off, rfl, hc⟩ := HT.out.parts.attrs (by omega)
        obtain ⟨g', e1, hng, cur, hg⟩ := HT.out.attrs _ rfl
        injection e1 with e1 e2
        subst e1 e2
        obtain ⟨cur', hg', hsz⟩ := HI.out.inv.same g cur _ hng hg
        have hfit : i * 3 + 3 ≤ cur'.size := by
          have h2 := (hc i hlt).2.2
          rw [cell_of_row _ _ _ _ _ _ hg] at h2
          have := (Array.getElem?_eq_some_iff.1 h2).1
          omega
        have HG := Lib.hid (And.intro hg (And.intro hng (And.intro hg' (And.intro hsz hfit))))
        have a0 : U.cell? ⟨g, i * 3, none⟩ = some (cur'[i * 3]'(by omega)) := by rw [cell_of_row _ _ _ _ _ _ hg']; exact Array.getElem?_eq_getElem _
        have a1 : U.cell? ⟨g, i * 3 + 1, none⟩ = some (cur'[i * 3 + 1]'(by omega)) := by rw [cell_of_row _ _ _ _ _ _ hg']; exact Array.getElem?_eq_getElem _
        have a2 : U.cell? ⟨g, i * 3 + 2, none⟩ = some (cur'[i * 3 + 2]'(by omega)) := by rw [cell_of_row _ _ _ _ _ _ hg']; exact Array.getElem?_eq_getElem _
        have f0 : U.frozen? ⟨g, i * 3, none⟩ = false := frozen_of_row _ _ _ _ _ hg'
        have f1 : U.frozen? ⟨g, i * 3 + 1, none⟩ = false := frozen_of_row _ _ _ _ _ hg'
        have f2 : U.frozen? ⟨g, i * 3 + 2, none⟩ = false := frozen_of_row _ _ _ _ _ hg'
        generalize cur'[i * 3]'(by omega) = v0 at a0
        generalize cur'[i * 3 + 1]'(by omega) = v1 at a1
        generalize cur'[i * 3 + 2]'(by omega) = v2 at a2
        clear hc hg hg' hfit
        go_wp2_with (fail)
        go_roundw
        case rel =>
          obtain ⟨hg, hng, hg', hsz, hfit⟩ := HG.out
          have hVs := HV.out.below.size
          have hgl := it_lt hg
          have hoth : ∀ k, k ≠ g → (((U.setCell ⟨g, i * 3, none⟩ (.string ⟨#[]⟩)).setCell ⟨g, i * 3 + 1, none⟩ (.string ⟨#[]⟩)).setCell ⟨g, i * 3 + 2, none⟩ (.string ⟨#[103, 111, 110, 101]⟩)).heap[k]? = U.heap[k]? := fun k hk => (set_oth6 hk).trans ((set_oth6 hk).trans (set_oth6 hk))
          refine ⟨i + 1, by go_num, hlt, SInv.attr HI.out.inv hp hg hng hoth ⟨_, set_row6 (k := i * 3 + 2) _ (set_row6 (k := i * 3 + 1) _ (set_row6 (k := i * 3) _ hg')), by simp only [Array.size_setIfInBounds]; exact hsz⟩ rfl rfl rfl (by simp [World.setCell]), (hoth _ (by omega)).trans HI.out.box, by simp [World.setCell]; exact HI.out.size, fun k h1 h2 => (hoth k (by omega)).trans (HI.out.old k h1 h2)⟩
        case measure => simp only [intOf]; omega
      · have hlt' : ¬ (i : Int) < (x.attrs.length : Int) := by omega
        go_wp2_with (fail)
        go_loopw [19] (fun v wr => ∃ i : Nat, v = .int .i64 (i : Int) ∧ i ≤ x.kids.length ∧ Hid' (SSt n V0 S V x pa ca pk ck wr)) (fun v _ => x.kids.length - (intOf v).toNat)
        case atStart => exact ⟨0, rfl, Nat.zero_le _, HI.out⟩
        case round =>
          obtain ⟨i2, rfl, hi2, hI2⟩ := hrel
          obtain ⟨X, rfl⟩ : ∃ X, X = wr := ⟨_, rfl⟩
          have HJ := Lib.hid (show SSt n V0 S V x pa ca pk ck X from hI2)
          have hr2 := HJ.out.box
          unfold nodeC at hr2
          have x4 := cell_of_row _ _ 4 _ _ _ hr2
          have hkc := HT.out.parts.kcap
          have hkl := HT.out.parts.ksz
          clear hI2 hr2 c3 c4
          by_cases hl2 : i2 < x.kids.length
          · have hl2' : (i2 : Int) < (x.kids.length : Int) := by omega
            obtain ⟨kb, ko, rfl, hkk⟩ := HT.out.parts.kids (by omega)
            obtain ⟨g', e1, hng, cur, hg⟩ := HT.out.kids _ rfl
            injection e1 with e1 e2
            subst e1 e2
            have hmem : x.kids[i2] ∈ x.kids := List.getElem_mem hl2
            obtain ⟨yb, yo⟩ := hkk i2 hl2
            rw [Nat.zero_add] at yo
            have hyS : x.kids[i2] ∈ S := HS.out _ hmem _ (AT.self_mem _)
            have HPOST := Lib.hid (show ∀ e W, SOut n V0 S X e W → e = .returned (.tuple #[]) ∧ ∃ v : Nat → Value, (W.cell? ⟨kb, i2 * 6, none⟩ = some (v 0) ∧ W.cell? ⟨kb, i2 * 6 + 1, none⟩ = some (v 1) ∧ W.cell? ⟨kb, i2 * 6 + 2, none⟩ = some (v 2) ∧ W.cell? ⟨kb, i2 * 6 + 3, none⟩ = some (v 3) ∧ W.cell? ⟨kb, i2 * 6 + 4, none⟩ = some (v 4) ∧ W.cell? ⟨kb, i2 * 6 + 5, none⟩ = some (v 5)) ∧ (W.frozen? ⟨kb, i2 * 6, none⟩ = false ∧ W.frozen? ⟨kb, i2 * 6 + 1, none⟩ = false ∧ W.frozen? ⟨kb, i2 * 6 + 2, none⟩ = false ∧ W.frozen? ⟨kb, i2 * 6 + 3, none⟩ = false ∧ W.frozen? ⟨kb, i2 * 6 + 4, none⟩ = false ∧ W.frozen? ⟨kb, i2 * 6 + 5, none⟩ = false) ∧ W.cell? ⟨V.heap.size, 4, none⟩ = some (.slice (some ⟨kb, 0, none⟩) x.kids.length ck) ∧ Hid' (SSt n V0 S V x pa ca (some ⟨kb, 0, none⟩) ck W ∧ ∃ arr, W.heap[kb]? = some (.cells arr 27 (0, 0)) ∧ i2 * 6 + 6 ≤ arr.size ∧ ∀ j, j < 6 → arr[i2 * 6 + j]? = some (v j)) from fun e W ⟨h1, h2, h3, h4⟩ => by
              obtain ⟨v, hv⟩ := h2.any hyS
              rw [yb, yo] at hv
              obtain ⟨cur', hg', hsz⟩ := h2.same kb cur _ hng hg
              have hbox : W.heap[V.heap.size]? = some (.cells (nodeC x pa ca (some ⟨kb, 0, none⟩) ck) 27 (0, 0)) := (h4 _ HV.out.below.size (it_lt HJ.out.box)).trans HJ.out.box
              have h0 := hv 0 (by decide)
              rw [Nat.add_zero] at h0
              have hb := hbox
              unfold nodeC at hb
              have h5 := hv 5 (by decide)
              rw [cell_of_row _ _ _ _ _ _ hg'] at h5
              have h5l := (Array.getElem?_eq_some_iff.1 h5).1
              exact ⟨h1, v, ⟨h0, hv 1 (by decide), hv 2 (by decide), hv 3 (by decide), hv 4 (by decide), hv 5 (by decide)⟩, ⟨frozen_of_row _ _ _ _ _ hg', frozen_of_row _ _ _ _ _ hg', frozen_of_row _ _ _ _ _ hg', frozen_of_row _ _ _ _ _ hg', frozen_of_row _ _ _ _ _ hg', frozen_of_row _ _ _ _ _ hg'⟩, cell_of_row _ _ 4 _ _ _ hb, ⟨h2, hbox, Nat.le_trans HJ.out.size h3, fun k k1 k2 => (h4 k k1 (Nat.lt_of_lt_of_le k2 HJ.out.size)).trans (HJ.out.old k k1 k2)⟩, cur', hg', by omega, fun j hj => by rw [← cell_of_row _ _ _ _ _ _ hg']; exact hv j hj⟩)
            have HFIN := Lib.hid (show ∀ (W : World) (v : Nat → Value), (SSt n V0 S V x pa ca (some ⟨kb, 0, none⟩) ck W ∧ ∃ arr, W.heap[kb]? = some (.cells arr 27 (0, 0)) ∧ i2 * 6 + 6 ≤ arr.size ∧ ∀ j, j < 6 → arr[i2 * 6 + j]? = some (v j)) → SSt n V0 S V x pa ca (some ⟨kb, 0, none⟩) ck ((((((W.setCell ⟨kb, i2 * 6, none⟩ (.int .i64 0)).setCell ⟨kb, i2 * 6 + 1, none⟩ (.string ⟨#[]⟩)).setCell ⟨kb, i2 * 6 + 2, none⟩ (.string ⟨#[]⟩)).setCell ⟨kb, i2 * 6 + 3, none⟩ (.slice none 0 0)).setCell ⟨kb, i2 * 6 + 4, none⟩ (.slice none 0 0)).setCell ⟨kb, i2 * 6 + 5, none⟩ (.string ⟨#[103, 111, 110, 101]⟩)) from fun W v ⟨hs, arr, ha, has, hav⟩ => by
              have hV2 := (VSt.begin ha hav).lay has 0 ⟨#[]⟩ ⟨#[]⟩ (.slice none 0 0) (.slice none 0 0) ⟨#[103, 111, 110, 101]⟩
              have hoth : ∀ k, k ≠ kb → ((((((W.setCell ⟨kb, i2 * 6, none⟩ (.int .i64 0)).setCell ⟨kb, i2 * 6 + 1, none⟩ (.string ⟨#[]⟩)).setCell ⟨kb, i2 * 6 + 2, none⟩ (.string ⟨#[]⟩)).setCell ⟨kb, i2 * 6 + 3, none⟩ (.slice none 0 0)).setCell ⟨kb, i2 * 6 + 4, none⟩ (.slice none 0 0)).setCell ⟨kb, i2 * 6 + 5, none⟩ (.string ⟨#[103, 111, 110, 101]⟩)).heap[k]? = W.heap[k]? := fun k hk => (set_oth6 hk).trans ((set_oth6 hk).trans ((set_oth6 hk).trans ((set_oth6 hk).trans ((set_oth6 hk).trans (set_oth6 hk)))))
              have hVs := HV.out.below.size
              have hgl := it_lt hg
              have hal := it_lt ha
              refine ⟨hs.inv.lay hp hyS (arr := arr) (by rw [yb]; exact ha) (by rw [yb, yo]; exact hV2) (Nat.le_trans hn hs.inv.below.size) (fun k hk => hoth k (by omega)), (hoth _ (by omega)).trans hs.box, Nat.le_trans hs.size hV2.size, fun k h1 h2 => (hoth k (by omega)).trans (hs.old k h1 h2)⟩)
            rcases HJ.out.inv.node _ hyS with ⟨pa', ca', pk', ck', hTy, hOwn⟩ | hSp
            · have HC := Lib.hid ((HIH.out _ hmem pa' ca' pk' ck' hTy (fun k hk y hy => HS.out _ hmem y (AT.kid_mem hk y hy)) X HJ.out.inv).mono (fun e W h => HPOST.out e W h))
              unfold OwnCells at hOwn
              rw [yb, yo] at hOwn
              have o0 := hOwn 0 (by decide)
              have o1 := hOwn 1 (by decide)
              have o2 := hOwn 2 (by decide)
              have o3 := hOwn 3 (by decide)
              have o4 := hOwn 4 (by decide)
              have o5 := hOwn 5 (by decide)
              rw [Nat.add_zero] at o0
              simp only [nodeF] at o0 o1 o2 o3 o4 o5
              unfold nodeV at HC
              clear hTy hOwn hkk hg yb yo
              go_wp2_with (go_at_call 20; refine HC.out.mono ?_; rintro e W ⟨rfl, v, ⟨q0, q1, q2, q3, q4, q5⟩, ⟨f0, f1, f2, f3, f4, f5⟩, qb, HZ⟩)
              go_roundw
              case rel => exact ⟨i2 + 1, by go_num, hl2, HFIN.out _ _ HZ⟩
              case measure => simp only [intOf]; omega
            · have HC := Lib.hid ((spoil_gone X).mono (fun e W h => HPOST.out e W ⟨h.1, HJ.out.inv.far (Nat.le_trans hn HJ.out.inv.below.size) h.2, h.2.size, fun k _ k2 => h.2.block k k2⟩))
              unfold SpoiledCells at hSp
              rw [yb, yo] at hSp
              have o0 := hSp 0 (by decide)
              have o1 := hSp 1 (by decide)
              have o2 := hSp 2 (by decide)
              have o3 := hSp 3 (by decide)
              have o4 := hSp 4 (by decide)
              have o5 := hSp 5 (by decide)
              rw [Nat.add_zero] at o0
              simp only [nodeF, spoilV] at o0 o1 o2 o3 o4 o5
              clear hSp hkk hg yb yo
              go_wp2_with (go_at_call 20; refine HC.out.mono ?_; rintro e W ⟨rfl, v, ⟨q0, q1, q2, q3, q4, q5⟩, ⟨f0, f1, f2, f3, f4, f5⟩, qb, HZ⟩)
              go_roundw
              case rel => exact ⟨i2 + 1, by go_num, hl2, HFIN.out _ _ HZ⟩
              case measure => simp only [intOf]; omega
          · have hl2' : ¬ (i2 : Int) < (x.kids.length : Int) := by omega
            go_wp2_with (fail)
            refine ⟨rfl, .tuple #[], ?_, ?_⟩
            · simp [results, Tryz.f20, go_sem]
            · have hsz := HJ.out.size
              exact ⟨rfl, HJ.out.inv, hsz, HJ.out.old⟩
end Go.Proofs.YtfmlmdfehaajbaaGreatDoor
namespace Go.Proofs.YtfmlmdfehaajbaaGreatDoor
open Go.RowKit Go.Shelf

theorem kid_of_some : ∀ (t y : AT), y ∈ AT.alls t.kids → ∃ p ∈ t.all, y ∈ p.kids := fun t => by
  induction t using AT.ind with
  | h t ih =>
    intro y hy
    rw [AT.alls_eq] at hy
    obtain ⟨k, h1, h2⟩ := List.mem_flatMap.1 hy
    rw [AT.all_eq] at h2
    rcases List.mem_cons.1 h2 with rfl | h2
    · exact ⟨t, t.self_mem, h1⟩
    · obtain ⟨p, h3, h4⟩ := ih k h1 y h2
      exact ⟨p, AT.kid_mem h1 p h3, h4⟩
theorem alls_mem {t y : AT} (h : y ∈ AT.alls t.kids) : y ∈ t.all := by
  rw [AT.all_eq]
  exact List.mem_cons_of_mem _ h
theorem Built.places {n : Nat} {W : World} {X : AT} (h : Built n W X) : Places n W (AT.alls X.kids) := fun y hy => by
  obtain ⟨p, hp, hyp⟩ := kid_of_some X y hy
  obtain ⟨pa, ca, pk, ck, hP, _, _, hkk⟩ := h p hp
  obtain ⟨i, hi, rfl⟩ := List.mem_iff_getElem.1 hyp
  obtain ⟨kb, ko, e1, e2⟩ := hP.kids (by omega)
  obtain ⟨g, e3, e4, cur, e5⟩ := hkk _ e1
  injection e3 with e6 e7
  subst e6 e7
  obtain ⟨e8, e9⟩ := e2 i hi
  obtain ⟨_, _, _, _, _, ⟨_, _, _, _, _, c5⟩, _⟩ := h _ (alls_mem hy)
  rw [e8] at c5 ⊢
  rw [cell_of_row _ _ _ _ _ _ e5] at c5
  have := (Array.getElem?_eq_some_iff.1 c5).1
  exact ⟨e4, by omega, cur, e5, by omega⟩
theorem SInv.start {n : Nat} {W : World} {X : AT} (h : Built n W X) : SInv n W (AT.alls X.kids) W := by
  refine ⟨Below.refl _ _, fun g cur T _ hg => ⟨cur, hg, rfl⟩, fun y hy => ?_⟩
  obtain ⟨pa, ca, pk, ck, hP, ⟨c0, c1, c2, c3, c4, c5⟩, ha, hk⟩ := h _ (alls_mem hy)
  refine .inl ⟨pa, ca, pk, ck, ⟨hP, ha, hk⟩, fun j hj => ?_⟩
  match j, hj with
  | 0, _ => exact c0
  | 1, _ => exact c1
  | 2, _ => exact c2
  | 3, _ => exact c3
  | 4, _ => exact c4
  | 5, _ => exact c5
/-- A copy is spoiled: what lies below n stands. -/
theorem spoil_copy {n : Nat} {W : World} {X : AT} {pa : Option Addr} {ca : Nat} {pk : Option Addr} {ck : Nat} (hP : PartsAt W X pa ca pk ck) (hB : Built n W X) (hT : Typed2 n W pa pk) (hn : n ≤ W.heap.size) :
    Calls Tryz.prog 20 #[nodeV X pa ca pk ck] W fun e W2 => e = .returned (.tuple #[]) ∧ Below n W W2 ∧ W.heap.size ≤ W2.heap.size :=
  (spoil_any hB.places hn X pa ca pk ck ⟨hP, hT.1, hT.2⟩ (fun k hk y hy => by
    rw [AT.alls_eq]
    exact List.mem_flatMap.2 ⟨k, hk, hy⟩) W (SInv.start hB)).mono (fun e W2 h => ⟨h.1, h.2.1.below, h.2.2.1⟩)
end Go.Proofs.YtfmlmdfehaajbaaGreatDoor
