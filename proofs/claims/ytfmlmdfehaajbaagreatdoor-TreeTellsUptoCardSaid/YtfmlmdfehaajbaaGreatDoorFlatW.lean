/- Proved here: the document's Flat answers all nodes of a tree, each ahead of its kids. -/
import Derived.Test.YtfmlmdfehaajbaaGreatDoorPartsPlain
import Derived.Test.YtfmlmdfehaajbaaGreatDoorTreeArg
import Derived.Test.YtfmlmdfehaajbaaGreatDoorTwinPlain
import Derived.Test.YtfmlmdfehaajbaaGreatDoorCopyA
namespace Go.Proofs.YtfmlmdfehaajbaaGreatDoor
open Go.RowKit Go.Shelf

def DeepOut (_w0 w : World) (t : AT) (e : Ending) (W : World) : Prop := e = .returned (.int .i64 (t.deep : Int)) ∧ Below w.heap.size w W
set_option maxRecDepth 100000 in
set_option maxHeartbeats 8000000 in
theorem deepR_any (w0 : World) : ∀ (t : AT) (w : World) (pa : Option Addr) (ca : Nat) (pk : Option Addr) (ck : Nat), PartsAt w0 t pa ca pk ck → KidsAt w0 t → Below w0.heap.size w0 w → t.count ≤ 1048576 →
    Calls Tryz.prog 18 #[nodeV t pa ca pk ck] w (DeepOut w0 w t) := fun t => by
  induction t using AT.ind with
  | h t ih =>
    intro w pa ca pk ck h hk hb0 hc
    obtain ⟨ks, hks⟩ : ∃ ks, t.kids = ks := ⟨_, rfl⟩
    have hcnt := count_kids' t
    rw [hks] at hcnt
    have HK := Lib.hid (fun (i : Nat) (hi : i < ks.length) => show (∃ kb ko pa' ca' pk' ck', pk = some ⟨kb, ko, none⟩ ∧ (w0.cell? ⟨kb, ko + i * 6, none⟩ = some (.int .i64 ks[i].kind) ∧ w0.cell? ⟨kb, ko + i * 6 + 1, none⟩ = some (.string ks[i].uri) ∧
        w0.cell? ⟨kb, ko + i * 6 + 2, none⟩ = some (.string ks[i].loc) ∧ w0.cell? ⟨kb, ko + i * 6 + 3, none⟩ = some (.slice pa' ks[i].attrs.length ca') ∧ w0.cell? ⟨kb, ko + i * 6 + 4, none⟩ = some (.slice pk' ks[i].kids.length ck') ∧
        w0.cell? ⟨kb, ko + i * 6 + 5, none⟩ = some (.string ks[i].text)) ∧ ks[i].count ≤ counted ks ∧ ∀ V, Below w0.heap.size w0 V → Calls Tryz.prog 18 #[nodeV ks[i] pa' ca' pk' ck'] V (DeepOut w0 V ks[i])) from by
      subst hks
      obtain ⟨kb, ko, pa', ca', pk', ck', e, hP, hK, c0, c1, c2, c3, c4, c5⟩ := kid_at h hk i hi
      exact ⟨kb, ko, pa', ca', pk', ck', e, ⟨c0, c1, c2, c3, c4, c5⟩, counted_le (List.getElem_mem hi), fun V hV => ih _ (List.getElem_mem hi) V pa' ca' pk' ck' hP hK hV (by have := counted_le (List.getElem_mem hi); omega)⟩)
    have hkl := h.ksz
    have hkc := h.kcap
    rw [hks] at hkl hkc
    have HB0 := Lib.hid hb0
    have hdt : t.deep = deepest ks + 1 := by rw [deep_kids, hks]
    have hdl := deep_le_count t
    obtain ⟨D, hD⟩ : ∃ D, deepest ks = D := ⟨_, rfl⟩
    have hDb : D ≤ 1048576 := by omega
    have HD := Lib.hid (And.intro hdt hD)
    unfold nodeV
    rw [hks]
    clear h hk ih hb0 hks hdt hdl hD
    generalize t.kind = kd
    generalize t.uri = u
    generalize t.loc = l
    generalize t.attrs.length = la
    generalize t.text = s
    go_enter Tryz.func18, Tryz.ntmps18
    go_wp2_with (fail)
    go_loopw [3, 9] (fun v3 v9 wr => ∃ i d : Nat, v3 = .int .i64 (d : Int) ∧ v9 = .int .i64 (i : Int) ∧ i ≤ ks.length ∧ d ≤ 1048576 ∧ Hid' (Below w.heap.size w wr ∧ deepest (ks.take i) = d)) (fun _ v _ => ks.length - (intOf v).toNat)
    case atStart => exact ⟨0, 0, rfl, rfl, Nat.zero_le _, by decide, ⟨(Below.refl _ _).alloc (Nat.le_refl _) _, rfl⟩⟩
    case round =>
      obtain ⟨i, d, rfl, rfl, hi, hd, hI⟩ := hrel
      have HI := Lib.hid (show _ ∧ _ from hI)
      clear hI
      by_cases hlt : i < ks.length
      · have hi' : (i : Int) < (ks.length : Int) := by omega
        obtain ⟨kb, ko, pa', ca', pk', ck', rfl, ⟨c0, c1, c2, c3, c4, c5⟩, hkc1, HC⟩ := HK.out i hlt
        have hst := Stay.below (HB0.out.trans (HI.out.1.mono HB0.out.size))
        have e0 := hst _ _ c0
        have e1 := hst _ _ c1
        have e2 := hst _ _ c2
        have e3 := hst _ _ c3
        have e4 := hst _ _ c4
        have e5 := hst _ _ c5
        have D1 := Lib.hid HC
        have hs0 : ks.take (i + 1) = ks.take i ++ [ks[i]] := by rw [List.take_add_one, List.getElem?_eq_getElem hlt]; rfl
        have hs2 : deepest (ks.take (i + 1)) = max d ks[i].deep := by rw [hs0, deepest_snoc, HI.out.2]
        have hdl := deep_le_count ks[i]
        obtain ⟨q, hq⟩ : ∃ q, ks[i].deep = q := ⟨_, rfl⟩
        unfold DeepOut at D1
        rw [hq] at D1 hs2 hdl
        have hqb : q ≤ 1048576 := by omega
        have HS := Lib.hid hs2
        have HB1 := Lib.hid (HB0.out.trans (HI.out.1.mono HB0.out.size))
        unfold nodeV at D1
        clear c0 c1 c2 c3 c4 c5 hst hs0 hs2 hdl hq hkc1 HC
        generalize ks[i].kind = y0 at *
        generalize ks[i].uri = y1 at *
        generalize ks[i].loc = y2 at *
        generalize ks[i].attrs.length = y3 at *
        generalize ks[i].kids.length = y4 at *
        generalize ks[i].text = y5 at *
        have bA : Below wr.heap.size wr (wr.alloc (.cells #[.int .i64 y0, .string y1, .string y2, .slice pa' y3 ca', .slice pk' y4 ck', .string y5] 27)) := (Below.refl _ _).alloc (Nat.le_refl _) _
        have bW : Below w0.heap.size w0 (wr.alloc (.cells #[.int .i64 y0, .string y1, .string y2, .slice pa' y3 ca', .slice pk' y4 ck', .string y5] 27)) := HB1.out.trans (bA.mono HB1.out.size)
        have HBW := Lib.hid bW
        clear bW
        by_cases hm : (d : Int) < (q : Int)
        · go_wp2_with (go_at_call 18; with_reducible refine (D1.out _ HBW.out).mono ?_; rintro e w3 ⟨rfl, hb3⟩; have b3 := below_cat5 bA hb3)
          go_roundw
          case rel => exact ⟨i + 1, q, by go_num, by go_num, hlt, by omega, ⟨HI.out.1.trans (b3.mono HI.out.1.size), by rw [HS.out]; omega⟩⟩
          case measure => simp only [intOf]; omega
        · go_wp2_with (go_at_call 18; with_reducible refine (D1.out _ HBW.out).mono ?_; rintro e w3 ⟨rfl, hb3⟩; have b3 := below_cat5 bA hb3)
          go_roundw
          case rel => exact ⟨i + 1, d, by go_num, by go_num, hlt, by omega, ⟨HI.out.1.trans (b3.mono HI.out.1.size), by rw [HS.out]; omega⟩⟩
          case measure => simp only [intOf]; omega
      · have hi' : ¬ (i : Int) < (ks.length : Int) := by omega
        have hdD : d = D := by
          have h1 := HI.out.2
          rw [List.take_of_length_le (by omega)] at h1
          have := HD.out.2
          omega
        subst hdD
        go_wp2_with (fail)
        go_ret
        exact ⟨by rw [HD.out.1, HD.out.2]; rfl, HI.out.1⟩
end Go.Proofs.YtfmlmdfehaajbaaGreatDoor
namespace Go.Proofs.YtfmlmdfehaajbaaGreatDoor
open Go.RowKit Go.Shelf

/-- What Flat answers: a row of its own of all nodes, as they stand in the tree. -/
def FlatOut (w0 w : World) (t : AT) (e : Ending) (W : World) : Prop := ∃ g c zs, e = .returned (.slice (some ⟨g, 0, none⟩) zs.length c) ∧ Below w.heap.size w W ∧ zs.map KN.t = t.all ∧ StandN w0 zs ∧ OwnN W w.heap.size (some ⟨g, 0, none⟩) c zs
theorem OwnN.one (W : World) (z : KN) {B : Nat} (hB : B ≤ W.heap.size) : OwnN (W.alloc (.cells z.enc.toArray 27)) B (some ⟨W.heap.size, 0, none⟩) 1 [z] := by
  refine ⟨⟨encN_len [z], .inr ⟨W.heap.size, 1, z.enc.toArray, rfl, hB, heap_alloc_new W _, Nat.le_refl _, by unfold maxLen; omega, rfl, ?_⟩⟩, Nat.le_refl _, (fun e => by cases e)⟩
  rw [encN_one]
  rfl
theorem OwnN.less {W : World} {B B' : Nat} {q : Option Addr} {c : Nat} {zs : List KN} (h : OwnN W B q c zs) (hB : B' ≤ B) : OwnN W B' q c zs := by
  refine ⟨⟨h.1.1, ?_⟩, h.2⟩
  rcases h.1.2 with e | ⟨g, cap, cur, e1, hb, r⟩
  · exact .inl e
  · exact .inr ⟨g, cap, cur, e1, Nat.le_trans hB hb, r⟩
/-- How Flat stands in a round. -/
structure FlSt (w0 w : World) (t : AT) (ks : List AT) (i : Nat) (g c : Nat) (zs : List KN) (W : World) : Prop where
  below : Below w.heap.size w W
  own : OwnN W (w.heap.size + 1) (some ⟨g, 0, none⟩) c zs
  stand : StandN w0 zs
  all : zs.map KN.t = t :: AT.alls (ks.take i)
theorem alls_cat (a b : List AT) : AT.alls (a ++ b) = AT.alls a ++ AT.alls b := by
  rw [AT.alls_eq, AT.alls_eq, AT.alls_eq, List.flatMap_append]
theorem alls_one (a : AT) : AT.alls [a] = a.all := by
  rw [AT.alls_eq]; simp
theorem FlSt.more {w0 w : World} {t : AT} {ks : List AT} {i g c : Nat} {zs : List KN} {V W : World} (hV : FlSt w0 w t ks i g c zs V) (hi : i < ks.length) {e : Ending} {V1 : World} (hb : Below V.heap.size V V1) (ho : FlatOut w0 V1 ks[i] e W) (hcnt : t.count = counted ks + 1) (hc : t.count ≤ 1048576) :
    ∃ g2 m c2 g' c' zs' W', e = .returned (.slice (some ⟨g2, 0, none⟩) m c2) ∧ (∀ ty, (Builtin.append_ #[25, 25] ty #[.slice (some ⟨g, 0, none⟩) zs.length c, .slice (some ⟨g2, 0, none⟩) m c2]).run Tryz.prog W = .ok (.slice (some ⟨g', 0, none⟩) zs'.length c') W') ∧ FlSt w0 w t ks (i + 1) g' c' zs' W' := by
  obtain ⟨g2, c2, ys, rfl, hb2, hall, hst, hown⟩ := ho
  have bV : Below V.heap.size V W := below_cat5 hb hb2
  have hO := hV.own.below bV
  have hlz : zs.length ≤ 1048576 := by
    have h1 := congrArg List.length hV.all
    have h2 := counted_take ks i
    rw [List.length_map, List.length_cons] at h1
    unfold counted at *
    rw [AT.alls_eq] at h1
    omega
  have hly : ys.length ≤ 1048576 := by
    have h1 := congrArg List.length hall
    have h2 := counted_le (List.getElem_mem hi)
    rw [List.length_map] at h1
    have h3 : ks[i].all.length = ks[i].count := rfl
    omega
  have hBW : w.heap.size + 1 ≤ W.heap.size := by
    have := (hV.own.block g 0 rfl).1
    have := (hV.own.block g 0 rfl).2.1
    have := bV.size
    omega
  obtain ⟨q', c', W', hrun, hown', hgrow, hq'⟩ := appendN (m := c2) hO hown.row hBW (by omega)
  have hq : ∃ g', q' = some ⟨g', 0, none⟩ := hown'.form (by
    have h1 := congrArg List.length hV.all
    simp at h1
    simp
    omega)
  obtain ⟨g', rfl⟩ := hq
  refine ⟨g2, ys.length, c2, g', c', zs ++ ys, W', rfl, hrun, ?_, hown', ?_, ?_⟩
  · have hbw : Below w.heap.size w W := hV.below.trans (bV.mono hV.below.size)
    exact ⟨hgrow.os.trans hbw.os, hgrow.tape.trans hbw.tape, hgrow.output.trans hbw.output, Nat.le_trans hbw.size hgrow.size, fun k hk => (hgrow.block k (Nat.lt_of_lt_of_le hk hbw.size) (fun e => by
      have e2 : g = k := by simpa [Value.ownBlock] using e.symm
      have := (hV.own.block g 0 rfl).1
      omega)).trans (hbw.block k hk)⟩
  · intro z hz
    rcases List.mem_append.1 hz with hz | hz
    · exact hV.stand z hz
    · exact hst z hz
  · rw [List.map_append, hV.all, hall, List.take_add_one, List.getElem?_eq_getElem hi, alls_cat]
    show _ = t :: (_ ++ AT.alls [ks[i]])
    rw [alls_one]
    rfl
set_option maxRecDepth 100000 in
set_option maxHeartbeats 8000000 in
theorem flat_any (w0 : World) : ∀ (t : AT) (w : World) (pa : Option Addr) (ca : Nat) (pk : Option Addr) (ck : Nat), PartsAt w0 t pa ca pk ck → KidsAt w0 t → Below w0.heap.size w0 w → t.count ≤ 1048576 →
    Calls Tryz.prog 16 #[nodeV t pa ca pk ck] w (FlatOut w0 w t) := fun t => by
  induction t using AT.ind with
  | h t ih =>
    intro w pa ca pk ck h hk hb0 hc
    obtain ⟨ks, hks⟩ : ∃ ks, t.kids = ks := ⟨_, rfl⟩
    have hcnt := count_kids' t
    rw [hks] at hcnt
    have HK := Lib.hid (fun (i : Nat) (hi : i < ks.length) => show (∃ kb ko pa' ca' pk' ck', pk = some ⟨kb, ko, none⟩ ∧ (w0.cell? ⟨kb, ko + i * 6, none⟩ = some (.int .i64 ks[i].kind) ∧ w0.cell? ⟨kb, ko + i * 6 + 1, none⟩ = some (.string ks[i].uri) ∧
        w0.cell? ⟨kb, ko + i * 6 + 2, none⟩ = some (.string ks[i].loc) ∧ w0.cell? ⟨kb, ko + i * 6 + 3, none⟩ = some (.slice pa' ks[i].attrs.length ca') ∧ w0.cell? ⟨kb, ko + i * 6 + 4, none⟩ = some (.slice pk' ks[i].kids.length ck') ∧
        w0.cell? ⟨kb, ko + i * 6 + 5, none⟩ = some (.string ks[i].text)) ∧ ks[i].count ≤ counted ks ∧ ∀ V, Below w0.heap.size w0 V → Calls Tryz.prog 16 #[nodeV ks[i] pa' ca' pk' ck'] V (FlatOut w0 V ks[i])) from by
      subst hks
      obtain ⟨kb, ko, pa', ca', pk', ck', e, hP, hK, c0, c1, c2, c3, c4, c5⟩ := kid_at h hk i hi
      exact ⟨kb, ko, pa', ca', pk', ck', e, ⟨c0, c1, c2, c3, c4, c5⟩, counted_le (List.getElem_mem hi), fun V hV => ih _ (List.getElem_mem hi) V pa' ca' pk' ck' hP hK hV (by have := counted_le (List.getElem_mem hi); omega)⟩)
    have hkl := h.ksz
    have hkc := h.kcap
    rw [hks] at hkl hkc
    have HB0 := Lib.hid hb0
    have hcc := hc
    have HCN := Lib.hid (And.intro hcnt hcc)
    have H0 := Lib.hid (show FlSt w0 w t ks 0 (w.heap.size + 1) 1 [⟨t, pa, ca, pk, ck⟩] ((w.alloc (.cells (nodeC t pa ca pk ck) 27)).alloc (.cells (nodeC t pa ca pk ck) 27)) from by
      refine ⟨((Below.refl _ _).alloc (Nat.le_refl _) _).alloc (by simp) _, ?_, fun z hz => ?_, by rw [List.take_zero]; rfl⟩
      · have := OwnN.one (w.alloc (.cells (nodeC t pa ca pk ck) 27)) ⟨t, pa, ca, pk, ck⟩ (B := w.heap.size + 1) (by simp)
        rw [World.size_alloc] at this
        exact this
      · rw [List.mem_singleton.1 hz]
        exact ⟨h, hk⟩)
    have HALL := Lib.hid (show t.all = t :: AT.alls ks from by rw [AT.all_eq, hks])
    have HE := Lib.hid (fun i => show i < ks.length → ∀ g c zs V V1 W e, FlSt w0 w t ks i g c zs V → Below V.heap.size V V1 → ∀ hi : i < ks.length, FlatOut w0 V1 ks[i] e W → _ from fun _ g c zs V V1 W e hV hb hi ho => hV.more hi hb ho hcnt hcc)
    unfold nodeC at H0
    unfold nodeV
    rw [hks] at H0 ⊢
    clear h hk ih hb0 hks hcnt hc hcc
    generalize t.kind = kd at *
    generalize t.uri = u at *
    generalize t.loc = l at *
    generalize t.attrs.length = la at *
    generalize t.text = s at *
    go_enter Tryz.func16, Tryz.ntmps16
    go_wp2_with (fail)
    go_loopw [3, 11] (fun v3 v11 wr => ∃ i g c n : Nat, v3 = .slice (some ⟨g, 0, none⟩) n c ∧ v11 = .int .i64 (i : Int) ∧ i ≤ ks.length ∧ Hid' (∃ zs : List KN, zs.length = n ∧ FlSt w0 w t ks i g c zs wr)) (fun _ v _ => ks.length - (intOf v).toNat)
    case atStart => exact ⟨0, w.heap.size + 1, 1, 1, rfl, rfl, Nat.zero_le _, [⟨t, pa, ca, pk, ck⟩], rfl, H0.out⟩
    case round =>
      obtain ⟨i, g, c, n, rfl, rfl, hi, zs, hzn, hI⟩ := hrel
      have HI := Lib.hid (And.intro hI.below (And.intro hI hzn))
      clear hI hzn
      by_cases hlt : i < ks.length
      · have hi' : (i : Int) < (ks.length : Int) := by omega
        obtain ⟨kb, ko, pa', ca', pk', ck', rfl, ⟨c0, c1, c2, c3, c4, c5⟩, hkc1, HC⟩ := HK.out i hlt
        have hst := Stay.below (HB0.out.trans (HI.out.1.mono HB0.out.size))
        have e0 := hst _ _ c0
        have e1 := hst _ _ c1
        have e2 := hst _ _ c2
        have e3 := hst _ _ c3
        have e4 := hst _ _ c4
        have e5 := hst _ _ c5
        have HB1 := Lib.hid (HB0.out.trans (HI.out.1.mono HB0.out.size))
        have D1 := Lib.hid (show ∀ (V1 : World), Below wr.heap.size wr V1 → Calls Tryz.prog 16 #[nodeV ks[i] pa' ca' pk' ck'] V1 (fun e W => ∃ g2 m c2 g' c' n' W', e = .returned (.slice (some ⟨g2, 0, none⟩) m c2) ∧ Hid' (∀ ty, (Builtin.append_ #[25, 25] ty #[.slice (some ⟨g, 0, none⟩) n c, .slice (some ⟨g2, 0, none⟩) m c2]).run Tryz.prog W = .ok (.slice (some ⟨g', 0, none⟩) n' c') W') ∧ Hid' (∃ zs' : List KN, zs'.length = n' ∧ FlSt w0 w t ks (i + 1) g' c' zs' W')) from fun V1 hV1 => (HC V1 (HB1.out.trans (hV1.mono HB1.out.size))).mono (fun e W ho => by
          obtain ⟨g2, m, c2, g', c', zs', W', h1, h2, h3⟩ := HI.out.2.1.more hlt hV1 ho HCN.out.1 HCN.out.2
          rw [HI.out.2.2] at h2
          exact ⟨g2, m, c2, g', c', zs'.length, W', h1, h2, zs', rfl, h3⟩))
        unfold nodeV at D1
        clear c0 c1 c2 c3 c4 c5 hst hkc1 HC
        generalize ks[i].kind = y0 at *
        generalize ks[i].uri = y1 at *
        generalize ks[i].loc = y2 at *
        generalize ks[i].attrs.length = y3 at *
        generalize ks[i].kids.length = y4 at *
        generalize ks[i].text = y5 at *
        have bA : Below wr.heap.size wr (wr.alloc (.cells #[.int .i64 y0, .string y1, .string y2, .slice pa' y3 ca', .slice pk' y4 ck', .string y5] 27)) := (Below.refl _ _).alloc (Nat.le_refl _) _
        go_wp2_with (first | (go_at_call 16; refine (D1.out _ bA).mono ?_; rintro e w3 ⟨g2, m, c2, g', c', n', W', rfl, hrun, hfl⟩; have HRUN := Lib.hid (show ∀ ty, _ from hrun); have HFL := Lib.hid (show ∃ _, _ from hfl); clear hrun hfl) | (at_builtin; refine wpList_append_eq6 rfl (.tmp 15) (.tmp 17) 25 rfl _ _ _ _ rfl rfl HRUN.out ?_))
        go_roundw
        case rel => exact ⟨i + 1, g', c', n', by go_num, by go_num, hlt, HFL.out⟩
        case measure => simp only [intOf]; omega
      · have hi' : ¬ (i : Int) < (ks.length : Int) := by omega
        go_wp2_with (fail)
        go_ret
        obtain ⟨h1, h2, h3⟩ := HI.out
        subst h3
        refine ⟨g, c, zs, rfl, h1, ?_, h2.stand, h2.own.less (by omega)⟩
        rw [h2.all, HALL.out, List.take_of_length_le (by omega)]
end Go.Proofs.YtfmlmdfehaajbaaGreatDoor
