/- Proved here: what the statements' doc makes of a token: the document's token, in new memory. -/
import Derived.Test.YtcfecnleibeegaaDoorPairsKit
import Derived.Deep.LoopGhost
import Derived.Deep.DeepCutAuto
namespace Go.Proofs.YtcfecnleibeegaaDoor
open Go.RowKit

/-- Where the cells of pairs lie. -/
def PCells (w : World) (v : Value) (l : List (ByteArray × ByteArray)) : Prop := (∃ q c, v = .slice q l.length c) ∧ ∀ i x, l[i]? = some x → ∃ g c, v = .slice (some ⟨g, 0, none⟩) l.length c ∧ g < w.heap.size ∧ w.cell? ⟨g, i * 2, none⟩ = some (.string x.1) ∧ w.cell? ⟨g, i * 2 + 1, none⟩ = some (.string x.2)
/-- The document's pairs as they lie in memory of the call's own. -/
def RPairsAt (w : World) (B : Nat) (v : Value) (l : List (ByteArray × ByteArray)) : Prop := w.ownsRow B 45 2 v l.length (pairsV l)
theorem RPairsAt.nil (w : World) (B : Nat) : RPairsAt w B (.slice none 0 0) [] := World.ownsRow_nil w B _ 2
theorem RPairsAt.less {w : World} {B B' : Nat} {v : Value} {l : List (ByteArray × ByteArray)} (h : RPairsAt w B v l) (hB : B' ≤ B) : RPairsAt w B' v l := by
  refine ⟨h.1, ?_⟩
  rcases h.2 with g | ⟨g, c, cur, e, h1, r⟩
  · exact .inl g
  · exact .inr ⟨g, c, cur, e, Nat.le_trans hB h1, r⟩
theorem RPairsAt.kept {w w' : World} {B G : Nat} {v : Value} {l : List (ByteArray × ByteArray)} (h : RPairsAt w B v l) (m : w.grownBy w' (some G)) (hne : v.ownBlock ≠ some G) : RPairsAt w' B v l := World.ownsRow.kept h m (.inr hne)
theorem RPairsAt.ne {w : World} {B g : Nat} {v : Value} {l : List (ByteArray × ByteArray)} (h : RPairsAt w B v l) (hg : g < B) : v.ownBlock ≠ some g := by
  rcases h.2 with ⟨rfl, _⟩ | ⟨g', c, cur, rfl, h1, _⟩
  · simp [Value.ownBlock]
  · intro e
    have e2 : g' = g := by simpa [Value.ownBlock] using e
    omega
theorem RPairsAt.form {w : World} {B : Nat} {v : Value} {l : List (ByteArray × ByteArray)} (h : RPairsAt w B v l) : ∃ q c, v = .slice q l.length c := by
  rcases h.2 with ⟨rfl, h0⟩ | ⟨g, c, cur, rfl, _⟩
  · exact ⟨none, 0, by rw [h0]⟩
  · exact ⟨_, _, rfl⟩
theorem infoRPair : (Tryd.prog.info? 45).map (fun i => (i.zero, i.size, i.bytes)) = some (some (.agg #[.string ⟨#[]⟩, .string ⟨#[]⟩]), 2, 32) := by kernel_rfl
theorem append_rpair {w : World} {B g : Nat} {v : Value} {l : List (ByteArray × ByteArray)} {p : ByteArray × ByteArray} (h : RPairsAt w B v l) (hg : w.heap[g]? = some (.cells #[.string p.1, .string p.2] 45)) (hB : B ≤ w.heap.size) (hl : l.length ≤ 4194304) :
    ∃ v' w', (∀ ty, (Builtin.append_ #[37, 37] ty #[v, .slice (some ⟨g, 0, none⟩) 1 1]).run Tryd.prog w = .ok v' w') ∧ RPairsAt w' B v' (l ++ [p]) ∧ w.grownBy w' v.ownBlock := by
  obtain ⟨i0, hi, hz0, hz1, hz2⟩ := info_parts infoRPair
  have hcells : ∀ j u, ([.string p.1, .string p.2] : List Value)[j]? = some u → w.cell? ((⟨g, 0, none⟩ : Addr).add j) = some u := by
    intro j u hu
    have ha : (⟨g, 0, none⟩ : Addr).add j = ⟨g, j, none⟩ := by unfold Addr.add; split <;> simp_all
    rw [ha, cell_of_row _ _ _ _ _ _ hg, ← hu]
    simp
  have hone : ∀ u ∈ ([.string p.1, .string p.2] : List Value), u.oneCell' = true := by
    intro u hu
    rcases List.mem_cons.1 hu with rfl | hu
    · rfl
    · obtain rfl := List.mem_singleton.1 hu
      rfl
  obtain ⟨v', w', hrun, hown, hgrow, _⟩ := run_append_own (P := Tryd.prog) (w := w) B 37 37 45 i0 (.agg #[.string ⟨#[]⟩, .string ⟨#[]⟩]) 2 32 Tryd.underlying37 hi hz0 hz1 hz2 rfl (by decide) v l.length (pairsV l) h ⟨g, 0, none⟩ 1 1 [.string p.1, .string p.2] rfl hcells hone (by unfold maxLen; omega) (by omega) hB
  refine ⟨v', w', fun ty => ?_, ?_, hgrow⟩
  · rw [← hrun]
    rfl
  · unfold RPairsAt
    rw [pairs_snoc, List.length_append]
    exact hown
/-- What doc answers. -/
def DocPost (w : World) (kind at_ refs : Int) (name text : ByteArray) (ps : List (ByteArray × ByteArray)) (e : Ending) (w' : World) : Prop := ∃ pv, e = .returned (.agg #[.int .i64 kind, .int .i64 at_, .string name, pv, .string text, .int .i64 refs]) ∧ RPairsAt w' w.heap.size pv ps ∧ Below w.heap.size w w'
/-- How doc stands at its loop's head: its result's block, the token that it makes, the pairs so far. -/
structure DocSt (w W : World) (kind at_ refs : Int) (name text : ByteArray) (pv : Value) (l : List (ByteArray × ByteArray)) : Prop where
  res : W.heap[w.heap.size + 1]? = some (.cells #[.int .i64 0, .int .i64 0, .string ⟨#[]⟩, .slice none 0 0, .string ⟨#[]⟩, .int .i64 0] 39)
  row : W.heap[w.heap.size + 1 + 1]? = some (.cells #[.int .i64 kind, .int .i64 at_, .string name, pv, .string text, .int .i64 refs] 39)
  prs : RPairsAt W (w.heap.size + 3) pv l
  low : Below w.heap.size w W
theorem doc_first (w : World) (b : Obj) (kind at_ refs : Int) (name text : ByteArray) {W : World}
    (hW : ((w.alloc b).alloc (.cells #[.int .i64 0, .int .i64 0, .string ⟨#[]⟩, .slice none 0 0, .string ⟨#[]⟩, .int .i64 0] 39)).alloc (.cells #[.int .i64 kind, .int .i64 at_, .string name, .slice none 0 0, .string text, .int .i64 refs] 39) = W) :
    DocSt w W kind at_ refs name text (.slice none 0 0) [] := by
  have e1 : (w.alloc b).heap.size = w.heap.size + 1 := by simp
  subst hW
  refine ⟨?_, ?_, RPairsAt.nil _ _, (((Below.refl _ _).alloc (Nat.le_refl _) _).alloc (by simp) _).alloc (by simp; omega) _⟩
  · have h1 := heap_alloc_new (w.alloc b) (.cells #[.int .i64 0, .int .i64 0, .string ⟨#[]⟩, .slice none 0 0, .string ⟨#[]⟩, .int .i64 0] 39)
    rw [e1] at h1
    exact (heap_alloc_old _ _ (Array.getElem?_eq_some_iff.1 h1).1).trans h1
  · have h2 := heap_alloc_new ((w.alloc b).alloc (.cells #[.int .i64 0, .int .i64 0, .string ⟨#[]⟩, .slice none 0 0, .string ⟨#[]⟩, .int .i64 0] 39)) (.cells #[.int .i64 kind, .int .i64 at_, .string name, .slice none 0 0, .string text, .int .i64 refs] 39)
    have e2 : ((w.alloc b).alloc (.cells #[.int .i64 0, .int .i64 0, .string ⟨#[]⟩, .slice none 0 0, .string ⟨#[]⟩, .int .i64 0] 39)).heap.size = w.heap.size + 1 + 1 := by simp
    rw [e2] at h2
    exact h2
theorem RPairsAt.ge {w : World} {B k : Nat} {v : Value} {l : List (ByteArray × ByteArray)} (h : RPairsAt w B v l) (hk : v.ownBlock = some k) : B ≤ k := by
  rcases Nat.lt_or_ge k B with g | g
  · exact absurd hk (h.ne g)
  · exact g
/-- The token that doc makes, when its pairs have grown in memory: its own cell tells the elder ones. -/
theorem doc_mid {w wr w10 : World} {kind at_ refs : Int} {name text : ByteArray} {pv : Value} {l : List (ByteArray × ByteArray)} (o1 o2 : Obj) (h : DocSt w wr kind at_ refs name text pv l) (hg : ((wr.alloc o1).alloc o2).grownBy w10 pv.ownBlock) :
    w10.heap[w.heap.size + 1]? = some (.cells #[.int .i64 0, .int .i64 0, .string ⟨#[]⟩, .slice none 0 0, .string ⟨#[]⟩, .int .i64 0] 39) ∧
    w10.heap[w.heap.size + 1 + 1]? = some (.cells #[.int .i64 kind, .int .i64 at_, .string name, pv, .string text, .int .i64 refs] 39) ∧ Below w.heap.size w w10 := by
  have l1 := (Array.getElem?_eq_some_iff.1 h.res).1
  have l2 := (Array.getElem?_eq_some_iff.1 h.row).1
  have z : ((wr.alloc o1).alloc o2).heap.size = wr.heap.size + 1 + 1 := by simp
  have z1 : (wr.alloc o1).heap.size = wr.heap.size + 1 := by simp
  have hs := h.low.size
  refine ⟨?_, ?_, ?_⟩
  · refine (hg.block _ (by omega) (fun e => h.prs.ne (by omega) e.symm)).trans ?_
    exact (heap_alloc_old _ _ (by omega)).trans ((heap_alloc_old _ _ l1).trans h.res)
  · refine (hg.block _ (by omega) (fun e => h.prs.ne (by omega) e.symm)).trans ?_
    exact (heap_alloc_old _ _ (by omega)).trans ((heap_alloc_old _ _ l2).trans h.row)
  · exact ((h.low.alloc (by omega) o1).alloc (by omega) o2).grown hg (by omega) (fun k e => by have := h.prs.ge e; omega)
theorem doc_next {w w10 : World} {kind at_ refs : Int} {name text : ByteArray} {pv v' : Value} {l : List (ByteArray × ByteArray)}
    (h : w10.heap[w.heap.size + 1]? = some (.cells #[.int .i64 0, .int .i64 0, .string ⟨#[]⟩, .slice none 0 0, .string ⟨#[]⟩, .int .i64 0] 39) ∧
      w10.heap[w.heap.size + 1 + 1]? = some (.cells #[.int .i64 kind, .int .i64 at_, .string name, pv, .string text, .int .i64 refs] 39) ∧ Below w.heap.size w w10) (p : RPairsAt w10 (w.heap.size + 3) v' l) :
    DocSt w (w10.setCell ⟨w.heap.size + 1 + 1, 3, none⟩ v') kind at_ refs name text v' l := by
  obtain ⟨h1, h2, h3⟩ := h
  obtain ⟨r, m⟩ := setCell_row (k := 3) v' h2
  have l1 := (Array.getElem?_eq_some_iff.1 h1).1
  refine ⟨(m.block _ l1 (fun e => by injection e with e; omega)).trans h1, r, World.ownsRow.kept p m (.inr (p.ne (by omega))), h3.grown m h3.size (fun k e => by injection e with e; omega)⟩
set_option maxHeartbeats 4000000 in
set_option maxRecDepth 100000 in
theorem doc_any (kind at_ refs : Int) (name text : ByteArray) (v : Value) (ps : List (ByteArray × ByteArray)) (w : World) (hv : PCells w v ps) (hl : ps.length ≤ 4194304) :
    Calls Tryd.prog 9 #[.agg #[.int .i64 kind, .int .i64 at_, .string name, v, .string text, .int .i64 refs]] w (DocPost w kind at_ refs name text ps) := by
  obtain ⟨⟨q, c, rfl⟩, hcells⟩ := hv
  have HC := Lib.hid hcells
  have HL := Lib.hid hl
  clear hcells hl
  go_enter Tryd.func9, Tryd.ntmps9
  go_wp2_with (fail)
  obtain ⟨W0, hW0⟩ : ∃ W, ((w.alloc (.cells #[.int .i64 kind, .int .i64 at_, .string name, .slice q ps.length c, .string text, .int .i64 refs] 30)).alloc (.cells #[.int .i64 0, .int .i64 0, .string ⟨#[]⟩, .slice none 0 0, .string ⟨#[]⟩, .int .i64 0] 39)).alloc (.cells #[.int .i64 kind, .int .i64 at_, .string name, .slice none 0 0, .string text, .int .i64 refs] 39) = W := ⟨_, rfl⟩
  have D0 := Lib.hid (doc_first w _ kind at_ refs name text hW0)
  rw [hW0]
  clear hW0
  go_loopg [20] ps.length (fun g v20 wr => ∃ (i : Nat) (pv : Value), v20 = .int .i64 (i : Int) ∧ i + g = ps.length ∧ DocSt w wr kind at_ refs name text pv (ps.take i))
  case atStart => exact ⟨0, _, rfl, by omega, by rw [List.take_zero]; exact D0.out⟩
  case round =>
    obtain ⟨i, pv, rfl, hig, hst⟩ := hrel
    have HIG := Lib.hid hig
    clear hig D0
    by_cases hlt : i < ps.length
    · obtain ⟨gn, rfl⟩ : ∃ gn, gk = gn + 1 := ⟨gk - 1, by have := HIG.out; omega⟩
      obtain ⟨x, hx⟩ : ∃ x, ps[i]? = some x := ⟨_, List.getElem?_eq_getElem hlt⟩
      obtain ⟨g, c', hq, hg, k0, k1⟩ := HC.out i x hx
      obtain ⟨rfl, rfl⟩ : q = some ⟨g, 0, none⟩ ∧ c = c' := by
        injection hq with h1 _ h3
        exact ⟨h1, h3⟩
      have d0 := hb_cell hst.low k0
      have d1 := hb_cell hst.low k1
      have hgw : g < wr.heap.size := by have := hst.low.size; omega
      have hX : w.heap.size + 1 + 1 < wr.heap.size := (Array.getElem?_eq_some_iff.1 hst.row).1
      have hli : (ps.take i).length = i := by rw [List.length_take]; omega
      obtain ⟨q2, c2, hpv⟩ := hst.prs.form
      rw [hli] at hpv
      subst hpv
      obtain ⟨⟨e0, e1, e2, e3, e4, e5⟩, ⟨f0, f1, f2, f3, f4, f5⟩⟩ := six_cells hst.row
      have z1 : (wr.alloc (.cells #[.string x.1, .string x.2] 32)).heap.size = wr.heap.size + 1 := by simp
      have n2 := heap_alloc_new (wr.alloc (.cells #[.string x.1, .string x.2] 32)) (.cells #[.string x.1, .string x.2] 45)
      rw [z1] at n2
      have p2 : RPairsAt ((wr.alloc (.cells #[.string x.1, .string x.2] 32)).alloc (.cells #[.string x.1, .string x.2] 45)) _ _ _ := World.ownsRow.alloc (World.ownsRow.alloc hst.prs _) _
      obtain ⟨v', w10, hrun, p10, hg10⟩ := append_rpair p2 n2 (by simp; omega) (by have := HL.out; rw [List.length_take]; omega)
      have m10 := doc_mid _ _ hst hg10
      have hne := doc_next m10 p10
      obtain ⟨⟨a0, a1, a2, a3, a4, a5⟩, ⟨g0, g1, g2, g3, g4, g5⟩⟩ := six_cells m10.2.1
      have htake : ps.take i ++ [x] = ps.take (i + 1) := by rw [List.take_succ_eq_append_getElem hlt]; congr 2; rw [List.getElem?_eq_getElem hlt] at hx; exact (Option.some.inj hx).symm
      rw [htake] at hne
      have HN := Lib.hid hne
      have RUN := Lib.hid hrun
      have HLT := Lib.hid hlt
      obtain ⟨q3, c3, hv3⟩ := p10.form
      rw [List.length_append, hli] at hv3
      subst hv3
      have hlt2 : (i : Int) < (ps.length : Int) := by omega
      clear hst hx hq k0 k1 hg n2 p2 hrun p10 hg10 m10 hne htake z1 hli
      go_wp2_with (at_builtin; refine wpList_append_eq rfl (.tmp 25) (.tmp 31) 37 rfl _ _ _ _ rfl rfl RUN.out ?_)
      go_roundg gn
      case measure => omega
      case rel =>
        go_light
        exact ⟨i + 1, _, by have := HL.out; rw [show wrap64 ((i : Int) + 1) = ((i + 1 : Nat) : Int) by unfold wrap64; omega], by have := HIG.out; omega, HN.out⟩
    · have hil : i = ps.length := by have := HIG.out; omega
      rw [hil, List.take_length] at hst
      obtain ⟨q2, c2, hpv⟩ := hst.prs.form
      subst hpv
      obtain ⟨⟨e0, e1, e2, e3, e4, e5⟩, _⟩ := six_cells hst.row
      obtain ⟨⟨r0, r1, r2, r3, r4, r5⟩, ⟨f0, f1, f2, f3, f4, f5⟩⟩ := six_cells hst.res
      have HST := Lib.hid hst
      have hn : ¬ (i : Int) < (ps.length : Int) := by omega
      clear hst hil
      go_wp2_with (fail)
      change bodyPost _ _ _ _ _ (setTok wr (w.heap.size + 1) kind at_ name (.slice q2 ps.length c2) text refs)
      obtain ⟨w9, hw9⟩ : ∃ W, setTok wr (w.heap.size + 1) kind at_ name (.slice q2 ps.length c2) text refs = W := ⟨_, rfl⟩
      obtain ⟨r9, m9⟩ := setTok_row kind at_ name (.slice q2 ps.length c2) text refs HST.out.res
      rw [hw9] at r9 m9 ⊢
      obtain ⟨⟨d0, d1, d2, d3, d4, d5⟩, _⟩ := six_cells r9
      refine bodyPost_ret (v := .agg #[.int .i64 kind, .int .i64 at_, .string name, .slice q2 ps.length c2, .string text, .int .i64 refs]) ?_ rfl ?_
      · simp [results, Tryd.results9, go_sem, d0, d1, d2, d3, d4, d5]
      · exact ⟨_, rfl, (HST.out.prs.kept m9 (HST.out.prs.ne (by omega))).less (by omega), HST.out.low.grown m9 HST.out.low.size (fun k e => by injection e with e; omega)⟩
end Go.Proofs.YtcfecnleibeegaaDoor
