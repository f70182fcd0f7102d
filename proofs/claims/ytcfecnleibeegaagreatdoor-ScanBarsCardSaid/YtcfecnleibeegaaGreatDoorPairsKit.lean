/- Proved here: pairs appended to a row of the call's own, and the set of the names that stand in a tag. -/
import Derived.Test.YtcfecnleibeegaaGreatDoorClosing
import Derived.Test.YtcfecnleibeegaaGreatDoorOwns
import Derived.Test.YtcfecnleibeegaaGreatDoorM1
import Derived.Maps.OwnSet
import Derived.Maps.Views
namespace Go.Proofs.YtcfecnleibeegaaGreatDoor
open Go.RowKit Go.Maps Go.WideMaps

theorem infoPair : (Tryz.prog.info? 53).map (fun i => (i.zero, i.size, i.bytes)) = some (some (.agg #[.string ⟨#[]⟩, .string ⟨#[]⟩]), 2, 32) := by kernel_rfl
theorem pairs_snoc (l : List (ByteArray × ByteArray)) (p : ByteArray × ByteArray) : pairsV (l ++ [p]) = pairsV l ++ [.string p.1, .string p.2] := by simp [pairsV]
theorem PairsAt.less {w : World} {B B' : Nat} {v : Value} {l : List (ByteArray × ByteArray)} (h : PairsAt w B v l) (hB : B' ≤ B) : PairsAt w B' v l := by
  refine ⟨h.1, ?_⟩
  rcases h.2 with g | ⟨g, c, cur, e, h1, r⟩
  · exact .inl g
  · exact .inr ⟨g, c, cur, e, Nat.le_trans hB h1, r⟩
theorem PairsAt.ne {w : World} {B g : Nat} {v : Value} {l : List (ByteArray × ByteArray)} {o : Obj} (h : PairsAt w B v l) (hg : w.heap[g]? = some o) (ho : ∀ cs, o ≠ .cells cs 53 (0, 0)) : v.ownBlock ≠ some g := by
  rcases h.2 with ⟨rfl, _⟩ | ⟨g', c, cur, rfl, _, hh, _⟩
  · simp [Value.ownBlock]
  · intro e
    have e2 : g' = g := by simpa [Value.ownBlock] using e
    subst e2
    rw [hh] at hg
    injection hg with hg
    exact ho cur hg.symm
theorem append_pair {w : World} {B g : Nat} {v : Value} {l : List (ByteArray × ByteArray)} {p : ByteArray × ByteArray} (h : PairsAt w B v l) (hg : w.heap[g]? = some (.cells #[.string p.1, .string p.2] 53)) (hB : B ≤ w.heap.size) (hl : l.length ≤ 4194304) :
    ∃ v' w', (∀ ty, (Builtin.append_ #[39, 39] ty #[v, .slice (some ⟨g, 0, none⟩) 1 1]).run Tryz.prog w = .ok v' w') ∧ PairsAt w' B v' (l ++ [p]) ∧ w.grownBy w' v.ownBlock := by
  obtain ⟨i0, hi, hz0, hz1, hz2⟩ := info_parts infoPair
  have hcells : ∀ j u, ([.string p.1, .string p.2] : List Value)[j]? = some u → w.cell? ((⟨g, 0, none⟩ : Addr).add j) = some u := by
    intro j u hu
    have ha : (⟨g, 0, none⟩ : Addr).add j = ⟨g, j, none⟩ := by unfold Addr.add; split <;> simp_all
    rw [ha, cell_of_row _ _ _ _ _ _ hg, ← hu]
    simp
  have hone : ∀ u ∈ ([.string p.1, .string p.2] : List Value), u.oneCell' = true := by
    intro u hu
    rcases List.mem_cons.1 hu with rfl | hu
    · rfl
    · obtain rfl := List.mem_singleton.1 hu
      rfl
  obtain ⟨v', w', hrun, hown, hgrow, _⟩ := run_append_own (P := Tryz.prog) (w := w) B 39 39 53 i0 (.agg #[.string ⟨#[]⟩, .string ⟨#[]⟩]) 2 32 Tryz.underlying39 hi hz0 hz1 hz2 rfl (by decide) v l.length (pairsV l) h ⟨g, 0, none⟩ 1 1 [.string p.1, .string p.2] rfl hcells hone (by unfold maxLen; omega) (by omega) hB
  refine ⟨v', w', fun ty => ?_, ?_, hgrow⟩
  · rw [← hrun]
    rfl
  · unfold PairsAt
    rw [pairs_snoc, List.length_append]
    exact hown

def keysOf (l : List (ByteArray × ByteArray)) : List Lit := l.map fun p => .string p.1.data.toList
def setP (l : List (ByteArray × ByteArray)) : DataW Unit := setOf (.agg []) (keysOf l)
theorem setP_nil : setP [] = .map [] := by simp [setP, keysOf, setOf]
theorem setP_snoc (l : List (ByteArray × ByteArray)) (p : ByteArray × ByteArray) : setP (l ++ [p]) = (setP l).put (.string p.1.data.toList) (.agg []) := by
  unfold setP keysOf
  rw [List.map_append, List.map_cons, List.map_nil, setOf_snoc]
theorem same_name (a b : ByteArray) : Lit.sameKey (.string a.data.toList) (.string b.data.toList) = decide (a = b) := by
  show (a.data.toList == b.data.toList) = _
  rw [Bool.eq_iff_iff, beq_iff_eq, decide_eq_true_eq]
  constructor
  · intro e
    exact eq_of_list e
  · rintro rfl
    rfl
theorem has_setP (l : List (ByteArray × ByteArray)) (n : ByteArray) : Maps.has (setP l) (.string n.data.toList) = l.any (fun q => decide (q.1 = n)) := by
  unfold setP
  rw [has_setOf _ _ _ (fun y hy => by obtain ⟨_, _, rfl⟩ := List.mem_map.1 hy; trivial)]
  unfold keysOf
  rw [List.any_map]
  congr 1
  funext q
  exact same_name q.1 n
theorem lawStr : Keyed Tryz.prog 9 := string_keyed Tryz.underlying9
theorem key_str (n : ByteArray) (h : n.size ≤ 4194304) : keyOf Tryz.prog 9 (.string n) = some (.string n.data.toList) := keyOf_string_mk Tryz.underlying9 (by unfold maxLen; omega)
theorem zeroUnit (w : World) : (zeroValue 103).run Tryz.prog w = .ok (.agg #[]) w := by kernel_rfl

theorem Moved.after {R : Nat} {w a b : World} {row : Option Nat} (h : Moved R w a) (g : a.grownBy b row) (hr : ∀ k, row = some k → w.heap.size ≤ k) : Moved R w b :=
  ⟨g.os.trans h.os, g.tape.trans h.tape, g.output.trans h.output, Nat.le_trans h.size g.size, fun k hk hkr => (g.block k (Nat.lt_of_lt_of_le hk h.size) (fun e => by have := hr k e.symm; omega)).trans (h.block k hk hkr)⟩
theorem St.after {O : Obj} {w0 w W W' : World} {R b off cap j : Nat} {t : ByteArray} {row : Option Nat} (S : St O w0 w W R b off cap t j) (g : W.grownBy W' row) (hr : ∀ k, row = some k → w.heap.size < k) : St O w0 w W' R b off cap t j := by
  have hR : R < W.heap.size := (Array.getElem?_eq_some_iff.1 S.rd).1
  refine ⟨S.env, S.old, ?_, S.mv.after g (fun k hk => Nat.le_of_lt (hr k hk)), ?_, S.lt⟩
  · have := S.rd
    unfold Rd at this ⊢
    rw [g.block R hR (fun e => by have := hr R e.symm; have := S.lt; omega)]
    exact this
  · rw [g.block _ S.le (fun e => by have := hr _ e.symm; omega)]
    exact S.out
/-- How the opening of a tag stands at its label: the reader at j, the token so far, the pairs so far, the set of their names. -/
structure Opn (w0 w W : World) (R b off cap : Nat) (t n : ByteArray) (kind : Int) (j G M : Nat) (pv : Value) (ps : List (ByteArray × ByteArray)) : Prop where
  st : St TOK0 w0 w W R b off cap t j
  row : W.heap[G]? = some (.cells #[.int .i64 kind, .int .i64 0, .string n, pv, .string ⟨#[]⟩, .int .i64 0] 41)
  gl : w.heap.size < G
  prs : PairsAt W (w.heap.size + 1) pv ps
  map : W.ownsMap Tryz.prog 9 (unitElem (H := Unit)) M ps.length (setP ps)
  ml : w.heap.size < M
theorem Opn.after {w0 w W W' : World} {R b off cap j G M : Nat} {t n : ByteArray} {kind : Int} {pv : Value} {ps : List (ByteArray × ByteArray)} {row : Option Nat} (o : Opn w0 w W R b off cap t n kind j G M pv ps) (g : W.grownBy W' row) (hr : ∀ k, row = some k → w.heap.size < k) (h1 : some G ≠ row) (h2 : some M ≠ row) (h3 : pv.ownBlock = none ∨ pv.ownBlock ≠ row) : Opn w0 w W' R b off cap t n kind j G M pv ps := by
  refine ⟨o.st.after g hr, ?_, o.gl, o.prs.kept g h3, o.map.kept g h2, o.ml⟩
  rw [g.block G (Array.getElem?_eq_some_iff.1 o.row).1 h1]
  exact o.row
theorem Opn.moved {w0 w W W' : World} {R b off cap j j' G M : Nat} {t n : ByteArray} {kind : Int} {pv : Value} {ps : List (ByteArray × ByteArray)} (o : Opn w0 w W R b off cap t n kind j G M pv ps) (hr : Rd W' R (rv b off cap t) j') (hm : Moved R W W') : Opn w0 w W' R b off cap t n kind j' G M pv ps := by
  have hR := o.st.lt
  refine ⟨o.st.moved hr hm, ?_, o.gl, o.prs.kept hm (.inr (o.prs.ne o.st.rd (fun cs e => by injection e with _ e2 _; cases e2))), o.map.kept hm (fun e => by injection e with e; have := o.ml; omega), o.ml⟩
  rw [hm.block G (Array.getElem?_eq_some_iff.1 o.row).1 (fun e => by injection e with e; have := o.gl; omega)]
  exact o.row
theorem Opn.alloc {w0 w W : World} {R b off cap j G M : Nat} {t n : ByteArray} {kind : Int} {pv : Value} {ps : List (ByteArray × ByteArray)} (o : Opn w0 w W R b off cap t n kind j G M pv ps) (x : Obj) : Opn w0 w (W.alloc x) R b off cap t n kind j G M pv ps :=
  o.after (World.grownBy_alloc W x none) (fun _ e => by cases e) (by simp) (by simp) (by cases pv.ownBlock <;> simp)
end Go.Proofs.YtcfecnleibeegaaGreatDoor
