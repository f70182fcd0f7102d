/- Proved here: what append does to a row of bytes that the call itself made: it holds both, one behind the other, in a row of the call's own. | Proved here: pairs appended to a row of the call's own, and the set of the names that stand in a tag. | Proved here: what the statements' doc makes of a token: the document's token, in new memory. -/
import Derived.Test.YteipiaefamfleaaGreatDoorM0
import Derived.Laws.AppendOwn
import Derived.Laws.AppendOwnNone
import Derived.Laws.OwnMore
import Derived.OwnWalk
import Derived.Test.YteipiaefamfleaaGreatDoorM9
import Derived.Test.YteipiaefamfleaaGreatDoorM1
import Derived.Maps.OwnSet
import Derived.Maps.Views
import Derived.Deep.LoopGhost
import Derived.Deep.DeepCutAuto
namespace Go.Proofs.YteipiaefamfleaaGreatDoor
open Go.RowKit

def bytesV (s : ByteArray) : List Value := s.data.toList.map fun b => Value.int .u8 (b.toNat : Int)
theorem bytesV_length (s : ByteArray) : (bytesV s).length = s.size := by simp [bytesV]
theorem bytesV_append (s t : ByteArray) : bytesV (s ++ t) = bytesV s ++ bytesV t := by simp [bytesV]
theorem bytesV_get (s : ByteArray) (j : Nat) (h : j < s.size) : (bytesV s)[j]? = some (.int .u8 ((s.get! j).toNat : Int)) := by
  have e : s.get! j = s.data[j]'h := by
    show s.data[j]! = _
    rw [getElem!_pos s.data j h]
  rw [e]
  simp [bytesV, Array.getElem?_eq_getElem (show j < s.data.size from h)]
theorem bytesV_one (s : ByteArray) : ∀ u ∈ bytesV s, u.oneCell' = true := by
  intro u hu
  simp only [bytesV, List.mem_map] at hu
  obtain ⟨b, _, rfl⟩ := hu
  rfl

/-- The slice value v is a row of the call's own (from block B on) that holds just these bytes. -/
def Owns (w : World) (B : Nat) (g cap : Nat) (s : ByteArray) : Prop := w.ownsRow B 5 1 (.slice (some ⟨g, 0, none⟩) s.size cap) s.size (bytesV s) ∧ B ≤ g ∧ g < w.heap.size ∧ s.size ≤ cap

theorem Owns.holds {w : World} {B g cap : Nat} {s : ByteArray} (h : Owns w B g cap s) : HoldsB w (some ⟨g, 0, none⟩) s := fun _ =>
  ⟨g, 0, rfl, fun j hj => by rw [Nat.zero_add, h.1.cellAt j (by omega), bytesV_get s j hj]⟩
theorem Owns.of_row {w : World} {B : Nat} {v : Value} {s : ByteArray} (h : w.ownsRow B 5 1 v s.size (bytesV s)) (hv : v ≠ .slice none 0 0) : ∃ g cap, v = .slice (some ⟨g, 0, none⟩) s.size cap ∧ Owns w B g cap s := by
  rcases h.2 with ⟨rfl, _⟩ | ⟨g, cap, cur, rfl, hb, hh, hc, _, _⟩
  · exact absurd rfl hv
  · exact ⟨g, cap, rfl, h, hb, (h.lt g rfl).2, hc⟩
theorem Owns.far {w w' : World} {B g cap : Nat} {s : ByteArray} (h : Owns w B g cap s) (hb : Below w.heap.size w w') : Owns w' B g cap s := by
  have hg : w.grownBy w' none := ⟨hb.os, hb.tape, hb.output, hb.size, fun i hi _ => hb.block i hi⟩
  exact ⟨h.1.kept hg (.inr (by simp [Value.ownBlock])), h.2.1, Nat.lt_of_lt_of_le h.2.2.1 hb.size, h.2.2.2⟩

theorem infoByte : (Tryz.prog.info? 5).map (fun i => (i.zero, i.size, i.bytes)) = some (some (.int .u8 0), 1, 1) := by kernel_rfl

/-- 'append(v, src...)': what v held and what src holds, in a row of the call's own. -/
theorem append_run {w : World} {B g cap : Nat} {s t : ByteArray} {p : Option Addr} {c : Nat} (h : Owns w B g cap s) (hp : HoldsB w p t) (hnil : p = none → c = 0 ∧ t.size = 0) (hB : B ≤ w.heap.size) (hsz : s.size + t.size ≤ 140737488355328) :
    ∃ g' cap' w', (∀ ty, (Builtin.append_ #[22, 22] ty #[.slice (some ⟨g, 0, none⟩) s.size cap, .slice p t.size c]).run Tryz.prog w = .ok (.slice (some ⟨g', 0, none⟩) (s.size + t.size) cap') w') ∧
      Owns w' B g' cap' (s ++ t) ∧ w.grownBy w' (some g) ∧ w.heap.size ≤ w'.heap.size := by
  obtain ⟨i0, hi, hz0, hz1, hz2⟩ := info_parts infoByte
  have hst : (s ++ t).size = s.size + t.size := by simp
  cases p with
  | none =>
    obtain ⟨rfl, ht⟩ := hnil rfl
    have et : t = ⟨#[]⟩ := by
      apply ByteArray.ext
      exact Array.eq_empty_of_size_eq_zero ht
    subst et
    have hrun := fun ty => run_append_owned_none (P := Tryz.prog) (w := w) B 22 ty 5 i0 1 Tryz.underlying22 hi _ s.size (bytesV s) h.1
    have e : s ++ (⟨#[]⟩ : ByteArray) = s := by
      apply ByteArray.ext
      simp
    refine ⟨g, cap, w, fun ty => ?_, by rw [e]; exact h, World.grownBy.refl w _, Nat.le_refl _⟩
    exact hrun ty
  | some a =>
    have hcells : ∀ j u, (bytesV t)[j]? = some u → w.cell? (a.add j) = some u := by
      intro j u hu
      have hj : j < t.size := by
        have := (List.getElem?_eq_some_iff.1 hu).1
        rwa [bytesV_length] at this
      obtain ⟨b, off, e, hc⟩ := hp (by omega)
      obtain rfl := Option.some.inj e
      have ha : (⟨b, off, none⟩ : Addr).add j = ⟨b, off + j, none⟩ := by unfold Addr.add; split <;> simp_all
      rw [ha, hc j hj, ← hu, bytesV_get t j hj]
    obtain ⟨v', w', hrun, hown, hgrow, hne⟩ := run_append_own (P := Tryz.prog) (w := w) B 22 22 5 i0 (.int .u8 0) 1 1 Tryz.underlying22 hi hz0 hz1 hz2 rfl (by decide) _ s.size (bytesV s) h.1 a t.size c (bytesV t) (by rw [bytesV_length, Nat.mul_one]) hcells (bytesV_one t) (by unfold maxLen; omega) (by omega) hB
    have hv : v' ≠ .slice none 0 0 := fun e => by
      have := hne.1 e
      cases this.1
    rw [← bytesV_append, ← hst] at hown
    obtain ⟨g', cap', rfl, ho⟩ := Owns.of_row hown hv
    rw [hst] at hrun
    refine ⟨g', cap', w', fun ty => ?_, ho, hgrow, hgrow.size⟩
    rw [← hrun]
    rfl

/-- The walk's step at an append whose run is known. -/
theorem wpList_append_eq {P : Program} {w : World} {ops : Array Oper} {rest : List Oper} {o : Oper} {a : Act} {Q : Exit → Act → World → Prop} (hgd : o.guard = none) (s x : Operand) (t : TypeId)
    (ho : o.op = .call { callee := .builtin .append, args := #[s, x], argTypes := #[t, t] }) (v u v' : Value) (w' : World) (hs : a.eval s = v) (hx : a.eval x = u)
    (hrun : ∀ ty, (Builtin.append_ #[t, t] ty #[v, u]).run P w = .ok v' w')
    (h : wpList P ops Q rest (a.put o.dst v') w') : wpList P ops Q (o :: rest) a w := by
  refine wpList_plain hgd fun K hK => ?_
  have hr := hrun o.type
  unfold Oper.wp
  simp [execOp, ho, resolve, invoke, builtin, hs, hx, hr, Result.andThen]
  exact hK _ _ h

/-- An empty row of the call's own. -/
theorem owns_empty (w : World) : Owns (w.alloc (.cells #[] 5)) w.heap.size w.heap.size 0 ⟨#[]⟩ :=
  ⟨World.ownsRow_lit w #[] 0 (Nat.le_refl _) (by unfold maxLen; omega) rfl, Nat.le_refl _, by simp, Nat.le_refl _⟩
theorem empty_append (s : ByteArray) : (⟨#[]⟩ : ByteArray) ++ s = s := by
  apply ByteArray.ext
  simp

/-- 'append([]byte{}, src...)': a new row that holds src. -/
theorem append_first {w : World} {s : ByteArray} {p : Option Addr} {c : Nat} (hp : HoldsB w p s) (hnil : p = none → c = 0) (hsz : s.size ≤ 140737488355328) :
    ∃ g cap w', (∀ ty, (Builtin.append_ #[22, 22] ty #[.slice (some ⟨w.heap.size, 0, none⟩) 0 0, .slice p s.size c]).run Tryz.prog (w.alloc (.cells #[] 5)) = .ok (.slice (some ⟨g, 0, none⟩) s.size cap) w') ∧
      Owns w' w.heap.size g cap s ∧ Below w.heap.size w w' ∧ w.heap.size < w'.heap.size := by
  have hb0 : Below w.heap.size w (w.alloc (.cells #[] 5)) := (Below.refl _ _).alloc (Nat.le_refl _) _
  have hnone : p = none → c = 0 ∧ s.size = 0 := fun e => ⟨hnil e, by
    rcases Nat.eq_zero_or_pos s.size with h | h
    · exact h
    · obtain ⟨_, _, e', _⟩ := hp h
      rw [e] at e'; cases e'⟩
  have hz : (⟨#[]⟩ : ByteArray).size = 0 := rfl
  obtain ⟨g, cap, w', h1, h2, h3, h4⟩ := append_run (owns_empty w) (hp.below hb0) hnone (by simp) (by rw [hz]; omega)
  rw [empty_append] at h2
  simp only [hz, Nat.zero_add] at h1
  have hs : (w.alloc (.cells #[] 5)).heap.size = w.heap.size + 1 := by simp
  exact ⟨g, cap, w', h1, h2, hb0.grown h3 (by omega) (fun k e => by injection e with e; omega), by omega⟩

/-- 'append(v, src...)' behind it. -/
theorem append_next {w0 w : World} {g cap : Nat} {s t : ByteArray} {p : Option Addr} {c : Nat} (h : Owns w w0.heap.size g cap s) (hb : Below w0.heap.size w0 w) (hp : HoldsB w p t) (hnil : p = none → c = 0) (hsz : s.size + t.size ≤ 140737488355328) :
    ∃ g' cap' w', (∀ ty, (Builtin.append_ #[22, 22] ty #[.slice (some ⟨g, 0, none⟩) s.size cap, .slice p t.size c]).run Tryz.prog w = .ok (.slice (some ⟨g', 0, none⟩) (s.size + t.size) cap') w') ∧
      Owns w' w0.heap.size g' cap' (s ++ t) ∧ Below w0.heap.size w0 w' := by
  have hnone : p = none → c = 0 ∧ t.size = 0 := fun e => ⟨hnil e, by
    rcases Nat.eq_zero_or_pos t.size with h | h
    · exact h
    · obtain ⟨_, _, e', _⟩ := hp h
      rw [e] at e'; cases e'⟩
  obtain ⟨g', cap', w', h1, h2, h3, h4⟩ := append_run h hp hnone hb.size hsz
  exact ⟨g', cap', w', h1, h2, hb.grown h3 hb.size (fun k e => by injection e with e; have := h.2.1; omega)⟩
end Go.Proofs.YteipiaefamfleaaGreatDoor
namespace Go.Proofs.YteipiaefamfleaaGreatDoor
open Go.RowKit Go.Maps Go.WideMaps

theorem infoPair : (Tryz.prog.info? 44).map (fun i => (i.zero, i.size, i.bytes)) = some (some (.agg #[.string ⟨#[]⟩, .string ⟨#[]⟩]), 2, 32) := by kernel_rfl
theorem pairs_snoc (l : List (ByteArray × ByteArray)) (p : ByteArray × ByteArray) : pairsV (l ++ [p]) = pairsV l ++ [.string p.1, .string p.2] := by simp [pairsV]
theorem PairsAt.less {w : World} {B B' : Nat} {v : Value} {l : List (ByteArray × ByteArray)} (h : PairsAt w B v l) (hB : B' ≤ B) : PairsAt w B' v l := by
  refine ⟨h.1, ?_⟩
  rcases h.2 with g | ⟨g, c, cur, e, h1, r⟩
  · exact .inl g
  · exact .inr ⟨g, c, cur, e, Nat.le_trans hB h1, r⟩
theorem PairsAt.ne {w : World} {B g : Nat} {v : Value} {l : List (ByteArray × ByteArray)} {o : Obj} (h : PairsAt w B v l) (hg : w.heap[g]? = some o) (ho : ∀ cs, o ≠ .cells cs 44 (0, 0)) : v.ownBlock ≠ some g := by
  rcases h.2 with ⟨rfl, _⟩ | ⟨g', c, cur, rfl, _, hh, _⟩
  · simp [Value.ownBlock]
  · intro e
    have e2 : g' = g := by simpa [Value.ownBlock] using e
    subst e2
    rw [hh] at hg
    injection hg with hg
    exact ho cur hg.symm
theorem append_pair {w : World} {B g : Nat} {v : Value} {l : List (ByteArray × ByteArray)} {p : ByteArray × ByteArray} (h : PairsAt w B v l) (hg : w.heap[g]? = some (.cells #[.string p.1, .string p.2] 44)) (hB : B ≤ w.heap.size) (hl : l.length ≤ 4194304) :
    ∃ v' w', (∀ ty, (Builtin.append_ #[29, 29] ty #[v, .slice (some ⟨g, 0, none⟩) 1 1]).run Tryz.prog w = .ok v' w') ∧ PairsAt w' B v' (l ++ [p]) ∧ w.grownBy w' v.ownBlock := by
  obtain ⟨i0, hi, hz0, hz1, hz2⟩ := info_parts infoPair
  have hcells : ∀ j u, ([.string p.1, .string p.2] : List Value)[j]? = some u → w.cell? ((⟨g, 0, none⟩ : Addr).add j) = some u := by
    intro j u hu
    have ha : (⟨g, 0, none⟩ : Addr).add j = ⟨g, j, none⟩ := by unfold Addr.add; split <;> simp_all
    rw [ha, cell_of_row _ _ _ _ _ _ hg, ← hu]
    simp
  have hone : ∀ u ∈ ([.string p.1, .string p.2] : List Value), u.oneCell' = true := by
    intro u hu
    rcases List.mem_cons.1 hu with rfl | hu
    · rfl
    · obtain rfl := List.mem_singleton.1 hu
      rfl
  obtain ⟨v', w', hrun, hown, hgrow, _⟩ := run_append_own (P := Tryz.prog) (w := w) B 29 29 44 i0 (.agg #[.string ⟨#[]⟩, .string ⟨#[]⟩]) 2 32 Tryz.underlying29 hi hz0 hz1 hz2 rfl (by decide) v l.length (pairsV l) h ⟨g, 0, none⟩ 1 1 [.string p.1, .string p.2] rfl hcells hone (by unfold maxLen; omega) (by omega) hB
  refine ⟨v', w', fun ty => ?_, ?_, hgrow⟩
  · rw [← hrun]
    rfl
  · unfold PairsAt
    rw [pairs_snoc, List.length_append]
    exact hown

def keysOf (l : List (ByteArray × ByteArray)) : List Lit := l.map fun p => .string p.1.data.toList
def setP (l : List (ByteArray × ByteArray)) : DataW Unit := setOf (.agg []) (keysOf l)
theorem setP_nil : setP [] = .map [] := by simp [setP, keysOf, setOf]
theorem setP_snoc (l : List (ByteArray × ByteArray)) (p : ByteArray × ByteArray) : setP (l ++ [p]) = (setP l).put (.string p.1.data.toList) (.agg []) := by
  unfold setP keysOf
  rw [List.map_append, List.map_cons, List.map_nil, setOf_snoc]
theorem same_name (a b : ByteArray) : Lit.sameKey (.string a.data.toList) (.string b.data.toList) = decide (a = b) := by
  show (a.data.toList == b.data.toList) = _
  rw [Bool.eq_iff_iff, beq_iff_eq, decide_eq_true_eq]
  constructor
  · intro e
    exact eq_of_list e
  · rintro rfl
    rfl
theorem has_setP (l : List (ByteArray × ByteArray)) (n : ByteArray) : Maps.has (setP l) (.string n.data.toList) = l.any (fun q => decide (q.1 = n)) := by
  unfold setP
  rw [has_setOf _ _ _ (fun y hy => by obtain ⟨_, _, rfl⟩ := List.mem_map.1 hy; trivial)]
  unfold keysOf
  rw [List.any_map]
  congr 1
  funext q
  exact same_name q.1 n
theorem lawStr : Keyed Tryz.prog 9 := string_keyed Tryz.underlying9
theorem key_str (n : ByteArray) (h : n.size ≤ 4194304) : keyOf Tryz.prog 9 (.string n) = some (.string n.data.toList) := keyOf_string_mk Tryz.underlying9 (by unfold maxLen; omega)
theorem zeroUnit (w : World) : (zeroValue 74).run Tryz.prog w = .ok (.agg #[]) w := by kernel_rfl

theorem Moved.after {R : Nat} {w a b : World} {row : Option Nat} (h : Moved R w a) (g : a.grownBy b row) (hr : ∀ k, row = some k → w.heap.size ≤ k) : Moved R w b :=
  ⟨g.os.trans h.os, g.tape.trans h.tape, g.output.trans h.output, Nat.le_trans h.size g.size, fun k hk hkr => (g.block k (Nat.lt_of_lt_of_le hk h.size) (fun e => by have := hr k e.symm; omega)).trans (h.block k hk hkr)⟩
theorem St.after {O : Obj} {w0 w W W' : World} {R b off cap j : Nat} {t : ByteArray} {row : Option Nat} (S : St O w0 w W R b off cap t j) (g : W.grownBy W' row) (hr : ∀ k, row = some k → w.heap.size < k) : St O w0 w W' R b off cap t j := by
  have hR : R < W.heap.size := (Array.getElem?_eq_some_iff.1 S.rd).1
  refine ⟨S.env, S.old, ?_, S.mv.after g (fun k hk => Nat.le_of_lt (hr k hk)), ?_, S.lt⟩
  · have := S.rd
    unfold Rd at this ⊢
    rw [g.block R hR (fun e => by have := hr R e.symm; have := S.lt; omega)]
    exact this
  · rw [g.block _ S.le (fun e => by have := hr _ e.symm; omega)]
    exact S.out
/-- How the opening of a tag stands at its label: the reader at j, the token so far, the pairs so far, the set of their names. -/
structure Opn (w0 w W : World) (R b off cap : Nat) (t n : ByteArray) (kind : Int) (j G M : Nat) (pv : Value) (ps : List (ByteArray × ByteArray)) : Prop where
  st : St TOK0 w0 w W R b off cap t j
  row : W.heap[G]? = some (.cells #[.int .i64 kind, .int .i64 0, .string n, pv, .string ⟨#[]⟩, .int .i64 0] 31)
  gl : w.heap.size < G
  prs : PairsAt W (w.heap.size + 1) pv ps
  map : W.ownsMap Tryz.prog 9 (unitElem (H := Unit)) M ps.length (setP ps)
  ml : w.heap.size < M
theorem Opn.after {w0 w W W' : World} {R b off cap j G M : Nat} {t n : ByteArray} {kind : Int} {pv : Value} {ps : List (ByteArray × ByteArray)} {row : Option Nat} (o : Opn w0 w W R b off cap t n kind j G M pv ps) (g : W.grownBy W' row) (hr : ∀ k, row = some k → w.heap.size < k) (h1 : some G ≠ row) (h2 : some M ≠ row) (h3 : pv.ownBlock = none ∨ pv.ownBlock ≠ row) : Opn w0 w W' R b off cap t n kind j G M pv ps := by
  refine ⟨o.st.after g hr, ?_, o.gl, o.prs.kept g h3, o.map.kept g h2, o.ml⟩
  rw [g.block G (Array.getElem?_eq_some_iff.1 o.row).1 h1]
  exact o.row
theorem Opn.moved {w0 w W W' : World} {R b off cap j j' G M : Nat} {t n : ByteArray} {kind : Int} {pv : Value} {ps : List (ByteArray × ByteArray)} (o : Opn w0 w W R b off cap t n kind j G M pv ps) (hr : Rd W' R (rv b off cap t) j') (hm : Moved R W W') : Opn w0 w W' R b off cap t n kind j' G M pv ps := by
  have hR := o.st.lt
  refine ⟨o.st.moved hr hm, ?_, o.gl, o.prs.kept hm (.inr (o.prs.ne o.st.rd (fun cs e => by injection e with _ e2 _; cases e2))), o.map.kept hm (fun e => by injection e with e; have := o.ml; omega), o.ml⟩
  rw [hm.block G (Array.getElem?_eq_some_iff.1 o.row).1 (fun e => by injection e with e; have := o.gl; omega)]
  exact o.row
theorem Opn.alloc {w0 w W : World} {R b off cap j G M : Nat} {t n : ByteArray} {kind : Int} {pv : Value} {ps : List (ByteArray × ByteArray)} (o : Opn w0 w W R b off cap t n kind j G M pv ps) (x : Obj) : Opn w0 w (W.alloc x) R b off cap t n kind j G M pv ps :=
  o.after (World.grownBy_alloc W x none) (fun _ e => by cases e) (by simp) (by simp) (by cases pv.ownBlock <;> simp)
end Go.Proofs.YteipiaefamfleaaGreatDoor
namespace Go.Proofs.YteipiaefamfleaaGreatDoor
open Go.RowKit

/-- Where the cells of pairs lie. -/
def PCells (w : World) (v : Value) (l : List (ByteArray × ByteArray)) : Prop := (∃ q c, v = .slice q l.length c) ∧ ∀ i x, l[i]? = some x → ∃ g c, v = .slice (some ⟨g, 0, none⟩) l.length c ∧ g < w.heap.size ∧ w.cell? ⟨g, i * 2, none⟩ = some (.string x.1) ∧ w.cell? ⟨g, i * 2 + 1, none⟩ = some (.string x.2)
/-- The document's pairs as they lie in memory of the call's own. -/
def RPairsAt (w : World) (B : Nat) (v : Value) (l : List (ByteArray × ByteArray)) : Prop := w.ownsRow B 46 2 v l.length (pairsV l)
theorem RPairsAt.nil (w : World) (B : Nat) : RPairsAt w B (.slice none 0 0) [] := World.ownsRow_nil w B _ 2
theorem RPairsAt.less {w : World} {B B' : Nat} {v : Value} {l : List (ByteArray × ByteArray)} (h : RPairsAt w B v l) (hB : B' ≤ B) : RPairsAt w B' v l := by
  refine ⟨h.1, ?_⟩
  rcases h.2 with g | ⟨g, c, cur, e, h1, r⟩
  · exact .inl g
  · exact .inr ⟨g, c, cur, e, Nat.le_trans hB h1, r⟩
theorem RPairsAt.kept {w w' : World} {B G : Nat} {v : Value} {l : List (ByteArray × ByteArray)} (h : RPairsAt w B v l) (m : w.grownBy w' (some G)) (hne : v.ownBlock ≠ some G) : RPairsAt w' B v l := World.ownsRow.kept h m (.inr hne)
theorem RPairsAt.ne {w : World} {B g : Nat} {v : Value} {l : List (ByteArray × ByteArray)} (h : RPairsAt w B v l) (hg : g < B) : v.ownBlock ≠ some g := by
  rcases h.2 with ⟨rfl, _⟩ | ⟨g', c, cur, rfl, h1, _⟩
  · simp [Value.ownBlock]
  · intro e
    have e2 : g' = g := by simpa [Value.ownBlock] using e
    omega
theorem RPairsAt.form {w : World} {B : Nat} {v : Value} {l : List (ByteArray × ByteArray)} (h : RPairsAt w B v l) : ∃ q c, v = .slice q l.length c := by
  rcases h.2 with ⟨rfl, h0⟩ | ⟨g, c, cur, rfl, _⟩
  · exact ⟨none, 0, by rw [h0]⟩
  · exact ⟨_, _, rfl⟩
theorem infoRPair : (Tryz.prog.info? 46).map (fun i => (i.zero, i.size, i.bytes)) = some (some (.agg #[.string ⟨#[]⟩, .string ⟨#[]⟩]), 2, 32) := by kernel_rfl
theorem append_rpair {w : World} {B g : Nat} {v : Value} {l : List (ByteArray × ByteArray)} {p : ByteArray × ByteArray} (h : RPairsAt w B v l) (hg : w.heap[g]? = some (.cells #[.string p.1, .string p.2] 46)) (hB : B ≤ w.heap.size) (hl : l.length ≤ 4194304) :
    ∃ v' w', (∀ ty, (Builtin.append_ #[34, 34] ty #[v, .slice (some ⟨g, 0, none⟩) 1 1]).run Tryz.prog w = .ok v' w') ∧ RPairsAt w' B v' (l ++ [p]) ∧ w.grownBy w' v.ownBlock := by
  obtain ⟨i0, hi, hz0, hz1, hz2⟩ := info_parts infoRPair
  have hcells : ∀ j u, ([.string p.1, .string p.2] : List Value)[j]? = some u → w.cell? ((⟨g, 0, none⟩ : Addr).add j) = some u := by
    intro j u hu
    have ha : (⟨g, 0, none⟩ : Addr).add j = ⟨g, j, none⟩ := by unfold Addr.add; split <;> simp_all
    rw [ha, cell_of_row _ _ _ _ _ _ hg, ← hu]
    simp
  have hone : ∀ u ∈ ([.string p.1, .string p.2] : List Value), u.oneCell' = true := by
    intro u hu
    rcases List.mem_cons.1 hu with rfl | hu
    · rfl
    · obtain rfl := List.mem_singleton.1 hu
      rfl
  obtain ⟨v', w', hrun, hown, hgrow, _⟩ := run_append_own (P := Tryz.prog) (w := w) B 34 34 46 i0 (.agg #[.string ⟨#[]⟩, .string ⟨#[]⟩]) 2 32 Tryz.underlying34 hi hz0 hz1 hz2 rfl (by decide) v l.length (pairsV l) h ⟨g, 0, none⟩ 1 1 [.string p.1, .string p.2] rfl hcells hone (by unfold maxLen; omega) (by omega) hB
  refine ⟨v', w', fun ty => ?_, ?_, hgrow⟩
  · rw [← hrun]
    rfl
  · unfold RPairsAt
    rw [pairs_snoc, List.length_append]
    exact hown
/-- What doc answers. -/
def DocPost (w : World) (kind at_ refs : Int) (name text : ByteArray) (ps : List (ByteArray × ByteArray)) (e : Ending) (w' : World) : Prop := ∃ pv, e = .returned (.agg #[.int .i64 kind, .int .i64 at_, .string name, pv, .string text, .int .i64 refs]) ∧ RPairsAt w' w.heap.size pv ps ∧ Below w.heap.size w w'
/-- How doc stands at its loop's head: its result's block, the token that it makes, the pairs so far. -/
structure DocSt (w W : World) (kind at_ refs : Int) (name text : ByteArray) (pv : Value) (l : List (ByteArray × ByteArray)) : Prop where
  res : W.heap[w.heap.size + 1]? = some (.cells #[.int .i64 0, .int .i64 0, .string ⟨#[]⟩, .slice none 0 0, .string ⟨#[]⟩, .int .i64 0] 36)
  row : W.heap[w.heap.size + 1 + 1]? = some (.cells #[.int .i64 kind, .int .i64 at_, .string name, pv, .string text, .int .i64 refs] 36)
  prs : RPairsAt W (w.heap.size + 3) pv l
  low : Below w.heap.size w W
theorem doc_first (w : World) (b : Obj) (kind at_ refs : Int) (name text : ByteArray) {W : World}
    (hW : ((w.alloc b).alloc (.cells #[.int .i64 0, .int .i64 0, .string ⟨#[]⟩, .slice none 0 0, .string ⟨#[]⟩, .int .i64 0] 36)).alloc (.cells #[.int .i64 kind, .int .i64 at_, .string name, .slice none 0 0, .string text, .int .i64 refs] 36) = W) :
    DocSt w W kind at_ refs name text (.slice none 0 0) [] := by
  have e1 : (w.alloc b).heap.size = w.heap.size + 1 := by simp
  subst hW
  refine ⟨?_, ?_, RPairsAt.nil _ _, (((Below.refl _ _).alloc (Nat.le_refl _) _).alloc (by simp) _).alloc (by simp; omega) _⟩
  · have h1 := heap_alloc_new (w.alloc b) (.cells #[.int .i64 0, .int .i64 0, .string ⟨#[]⟩, .slice none 0 0, .string ⟨#[]⟩, .int .i64 0] 36)
    rw [e1] at h1
    exact (heap_alloc_old _ _ (Array.getElem?_eq_some_iff.1 h1).1).trans h1
  · have h2 := heap_alloc_new ((w.alloc b).alloc (.cells #[.int .i64 0, .int .i64 0, .string ⟨#[]⟩, .slice none 0 0, .string ⟨#[]⟩, .int .i64 0] 36)) (.cells #[.int .i64 kind, .int .i64 at_, .string name, .slice none 0 0, .string text, .int .i64 refs] 36)
    have e2 : ((w.alloc b).alloc (.cells #[.int .i64 0, .int .i64 0, .string ⟨#[]⟩, .slice none 0 0, .string ⟨#[]⟩, .int .i64 0] 36)).heap.size = w.heap.size + 1 + 1 := by simp
    rw [e2] at h2
    exact h2
theorem RPairsAt.ge {w : World} {B k : Nat} {v : Value} {l : List (ByteArray × ByteArray)} (h : RPairsAt w B v l) (hk : v.ownBlock = some k) : B ≤ k := by
  rcases Nat.lt_or_ge k B with g | g
  · exact absurd hk (h.ne g)
  · exact g
/-- The token that doc makes, when its pairs have grown in memory: its own cell tells the elder ones. -/
theorem doc_mid {w wr w10 : World} {kind at_ refs : Int} {name text : ByteArray} {pv : Value} {l : List (ByteArray × ByteArray)} (o1 o2 : Obj) (h : DocSt w wr kind at_ refs name text pv l) (hg : ((wr.alloc o1).alloc o2).grownBy w10 pv.ownBlock) :
    w10.heap[w.heap.size + 1]? = some (.cells #[.int .i64 0, .int .i64 0, .string ⟨#[]⟩, .slice none 0 0, .string ⟨#[]⟩, .int .i64 0] 36) ∧
    w10.heap[w.heap.size + 1 + 1]? = some (.cells #[.int .i64 kind, .int .i64 at_, .string name, pv, .string text, .int .i64 refs] 36) ∧ Below w.heap.size w w10 := by
  have l1 := (Array.getElem?_eq_some_iff.1 h.res).1
  have l2 := (Array.getElem?_eq_some_iff.1 h.row).1
  have z : ((wr.alloc o1).alloc o2).heap.size = wr.heap.size + 1 + 1 := by simp
  have z1 : (wr.alloc o1).heap.size = wr.heap.size + 1 := by simp
  have hs := h.low.size
  refine ⟨?_, ?_, ?_⟩
  · refine (hg.block _ (by omega) (fun e => h.prs.ne (by omega) e.symm)).trans ?_
    exact (heap_alloc_old _ _ (by omega)).trans ((heap_alloc_old _ _ l1).trans h.res)
  · refine (hg.block _ (by omega) (fun e => h.prs.ne (by omega) e.symm)).trans ?_
    exact (heap_alloc_old _ _ (by omega)).trans ((heap_alloc_old _ _ l2).trans h.row)
  · exact ((h.low.alloc (by omega) o1).alloc (by omega) o2).grown hg (by omega) (fun k e => by have := h.prs.ge e; omega)
theorem doc_next {w w10 : World} {kind at_ refs : Int} {name text : ByteArray} {pv v' : Value} {l : List (ByteArray × ByteArray)}
    (h : w10.heap[w.heap.size + 1]? = some (.cells #[.int .i64 0, .int .i64 0, .string ⟨#[]⟩, .slice none 0 0, .string ⟨#[]⟩, .int .i64 0] 36) ∧
      w10.heap[w.heap.size + 1 + 1]? = some (.cells #[.int .i64 kind, .int .i64 at_, .string name, pv, .string text, .int .i64 refs] 36) ∧ Below w.heap.size w w10) (p : RPairsAt w10 (w.heap.size + 3) v' l) :
    DocSt w (w10.setCell ⟨w.heap.size + 1 + 1, 3, none⟩ v') kind at_ refs name text v' l := by
  obtain ⟨h1, h2, h3⟩ := h
  obtain ⟨r, m⟩ := setCell_row (k := 3) v' h2
  have l1 := (Array.getElem?_eq_some_iff.1 h1).1
  refine ⟨(m.block _ l1 (fun e => by injection e with e; omega)).trans h1, r, World.ownsRow.kept p m (.inr (p.ne (by omega))), h3.grown m h3.size (fun k e => by injection e with e; omega)⟩
set_option maxHeartbeats 4000000 in
set_option maxRecDepth 100000 in
theorem doc_any (kind at_ refs : Int) (name text : ByteArray) (v : Value) (ps : List (ByteArray × ByteArray)) (w : World) (hv : PCells w v ps) (hl : ps.length ≤ 4194304) :
    Calls Tryz.prog 8 #[.agg #[.int .i64 kind, .int .i64 at_, .string name, v, .string text, .int .i64 refs]] w (DocPost w kind at_ refs name text ps) := by
  obtain ⟨⟨q, c, rfl⟩, hcells⟩ := hv
  have HC := Lib.hid hcells
  have HL := Lib.hid hl
  clear hcells hl
  go_enter Tryz.func8, Tryz.ntmps8
  go_wp2_with (fail)
  obtain ⟨W0, hW0⟩ : ∃ W, ((w.alloc (.cells #[.int .i64 kind, .int .i64 at_, .string name, .slice q ps.length c, .string text, .int .i64 refs] 31)).alloc (.cells #[.int .i64 0, .int .i64 0, .string ⟨#[]⟩, .slice none 0 0, .string ⟨#[]⟩, .int .i64 0] 36)).alloc (.cells #[.int .i64 kind, .int .i64 at_, .string name, .slice none 0 0, .string text, .int .i64 refs] 36) = W := ⟨_, rfl⟩
  have D0 := Lib.hid (doc_first w _ kind at_ refs name text hW0)
  rw [hW0]
  clear hW0
  go_loopg [20] ps.length (fun g v20 wr => ∃ (i : Nat) (pv : Value), v20 = .int .i64 (i : Int) ∧ i + g = ps.length ∧ DocSt w wr kind at_ refs name text pv (ps.take i))
  case atStart => exact ⟨0, _, rfl, by omega, by rw [List.take_zero]; exact D0.out⟩
  case round =>
    obtain ⟨i, pv, rfl, hig, hst⟩ := hrel
    have HIG := Lib.hid hig
    clear hig D0
    by_cases hlt : i < ps.length
    · obtain ⟨gn, rfl⟩ : ∃ gn, gk = gn + 1 := ⟨gk - 1, by have := HIG.out; omega⟩
      obtain ⟨x, hx⟩ : ∃ x, ps[i]? = some x := ⟨_, List.getElem?_eq_getElem hlt⟩
      obtain ⟨g, c', hq, hg, k0, k1⟩ := HC.out i x hx
      obtain ⟨rfl, rfl⟩ : q = some ⟨g, 0, none⟩ ∧ c = c' := by
        injection hq with h1 _ h3
        exact ⟨h1, h3⟩
      have d0 := hb_cell hst.low k0
      have d1 := hb_cell hst.low k1
      have hgw : g < wr.heap.size := by have := hst.low.size; omega
      have hX : w.heap.size + 1 + 1 < wr.heap.size := (Array.getElem?_eq_some_iff.1 hst.row).1
      have hli : (ps.take i).length = i := by rw [List.length_take]; omega
      obtain ⟨q2, c2, hpv⟩ := hst.prs.form
      rw [hli] at hpv
      subst hpv
      obtain ⟨⟨e0, e1, e2, e3, e4, e5⟩, ⟨f0, f1, f2, f3, f4, f5⟩⟩ := six_cells hst.row
      have z1 : (wr.alloc (.cells #[.string x.1, .string x.2] 44)).heap.size = wr.heap.size + 1 := by simp
      have n2 := heap_alloc_new (wr.alloc (.cells #[.string x.1, .string x.2] 44)) (.cells #[.string x.1, .string x.2] 46)
      rw [z1] at n2
      have p2 : RPairsAt ((wr.alloc (.cells #[.string x.1, .string x.2] 44)).alloc (.cells #[.string x.1, .string x.2] 46)) _ _ _ := World.ownsRow.alloc (World.ownsRow.alloc hst.prs _) _
      obtain ⟨v', w10, hrun, p10, hg10⟩ := append_rpair p2 n2 (by simp; omega) (by have := HL.out; rw [List.length_take]; omega)
      have m10 := doc_mid _ _ hst hg10
      have hne := doc_next m10 p10
      obtain ⟨⟨a0, a1, a2, a3, a4, a5⟩, ⟨g0, g1, g2, g3, g4, g5⟩⟩ := six_cells m10.2.1
      have htake : ps.take i ++ [x] = ps.take (i + 1) := by rw [List.take_succ_eq_append_getElem hlt]; congr 2; rw [List.getElem?_eq_getElem hlt] at hx; exact (Option.some.inj hx).symm
      rw [htake] at hne
      have HN := Lib.hid hne
      have RUN := Lib.hid hrun
      have HLT := Lib.hid hlt
      obtain ⟨q3, c3, hv3⟩ := p10.form
      rw [List.length_append, hli] at hv3
      subst hv3
      have hlt2 : (i : Int) < (ps.length : Int) := by omega
      clear hst hx hq k0 k1 hg n2 p2 hrun p10 hg10 m10 hne htake z1 hli
      go_wp2_with (at_builtin; refine wpList_append_eq rfl (.tmp 25) (.tmp 31) 34 rfl _ _ _ _ rfl rfl RUN.out ?_)
      go_roundg gn
      case measure => omega
      case rel =>
        go_light
        exact ⟨i + 1, _, by have := HL.out; rw [show wrap64 ((i : Int) + 1) = ((i + 1 : Nat) : Int) by unfold wrap64; omega], by have := HIG.out; omega, HN.out⟩
    · have hil : i = ps.length := by have := HIG.out; omega
      rw [hil, List.take_length] at hst
      obtain ⟨q2, c2, hpv⟩ := hst.prs.form
      subst hpv
      obtain ⟨⟨e0, e1, e2, e3, e4, e5⟩, _⟩ := six_cells hst.row
      obtain ⟨⟨r0, r1, r2, r3, r4, r5⟩, ⟨f0, f1, f2, f3, f4, f5⟩⟩ := six_cells hst.res
      have HST := Lib.hid hst
      have hn : ¬ (i : Int) < (ps.length : Int) := by omega
      clear hst hil
      go_wp2_with (fail)
      change bodyPost _ _ _ _ _ (setTok wr (w.heap.size + 1) kind at_ name (.slice q2 ps.length c2) text refs)
      obtain ⟨w9, hw9⟩ : ∃ W, setTok wr (w.heap.size + 1) kind at_ name (.slice q2 ps.length c2) text refs = W := ⟨_, rfl⟩
      obtain ⟨r9, m9⟩ := setTok_row kind at_ name (.slice q2 ps.length c2) text refs HST.out.res
      rw [hw9] at r9 m9 ⊢
      obtain ⟨⟨d0, d1, d2, d3, d4, d5⟩, _⟩ := six_cells r9
      refine bodyPost_ret (v := .agg #[.int .i64 kind, .int .i64 at_, .string name, .slice q2 ps.length c2, .string text, .int .i64 refs]) ?_ rfl ?_
      · simp [results, Tryz.results8, go_sem, d0, d1, d2, d3, d4, d5]
      · exact ⟨_, rfl, (HST.out.prs.kept m9 (HST.out.prs.ne (by omega))).less (by omega), HST.out.low.grown m9 HST.out.low.size (fun k e => by injection e with e; omega)⟩
end Go.Proofs.YteipiaefamfleaaGreatDoor
