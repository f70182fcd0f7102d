/- Proved here: the reader's written, whatever stands there, and its qualified: what they read, where they leave the reader. | Proved here: a token, or a pair, as a result's cells; how a walk of the scanner keeps the reader and the result's block. | Proved here: the reader's pair: what it reads, where it leaves the reader. | Proved here: the reader's closing and comment: what they read, where they leave the reader. -/
import Derived.Test.YteipiaefamfleaaGreatDoorM2
import Derived.Test.YteipiaefamfleaaGreatDoorM3
import Derived.Laws.ResultCell
import Derived.Test.YteipiaefamfleaaGreatDoorM8
namespace Go.Proofs.YteipiaefamfleaaGreatDoor
open Go.RowKit

/-- A name's end, as a call answers it: read, or refused. -/
def NamePost (R b off cap : Nat) (t : ByteArray) (r : Except Nat (ByteArray × Nat)) (e : Ending) (w' : World) : Prop := match r with
  | .ok (n, i) => e = .returned (.tuple #[.string n, .int .i64 0]) ∧ Rd w' R (rv b off cap t) i
  | .error e0 => e = .returned (.tuple #[.string ⟨#[]⟩, .int .i64 (e0 : Int)]) ∧ ∃ j, j ≤ t.size ∧ Rd w' R (rv b off cap t) j
theorem written_any (t : ByteArray) (b off cap R k : Nat) (w0 w : World) (E : Env w0 R b off cap t) (hB : Below w0.heap.size w0 w) (h : Rd w R (rv b off cap t) k) (hk : k ≤ t.size) :
    Calls Tryz.prog 46 #[.pointer (some ⟨R, 0, none⟩)] w fun e w' => NamePost R b off cap t (nameF t k) e w' ∧ Moved R w w' := by
  cases hq : nameF t k with
  | error e0 =>
    refine (written_no t b off cap R k e0 w0 w E hB h hq).mono ?_
    rintro e w' ⟨h1, h2, h3⟩
    exact ⟨⟨h1, k, hk, h2⟩, h3⟩
  | ok p =>
    obtain ⟨n, i⟩ := p
    refine (written_yes t n b off cap R k i w0 w E hB h hq).mono ?_
    rintro e w' ⟨h1, h2, h3⟩
    exact ⟨⟨h1, h2⟩, h3⟩

set_option maxHeartbeats 1000000 in
theorem qual_any (t : ByteArray) (b off cap R k : Nat) (w0 w : World) (E : Env w0 R b off cap t) (hB : Below w0.heap.size w0 w) (h : Rd w R (rv b off cap t) k) (hk : k ≤ t.size) :
    Calls Tryz.prog 48 #[.pointer (some ⟨R, 0, none⟩)] w fun e w' => NamePost R b off cap t (qualF t k) e w' ∧ Moved R w w' := by
  cases hn : nameF t k with
  | error e0 =>
    have hq : qualF t k = .error e0 := by unfold qualF; rw [hn]
    have he := name_err hn
    subst he
    have W := Lib.hid (written_no t b off cap R k 23 w0 w E hB h hn)
    rw [hq]
    clear hq hn h E hB
    go_enter Tryz.func48, Tryz.ntmps48
    go_wp2_with (fail)
    refine W.out.mono ?_
    rintro e w1 ⟨rfl, hr, hm⟩
    go_wp2_with (fail)
    go_ret2
    exact ⟨⟨rfl, k, hk, hr⟩, hm⟩
  | ok p =>
    obtain ⟨n, i⟩ := p
    obtain ⟨n1, n2, n3, _⟩ := name_ok hn
    have W := Lib.hid (written_yes t n b off cap R k i w0 w E hB h hn)
    have hns : n.size ≤ 140737488355328 := by
      have := E.txt.small
      rw [n3]
      simp
      omega
    have S := Lib.hid (fun W' (y : Below w0.heap.size w0 W') => split_any n W' (E.tabs.below y) hns)
    have HE := Lib.hid (And.intro E hB)
    cases hs : (splitF n).2.2
    · have hq : qualF t k = .error 24 := by unfold qualF; rw [hn]; simp [hs]
      rw [hq]
      rw [hs] at S
      clear hq hn h E hB hs n3 hns
      go_enter Tryz.func48, Tryz.ntmps48
      go_wp2_with (fail)
      refine W.out.mono ?_
      rintro e w1 ⟨rfl, hr, hm⟩
      have HB := HE.out.1.go HE.out.2 hm
      go_wp2_with (fail)
      refine (S.out _ HB).mono ?_
      rintro e w2 ⟨rfl, hb⟩
      go_wp2_with (fail)
      go_ret2
      exact ⟨⟨rfl, i, n2, hr.below hb⟩, hm.trans (Moved.of_below hb)⟩
    · have hq : qualF t k = .ok (n, i) := by unfold qualF; rw [hn]; simp [hs]
      rw [hq]
      rw [hs] at S
      clear hq hn h E hB hs n3 hns
      go_enter Tryz.func48, Tryz.ntmps48
      go_wp2_with (fail)
      refine W.out.mono ?_
      rintro e w1 ⟨rfl, hr, hm⟩
      have HB := HE.out.1.go HE.out.2 hm
      go_wp2_with (fail)
      refine (S.out _ HB).mono ?_
      rintro e w2 ⟨rfl, hb⟩
      go_wp2_with (fail)
      go_ret2
      exact ⟨⟨rfl, hr.below hb⟩, hm.trans (Moved.of_below hb)⟩
end Go.Proofs.YteipiaefamfleaaGreatDoor
namespace Go.Proofs.YteipiaefamfleaaGreatDoor
open Go.RowKit

abbrev tokV (kind at_ : Int) (name : ByteArray) (pairs : Value) (text : ByteArray) (refs : Int) : Value := .agg #[.int .i64 kind, .int .i64 at_, .string name, pairs, .string text, .int .i64 refs]
/-- A token laid into its six cells. -/
def setTok (w : World) (G : Nat) (kind at_ : Int) (name : ByteArray) (pairs : Value) (text : ByteArray) (refs : Int) : World :=
  (((((w.setCell ⟨G, 0, none⟩ (.int .i64 kind)).setCell ⟨G, 1, none⟩ (.int .i64 at_)).setCell ⟨G, 2, none⟩ (.string name)).setCell ⟨G, 3, none⟩ pairs).setCell ⟨G, 4, none⟩ (.string text)).setCell ⟨G, 5, none⟩ (.int .i64 refs)
theorem setCell_row {w : World} {G k : Nat} {row : Array Value} {T : TypeId} (v : Value) (h : w.heap[G]? = some (.cells row T)) : (w.setCell ⟨G, k, none⟩ v).heap[G]? = some (.cells (row.setIfInBounds k v) T) ∧ w.grownBy (w.setCell ⟨G, k, none⟩ v) (some G) := by
  constructor
  · show (w.heap.modify G _)[G]? = _
    rw [Array.getElem?_modify, if_pos rfl, h]
    rfl
  · refine ⟨rfl, rfl, rfl, by simp [World.setCell], fun i _ hi => ?_⟩
    have : G ≠ i := fun e => hi (by rw [e])
    simp [World.setCell, Array.getElem?_modify, this]
theorem setTok_row {w : World} {G : Nat} {a0 a1 a2 a3 a4 a5 : Value} {T : TypeId} (kind at_ : Int) (name : ByteArray) (pairs : Value) (text : ByteArray) (refs : Int) (h : w.heap[G]? = some (.cells #[a0, a1, a2, a3, a4, a5] T)) :
    (setTok w G kind at_ name pairs text refs).heap[G]? = some (.cells #[.int .i64 kind, .int .i64 at_, .string name, pairs, .string text, .int .i64 refs] T) ∧ w.grownBy (setTok w G kind at_ name pairs text refs) (some G) := by
  obtain ⟨r0, m0⟩ := setCell_row (k := 0) (.int .i64 kind) h
  obtain ⟨r1, m1⟩ := setCell_row (k := 1) (.int .i64 at_) r0
  obtain ⟨r2, m2⟩ := setCell_row (k := 2) (.string name) r1
  obtain ⟨r3, m3⟩ := setCell_row (k := 3) pairs r2
  obtain ⟨r4, m4⟩ := setCell_row (k := 4) (.string text) r3
  obtain ⟨r5, m5⟩ := setCell_row (k := 5) (.int .i64 refs) r4
  exact ⟨r5, Moved.trans (Moved.trans (Moved.trans (Moved.trans (Moved.trans m0 m1) m2) m3) m4) m5⟩
theorem Moved.past {R G : Nat} {w a b : World} (h : Moved R w a) (g : a.grownBy b (some G)) (hG : w.heap.size ≤ G) : Moved R w b :=
  ⟨g.os.trans h.os, g.tape.trans h.tape, g.output.trans h.output, Nat.le_trans h.size g.size, fun k hk hr => (g.block k (Nat.lt_of_lt_of_le hk h.size) (fun e => by injection e with e; omega)).trans (h.block k hk hr)⟩
theorem Rd.past {R G k : Nat} {a b : World} {v : Value} (h : Rd a R v k) (g : a.grownBy b (some G)) (hne : R ≠ G) : Rd b R v k := by
  have hR : R < a.heap.size := (Array.getElem?_eq_some_iff.1 h).1
  unfold Rd at h ⊢
  rw [g.block R hR (fun e => by injection e with e; exact hne e)]
  exact h
abbrev TOK0 : Obj := .cells #[Value.int IntKind.i64 0, Value.int IntKind.i64 0, Value.string { data := #[] }, Value.slice none 0 0, Value.string { data := #[] }, Value.int IntKind.i64 0] 31
abbrev PAIR0 : Obj := .cells #[Value.string { data := #[] }, Value.string { data := #[] }] 44
theorem six_cells {w : World} {G : Nat} {a0 a1 a2 a3 a4 a5 : Value} {T : TypeId} (h : w.heap[G]? = some (.cells #[a0, a1, a2, a3, a4, a5] T)) :
    (w.cell? ⟨G, 0, none⟩ = some a0 ∧ w.cell? ⟨G, 1, none⟩ = some a1 ∧ w.cell? ⟨G, 2, none⟩ = some a2 ∧ w.cell? ⟨G, 3, none⟩ = some a3 ∧ w.cell? ⟨G, 4, none⟩ = some a4 ∧ w.cell? ⟨G, 5, none⟩ = some a5) ∧
    (w.frozen? ⟨G, 0, none⟩ = false ∧ w.frozen? ⟨G, 1, none⟩ = false ∧ w.frozen? ⟨G, 2, none⟩ = false ∧ w.frozen? ⟨G, 3, none⟩ = false ∧ w.frozen? ⟨G, 4, none⟩ = false ∧ w.frozen? ⟨G, 5, none⟩ = false) := by
  refine ⟨⟨?_, ?_, ?_, ?_, ?_, ?_⟩, ⟨?_, ?_, ?_, ?_, ?_, ?_⟩⟩
  all_goals first
    | (rw [cell_of_row _ _ _ _ _ _ h]; rfl)
    | simp [World.frozen?, h]
theorem two_cells {w : World} {G : Nat} {a0 a1 : Value} {T : TypeId} (h : w.heap[G]? = some (.cells #[a0, a1] T)) :
    (w.cell? ⟨G, 0, none⟩ = some a0 ∧ w.cell? ⟨G, 1, none⟩ = some a1) ∧ (w.frozen? ⟨G, 0, none⟩ = false ∧ w.frozen? ⟨G, 1, none⟩ = false) := by
  refine ⟨⟨?_, ?_⟩, ⟨?_, ?_⟩⟩
  all_goals first
    | (rw [cell_of_row _ _ _ _ _ _ h]; rfl)
    | simp [World.frozen?, h]
/-- A pair laid into its two cells. -/
def setPair (w : World) (G : Nat) (n v : ByteArray) : World := (w.setCell ⟨G, 0, none⟩ (.string n)).setCell ⟨G, 1, none⟩ (.string v)
theorem setPair_row {w : World} {G : Nat} {a0 a1 : Value} {T : TypeId} (n v : ByteArray) (h : w.heap[G]? = some (.cells #[a0, a1] T)) :
    (setPair w G n v).heap[G]? = some (.cells #[.string n, .string v] T) ∧ w.grownBy (setPair w G n v) (some G) := by
  obtain ⟨r0, m0⟩ := setCell_row (k := 0) (.string n) h
  obtain ⟨r1, m1⟩ := setCell_row (k := 1) (.string v) r0
  exact ⟨r1, Moved.trans m0 m1⟩
/-- A walk that began at w with the reader R stands at W: the block O of its result (made first) is as it was made; the reader is at j. -/
structure St (O : Obj) (w0 w W : World) (R b off cap : Nat) (t : ByteArray) (j : Nat) : Prop where
  env : Env w0 R b off cap t
  old : Below w0.heap.size w0 w
  rd : Rd W R (rv b off cap t) j
  mv : Moved R w W
  out : W.heap[w.heap.size]? = some O
  lt : R < w.heap.size
theorem St.first {O : Obj} {w0 w W : World} {R b off cap j : Nat} {t : ByteArray} (E : Env w0 R b off cap t) (hB : Below w0.heap.size w0 w) (h : Rd w R (rv b off cap t) j) (hW : w.alloc O = W) : St O w0 w W R b off cap t j := by
  have hb : Below w.heap.size w W := by rw [← hW]; exact (Below.refl _ _).alloc (Nat.le_refl _) _
  exact ⟨E, hB, h.below hb, Moved.of_below hb, by rw [← hW]; exact heap_alloc_new w _, (Array.getElem?_eq_some_iff.1 h).1⟩
theorem St.below {O : Obj} {w0 w W : World} {R b off cap j : Nat} {t : ByteArray} (S : St O w0 w W R b off cap t j) : Below w0.heap.size w0 W := S.env.go S.old S.mv
theorem St.le {O : Obj} {w0 w W : World} {R b off cap j : Nat} {t : ByteArray} (S : St O w0 w W R b off cap t j) : w.heap.size < W.heap.size := (Array.getElem?_eq_some_iff.1 S.out).1
theorem St.moved {O : Obj} {w0 w W W' : World} {R b off cap j j' : Nat} {t : ByteArray} (S : St O w0 w W R b off cap t j) (hr : Rd W' R (rv b off cap t) j') (hm : Moved R W W') : St O w0 w W' R b off cap t j' := by
  refine ⟨S.env, S.old, hr, S.mv.trans hm, ?_, S.lt⟩
  rw [hm.block _ S.le (fun e => by injection e with e; have := S.lt; omega)]
  exact S.out
theorem St.grew {O : Obj} {w0 w W W' : World} {R b off cap j : Nat} {t : ByteArray} (S : St O w0 w W R b off cap t j) (hb : Below W.heap.size W W') : St O w0 w W' R b off cap t j :=
  S.moved (S.rd.below hb) (Moved.of_below hb)
theorem St.txt {O : Obj} {w0 w W : World} {R b off cap j : Nat} {t : ByteArray} (S : St O w0 w W R b off cap t j) : Txt W b off cap t := S.env.at_ S.below
/-- The result laid: what is true of the world then. -/
theorem St.laid {O : Obj} {w0 w W W' : World} {R b off cap j : Nat} {t : ByteArray} (S : St O w0 w W R b off cap t j) (m : W.grownBy W' (some w.heap.size)) : Rd W' R (rv b off cap t) j ∧ Moved R w W' :=
  ⟨S.rd.past m (by have := S.lt; omega), S.mv.past m (Nat.le_refl _)⟩
end Go.Proofs.YteipiaefamfleaaGreatDoor
namespace Go.Proofs.YteipiaefamfleaaGreatDoor
open Go.RowKit

theorem numOut_nn (s : ByteArray) (first : Nat) (r : Nat × Nat) : 0 ≤ (numOut s first r).2.2 := by
  unfold numOut
  split
  · simp
  · split <;> simp
theorem namedGo_nn (s : ByteArray) (at_ : Nat) : ∀ m, 0 ≤ (namedGo s at_ m).2.2
  | 0 => by simp [namedGo]
  | m + 1 => by
    rw [namedGo]
    split
    · simp
    · exact namedGo_nn s at_ m
theorem expF_nn (s : ByteArray) (at_ : Nat) : 0 ≤ (expF s at_).2.2 := by
  unfold expF
  split
  · unfold numF
    split <;> exact numOut_nn _ _ _
  · exact namedGo_nn s at_ 5
theorem bothF_nn (s : ByteArray) (at_ : Nat) : 0 ≤ (bothF s at_).2.2 := by
  unfold bothF
  split
  · simp
  · split
    · exact expF_nn s at_
    · exact Int.natCast_nonneg _
theorem stepV_nn (s : ByteArray) (at_ : Nat) : 0 ≤ (stepV s at_).2.2 := by
  unfold stepV
  split
  · simp
  · exact bothF_nn s at_
theorem stepT_nn (s : ByteArray) (at_ : Nat) : 0 ≤ (stepT s at_).2.2 := by
  unfold stepT
  split
  · simp
  · exact bothF_nn s at_
theorem readGo_nn {step : Nat → Int × Int × Int} (hs : ∀ j, 0 ≤ (step j).2.2) (n : Nat) : ∀ k pos out, 0 ≤ (readGo step n k pos out).2.2
  | 0, pos, out => by simp [readGo]
  | k + 1, pos, out => by
    rw [readGo]
    split
    · split
      · exact readGo_nn hs n k _ _
      · exact hs pos
    · simp
theorem readV_nn (s : ByteArray) : 0 ≤ (readF (stepV s) s.size).2.2 := readGo_nn (stepV_nn s) _ _ _ _
theorem readT_nn (s : ByteArray) : 0 ≤ (readF (stepT s) s.size).2.2 := readGo_nn (stepT_nn s) _ _ _ _
theorem qual_err {t : ByteArray} {k e : Nat} (h : qualF t k = .error e) : e = 23 ∨ e = 24 := by
  unfold qualF at h
  split at h
  · rename_i e' hn
    injection h with h
    exact .inl (h.symm.trans (name_err hn))
  · split at h
    · cases h
    · injection h with h
      exact .inr h.symm
def PairPost (R b off cap : Nat) (t : ByteArray) (r : Except Nat ((ByteArray × ByteArray) × Nat)) (e : Ending) (w' : World) : Prop := match r with
  | .ok (p, i) => e = .returned (.tuple #[.agg #[.string p.1, .string p.2], .int .i64 0]) ∧ Rd w' R (rv b off cap t) i
  | .error e0 => e = .returned (.tuple #[.agg #[.string ⟨#[]⟩, .string ⟨#[]⟩], .int .i64 (e0 : Int)])
theorem qual_post {R b off cap k i : Nat} {t n : ByteArray} {e : Ending} {w' : World} (hq : qualF t k = .ok (n, i)) (h : NamePost R b off cap t (qualF t k) e w') : e = .returned (.tuple #[.string n, .int .i64 0]) ∧ Rd w' R (rv b off cap t) i := by
  rw [hq] at h
  exact h
theorem qual_post_no {R b off cap k e0 : Nat} {t : ByteArray} {e : Ending} {w' : World} (hq : qualF t k = .error e0) (h : NamePost R b off cap t (qualF t k) e w') : e = .returned (.tuple #[.string ⟨#[]⟩, .int .i64 (e0 : Int)]) ∧ ∃ j, j ≤ t.size ∧ Rd w' R (rv b off cap t) j := by
  rw [hq] at h
  exact h

set_option maxHeartbeats 1000000 in
theorem pair_name23 (t : ByteArray) (b off cap R k : Nat) (w0 w : World) (E : Env w0 R b off cap t) (hB : Below w0.heap.size w0 w) (h : Rd w R (rv b off cap t) k) (hk : k ≤ t.size) (hn : qualF t k = .error 23) :
    Calls Tryz.prog 49 #[.pointer (some ⟨R, 0, none⟩)] w fun e w' => e = .returned (.tuple #[.agg #[.string ⟨#[]⟩, .string ⟨#[]⟩], .int .i64 23]) ∧ Moved R w w' := by
  have Q := Lib.hid (fun W g (y : Below w0.heap.size w0 W) => (qual_any t b off cap R k w0 W E y g hk).mono fun _ _ z => And.intro (qual_post_no hn z.1) z.2)
  have HE := Lib.hid (And.intro E (And.intro hB h))
  clear h E hB hn
  go_enter Tryz.func49, Tryz.ntmps49
  go_wp2_with (fail)
  obtain ⟨W1, hW1⟩ : ∃ W, w.alloc PAIR0 = W := ⟨_, rfl⟩
  rw [hW1]
  have S1 := Lib.hid (St.first HE.out.1 HE.out.2.1 HE.out.2.2 hW1)
  clear hW1
  refine (Q.out W1 S1.out.rd S1.out.below).mono ?_
  rintro e w2 ⟨⟨rfl, j, hj, hr2⟩, hm2⟩
  have S2 := Lib.hid (S1.out.moved hr2 hm2)
  clear hr2 hm2
  obtain ⟨⟨c0, c1⟩, ⟨f0, f1⟩⟩ := two_cells S2.out.out
  go_wp2_with (fail)
  change bodyPost _ _ _ _ _ (setPair w2 w.heap.size ⟨#[]⟩ ⟨#[]⟩)
  obtain ⟨w9, hw9⟩ : ∃ W, setPair w2 w.heap.size ⟨#[]⟩ ⟨#[]⟩ = W := ⟨_, rfl⟩
  obtain ⟨r9, m9⟩ := setPair_row ⟨#[]⟩ ⟨#[]⟩ S2.out.out
  rw [hw9] at r9 m9 ⊢
  obtain ⟨⟨d0, d1⟩, _⟩ := two_cells r9
  refine bodyPost_ret (v := .tuple #[.agg #[.string ⟨#[]⟩, .string ⟨#[]⟩], .int .i64 23]) ?_ rfl ?_
  · rw [results_cell_tmp rfl]
    go_simp
  · obtain ⟨z1, z2⟩ := S2.out.laid m9
    exact ⟨rfl, z2⟩
set_option maxHeartbeats 1000000 in
theorem pair_name24 (t : ByteArray) (b off cap R k : Nat) (w0 w : World) (E : Env w0 R b off cap t) (hB : Below w0.heap.size w0 w) (h : Rd w R (rv b off cap t) k) (hk : k ≤ t.size) (hn : qualF t k = .error 24) :
    Calls Tryz.prog 49 #[.pointer (some ⟨R, 0, none⟩)] w fun e w' => e = .returned (.tuple #[.agg #[.string ⟨#[]⟩, .string ⟨#[]⟩], .int .i64 24]) ∧ Moved R w w' := by
  have Q := Lib.hid (fun W g (y : Below w0.heap.size w0 W) => (qual_any t b off cap R k w0 W E y g hk).mono fun _ _ z => And.intro (qual_post_no hn z.1) z.2)
  have HE := Lib.hid (And.intro E (And.intro hB h))
  clear h E hB hn
  go_enter Tryz.func49, Tryz.ntmps49
  go_wp2_with (fail)
  obtain ⟨W1, hW1⟩ : ∃ W, w.alloc PAIR0 = W := ⟨_, rfl⟩
  rw [hW1]
  have S1 := Lib.hid (St.first HE.out.1 HE.out.2.1 HE.out.2.2 hW1)
  clear hW1
  refine (Q.out W1 S1.out.rd S1.out.below).mono ?_
  rintro e w2 ⟨⟨rfl, j, hj, hr2⟩, hm2⟩
  have S2 := Lib.hid (S1.out.moved hr2 hm2)
  clear hr2 hm2
  obtain ⟨⟨c0, c1⟩, ⟨f0, f1⟩⟩ := two_cells S2.out.out
  go_wp2_with (fail)
  change bodyPost _ _ _ _ _ (setPair w2 w.heap.size ⟨#[]⟩ ⟨#[]⟩)
  obtain ⟨w9, hw9⟩ : ∃ W, setPair w2 w.heap.size ⟨#[]⟩ ⟨#[]⟩ = W := ⟨_, rfl⟩
  obtain ⟨r9, m9⟩ := setPair_row ⟨#[]⟩ ⟨#[]⟩ S2.out.out
  rw [hw9] at r9 m9 ⊢
  obtain ⟨⟨d0, d1⟩, _⟩ := two_cells r9
  refine bodyPost_ret (v := .tuple #[.agg #[.string ⟨#[]⟩, .string ⟨#[]⟩], .int .i64 24]) ?_ rfl ?_
  · rw [results_cell_tmp rfl]
    go_simp
  · obtain ⟨z1, z2⟩ := S2.out.laid m9
    exact ⟨rfl, z2⟩
set_option maxHeartbeats 1000000 in
theorem pair_equals (t : ByteArray) (b off cap R k : Nat) (w0 w : World) (E : Env w0 R b off cap t) (hB : Below w0.heap.size w0 w) (h : Rd w R (rv b off cap t) k) (hk : k ≤ t.size) (n : ByteArray) (i : Nat) (hn : qualF t k = .ok (n, i)) (he : equalsF t i = none) :
    Calls Tryz.prog 49 #[.pointer (some ⟨R, 0, none⟩)] w fun e w' => e = .returned (.tuple #[.agg #[.string ⟨#[]⟩, .string ⟨#[]⟩], .int .i64 23]) ∧ Moved R w w' := by
  have hi := (name_ok (qual_ok hn).1).2.1
  have Q := Lib.hid (fun W g (y : Below w0.heap.size w0 W) => (qual_any t b off cap R k w0 W E y g hk).mono fun _ _ z => And.intro (qual_post hn z.1) z.2)
  have EQ := Lib.hid (fun W g (y : Txt W b off cap t) => equals_no t b off cap R i W g hi y E.ne he)
  have HE := Lib.hid (And.intro E (And.intro hB h))
  clear h E hB hn he
  go_enter Tryz.func49, Tryz.ntmps49
  go_wp2_with (fail)
  obtain ⟨W1, hW1⟩ : ∃ W, w.alloc PAIR0 = W := ⟨_, rfl⟩
  rw [hW1]
  have S1 := Lib.hid (St.first HE.out.1 HE.out.2.1 HE.out.2.2 hW1)
  clear hW1
  refine (Q.out W1 S1.out.rd S1.out.below).mono ?_
  rintro e w2 ⟨⟨rfl, hr2⟩, hm2⟩
  have S2 := Lib.hid (S1.out.moved hr2 hm2)
  clear hr2 hm2
  go_wp2_with (fail)
  refine (EQ.out w2 S2.out.rd S2.out.txt).mono ?_
  rintro e w3 ⟨rfl, ⟨j, hj, hr3⟩, hm3⟩
  have S3 := Lib.hid (S2.out.moved hr3 hm3)
  clear hr3 hm3
  obtain ⟨⟨c0, c1⟩, ⟨f0, f1⟩⟩ := two_cells S3.out.out
  go_wp2_with (fail)
  change bodyPost _ _ _ _ _ (setPair w3 w.heap.size ⟨#[]⟩ ⟨#[]⟩)
  obtain ⟨w9, hw9⟩ : ∃ W, setPair w3 w.heap.size ⟨#[]⟩ ⟨#[]⟩ = W := ⟨_, rfl⟩
  obtain ⟨r9, m9⟩ := setPair_row ⟨#[]⟩ ⟨#[]⟩ S3.out.out
  rw [hw9] at r9 m9 ⊢
  obtain ⟨⟨d0, d1⟩, _⟩ := two_cells r9
  refine bodyPost_ret (v := .tuple #[.agg #[.string ⟨#[]⟩, .string ⟨#[]⟩], .int .i64 23]) ?_ rfl ?_
  · rw [results_cell_tmp rfl]
    go_simp
  · obtain ⟨z1, z2⟩ := S3.out.laid m9
    exact ⟨rfl, z2⟩
set_option maxHeartbeats 1000000 in
theorem pair_quoted (t : ByteArray) (b off cap R k : Nat) (w0 w : World) (E : Env w0 R b off cap t) (hB : Below w0.heap.size w0 w) (h : Rd w R (rv b off cap t) k) (hk : k ≤ t.size) (n : ByteArray) (i j : Nat) (hn : qualF t k = .ok (n, i)) (he : equalsF t i = some j) (hq : quotedF t j = none) :
    Calls Tryz.prog 49 #[.pointer (some ⟨R, 0, none⟩)] w fun e w' => e = .returned (.tuple #[.agg #[.string ⟨#[]⟩, .string ⟨#[]⟩], .int .i64 23]) ∧ Moved R w w' := by
  have hi := (name_ok (qual_ok hn).1).2.1
  have hj := (equals_ok hi he).2
  have Q := Lib.hid (fun W g (y : Below w0.heap.size w0 W) => (qual_any t b off cap R k w0 W E y g hk).mono fun _ _ z => And.intro (qual_post hn z.1) z.2)
  have EQ := Lib.hid (fun W g (y : Txt W b off cap t) => equals_yes t b off cap R i j W g hi y E.ne he)
  have QU := Lib.hid (fun W g (y : Below w0.heap.size w0 W) => quoted_no t b off cap R j w0 W E y g hj hq)
  have HE := Lib.hid (And.intro E (And.intro hB h))
  clear h E hB hn he hq
  go_enter Tryz.func49, Tryz.ntmps49
  go_wp2_with (fail)
  obtain ⟨W1, hW1⟩ : ∃ W, w.alloc PAIR0 = W := ⟨_, rfl⟩
  rw [hW1]
  have S1 := Lib.hid (St.first HE.out.1 HE.out.2.1 HE.out.2.2 hW1)
  clear hW1
  refine (Q.out W1 S1.out.rd S1.out.below).mono ?_
  rintro e w2 ⟨⟨rfl, hr2⟩, hm2⟩
  have S2 := Lib.hid (S1.out.moved hr2 hm2)
  clear hr2 hm2
  go_wp2_with (fail)
  refine (EQ.out w2 S2.out.rd S2.out.txt).mono ?_
  rintro e w3 ⟨rfl, hr3, hm3⟩
  have S3 := Lib.hid (S2.out.moved hr3 hm3)
  clear hr3 hm3
  go_wp2_with (fail)
  refine (QU.out w3 S3.out.rd S3.out.below).mono ?_
  rintro e w4 ⟨⟨q, n4, c, rfl⟩, ⟨j4, hj4, hr4⟩, hm4⟩
  have S4 := Lib.hid (S3.out.moved hr4 hm4)
  clear hr4 hm4
  obtain ⟨⟨c0, c1⟩, ⟨f0, f1⟩⟩ := two_cells S4.out.out
  go_wp2_with (fail)
  change bodyPost _ _ _ _ _ (setPair w4 w.heap.size ⟨#[]⟩ ⟨#[]⟩)
  obtain ⟨w9, hw9⟩ : ∃ W, setPair w4 w.heap.size ⟨#[]⟩ ⟨#[]⟩ = W := ⟨_, rfl⟩
  obtain ⟨r9, m9⟩ := setPair_row ⟨#[]⟩ ⟨#[]⟩ S4.out.out
  rw [hw9] at r9 m9 ⊢
  obtain ⟨⟨d0, d1⟩, _⟩ := two_cells r9
  refine bodyPost_ret (v := .tuple #[.agg #[.string ⟨#[]⟩, .string ⟨#[]⟩], .int .i64 23]) ?_ rfl ?_
  · rw [results_cell_tmp rfl]
    go_simp
  · obtain ⟨z1, z2⟩ := S4.out.laid m9
    exact ⟨rfl, z2⟩
set_option maxHeartbeats 2000000 in
theorem pair_value (t : ByteArray) (b off cap R k : Nat) (w0 w : World) (E : Env w0 R b off cap t) (hB : Below w0.heap.size w0 w) (h : Rd w R (rv b off cap t) k) (hk : k ≤ t.size) (n raw : ByteArray) (i j m : Nat) (hn : qualF t k = .ok (n, i)) (he : equalsF t i = some j) (hq : quotedF t j = some (raw, m)) (hr : ¬ (readF (stepV raw) raw.size).2.2 = 0) :
    Calls Tryz.prog 49 #[.pointer (some ⟨R, 0, none⟩)] w fun e w' => e = .returned (.tuple #[.agg #[.string ⟨#[]⟩, .string ⟨#[]⟩], .int .i64 (readF (stepV raw) raw.size).2.2]) ∧ Moved R w w' := by
  have hi := (name_ok (qual_ok hn).1).2.1
  have hj := (equals_ok hi he).2
  have hz : raw.size ≤ 140737488354000 := by
    have h1 := (quoted_ok hj hq).2.2
    have h2 := E.txt.small
    omega
  have Q := Lib.hid (fun W g (y : Below w0.heap.size w0 W) => (qual_any t b off cap R k w0 W E y g hk).mono fun _ _ z => And.intro (qual_post hn z.1) z.2)
  have EQ := Lib.hid (fun W g (y : Txt W b off cap t) => equals_yes t b off cap R i j W g hi y E.ne he)
  have QU := Lib.hid (fun W g (y : Below w0.heap.size w0 W) => quoted_yes t b off cap R j raw m w0 W E y g hj hq)
  have V := fun p c W (y : Below w0.heap.size w0 W) (z : raw.size ≤ c) g => value_read p raw c W hz z (E.tabs.below y) (E.named.below y) g
  generalize readF (stepV raw) raw.size = x at *
  obtain ⟨x1, x2, x3⟩ := x
  simp only at V hr
  have hrb : (x3 == 0) = false := by rw [beq_eq_false_iff_ne]; exact hr
  have HV := Lib.hid V
  have HE := Lib.hid (And.intro E (And.intro hB h))
  clear h E hB hn he hq V hi hj hz
  go_enter Tryz.func49, Tryz.ntmps49
  go_wp2_with (fail)
  obtain ⟨W1, hW1⟩ : ∃ W, w.alloc PAIR0 = W := ⟨_, rfl⟩
  rw [hW1]
  have S1 := Lib.hid (St.first HE.out.1 HE.out.2.1 HE.out.2.2 hW1)
  clear hW1
  refine (Q.out W1 S1.out.rd S1.out.below).mono ?_
  rintro e w2 ⟨⟨rfl, hr2⟩, hm2⟩
  have S2 := Lib.hid (S1.out.moved hr2 hm2)
  clear hr2 hm2
  go_wp2_with (fail)
  refine (EQ.out w2 S2.out.rd S2.out.txt).mono ?_
  rintro e w3 ⟨rfl, hr3, hm3⟩
  have S3 := Lib.hid (S2.out.moved hr3 hm3)
  clear hr3 hm3
  go_wp2_with (fail)
  refine (QU.out w3 S3.out.rd S3.out.below).mono ?_
  rintro e w4 ⟨⟨q, c, rfl, q1, q2, q3⟩, hr4, hj4, hm4⟩
  have S4 := Lib.hid (S3.out.moved hr4 hm4)
  have HQ := Lib.hid (And.intro q1 q2)
  clear hr4 hm4 q1 q2 q3
  go_wp2_with (fail)
  refine (HV.out q c w4 S4.out.below HQ.out.2 HQ.out.1).mono ?_
  rintro e w5 ⟨rfl, hb5⟩
  have S5 := Lib.hid (S4.out.grew hb5)
  clear hb5
  obtain ⟨⟨c0, c1⟩, ⟨f0, f1⟩⟩ := two_cells S5.out.out
  go_wp2_with (fail)
  change bodyPost _ _ _ _ _ (setPair w5 w.heap.size ⟨#[]⟩ ⟨#[]⟩)
  obtain ⟨w9, hw9⟩ : ∃ W, setPair w5 w.heap.size ⟨#[]⟩ ⟨#[]⟩ = W := ⟨_, rfl⟩
  obtain ⟨r9, m9⟩ := setPair_row ⟨#[]⟩ ⟨#[]⟩ S5.out.out
  rw [hw9] at r9 m9 ⊢
  obtain ⟨⟨d0, d1⟩, _⟩ := two_cells r9
  refine bodyPost_ret (v := .tuple #[.agg #[.string ⟨#[]⟩, .string ⟨#[]⟩], .int .i64 x3]) ?_ rfl ?_
  · rw [results_cell_tmp rfl]
    go_simp
  · obtain ⟨z1, z2⟩ := S5.out.laid m9
    exact ⟨rfl, z2⟩
set_option maxHeartbeats 2000000 in
theorem pair_good (t : ByteArray) (b off cap R k : Nat) (w0 w : World) (E : Env w0 R b off cap t) (hB : Below w0.heap.size w0 w) (h : Rd w R (rv b off cap t) k) (hk : k ≤ t.size) (n raw : ByteArray) (i j m : Nat) (hn : qualF t k = .ok (n, i)) (he : equalsF t i = some j) (hq : quotedF t j = some (raw, m)) (hr : (readF (stepV raw) raw.size).2.2 = 0) :
    Calls Tryz.prog 49 #[.pointer (some ⟨R, 0, none⟩)] w fun e w' => e = .returned (.tuple #[.agg #[.string n, .string ⟨(readF (stepV raw) raw.size).1.toArray⟩], .int .i64 0]) ∧ Rd w' R (rv b off cap t) m ∧ Moved R w w' := by
  have hi := (name_ok (qual_ok hn).1).2.1
  have hj := (equals_ok hi he).2
  have hz : raw.size ≤ 140737488354000 := by
    have h1 := (quoted_ok hj hq).2.2
    have h2 := E.txt.small
    omega
  have Q := Lib.hid (fun W g (y : Below w0.heap.size w0 W) => (qual_any t b off cap R k w0 W E y g hk).mono fun _ _ z => And.intro (qual_post hn z.1) z.2)
  have EQ := Lib.hid (fun W g (y : Txt W b off cap t) => equals_yes t b off cap R i j W g hi y E.ne he)
  have QU := Lib.hid (fun W g (y : Below w0.heap.size w0 W) => quoted_yes t b off cap R j raw m w0 W E y g hj hq)
  have V := fun p c W (y : Below w0.heap.size w0 W) (z : raw.size ≤ c) g => value_read p raw c W hz z (E.tabs.below y) (E.named.below y) g
  generalize readF (stepV raw) raw.size = x at *
  obtain ⟨x1, x2, x3⟩ := x
  simp only at V hr
  subst hr
  have HV := Lib.hid V
  have HE := Lib.hid (And.intro E (And.intro hB h))
  clear h E hB hn he hq V hi hj hz
  go_enter Tryz.func49, Tryz.ntmps49
  go_wp2_with (fail)
  obtain ⟨W1, hW1⟩ : ∃ W, w.alloc PAIR0 = W := ⟨_, rfl⟩
  rw [hW1]
  have S1 := Lib.hid (St.first HE.out.1 HE.out.2.1 HE.out.2.2 hW1)
  clear hW1
  refine (Q.out W1 S1.out.rd S1.out.below).mono ?_
  rintro e w2 ⟨⟨rfl, hr2⟩, hm2⟩
  have S2 := Lib.hid (S1.out.moved hr2 hm2)
  clear hr2 hm2
  go_wp2_with (fail)
  refine (EQ.out w2 S2.out.rd S2.out.txt).mono ?_
  rintro e w3 ⟨rfl, hr3, hm3⟩
  have S3 := Lib.hid (S2.out.moved hr3 hm3)
  clear hr3 hm3
  go_wp2_with (fail)
  refine (QU.out w3 S3.out.rd S3.out.below).mono ?_
  rintro e w4 ⟨⟨q, c, rfl, q1, q2, q3⟩, hr4, hj4, hm4⟩
  have S4 := Lib.hid (S3.out.moved hr4 hm4)
  have HQ := Lib.hid (And.intro q1 q2)
  clear hr4 hm4 q1 q2 q3
  go_wp2_with (fail)
  refine (HV.out q c w4 S4.out.below HQ.out.2 HQ.out.1).mono ?_
  rintro e w5 ⟨rfl, hb5⟩
  have S5 := Lib.hid (S4.out.grew hb5)
  clear hb5
  obtain ⟨⟨c0, c1⟩, ⟨f0, f1⟩⟩ := two_cells S5.out.out
  go_wp2_with (fail)
  change bodyPost _ _ _ _ _ (setPair w5 w.heap.size n ⟨x1.toArray⟩)
  obtain ⟨w9, hw9⟩ : ∃ W, setPair w5 w.heap.size n ⟨x1.toArray⟩ = W := ⟨_, rfl⟩
  obtain ⟨r9, m9⟩ := setPair_row n ⟨x1.toArray⟩ S5.out.out
  rw [hw9] at r9 m9 ⊢
  obtain ⟨⟨d0, d1⟩, _⟩ := two_cells r9
  refine bodyPost_ret (v := .tuple #[.agg #[.string n, .string ⟨x1.toArray⟩], .int .i64 0]) ?_ rfl ?_
  · rw [results_cell_tmp rfl]
    go_simp
  · obtain ⟨z1, z2⟩ := S5.out.laid m9
    exact ⟨rfl, z1, z2⟩
theorem pair_any (t : ByteArray) (b off cap R k : Nat) (w0 w : World) (E : Env w0 R b off cap t) (hB : Below w0.heap.size w0 w) (h : Rd w R (rv b off cap t) k) (hk : k ≤ t.size) :
    Calls Tryz.prog 49 #[.pointer (some ⟨R, 0, none⟩)] w fun e w' => PairPost R b off cap t (pairF t k) e w' ∧ Moved R w w' := by
  unfold pairF
  cases hn : qualF t k with
  | error e0 =>
    rcases qual_err hn with rfl | rfl
    · exact (pair_name23 t b off cap R k w0 w E hB h hk hn).mono fun _ _ z => z
    · exact (pair_name24 t b off cap R k w0 w E hB h hk hn).mono fun _ _ z => z
  | ok p =>
    obtain ⟨n, i⟩ := p
    simp only
    cases he : equalsF t i with
    | none => exact (pair_equals t b off cap R k w0 w E hB h hk n i hn he).mono fun _ _ z => z
    | some j =>
      simp only
      cases hq : quotedF t j with
      | none => exact (pair_quoted t b off cap R k w0 w E hB h hk n i j hn he hq).mono fun _ _ z => z
      | some q =>
        obtain ⟨raw, m⟩ := q
        simp only
        by_cases hr : (readF (stepV raw) raw.size).2.2 = 0
        · rw [if_pos hr]
          exact (pair_good t b off cap R k w0 w E hB h hk n raw i j m hn he hq hr).mono fun _ _ z => ⟨⟨z.1, z.2.1⟩, z.2.2⟩
        · rw [if_neg hr]
          refine (pair_value t b off cap R k w0 w E hB h hk n raw i j m hn he hq hr).mono fun _ _ z => ⟨?_, z.2⟩
          show _ = _
          rw [z.1, Int.toNat_of_nonneg (readV_nn raw)]
end Go.Proofs.YteipiaefamfleaaGreatDoor
namespace Go.Proofs.YteipiaefamfleaaGreatDoor
open Go.RowKit

/-- Pairs as they lie in memory of the call's own. -/
def pairsV (l : List (ByteArray × ByteArray)) : List Value := l.flatMap fun p => [.string p.1, .string p.2]
def PairsAt (w : World) (B : Nat) (v : Value) (l : List (ByteArray × ByteArray)) : Prop := w.ownsRow B 44 2 v l.length (pairsV l)
theorem PairsAt.nil (w : World) (B : Nat) : PairsAt w B (.slice none 0 0) [] := World.ownsRow_nil w B _ 2
/-- What the reader's token, or a part of it, answers. -/
def TokPost (R b off cap : Nat) (t : ByteArray) (w : World) (r : Except Nat (Tok × Nat)) (e : Ending) (w' : World) : Prop := match r with
  | .ok (x, i) => ∃ pv, e = .returned (.tuple #[tokV x.kind 0 x.name pv x.text x.refs, .int .i64 0]) ∧ PairsAt w' w.heap.size pv x.pairs ∧ Rd w' R (rv b off cap t) i
  | .error e0 => e = .returned (.tuple #[tokV 0 0 ⟨#[]⟩ (.slice none 0 0) ⟨#[]⟩ 0, .int .i64 (e0 : Int)])
theorem TokPost.plain {R b off cap i kind refs : Nat} {t name text : ByteArray} {w w' : World} {e : Ending} (h : e = .returned (.tuple #[tokV kind 0 name (.slice none 0 0) text refs, .int .i64 0])) (hr : Rd w' R (rv b off cap t) i) : TokPost R b off cap t w (.ok (⟨kind, name, [], text, refs⟩, i)) e w' :=
  ⟨_, h, PairsAt.nil _ _, hr⟩

set_option maxHeartbeats 1000000 in
theorem closing_name23 (t : ByteArray) (b off cap R k : Nat) (w0 w : World) (E : Env w0 R b off cap t) (hB : Below w0.heap.size w0 w) (h : Rd w R (rv b off cap t) k) (hk : k ≤ t.size) (hn : qualF t k = .error 23) :
    Calls Tryz.prog 31 #[.pointer (some ⟨R, 0, none⟩)] w fun e w' => e = .returned (.tuple #[tokV 0 0 ⟨#[]⟩ (.slice none 0 0) ⟨#[]⟩ 0, .int .i64 23]) ∧ Moved R w w' := by
  have Q := Lib.hid (fun W g (y : Below w0.heap.size w0 W) => (qual_any t b off cap R k w0 W E y g hk).mono fun _ _ z => And.intro (qual_post_no hn z.1) z.2)
  have HE := Lib.hid (And.intro E (And.intro hB h))
  clear h E hB hn
  go_enter Tryz.func31, Tryz.ntmps31
  go_wp2_with (fail)
  obtain ⟨W1, hW1⟩ : ∃ W, w.alloc TOK0 = W := ⟨_, rfl⟩
  rw [hW1]
  have S1 := Lib.hid (St.first HE.out.1 HE.out.2.1 HE.out.2.2 hW1)
  clear hW1
  refine (Q.out W1 S1.out.rd S1.out.below).mono ?_
  rintro e w2 ⟨⟨rfl, j, hj, hr⟩, hm⟩
  have S2 := Lib.hid (S1.out.moved hr hm)
  clear hr hm
  obtain ⟨⟨c0, c1, c2, c3, c4, c5⟩, ⟨f0, f1, f2, f3, f4, f5⟩⟩ := six_cells S2.out.out
  go_wp2_with (fail)
  change bodyPost _ _ _ _ _ (setTok w2 w.heap.size 0 0 ⟨#[]⟩ (.slice none 0 0) ⟨#[]⟩ 0)
  obtain ⟨w9, hw9⟩ : ∃ W, setTok w2 w.heap.size 0 0 ⟨#[]⟩ (.slice none 0 0) ⟨#[]⟩ 0 = W := ⟨_, rfl⟩
  obtain ⟨r9, m9⟩ := setTok_row 0 0 ⟨#[]⟩ (.slice none 0 0) ⟨#[]⟩ 0 S2.out.out
  rw [hw9] at r9 m9 ⊢
  obtain ⟨⟨d0, d1, d2, d3, d4, d5⟩, _⟩ := six_cells r9
  refine bodyPost_ret (v := .tuple #[tokV 0 0 ⟨#[]⟩ (.slice none 0 0) ⟨#[]⟩ 0, .int .i64 23]) ?_ rfl ?_
  · rw [results_cell_tmp rfl]
    go_simp
  · obtain ⟨z1, z2⟩ := S2.out.laid m9
    exact ⟨rfl, z2⟩
set_option maxHeartbeats 1000000 in
theorem closing_name24 (t : ByteArray) (b off cap R k : Nat) (w0 w : World) (E : Env w0 R b off cap t) (hB : Below w0.heap.size w0 w) (h : Rd w R (rv b off cap t) k) (hk : k ≤ t.size) (hn : qualF t k = .error 24) :
    Calls Tryz.prog 31 #[.pointer (some ⟨R, 0, none⟩)] w fun e w' => e = .returned (.tuple #[tokV 0 0 ⟨#[]⟩ (.slice none 0 0) ⟨#[]⟩ 0, .int .i64 24]) ∧ Moved R w w' := by
  have Q := Lib.hid (fun W g (y : Below w0.heap.size w0 W) => (qual_any t b off cap R k w0 W E y g hk).mono fun _ _ z => And.intro (qual_post_no hn z.1) z.2)
  have HE := Lib.hid (And.intro E (And.intro hB h))
  clear h E hB hn
  go_enter Tryz.func31, Tryz.ntmps31
  go_wp2_with (fail)
  obtain ⟨W1, hW1⟩ : ∃ W, w.alloc TOK0 = W := ⟨_, rfl⟩
  rw [hW1]
  have S1 := Lib.hid (St.first HE.out.1 HE.out.2.1 HE.out.2.2 hW1)
  clear hW1
  refine (Q.out W1 S1.out.rd S1.out.below).mono ?_
  rintro e w2 ⟨⟨rfl, j, hj, hr⟩, hm⟩
  have S2 := Lib.hid (S1.out.moved hr hm)
  clear hr hm
  obtain ⟨⟨c0, c1, c2, c3, c4, c5⟩, ⟨f0, f1, f2, f3, f4, f5⟩⟩ := six_cells S2.out.out
  go_wp2_with (fail)
  change bodyPost _ _ _ _ _ (setTok w2 w.heap.size 0 0 ⟨#[]⟩ (.slice none 0 0) ⟨#[]⟩ 0)
  obtain ⟨w9, hw9⟩ : ∃ W, setTok w2 w.heap.size 0 0 ⟨#[]⟩ (.slice none 0 0) ⟨#[]⟩ 0 = W := ⟨_, rfl⟩
  obtain ⟨r9, m9⟩ := setTok_row 0 0 ⟨#[]⟩ (.slice none 0 0) ⟨#[]⟩ 0 S2.out.out
  rw [hw9] at r9 m9 ⊢
  obtain ⟨⟨d0, d1, d2, d3, d4, d5⟩, _⟩ := six_cells r9
  refine bodyPost_ret (v := .tuple #[tokV 0 0 ⟨#[]⟩ (.slice none 0 0) ⟨#[]⟩ 0, .int .i64 24]) ?_ rfl ?_
  · rw [results_cell_tmp rfl]
    go_simp
  · obtain ⟨z1, z2⟩ := S2.out.laid m9
    exact ⟨rfl, z2⟩
set_option maxHeartbeats 1000000 in
theorem closing_end (t : ByteArray) (b off cap R k : Nat) (w0 w : World) (E : Env w0 R b off cap t) (hB : Below w0.heap.size w0 w) (h : Rd w R (rv b off cap t) k) (hk : k ≤ t.size) (n : ByteArray) (i : Nat) (hn : qualF t k = .ok (n, i)) (hs : seesB t (whiteTo t i) [62] = false) :
    Calls Tryz.prog 31 #[.pointer (some ⟨R, 0, none⟩)] w fun e w' => e = .returned (.tuple #[tokV 0 0 ⟨#[]⟩ (.slice none 0 0) ⟨#[]⟩ 0, .int .i64 23]) ∧ Moved R w w' := by
  have hi := (name_ok (qual_ok hn).1).2.1
  have Q := Lib.hid (fun W g (y : Below w0.heap.size w0 W) => (qual_any t b off cap R k w0 W E y g hk).mono fun _ _ z => And.intro (qual_post hn z.1) z.2)
  have BL := Lib.hid (fun W g (y : Txt W b off cap t) => blanks_any t b off cap R i W g hi y E.ne)
  have hw := white_le hi
  have TK := Lib.hid (fun W g (y : Txt W b off cap t) => take_no t ⟨#[62]⟩ b off cap R (whiteTo t i) W g hw y hs)
  have HE := Lib.hid (And.intro E (And.intro hB h))
  clear h E hB hn hs
  go_enter Tryz.func31, Tryz.ntmps31
  go_wp2_with (fail)
  obtain ⟨W1, hW1⟩ : ∃ W, w.alloc TOK0 = W := ⟨_, rfl⟩
  rw [hW1]
  have S1 := Lib.hid (St.first HE.out.1 HE.out.2.1 HE.out.2.2 hW1)
  clear hW1
  refine (Q.out W1 S1.out.rd S1.out.below).mono ?_
  rintro e w2 ⟨⟨rfl, hr⟩, hm⟩
  have S2 := Lib.hid (S1.out.moved hr hm)
  clear hr hm
  go_wp2_with (fail)
  refine (BL.out w2 S2.out.rd S2.out.txt).mono ?_
  rintro e w3 ⟨rfl, hr, hm⟩
  have S3 := Lib.hid (S2.out.moved hr hm)
  clear hr hm
  go_wp2_with (fail)
  refine (TK.out w3 S3.out.rd S3.out.txt).mono ?_
  rintro e w4 ⟨rfl, hr, hm⟩
  have S4 := Lib.hid (S3.out.moved hr hm)
  clear hr hm
  obtain ⟨⟨c0, c1, c2, c3, c4, c5⟩, ⟨f0, f1, f2, f3, f4, f5⟩⟩ := six_cells S4.out.out
  go_wp2_with (fail)
  change bodyPost _ _ _ _ _ (setTok w4 w.heap.size 0 0 ⟨#[]⟩ (.slice none 0 0) ⟨#[]⟩ 0)
  obtain ⟨w9, hw9⟩ : ∃ W, setTok w4 w.heap.size 0 0 ⟨#[]⟩ (.slice none 0 0) ⟨#[]⟩ 0 = W := ⟨_, rfl⟩
  obtain ⟨r9, m9⟩ := setTok_row 0 0 ⟨#[]⟩ (.slice none 0 0) ⟨#[]⟩ 0 S4.out.out
  rw [hw9] at r9 m9 ⊢
  obtain ⟨⟨d0, d1, d2, d3, d4, d5⟩, _⟩ := six_cells r9
  refine bodyPost_ret (v := .tuple #[tokV 0 0 ⟨#[]⟩ (.slice none 0 0) ⟨#[]⟩ 0, .int .i64 23]) ?_ rfl ?_
  · rw [results_cell_tmp rfl]
    go_simp
  · obtain ⟨z1, z2⟩ := S4.out.laid m9
    exact ⟨rfl, z2⟩
set_option maxHeartbeats 1000000 in
theorem closing_good (t : ByteArray) (b off cap R k : Nat) (w0 w : World) (E : Env w0 R b off cap t) (hB : Below w0.heap.size w0 w) (h : Rd w R (rv b off cap t) k) (hk : k ≤ t.size) (n : ByteArray) (i : Nat) (hn : qualF t k = .ok (n, i)) (hs : seesB t (whiteTo t i) [62] = true) :
    Calls Tryz.prog 31 #[.pointer (some ⟨R, 0, none⟩)] w fun e w' => e = .returned (.tuple #[tokV 3 0 n (.slice none 0 0) ⟨#[]⟩ 0, .int .i64 0]) ∧ Rd w' R (rv b off cap t) (whiteTo t i + 1) ∧ Moved R w w' := by
  have hi := (name_ok (qual_ok hn).1).2.1
  have Q := Lib.hid (fun W g (y : Below w0.heap.size w0 W) => (qual_any t b off cap R k w0 W E y g hk).mono fun _ _ z => And.intro (qual_post hn z.1) z.2)
  have BL := Lib.hid (fun W g (y : Txt W b off cap t) => blanks_any t b off cap R i W g hi y E.ne)
  have hw := white_le hi
  have TK := Lib.hid (fun W g (y : Txt W b off cap t) => take_yes t ⟨#[62]⟩ b off cap R (whiteTo t i) W g hw y (by decide) hs)
  have HE := Lib.hid (And.intro E (And.intro hB h))
  clear h E hB hn hs
  go_enter Tryz.func31, Tryz.ntmps31
  go_wp2_with (fail)
  obtain ⟨W1, hW1⟩ : ∃ W, w.alloc TOK0 = W := ⟨_, rfl⟩
  rw [hW1]
  have S1 := Lib.hid (St.first HE.out.1 HE.out.2.1 HE.out.2.2 hW1)
  clear hW1
  refine (Q.out W1 S1.out.rd S1.out.below).mono ?_
  rintro e w2 ⟨⟨rfl, hr⟩, hm⟩
  have S2 := Lib.hid (S1.out.moved hr hm)
  clear hr hm
  go_wp2_with (fail)
  refine (BL.out w2 S2.out.rd S2.out.txt).mono ?_
  rintro e w3 ⟨rfl, hr, hm⟩
  have S3 := Lib.hid (S2.out.moved hr hm)
  clear hr hm
  go_wp2_with (fail)
  refine (TK.out w3 S3.out.rd S3.out.txt).mono ?_
  rintro e w4 ⟨rfl, hr, hm⟩
  have S4 := Lib.hid (S3.out.moved hr hm)
  clear hr hm
  obtain ⟨⟨c0, c1, c2, c3, c4, c5⟩, ⟨f0, f1, f2, f3, f4, f5⟩⟩ := six_cells S4.out.out
  go_wp2_with (fail)
  change bodyPost _ _ _ _ _ (setTok w4 w.heap.size 3 0 n (.slice none 0 0) ⟨#[]⟩ 0)
  obtain ⟨w9, hw9⟩ : ∃ W, setTok w4 w.heap.size 3 0 n (.slice none 0 0) ⟨#[]⟩ 0 = W := ⟨_, rfl⟩
  obtain ⟨r9, m9⟩ := setTok_row 3 0 n (.slice none 0 0) ⟨#[]⟩ 0 S4.out.out
  rw [hw9] at r9 m9 ⊢
  obtain ⟨⟨d0, d1, d2, d3, d4, d5⟩, _⟩ := six_cells r9
  refine bodyPost_ret (v := .tuple #[tokV 3 0 n (.slice none 0 0) ⟨#[]⟩ 0, .int .i64 0]) ?_ rfl ?_
  · rw [results_cell_tmp rfl]
    go_simp
  · obtain ⟨z1, z2⟩ := S4.out.laid m9
    exact ⟨rfl, z1, z2⟩
theorem closing_any (t : ByteArray) (b off cap R k : Nat) (w0 w : World) (E : Env w0 R b off cap t) (hB : Below w0.heap.size w0 w) (h : Rd w R (rv b off cap t) k) (hk : k ≤ t.size) :
    Calls Tryz.prog 31 #[.pointer (some ⟨R, 0, none⟩)] w fun e w' => TokPost R b off cap t w (closingF t k) e w' ∧ Moved R w w' := by
  unfold closingF
  cases hn : qualF t k with
  | error e0 =>
    rcases qual_err hn with rfl | rfl
    · exact (closing_name23 t b off cap R k w0 w E hB h hk hn).mono fun _ _ z => z
    · exact (closing_name24 t b off cap R k w0 w E hB h hk hn).mono fun _ _ z => z
  | ok p =>
    obtain ⟨n, i⟩ := p
    simp only
    cases hs : seesB t (whiteTo t i) [62]
    · exact (closing_end t b off cap R k w0 w E hB h hk n i hn hs).mono fun _ _ z => z
    · exact (closing_good t b off cap R k w0 w E hB h hk n i hn hs).mono fun _ _ z => ⟨TokPost.plain z.1 z.2.1, z.2.2⟩
set_option maxHeartbeats 1000000 in
theorem comment_none (t : ByteArray) (b off cap R k : Nat) (w0 w : World) (E : Env w0 R b off cap t) (hB : Below w0.heap.size w0 w) (h : Rd w R (rv b off cap t) k) (hk : k ≤ t.size) (hf : findF t k [45, 45] = none) :
    Calls Tryz.prog 28 #[.pointer (some ⟨R, 0, none⟩)] w fun e w' => e = .returned (.tuple #[tokV 0 0 ⟨#[]⟩ (.slice none 0 0) ⟨#[]⟩ 0, .int .i64 23]) ∧ Moved R w w' := by
  have U := Lib.hid (fun W g (y : Below w0.heap.size w0 W) => upTo_no t ⟨#[45, 45]⟩ b off cap R k w0 W E y g hk (by decide) (by decide) hf)
  have HE := Lib.hid (And.intro E (And.intro hB h))
  clear h E hB hf
  go_enter Tryz.func28, Tryz.ntmps28
  go_wp2_with (fail)
  obtain ⟨W1, hW1⟩ : ∃ W, w.alloc TOK0 = W := ⟨_, rfl⟩
  rw [hW1]
  have S1 := Lib.hid (St.first HE.out.1 HE.out.2.1 HE.out.2.2 hW1)
  clear hW1
  refine (U.out W1 S1.out.rd S1.out.below).mono ?_
  rintro e w2 ⟨⟨q, n, c, rfl⟩, hr, hm⟩
  have S2 := Lib.hid (S1.out.moved hr hm)
  clear hr hm
  obtain ⟨⟨c0, c1, c2, c3, c4, c5⟩, ⟨f0, f1, f2, f3, f4, f5⟩⟩ := six_cells S2.out.out
  go_wp2_with (fail)
  change bodyPost _ _ _ _ _ (setTok w2 w.heap.size 0 0 ⟨#[]⟩ (.slice none 0 0) ⟨#[]⟩ 0)
  obtain ⟨w9, hw9⟩ : ∃ W, setTok w2 w.heap.size 0 0 ⟨#[]⟩ (.slice none 0 0) ⟨#[]⟩ 0 = W := ⟨_, rfl⟩
  obtain ⟨r9, m9⟩ := setTok_row 0 0 ⟨#[]⟩ (.slice none 0 0) ⟨#[]⟩ 0 S2.out.out
  rw [hw9] at r9 m9 ⊢
  obtain ⟨⟨d0, d1, d2, d3, d4, d5⟩, _⟩ := six_cells r9
  refine bodyPost_ret (v := .tuple #[tokV 0 0 ⟨#[]⟩ (.slice none 0 0) ⟨#[]⟩ 0, .int .i64 23]) ?_ rfl ?_
  · rw [results_cell_tmp rfl]
    go_simp
  · obtain ⟨z1, z2⟩ := S2.out.laid m9
    exact ⟨rfl, z2⟩
set_option maxHeartbeats 1000000 in
theorem comment_open (t : ByteArray) (b off cap R k : Nat) (w0 w : World) (E : Env w0 R b off cap t) (hB : Below w0.heap.size w0 w) (h : Rd w R (rv b off cap t) k) (hk : k ≤ t.size) (i : Nat) (hf : findF t k [45, 45] = some i) (hs : seesB t (i + 2) [62] = false) :
    Calls Tryz.prog 28 #[.pointer (some ⟨R, 0, none⟩)] w fun e w' => e = .returned (.tuple #[tokV 0 0 ⟨#[]⟩ (.slice none 0 0) ⟨#[]⟩ 0, .int .i64 23]) ∧ Moved R w w' := by
  have U := Lib.hid (fun W g (y : Below w0.heap.size w0 W) => upTo_yes t ⟨#[45, 45]⟩ b off cap R k i w0 W E y g hk (by decide) (by decide) hf)
  have hi2 : i + 2 ≤ t.size := (find_some hk hf).2.2
  have TK := Lib.hid (fun W g (y : Txt W b off cap t) => take_no t ⟨#[62]⟩ b off cap R (i + 2) W g hi2 y hs)
  have HE := Lib.hid (And.intro E (And.intro hB h))
  clear h E hB hf hs
  go_enter Tryz.func28, Tryz.ntmps28
  go_wp2_with (fail)
  obtain ⟨W1, hW1⟩ : ∃ W, w.alloc TOK0 = W := ⟨_, rfl⟩
  rw [hW1]
  have S1 := Lib.hid (St.first HE.out.1 HE.out.2.1 HE.out.2.2 hW1)
  clear hW1
  refine (U.out W1 S1.out.rd S1.out.below).mono ?_
  rintro e w2 ⟨⟨q, c, rfl, q1, q2, q3⟩, hr, hm⟩
  have S2 := Lib.hid (S1.out.moved hr hm)
  clear hr hm
  clear q1 q2 q3
  go_wp2_with (fail)
  refine (TK.out w2 S2.out.rd S2.out.txt).mono ?_
  rintro e w3 ⟨rfl, hr, hm⟩
  have S3 := Lib.hid (S2.out.moved hr hm)
  clear hr hm
  obtain ⟨⟨c0, c1, c2, c3, c4, c5⟩, ⟨f0, f1, f2, f3, f4, f5⟩⟩ := six_cells S3.out.out
  go_wp2_with (fail)
  change bodyPost _ _ _ _ _ (setTok w3 w.heap.size 0 0 ⟨#[]⟩ (.slice none 0 0) ⟨#[]⟩ 0)
  obtain ⟨w9, hw9⟩ : ∃ W, setTok w3 w.heap.size 0 0 ⟨#[]⟩ (.slice none 0 0) ⟨#[]⟩ 0 = W := ⟨_, rfl⟩
  obtain ⟨r9, m9⟩ := setTok_row 0 0 ⟨#[]⟩ (.slice none 0 0) ⟨#[]⟩ 0 S3.out.out
  rw [hw9] at r9 m9 ⊢
  obtain ⟨⟨d0, d1, d2, d3, d4, d5⟩, _⟩ := six_cells r9
  refine bodyPost_ret (v := .tuple #[tokV 0 0 ⟨#[]⟩ (.slice none 0 0) ⟨#[]⟩ 0, .int .i64 23]) ?_ rfl ?_
  · rw [results_cell_tmp rfl]
    go_simp
  · obtain ⟨z1, z2⟩ := S3.out.laid m9
    exact ⟨rfl, z2⟩
theorem holds_moved {O : Obj} {w0 w W W' : World} {R b off cap j : Nat} {t s : ByteArray} {q : Option Addr} (S : St O w0 w W R b off cap t j) (h : HoldsB W q s) (hm : Moved R W W') : HoldsB W' q s := by
  intro h0
  obtain ⟨b', o', e, hc⟩ := h h0
  have hne : b' ≠ R := by
    rintro rfl
    have h1 := hc 0 h0
    rw [Nat.add_zero, cell_of_row _ _ _ _ _ _ S.rd] at h1
    rcases o' with _ | _ | o' <;> simp at h1
  refine ⟨b', o', e, fun j hj => ?_⟩
  have h1 := hc j hj
  rw [World.cell?_of_block (hm.block b' (World.block_lt_of_cell? _ _ h1) (fun e => by injection e with e; exact hne e))]
  exact h1
set_option maxHeartbeats 1000000 in
theorem comment_good (t : ByteArray) (b off cap R k : Nat) (w0 w : World) (E : Env w0 R b off cap t) (hB : Below w0.heap.size w0 w) (h : Rd w R (rv b off cap t) k) (hk : k ≤ t.size) (i : Nat) (hf : findF t k [45, 45] = some i) (hs : seesB t (i + 2) [62] = true) :
    Calls Tryz.prog 28 #[.pointer (some ⟨R, 0, none⟩)] w fun e w' => e = .returned (.tuple #[tokV 7 0 ⟨#[]⟩ (.slice none 0 0) (t.extract k i) 0, .int .i64 0]) ∧ Rd w' R (rv b off cap t) (i + 3) ∧ Moved R w w' := by
  have hsz : (t.extract k i).size = i - k := by
    obtain ⟨_, _, g3⟩ := find_some hk hf
    simp only [List.length_cons, List.length_nil] at g3
    simp
    omega
  have U := Lib.hid (fun W g (y : Below w0.heap.size w0 W) => upTo_yes t ⟨#[45, 45]⟩ b off cap R k i w0 W E y g hk (by decide) (by decide) hf)
  have hi2 : i + 2 ≤ t.size := (find_some hk hf).2.2
  have TK := Lib.hid (fun W g (y : Txt W b off cap t) => take_yes t ⟨#[62]⟩ b off cap R (i + 2) W g hi2 y (by decide) hs)
  have HE := Lib.hid (And.intro E (And.intro hB h))
  clear h E hB hf hs
  go_enter Tryz.func28, Tryz.ntmps28
  go_wp2_with (fail)
  obtain ⟨W1, hW1⟩ : ∃ W, w.alloc TOK0 = W := ⟨_, rfl⟩
  rw [hW1]
  have S1 := Lib.hid (St.first HE.out.1 HE.out.2.1 HE.out.2.2 hW1)
  clear hW1
  refine (U.out W1 S1.out.rd S1.out.below).mono ?_
  rintro e w2 ⟨⟨q, c, rfl, q1, q2, q3⟩, hr, hm⟩
  have S2 := Lib.hid (S1.out.moved hr hm)
  clear hr hm
  have hcv := fun W (y : HoldsB W q (t.extract k i)) => conv_str y c (fun e => absurd e q3)
  rw [hsz] at hcv
  have HC := Lib.hid hcv
  have Q1 := Lib.hid q1
  clear hcv q1 q2 q3
  go_wp2_with (fail)
  refine (TK.out w2 S2.out.rd S2.out.txt).mono ?_
  rintro e w3 ⟨rfl, hr, hm⟩
  have S3 := Lib.hid (S2.out.moved hr hm)
  have hcv := HC.out w3 (holds_moved S2.out Q1.out hm)
  clear hr hm
  obtain ⟨⟨c0, c1, c2, c3, c4, c5⟩, ⟨f0, f1, f2, f3, f4, f5⟩⟩ := six_cells S3.out.out
  go_wp2_with (fail)
  change bodyPost _ _ _ _ _ (setTok w3 w.heap.size 7 0 ⟨#[]⟩ (.slice none 0 0) (t.extract k i) 0)
  obtain ⟨w9, hw9⟩ : ∃ W, setTok w3 w.heap.size 7 0 ⟨#[]⟩ (.slice none 0 0) (t.extract k i) 0 = W := ⟨_, rfl⟩
  obtain ⟨r9, m9⟩ := setTok_row 7 0 ⟨#[]⟩ (.slice none 0 0) (t.extract k i) 0 S3.out.out
  rw [hw9] at r9 m9 ⊢
  obtain ⟨⟨d0, d1, d2, d3, d4, d5⟩, _⟩ := six_cells r9
  refine bodyPost_ret (v := .tuple #[tokV 7 0 ⟨#[]⟩ (.slice none 0 0) (t.extract k i) 0, .int .i64 0]) ?_ rfl ?_
  · rw [results_cell_tmp rfl]
    go_simp
  · obtain ⟨z1, z2⟩ := S3.out.laid m9
    exact ⟨rfl, z1, z2⟩
theorem comment_any (t : ByteArray) (b off cap R k : Nat) (w0 w : World) (E : Env w0 R b off cap t) (hB : Below w0.heap.size w0 w) (h : Rd w R (rv b off cap t) k) (hk : k ≤ t.size) :
    Calls Tryz.prog 28 #[.pointer (some ⟨R, 0, none⟩)] w fun e w' => TokPost R b off cap t w (commentF t k) e w' ∧ Moved R w w' := by
  unfold commentF
  cases hf : findF t k [45, 45] with
  | none => exact (comment_none t b off cap R k w0 w E hB h hk hf).mono fun _ _ z => z
  | some i =>
    simp only
    cases hs : seesB t (i + 2) [62]
    · exact (comment_open t b off cap R k w0 w E hB h hk i hf hs).mono fun _ _ z => z
    · exact (comment_good t b off cap R k w0 w E hB h hk i hf hs).mono fun _ _ z => ⟨TokPost.plain z.1 z.2.1, z.2.2⟩
set_option maxHeartbeats 1000000 in
theorem data_no (t : ByteArray) (b off cap R k : Nat) (w0 w : World) (E : Env w0 R b off cap t) (hB : Below w0.heap.size w0 w) (h : Rd w R (rv b off cap t) k) (hk : k ≤ t.size) (hf : findF t k [93, 93, 62] = none) :
    Calls Tryz.prog 29 #[.pointer (some ⟨R, 0, none⟩)] w fun e w' => e = .returned (.tuple #[tokV 0 0 ⟨#[]⟩ (.slice none 0 0) ⟨#[]⟩ 0, .int .i64 23]) ∧ Moved R w w' := by
  have U := Lib.hid (fun W g (y : Below w0.heap.size w0 W) => upTo_no t ⟨#[93, 93, 62]⟩ b off cap R k w0 W E y g hk (by decide) (by decide) hf)
  have HE := Lib.hid (And.intro E (And.intro hB h))
  clear h E hB hf
  go_enter Tryz.func29, Tryz.ntmps29
  go_wp2_with (fail)
  obtain ⟨W1, hW1⟩ : ∃ W, w.alloc TOK0 = W := ⟨_, rfl⟩
  rw [hW1]
  have S1 := Lib.hid (St.first HE.out.1 HE.out.2.1 HE.out.2.2 hW1)
  clear hW1
  refine (U.out W1 S1.out.rd S1.out.below).mono ?_
  rintro e w2 ⟨⟨q, n, c, rfl⟩, hr, hm⟩
  have S2 := Lib.hid (S1.out.moved hr hm)
  clear hr hm
  obtain ⟨⟨c0, c1, c2, c3, c4, c5⟩, ⟨f0, f1, f2, f3, f4, f5⟩⟩ := six_cells S2.out.out
  go_wp2_with (fail)
  change bodyPost _ _ _ _ _ (setTok w2 w.heap.size 0 0 ⟨#[]⟩ (.slice none 0 0) ⟨#[]⟩ 0)
  obtain ⟨w9, hw9⟩ : ∃ W, setTok w2 w.heap.size 0 0 ⟨#[]⟩ (.slice none 0 0) ⟨#[]⟩ 0 = W := ⟨_, rfl⟩
  obtain ⟨r9, m9⟩ := setTok_row 0 0 ⟨#[]⟩ (.slice none 0 0) ⟨#[]⟩ 0 S2.out.out
  rw [hw9] at r9 m9 ⊢
  obtain ⟨⟨d0, d1, d2, d3, d4, d5⟩, _⟩ := six_cells r9
  refine bodyPost_ret (v := .tuple #[tokV 0 0 ⟨#[]⟩ (.slice none 0 0) ⟨#[]⟩ 0, .int .i64 23]) ?_ rfl ?_
  · rw [results_cell_tmp rfl]
    go_simp
  · obtain ⟨z1, z2⟩ := S2.out.laid m9
    exact ⟨rfl, z2⟩
set_option maxHeartbeats 1000000 in
theorem data_yes (t : ByteArray) (b off cap R k : Nat) (w0 w : World) (E : Env w0 R b off cap t) (hB : Below w0.heap.size w0 w) (h : Rd w R (rv b off cap t) k) (hk : k ≤ t.size) (i : Nat) (hf : findF t k [93, 93, 62] = some i) :
    Calls Tryz.prog 29 #[.pointer (some ⟨R, 0, none⟩)] w fun e w' => e = .returned (.tuple #[tokV 6 0 ⟨#[]⟩ (.slice none 0 0) (t.extract k i) 0, .int .i64 0]) ∧ Rd w' R (rv b off cap t) (i + 3) ∧ Moved R w w' := by
  have hsz : (t.extract k i).size = i - k := by
    obtain ⟨_, _, g3⟩ := find_some hk hf
    simp only [List.length_cons, List.length_nil] at g3
    simp
    omega
  have U := Lib.hid (fun W g (y : Below w0.heap.size w0 W) => upTo_yes t ⟨#[93, 93, 62]⟩ b off cap R k i w0 W E y g hk (by decide) (by decide) hf)
  have HE := Lib.hid (And.intro E (And.intro hB h))
  clear h E hB hf
  go_enter Tryz.func29, Tryz.ntmps29
  go_wp2_with (fail)
  obtain ⟨W1, hW1⟩ : ∃ W, w.alloc TOK0 = W := ⟨_, rfl⟩
  rw [hW1]
  have S1 := Lib.hid (St.first HE.out.1 HE.out.2.1 HE.out.2.2 hW1)
  clear hW1
  refine (U.out W1 S1.out.rd S1.out.below).mono ?_
  rintro e w2 ⟨⟨q, c, rfl, q1, q2, q3⟩, hr, hm⟩
  have S2 := Lib.hid (S1.out.moved hr hm)
  clear hr hm
  have hcv := conv_str q1 c (fun e => absurd e q3)
  rw [hsz] at hcv
  clear q1 q2 q3
  obtain ⟨⟨c0, c1, c2, c3, c4, c5⟩, ⟨f0, f1, f2, f3, f4, f5⟩⟩ := six_cells S2.out.out
  go_wp2_with (fail)
  change bodyPost _ _ _ _ _ (setTok w2 w.heap.size 6 0 ⟨#[]⟩ (.slice none 0 0) (t.extract k i) 0)
  obtain ⟨w9, hw9⟩ : ∃ W, setTok w2 w.heap.size 6 0 ⟨#[]⟩ (.slice none 0 0) (t.extract k i) 0 = W := ⟨_, rfl⟩
  obtain ⟨r9, m9⟩ := setTok_row 6 0 ⟨#[]⟩ (.slice none 0 0) (t.extract k i) 0 S2.out.out
  rw [hw9] at r9 m9 ⊢
  obtain ⟨⟨d0, d1, d2, d3, d4, d5⟩, _⟩ := six_cells r9
  refine bodyPost_ret (v := .tuple #[tokV 6 0 ⟨#[]⟩ (.slice none 0 0) (t.extract k i) 0, .int .i64 0]) ?_ rfl ?_
  · rw [results_cell_tmp rfl]
    go_simp
  · obtain ⟨z1, z2⟩ := S2.out.laid m9
    exact ⟨rfl, z1, z2⟩
theorem data_any (t : ByteArray) (b off cap R k : Nat) (w0 w : World) (E : Env w0 R b off cap t) (hB : Below w0.heap.size w0 w) (h : Rd w R (rv b off cap t) k) (hk : k ≤ t.size) :
    Calls Tryz.prog 29 #[.pointer (some ⟨R, 0, none⟩)] w fun e w' => TokPost R b off cap t w (dataF t k) e w' ∧ Moved R w w' := by
  unfold dataF
  cases hf : findF t k [93, 93, 62] with
  | none => exact (data_no t b off cap R k w0 w E hB h hk hf).mono fun _ _ z => z
  | some i => exact (data_yes t b off cap R k w0 w E hB h hk i hf).mono fun _ _ z => ⟨TokPost.plain z.1 z.2.1, z.2.2⟩
end Go.Proofs.YteipiaefamfleaaGreatDoor
