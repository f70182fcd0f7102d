/- Proved here: the reader's declaration: what it reads, where it leaves the reader. -/
import Derived.Test.YteipiaefamfleaaGreatDoorM10
import Derived.Test.YteipiaefamfleaaGreatDoorM14
import Derived.Maps.AppendAt
import Derived.Deep.CutRange
namespace Go.Proofs.YteipiaefamfleaaGreatDoor
open Go.RowKit

theorem old_row2 {w : World} {P : Nat} {o : Obj} (x : Obj) (h : w.heap[P]? = some o) : (w.alloc x).heap[P]? = some o :=
  (heap_alloc_old _ _ (Array.getElem?_eq_some_iff.1 h).1).trans h
theorem append_pair_at {w : World} {B g : Nat} {v : Value} {l : List (ByteArray × ByteArray)} {p : ByteArray × ByteArray} (h : PairsAt w B v l) (hg : w.heap[g]? = some (.cells #[.string p.1, .string p.2] 44)) (hB : B ≤ w.heap.size) (hl : l.length ≤ 4194304) :
    ∃ v' w', (∀ ty, (Builtin.append_ #[29, 29] ty #[v, .slice (some ⟨g, 0, none⟩) 1 1]).run Tryz.prog w = .ok v' w') ∧ PairsAt w' B v' (l ++ [p]) ∧ w.grownBy w' v.ownBlock ∧ (v'.ownBlock = v.ownBlock ∨ v'.ownBlock = some w.heap.size) := by
  obtain ⟨i0, hi, hz0, hz1, hz2⟩ := info_parts infoPair
  have hcells : ∀ j u, ([.string p.1, .string p.2] : List Value)[j]? = some u → w.cell? ((⟨g, 0, none⟩ : Addr).add j) = some u := by
    intro j u hu
    have ha : (⟨g, 0, none⟩ : Addr).add j = ⟨g, j, none⟩ := by unfold Addr.add; split <;> simp_all
    rw [ha, cell_of_row _ _ _ _ _ _ hg, ← hu]
    simp
  have hone : ∀ u ∈ ([.string p.1, .string p.2] : List Value), u.oneCell' = true := by
    intro u hu
    rcases List.mem_cons.1 hu with rfl | hu
    · rfl
    · obtain rfl := List.mem_singleton.1 hu
      rfl
  obtain ⟨v', w', hrun, hown, hgrow, _, hat⟩ := run_append_own_at (P := Tryz.prog) (w := w) B 29 29 44 i0 (.agg #[.string ⟨#[]⟩, .string ⟨#[]⟩]) 2 32 Tryz.underlying29 hi hz0 hz1 hz2 rfl (by decide) v l.length (pairsV l) h ⟨g, 0, none⟩ 1 1 [.string p.1, .string p.2] rfl hcells hone (by unfold maxLen; omega) (by omega) hB
  refine ⟨v', w', fun ty => ?_, ?_, hgrow, hat⟩
  · rw [← hrun]
    rfl
  · unfold PairsAt
    rw [pairs_snoc, List.length_append]
    exact hown
/-- A token in the making: the reader at j, the token so far, its pairs so far. -/
structure Bld (w0 w W : World) (R b off cap : Nat) (t n : ByteArray) (kind : Int) (j G : Nat) (pv : Value) (ps : List (ByteArray × ByteArray)) : Prop where
  st : St TOK0 w0 w W R b off cap t j
  row : W.heap[G]? = some (.cells #[.int .i64 kind, .int .i64 0, .string n, pv, .string ⟨#[]⟩, .int .i64 0] 31)
  gl : w.heap.size < G
  prs : PairsAt W (w.heap.size + 1) pv ps
theorem Bld.after {w0 w W W' : World} {R b off cap j G : Nat} {t n : ByteArray} {kind : Int} {pv : Value} {ps : List (ByteArray × ByteArray)} {row : Option Nat} (o : Bld w0 w W R b off cap t n kind j G pv ps) (g : W.grownBy W' row) (hr : ∀ k, row = some k → w.heap.size < k) (h1 : some G ≠ row) (h3 : pv.ownBlock = none ∨ pv.ownBlock ≠ row) : Bld w0 w W' R b off cap t n kind j G pv ps := by
  refine ⟨o.st.after g hr, ?_, o.gl, World.ownsRow.kept o.prs g h3⟩
  rw [g.block G (Array.getElem?_eq_some_iff.1 o.row).1 h1]
  exact o.row
theorem Bld.moved {w0 w W W' : World} {R b off cap j j' G : Nat} {t n : ByteArray} {kind : Int} {pv : Value} {ps : List (ByteArray × ByteArray)} (o : Bld w0 w W R b off cap t n kind j G pv ps) (hr : Rd W' R (rv b off cap t) j') (hm : Moved R W W') : Bld w0 w W' R b off cap t n kind j' G pv ps := by
  have hR := o.st.lt
  refine ⟨o.st.moved hr hm, ?_, o.gl, World.ownsRow.kept o.prs hm (.inr (o.prs.ne o.st.rd (fun cs e => by injection e with _ e2 _; cases e2)))⟩
  rw [hm.block G (Array.getElem?_eq_some_iff.1 o.row).1 (fun e => by injection e with e; have := o.gl; omega)]
  exact o.row
theorem Bld.alloc {w0 w W : World} {R b off cap j G : Nat} {t n : ByteArray} {kind : Int} {pv : Value} {ps : List (ByteArray × ByteArray)} (o : Bld w0 w W R b off cap t n kind j G pv ps) (x : Obj) : Bld w0 w (W.alloc x) R b off cap t n kind j G pv ps :=
  o.after (World.grownBy_alloc W x none) (fun _ e => by cases e) (by simp) (by cases pv.ownBlock <;> simp)
/-- A block ahead of the reader's moves stays. -/
theorem row_moved {W W' : World} {R P : Nat} {o : Obj} {v : Value} {j : Nat} (h : W.heap[P]? = some o) (hr : Rd W R v j) (hm : Moved R W W') (ho : ∀ cs, o ≠ .cells cs 51 (0, 0)) : W'.heap[P]? = some o := by
  rw [hm.block P (Array.getElem?_eq_some_iff.1 h).1 (fun e => by
    injection e with e
    subst e
    unfold Rd at hr
    rw [h] at hr
    injection hr with hr
    exact ho _ hr)]
  exact h
theorem bld_start {w0 w W : World} {R b off cap i : Nat} {t : ByteArray} {v : ByteArray × ByteArray} (S : St TOK0 w0 w W R b off cap t i) :
    Bld w0 w ((W.alloc (.cells #[.string v.1, .string v.2] 44)).alloc (.cells #[.int .i64 1, .int .i64 0, .string ⟨#[]⟩, .slice (some ⟨W.heap.size, 0, none⟩) 1 1, .string ⟨#[]⟩, .int .i64 0] 31)) R b off cap t ⟨#[]⟩ 1 i (W.heap.size + 1) (.slice (some ⟨W.heap.size, 0, none⟩) 1 1) [v] := by
  have hz : ∀ o, (W.alloc o).heap.size = W.heap.size + 1 := fun o => by simp
  have hle := S.le
  have hn := heap_alloc_new (W.alloc (.cells #[.string v.1, .string v.2] 44)) (.cells #[.int .i64 1, .int .i64 0, .string ⟨#[]⟩, .slice (some ⟨W.heap.size, 0, none⟩) 1 1, .string ⟨#[]⟩, .int .i64 0] 31)
  rw [hz] at hn
  refine ⟨(S.after (World.grownBy_alloc _ _ none) (fun _ e => by cases e)).after (World.grownBy_alloc _ _ none) (fun _ e => by cases e), hn, by omega, World.ownsRow.alloc ?_ _⟩
  exact ⟨rfl, .inr ⟨W.heap.size, 1, _, rfl, hle, heap_alloc_new W _, Nat.le_refl _, by unfold maxLen; omega, rfl, rfl⟩⟩
/-- One pair more. -/
theorem bld_next {w0 w W : World} {R b off cap j G : Nat} {t n : ByteArray} {kind : Int} {pv0 pv : Value} {ps : List (ByteArray × ByteArray)} {x : ByteArray × ByteArray} (S : St TOK0 w0 w W R b off cap t j)
    (r : W.heap[G]? = some (.cells #[.int .i64 kind, .int .i64 0, .string n, pv0, .string ⟨#[]⟩, .int .i64 0] 31)) (gl : w.heap.size < G) (p : PairsAt W (w.heap.size + 1) pv (ps ++ [x])) :
    Bld w0 w (W.setCell ⟨G, 3, none⟩ pv) R b off cap t n kind j G pv (ps ++ [x]) := by
  obtain ⟨r', g⟩ := setCell_row (k := 3) pv r
  exact ⟨S.after g (fun k e => by injection e with e; omega), r', gl, World.ownsRow.kept p g (.inr (p.ne r (fun cs e => by injection e with _ e2 _; cases e2)))⟩
theorem set_other {W : World} {G P k : Nat} {v : Value} {o : Obj} (h : W.heap[P]? = some o) (hne : P ≠ G) : (W.setCell ⟨G, k, none⟩ v).heap[P]? = some o := by
  have : G ≠ P := fun e => hne e.symm
  simp [World.setCell, Array.getElem?_modify, this, h]
/-- All that an append leaves for the declaration: the run, the token as it is with the pair, what stays. -/
theorem bld_append {w0 w W : World} {R b off cap j G : Nat} {t n : ByteArray} {kind : Int} {pv : Value} {ps : List (ByteArray × ByteArray)} (x : ByteArray × ByteArray) (o : Bld w0 w W R b off cap t n kind j G pv ps) (hl : ps.length ≤ 4194304) :
    ∃ q m c w', (∀ ty, (Builtin.append_ #[29, 29] ty #[pv, .slice (some ⟨W.heap.size, 0, none⟩) 1 1]).run Tryz.prog (W.alloc (.cells #[.string x.1, .string x.2] 44)) = .ok (.slice q m c) w') ∧
      Bld w0 w (w'.setCell ⟨G, 3, none⟩ (.slice q m c)) R b off cap t n kind j G (.slice q m c) (ps ++ [x]) ∧
      w'.heap[G]? = some (.cells #[.int .i64 kind, .int .i64 0, .string n, pv, .string ⟨#[]⟩, .int .i64 0] 31) ∧
      (∀ P cs, W.heap[P]? = some (.cells cs 44) → pv.ownBlock ≠ some P → (w'.setCell ⟨G, 3, none⟩ (.slice q m c)).heap[P]? = some (.cells cs 44) ∧ (Value.slice q m c).ownBlock ≠ some P) := by
  have s9 := o.st.after (World.grownBy_alloc W (.cells #[.string x.1, .string x.2] 44) none) (fun k e => by cases e)
  have r9 := old_row2 (.cells #[.string x.1, .string x.2] 44) o.row
  have p9 : PairsAt (W.alloc (.cells #[.string x.1, .string x.2] 44)) _ _ _ := World.ownsRow.alloc o.prs _
  have n9 := heap_alloc_new W (.cells #[.string x.1, .string x.2] 44)
  have hz : (W.alloc (.cells #[.string x.1, .string x.2] 44)).heap.size = W.heap.size + 1 := by simp
  obtain ⟨v', w', hrun, p10, hg10, hat⟩ := append_pair_at p9 n9 (by have := o.st.le; omega) hl
  obtain ⟨q, m, c, rfl⟩ : ∃ q m c, v' = .slice q m c := by
    rcases p10.2 with ⟨e, _⟩ | ⟨g, c, cur, e, _⟩
    · exact ⟨_, _, _, e⟩
    · exact ⟨_, _, _, e⟩
  have hlt9 := World.ownsRow.lt p9
  have s10 := s9.after hg10 (fun k e => (hlt9 k e).1)
  have r10 := (hg10.block G (Array.getElem?_eq_some_iff.1 r9).1 (fun e => p9.ne r9 (fun cs e => by injection e with _ e2 _; cases e2) e.symm)).trans r9
  refine ⟨q, m, c, w', hrun, bld_next s10 r10 o.gl p10, r10, fun P cs hP hne => ?_⟩
  have hPl := (Array.getElem?_eq_some_iff.1 hP).1
  have hPG : P ≠ G := by
    rintro rfl
    have := o.row
    rw [hP] at this
    injection this with this
    injection this with _ this _
    cases this
  constructor
  · refine set_other ?_ hPG
    rw [hg10.block P (by omega) (fun e => hne e.symm)]
    exact old_row2 _ hP
  · rcases hat with e | e
    · rw [e]
      exact hne
    · rw [e]
      intro e2
      injection e2 with e2
      omega
theorem ascii_utf : ∀ (j : Nat) (b : UInt8), (⟨#[85, 84, 70, 45, 56]⟩ : ByteArray).data.toList[j]? = some b → b.toNat < 128 := by
  intro j b h
  have hm : b ∈ [(85 : UInt8), 84, 70, 45, 56] := List.mem_of_getElem? h
  simp only [List.mem_cons, List.mem_nil_iff, or_false] at hm
  rcases hm with rfl | rfl | rfl | rfl | rfl <;> decide
theorem ascii_enc {s : ByteArray} (h : encodingB s = true) : ∀ (j : Nat) (b : UInt8), s.data.toList[j]? = some b → b.toNat < 128 := by
  intro j b hb
  unfold encodingB at h
  simp only [Bool.and_eq_true] at h
  have := List.all_eq_true.1 h.2 b (List.mem_of_getElem? hb)
  simp only [Bool.or_eq_true, letterB, digitB, decide_eq_true_eq, beq_iff_eq] at this
  rcases this with (((g | g) | rfl) | rfl) | rfl
  · omega
  · omega
  · decide
  · decide
  · decide
set_option maxRecDepth 100000 in
set_option maxHeartbeats 16000000 in
theorem declaration_any (t : ByteArray) (b off cap R k : Nat) (w0 w : World) (E : Env w0 R b off cap t) (hB : Below w0.heap.size w0 w) (h : Rd w R (rv b off cap t) k) (hk : k ≤ t.size) (hs0 : seesB t k [60, 63, 120, 109, 108] = true) :
    Calls Tryz.prog 26 #[.pointer (some ⟨R, 0, none⟩)] w fun e w' => TokPost R b off cap t w (declF t (k + 5)) e w' ∧ Moved R w w' := by
  obtain ⟨res, hres⟩ : ∃ r, declF t (k + 5) = r := ⟨_, rfl⟩
  rw [hres]
  unfold declF at hres
  have hk5 : k + 5 ≤ t.size := sees_room hk hs0
  have TK := Lib.hid (fun W g (y : Txt W b off cap t) => take_yes t ⟨#[60, 63, 120, 109, 108]⟩ b off cap R k W g hk y (by decide) hs0)
  have hsm := E.txt.small
  have HE := Lib.hid (And.intro E (And.intro hB h))
  clear h E hB hs0
  go_enter Tryz.func26, Tryz.ntmps26
  go_wp2_with (fail)
  obtain ⟨W1, hW1⟩ : ∃ W, w.alloc TOK0 = W := ⟨_, rfl⟩
  rw [hW1]
  have S1 := Lib.hid (St.first HE.out.1 HE.out.2.1 HE.out.2.2 hW1)
  clear hW1
  refine (TK.out W1 S1.out.rd S1.out.txt).mono ?_
  rintro e w2 ⟨rfl, hr, hm⟩
  have S2 := Lib.hid (S1.out.moved hr hm)
  clear hr hm
  rw [show (⟨#[60, 63, 120, 109, 108]⟩ : ByteArray).size = 5 from rfl] at S2
  cases hp : propF t (k + 5) [118, 101, 114, 115, 105, 111, 110] versionB with
  | none =>
    rw [hp] at hres
    simp only at hres
    have PR : Calls Tryz.prog 39 #[.pointer (some ⟨R, 0, none⟩), .string ⟨#[118, 101, 114, 115, 105, 111, 110]⟩, .func (.func 40) #[] #[]] w2 (fun e w' => (e = .returned (.tuple #[.agg #[.string ⟨#[]⟩, .string ⟨#[]⟩], .bool false]) ∧ Rd w' R (rv b off cap t) (k + 5)) ∧ Moved R w2 w') := (version_prop t b off cap R (k + 5) w0 w2 S2.out.env S2.out.below S2.out.rd hk5).mono (fun _ _ z => by
      rw [hp] at z
      exact z)
    have PRH := Lib.hid PR
    clear PR hp
    go_wp2_with (fail)
    refine PRH.out.mono ?_
    rintro e w3 ⟨⟨rfl, hr⟩, hm⟩
    clear PRH
    have S3 := Lib.hid ((S2.out.moved hr hm).after (World.grownBy_alloc w3 (.cells #[.string ⟨#[]⟩, .string ⟨#[]⟩] 44) none) (fun _ e => by cases e))
    clear hr hm
    go_upto_region 3 with fail
    obtain ⟨W4, hW4⟩ : ∃ W, w3.alloc (.cells #[.string ⟨#[]⟩, .string ⟨#[]⟩] 44) = W := ⟨_, rfl⟩
    rw [hW4] at S3 ⊢
    clear hW4
    have HRES := Lib.hid hres
    clear hres
    obtain ⟨⟨c0, c1, c2, c3, c4, c5⟩, ⟨f0, f1, f2, f3, f4, f5⟩⟩ := six_cells S3.out.out
    go_wp2_with (fail)
    change bodyPost _ _ _ _ _ (setTok W4 w.heap.size 0 0 ⟨#[]⟩ (.slice none 0 0) ⟨#[]⟩ 0)
    obtain ⟨w9, hw9⟩ : ∃ W, setTok W4 w.heap.size 0 0 ⟨#[]⟩ (.slice none 0 0) ⟨#[]⟩ 0 = W := ⟨_, rfl⟩
    obtain ⟨r9, m9⟩ := setTok_row 0 0 ⟨#[]⟩ (.slice none 0 0) ⟨#[]⟩ 0 S3.out.out
    rw [hw9] at r9 m9 ⊢
    obtain ⟨⟨d0, d1, d2, d3, d4, d5⟩, _⟩ := six_cells r9
    refine bodyPost_ret (v := .tuple #[tokV 0 0 ⟨#[]⟩ (.slice none 0 0) ⟨#[]⟩ 0, .int .i64 23]) ?_ rfl ?_
    · rw [results_cell_tmp rfl]
      go_simp
    · obtain ⟨z1, z2⟩ := S3.out.laid m9
      rw [← HRES.out]
      exact ⟨rfl, z2⟩
  | some x =>
    obtain ⟨v, i⟩ := x
    have hi := (prop_ok hk5 hp).2.1
    rw [hp] at hres
    simp only at hres
    have PR : Calls Tryz.prog 39 #[.pointer (some ⟨R, 0, none⟩), .string ⟨#[118, 101, 114, 115, 105, 111, 110]⟩, .func (.func 40) #[] #[]] w2 (fun e w' => (e = .returned (.tuple #[.agg #[.string v.1, .string v.2], .bool true]) ∧ Rd w' R (rv b off cap t) i) ∧ Moved R w2 w') := (version_prop t b off cap R (k + 5) w0 w2 S2.out.env S2.out.below S2.out.rd hk5).mono (fun _ _ z => by
      rw [hp] at z
      exact z)
    have PRH := Lib.hid PR
    clear PR hp
    go_wp2_with (fail)
    refine PRH.out.mono ?_
    rintro e w3 ⟨⟨rfl, hr⟩, hm⟩
    clear PRH
    have S3 := Lib.hid ((S2.out.moved hr hm).after (World.grownBy_alloc w3 (.cells #[.string v.1, .string v.2] 44) none) (fun _ e => by cases e))
    have rv3 := heap_alloc_new w3 (.cells #[.string v.1, .string v.2] 44)
    clear hr hm
    go_upto_region 3 with fail
    obtain ⟨W4, hW4⟩ : ∃ W, w3.alloc (.cells #[.string v.1, .string v.2] 44) = W := ⟨_, rfl⟩
    rw [hW4] at S3 rv3 ⊢
    clear hW4
    obtain ⟨⟨g0, g1⟩, _⟩ := two_cells rv3
    have B5 := Lib.hid (bld_start (v := v) S3.out)
    go_upto_region 6 with fail
    obtain ⟨W5, hW5⟩ : ∃ W, (W4.alloc (.cells #[.string v.1, .string v.2] 44)).alloc (.cells #[.int .i64 1, .int .i64 0, .string ⟨#[]⟩, .slice (some ⟨W4.heap.size, 0, none⟩) 1 1, .string ⟨#[]⟩, .int .i64 0] 31) = W := ⟨_, rfl⟩
    rw [hW5] at B5 ⊢
    have hz5 : W5.heap.size = W4.heap.size + 2 := by rw [← hW5]; simp
    clear hW5 rv3 g0 g1
    obtain ⟨G, hG⟩ : ∃ G, W4.heap.size + 1 = G := ⟨_, rfl⟩
    obtain ⟨Z, hZ⟩ : ∃ Z, W4.heap.size = Z := ⟨_, rfl⟩
    rw [hG] at B5 ⊢
    rw [hZ] at B5 ⊢
    have HZ := Lib.hid (And.intro hz5 (And.intro hG hZ))
    clear hz5 hG hZ
    cases hp : propF t i [101, 110, 99, 111, 100, 105, 110, 103] encodingB with
    | none =>
      rw [hp] at hres
      simp only at hres
      have PR : Calls Tryz.prog 39 #[.pointer (some ⟨R, 0, none⟩), .string ⟨#[101, 110, 99, 111, 100, 105, 110, 103]⟩, .func (.func 41) #[] #[]] W5 (fun e w' => (e = .returned (.tuple #[.agg #[.string ⟨#[]⟩, .string ⟨#[]⟩], .bool false]) ∧ Rd w' R (rv b off cap t) (i)) ∧ Moved R W5 w') := (encoding_prop t b off cap R (i) w0 W5 B5.out.st.env B5.out.st.below B5.out.st.rd hi).mono (fun _ _ z => by
        rw [hp] at z
        exact z)
      have PRH := Lib.hid PR
      clear PR hp
      go_wp2_with (fail)
      refine PRH.out.mono ?_
      rintro e w6 ⟨⟨rfl, hr⟩, hm⟩
      clear PRH
      have B6 := Lib.hid ((B5.out.moved hr hm).alloc (.cells #[.string ⟨#[]⟩, .string ⟨#[]⟩] 44))
      clear hr hm
      go_upto_region 7 with fail
      obtain ⟨W7, hW7⟩ : ∃ W, w6.alloc (.cells #[.string ⟨#[]⟩, .string ⟨#[]⟩] 44) = W := ⟨_, rfl⟩
      rw [hW7] at B6 ⊢
      clear hW7
      unfold declAlone at hres
      cases hp : propF t (i) [115, 116, 97, 110, 100, 97, 108, 111, 110, 101] aloneB with
      | none =>
        rw [hp] at hres
        simp only at hres
        have PR : Calls Tryz.prog 39 #[.pointer (some ⟨R, 0, none⟩), .string ⟨#[115, 116, 97, 110, 100, 97, 108, 111, 110, 101]⟩, .func (.func 42) #[] #[]] W7 (fun e w' => (e = .returned (.tuple #[.agg #[.string ⟨#[]⟩, .string ⟨#[]⟩], .bool false]) ∧ Rd w' R (rv b off cap t) (i)) ∧ Moved R W7 w') := (standalone_prop t b off cap R (i) w0 W7 B6.out.st.env B6.out.st.below B6.out.st.rd hi).mono (fun _ _ z => by
          rw [hp] at z
          exact z)
        have PRH := Lib.hid PR
        clear PR hp
        go_wp2_with (fail)
        refine PRH.out.mono ?_
        rintro e wn ⟨⟨rfl, hr⟩, hm⟩
        clear PRH
        have Bn := Lib.hid ((B6.out.moved hr hm).alloc (.cells #[.string ⟨#[]⟩, .string ⟨#[]⟩] 44))
        clear hr hm
        go_upto_region 10 with fail
        obtain ⟨Wn, hWn⟩ : ∃ W, wn.alloc (.cells #[.string ⟨#[]⟩, .string ⟨#[]⟩] 44) = W := ⟨_, rfl⟩
        rw [hWn] at Bn ⊢
        clear hWn
        have hw := white_le hi
        have BL := Lib.hid (blanks_any t b off cap R (i) Wn Bn.out.st.rd hi Bn.out.st.txt Bn.out.st.env.ne)
        unfold declEnd at hres
        go_wp2_with (fail)
        refine BL.out.mono ?_
        rintro e wa ⟨rfl, hr, hm⟩
        have Ba := Lib.hid (Bn.out.moved hr hm)
        clear hr hm
        go_wp2_with (fail)
        cases hs : seesB t (whiteTo t (i)) [63, 62]
        · rw [if_neg (by rw [hs]; simp)] at hres
          have HRES := Lib.hid hres
          clear hres
          refine (take_no t ⟨#[63, 62]⟩ b off cap R (whiteTo t (i)) wa Ba.out.st.rd hw Ba.out.st.txt hs).mono ?_
          rintro e wb ⟨rfl, hr, hm⟩
          have Bb := Lib.hid (Ba.out.moved hr hm)
          clear hr hm
          obtain ⟨⟨c0, c1, c2, c3, c4, c5⟩, ⟨f0, f1, f2, f3, f4, f5⟩⟩ := six_cells Bb.out.st.out
          go_wp2_with (fail)
          change bodyPost _ _ _ _ _ (setTok wb w.heap.size 0 0 ⟨#[]⟩ (.slice none 0 0) ⟨#[]⟩ 0)
          obtain ⟨w9, hw9⟩ : ∃ W, setTok wb w.heap.size 0 0 ⟨#[]⟩ (.slice none 0 0) ⟨#[]⟩ 0 = W := ⟨_, rfl⟩
          obtain ⟨r9, m9⟩ := setTok_row 0 0 ⟨#[]⟩ (.slice none 0 0) ⟨#[]⟩ 0 Bb.out.st.out
          rw [hw9] at r9 m9 ⊢
          obtain ⟨⟨d0, d1, d2, d3, d4, d5⟩, _⟩ := six_cells r9
          refine bodyPost_ret (v := .tuple #[tokV 0 0 ⟨#[]⟩ (.slice none 0 0) ⟨#[]⟩ 0, .int .i64 23]) ?_ rfl ?_
          · rw [results_cell_tmp rfl]
            go_simp
          · obtain ⟨z1, z2⟩ := Bb.out.st.laid m9
            rw [← HRES.out]
            exact ⟨rfl, z2⟩
        · rw [if_pos hs] at hres
          simp only [if_true] at hres
          have HRES := Lib.hid hres
          clear hres
          refine (take_yes t ⟨#[63, 62]⟩ b off cap R (whiteTo t (i)) wa Ba.out.st.rd hw Ba.out.st.txt (by decide) hs).mono ?_
          rintro e wb ⟨rfl, hr, hm⟩
          have Bb := Lib.hid (Ba.out.moved hr hm)
          clear hr hm
          obtain ⟨⟨c0, c1, c2, c3, c4, c5⟩, ⟨f0, f1, f2, f3, f4, f5⟩⟩ := six_cells Bb.out.st.out
          obtain ⟨⟨e0, e1, e2, e3, e4, e5⟩, _⟩ := six_cells Bb.out.row
          go_wp2_with (fail)
          change bodyPost _ _ _ _ _ (setTok wb w.heap.size 1 0 ⟨#[]⟩ (.slice (some ⟨Z, 0, none⟩) 1 1) ⟨#[]⟩ 0)
          obtain ⟨w9, hw9⟩ : ∃ W, setTok wb w.heap.size 1 0 ⟨#[]⟩ (.slice (some ⟨Z, 0, none⟩) 1 1) ⟨#[]⟩ 0 = W := ⟨_, rfl⟩
          obtain ⟨r9, m9⟩ := setTok_row 1 0 ⟨#[]⟩ (.slice (some ⟨Z, 0, none⟩) 1 1) ⟨#[]⟩ 0 Bb.out.st.out
          rw [hw9] at r9 m9 ⊢
          obtain ⟨⟨d0, d1, d2, d3, d4, d5⟩, _⟩ := six_cells r9
          refine bodyPost_ret (v := .tuple #[tokV 1 0 ⟨#[]⟩ (.slice (some ⟨Z, 0, none⟩) 1 1) ⟨#[]⟩ 0, .int .i64 0]) ?_ rfl ?_
          · rw [results_cell_tmp rfl]
            go_simp
          · obtain ⟨z1, z2⟩ := Bb.out.st.laid m9
            rw [← HRES.out]
            exact ⟨⟨(.slice (some ⟨Z, 0, none⟩) 1 1), rfl, PairsAt.less (World.ownsRow.kept Bb.out.prs m9 (.inr (Bb.out.prs.ne Bb.out.st.out (fun cs e => by injection e with _ e2 _; cases e2)))) (Nat.le_succ _), z1⟩, z2⟩
      | some x =>
        obtain ⟨a, ia⟩ := x
        have y2 := (prop_ok hi hp).2.1
        rw [hp] at hres
        simp only at hres
        have PR : Calls Tryz.prog 39 #[.pointer (some ⟨R, 0, none⟩), .string ⟨#[115, 116, 97, 110, 100, 97, 108, 111, 110, 101]⟩, .func (.func 42) #[] #[]] W7 (fun e w' => (e = .returned (.tuple #[.agg #[.string a.1, .string a.2], .bool true]) ∧ Rd w' R (rv b off cap t) ia) ∧ Moved R W7 w') := (standalone_prop t b off cap R (i) w0 W7 B6.out.st.env B6.out.st.below B6.out.st.rd hi).mono (fun _ _ z => by
          rw [hp] at z
          exact z)
        have PRH := Lib.hid PR
        clear PR hp
        go_wp2_with (fail)
        refine PRH.out.mono ?_
        rintro e wy ⟨⟨rfl, hr⟩, hm⟩
        clear PRH
        have By := Lib.hid ((B6.out.moved hr hm).alloc (.cells #[.string a.1, .string a.2] 44))
        have ra := heap_alloc_new wy (.cells #[.string a.1, .string a.2] 44)
        clear hr hm
        go_upto_region 10 with fail
        obtain ⟨Wy, hWy⟩ : ∃ W, wy.alloc (.cells #[.string a.1, .string a.2] 44) = W := ⟨_, rfl⟩
        rw [hWy] at By ra ⊢
        clear hWy
        obtain ⟨⟨g0, g1⟩, _⟩ := two_cells ra
        obtain ⟨qx2, mx2, cx2, wx, hrun, hbld, hrow, hkeep⟩ := bld_append a By.out (by simp)
        have RUN := Lib.hid hrun
        have Bz := Lib.hid hbld
        have HROW := Lib.hid hrow
        clear hrun hbld hrow hkeep
        obtain ⟨⟨e0, e1, e2, e3, e4, e5⟩, _⟩ := six_cells By.out.row
        obtain ⟨⟨a0, a1, a2, a3, a4, a5⟩, ⟨b0, b1, b2, b3, b4, b5⟩⟩ := six_cells HROW.out
        go_upto_region 12 with (at_builtin; refine wpList_append_eq rfl (.tmp 43) (.tmp 45) 29 rfl _ _ _ _ rfl rfl RUN.out ?_)
        obtain ⟨Wz, hWz⟩ : ∃ W, wx.setCell ⟨G, 3, none⟩ (.slice qx2 mx2 cx2) = W := ⟨_, rfl⟩
        rw [hWz] at Bz ⊢
        clear hWz HROW RUN e0 e1 e2 e3 e4 e5 a0 a1 a2 a3 a4 a5 b0 b1 b2 b3 b4 b5
        clear ra g0 g1
        have hw := white_le y2
        have BL := Lib.hid (blanks_any t b off cap R (ia) Wz Bz.out.st.rd y2 Bz.out.st.txt Bz.out.st.env.ne)
        unfold declEnd at hres
        go_wp2_with (fail)
        refine BL.out.mono ?_
        rintro e wa ⟨rfl, hr, hm⟩
        have Ba := Lib.hid (Bz.out.moved hr hm)
        clear hr hm
        go_wp2_with (fail)
        cases hs : seesB t (whiteTo t (ia)) [63, 62]
        · rw [if_neg (by rw [hs]; simp)] at hres
          have HRES := Lib.hid hres
          clear hres
          refine (take_no t ⟨#[63, 62]⟩ b off cap R (whiteTo t (ia)) wa Ba.out.st.rd hw Ba.out.st.txt hs).mono ?_
          rintro e wb ⟨rfl, hr, hm⟩
          have Bb := Lib.hid (Ba.out.moved hr hm)
          clear hr hm
          obtain ⟨⟨c0, c1, c2, c3, c4, c5⟩, ⟨f0, f1, f2, f3, f4, f5⟩⟩ := six_cells Bb.out.st.out
          go_wp2_with (fail)
          change bodyPost _ _ _ _ _ (setTok wb w.heap.size 0 0 ⟨#[]⟩ (.slice none 0 0) ⟨#[]⟩ 0)
          obtain ⟨w9, hw9⟩ : ∃ W, setTok wb w.heap.size 0 0 ⟨#[]⟩ (.slice none 0 0) ⟨#[]⟩ 0 = W := ⟨_, rfl⟩
          obtain ⟨r9, m9⟩ := setTok_row 0 0 ⟨#[]⟩ (.slice none 0 0) ⟨#[]⟩ 0 Bb.out.st.out
          rw [hw9] at r9 m9 ⊢
          obtain ⟨⟨d0, d1, d2, d3, d4, d5⟩, _⟩ := six_cells r9
          refine bodyPost_ret (v := .tuple #[tokV 0 0 ⟨#[]⟩ (.slice none 0 0) ⟨#[]⟩ 0, .int .i64 23]) ?_ rfl ?_
          · rw [results_cell_tmp rfl]
            go_simp
          · obtain ⟨z1, z2⟩ := Bb.out.st.laid m9
            rw [← HRES.out]
            exact ⟨rfl, z2⟩
        · rw [if_pos hs] at hres
          simp only [if_true] at hres
          have HRES := Lib.hid hres
          clear hres
          refine (take_yes t ⟨#[63, 62]⟩ b off cap R (whiteTo t (ia)) wa Ba.out.st.rd hw Ba.out.st.txt (by decide) hs).mono ?_
          rintro e wb ⟨rfl, hr, hm⟩
          have Bb := Lib.hid (Ba.out.moved hr hm)
          clear hr hm
          obtain ⟨⟨c0, c1, c2, c3, c4, c5⟩, ⟨f0, f1, f2, f3, f4, f5⟩⟩ := six_cells Bb.out.st.out
          obtain ⟨⟨e0, e1, e2, e3, e4, e5⟩, _⟩ := six_cells Bb.out.row
          go_wp2_with (fail)
          change bodyPost _ _ _ _ _ (setTok wb w.heap.size 1 0 ⟨#[]⟩ (.slice qx2 mx2 cx2) ⟨#[]⟩ 0)
          obtain ⟨w9, hw9⟩ : ∃ W, setTok wb w.heap.size 1 0 ⟨#[]⟩ (.slice qx2 mx2 cx2) ⟨#[]⟩ 0 = W := ⟨_, rfl⟩
          obtain ⟨r9, m9⟩ := setTok_row 1 0 ⟨#[]⟩ (.slice qx2 mx2 cx2) ⟨#[]⟩ 0 Bb.out.st.out
          rw [hw9] at r9 m9 ⊢
          obtain ⟨⟨d0, d1, d2, d3, d4, d5⟩, _⟩ := six_cells r9
          refine bodyPost_ret (v := .tuple #[tokV 1 0 ⟨#[]⟩ (.slice qx2 mx2 cx2) ⟨#[]⟩ 0, .int .i64 0]) ?_ rfl ?_
          · rw [results_cell_tmp rfl]
            go_simp
          · obtain ⟨z1, z2⟩ := Bb.out.st.laid m9
            rw [← HRES.out]
            exact ⟨⟨(.slice qx2 mx2 cx2), rfl, PairsAt.less (World.ownsRow.kept Bb.out.prs m9 (.inr (Bb.out.prs.ne Bb.out.st.out (fun cs e => by injection e with _ e2 _; cases e2)))) (Nat.le_succ _), z1⟩, z2⟩
    | some x =>
      obtain ⟨d, i2⟩ := x
      have hpo := prop_ok hi hp
      have hi2 := hpo.2.1
      have HEN := Lib.hid hpo.2.2.2.1
      have HDS := Lib.hid hpo.2.2.2.2
      clear hpo
      rw [hp] at hres
      simp only at hres
      have PR : Calls Tryz.prog 39 #[.pointer (some ⟨R, 0, none⟩), .string ⟨#[101, 110, 99, 111, 100, 105, 110, 103]⟩, .func (.func 41) #[] #[]] W5 (fun e w' => (e = .returned (.tuple #[.agg #[.string d.1, .string d.2], .bool true]) ∧ Rd w' R (rv b off cap t) i2) ∧ Moved R W5 w') := (encoding_prop t b off cap R (i) w0 W5 B5.out.st.env B5.out.st.below B5.out.st.rd hi).mono (fun _ _ z => by
        rw [hp] at z
        exact z)
      have PRH := Lib.hid PR
      clear PR hp
      go_wp2_with (fail)
      refine PRH.out.mono ?_
      rintro e w6 ⟨⟨rfl, hr⟩, hm⟩
      clear PRH
      have hzz := hm.size
      have B6 := Lib.hid ((B5.out.moved hr hm).alloc (.cells #[.string d.1, .string d.2] 44))
      have rd6 := heap_alloc_new w6 (.cells #[.string d.1, .string d.2] 44)
      clear hr hm
      go_upto_region 7 with fail
      obtain ⟨W7, hW7⟩ : ∃ W, w6.alloc (.cells #[.string d.1, .string d.2] 44) = W := ⟨_, rfl⟩
      rw [hW7] at B6 rd6 ⊢
      clear hW7
      obtain ⟨⟨g0, g1⟩, _⟩ := two_cells rd6
      have RD6 := Lib.hid rd6
      have hpz : (Value.slice (some ⟨Z, 0, none⟩) 1 1).ownBlock ≠ some w6.heap.size := by
        intro e
        have e2 : Z = w6.heap.size := by simpa [Value.ownBlock] using e
        have := HZ.out
        omega
      have HPZ := Lib.hid hpz
      clear rd6 hpz hzz
      obtain ⟨qx1, mx1, cx1, wx, hrun, hbld, hrow, hkeep⟩ := bld_append d B6.out (by simp)
      have hk2 := hkeep _ _ RD6.out HPZ.out
      have RUN := Lib.hid hrun
      have B8 := Lib.hid hbld
      have HROW := Lib.hid hrow
      have HK2 := Lib.hid hk2
      clear hk2
      clear hrun hbld hrow hkeep
      obtain ⟨⟨e0, e1, e2, e3, e4, e5⟩, _⟩ := six_cells B6.out.row
      obtain ⟨⟨a0, a1, a2, a3, a4, a5⟩, ⟨b0, b1, b2, b3, b4, b5⟩⟩ := six_cells HROW.out
      go_upto_region 9 with (at_builtin; refine wpList_append_eq rfl (.tmp 31) (.tmp 33) 29 rfl _ _ _ _ rfl rfl RUN.out ?_)
      obtain ⟨W8, hW8⟩ : ∃ W, wx.setCell ⟨G, 3, none⟩ (.slice qx1 mx1 cx1) = W := ⟨_, rfl⟩
      rw [hW8] at B8 HK2 ⊢
      clear hW8 HROW RUN e0 e1 e2 e3 e4 e5 a0 a1 a2 a3 a4 a5 b0 b1 b2 b3 b4 b5
      have RD8 := Lib.hid HK2.out.1
      have NE8 := Lib.hid HK2.out.2
      clear HK2 g0 g1
      unfold declAlone at hres
      cases hp : propF t (i2) [115, 116, 97, 110, 100, 97, 108, 111, 110, 101] aloneB with
      | none =>
        rw [hp] at hres
        simp only at hres
        have PR : Calls Tryz.prog 39 #[.pointer (some ⟨R, 0, none⟩), .string ⟨#[115, 116, 97, 110, 100, 97, 108, 111, 110, 101]⟩, .func (.func 42) #[] #[]] W8 (fun e w' => (e = .returned (.tuple #[.agg #[.string ⟨#[]⟩, .string ⟨#[]⟩], .bool false]) ∧ Rd w' R (rv b off cap t) (i2)) ∧ Moved R W8 w') := (standalone_prop t b off cap R (i2) w0 W8 B8.out.st.env B8.out.st.below B8.out.st.rd hi2).mono (fun _ _ z => by
          rw [hp] at z
          exact z)
        have PRH := Lib.hid PR
        clear PR hp
        go_wp2_with (fail)
        refine PRH.out.mono ?_
        rintro e wn ⟨⟨rfl, hr⟩, hm⟩
        clear PRH
        have RPn := row_moved RD8.out B8.out.st.rd hm (fun cs e => by injection e with _ e2 _; cases e2)
        have RPn2 := Lib.hid (old_row2 (.cells #[.string ⟨#[]⟩, .string ⟨#[]⟩] 44) RPn)
        clear RPn
        have Bn := Lib.hid ((B8.out.moved hr hm).alloc (.cells #[.string ⟨#[]⟩, .string ⟨#[]⟩] 44))
        clear hr hm
        go_upto_region 10 with fail
        obtain ⟨Wn, hWn⟩ : ∃ W, wn.alloc (.cells #[.string ⟨#[]⟩, .string ⟨#[]⟩] 44) = W := ⟨_, rfl⟩
        rw [hWn] at Bn RPn2 ⊢
        clear hWn
        have hw := white_le hi2
        have BL := Lib.hid (blanks_any t b off cap R (i2) Wn Bn.out.st.rd hi2 Bn.out.st.txt Bn.out.st.env.ne)
        unfold declEnd at hres
        go_wp2_with (fail)
        refine BL.out.mono ?_
        rintro e wa ⟨rfl, hr, hm⟩
        have RPa := Lib.hid (row_moved RPn2.out Bn.out.st.rd hm (fun cs e => by injection e with _ e2 _; cases e2))
        have Ba := Lib.hid (Bn.out.moved hr hm)
        clear hr hm
        go_wp2_with (fail)
        cases hs : seesB t (whiteTo t (i2)) [63, 62]
        · rw [if_neg (by rw [hs]; simp)] at hres
          have HRES := Lib.hid hres
          clear hres
          refine (take_no t ⟨#[63, 62]⟩ b off cap R (whiteTo t (i2)) wa Ba.out.st.rd hw Ba.out.st.txt hs).mono ?_
          rintro e wb ⟨rfl, hr, hm⟩
          have RPb := Lib.hid (row_moved RPa.out Ba.out.st.rd hm (fun cs e => by injection e with _ e2 _; cases e2))
          have Bb := Lib.hid (Ba.out.moved hr hm)
          clear hr hm
          obtain ⟨⟨c0, c1, c2, c3, c4, c5⟩, ⟨f0, f1, f2, f3, f4, f5⟩⟩ := six_cells Bb.out.st.out
          go_wp2_with (fail)
          change bodyPost _ _ _ _ _ (setTok wb w.heap.size 0 0 ⟨#[]⟩ (.slice none 0 0) ⟨#[]⟩ 0)
          obtain ⟨w9, hw9⟩ : ∃ W, setTok wb w.heap.size 0 0 ⟨#[]⟩ (.slice none 0 0) ⟨#[]⟩ 0 = W := ⟨_, rfl⟩
          obtain ⟨r9, m9⟩ := setTok_row 0 0 ⟨#[]⟩ (.slice none 0 0) ⟨#[]⟩ 0 Bb.out.st.out
          rw [hw9] at r9 m9 ⊢
          obtain ⟨⟨d0, d1, d2, d3, d4, d5⟩, _⟩ := six_cells r9
          refine bodyPost_ret (v := .tuple #[tokV 0 0 ⟨#[]⟩ (.slice none 0 0) ⟨#[]⟩ 0, .int .i64 23]) ?_ rfl ?_
          · rw [results_cell_tmp rfl]
            go_simp
          · obtain ⟨z1, z2⟩ := Bb.out.st.laid m9
            rw [← HRES.out]
            exact ⟨rfl, z2⟩
        · rw [if_pos hs] at hres
          refine (take_yes t ⟨#[63, 62]⟩ b off cap R (whiteTo t (i2)) wa Ba.out.st.rd hw Ba.out.st.txt (by decide) hs).mono ?_
          rintro e wb ⟨rfl, hr, hm⟩
          have RPb := Lib.hid (row_moved RPa.out Ba.out.st.rd hm (fun cs e => by injection e with _ e2 _; cases e2))
          have Bb := Lib.hid (Ba.out.moved hr hm)
          clear hr hm
          obtain ⟨⟨g0, g1⟩, _⟩ := two_cells RPb.out
          cases hu : utf8B d.2
          · rw [if_neg (by rw [hu]; simp)] at hres
            have HRES := Lib.hid hres
            clear hres
            have EF := Tryz.strings_EqualFold d.2 ⟨#[85, 84, 70, 45, 56]⟩ wb (by have := HDS.out; omega) (ascii_enc HEN.out) ascii_utf
            rw [show Lib.equalFold d.2.data.toList (⟨#[85, 84, 70, 45, 56]⟩ : ByteArray).data.toList = false from hu] at EF
            have EFH := Lib.hid (EF.mono fun _ _ h => And.intro h.1 h.2.symm)
            clear EF
            obtain ⟨⟨c0, c1, c2, c3, c4, c5⟩, ⟨f0, f1, f2, f3, f4, f5⟩⟩ := six_cells Bb.out.st.out
            go_wp2_with (go_at_call 44; refine EFH.out.mono ?_; rintro e wf ⟨rfl, rfl⟩)
            change bodyPost _ _ _ _ _ (setTok wb w.heap.size 0 0 ⟨#[]⟩ (.slice none 0 0) ⟨#[]⟩ 0)
            obtain ⟨w9, hw9⟩ : ∃ W, setTok wb w.heap.size 0 0 ⟨#[]⟩ (.slice none 0 0) ⟨#[]⟩ 0 = W := ⟨_, rfl⟩
            obtain ⟨r9, m9⟩ := setTok_row 0 0 ⟨#[]⟩ (.slice none 0 0) ⟨#[]⟩ 0 Bb.out.st.out
            rw [hw9] at r9 m9 ⊢
            obtain ⟨⟨d0, d1, d2, d3, d4, d5⟩, _⟩ := six_cells r9
            refine bodyPost_ret (v := .tuple #[tokV 0 0 ⟨#[]⟩ (.slice none 0 0) ⟨#[]⟩ 0, .int .i64 25]) ?_ rfl ?_
            · rw [results_cell_tmp rfl]
              go_simp
            · obtain ⟨z1, z2⟩ := Bb.out.st.laid m9
              rw [← HRES.out]
              exact ⟨rfl, z2⟩
          · rw [if_pos hu] at hres
            have HRES := Lib.hid hres
            clear hres
            have EF := Tryz.strings_EqualFold d.2 ⟨#[85, 84, 70, 45, 56]⟩ wb (by have := HDS.out; omega) (ascii_enc HEN.out) ascii_utf
            rw [show Lib.equalFold d.2.data.toList (⟨#[85, 84, 70, 45, 56]⟩ : ByteArray).data.toList = true from hu] at EF
            have EFH := Lib.hid (EF.mono fun _ _ h => And.intro h.1 h.2.symm)
            clear EF
            obtain ⟨⟨c0, c1, c2, c3, c4, c5⟩, ⟨f0, f1, f2, f3, f4, f5⟩⟩ := six_cells Bb.out.st.out
            obtain ⟨⟨e0, e1, e2, e3, e4, e5⟩, _⟩ := six_cells Bb.out.row
            go_wp2_with (go_at_call 44; refine EFH.out.mono ?_; rintro e wf ⟨rfl, rfl⟩)
            change bodyPost _ _ _ _ _ (setTok wb w.heap.size 1 0 ⟨#[]⟩ (.slice qx1 mx1 cx1) ⟨#[]⟩ 0)
            obtain ⟨w9, hw9⟩ : ∃ W, setTok wb w.heap.size 1 0 ⟨#[]⟩ (.slice qx1 mx1 cx1) ⟨#[]⟩ 0 = W := ⟨_, rfl⟩
            obtain ⟨r9, m9⟩ := setTok_row 1 0 ⟨#[]⟩ (.slice qx1 mx1 cx1) ⟨#[]⟩ 0 Bb.out.st.out
            rw [hw9] at r9 m9 ⊢
            obtain ⟨⟨d0, d1, d2, d3, d4, d5⟩, _⟩ := six_cells r9
            refine bodyPost_ret (v := .tuple #[tokV 1 0 ⟨#[]⟩ (.slice qx1 mx1 cx1) ⟨#[]⟩ 0, .int .i64 0]) ?_ rfl ?_
            · rw [results_cell_tmp rfl]
              go_simp
            · obtain ⟨z1, z2⟩ := Bb.out.st.laid m9
              rw [← HRES.out]
              exact ⟨⟨(.slice qx1 mx1 cx1), rfl, PairsAt.less (World.ownsRow.kept Bb.out.prs m9 (.inr (Bb.out.prs.ne Bb.out.st.out (fun cs e => by injection e with _ e2 _; cases e2)))) (Nat.le_succ _), z1⟩, z2⟩
      | some x =>
        obtain ⟨a, ia⟩ := x
        have y2 := (prop_ok hi2 hp).2.1
        rw [hp] at hres
        simp only at hres
        have PR : Calls Tryz.prog 39 #[.pointer (some ⟨R, 0, none⟩), .string ⟨#[115, 116, 97, 110, 100, 97, 108, 111, 110, 101]⟩, .func (.func 42) #[] #[]] W8 (fun e w' => (e = .returned (.tuple #[.agg #[.string a.1, .string a.2], .bool true]) ∧ Rd w' R (rv b off cap t) ia) ∧ Moved R W8 w') := (standalone_prop t b off cap R (i2) w0 W8 B8.out.st.env B8.out.st.below B8.out.st.rd hi2).mono (fun _ _ z => by
          rw [hp] at z
          exact z)
        have PRH := Lib.hid PR
        clear PR hp
        go_wp2_with (fail)
        refine PRH.out.mono ?_
        rintro e wy ⟨⟨rfl, hr⟩, hm⟩
        clear PRH
        have RPn := row_moved RD8.out B8.out.st.rd hm (fun cs e => by injection e with _ e2 _; cases e2)
        have RPn2 := Lib.hid (old_row2 (.cells #[.string a.1, .string a.2] 44) RPn)
        clear RPn
        have By := Lib.hid ((B8.out.moved hr hm).alloc (.cells #[.string a.1, .string a.2] 44))
        have ra := heap_alloc_new wy (.cells #[.string a.1, .string a.2] 44)
        clear hr hm
        go_upto_region 10 with fail
        obtain ⟨Wy, hWy⟩ : ∃ W, wy.alloc (.cells #[.string a.1, .string a.2] 44) = W := ⟨_, rfl⟩
        rw [hWy] at By ra RPn2 ⊢
        clear hWy
        obtain ⟨⟨g0, g1⟩, _⟩ := two_cells ra
        obtain ⟨qx2, mx2, cx2, wx, hrun, hbld, hrow, hkeep⟩ := bld_append a By.out (by simp)
        have hk2 := hkeep _ _ RPn2.out NE8.out
        have RUN := Lib.hid hrun
        have Bz := Lib.hid hbld
        have HROW := Lib.hid hrow
        have HK2 := Lib.hid hk2
        clear hk2
        clear hrun hbld hrow hkeep
        obtain ⟨⟨e0, e1, e2, e3, e4, e5⟩, _⟩ := six_cells By.out.row
        obtain ⟨⟨a0, a1, a2, a3, a4, a5⟩, ⟨b0, b1, b2, b3, b4, b5⟩⟩ := six_cells HROW.out
        go_upto_region 12 with (at_builtin; refine wpList_append_eq rfl (.tmp 43) (.tmp 45) 29 rfl _ _ _ _ rfl rfl RUN.out ?_)
        obtain ⟨Wz, hWz⟩ : ∃ W, wx.setCell ⟨G, 3, none⟩ (.slice qx2 mx2 cx2) = W := ⟨_, rfl⟩
        rw [hWz] at Bz HK2 ⊢
        clear hWz HROW RUN e0 e1 e2 e3 e4 e5 a0 a1 a2 a3 a4 a5 b0 b1 b2 b3 b4 b5
        have RPz := Lib.hid HK2.out.1
        clear HK2
        clear ra g0 g1
        have hw := white_le y2
        have BL := Lib.hid (blanks_any t b off cap R (ia) Wz Bz.out.st.rd y2 Bz.out.st.txt Bz.out.st.env.ne)
        unfold declEnd at hres
        go_wp2_with (fail)
        refine BL.out.mono ?_
        rintro e wa ⟨rfl, hr, hm⟩
        have RPa := Lib.hid (row_moved RPz.out Bz.out.st.rd hm (fun cs e => by injection e with _ e2 _; cases e2))
        have Ba := Lib.hid (Bz.out.moved hr hm)
        clear hr hm
        go_wp2_with (fail)
        cases hs : seesB t (whiteTo t (ia)) [63, 62]
        · rw [if_neg (by rw [hs]; simp)] at hres
          have HRES := Lib.hid hres
          clear hres
          refine (take_no t ⟨#[63, 62]⟩ b off cap R (whiteTo t (ia)) wa Ba.out.st.rd hw Ba.out.st.txt hs).mono ?_
          rintro e wb ⟨rfl, hr, hm⟩
          have RPb := Lib.hid (row_moved RPa.out Ba.out.st.rd hm (fun cs e => by injection e with _ e2 _; cases e2))
          have Bb := Lib.hid (Ba.out.moved hr hm)
          clear hr hm
          obtain ⟨⟨c0, c1, c2, c3, c4, c5⟩, ⟨f0, f1, f2, f3, f4, f5⟩⟩ := six_cells Bb.out.st.out
          go_wp2_with (fail)
          change bodyPost _ _ _ _ _ (setTok wb w.heap.size 0 0 ⟨#[]⟩ (.slice none 0 0) ⟨#[]⟩ 0)
          obtain ⟨w9, hw9⟩ : ∃ W, setTok wb w.heap.size 0 0 ⟨#[]⟩ (.slice none 0 0) ⟨#[]⟩ 0 = W := ⟨_, rfl⟩
          obtain ⟨r9, m9⟩ := setTok_row 0 0 ⟨#[]⟩ (.slice none 0 0) ⟨#[]⟩ 0 Bb.out.st.out
          rw [hw9] at r9 m9 ⊢
          obtain ⟨⟨d0, d1, d2, d3, d4, d5⟩, _⟩ := six_cells r9
          refine bodyPost_ret (v := .tuple #[tokV 0 0 ⟨#[]⟩ (.slice none 0 0) ⟨#[]⟩ 0, .int .i64 23]) ?_ rfl ?_
          · rw [results_cell_tmp rfl]
            go_simp
          · obtain ⟨z1, z2⟩ := Bb.out.st.laid m9
            rw [← HRES.out]
            exact ⟨rfl, z2⟩
        · rw [if_pos hs] at hres
          refine (take_yes t ⟨#[63, 62]⟩ b off cap R (whiteTo t (ia)) wa Ba.out.st.rd hw Ba.out.st.txt (by decide) hs).mono ?_
          rintro e wb ⟨rfl, hr, hm⟩
          have RPb := Lib.hid (row_moved RPa.out Ba.out.st.rd hm (fun cs e => by injection e with _ e2 _; cases e2))
          have Bb := Lib.hid (Ba.out.moved hr hm)
          clear hr hm
          obtain ⟨⟨g0, g1⟩, _⟩ := two_cells RPb.out
          cases hu : utf8B d.2
          · rw [if_neg (by rw [hu]; simp)] at hres
            have HRES := Lib.hid hres
            clear hres
            have EF := Tryz.strings_EqualFold d.2 ⟨#[85, 84, 70, 45, 56]⟩ wb (by have := HDS.out; omega) (ascii_enc HEN.out) ascii_utf
            rw [show Lib.equalFold d.2.data.toList (⟨#[85, 84, 70, 45, 56]⟩ : ByteArray).data.toList = false from hu] at EF
            have EFH := Lib.hid (EF.mono fun _ _ h => And.intro h.1 h.2.symm)
            clear EF
            obtain ⟨⟨c0, c1, c2, c3, c4, c5⟩, ⟨f0, f1, f2, f3, f4, f5⟩⟩ := six_cells Bb.out.st.out
            go_wp2_with (go_at_call 44; refine EFH.out.mono ?_; rintro e wf ⟨rfl, rfl⟩)
            change bodyPost _ _ _ _ _ (setTok wb w.heap.size 0 0 ⟨#[]⟩ (.slice none 0 0) ⟨#[]⟩ 0)
            obtain ⟨w9, hw9⟩ : ∃ W, setTok wb w.heap.size 0 0 ⟨#[]⟩ (.slice none 0 0) ⟨#[]⟩ 0 = W := ⟨_, rfl⟩
            obtain ⟨r9, m9⟩ := setTok_row 0 0 ⟨#[]⟩ (.slice none 0 0) ⟨#[]⟩ 0 Bb.out.st.out
            rw [hw9] at r9 m9 ⊢
            obtain ⟨⟨d0, d1, d2, d3, d4, d5⟩, _⟩ := six_cells r9
            refine bodyPost_ret (v := .tuple #[tokV 0 0 ⟨#[]⟩ (.slice none 0 0) ⟨#[]⟩ 0, .int .i64 25]) ?_ rfl ?_
            · rw [results_cell_tmp rfl]
              go_simp
            · obtain ⟨z1, z2⟩ := Bb.out.st.laid m9
              rw [← HRES.out]
              exact ⟨rfl, z2⟩
          · rw [if_pos hu] at hres
            have HRES := Lib.hid hres
            clear hres
            have EF := Tryz.strings_EqualFold d.2 ⟨#[85, 84, 70, 45, 56]⟩ wb (by have := HDS.out; omega) (ascii_enc HEN.out) ascii_utf
            rw [show Lib.equalFold d.2.data.toList (⟨#[85, 84, 70, 45, 56]⟩ : ByteArray).data.toList = true from hu] at EF
            have EFH := Lib.hid (EF.mono fun _ _ h => And.intro h.1 h.2.symm)
            clear EF
            obtain ⟨⟨c0, c1, c2, c3, c4, c5⟩, ⟨f0, f1, f2, f3, f4, f5⟩⟩ := six_cells Bb.out.st.out
            obtain ⟨⟨e0, e1, e2, e3, e4, e5⟩, _⟩ := six_cells Bb.out.row
            go_wp2_with (go_at_call 44; refine EFH.out.mono ?_; rintro e wf ⟨rfl, rfl⟩)
            change bodyPost _ _ _ _ _ (setTok wb w.heap.size 1 0 ⟨#[]⟩ (.slice qx2 mx2 cx2) ⟨#[]⟩ 0)
            obtain ⟨w9, hw9⟩ : ∃ W, setTok wb w.heap.size 1 0 ⟨#[]⟩ (.slice qx2 mx2 cx2) ⟨#[]⟩ 0 = W := ⟨_, rfl⟩
            obtain ⟨r9, m9⟩ := setTok_row 1 0 ⟨#[]⟩ (.slice qx2 mx2 cx2) ⟨#[]⟩ 0 Bb.out.st.out
            rw [hw9] at r9 m9 ⊢
            obtain ⟨⟨d0, d1, d2, d3, d4, d5⟩, _⟩ := six_cells r9
            refine bodyPost_ret (v := .tuple #[tokV 1 0 ⟨#[]⟩ (.slice qx2 mx2 cx2) ⟨#[]⟩ 0, .int .i64 0]) ?_ rfl ?_
            · rw [results_cell_tmp rfl]
              go_simp
            · obtain ⟨z1, z2⟩ := Bb.out.st.laid m9
              rw [← HRES.out]
              exact ⟨⟨(.slice qx2 mx2 cx2), rfl, PairsAt.less (World.ownsRow.kept Bb.out.prs m9 (.inr (Bb.out.prs.ne Bb.out.st.out (fun cs e => by injection e with _ e2 _; cases e2)))) (Nat.le_succ _), z1⟩, z2⟩
end Go.Proofs.YteipiaefamfleaaGreatDoor
