/- Proved here: what the statement's shown answers of a token that was told: what the plain writer says, by either quote. -/
import Derived.Test.YteipiaefamfleaaGreatDoorM31
import Derived.Test.YteipiaefamfleaaGreatDoorM10
import Derived.Test.YteipiaefamfleaaGreatDoorM21
namespace Go.Proofs.YteipiaefamfleaaGreatDoor
open Go.RowKit

theorem str_of {o : ByteArray} {l : List UInt8} (h : o.data.toList = l) : o = ⟨l.toArray⟩ := by
  apply ByteArray.ext
  rw [← h]
def quoteS (s : Bool) : ByteArray := ⟨#[quoteW s]⟩
def SwRel (s : Bool) (ps : List (ByteArray × ByteArray)) (w1 : World) (v5 v12 : Value) (wr : World) : Prop :=
  ∃ (i : Nat) (o : ByteArray), v5 = .string o ∧ v12 = .int .i64 (i : Int) ∧ i ≤ ps.length ∧ o.size ≤ 2000000 * i ∧ Hid (o.data.toList = pairsW s (ps.take i) ∧ Below w1.heap.size w1 wr)
theorem pairsW_snoc (s : Bool) (p : ByteArray × ByteArray) : ∀ l, pairsW s (l ++ [p]) = pairsW s l ++ pairW s p
  | [] => by simp [pairsW]
  | q :: l => by rw [List.cons_append, pairsW, pairsW, pairsW_snoc s p l, List.append_assoc]
/-- One more pair, written. -/
theorem sw_step {s : Bool} {ps : List (ByteArray × ByteArray)} {i : Nat} {p : ByteArray × ByteArray} (hp : ps[i]? = some p) {o v q : ByteArray} (ho : o.data.toList = pairsW s (ps.take i)) (hv : v.data.toList = valW s p.2) (hq : q = quoteS s) :
    ((((((o ++ ⟨#[32]⟩) ++ p.1) ++ ⟨#[61]⟩) ++ q) ++ v) ++ q).data.toList = pairsW s (ps.take (i + 1)) := by
  have hi : i < ps.length := (List.getElem?_eq_some_iff.1 hp).1
  subst hq
  rw [List.take_add_one, hp, Option.toList_some, pairsW_snoc, ← ho]
  unfold pairW quoteS
  rw [← hv]
  simp
structure ShIn (s : Bool) (x : Tok) (w : World) (v : Value) : Prop where
  cells : PCells w v x.pairs
  fit : Fit 65536 x
  len : x.pairs.length ≤ 65539
  val : ∀ p ∈ x.pairs, (faultF p.2).2 = 0
theorem tx_some {t : ByteArray} (h : ¬ t.size = 0) : t.toList.isEmpty = false := str_some (fun e => h (by rw [e]; rfl))
set_option maxRecDepth 100000 in
set_option maxHeartbeats 16000000 in
theorem shown_walk_false (x : Tok) (a r : Int) (v : Value) (w : World) (h : ShIn false x w v) (hk : 1 ≤ x.kind ∧ x.kind ≤ 8) :
    Calls Tryz.prog 6 #[.agg #[.int .i64 (x.kind : Int), .int .i64 a, .string x.name, v, .string x.text, .int .i64 r], .string ⟨#[34]⟩] w fun e w' => e = .returned (.string ⟨(shownL false x).toArray⟩) ∧ Below w.heap.size w w' := by
  obtain ⟨kd, nm, ps, tx, rf⟩ := x
  obtain ⟨⟨⟨q, c, rfl⟩, hcells⟩, ⟨fn, ft, fp⟩, hlen, hval⟩ := h
  simp only at fn ft fp hlen hval hk
  obtain ⟨w1, hw1⟩ : ∃ w1, w.alloc (.cells #[.int .i64 (kd : Int), .int .i64 a, .string nm, .slice q ps.length c, .string tx, .int .i64 r] 31) = w1 := ⟨_, rfl⟩
  have hb1 : Below w.heap.size w w1 := by rw [← hw1]; exact (Below.refl _ _).alloc (Nat.le_refl _) _
  have hh : w1.heap[w.heap.size]? = some (.cells #[.int .i64 (kd : Int), .int .i64 a, .string nm, .slice q ps.length c, .string tx, .int .i64 r] 31) := by rw [← hw1]; exact heap_alloc_new w _
  have T0 : w1.cell? ⟨w.heap.size, 0, none⟩ = some (.int .i64 (kd : Int)) := by rw [cell_of_row _ _ 0 _ 31 (0, 0) hh]; rfl
  have T2 : w1.cell? ⟨w.heap.size, 2, none⟩ = some (.string nm) := by rw [cell_of_row _ _ 2 _ 31 (0, 0) hh]; rfl
  have T4 : w1.cell? ⟨w.heap.size, 4, none⟩ = some (.string tx) := by rw [cell_of_row _ _ 4 _ 31 (0, 0) hh]; rfl
  have T3 : w1.cell? ⟨w.heap.size, 3, none⟩ = some (.slice q ps.length c) := by rw [cell_of_row _ _ 3 _ 31 (0, 0) hh]; rfl
  have HT := Lib.hid (And.intro T0 (And.intro T2 T4))
  have HC := Lib.hid (fun W (y : Below w1.heap.size w1 W) => (show PCells w (.slice q ps.length c) ps from ⟨⟨q, c, rfl⟩, hcells⟩).below (below_cat hb1 y))
  have HB1 := Lib.hid hb1
  have HF := Lib.hid (And.intro fn (And.intro ft (And.intro fp (And.intro hlen hval))))
  have gl : (ps.length : Int) ≤ 65539 := by omega
  have hnz : nm.size ≤ 65536 := fn
  have htz : tx.size ≤ 262144 := by omega
  clear hcells hb1 hh T0 T2 T4 fp hlen hval fn ft
  go_enter Tryz.func6, Tryz.ntmps6
  go_wp2_with (fail)
  clear T3 hw1
  go_loopw [5, 12] (fun v5 v12 wr => SwRel false ps w1 v5 v12 wr) (fun _ b _ => ps.length - (intOf b).toNat)
  case atStart => exact ⟨0, ⟨#[]⟩, rfl, rfl, Nat.zero_le _, Nat.zero_le _, Lib.hid ⟨rfl, Below.refl _ _⟩⟩
  case round =>
    obtain ⟨i, o, rfl, rfl, hi, ho, HO⟩ := hrel
    by_cases hlt : i < ps.length
    · obtain ⟨p, hp⟩ : ∃ p, ps[i]? = some p := ⟨_, List.getElem?_eq_getElem hlt⟩
      obtain ⟨g, c9, hv9, hg9, c0, c1⟩ := (HC.out wr HO.out.2).2 i p hp
      injection hv9 with hv1 _ hv3
      subst hv1 hv3
      obtain ⟨f1, f2⟩ := HF.out.2.2.1 p (List.mem_of_getElem? hp)
      have fv := HF.out.2.2.2.2 p (List.mem_of_getElem? hp)
      have gi : (i : Int) < (ps.length : Int) := by omega
      have hi9 : i ≤ 65539 := by omega
      have hvl := val_len false p.2
      have hov : o.size ≤ 200000000000 := by omega
      obtain ⟨pn, pv⟩ := p
      simp only at c0 c1 f1 f2 fv hvl
      have QT := Lib.hid (fun W => refquote_any pv W (by omega))
      clear fv
      have fv : True := trivial
      obtain ⟨V, hV⟩ : ∃ V : ByteArray, writtenB escV pv = V := ⟨_, rfl⟩
      have hVl : V.data.toList = valW false pv := by rw [← hV] <;> simp [writtenB, valW]
      have hVz : V.size = (valW false pv).length := by rw [← hVl, size_list]
      rw [hV] at QT
      obtain ⟨wB, hwB⟩ : ∃ wB, wr.alloc (.cells #[.string pn, .string pv] 44) = wB := ⟨_, rfl⟩
      have hB : Below wr.heap.size wr wB := by rw [← hwB]; exact (Below.refl _ _).alloc (Nat.le_refl _) _
      have hhB : wB.heap[wr.heap.size]? = some (.cells #[.string pn, .string pv] 44) := by rw [← hwB]; exact heap_alloc_new wr _
      have P0 : wB.cell? ⟨wr.heap.size, 0, none⟩ = some (.string pn) := by rw [cell_of_row _ _ 0 _ 44 (0, 0) hhB]; rfl
      have P1 : wB.cell? ⟨wr.heap.size, 1, none⟩ = some (.string pv) := by rw [cell_of_row _ _ 1 _ 44 (0, 0) hhB]; rfl
      have HP := Lib.hid (And.intro hp (And.intro hlt (And.intro hVl (And.intro hB (And.intro P0 P1)))))
      have z1 : ¬ o.size + 1 > 9223372036854775807 := by omega
      have z2 : ¬ o.size + 1 + pn.size > 9223372036854775807 := by omega
      have z3 : ¬ o.size + 1 + pn.size + 1 > 9223372036854775807 := by omega
      have z4 : ¬ o.size + 1 + pn.size + 1 + 1 > 9223372036854775807 := by omega
      have z5 : ¬ o.size + 1 + pn.size + 1 + 1 + V.size > 9223372036854775807 := by omega
      have z6 : ¬ o.size + 1 + pn.size + 1 + 1 + V.size + 1 > 9223372036854775807 := by omega
      have hsz : (((((((o ++ ⟨#[32]⟩) ++ pn) ++ ⟨#[61]⟩) ++ ⟨#[34]⟩) ++ V) ++ ⟨#[34]⟩) : ByteArray).size ≤ 2000000 * (i + 1) := by
        simp only [ByteArray.size_append]
        show o.size + 1 + pn.size + 1 + 1 + V.size + 1 ≤ _
        omega
      have HSZ := Lib.hid hsz
      clear hp hlt hg9 fv hV hVl hVz hB hhB P0 hsz hvl f1 f2 hi ho hov
      go_wp2_with (fail)
      refine (QT.out _).mono ?_
      rintro e w4 ⟨rfl, hb4⟩
      have P0 := hb_cell hb4 HP.out.2.2.2.2.1
      have P2 := hb_cell hb4 HP.out.2.2.2.2.2
      have hB4 := below_cat HP.out.2.2.2.1 hb4
      have H4 := Lib.hid hB4
      clear P1 hwB hb4 hB4 c0 c1
      go_wp2_with (fail)
      go_round
      case rel => exact ⟨i + 1, _, rfl, by go_num, HP.out.2.1, HSZ.out, Lib.hid ⟨sw_step HP.out.1 HO.out.1 HP.out.2.2.1 rfl, (below_cat HO.out.2 H4.out)⟩⟩
      case measure => have := HP.out.2.1; simp [intOf]; omega
    · obtain rfl : i = ps.length := by omega
      have hP := HO.out.1
      rw [List.take_of_length_le (Nat.le_refl _)] at hP
      have hoz : o.size ≤ 200000000000 := by have := HF.out.2.2.2.1; omega
      have t0 := hb_cell HO.out.2 HT.out.1
      have t2 := hb_cell HO.out.2 HT.out.2.1
      have t4 := hb_cell HO.out.2 HT.out.2.2
      have HP := Lib.hid hP
      have HBE := Lib.hid (below_cat HB1.out HO.out.2)
      have hkc : kd = 1 ∨ kd = 2 ∨ kd = 3 ∨ kd = 4 ∨ kd = 5 ∨ kd = 6 ∨ kd = 7 ∨ kd = 8 := by omega
      clear hP hi ho hlt hk HT HC HO
      rcases hkc with rfl | rfl | rfl | rfl | rfl | rfl | rfl | rfl
      · have y1 : ¬ 5 + o.size > 9223372036854775807 := by omega
        have y2 : ¬ 5 + o.size + 2 > 9223372036854775807 := by omega
        have HE : ((⟨#[60, 63, 120, 109, 108]⟩ ++ o) ++ ⟨#[63, 62]⟩ : ByteArray) = ⟨(shownL false ⟨1, nm, ps, tx, rf⟩).toArray⟩ := str_of (by simp [shownL, HP.out])
        have HE := Lib.hid HE
        go_wp2_with (fail)
        go_ret
        exact ⟨by rw [← HE.out]; rfl, HBE.out⟩
      · have y1 : ¬ 1 + nm.size > 9223372036854775807 := by omega
        have y2 : ¬ 1 + nm.size + o.size > 9223372036854775807 := by omega
        have y3 : ¬ 1 + nm.size + o.size + 1 > 9223372036854775807 := by omega
        have HE : (((⟨#[60]⟩ ++ nm) ++ o) ++ ⟨#[62]⟩ : ByteArray) = ⟨(shownL false ⟨2, nm, ps, tx, rf⟩).toArray⟩ := str_of (by simp [shownL, HP.out])
        have HE := Lib.hid HE
        go_wp2_with (fail)
        go_ret
        exact ⟨by rw [← HE.out]; rfl, HBE.out⟩
      · have y1 : ¬ 2 + nm.size > 9223372036854775807 := by omega
        have y2 : ¬ 2 + nm.size + 1 > 9223372036854775807 := by omega
        have HE : ((⟨#[60, 47]⟩ ++ nm) ++ ⟨#[62]⟩ : ByteArray) = ⟨(shownL false ⟨3, nm, ps, tx, rf⟩).toArray⟩ := str_of (by simp [shownL])
        have HE := Lib.hid HE
        go_wp2_with (fail)
        go_ret
        exact ⟨by rw [← HE.out]; rfl, HBE.out⟩
      · have y1 : ¬ 1 + nm.size > 9223372036854775807 := by omega
        have y2 : ¬ 1 + nm.size + o.size > 9223372036854775807 := by omega
        have y3 : ¬ 1 + nm.size + o.size + 2 > 9223372036854775807 := by omega
        have HE : (((⟨#[60]⟩ ++ nm) ++ o) ++ ⟨#[47, 62]⟩ : ByteArray) = ⟨(shownL false ⟨4, nm, ps, tx, rf⟩).toArray⟩ := str_of (by simp [shownL, HP.out])
        have HE := Lib.hid HE
        go_wp2_with (fail)
        go_ret
        exact ⟨by rw [← HE.out]; rfl, HBE.out⟩
      · have TX := Lib.hid (reftext_any tx wr (by omega))
        have HE : (writtenB escT tx : ByteArray) = ⟨(shownL false ⟨5, nm, ps, tx, rf⟩).toArray⟩ := str_of (by simp [shownL, writtenB])
        have HE := Lib.hid HE
        go_wp2_with (fail)
        refine TX.out.mono ?_
        rintro e w5 ⟨rfl, hb5⟩
        have H5 := Lib.hid (below_cat HBE.out hb5)
        clear hb5
        go_wp2_with (fail)
        go_ret
        exact ⟨by rw [← HE.out]; rfl, H5.out⟩
      · have y1 : ¬ 9 + tx.size > 9223372036854775807 := by omega
        have y2 : ¬ 9 + tx.size + 3 > 9223372036854775807 := by omega
        have HE : ((⟨#[60, 33, 91, 67, 68, 65, 84, 65, 91]⟩ ++ tx) ++ ⟨#[93, 93, 62]⟩ : ByteArray) = ⟨(shownL false ⟨6, nm, ps, tx, rf⟩).toArray⟩ := str_of (by simp [shownL])
        have HE := Lib.hid HE
        go_wp2_with (fail)
        go_ret
        exact ⟨by rw [← HE.out]; rfl, HBE.out⟩
      · have y1 : ¬ 4 + tx.size > 9223372036854775807 := by omega
        have y2 : ¬ 4 + tx.size + 3 > 9223372036854775807 := by omega
        have HE : ((⟨#[60, 33, 45, 45]⟩ ++ tx) ++ ⟨#[45, 45, 62]⟩ : ByteArray) = ⟨(shownL false ⟨7, nm, ps, tx, rf⟩).toArray⟩ := str_of (by simp [shownL])
        have HE := Lib.hid HE
        go_wp2_with (fail)
        go_ret
        exact ⟨by rw [← HE.out]; rfl, HBE.out⟩
      · by_cases hz : tx.size = 0
        · have ht0 : tx = ⟨#[]⟩ := by
            apply ByteArray.ext
            exact Array.eq_empty_of_size_eq_zero hz
          subst ht0
          have y1 : ¬ 2 + nm.size > 9223372036854775807 := by omega
          have y2 : ¬ 2 + nm.size + 2 > 9223372036854775807 := by omega
          have HE : ((⟨#[60, 63]⟩ ++ nm) ++ ⟨#[63, 62]⟩ : ByteArray) = ⟨(shownL false ⟨8, nm, ps, ⟨#[]⟩, rf⟩).toArray⟩ := str_of (by simp [shownL, gapW]; rfl)
          have HE := Lib.hid HE
          go_wp2_with (fail)
          go_ret
          exact ⟨by rw [← HE.out]; rfl, HBE.out⟩
        · have hne : tx.toList.isEmpty = false := tx_some hz
          have hne2 : (tx.toList == []) = false := by rw [beq_eq_false_iff_ne]; intro e; rw [e] at hne; cases hne
          have y1 : ¬ 2 + nm.size > 9223372036854775807 := by omega
          have y2 : ¬ 2 + nm.size + 1 > 9223372036854775807 := by omega
          have y3 : ¬ 2 + nm.size + 1 + tx.size > 9223372036854775807 := by omega
          have y4 : ¬ 2 + nm.size + 1 + tx.size + 2 > 9223372036854775807 := by omega
          have HE : ((((⟨#[60, 63]⟩ ++ nm) ++ ⟨#[32]⟩) ++ tx) ++ ⟨#[63, 62]⟩ : ByteArray) = ⟨(shownL false ⟨8, nm, ps, tx, rf⟩).toArray⟩ := str_of (by simp [shownL, gapW, hz])
          have HE := Lib.hid HE
          clear hz
          go_wp2_with (fail)
          go_ret
          exact ⟨by rw [← HE.out]; rfl, HBE.out⟩
set_option maxRecDepth 100000 in
set_option maxHeartbeats 16000000 in
theorem shown_walk_true (x : Tok) (a r : Int) (v : Value) (w : World) (h : ShIn true x w v) (hk : 1 ≤ x.kind ∧ x.kind ≤ 8) :
    Calls Tryz.prog 6 #[.agg #[.int .i64 (x.kind : Int), .int .i64 a, .string x.name, v, .string x.text, .int .i64 r], .string ⟨#[39]⟩] w fun e w' => e = .returned (.string ⟨(shownL true x).toArray⟩) ∧ Below w.heap.size w w' := by
  obtain ⟨kd, nm, ps, tx, rf⟩ := x
  obtain ⟨⟨⟨q, c, rfl⟩, hcells⟩, ⟨fn, ft, fp⟩, hlen, hval⟩ := h
  simp only at fn ft fp hlen hval hk
  obtain ⟨w1, hw1⟩ : ∃ w1, w.alloc (.cells #[.int .i64 (kd : Int), .int .i64 a, .string nm, .slice q ps.length c, .string tx, .int .i64 r] 31) = w1 := ⟨_, rfl⟩
  have hb1 : Below w.heap.size w w1 := by rw [← hw1]; exact (Below.refl _ _).alloc (Nat.le_refl _) _
  have hh : w1.heap[w.heap.size]? = some (.cells #[.int .i64 (kd : Int), .int .i64 a, .string nm, .slice q ps.length c, .string tx, .int .i64 r] 31) := by rw [← hw1]; exact heap_alloc_new w _
  have T0 : w1.cell? ⟨w.heap.size, 0, none⟩ = some (.int .i64 (kd : Int)) := by rw [cell_of_row _ _ 0 _ 31 (0, 0) hh]; rfl
  have T2 : w1.cell? ⟨w.heap.size, 2, none⟩ = some (.string nm) := by rw [cell_of_row _ _ 2 _ 31 (0, 0) hh]; rfl
  have T4 : w1.cell? ⟨w.heap.size, 4, none⟩ = some (.string tx) := by rw [cell_of_row _ _ 4 _ 31 (0, 0) hh]; rfl
  have T3 : w1.cell? ⟨w.heap.size, 3, none⟩ = some (.slice q ps.length c) := by rw [cell_of_row _ _ 3 _ 31 (0, 0) hh]; rfl
  have HT := Lib.hid (And.intro T0 (And.intro T2 T4))
  have HC := Lib.hid (fun W (y : Below w1.heap.size w1 W) => (show PCells w (.slice q ps.length c) ps from ⟨⟨q, c, rfl⟩, hcells⟩).below (below_cat hb1 y))
  have HB1 := Lib.hid hb1
  have HF := Lib.hid (And.intro fn (And.intro ft (And.intro fp (And.intro hlen hval))))
  have gl : (ps.length : Int) ≤ 65539 := by omega
  have hnz : nm.size ≤ 65536 := fn
  have htz : tx.size ≤ 262144 := by omega
  clear hcells hb1 hh T0 T2 T4 fp hlen hval fn ft
  go_enter Tryz.func6, Tryz.ntmps6
  go_wp2_with (fail)
  clear T3 hw1
  go_loopw [5, 12] (fun v5 v12 wr => SwRel true ps w1 v5 v12 wr) (fun _ b _ => ps.length - (intOf b).toNat)
  case atStart => exact ⟨0, ⟨#[]⟩, rfl, rfl, Nat.zero_le _, Nat.zero_le _, Lib.hid ⟨rfl, Below.refl _ _⟩⟩
  case round =>
    obtain ⟨i, o, rfl, rfl, hi, ho, HO⟩ := hrel
    by_cases hlt : i < ps.length
    · obtain ⟨p, hp⟩ : ∃ p, ps[i]? = some p := ⟨_, List.getElem?_eq_getElem hlt⟩
      obtain ⟨g, c9, hv9, hg9, c0, c1⟩ := (HC.out wr HO.out.2).2 i p hp
      injection hv9 with hv1 _ hv3
      subst hv1 hv3
      obtain ⟨f1, f2⟩ := HF.out.2.2.1 p (List.mem_of_getElem? hp)
      have fv := HF.out.2.2.2.2 p (List.mem_of_getElem? hp)
      have gi : (i : Int) < (ps.length : Int) := by omega
      have hi9 : i ≤ 65539 := by omega
      have hvl := val_len true p.2
      have hov : o.size ≤ 200000000000 := by omega
      obtain ⟨pn, pv⟩ := p
      simp only at c0 c1 f1 f2 fv hvl
      have QT := Lib.hid (fun W => refquote_any pv W (by omega))
      have AP := Lib.hid (fun W => apart_any pv W (by omega))
      rw [apart_fl fv] at AP
      obtain ⟨V, hV⟩ : ∃ V : ByteArray, (⟨(valW true pv).toArray⟩ : ByteArray) = V := ⟨_, rfl⟩
      have hVl : V.data.toList = valW true pv := by rw [← hV] <;> simp [writtenB, valW]
      have hVz : V.size = (valW true pv).length := by rw [← hVl, size_list]
      rw [hV] at AP
      obtain ⟨wB, hwB⟩ : ∃ wB, wr.alloc (.cells #[.string pn, .string pv] 44) = wB := ⟨_, rfl⟩
      have hB : Below wr.heap.size wr wB := by rw [← hwB]; exact (Below.refl _ _).alloc (Nat.le_refl _) _
      have hhB : wB.heap[wr.heap.size]? = some (.cells #[.string pn, .string pv] 44) := by rw [← hwB]; exact heap_alloc_new wr _
      have P0 : wB.cell? ⟨wr.heap.size, 0, none⟩ = some (.string pn) := by rw [cell_of_row _ _ 0 _ 44 (0, 0) hhB]; rfl
      have P1 : wB.cell? ⟨wr.heap.size, 1, none⟩ = some (.string pv) := by rw [cell_of_row _ _ 1 _ 44 (0, 0) hhB]; rfl
      have HP := Lib.hid (And.intro hp (And.intro hlt (And.intro hVl (And.intro hB (And.intro P0 P1)))))
      have z1 : ¬ o.size + 1 > 9223372036854775807 := by omega
      have z2 : ¬ o.size + 1 + pn.size > 9223372036854775807 := by omega
      have z3 : ¬ o.size + 1 + pn.size + 1 > 9223372036854775807 := by omega
      have z4 : ¬ o.size + 1 + pn.size + 1 + 1 > 9223372036854775807 := by omega
      have z5 : ¬ o.size + 1 + pn.size + 1 + 1 + V.size > 9223372036854775807 := by omega
      have z6 : ¬ o.size + 1 + pn.size + 1 + 1 + V.size + 1 > 9223372036854775807 := by omega
      have hsz : (((((((o ++ ⟨#[32]⟩) ++ pn) ++ ⟨#[61]⟩) ++ ⟨#[39]⟩) ++ V) ++ ⟨#[39]⟩) : ByteArray).size ≤ 2000000 * (i + 1) := by
        simp only [ByteArray.size_append]
        show o.size + 1 + pn.size + 1 + 1 + V.size + 1 ≤ _
        omega
      have HSZ := Lib.hid hsz
      clear hp hlt hg9 fv hV hVl hVz hB hhB P0 hsz hvl f1 f2 hi ho hov
      go_wp2_with (fail)
      refine (QT.out _).mono ?_
      rintro e w4 ⟨rfl, hb4⟩
      have P0 := hb_cell hb4 HP.out.2.2.2.2.1
      have P2 := hb_cell hb4 HP.out.2.2.2.2.2
      have hB4 := below_cat HP.out.2.2.2.1 hb4
      have H4 := Lib.hid hB4
      clear P1 hwB hb4 hB4 c0 c1
      go_wp2_with (fail)
      refine (AP.out _).mono ?_
      rintro e w5 ⟨rfl, hb5⟩
      have P0 := hb_cell hb5 P0
      have H5 := Lib.hid (below_cat H4.out hb5)
      clear P2 hb5
      go_wp2_with (fail)
      go_round
      case rel => exact ⟨i + 1, _, rfl, by go_num, HP.out.2.1, HSZ.out, Lib.hid ⟨sw_step HP.out.1 HO.out.1 HP.out.2.2.1 rfl, (below_cat HO.out.2 H5.out)⟩⟩
      case measure => have := HP.out.2.1; simp [intOf]; omega
    · obtain rfl : i = ps.length := by omega
      have hP := HO.out.1
      rw [List.take_of_length_le (Nat.le_refl _)] at hP
      have hoz : o.size ≤ 200000000000 := by have := HF.out.2.2.2.1; omega
      have t0 := hb_cell HO.out.2 HT.out.1
      have t2 := hb_cell HO.out.2 HT.out.2.1
      have t4 := hb_cell HO.out.2 HT.out.2.2
      have HP := Lib.hid hP
      have HBE := Lib.hid (below_cat HB1.out HO.out.2)
      have hkc : kd = 1 ∨ kd = 2 ∨ kd = 3 ∨ kd = 4 ∨ kd = 5 ∨ kd = 6 ∨ kd = 7 ∨ kd = 8 := by omega
      clear hP hi ho hlt hk HT HC HO
      rcases hkc with rfl | rfl | rfl | rfl | rfl | rfl | rfl | rfl
      · have y1 : ¬ 5 + o.size > 9223372036854775807 := by omega
        have y2 : ¬ 5 + o.size + 2 > 9223372036854775807 := by omega
        have HE : ((⟨#[60, 63, 120, 109, 108]⟩ ++ o) ++ ⟨#[63, 62]⟩ : ByteArray) = ⟨(shownL true ⟨1, nm, ps, tx, rf⟩).toArray⟩ := str_of (by simp [shownL, HP.out])
        have HE := Lib.hid HE
        go_wp2_with (fail)
        go_ret
        exact ⟨by rw [← HE.out]; rfl, HBE.out⟩
      · have y1 : ¬ 1 + nm.size > 9223372036854775807 := by omega
        have y2 : ¬ 1 + nm.size + o.size > 9223372036854775807 := by omega
        have y3 : ¬ 1 + nm.size + o.size + 1 > 9223372036854775807 := by omega
        have HE : (((⟨#[60]⟩ ++ nm) ++ o) ++ ⟨#[62]⟩ : ByteArray) = ⟨(shownL true ⟨2, nm, ps, tx, rf⟩).toArray⟩ := str_of (by simp [shownL, HP.out])
        have HE := Lib.hid HE
        go_wp2_with (fail)
        go_ret
        exact ⟨by rw [← HE.out]; rfl, HBE.out⟩
      · have y1 : ¬ 2 + nm.size > 9223372036854775807 := by omega
        have y2 : ¬ 2 + nm.size + 1 > 9223372036854775807 := by omega
        have HE : ((⟨#[60, 47]⟩ ++ nm) ++ ⟨#[62]⟩ : ByteArray) = ⟨(shownL true ⟨3, nm, ps, tx, rf⟩).toArray⟩ := str_of (by simp [shownL])
        have HE := Lib.hid HE
        go_wp2_with (fail)
        go_ret
        exact ⟨by rw [← HE.out]; rfl, HBE.out⟩
      · have y1 : ¬ 1 + nm.size > 9223372036854775807 := by omega
        have y2 : ¬ 1 + nm.size + o.size > 9223372036854775807 := by omega
        have y3 : ¬ 1 + nm.size + o.size + 2 > 9223372036854775807 := by omega
        have HE : (((⟨#[60]⟩ ++ nm) ++ o) ++ ⟨#[47, 62]⟩ : ByteArray) = ⟨(shownL true ⟨4, nm, ps, tx, rf⟩).toArray⟩ := str_of (by simp [shownL, HP.out])
        have HE := Lib.hid HE
        go_wp2_with (fail)
        go_ret
        exact ⟨by rw [← HE.out]; rfl, HBE.out⟩
      · have TX := Lib.hid (reftext_any tx wr (by omega))
        have HE : (writtenB escT tx : ByteArray) = ⟨(shownL true ⟨5, nm, ps, tx, rf⟩).toArray⟩ := str_of (by simp [shownL, writtenB])
        have HE := Lib.hid HE
        go_wp2_with (fail)
        refine TX.out.mono ?_
        rintro e w5 ⟨rfl, hb5⟩
        have H5 := Lib.hid (below_cat HBE.out hb5)
        clear hb5
        go_wp2_with (fail)
        go_ret
        exact ⟨by rw [← HE.out]; rfl, H5.out⟩
      · have y1 : ¬ 9 + tx.size > 9223372036854775807 := by omega
        have y2 : ¬ 9 + tx.size + 3 > 9223372036854775807 := by omega
        have HE : ((⟨#[60, 33, 91, 67, 68, 65, 84, 65, 91]⟩ ++ tx) ++ ⟨#[93, 93, 62]⟩ : ByteArray) = ⟨(shownL true ⟨6, nm, ps, tx, rf⟩).toArray⟩ := str_of (by simp [shownL])
        have HE := Lib.hid HE
        go_wp2_with (fail)
        go_ret
        exact ⟨by rw [← HE.out]; rfl, HBE.out⟩
      · have y1 : ¬ 4 + tx.size > 9223372036854775807 := by omega
        have y2 : ¬ 4 + tx.size + 3 > 9223372036854775807 := by omega
        have HE : ((⟨#[60, 33, 45, 45]⟩ ++ tx) ++ ⟨#[45, 45, 62]⟩ : ByteArray) = ⟨(shownL true ⟨7, nm, ps, tx, rf⟩).toArray⟩ := str_of (by simp [shownL])
        have HE := Lib.hid HE
        go_wp2_with (fail)
        go_ret
        exact ⟨by rw [← HE.out]; rfl, HBE.out⟩
      · by_cases hz : tx.size = 0
        · have ht0 : tx = ⟨#[]⟩ := by
            apply ByteArray.ext
            exact Array.eq_empty_of_size_eq_zero hz
          subst ht0
          have y1 : ¬ 2 + nm.size > 9223372036854775807 := by omega
          have y2 : ¬ 2 + nm.size + 2 > 9223372036854775807 := by omega
          have HE : ((⟨#[60, 63]⟩ ++ nm) ++ ⟨#[63, 62]⟩ : ByteArray) = ⟨(shownL true ⟨8, nm, ps, ⟨#[]⟩, rf⟩).toArray⟩ := str_of (by simp [shownL, gapW]; rfl)
          have HE := Lib.hid HE
          go_wp2_with (fail)
          go_ret
          exact ⟨by rw [← HE.out]; rfl, HBE.out⟩
        · have hne : tx.toList.isEmpty = false := tx_some hz
          have hne2 : (tx.toList == []) = false := by rw [beq_eq_false_iff_ne]; intro e; rw [e] at hne; cases hne
          have y1 : ¬ 2 + nm.size > 9223372036854775807 := by omega
          have y2 : ¬ 2 + nm.size + 1 > 9223372036854775807 := by omega
          have y3 : ¬ 2 + nm.size + 1 + tx.size > 9223372036854775807 := by omega
          have y4 : ¬ 2 + nm.size + 1 + tx.size + 2 > 9223372036854775807 := by omega
          have HE : ((((⟨#[60, 63]⟩ ++ nm) ++ ⟨#[32]⟩) ++ tx) ++ ⟨#[63, 62]⟩ : ByteArray) = ⟨(shownL true ⟨8, nm, ps, tx, rf⟩).toArray⟩ := str_of (by simp [shownL, gapW, hz])
          have HE := Lib.hid HE
          clear hz
          go_wp2_with (fail)
          go_ret
          exact ⟨by rw [← HE.out]; rfl, HBE.out⟩
theorem shown_any (s : Bool) (x : Tok) (a r : Int) (v : Value) (w : World) (h : ShIn s x w v) (hk : 1 ≤ x.kind ∧ x.kind ≤ 8) :
    Calls Tryz.prog 6 #[.agg #[.int .i64 (x.kind : Int), .int .i64 a, .string x.name, v, .string x.text, .int .i64 r], .string (quoteS s)] w fun e w' => e = .returned (.string ⟨(shownL s x).toArray⟩) ∧ Below w.heap.size w w' := by
  cases s
  · exact shown_walk_false x a r v w h hk
  · exact shown_walk_true x a r v w h hk
end Go.Proofs.YteipiaefamfleaaGreatDoor
