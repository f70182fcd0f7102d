/- Proved here: the reader's upTo where the end doesn't stand, and quoted: what they read, where they leave the reader. | Proved here: the reader's quoted: what it reads, where it leaves the reader. | Proved here: the reader's written: the written name that it reads, where it leaves the reader. | Proved here: plain facts on what the scanner reads: where names, pairs and tokens end, what they are; no walk. | Proved here: plain facts on tokens: where each ends, which have names, that no pair stands twice, that no two texts stand side by side; no walk. | Proved here: plain facts on a text's tokens: they stand one behind the other from the place 0 on, no two texts side by side; no walk. | Proved here: plain facts on the first fault of two texts behind one another; no program is named. | Proved here: plain facts: two texts, or two values, that are right are read as both behind one another, unless ]]> stands across them; no program is named. | Proved here: plain facts on how line ends are made one byte, for texts that are made so already, and for two behind one another; no program is named. | Proved here: plain facts on what texts and values say at a place, told from the character that is read there; no program is named. | Proved here: plain facts: a character is read in what is written as it is read in the text itself; no program is named. | Proved here: plain facts: what is written of a text or a value is read as it was; of one with a fault the reader tells that one; no program is named. -/
import Derived.Test.YteipiaefamfleaaGreatDoorM0
import Derived.Stop.FmtQuoteTie
namespace Go.Proofs.YteipiaefamfleaaGreatDoor
open Go.RowKit

set_option maxHeartbeats 4000000 in
set_option maxRecDepth 100000 in
theorem upTo_no (t s : ByteArray) (b off cap R k : Nat) (w0 w : World) (E : Env w0 R b off cap t) (hB : Below w0.heap.size w0 w) (h : Rd w R (rv b off cap t) k) (hk : k ≤ t.size) (hs0 : 0 < s.size) (hss : s.size ≤ 100) (hi : findF t k s.data.toList = none) :
    Calls Tryz.prog 45 #[.pointer (some ⟨R, 0, none⟩), .string s] w fun e w' => (∃ q n c, e = .returned (.tuple #[.slice q n c, .bool false])) ∧ Rd w' R (rv b off cap t) k ∧ Moved R w w' := by
  have hx := E.at_ hB
  obtain ⟨kc, W2, hcv, hkc, hb2, hsz2, hwc⟩ := bytes_of w.drew s
  rw [show w.drew.heap.size = w.heap.size from rfl] at hcv hwc
  have hB2 : Below w.heap.size w W2 := below_cat ((Below.refl _ _).drew) hb2
  have hM2 : Moved R w W2 := Moved.of_below hB2
  have h0 := h.text
  have h1 := h.place
  have r0 := hb_cell hB2 h0
  have r1 := hb_cell hB2 h1
  have f1 := find_none hi
  have hcells : ∀ j, j < t.size → W2.cell? ⟨b, off + j, none⟩ = some (.int .u8 (by_ t j)) := fun j hj => hb_cell hB2 (hx.cells j hj)
  have MX := E.maxed (E.go hB hM2)
  have hroom := hx.room
  have H := Lib.hid h
  by_cases hne : cap = k
  · obtain rfl : k = t.size := by omega
    obtain rfl : cap = t.size := by omega
    clear hne
    have PX := cut_rest t s (some ⟨b, off, none⟩) b off t.size t.size w.heap.size kc w W2 hB2 hs0 MX hx.small hss hx.room hk hcells ⟨_, rfl⟩ (fun e => by omega) hwc
    rw [Lib.cutV, if_neg (by omega), Nat.sub_self] at PX
    have HP := Lib.hid PX
    clear PX hcells hx hB2 hM2 hb2 hsz2 hwc f1 h E hB hk hi MX hroom
    go_enter Tryz.func45, Tryz.ntmps45
    go_wp2_with (fail)
    go_region_with (go_at_call 50; refine (HP.out).mono ?_; rintro e w' ⟨rfl, hw'⟩)
    all_goals
      have HW := Lib.hid hw'
      clear hw' h0 h1 r0 r1
      go_wp2_with (fail)
      go_ret2
      exact ⟨⟨_, _, _, rfl⟩, H.out.below HW.out, Moved.of_below HW.out⟩
  · have hbs : (k : Int) ≤ (cap : Int) := by omega
    have hbn : (0 : Int) ≤ (k : Int) := by omega
    have hbl : (k : Int) ≤ (t.size : Int) := by omega
    have PX := cut_rest t s (some ⟨b, off + k, none⟩) b off cap k w.heap.size kc w W2 hB2 hs0 MX hx.small hss hx.room hk hcells ⟨_, rfl⟩ (fun _ => rfl) hwc
    rw [Lib.cutV, if_neg (by omega)] at PX
    have HP := Lib.hid PX
    clear PX hcells hx hB2 hM2 hb2 hsz2 hwc f1 h E hB hk hi MX hroom
    go_enter Tryz.func45, Tryz.ntmps45
    go_wp2_with (fail)
    go_region_with (go_at_call 50; refine (HP.out).mono ?_; rintro e w' ⟨rfl, hw'⟩)
    all_goals
      have HW := Lib.hid hw'
      clear hw' h0 h1 r0 r1
      go_wp2_with (fail)
      go_ret2
      exact ⟨⟨_, _, _, rfl⟩, H.out.below HW.out, Moved.of_below HW.out⟩
end Go.Proofs.YteipiaefamfleaaGreatDoor
namespace Go.Proofs.YteipiaefamfleaaGreatDoor
open Go.RowKit

theorem quoted_yes (t : ByteArray) (b off cap R k : Nat) (raw : ByteArray) (j : Nat) (w0 w : World) (E : Env w0 R b off cap t) (hB : Below w0.heap.size w0 w) (h : Rd w R (rv b off cap t) k) (hk : k ≤ t.size) (hq : quotedF t k = some (raw, j)) :
    Calls Tryz.prog 54 #[.pointer (some ⟨R, 0, none⟩)] w fun e w' => (∃ q c, e = .returned (.tuple #[.slice q raw.size c, .bool true]) ∧ HoldsB w' q raw ∧ raw.size ≤ c ∧ q ≠ none) ∧ Rd w' R (rv b off cap t) j ∧ j ≤ t.size ∧ Moved R w w' := by
  unfold quotedF at hq
  split at hq
  · rename_i hs
    cases hf : findF t (k + 1) [39] with
    | none => rw [hf] at hq; cases hq
    | some i =>
      rw [hf] at hq
      simp only [Option.map_some, Option.some.injEq, Prod.mk.injEq] at hq
      obtain ⟨rfl, rfl⟩ := hq
      have hl := sees_room hk hs
      obtain ⟨_, g2, g3⟩ := find_some hl hf
      have hsz : (t.extract (k + 1) i).size = i - (k + 1) := by
        simp only [List.length_cons, List.length_nil] at g3
        simp
        omega
      have T := Lib.hid (take_yes t ⟨#[39]⟩ b off cap R k w h hk (E.at_ hB) (by decide) hs)
      have U := Lib.hid (fun W g (y : Below w0.heap.size w0 W) => upTo_yes t ⟨#[39]⟩ b off cap R (k + 1) i w0 W E y g hl (by decide) (by decide) hf)
      have HE := Lib.hid (And.intro E hB)
      rw [hsz]
      clear h hs hf E hB hsz
      go_enter Tryz.func54, Tryz.ntmps54
      go_wp2_with (fail)
      refine T.out.mono ?_
      rintro e w1 ⟨rfl, hr1, hm1⟩
      have HB1 := HE.out.1.go HE.out.2 hm1
      go_wp2_with (fail)
      refine (U.out w1 hr1 HB1).mono ?_
      rintro e w2 ⟨⟨q, c, rfl, q1, q2, q3⟩, hr2, hm2⟩
      go_wp2_with (fail)
      go_ret2
      exact ⟨⟨q, c, rfl, q1, q2, q3⟩, hr2, g3, hm1.trans hm2⟩
  · rename_i hs
    rw [Bool.not_eq_true] at hs
    split at hq
    · rename_i hs2
      cases hf : findF t (k + 1) [34] with
      | none => rw [hf] at hq; cases hq
      | some i =>
        rw [hf] at hq
        simp only [Option.map_some, Option.some.injEq, Prod.mk.injEq] at hq
        obtain ⟨rfl, rfl⟩ := hq
        have hl := sees_room hk hs2
        obtain ⟨_, g2, g3⟩ := find_some hl hf
        have hsz : (t.extract (k + 1) i).size = i - (k + 1) := by
          simp only [List.length_cons, List.length_nil] at g3
          simp
          omega
        have T := Lib.hid (take_no t ⟨#[39]⟩ b off cap R k w h hk (E.at_ hB) hs)
        have T2 := Lib.hid (fun W g (y : Below w0.heap.size w0 W) => take_yes t ⟨#[34]⟩ b off cap R k W g hk (E.at_ y) (by decide) hs2)
        have U := Lib.hid (fun W g (y : Below w0.heap.size w0 W) => upTo_yes t ⟨#[34]⟩ b off cap R (k + 1) i w0 W E y g hl (by decide) (by decide) hf)
        have HE := Lib.hid (And.intro E hB)
        rw [hsz]
        clear h hs hs2 hf E hB hsz
        go_enter Tryz.func54, Tryz.ntmps54
        go_wp2_with (fail)
        refine T.out.mono ?_
        rintro e w1 ⟨rfl, hr1, hm1⟩
        have HB1 := HE.out.1.go HE.out.2 hm1
        go_wp2_with (fail)
        refine (T2.out w1 hr1 HB1).mono ?_
        rintro e w2 ⟨rfl, hr2, hm2⟩
        have HB2 := HE.out.1.go HB1 hm2
        go_wp2_with (fail)
        refine (U.out w2 hr2 HB2).mono ?_
        rintro e w3 ⟨⟨q, c, rfl, q1, q2, q3⟩, hr3, hm3⟩
        go_wp2_with (fail)
        go_ret2
        exact ⟨⟨q, c, rfl, q1, q2, q3⟩, hr3, g3, (hm1.trans hm2).trans hm3⟩
    · cases hq
theorem quoted_no (t : ByteArray) (b off cap R k : Nat) (w0 w : World) (E : Env w0 R b off cap t) (hB : Below w0.heap.size w0 w) (h : Rd w R (rv b off cap t) k) (hk : k ≤ t.size) (hq : quotedF t k = none) :
    Calls Tryz.prog 54 #[.pointer (some ⟨R, 0, none⟩)] w fun e w' => (∃ q n c, e = .returned (.tuple #[.slice q n c, .bool false])) ∧ (∃ j, j ≤ t.size ∧ Rd w' R (rv b off cap t) j) ∧ Moved R w w' := by
  unfold quotedF at hq
  split at hq
  · rename_i hs
    have hf : findF t (k + 1) [39] = none := by
      cases hf : findF t (k + 1) [39] with
      | none => rfl
      | some i => rw [hf] at hq; cases hq
    have hl := sees_room hk hs
    have T := Lib.hid (take_yes t ⟨#[39]⟩ b off cap R k w h hk (E.at_ hB) (by decide) hs)
    have U := Lib.hid (fun W g (y : Below w0.heap.size w0 W) => upTo_no t ⟨#[39]⟩ b off cap R (k + 1) w0 W E y g hl (by decide) (by decide) hf)
    have HE := Lib.hid (And.intro E hB)
    clear h hs hf E hB hq
    go_enter Tryz.func54, Tryz.ntmps54
    go_wp2_with (fail)
    refine T.out.mono ?_
    rintro e w1 ⟨rfl, hr1, hm1⟩
    have HB1 := HE.out.1.go HE.out.2 hm1
    go_wp2_with (fail)
    refine (U.out w1 hr1 HB1).mono ?_
    rintro e w2 ⟨⟨q, n, c, rfl⟩, hr2, hm2⟩
    go_wp2_with (fail)
    go_ret2
    exact ⟨⟨q, n, c, rfl⟩, ⟨_, hl, hr2⟩, hm1.trans hm2⟩
  · rename_i hs
    rw [Bool.not_eq_true] at hs
    have T := Lib.hid (take_no t ⟨#[39]⟩ b off cap R k w h hk (E.at_ hB) hs)
    have HE := Lib.hid (And.intro E hB)
    split at hq
    · rename_i hs2
      have hf : findF t (k + 1) [34] = none := by
        cases hf : findF t (k + 1) [34] with
        | none => rfl
        | some i => rw [hf] at hq; cases hq
      have hl := sees_room hk hs2
      have T2 := Lib.hid (fun W g (y : Below w0.heap.size w0 W) => take_yes t ⟨#[34]⟩ b off cap R k W g hk (E.at_ y) (by decide) hs2)
      have U := Lib.hid (fun W g (y : Below w0.heap.size w0 W) => upTo_no t ⟨#[34]⟩ b off cap R (k + 1) w0 W E y g hl (by decide) (by decide) hf)
      clear h hs hs2 hf E hB hq
      go_enter Tryz.func54, Tryz.ntmps54
      go_wp2_with (fail)
      refine T.out.mono ?_
      rintro e w1 ⟨rfl, hr1, hm1⟩
      have HB1 := HE.out.1.go HE.out.2 hm1
      go_wp2_with (fail)
      refine (T2.out w1 hr1 HB1).mono ?_
      rintro e w2 ⟨rfl, hr2, hm2⟩
      have HB2 := HE.out.1.go HB1 hm2
      go_wp2_with (fail)
      refine (U.out w2 hr2 HB2).mono ?_
      rintro e w3 ⟨⟨q, n, c, rfl⟩, hr3, hm3⟩
      go_wp2_with (fail)
      go_ret2
      exact ⟨⟨q, n, c, rfl⟩, ⟨_, hl, hr3⟩, (hm1.trans hm2).trans hm3⟩
    · rename_i hs2
      rw [Bool.not_eq_true] at hs2
      have T2 := Lib.hid (fun W g (y : Below w0.heap.size w0 W) => take_no t ⟨#[34]⟩ b off cap R k W g hk (E.at_ y) hs2)
      clear h hs hs2 E hB hq
      go_enter Tryz.func54, Tryz.ntmps54
      go_wp2_with (fail)
      refine T.out.mono ?_
      rintro e w1 ⟨rfl, hr1, hm1⟩
      have HB1 := HE.out.1.go HE.out.2 hm1
      go_wp2_with (fail)
      refine (T2.out w1 hr1 HB1).mono ?_
      rintro e w2 ⟨rfl, hr2, hm2⟩
      go_wp2_with (fail)
      go_ret2
      exact ⟨⟨none, 0, 0, rfl⟩, ⟨k, hk, hr2⟩, hm1.trans hm2⟩
end Go.Proofs.YteipiaefamfleaaGreatDoor
namespace Go.Proofs.YteipiaefamfleaaGreatDoor
open Go.RowKit

/-- What Next answers at a place of the text, or behind it. -/
def nextE (t : ByteArray) (k : Nat) : Nat × Nat × Nat := if k < t.size then nextF t k else (0, 0, 1)
theorem next_any (t : ByteArray) (b off cap k : Nat) (w : World) (hT : Tabs w) (hx : Txt w b off cap t) :
    Calls Tryz.prog 18 #[rv b off cap t, .int .i64 (k : Int)] w fun e w' => e = .returned (.tuple #[.int .i32 ((nextE t k).1 : Int), .int .i64 ((nextE t k).2.1 : Int), .int .i64 ((nextE t k).2.2 : Int)]) ∧ Below w.heap.size w w' := by
  unfold nextE
  by_cases h : k < t.size
  · rw [if_pos h]
    exact next_in t b off cap k w hT (by have := hx.small; omega) hx.room h hx.cells
  · rw [if_neg h]
    refine (next_out (some ⟨b, off, none⟩) t.size cap (k : Int) w (.inr (by omega))).mono ?_
    rintro e w' ⟨rfl, rfl⟩
    exact ⟨rfl, Below.refl _ _⟩
theorem next_step {t : ByteArray} {k : Nat} (h : k < t.size) (h0 : (nextF t k).2.2 = 0) : k < (nextF t k).2.1 ∧ (nextF t k).2.1 ≤ t.size := by
  have hle := rd_le t k h
  unfold nextF at h0 ⊢
  split at h0
  · cases h0
  · rename_i g
    rw [if_neg g]
    split at h0
    · rename_i g2
      rw [if_pos g2]
      simp only
      omega
    · cases h0
def goesB (t : ByteArray) (k : Nat) : Prop := k < t.size ∧ (nextF t k).2.2 = 0 ∧ ((nextF t k).1 = 58 ∨ partB ((nextF t k).1 : Nat) = true)
theorem parts_stop {t : ByteArray} {f k : Nat} (h : ¬ goesB t k) : partsGo t f k = k := by
  cases f with
  | zero => rfl
  | succ f => exact if_neg h
theorem parts_step {t : ByteArray} {f k : Nat} (h : goesB t k) : partsGo t (f + 1) k = partsGo t f (nextF t k).2.1 := if_pos h
theorem nextE_no {t : ByteArray} {k : Nat} (h : ((nextE t k).2.2 : Nat) ≠ 0) : ¬ goesB t k := by
  rintro ⟨h1, h2, _⟩
  unfold nextE at h
  rw [if_pos h1] at h
  exact h h2
theorem nextE_in {t : ByteArray} {k : Nat} (h : (nextE t k).2.2 = 0) : k < t.size ∧ nextE t k = nextF t k := by
  unfold nextE at h ⊢
  split at h
  · rename_i g
    rw [if_pos g]
    exact ⟨g, rfl⟩
  · cases h
theorem conv_part {W : World} {b off cap k j : Nat} {t : ByteArray} (hx : Txt W b off cap t) (hj : j ≤ t.size) (hkj : k < j) : (convert 22 9 (.slice (some ⟨b, off + k, none⟩) (j - k) (cap - k))).run Tryz.prog W = .ok (.string (t.extract k j)) W := by
  have hh := holds_part (p := some ⟨b, off + k, none⟩) hx.cells hj (Nat.le_of_lt hkj) (fun _ => rfl)
  have hsz : (t.extract k j).size = j - k := by simp; omega
  have := conv_str hh (cap - k) (fun e => by cases e)
  rw [hsz] at this
  exact this

set_option maxHeartbeats 8000000 in
set_option maxRecDepth 100000 in
theorem written_no (t : ByteArray) (b off cap R k : Nat) (e0 : Nat) (w0 w : World) (E : Env w0 R b off cap t) (hB : Below w0.heap.size w0 w) (h : Rd w R (rv b off cap t) k) (hq : nameF t k = .error e0) :
    Calls Tryz.prog 46 #[.pointer (some ⟨R, 0, none⟩)] w fun e w' => e = .returned (.tuple #[.string ⟨#[]⟩, .int .i64 (e0 : Int)]) ∧ Rd w' R (rv b off cap t) k ∧ Moved R w w' := by
  have N := Lib.hid ((next_any t b off cap k w.drew (E.tabs.below hB.drew) (E.at_ hB.drew)).mono fun _ _ g => And.intro g.1 (below_cat (Below.refl w.heap.size w).drew g.2))
  have h0 := h.text
  have h1 := h.place
  have H := Lib.hid h
  have he : e0 = 23 := by
    unfold nameF at hq
    split at hq
    · cases hq
    · injection hq with hq
      exact hq.symm
  subst he
  have hno : (nextE t k).2.2 = 0 → ((nextE t k).1 ≠ 58 ∧ startB ((nextE t k).1 : Nat) = false) := by
    intro g
    obtain ⟨g1, g2⟩ := nextE_in g
    rw [g2] at g ⊢
    unfold nameF at hq
    split at hq
    · cases hq
    · rename_i g3
      refine ⟨fun e => g3 ⟨g1, g, .inl e⟩, ?_⟩
      rw [← Bool.not_eq_true]
      exact fun e => g3 ⟨g1, g, .inr e⟩
  clear hq h E hB
  generalize nextE t k = A at *
  obtain ⟨c, m, e⟩ := A
  simp only at N hno
  by_cases hz : e = 0
  · subst hz
    obtain ⟨n1, n2⟩ := hno rfl
    have f1 : ((c : Int) == 58) = false := by rw [beq_eq_false_iff_ne]; omega
    have IS := Lib.hid (fun W => isStart (c : Int) W)
    rw [n2] at IS
    have n1z : ¬ (c : Int) = 58 := by omega
    clear hno n1 n2
    go_enter Tryz.func46, Tryz.ntmps46
    go_wp2_with (fail)
    go_region_with (go_at_call 18; refine N.out.mono ?_; rintro e w1 ⟨rfl, hb⟩)
    all_goals
      have HB := Lib.hid hb
      clear hb h0 h1
      go_wp2_with (fail)
      all_goals first
        | (exfalso; omega)
        | (refine (IS.out _).mono ?_; rintro e w2 ⟨rfl, rfl⟩; go_wp2_with (fail); go_ret2; exact ⟨rfl, H.out.below HB.out, Moved.of_below HB.out⟩)
  · have f1 : ((e : Int) == 0) = false := by rw [beq_eq_false_iff_ne]; omega
    have ez : ¬ (e : Int) = 0 := by omega
    clear hno hz
    go_enter Tryz.func46, Tryz.ntmps46
    go_wp2_with (fail)
    go_region_with (go_at_call 18; refine N.out.mono ?_; rintro e w1 ⟨rfl, hb⟩)
    all_goals
      have HB := Lib.hid hb
      clear hb h0 h1
      go_wp2_with (fail)
      all_goals first
        | (exfalso; omega)
        | (go_ret2; exact ⟨rfl, H.out.below HB.out, Moved.of_below HB.out⟩)
end Go.Proofs.YteipiaefamfleaaGreatDoor
namespace Go.Proofs.YteipiaefamfleaaGreatDoor
open Go.RowKit

theorem parts_bound (t : ByteArray) : ∀ f k, k ≤ t.size → k ≤ partsGo t f k ∧ partsGo t f k ≤ t.size
  | 0, k, h => ⟨Nat.le_refl _, h⟩
  | f + 1, k, h => by
    by_cases g : goesB t k
    · rw [parts_step g]
      have s := next_step g.1 g.2.1
      have := parts_bound t f (nextF t k).2.1 s.2
      omega
    · rw [parts_stop g]
      exact ⟨Nat.le_refl _, h⟩
theorem name_ok {t n : ByteArray} {k i : Nat} (h : nameF t k = .ok (n, i)) : k < i ∧ i ≤ t.size ∧ n = t.extract k i ∧ partsGo t t.size k = i ∧ k < t.size ∧ (nextF t k).2.2 = 0 ∧ ((nextF t k).1 = 58 ∨ startB ((nextF t k).1 : Nat) = true) := by
  unfold nameF at h
  split at h
  · rename_i g
    injection h with h
    injection h with h1 h2
    subst h2
    have hg : goesB t k := ⟨g.1, g.2.1, g.2.2.imp id start_part⟩
    have hs := next_step g.1 g.2.1
    obtain ⟨f, hf⟩ : ∃ f, t.size = f + 1 := ⟨t.size - 1, by omega⟩
    have hb := parts_bound t t.size k (by omega)
    have hlt : k < partsGo t t.size k := by
      have hb2 := parts_bound t f (nextF t k).2.1 hs.2
      rw [hf, parts_step hg]
      omega
    exact ⟨hlt, hb.2, h1.symm, rfl, g⟩
  · cases h
theorem name_err {t : ByteArray} {k e : Nat} (h : nameF t k = .error e) : e = 23 := by
  unfold nameF at h
  split at h
  · cases h
  · injection h with h
    exact h.symm
theorem qual_ok {t n : ByteArray} {k i : Nat} (h : qualF t k = .ok (n, i)) : nameF t k = .ok (n, i) ∧ (splitF n).2.2 = true := by
  unfold qualF at h
  split at h
  · cases h
  · rename_i n' i' hn
    split at h
    · rename_i hs
      injection h with h
      injection h with h1 h2
      subst h1 h2
      exact ⟨hn, hs⟩
    · cases h
theorem equals_ok {t : ByteArray} {k j : Nat} (hk : k ≤ t.size) (h : equalsF t k = some j) : k < j ∧ j ≤ t.size := by
  unfold equalsF at h
  split at h
  · rename_i g
    injection h with h
    have h1 := sees_room (white_le hk) g
    simp only [List.length_cons, List.length_nil] at h1
    have h2 := white_ge t k
    have h3 := white_ge t (whiteTo t k + 1)
    have h4 := white_le (t := t) (k := whiteTo t k + 1) h1
    omega
  · cases h
theorem quoted_ok {t raw : ByteArray} {k m : Nat} (hk : k ≤ t.size) (h : quotedF t k = some (raw, m)) : k < m ∧ m ≤ t.size ∧ raw.size ≤ t.size := by
  have go : ∀ c : UInt8, seesB t k [c] = true → (findF t (k + 1) [c]).map (fun i => (t.extract (k + 1) i, i + 1)) = some (raw, m) → k < m ∧ m ≤ t.size ∧ raw.size ≤ t.size := by
    intro c hc hf
    have h1 := sees_room hk hc
    simp only [List.length_cons, List.length_nil] at h1
    cases hi : findF t (k + 1) [c] with
    | none => rw [hi] at hf; cases hf
    | some i =>
      rw [hi] at hf
      simp only [Option.map_some, Option.some.injEq, Prod.mk.injEq] at hf
      obtain ⟨rfl, rfl⟩ := hf
      obtain ⟨_, g2, g3⟩ := find_some h1 hi
      simp only [List.length_cons, List.length_nil] at g3
      refine ⟨by omega, by omega, ?_⟩
      simp
      omega
  unfold quotedF at h
  split at h
  · exact go 39 ‹_› h
  · split at h
    · exact go 34 ‹_› h
    · cases h
theorem pair_ok {t : ByteArray} {k m : Nat} {p : ByteArray × ByteArray} (h : pairF t k = .ok (p, m)) : ∃ i j raw, qualF t k = .ok (p.1, i) ∧ equalsF t i = some j ∧ quotedF t j = some (raw, m) ∧ (readF (stepV raw) raw.size).2.2 = 0 ∧ p.2 = ⟨(readF (stepV raw) raw.size).1.toArray⟩ := by
  unfold pairF at h
  split at h
  · cases h
  · rename_i n i hn
    split at h
    · cases h
    · rename_i j hj
      split at h
      · cases h
      · rename_i raw m' hq
        split at h
        · rename_i hr
          injection h with h
          injection h with h1 h2
          subst h1 h2
          exact ⟨i, j, raw, hn, hj, hq, hr, rfl⟩
        · cases h
theorem pair_bd {t : ByteArray} {k m : Nat} {p : ByteArray × ByteArray} (h : pairF t k = .ok (p, m)) : k < m ∧ m ≤ t.size ∧ 0 < p.1.size ∧ p.1.size ≤ t.size := by
  obtain ⟨i, j, raw, h1, h2, h3, _⟩ := pair_ok h
  obtain ⟨g1, g2, g3, _⟩ := name_ok (qual_ok h1).1
  have e2 := equals_ok g2 h2
  have e3 := quoted_ok e2.2 h3
  have hs : p.1.size = i - k := by rw [g3]; simp; omega
  omega
end Go.Proofs.YteipiaefamfleaaGreatDoor
namespace Go.Proofs.YteipiaefamfleaaGreatDoor
open Go.RowKit

abbrev Apart (l : List (ByteArray × ByteArray)) : Prop := l.Pairwise fun a b => a.1 ≠ b.1
theorem apart_snoc {l : List (ByteArray × ByteArray)} {p : ByteArray × ByteArray} (h : Apart l) (g : l.any (fun q => decide (q.1 = p.1)) = false) : Apart (l ++ [p]) := by
  refine List.pairwise_append.2 ⟨h, List.pairwise_singleton _ _, fun a ha b hb => ?_⟩
  obtain rfl := List.mem_singleton.1 hb
  intro e
  have := List.any_eq_false.1 g a ha
  exact this (decide_eq_true e)
/-- What is true of each token that is told. -/
structure TokOk (x : Tok) : Prop where
  kind : 1 ≤ x.kind ∧ x.kind ≤ 8
  named : (x.kind = 2 ∨ x.kind = 3 ∨ x.kind = 4 ∨ x.kind = 8) ↔ 0 < x.name.size
  apart : Apart x.pairs
theorem name_size {t n : ByteArray} {k i : Nat} (h : nameF t k = .ok (n, i)) : 0 < n.size := by
  obtain ⟨h1, h2, h3, _⟩ := name_ok h
  rw [h3]
  simp
  omega
theorem tag_ok (t n : ByteArray) (hn : 0 < n.size) : ∀ f k ps x i, k ≤ t.size → Apart ps → tagGo t n f k ps = .ok (x, i) → k < i ∧ i ≤ t.size ∧ TokOk x ∧ (x.kind = 2 ∨ x.kind = 4)
  | 0, k, ps, x, i, _, _, h => by cases h
  | f + 1, k, ps, x, i, hk, hp, h => by
    have hw := white_le hk
    have hg := white_ge t k
    unfold tagGo at h
    split at h
    · rename_i hs
      injection h with h
      injection h with h1 h2
      subst h1 h2
      have := sees_room hw hs
      simp only [List.length_cons, List.length_nil] at this
      exact ⟨by omega, by omega, ⟨by simp, by simp [hn], hp⟩, .inl rfl⟩
    · split at h
      · rename_i hs
        injection h with h
        injection h with h1 h2
        subst h1 h2
        have := sees_room hw hs
        simp only [List.length_cons, List.length_nil] at this
        exact ⟨by omega, by omega, ⟨by simp, by simp [hn], hp⟩, .inr rfl⟩
      · split at h
        · cases h
        · split at h
          · cases h
          · rename_i p j hpj
            split at h
            · cases h
            · rename_i hany
              have hb := pair_bd hpj
              have ih := tag_ok t n hn f j (ps ++ [p]) x i hb.2.1 (apart_snoc hp (by rw [Bool.not_eq_true] at hany; exact hany)) h
              exact ⟨by omega, ih.2.1, ih.2.2⟩
theorem prop_ok {t : ByteArray} {k i : Nat} {word : List UInt8} {right : ByteArray → Bool} {p : ByteArray × ByteArray} (hk : k ≤ t.size) (h : propF t k word right = some (p, i)) : k < i ∧ i ≤ t.size ∧ p.1 = ⟨word.toArray⟩ ∧ right p.2 = true ∧ p.2.size ≤ t.size := by
  have hw := white_le hk
  have hg := white_ge t k
  unfold propF at h
  split at h
  · cases h
  · rename_i hs
    split at h
    · cases h
    · rename_i j hj
      have hs2 : seesB t (whiteTo t k) word = true := by
        rw [← Bool.not_eq_false]
        exact fun e => hs (.inr e)
      have hr := sees_room hw hs2
      have he := equals_ok hr hj
      split at h
      · cases h
      · rename_i raw m hq
        have hqq := quoted_ok he.2 hq
        split at h
        · rename_i hri
          injection h with h
          injection h with h1 h2
          subst h1 h2
          exact ⟨by omega, by omega, rfl, hri, hqq.2.2⟩
        · cases h
theorem decl_end {t : ByteArray} {k i : Nat} {ps : List (ByteArray × ByteArray)} {r : Bool} {x : Tok} (hk : k ≤ t.size) (hp : Apart ps) (h : declEnd t k ps r = .ok (x, i)) : k < i ∧ i ≤ t.size ∧ TokOk x ∧ x.kind = 1 := by
  have hw := white_le hk
  have hg := white_ge t k
  unfold declEnd at h
  split at h
  · rename_i hs
    split at h
    · injection h with h
      injection h with h1 h2
      subst h1 h2
      have := sees_room hw hs
      simp only [List.length_cons, List.length_nil] at this
      exact ⟨by omega, by omega, ⟨by simp, by simp [ByteArray.size], hp⟩, rfl⟩
    · cases h
  · cases h
theorem decl_alone {t : ByteArray} {k i : Nat} {ps : List (ByteArray × ByteArray)} {r : Bool} {x : Tok} (hk : k ≤ t.size) (hp : Apart ps) (hps : ∀ p ∈ ps, p.1 ≠ ⟨#[115, 116, 97, 110, 100, 97, 108, 111, 110, 101]⟩) (h : declAlone t k ps r = .ok (x, i)) : k < i ∧ i ≤ t.size ∧ TokOk x ∧ x.kind = 1 := by
  unfold declAlone at h
  split at h
  · exact decl_end hk hp h
  · rename_i p j hpj
    obtain ⟨g1, g2, g3, _⟩ := prop_ok hk hpj
    have ih := decl_end (ps := ps ++ [p]) g2 (List.pairwise_append.2 ⟨hp, List.pairwise_singleton _ _, fun a ha b hb => by
      obtain rfl := List.mem_singleton.1 hb
      rw [g3]
      exact hps a ha⟩) h
    exact ⟨by omega, ih.2⟩
theorem decl_ok {t : ByteArray} {k i : Nat} {x : Tok} (hk : k ≤ t.size) (h : declF t k = .ok (x, i)) : k < i ∧ i ≤ t.size ∧ TokOk x ∧ x.kind = 1 := by
  unfold declF at h
  split at h
  · cases h
  · rename_i v j hv
    obtain ⟨g1, g2, g3, _⟩ := prop_ok hk hv
    split at h
    · have ih := decl_alone g2 (List.pairwise_singleton _ _) (fun p hp => by
        obtain rfl := List.mem_singleton.1 hp
        rw [g3]
        decide) h
      exact ⟨by omega, ih.2⟩
    · rename_i c m hc
      obtain ⟨e1, e2, e3, _⟩ := prop_ok g2 hc
      have hne : v.1 ≠ c.1 := by rw [g3, e3]; decide
      have ih := decl_alone e2 (List.pairwise_cons.2 ⟨fun b hb => by
        obtain rfl := List.mem_singleton.1 hb
        exact hne, List.pairwise_singleton _ _⟩) (fun p hp => by
        rcases List.mem_cons.1 hp with rfl | hp
        · rw [g3]; decide
        · obtain rfl := List.mem_singleton.1 hp
          rw [e3]; decide) h
      exact ⟨by omega, ih.2⟩
theorem sees_first {t : ByteArray} {k : Nat} {c : UInt8} {l : List UInt8} (h : seesB t k (c :: l) = true) : seesB t k [c] = true := by
  obtain ⟨r, hr⟩ := List.isPrefixOf_iff_prefix.1 h
  exact List.isPrefixOf_iff_prefix.2 ⟨l ++ r, by rw [← hr]; simp⟩
theorem find_at {t : ByteArray} {k i : Nat} {s : List UInt8} (hk : k ≤ t.size) (h : findF t k s = some i) : seesB t i s = true := by
  obtain ⟨h1, h2, h3⟩ := find_some hk h
  rcases Lib.index_spec (t.data.toList.drop k) s with ⟨e, _⟩ | ⟨j, e, _, ho, _⟩
  · omega
  · obtain rfl : j = i - k := by omega
    unfold Lib.occAt at ho
    unfold seesB
    rw [List.drop_drop, show k + (i - k) = i by omega] at ho
    exact ho
theorem sees_one {t : ByteArray} {k : Nat} {c : UInt8} (hk : k < t.size) : seesB t k [c] = (t.get! k == c) := by
  unfold seesB
  rw [drop_at t k hk]
  simp [Lib.hasPrefix, List.isPrefixOf, BEq.comm]
theorem chars_to {t : ByteArray} {k : Nat} (hk : k ≤ t.size) : k ≤ charsTo t k ∧ charsTo t k ≤ t.size ∧ (charsTo t k < t.size → seesB t (charsTo t k) [60] = true) := by
  unfold charsTo
  cases h : findF t k [60] with
  | none => simp [hk]
  | some i =>
    obtain ⟨_, h2, h3⟩ := find_some hk h
    simp only [List.length_cons, List.length_nil] at h3
    exact ⟨h2, by simp; omega, fun _ => find_at hk h⟩
/-- What is true of a token and the place behind it. -/
theorem tok_ok {t : ByteArray} {k i : Nat} {x : Tok} (hk : k < t.size) (h : tokF t k = .ok (x, i)) : k < i ∧ i ≤ t.size ∧ TokOk x ∧ (x.kind = 1 → k = 0) ∧ (x.kind = 5 → seesB t k [60] = false ∧ (i < t.size → seesB t i [60] = true)) := by
  unfold tokF at h
  split at h
  · rename_i ho
    unfold opensB at ho
    simp only [Bool.and_eq_true, decide_eq_true_eq] at ho
    have := decl_ok (k := k + 5) (by omega) h
    refine ⟨by omega, this.2.1, this.2.2.1, fun _ => ho.1.1.1, fun e => ?_⟩
    rw [this.2.2.2] at e
    cases e
  split at h
  · rename_i hs
    have hr := sees_room (Nat.le_of_lt hk) hs
    simp only [List.length_cons, List.length_nil] at hr
    unfold commentF at h
    split at h
    · cases h
    · rename_i j hj
      obtain ⟨_, g2, g3⟩ := find_some hr hj
      simp only [List.length_cons, List.length_nil] at g3
      split at h
      · rename_i hs2
        have hr2 := sees_room g3 hs2
        simp only [List.length_cons, List.length_nil] at hr2
        injection h with h
        injection h with h1 h2
        subst h1 h2
        exact ⟨by omega, by omega, ⟨by simp, by simp [ByteArray.size], List.Pairwise.nil⟩, by simp, by simp⟩
      · cases h
  split at h
  · rename_i hs
    have hr := sees_room (Nat.le_of_lt hk) hs
    simp only [List.length_cons, List.length_nil] at hr
    unfold dataF at h
    split at h
    · cases h
    · rename_i j hj
      obtain ⟨_, g2, g3⟩ := find_some hr hj
      simp only [List.length_cons, List.length_nil] at g3
      injection h with h
      injection h with h1 h2
      subst h1 h2
      exact ⟨by omega, by omega, ⟨by simp, by simp [ByteArray.size], List.Pairwise.nil⟩, by simp, by simp⟩
  split at h
  · cases h
  split at h
  · cases h
  split at h
  · rename_i hs
    have hr := sees_room (Nat.le_of_lt hk) hs
    simp only [List.length_cons, List.length_nil] at hr
    unfold instrF at h
    split at h
    · cases h
    · rename_i n j hn
      obtain ⟨n1, n2, _⟩ := name_ok hn
      have nz := name_size hn
      split at h
      · cases h
      split at h
      · cases h
      split at h
      · cases h
      split at h
      · cases h
      · rename_i m hm
        obtain ⟨_, g2, g3⟩ := find_some (white_le n2) hm
        have hg := white_ge t j
        simp only [List.length_cons, List.length_nil] at g3
        injection h with h
        injection h with h1 h2
        subst h1 h2
        exact ⟨by omega, by omega, ⟨by simp, by simp [nz], List.Pairwise.nil⟩, by simp, by simp⟩
  split at h
  · rename_i hs
    have hr := sees_room (Nat.le_of_lt hk) hs
    simp only [List.length_cons, List.length_nil] at hr
    unfold closingF at h
    split at h
    · cases h
    · rename_i n j hn
      obtain ⟨n1, n2, _⟩ := name_ok (qual_ok hn).1
      have nz := name_size (qual_ok hn).1
      split at h
      · rename_i hs2
        have hr2 := sees_room (white_le n2) hs2
        have hg := white_ge t j
        simp only [List.length_cons, List.length_nil] at hr2
        injection h with h
        injection h with h1 h2
        subst h1 h2
        exact ⟨by omega, by omega, ⟨by simp, by simp [nz], List.Pairwise.nil⟩, by simp, by simp⟩
      · cases h
  split at h
  · rename_i hs
    have hr := sees_room (Nat.le_of_lt hk) hs
    simp only [List.length_cons, List.length_nil] at hr
    unfold tagF at h
    split at h
    · cases h
    · rename_i n j hn
      obtain ⟨n1, n2, _⟩ := name_ok (qual_ok hn).1
      have := tag_ok t n (name_size (qual_ok hn).1) _ j [] x i n2 List.Pairwise.nil h
      refine ⟨by omega, this.2.1, this.2.2.1, fun e => ?_, fun e => ?_⟩
      · rcases this.2.2.2 with g | g <;> rw [g] at e <;> cases e
      · rcases this.2.2.2 with g | g <;> rw [g] at e <;> cases e
  · rename_i hs
    rw [Bool.not_eq_true] at hs
    have hc := chars_to (Nat.le_of_lt hk)
    have hne : charsTo t k ≠ k := by
      intro e
      have := hc.2.2 (by omega)
      rw [e, hs] at this
      cases this
    unfold charsF at h
    simp only at h
    split at h
    · injection h with h
      injection h with h1 h2
      subst h1 h2
      exact ⟨by omega, by omega, ⟨by simp, by simp [ByteArray.size], List.Pairwise.nil⟩, by simp, fun _ => ⟨hs, hc.2.2⟩⟩
    · cases h
end Go.Proofs.YteipiaefamfleaaGreatDoor
namespace Go.Proofs.YteipiaefamfleaaGreatDoor
open Go.RowKit

/-- What is true of the tokens ahead of a place. -/
structure AccT (t : ByteArray) (k : Nat) (l : List (Nat × Tok)) : Prop where
  here : ∀ (i : Nat) (x : Nat × Tok), l[i]? = some x → TokOk x.2 ∧ x.1 < k ∧ (x.2.kind = 1 → x.1 = 0)
  next : ∀ (i : Nat) (x y : Nat × Tok), l[i]? = some x → l[i + 1]? = some y → x.1 < y.1 ∧ ¬ (x.2.kind = 5 ∧ y.2.kind = 5)
  first : ∀ x : Nat × Tok, l[0]? = some x → x.1 = 0
  none_ : l = [] → k = 0
  text : ∀ x : Nat × Tok, l.getLast? = some x → x.2.kind = 5 → k < t.size → seesB t k [60] = true
theorem acc_nil (t : ByteArray) : AccT t 0 [] := ⟨fun i x h => by simp at h, fun i x y h => by simp at h, fun x h => by simp at h, fun _ => rfl, fun x h => by simp at h⟩
theorem acc_step {t : ByteArray} {k i : Nat} {l : List (Nat × Tok)} {x : Tok} (h : AccT t k l) (hk : k < t.size) (hx : tokF t k = .ok (x, i)) : AccT t i (l ++ [(k, x)]) := by
  obtain ⟨g1, g2, g3, g4, g5⟩ := tok_ok hk hx
  have hat : ∀ j y, (l ++ [(k, x)])[j]? = some y → (j < l.length ∧ l[j]? = some y) ∨ (j = l.length ∧ y = (k, x)) := by
    intro j y hj
    rw [List.getElem?_append] at hj
    split at hj
    · exact .inl ⟨‹_›, hj⟩
    · have hlt := (List.getElem?_eq_some_iff.1 hj).1
      simp only [List.length_cons, List.length_nil] at hlt
      have e : j - l.length = 0 := by omega
      rw [e] at hj
      simp only [List.getElem?_cons_zero, Option.some.injEq] at hj
      exact .inr ⟨by omega, hj.symm⟩
  refine ⟨?_, ?_, ?_, fun e => by simp at e, ?_⟩
  · intro j y hj
    rcases hat j y hj with ⟨_, g⟩ | ⟨_, rfl⟩
    · obtain ⟨a1, a2, a3⟩ := h.here j y g
      exact ⟨a1, by omega, a3⟩
    · exact ⟨g3, g1, g4⟩
  · intro j y z hy hz
    rcases hat (j + 1) z hz with ⟨hl, g⟩ | ⟨hl, rfl⟩
    · rcases hat j y hy with ⟨_, g'⟩ | ⟨e, _⟩
      · exact h.next j y z g' g
      · omega
    · rcases hat j y hy with ⟨_, g'⟩ | ⟨e, _⟩
      · have hlast : l.getLast? = some y := by
          rw [List.getLast?_eq_getElem?, show l.length - 1 = j by omega]
          exact g'
        refine ⟨(h.here j y g').2.1, fun e => ?_⟩
        have h1 := h.text y hlast e.1 hk
        have h2 := (g5 e.2).1
        rw [h1] at h2
        cases h2
      · omega
  · intro y hy
    rcases hat 0 y hy with ⟨_, g⟩ | ⟨e, rfl⟩
    · exact h.first y g
    · exact h.none_ (List.eq_nil_of_length_eq_zero e.symm)
  · intro y hy hyk hi
    rw [List.getLast?_concat, Option.some.injEq] at hy
    subst hy
    exact (g5 hyk).2 hi
theorem toksGo_acc (t : ByteArray) : ∀ f k l l', AccT t k l → k ≤ t.size → t.size ≤ k + f → toksGo t f k l = .ok l' → AccT t t.size l'
  | 0, k, l, l', h, hk, hf, hg => by
    have : k = t.size := by omega
    subst this
    injection hg with hg
    rw [← hg]
    exact h
  | f + 1, k, l, l', h, hk, hf, hg => by
    unfold toksGo at hg
    split at hg
    · rename_i hlt
      split at hg
      · cases hg
      · rename_i x i hx
        have hb := tok_ok hlt hx
        exact toksGo_acc t f i _ l' (acc_step h hlt hx) hb.2.1 (by omega) hg
    · injection hg with hg
      have : k = t.size := by omega
      subst this
      rw [← hg]
      exact h
theorem toks_acc {t : ByteArray} {l : List (Nat × Tok)} (h : toksF t = .ok l) : AccT t t.size l := toksGo_acc t t.size 0 [] l (acc_nil t) (Nat.zero_le _) (by omega) h
theorem AccT.rises {t : ByteArray} {k : Nat} {l : List (Nat × Tok)} (h : AccT t k l) : ∀ (i : Nat) (x : Nat × Tok), l[i]? = some x → i ≤ x.1
  | 0, x, _ => Nat.zero_le _
  | i + 1, x, hx => by
    have hlt := (List.getElem?_eq_some_iff.1 hx).1
    have hy : l[i]? = some (l[i]'(by omega)) := List.getElem?_eq_getElem (by omega)
    have h1 := h.rises i _ hy
    have h2 := (h.next i _ _ hy hx).1
    omega
/-- The place of an error lies within. -/
theorem toksGo_err (t : ByteArray) : ∀ f k l p e, k ≤ t.size → toksGo t f k l = .error (p, e) → p ≤ t.size
  | 0, k, l, p, e, hk, h => by cases h
  | f + 1, k, l, p, e, hk, h => by
    unfold toksGo at h
    split at h
    · rename_i hlt
      split at h
      · injection h with h
        injection h with h1 h2
        omega
      · rename_i x i hx
        exact toksGo_err t f i _ p e (tok_ok hlt hx).2.1 h
    · cases h
theorem fault_le (s : ByteArray) : ∀ b pos, pos ≤ s.size → (faultGo s b pos).1 ≤ s.size
  | 0, pos, h => by simp [faultGo]
  | b + 1, pos, h => by
    by_cases hp : pos < s.size
    · by_cases h0 : (rd s pos).2 = 0
      · rw [faultGo_bad s b pos hp h0]
        exact h
      · cases h1 : charB (rd s pos).1
        · rw [faultGo_no s b pos hp h0 h1]
          exact h
        · rw [faultGo_step s b pos hp h0 h1]
          exact fault_le s b _ (rd_le s pos hp)
    · rw [faultGo_end s _ pos hp]
      exact Nat.zero_le _
end Go.Proofs.YteipiaefamfleaaGreatDoor
namespace Go.Proofs.YteipiaefamfleaaGreatDoor
open Go.RowKit

theorem faultGo_fuel (s : ByteArray) : ∀ (f g pos : Nat), s.size ≤ pos + f → s.size ≤ pos + g → faultGo s f pos = faultGo s g pos
  | 0, g, pos, hf, _ => by rw [faultGo_end s g pos (by omega)]; rfl
  | f + 1, 0, pos, _, hg => by rw [faultGo_end s (f + 1) pos (by omega)]; rfl
  | f + 1, g + 1, pos, hf, hg => by
    by_cases h : pos < s.size
    · by_cases h0 : (rd s pos).2 = 0
      · rw [faultGo_bad s f pos h h0, faultGo_bad s g pos h h0]
      · cases hc : charB (rd s pos).1
        · rw [faultGo_no s f pos h h0 hc, faultGo_no s g pos h h0 hc]
        · rw [faultGo_step s f pos h h0 hc, faultGo_step s g pos h h0 hc]
          exact faultGo_fuel s f g _ (by omega) (by omega)
    · rw [faultGo_end s _ pos h, faultGo_end s _ pos h]

/-- The first fault from a place on. -/
def faultAt (s : ByteArray) (pos : Nat) : Nat × Nat := faultGo s s.size pos
theorem faultAt_end (s : ByteArray) (pos : Nat) (h : ¬ pos < s.size) : faultAt s pos = (0, 0) := faultGo_end s _ pos h
theorem faultAt_bad (s : ByteArray) (pos : Nat) (h : pos < s.size) (h0 : (rd s pos).2 = 0) : faultAt s pos = (pos, 20) := by
  obtain ⟨n, hn⟩ : ∃ n, s.size = n + 1 := ⟨s.size - 1, by omega⟩
  unfold faultAt; rw [hn]; exact faultGo_bad s n pos h h0
theorem faultAt_no (s : ByteArray) (pos : Nat) (h : pos < s.size) (h0 : (rd s pos).2 ≠ 0) (hc : charB (rd s pos).1 = false) : faultAt s pos = (pos, 21) := by
  obtain ⟨n, hn⟩ : ∃ n, s.size = n + 1 := ⟨s.size - 1, by omega⟩
  unfold faultAt; rw [hn]; exact faultGo_no s n pos h h0 hc
theorem faultAt_step (s : ByteArray) (pos : Nat) (h : pos < s.size) (h0 : (rd s pos).2 ≠ 0) (hc : charB (rd s pos).1 = true) : faultAt s pos = faultAt s (pos + (rd s pos).2) := by
  obtain ⟨n, hn⟩ : ∃ n, s.size = n + 1 := ⟨s.size - 1, by omega⟩
  unfold faultAt
  rw [faultGo_fuel s s.size (n + 1) pos (by omega) (by omega), faultGo_step s n pos h h0 hc]
  exact faultGo_fuel s n s.size _ (by omega) (by omega)

theorem faultAt_ge (s : ByteArray) : ∀ (f pos : Nat), s.size ≤ pos + f → (faultAt s pos).2 = 0 ∨ pos ≤ (faultAt s pos).1
  | 0, pos, hf => by left; rw [faultAt_end s pos (by omega)]
  | f + 1, pos, hf => by
    by_cases h : pos < s.size
    · by_cases h0 : (rd s pos).2 = 0
      · right; rw [faultAt_bad s pos h h0]; exact Nat.le_refl _
      · cases hc : charB (rd s pos).1
        · right; rw [faultAt_no s pos h h0 hc]; exact Nat.le_refl _
        · rw [faultAt_step s pos h h0 hc]
          rcases faultAt_ge s f (pos + (rd s pos).2) (by omega) with g | g
          · exact .inl g
          · exact .inr (by omega)
    · left; rw [faultAt_end s pos h]
theorem faultAt_kinds (s : ByteArray) : ∀ (f pos : Nat), s.size ≤ pos + f → faultAt s pos = (0, 0) ∨ (faultAt s pos).2 = 20 ∨ (faultAt s pos).2 = 21
  | 0, pos, hf => by left; rw [faultAt_end s pos (by omega)]
  | f + 1, pos, hf => by
    by_cases h : pos < s.size
    · by_cases h0 : (rd s pos).2 = 0
      · right; left; rw [faultAt_bad s pos h h0]
      · cases hc : charB (rd s pos).1
        · right; right; rw [faultAt_no s pos h h0 hc]
        · rw [faultAt_step s pos h h0 hc]
          exact faultAt_kinds s f (pos + (rd s pos).2) (by omega)
    · left; rw [faultAt_end s pos h]

theorem rdN_stable (n n' x0 x1 x2 x3 y1 y2 y3 : Nat) (h0 : x0 < 256) (h : (rdN n x0 x1 x2 x3).2 ≠ 0) (hn : n ≤ n')
    (e1 : 2 ≤ (rdN n x0 x1 x2 x3).2 → y1 = x1) (e2 : 3 ≤ (rdN n x0 x1 x2 x3).2 → y2 = x2) (e3 : 4 ≤ (rdN n x0 x1 x2 x3).2 → y3 = x3) : rdN n' x0 y1 y2 y3 = rdN n x0 x1 x2 x3 := by
  by_cases a : x0 < 128
  · rw [rd_ascii a, rd_ascii a]
  by_cases a2 : x0 < 192 ∨ 248 ≤ x0
  · exact absurd (by rw [rd_none (by omega) h0]) h
  by_cases a3 : x0 < 224
  · by_cases g : n < 2 ∨ x1 < 128 ∨ 191 < x1 ∨ 64 * (x0 - 192) + (x1 - 128) < 128
    · exact absurd (by rw [rd2_no (by omega) g]) h
    · have e := rd2_yes (n := n) (x0 := x0) (x1 := x1) (x2 := x2) (x3 := x3) (by omega) (by omega) (by omega) (by omega) (by omega)
      rw [e] at e1 ⊢
      obtain rfl := e1 (by simp)
      rw [rd2_yes (by omega) (by omega) (by omega) (by omega) (by omega)]
  by_cases a4 : x0 < 240
  · by_cases g : n < 3 ∨ x1 < 128 ∨ 191 < x1 ∨ x2 < 128 ∨ 191 < x2 ∨ v3 x0 x1 x2 < 2048 ∨ (55296 ≤ v3 x0 x1 x2 ∧ v3 x0 x1 x2 ≤ 57343)
    · exact absurd (by rw [rd3_no (by omega) g]) h
    · have e := rd3_yes (n := n) (x0 := x0) (x1 := x1) (x2 := x2) (x3 := x3) (by omega) (by omega) (by omega) (by omega) (by omega) (by omega) (by omega) (by omega)
      rw [e] at e1 e2 ⊢
      obtain rfl := e1 (by simp)
      obtain rfl := e2 (by simp)
      rw [rd3_yes (by omega) (by omega) (by omega) (by omega) (by omega) (by omega) (by omega) (by omega)]
  · by_cases g : n < 4 ∨ x1 < 128 ∨ 191 < x1 ∨ x2 < 128 ∨ 191 < x2 ∨ x3 < 128 ∨ 191 < x3 ∨ v4 x0 x1 x2 x3 < 65536 ∨ 1114111 < v4 x0 x1 x2 x3
    · exact absurd (by rw [rd4_no (by omega) g]) h
    · have e := rd4_yes (n := n) (x0 := x0) (x1 := x1) (x2 := x2) (x3 := x3) (by omega) (by omega) (by omega) (by omega) (by omega) (by omega) (by omega) (by omega) (by omega) (by omega)
      rw [e] at e1 e2 e3 ⊢
      obtain rfl := e1 (by simp)
      obtain rfl := e2 (by simp)
      obtain rfl := e3 (by simp)
      rw [rd4_yes (by omega) (by omega) (by omega) (by omega) (by omega) (by omega) (by omega) (by omega) (by omega) (by omega)]

theorem get!_left (a b : ByteArray) (j : Nat) (h : j < a.size) : (a ++ b).get! j = a.get! j := by
  have e1 := get!_of (a ++ b) j (by simp; omega)
  have e2 := get!_of a j h
  have e3 : (a ++ b).data.toList = a.data.toList ++ b.data.toList := by simp
  rw [e3, List.getElem?_append_left (by simpa using h), e2] at e1
  exact (Option.some.inj e1).symm
theorem get!_out (s : ByteArray) (j : Nat) (h : ¬ j < s.size) : s.get! j = default := by
  show s.data[j]! = _
  exact getElem!_neg s.data j h
theorem get!_right (a b : ByteArray) (j : Nat) : (a ++ b).get! (a.size + j) = b.get! j := by
  by_cases h : j < b.size
  · have e1 := get!_of (a ++ b) (a.size + j) (by simp; omega)
    have e2 := get!_of b j h
    have e3 : (a ++ b).data.toList = a.data.toList ++ b.data.toList := by simp
    have e4 : a.data.toList.length = a.size := by simp
    rw [e3, List.getElem?_append_right (by omega), e4, Nat.add_sub_cancel_left, e2] at e1
    exact (Option.some.inj e1).symm
  · rw [get!_out _ _ (by simp; omega), get!_out _ _ h]

theorem rd_left (a b : ByteArray) (pos : Nat) (h : pos < a.size) (h0 : (rd a pos).2 ≠ 0) : rd (a ++ b) pos = rd a pos := by
  have hle := rd_le a pos h
  unfold rd at h0 hle ⊢
  rw [get!_left a b pos h]
  refine rdN_stable _ _ _ _ _ _ _ _ _ (a.get! pos).toNat_lt h0 (by simp; omega) (fun g => ?_) (fun g => ?_) (fun g => ?_)
  · rw [get!_left a b (pos + 1) (by omega)]
  · rw [get!_left a b (pos + 2) (by omega)]
  · rw [get!_left a b (pos + 3) (by omega)]
theorem rd_right (a b : ByteArray) (p : Nat) : rd (a ++ b) (a.size + p) = rd b p := by
  unfold rd
  rw [get!_right, Nat.add_assoc, get!_right, Nat.add_assoc, get!_right, Nat.add_assoc, get!_right]
  have e : (a ++ b).size - (a.size + p) = b.size - p := by simp; omega
  rw [e]

theorem fault_right (a b : ByteArray) : ∀ (f p : Nat), b.size ≤ p + f → faultAt (a ++ b) (a.size + p) = if (faultAt b p).2 = 0 then (0, 0) else (a.size + (faultAt b p).1, (faultAt b p).2)
  | 0, p, hf => by rw [faultAt_end b p (by omega), faultAt_end (a ++ b) _ (by simp; omega)]; rfl
  | f + 1, p, hf => by
    by_cases h : p < b.size
    · have h' : a.size + p < (a ++ b).size := by simp; omega
      by_cases h0 : (rd b p).2 = 0
      · rw [faultAt_bad b p h h0, faultAt_bad (a ++ b) _ h' (by rw [rd_right]; exact h0)]; rfl
      · cases hc : charB (rd b p).1
        · rw [faultAt_no b p h h0 hc, faultAt_no (a ++ b) _ h' (by rw [rd_right]; exact h0) (by rw [rd_right]; exact hc)]; rfl
        · rw [faultAt_step b p h h0 hc, faultAt_step (a ++ b) _ h' (by rw [rd_right]; exact h0) (by rw [rd_right]; exact hc), rd_right, Nat.add_assoc]
          exact fault_right a b f _ (by omega)
    · rw [faultAt_end b p h, faultAt_end (a ++ b) _ (by simp; omega)]; rfl

theorem fault_left (a b : ByteArray) : ∀ (f pos : Nat), a.size ≤ pos + f → pos ≤ a.size →
    (faultAt a pos = (0, 0) ∧ faultAt (a ++ b) pos = faultAt (a ++ b) a.size) ∨ ((faultAt a pos).2 = 21 ∧ faultAt (a ++ b) pos = faultAt a pos) ∨
    ((faultAt a pos).2 = 20 ∧ ((faultAt (a ++ b) pos).2 = 0 ∨ (faultAt a pos).1 ≤ (faultAt (a ++ b) pos).1))
  | 0, pos, hf, hp => by
    left
    obtain rfl : pos = a.size := by omega
    exact ⟨faultAt_end a _ (by omega), rfl⟩
  | f + 1, pos, hf, hp => by
    by_cases h : pos < a.size
    · have h' : pos < (a ++ b).size := by simp; omega
      by_cases h0 : (rd a pos).2 = 0
      · right; right
        rw [faultAt_bad a pos h h0]
        exact ⟨rfl, faultAt_ge (a ++ b) (a ++ b).size pos (by omega)⟩
      · have e := rd_left a b pos h h0
        cases hc : charB (rd a pos).1
        · right; left
          rw [faultAt_no a pos h h0 hc, faultAt_no (a ++ b) pos h' (by rw [e]; exact h0) (by rw [e]; exact hc)]
          exact ⟨rfl, rfl⟩
        · rw [faultAt_step a pos h h0 hc, faultAt_step (a ++ b) pos h' (by rw [e]; exact h0) (by rw [e]; exact hc), e]
          exact fault_left a b f _ (by omega) (rd_le a pos h)
    · left
      obtain rfl : pos = a.size := by omega
      exact ⟨faultAt_end a _ h, rfl⟩

theorem faultAt_le (s : ByteArray) : ∀ (f pos : Nat), s.size ≤ pos + f → (faultAt s pos).1 ≤ s.size
  | 0, pos, hf => by rw [faultAt_end s pos (by omega)]; exact Nat.zero_le _
  | f + 1, pos, hf => by
    by_cases h : pos < s.size
    · by_cases h0 : (rd s pos).2 = 0
      · rw [faultAt_bad s pos h h0]; exact Nat.le_of_lt h
      · cases hc : charB (rd s pos).1
        · rw [faultAt_no s pos h h0 hc]; exact Nat.le_of_lt h
        · rw [faultAt_step s pos h h0 hc]
          exact faultAt_le s f (pos + (rd s pos).2) (by omega)
    · rw [faultAt_end s pos h]; exact Nat.zero_le _
theorem faultF_le (s : ByteArray) : (faultF s).1 ≤ s.size := faultAt_le s s.size 0 (by omega)

/-- OF TWO TEXTS BEHIND ONE ANOTHER: the first one's fault is told; if it has none, the second one's, so much farther on. -/
theorem fault_join (a b : ByteArray) :
    ((faultF a).2 = 21 ∧ faultF (a ++ b) = faultF a) ∨ ((faultF a).2 = 20 ∧ ((faultF (a ++ b)).2 = 0 ∨ (faultF a).1 ≤ (faultF (a ++ b)).1)) ∨
    ((faultF a).2 = 0 ∧ (faultF b).2 ≠ 0 ∧ faultF (a ++ b) = (a.size + (faultF b).1, (faultF b).2)) ∨ ((faultF a).2 = 0 ∧ (faultF b).2 = 0 ∧ faultF (a ++ b) = (0, 0)) := by
  have ea : faultF a = faultAt a 0 := rfl
  have eb : faultF b = faultAt b 0 := rfl
  have ec : faultF (a ++ b) = faultAt (a ++ b) 0 := rfl
  rw [ea, eb, ec]
  rcases fault_left a b a.size 0 (by omega) (Nat.zero_le _) with ⟨h1, h2⟩ | ⟨h1, h2⟩ | ⟨h1, h2⟩
  · have hr := fault_right a b b.size 0 (by omega)
    rw [Nat.add_zero] at hr
    rw [h2, hr, h1]
    by_cases g : (faultAt b 0).2 = 0
    · right; right; right
      rw [if_pos g]
      exact ⟨rfl, g, rfl⟩
    · right; right; left
      rw [if_neg g]
      exact ⟨rfl, g, rfl⟩
  · exact .inl ⟨h1, h2⟩
  · exact .inr (.inl ⟨h1, h2⟩)
end Go.Proofs.YteipiaefamfleaaGreatDoor
namespace Go.Proofs.YteipiaefamfleaaGreatDoor
open Go.RowKit

/-- A step's answer, so much farther on. -/
def farther (n : Nat) (r : Int × Int × Int) : Int × Int × Int := if r.2.2 = 0 then (r.1, (n : Int) + r.2.1, 0) else r
theorem by_left (a b : ByteArray) (j : Nat) (h : j < a.size) : by_ (a ++ b) j = by_ a j := by unfold by_; rw [get!_left a b j h]
theorem by_right (a b : ByteArray) (j : Nat) : by_ (a ++ b) (a.size + j) = by_ b j := by unfold by_; rw [get!_right a b j]
theorem size_cat (a b : ByteArray) : (a ++ b).size = a.size + b.size := ByteArray.size_append
theorem drop_left (a b : ByteArray) (pos : Nat) (h : pos ≤ a.size) : (a ++ b).data.toList.drop pos = a.data.toList.drop pos ++ b.data.toList := by
  have e : (a ++ b).data.toList = a.data.toList ++ b.data.toList := by simp
  rw [e, List.drop_append_of_le_length (by simpa using h)]
theorem drop_right (a b : ByteArray) (pos : Nat) : (a ++ b).data.toList.drop (a.size + pos) = b.data.toList.drop pos := by
  have e : (a ++ b).data.toList = a.data.toList ++ b.data.toList := by simp
  rw [e, show a.size + pos = a.data.toList.length + pos by simp, List.drop_append]
  simp
/-- Numbers. -/
theorem numGo_fuel (s : ByteArray) (base : Nat) : ∀ (f g pos n : Nat), s.size ≤ pos + f → s.size ≤ pos + g → numGo s base f pos n = numGo s base g pos n := by
  intro f
  induction f with
  | zero =>
    intro g pos n h1 h2
    rw [numGo_end s base g pos n (by rintro ⟨e, _⟩; omega), numGo_end s base 0 pos n (by rintro ⟨e, _⟩; omega)]
  | succ f ih =>
    intro g pos n h1 h2
    by_cases h : pos < s.size ∧ digZ (by_ s pos) < base
    · obtain ⟨g, rfl⟩ : ∃ g', g = g' + 1 := ⟨g - 1, by omega⟩
      rw [numGo_step _ _ _ _ _ h.1 h.2, numGo_step _ _ _ _ _ h.1 h.2]
      exact ih g (pos + 1) _ (by omega) (by omega)
    · rw [numGo_end _ _ _ _ _ h, numGo_end _ _ _ _ _ h]
theorem numGo_left (a b : ByteArray) (base : Nat) : ∀ (f g pos n : Nat), a.size ≤ pos + f → (a ++ b).size ≤ pos + g → (numGo a base f pos n).2 < a.size → numGo (a ++ b) base g pos n = numGo a base f pos n := by
  intro f
  induction f with
  | zero =>
    intro g pos n h1 h2 h3
    change pos < a.size at h3
    omega
  | succ f ih =>
    intro g pos n h1 h2 h3
    have hs := size_cat a b
    by_cases hp : pos < a.size
    · by_cases h : digZ (by_ a pos) < base
      · obtain ⟨g, rfl⟩ : ∃ g', g = g' + 1 := ⟨g - 1, by omega⟩
        rw [numGo_step _ _ _ _ _ hp h] at h3 ⊢
        rw [numGo_step _ _ _ _ _ (by omega) (by rw [by_left a b pos hp]; exact h), by_left a b pos hp]
        exact ih g (pos + 1) _ (by omega) (by omega) h3
      · rw [numGo_end a _ _ _ _ (by rintro ⟨_, e⟩; exact h e), numGo_end (a ++ b) _ _ _ _ (by rw [by_left a b pos hp]; rintro ⟨_, e⟩; exact h e)]
    · rw [numGo_end a _ _ _ _ (by rintro ⟨e, _⟩; exact hp e)] at h3
      exact absurd h3 hp
theorem numGo_right (a b : ByteArray) (base : Nat) : ∀ (f pos n : Nat), numGo (a ++ b) base f (a.size + pos) n = ((numGo b base f pos n).1, a.size + (numGo b base f pos n).2) := by
  intro f
  induction f with
  | zero => intro pos n; rfl
  | succ f ih =>
    intro pos n
    have hs := size_cat a b
    by_cases h : pos < b.size ∧ digZ (by_ b pos) < base
    · rw [numGo_step b _ _ _ _ h.1 h.2, numGo_step (a ++ b) _ _ _ _ (by omega) (by rw [by_right]; exact h.2), by_right]
      exact ih (pos + 1) _
    · rw [numGo_end b _ _ _ _ h, numGo_end (a ++ b) _ _ _ _ (by rw [by_right]; rintro ⟨e, g⟩; exact h ⟨by omega, g⟩)]
theorem numOut_fit {s : ByteArray} {first : Nat} {r : Nat × Nat} (h : (numOut s first r).2.2 = 0) : r.2 ≠ first ∧ r.2 ≠ s.size ∧ by_ s r.2 = 59 ∧ charB r.1 = true := by
  unfold numOut at h
  split at h
  · exact absurd h (by decide)
  · rename_i g
    simp only [not_or, ne_eq, Decidable.not_not] at g
    split at h
    · rename_i g2
      exact ⟨g.1, g.2.1, g.2.2, g2⟩
    · exact absurd h (by decide)
theorem numOut_left (a b : ByteArray) (base first : Nat) (hf : first ≤ a.size) (h : (numOut a first (numGo a base a.size first 0)).2.2 = 0) : numOut (a ++ b) first (numGo (a ++ b) base (a ++ b).size first 0) = numOut a first (numGo a base a.size first 0) := by
  obtain ⟨h1, h2, h3, h4⟩ := numOut_fit h
  have hb := numGo_bd a base a.size first 0 hf
  have hs := size_cat a b
  rw [numGo_left a b base a.size (a ++ b).size first 0 (by omega) (by omega) (by omega)]
  generalize numGo a base a.size first 0 = r at *
  have n1 : ¬ (r.2 = first ∨ r.2 = (a ++ b).size ∨ by_ (a ++ b) r.2 ≠ 59) := by
    rw [by_left a b r.2 (by omega)]
    omega
  have n2 : ¬ (r.2 = first ∨ r.2 = a.size ∨ by_ a r.2 ≠ 59) := by omega
  unfold numOut
  rw [if_neg n1, if_neg n2]
theorem numOut_right (a b : ByteArray) (base first : Nat) : numOut (a ++ b) (a.size + first) (numGo (a ++ b) base (a ++ b).size (a.size + first) 0) = farther a.size (numOut b first (numGo b base b.size first 0)) := by
  have hs := size_cat a b
  rw [numGo_right, numGo_fuel b base (a ++ b).size b.size first 0 (by omega) (by omega)]
  generalize numGo b base b.size first 0 = r
  unfold numOut
  simp only [by_right]
  by_cases g : r.2 = first ∨ r.2 = b.size ∨ by_ b r.2 ≠ 59
  · rw [if_pos g, if_pos (by omega)]
    rfl
  · rw [if_neg g, if_neg (by omega)]
    by_cases c : charB (r.1 : Int) = true
    · rw [if_pos c, if_pos c]
      unfold farther
      rw [if_pos rfl]
      simp only [Prod.mk.injEq, and_true, true_and]
      omega
    · rw [if_neg c, if_neg c]
      rfl
/-- Names. -/
theorem words_apart : ∀ i, i < 5 → ∀ j, j < 5 → (wordOf i).data.toList <+: (wordOf j).data.toList → i = j := by decide
theorem words_one {l : List UInt8} {i j : Nat} (hi : i < 5) (hj : j < 5) (h1 : (wordOf i).data.toList <+: l) (h2 : (wordOf j).data.toList <+: l) : i = j := by
  rcases Nat.le_total (wordOf i).data.toList.length (wordOf j).data.toList.length with h | h
  · exact words_apart i hi j hj (List.prefix_of_prefix_length_le h1 h2 h)
  · exact (words_apart j hj i hi (List.prefix_of_prefix_length_le h2 h1 h)).symm
theorem pfx_iff (s : ByteArray) (at_ k : Nat) : pfxB s at_ k = true ↔ (wordOf k).data.toList <+: s.data.toList.drop at_ := by
  unfold pfxB Lib.hasPrefix
  exact List.isPrefixOf_iff_prefix
theorem named_which (s : ByteArray) (at_ : Nat) : ∀ m, m ≤ 5 → (namedGo s at_ m).2.2 = 0 → ∃ k, k < 5 ∧ 5 ≤ k + m ∧ pfxB s at_ k = true ∧ namedGo s at_ m = (charOf k, (at_ : Int) + ((wordOf k).size : Int), 0)
  | 0, _, h => absurd (show (22 : Int) = 0 from h) (by decide)
  | m + 1, hm, h => by
    rw [namedGo] at h ⊢
    by_cases g : pfxB s at_ (4 - m) = true
    · rw [if_pos g]
      exact ⟨4 - m, by omega, by omega, g, rfl⟩
    · rw [if_neg g] at h ⊢
      obtain ⟨k, h1, h2, h3, h4⟩ := named_which s at_ m (by omega) h
      exact ⟨k, h1, by omega, h3, h4⟩
theorem named_is (s : ByteArray) (at_ k : Nat) (hk : k < 5) (h : pfxB s at_ k = true) : ∀ m, m ≤ 5 → 5 ≤ k + m → namedGo s at_ m = (charOf k, (at_ : Int) + ((wordOf k).size : Int), 0)
  | 0, _, h2 => by omega
  | m + 1, hm, h2 => by
    rw [namedGo]
    by_cases g : pfxB s at_ (4 - m) = true
    · have e := words_one hk (by omega) ((pfx_iff s at_ k).1 h) ((pfx_iff s at_ (4 - m)).1 g)
      rw [if_pos g, ← e]
    · rw [if_neg g]
      refine named_is s at_ k hk h m (by omega) ?_
      by_cases e : k = 4 - m
      · rw [e] at h
        exact absurd h g
      · omega
theorem named_right (a b : ByteArray) (at_ : Nat) : ∀ m, namedGo (a ++ b) (a.size + at_) m = farther a.size (namedGo b at_ m)
  | 0 => rfl
  | m + 1 => by
    rw [namedGo, namedGo]
    have e : pfxB (a ++ b) (a.size + at_) (4 - m) = pfxB b at_ (4 - m) := by unfold pfxB; rw [drop_right]
    rw [e]
    split
    · unfold farther
      rw [if_pos rfl]
      simp only [Prod.mk.injEq, and_true, true_and]
      omega
    · exact named_right a b at_ m
/-- References. -/
theorem exp_left (a b : ByteArray) (at_ : Nat) (hat : at_ < a.size) (h : (expF a at_).2.2 = 0) : expF (a ++ b) at_ = expF a at_ := by
  have hs := size_cat a b
  unfold expF at h ⊢
  by_cases g : at_ + 1 < a.size ∧ by_ a (at_ + 1) = 35
  · have g' : at_ + 1 < (a ++ b).size ∧ by_ (a ++ b) (at_ + 1) = 35 := ⟨by omega, by rw [by_left a b _ g.1]; exact g.2⟩
    rw [if_pos g] at h
    rw [if_pos g, if_pos g']
    unfold numF at h ⊢
    by_cases g2 : at_ + 2 < a.size
    · have eb := by_left a b (at_ + 2) g2
      by_cases g3 : by_ a (at_ + 2) = 120
      · have c1 : at_ + 2 < a.size ∧ by_ a (at_ + 2) = 120 := ⟨g2, g3⟩
        have c2 : at_ + 2 < (a ++ b).size ∧ by_ (a ++ b) (at_ + 2) = 120 := ⟨by omega, eb.trans g3⟩
        rw [if_pos c1] at h
        rw [if_pos c1, if_pos c2]
        exact numOut_left a b 16 (at_ + 2 + 1) (by omega) h
      · have c1 : ¬ (at_ + 2 < a.size ∧ by_ a (at_ + 2) = 120) := fun e => g3 e.2
        have c2 : ¬ (at_ + 2 < (a ++ b).size ∧ by_ (a ++ b) (at_ + 2) = 120) := fun e => g3 (eb.symm.trans e.2)
        rw [if_neg c1] at h
        rw [if_neg c1, if_neg c2]
        exact numOut_left a b 10 (at_ + 2) (by omega) h
    · exfalso
      have c1 : ¬ (at_ + 2 < a.size ∧ by_ a (at_ + 2) = 120) := fun e => g2 e.1
      rw [if_neg c1] at h
      obtain ⟨h1, _⟩ := numOut_fit h
      rw [numGo_end _ _ _ _ _ (fun e => g2 e.1)] at h1
      exact h1 rfl
  · rw [if_neg g] at h
    obtain ⟨k, h1, h2, h3, h4⟩ := named_which a at_ 5 (by omega) h
    have hl := pfx_le (s := a) (p := (wordOf k).data.toList) h3
    have hl2 := wordOf_len k
    have g' : ¬ (at_ + 1 < (a ++ b).size ∧ by_ (a ++ b) (at_ + 1) = 35) := fun e => g ⟨by omega, (by_left a b (at_ + 1) (by omega)).symm.trans e.2⟩
    rw [if_neg g, if_neg g', h4]
    refine named_is (a ++ b) at_ k h1 ?_ 5 (by omega) (by omega)
    rw [pfx_iff, drop_left a b at_ (by omega)]
    exact ((pfx_iff a at_ k).1 h3).trans (List.prefix_append _ _)
theorem exp_right (a b : ByteArray) (at_ : Nat) : expF (a ++ b) (a.size + at_) = farther a.size (expF b at_) := by
  have hs := size_cat a b
  have e1 : by_ (a ++ b) (a.size + at_ + 1) = by_ b (at_ + 1) := by_right a b (at_ + 1)
  have e2 : by_ (a ++ b) (a.size + at_ + 2) = by_ b (at_ + 2) := by_right a b (at_ + 2)
  unfold expF
  rw [e1]
  by_cases g : at_ + 1 < b.size ∧ by_ b (at_ + 1) = 35
  · have g' : a.size + at_ + 1 < (a ++ b).size ∧ by_ b (at_ + 1) = 35 := ⟨by omega, g.2⟩
    rw [if_pos g, if_pos g']
    unfold numF
    rw [e2]
    by_cases g2 : at_ + 2 < b.size ∧ by_ b (at_ + 2) = 120
    · have c2 : a.size + at_ + 2 < (a ++ b).size ∧ by_ b (at_ + 2) = 120 := ⟨by omega, g2.2⟩
      rw [if_pos g2, if_pos c2]
      exact numOut_right a b 16 (at_ + 2 + 1)
    · have c2 : ¬ (a.size + at_ + 2 < (a ++ b).size ∧ by_ b (at_ + 2) = 120) := fun e => g2 ⟨by omega, e.2⟩
      rw [if_neg g2, if_neg c2]
      exact numOut_right a b 10 (at_ + 2)
  · have g' : ¬ (a.size + at_ + 1 < (a ++ b).size ∧ by_ b (at_ + 1) = 35) := fun e => g ⟨by omega, e.2⟩
    rw [if_neg g, if_neg g']
    exact named_right a b at_ 5
theorem next_left (a b : ByteArray) (pos : Nat) (h : pos < a.size) (h0 : (nextF a pos).2.2 = 0) : nextF (a ++ b) pos = nextF a pos := by
  have hr : (rd a pos).2 ≠ 0 := by
    intro e
    unfold nextF at h0
    rw [if_pos e] at h0
    cases h0
  unfold nextF
  rw [rd_left a b pos h hr]
theorem next_right (a b : ByteArray) (p : Nat) : ((((nextF (a ++ b) (a.size + p)).1 : Int), ((nextF (a ++ b) (a.size + p)).2.1 : Int), ((nextF (a ++ b) (a.size + p)).2.2 : Int)) : Int × Int × Int) = farther a.size (((nextF b p).1 : Int), ((nextF b p).2.1 : Int), ((nextF b p).2.2 : Int)) := by
  unfold nextF
  rw [rd_right]
  split
  · rfl
  · split
    · rw [farther, if_pos (show (((0 : Nat) : Int)) = 0 from rfl)]
      simp only [Prod.mk.injEq, true_and]
      refine ⟨by omega, rfl⟩
    · rfl
theorem both_left (a b : ByteArray) (pos : Nat) (h : pos < a.size) (h0 : (bothF a pos).2.2 = 0) : bothF (a ++ b) pos = bothF a pos := by
  unfold bothF at h0 ⊢
  rw [by_left a b pos h]
  by_cases g : by_ a pos = 60
  · rw [if_pos g] at h0
    cases h0
  · rw [if_neg g] at h0 ⊢
    rw [if_neg g]
    by_cases g2 : by_ a pos = 38
    · rw [if_pos g2] at h0 ⊢
      rw [if_pos g2]
      exact exp_left a b pos h h0
    · rw [if_neg g2] at h0 ⊢
      rw [if_neg g2, next_left a b pos h (by simp only at h0; omega)]
theorem both_right (a b : ByteArray) (p : Nat) : bothF (a ++ b) (a.size + p) = farther a.size (bothF b p) := by
  unfold bothF
  rw [by_right]
  split
  · rfl
  · split
    · exact exp_right a b p
    · exact next_right a b p

/-- What is asked of a way of reading: what is right ahead of the end stays so with more behind, unless C; behind another text all stands so much farther on. -/
structure JoinOk (C : Prop) (step : ByteArray → Nat → Int × Int × Int) : Prop where
  left : ∀ (a b : ByteArray) (pos : Nat), pos < a.size → (step a pos).2.2 = 0 → step (a ++ b) pos = step a pos ∨ (C ∧ step (a ++ b) pos = (0, 0, 23) ∧ a.size ≤ pos + 2 ∧ by_ (a ++ b) pos = 93)
  right : ∀ (a b : ByteArray) (p : Nat), step (a ++ b) (a.size + p) = farther a.size (step b p)
  ok : ∀ (s : ByteArray) (pos : Nat), pos < s.size → StepOk s.size pos (step s pos)
theorem joinV : JoinOk False stepV where
  left a b pos h h0 := by
    refine .inl ?_
    unfold stepV at h0 ⊢
    rw [by_left a b pos h]
    split
    · rfl
    · rename_i g
      rw [if_neg g] at h0
      exact both_left a b pos h h0
  right a b p := by
    unfold stepV
    rw [by_right]
    split
    · unfold farther
      rw [if_pos rfl]
      simp only [Prod.mk.injEq, and_true, true_and]
      omega
    · exact both_right a b p
  ok := stepV_ok
theorem joinT : JoinOk True stepT where
  left a b pos h h0 := by
    have hs := size_cat a b
    unfold stepT at h0 ⊢
    cases hc : closeB (a ++ b) pos
    · refine .inl ?_
      have hca : closeB a pos = false := by
        rw [Bool.eq_false_iff]
        intro e
        rw [e] at h0
        cases h0
      rw [hca] at h0 ⊢
      exact both_left a b pos h h0
    · have hca : closeB a pos = false := by
        rw [Bool.eq_false_iff]
        intro e
        rw [e] at h0
        cases h0
      refine .inr ⟨trivial, rfl, ?_, ?_⟩
      · rcases Nat.lt_or_ge (pos + 2) a.size with g | g
        · exfalso
          rw [← Bool.not_eq_true] at hca
          apply hca
          unfold closeB Lib.hasPrefix at hc ⊢
          rw [drop_left a b pos (by omega)] at hc
          rw [List.isPrefixOf_iff_prefix] at hc ⊢
          refine List.prefix_of_prefix_length_le hc (List.prefix_append _ _) ?_
          simp
          omega
        · exact g
      · unfold closeB Lib.hasPrefix at hc
        rw [drop_at (a ++ b) pos (by omega), List.isPrefixOf_iff_prefix] at hc
        obtain ⟨r, hr⟩ := hc
        injection hr with e1 _
        unfold by_
        rw [← e1]
        rfl
  right a b p := by
    unfold stepT
    have e : closeB (a ++ b) (a.size + p) = closeB b p := by unfold closeB; rw [drop_right]
    rw [e]
    split
    · rfl
    · exact both_right a b p
  ok := stepT_ok

theorem readGo_fuel {step : Nat → Int × Int × Int} {n : Nat} (ok : ∀ pos, pos < n → StepOk n pos (step pos)) : ∀ (f g pos : Nat) (out : List UInt8), n ≤ pos + f → n ≤ pos + g → readGo step n f pos out = readGo step n g pos out := by
  intro f
  induction f with
  | zero =>
    intro g pos out h1 h2
    rw [readGo_end step n g pos out (by omega), readGo_end step n 0 pos out (by omega)]
  | succ f ih =>
    intro g pos out h1 h2
    by_cases h : pos < n
    · obtain ⟨g, rfl⟩ : ∃ g', g = g' + 1 := ⟨g - 1, by omega⟩
      by_cases e : (step pos).2.2 = 0
      · have hk := ok pos h e
        rw [readGo_step _ _ _ _ _ h e, readGo_step _ _ _ _ _ h e]
        exact ih g _ _ (by omega) (by omega)
      · rw [readGo_bad _ _ _ _ _ h e, readGo_bad _ _ _ _ _ h e]
    · rw [readGo_end _ _ _ _ _ h, readGo_end _ _ _ _ _ h]
/-- The second text, behind the first. -/
theorem join_right {C : Prop} {step : ByteArray → Nat → Int × Int × Int} (J : JoinOk C step) (a b : ByteArray) : ∀ (f pos : Nat) (out0 out : List UInt8), b.size ≤ pos + f → (readGo (step b) b.size f pos out).2.2 = 0 → readGo (step (a ++ b)) (a ++ b).size f (a.size + pos) (out0 ++ out) = (out0 ++ (readGo (step b) b.size f pos out).1, 0, 0) := by
  intro f
  have hs := size_cat a b
  induction f with
  | zero => intro pos out0 out h h0; rfl
  | succ f ih =>
    intro pos out0 out h h0
    by_cases hp : pos < b.size
    · by_cases e : (step b pos).2.2 = 0
      · have hk := J.ok b pos hp e
        have hr := J.right a b pos
        unfold farther at hr
        rw [if_pos e] at hr
        rw [readGo_step _ _ _ _ _ hp e] at h0 ⊢
        rw [readGo_step _ _ _ _ _ (by omega) (by rw [hr]), hr]
        simp only
        rw [show ((a.size : Int) + (step b pos).2.1).toNat = a.size + (step b pos).2.1.toNat by omega, List.append_assoc]
        exact ih _ _ _ (by omega) h0
      · rw [readGo_bad _ _ _ _ _ hp e] at h0
        exact absurd h0 e
    · rw [readGo_end (step b) _ _ _ _ hp, readGo_end _ _ _ _ _ (by omega)]
theorem join_left {C : Prop} {step : ByteArray → Nat → Int × Int × Int} (J : JoinOk C step) (a b : ByteArray) (hb : (readF (step b) b.size).2.2 = 0) : ∀ (f g pos : Nat) (out : List UInt8), a.size ≤ pos + f → pos ≤ a.size → (a ++ b).size ≤ pos + g → (readGo (step a) a.size f pos out).2.2 = 0 →
    readGo (step (a ++ b)) (a ++ b).size g pos out = ((readGo (step a) a.size f pos out).1 ++ (readF (step b) b.size).1, 0, 0) ∨ (C ∧ ∃ k, readGo (step (a ++ b)) (a ++ b).size g pos out = ([], k, 23) ∧ k < a.size ∧ a.size ≤ k + 2 ∧ by_ (a ++ b) k = 93) := by
  have hs := size_cat a b
  intro f
  induction f with
  | zero =>
    intro g pos out h1 h2 h3 h4
    refine .inl ?_
    obtain rfl : pos = a.size := by omega
    have := join_right J a b b.size 0 out [] (by omega) hb
    rw [List.append_nil, Nat.add_zero] at this
    rw [readGo_fuel (fun p hp => J.ok (a ++ b) p hp) g b.size a.size out (by omega) (by omega), this]
    rfl
  | succ f ih =>
    intro g pos out h1 h2 h3 h4
    by_cases hp : pos < a.size
    · by_cases e : (step a pos).2.2 = 0
      · have hk := J.ok a pos hp e
        obtain ⟨g, rfl⟩ : ∃ g', g = g' + 1 := ⟨g - 1, by omega⟩
        rcases J.left a b pos hp e with hl | ⟨hc, hl, h5, h6⟩
        · rw [readGo_step (step a) _ _ _ _ hp e] at h4 ⊢
          rw [readGo_step _ _ _ _ _ (by omega) (by rw [hl]; exact e), hl]
          exact ih g _ _ (by omega) (by omega) (by omega) h4
        · refine .inr ⟨hc, pos, ?_, hp, h5, h6⟩
          rw [readGo_bad _ _ _ _ _ (by omega) (by rw [hl]; decide), hl]
      · rw [readGo_bad _ _ _ _ _ hp e] at h4
        exact absurd h4 e
    · refine .inl ?_
      obtain rfl : pos = a.size := by omega
      rw [readGo_end (step a) _ _ _ _ hp]
      have := join_right J a b b.size 0 out [] (by omega) hb
      rw [List.append_nil, Nat.add_zero] at this
      rw [readGo_fuel (fun p hp => J.ok (a ++ b) p hp) g b.size a.size out (by omega) (by omega), this]
      rfl
theorem join_all {C : Prop} {step : ByteArray → Nat → Int × Int × Int} (J : JoinOk C step) (a b : ByteArray) (ha : (readF (step a) a.size).2.2 = 0) (hb : (readF (step b) b.size).2.2 = 0) :
    readF (step (a ++ b)) (a ++ b).size = ((readF (step a) a.size).1 ++ (readF (step b) b.size).1, 0, 0) ∨ (C ∧ ∃ k, readF (step (a ++ b)) (a ++ b).size = ([], k, 23) ∧ k < a.size ∧ a.size ≤ k + 2 ∧ by_ (a ++ b) k = 93) :=
  join_left J a b hb a.size (a ++ b).size 0 [] (by omega) (by omega) (by omega) ha
theorem readGo_len {step : Nat → Int × Int × Int} {n : Nat} (ok : ∀ pos, pos < n → StepOk n pos (step pos)) : ∀ (f pos : Nat) (out : List UInt8), out.length ≤ pos → pos ≤ n → (readGo step n f pos out).1.length ≤ n := by
  intro f
  induction f with
  | zero => intro pos out h1 h2; exact Nat.le_trans h1 h2
  | succ f ih =>
    intro pos out h1 h2
    by_cases h : pos < n
    · by_cases e : (step pos).2.2 = 0
      · have hk := ok pos h e
        rw [readGo_step _ _ _ _ _ h e]
        exact ih _ _ (by rw [List.length_append]; omega) (by omega)
      · rw [readGo_bad _ _ _ _ _ h e]
        exact Nat.zero_le _
    · rw [readGo_end _ _ _ _ _ h]
      exact Nat.le_trans h1 h2
theorem readF_size {C : Prop} {step : ByteArray → Nat → Int × Int × Int} (J : JoinOk C step) (s : ByteArray) : (⟨(readF (step s) s.size).1.toArray⟩ : ByteArray).size ≤ s.size := by
  have := readGo_len (J.ok s) s.size 0 [] (Nat.zero_le _) (Nat.zero_le _)
  show (readF (step s) s.size).1.toArray.size ≤ s.size
  rw [List.size_toArray]
  exact this
end Go.Proofs.YteipiaefamfleaaGreatDoor
namespace Go.Proofs.YteipiaefamfleaaGreatDoor
open Go.RowKit

theorem lines_no13 : ∀ l : List UInt8, (13 : UInt8) ∉ linesL l
  | [] => by simp [linesL]
  | c :: t => by
    have ih := lines_no13 t
    rw [linesL]
    repeat' split
    · rename_i h
      simp only [List.mem_cons, not_or]
      exact ⟨fun e => h e.symm, ih⟩
    · exact ih
    · simp only [List.mem_cons, not_or]
      exact ⟨by decide, ih⟩
theorem lines_id : ∀ l : List UInt8, (13 : UInt8) ∉ l → linesL l = l
  | [], _ => rfl
  | c :: t, h => by
    simp only [List.mem_cons, not_or] at h
    rw [linesL, if_pos (fun e => h.1 e.symm), lines_id t h.2]
theorem lines_half : ∀ (n : Nat) (l : List UInt8), l.length ≤ n → l.length ≤ 2 * (linesL l).length
  | _, [], _ => Nat.zero_le _
  | 0, _ :: _, h => by simp at h
  | n + 1, c :: t, h => by
    have h' : t.length ≤ n := by simpa using h
    have ih := lines_half n t h'
    rw [linesL]
    by_cases hc : c ≠ 13
    · rw [if_pos hc]; simp only [List.length_cons]; omega
    · rw [if_neg hc]
      by_cases h10 : t.head? = some 10
      · rw [if_pos h10]
        match t, h10, h' with
        | d :: u, h10, h' =>
          have hd : d = 10 := by simpa using h10
          subst hd
          have ih2 := lines_half n u (by simp at h'; omega)
          rw [linesL, if_pos (by decide)]
          simp only [List.length_cons]
          omega
      · rw [if_neg h10]; simp only [List.length_cons]; omega
theorem lines_append : ∀ a b : List UInt8, ¬ (a.getLast? = some 13 ∧ b.head? = some 10) → linesL (a ++ b) = linesL a ++ linesL b
  | [], b, _ => rfl
  | [c], b, h => by
    by_cases hc : c = 13
    · subst hc
      have hb : ¬ b.head? = some 10 := fun e => h ⟨rfl, e⟩
      have e1 : linesL [13] = [10] := rfl
      rw [e1]
      show linesL (13 :: b) = 10 :: linesL b
      rw [linesL, if_neg (by simp), if_neg hb]
    · have e1 : linesL [c] = [c] := by rw [linesL, if_pos hc]; rfl
      rw [e1]
      show linesL (c :: b) = c :: linesL b
      rw [linesL, if_pos hc]
  | c :: d :: t, b, h => by
    have ih := lines_append (d :: t) b (by rw [List.getLast?_cons_cons] at h; exact h)
    show linesL (c :: (d :: t ++ b)) = linesL (c :: d :: t) ++ linesL b
    rw [linesL, linesL.eq_2 c (d :: t), ih]
    have hh : (d :: t ++ b).head? = (d :: t).head? := rfl
    rw [hh]
    repeat' split
    all_goals rfl

theorem linesB_no13 (s : ByteArray) (k : Nat) (h : k < (linesB s).size) : (linesB s).get! k ≠ 13 := fun e => by
  have h1 := get!_of (linesB s) k h
  rw [e, linesB_list] at h1
  exact lines_no13 _ (List.mem_of_getElem? h1)
theorem linesB_id (s : ByteArray) : linesB (linesB s) = linesB s := by
  apply eq_of_list
  rw [linesB_list, linesB_list, lines_id _ (lines_no13 _)]
theorem linesB_half (s : ByteArray) : s.size ≤ 2 * (linesB s).size := by
  have h := lines_half _ s.data.toList (Nat.le_refl _)
  rw [← linesB_list] at h
  simpa using h
theorem linesB_append (a b : ByteArray) (h : ¬ (0 < a.size ∧ 0 < b.size ∧ a.get! (a.size - 1) = 13 ∧ b.get! 0 = 10)) : linesB (a ++ b) = linesB a ++ linesB b := by
  apply eq_of_list
  have e : (a ++ b).data.toList = a.data.toList ++ b.data.toList := by simp
  have e' : (linesB a ++ linesB b).data.toList = (linesB a).data.toList ++ (linesB b).data.toList := by simp
  rw [linesB_list, e, e', linesB_list, linesB_list]
  apply lines_append
  rintro ⟨h1, h2⟩
  apply h
  have ha : 0 < a.size := by
    rcases Nat.eq_zero_or_pos a.size with h0 | h0
    · have : a.data.toList = [] := List.eq_nil_of_length_eq_zero (by simpa using h0)
      rw [this] at h1; cases h1
    · exact h0
  have hb : 0 < b.size := by
    rcases Nat.eq_zero_or_pos b.size with h0 | h0
    · have : b.data.toList = [] := List.eq_nil_of_length_eq_zero (by simpa using h0)
      rw [this] at h2; cases h2
    · exact h0
  refine ⟨ha, hb, ?_, ?_⟩
  · have h3 := get!_of a (a.size - 1) (by omega)
    rw [List.getLast?_eq_getElem?] at h1
    have hl : a.data.toList.length = a.size := by simp
    rw [hl, h3] at h1
    exact Option.some.inj h1
  · have h3 := get!_of b 0 hb
    rw [List.head?_eq_getElem?, h3] at h2
    exact Option.some.inj h2
end Go.Proofs.YteipiaefamfleaaGreatDoor
namespace Go.Proofs.YteipiaefamfleaaGreatDoor
open Go.RowKit

theorem encode_list (r : Nat) : (Utf8.encode (r : Int)).data.toList = Lib.encodeRune r := by
  unfold Lib.encodeRune
  rw [← Go.Extern.FmtText.encode_eq r]
  unfold Go.Extern.FmtText.nums
  rw [List.map_map]
  conv => lhs; rw [← List.map_id (Utf8.encode (r : Int)).data.toList]
  apply List.map_congr_left
  intro x _
  simp
theorem rd_low (s : ByteArray) (pos : Nat) (h : by_ s pos < 128) : rd s pos = ((s.get! pos).toNat, 1) := by
  unfold rd
  exact rd_ascii (by unfold by_ at h; omega)
theorem rd_high (n x0 x1 x2 x3 : Nat) (h : 128 ≤ x0) (h0 : x0 < 256) (hn : (rdN n x0 x1 x2 x3).2 ≠ 0) : 128 ≤ (rdN n x0 x1 x2 x3).1 := by
  by_cases a2 : x0 < 192 ∨ 248 ≤ x0
  · exact absurd (by rw [rd_none (by omega) h0]) hn
  by_cases a3 : x0 < 224
  · by_cases g : n < 2 ∨ x1 < 128 ∨ 191 < x1 ∨ 64 * (x0 - 192) + (x1 - 128) < 128
    · exact absurd (by rw [rd2_no (by omega) g]) hn
    · rw [rd2_yes (by omega) (by omega) (by omega) (by omega) (by omega)]
      simp only
      omega
  by_cases a4 : x0 < 240
  · by_cases g : n < 3 ∨ x1 < 128 ∨ 191 < x1 ∨ x2 < 128 ∨ 191 < x2 ∨ v3 x0 x1 x2 < 2048 ∨ (55296 ≤ v3 x0 x1 x2 ∧ v3 x0 x1 x2 ≤ 57343)
    · exact absurd (by rw [rd3_no (by omega) g]) hn
    · rw [rd3_yes (by omega) (by omega) (by omega) (by omega) (by omega) (by omega) (by omega) (by omega)]
      simp only
      omega
  · by_cases g : n < 4 ∨ x1 < 128 ∨ 191 < x1 ∨ x2 < 128 ∨ 191 < x2 ∨ x3 < 128 ∨ 191 < x3 ∨ v4 x0 x1 x2 x3 < 65536 ∨ 1114111 < v4 x0 x1 x2 x3
    · exact absurd (by rw [rd4_no (by omega) g]) hn
    · rw [rd4_yes (by omega) (by omega) (by omega) (by omega) (by omega) (by omega) (by omega) (by omega) (by omega) (by omega)]
      simp only
      omega
theorem rd_char (s : ByteArray) (pos : Nat) (h0 : (rd s pos).2 ≠ 0) (h : (rd s pos).1 < 128) : by_ s pos = ((rd s pos).1 : Int) ∧ (rd s pos).2 = 1 := by
  by_cases g : by_ s pos < 128
  · rw [rd_low s pos g]
    exact ⟨rfl, rfl⟩
  · exfalso
    have hx : 128 ≤ (s.get! pos).toNat := by unfold by_ at g; omega
    have h2 := rd_high (s.size - pos) (s.get! pos).toNat (s.get! (pos + 1)).toNat (s.get! (pos + 2)).toNat (s.get! (pos + 3)).toNat hx (s.get! pos).toNat_lt h0
    change 128 ≤ (rd s pos).1 at h2
    omega
theorem close_iff (s : ByteArray) (pos : Nat) (h : pos < s.size) : closeB s pos = true ↔ (by_ s pos = 93 ∧ pos + 2 < s.size ∧ by_ s (pos + 1) = 93 ∧ by_ s (pos + 2) = 62) := by
  unfold closeB Lib.hasPrefix
  rw [drop_at s pos h]
  have hb : ∀ k (n : Nat), n < 256 → (s.get! k = UInt8.ofNat n ↔ by_ s k = (n : Int)) := fun k n hn => by
    constructor
    · intro e
      unfold by_
      rw [e, UInt8.toNat_ofNat']
      omega
    · exact get_of_by hn
  have b1 := hb pos 93 (by decide)
  by_cases h1 : pos + 1 < s.size
  · rw [drop_at s (pos + 1) h1]
    have b2 := hb (pos + 1) 93 (by decide)
    by_cases h2 : pos + 2 < s.size
    · rw [drop_at s (pos + 1 + 1) h2]
      have b3 := hb (pos + 2) 62 (by decide)
      simp only [List.isPrefixOf, Bool.and_true, Bool.and_eq_true, beq_iff_eq]
      constructor
      · rintro ⟨e1, e2, e3⟩
        exact ⟨b1.1 e1.symm, h2, b2.1 e2.symm, b3.1 e3.symm⟩
      · rintro ⟨e1, _, e2, e3⟩
        exact ⟨(b1.2 e1).symm, (b2.2 e2).symm, (b3.2 e3).symm⟩
    · rw [List.drop_eq_nil_of_le (by simp; omega)]
      simp only [List.isPrefixOf, Bool.and_false]
      constructor
      · intro e; cases e
      · rintro ⟨_, e, _⟩; exact absurd e h2
  · rw [List.drop_eq_nil_of_le (by simp; omega)]
    simp only [List.isPrefixOf, Bool.and_false]
    constructor
    · intro e; cases e
    · rintro ⟨_, e, _⟩; omega
theorem close_no (s : ByteArray) (pos : Nat) (h : pos < s.size) (h93 : by_ s pos ≠ 93) : closeB s pos = false := by
  rw [Bool.eq_false_iff]
  exact fun e => h93 ((close_iff s pos h).1 e).1
theorem both_next (s : ByteArray) (pos : Nat) (h60 : by_ s pos ≠ 60) (h38 : by_ s pos ≠ 38) : bothF s pos = (((nextF s pos).1 : Int), ((nextF s pos).2.1 : Int), ((nextF s pos).2.2 : Int)) := by
  unfold bothF
  rw [if_neg h60, if_neg h38]
/-- Where none of the signs stands: both say what the character says. -/
theorem steps_next (s : ByteArray) (pos : Nat) (h60 : by_ s pos ≠ 60) (h38 : by_ s pos ≠ 38) : (closeB s pos = false → stepT s pos = (((nextF s pos).1 : Int), ((nextF s pos).2.1 : Int), ((nextF s pos).2.2 : Int))) ∧ (by_ s pos ≠ 9 → by_ s pos ≠ 10 → by_ s pos ≠ 13 → stepV s pos = (((nextF s pos).1 : Int), ((nextF s pos).2.1 : Int), ((nextF s pos).2.2 : Int))) := by
  constructor
  · intro hc
    unfold stepT
    rw [if_neg (by rw [hc]; simp), both_next s pos h60 h38]
  · intro a b c
    unfold stepV
    rw [if_neg (by rintro (h | h | h); exact a h; exact b h; exact c h), both_next s pos h60 h38]
theorem step_bad (s : ByteArray) (pos : Nat) (h : pos < s.size) (h0 : (rd s pos).2 = 0) : stepT s pos = (0, 0, 20) ∧ stepV s pos = (0, 0, 20) := by
  have hb : 128 ≤ by_ s pos := by
    by_cases g : by_ s pos < 128
    · rw [rd_low s pos g] at h0; simp at h0
    · omega
  have hn : nextF s pos = (0, 0, 20) := by unfold nextF; rw [if_pos h0]
  obtain ⟨h1, h2⟩ := steps_next s pos (by omega) (by omega)
  rw [hn] at h1 h2
  exact ⟨h1 (close_no s pos h (by omega)), h2 (by omega) (by omega) (by omega)⟩
theorem charB_not {n : Nat} (h : charB (n : Int) = false) : n < 128 → n < 32 ∧ n ≠ 9 ∧ n ≠ 10 ∧ n ≠ 13 := by
  unfold charB at h
  have := of_decide_eq_false h
  omega
theorem step_no (s : ByteArray) (pos : Nat) (h : pos < s.size) (h0 : (rd s pos).2 ≠ 0) (hc : charB (rd s pos).1 = false) : stepT s pos = (0, 0, 21) ∧ stepV s pos = (0, 0, 21) := by
  have hn : nextF s pos = (0, 0, 21) := by unfold nextF; rw [if_neg h0, hc]; rfl
  have hb : by_ s pos ≠ 60 ∧ by_ s pos ≠ 38 ∧ by_ s pos ≠ 93 ∧ by_ s pos ≠ 9 ∧ by_ s pos ≠ 10 ∧ by_ s pos ≠ 13 := by
    by_cases g : by_ s pos < 128
    · have e := rd_low s pos g
      rw [e] at hc
      have := charB_not hc (by unfold by_ at g; omega)
      unfold by_
      simp only at this
      omega
    · omega
  obtain ⟨h1, h2⟩ := steps_next s pos hb.1 hb.2.1
  rw [hn] at h1 h2
  exact ⟨h1 (close_no s pos h hb.2.2.1), h2 hb.2.2.2.1 hb.2.2.2.2.1 hb.2.2.2.2.2⟩
theorem step_lt (s : ByteArray) (pos : Nat) (h : pos < s.size) (h60 : by_ s pos = 60) : stepT s pos = (0, 0, 23) ∧ stepV s pos = (0, 0, 23) := by
  have hb : bothF s pos = (0, 0, 23) := by unfold bothF; rw [if_pos h60]
  constructor
  · unfold stepT
    rw [if_neg (by rw [close_no s pos h (by omega)]; simp), hb]
  · unfold stepV
    rw [if_neg (by omega), hb]
theorem step_amp (s : ByteArray) (pos : Nat) (h : pos < s.size) (h38 : by_ s pos = 38) : stepT s pos = expF s pos ∧ stepV s pos = expF s pos := by
  have hb : bothF s pos = expF s pos := by unfold bothF; rw [if_neg (by omega), if_pos h38]
  constructor
  · unfold stepT
    rw [if_neg (by rw [close_no s pos h (by omega)]; simp), hb]
  · unfold stepV
    rw [if_neg (by omega), hb]
end Go.Proofs.YteipiaefamfleaaGreatDoor
namespace Go.Proofs.YteipiaefamfleaaGreatDoor
open Go.RowKit

/-- The k-th byte's number; 0 behind the end. -/
def gN (l : List UInt8) (k : Nat) : Nat := (l[k]?.getD 0).toNat
theorem gN_lt (l : List UInt8) (k : Nat) : gN l k < 256 := (l[k]?.getD 0).toNat_lt
def rdL (l : List UInt8) : Nat × Nat := rdN l.length (gN l 0) (gN l 1) (gN l 2) (gN l 3)
theorem get!_gN (s : ByteArray) (pos k : Nat) : (s.get! (pos + k)).toNat = gN (s.data.toList.drop pos) k := by
  unfold gN
  rw [List.getElem?_drop]
  by_cases h : pos + k < s.size
  · rw [get!_of s (pos + k) h]; rfl
  · rw [List.getElem?_eq_none (by simp; omega)]
    have e : s.get! (pos + k) = 0 := by
      show s.data[pos + k]! = 0
      rw [getElem!_neg _ _ (by have : s.data.size = s.size := rfl; omega)]
      rfl
    rw [e]; rfl
theorem rd_list (s : ByteArray) (pos : Nat) : rd s pos = rdL (s.data.toList.drop pos) := by
  unfold rd rdL
  have h0 := get!_gN s pos 0
  rw [Nat.add_zero] at h0
  rw [h0, get!_gN, get!_gN, get!_gN]
  simp
theorem rdN_align (n n' x0 x1 x2 x3 y1 y2 y3 : Nat) (h0 : x0 < 256) (hx : 128 ≤ x0)
    (a1 : (2 ≤ n ∧ 128 ≤ x1 ∧ x1 ≤ 191 → 2 ≤ n' ∧ y1 = x1) ∧ (¬ (2 ≤ n ∧ 128 ≤ x1 ∧ x1 ≤ 191) → ¬ (2 ≤ n' ∧ 128 ≤ y1 ∧ y1 ≤ 191)))
    (a2 : 2 ≤ n ∧ 128 ≤ x1 ∧ x1 ≤ 191 → (3 ≤ n ∧ 128 ≤ x2 ∧ x2 ≤ 191 → 3 ≤ n' ∧ y2 = x2) ∧ (¬ (3 ≤ n ∧ 128 ≤ x2 ∧ x2 ≤ 191) → ¬ (3 ≤ n' ∧ 128 ≤ y2 ∧ y2 ≤ 191)))
    (a3 : 3 ≤ n ∧ 128 ≤ x1 ∧ x1 ≤ 191 ∧ 128 ≤ x2 ∧ x2 ≤ 191 → (4 ≤ n ∧ 128 ≤ x3 ∧ x3 ≤ 191 → 4 ≤ n' ∧ y3 = x3) ∧ (¬ (4 ≤ n ∧ 128 ≤ x3 ∧ x3 ≤ 191) → ¬ (4 ≤ n' ∧ 128 ≤ y3 ∧ y3 ≤ 191))) :
    rdN n' x0 y1 y2 y3 = rdN n x0 x1 x2 x3 := by
  by_cases c0 : x0 < 192 ∨ 248 ≤ x0
  · rw [rd_none (by omega) h0, rd_none (by omega) h0]
  by_cases c1 : 2 ≤ n ∧ 128 ≤ x1 ∧ x1 ≤ 191
  · obtain ⟨m1, rfl⟩ := a1.1 c1
    have b2 := a2 c1
    by_cases d2 : x0 < 224
    · by_cases g : 64 * (x0 - 192) + (y1 - 128) < 128
      · rw [rd2_no (by omega) (by omega), rd2_no (by omega) (by omega)]
      · rw [rd2_yes (by omega) (by omega) (by omega) (by omega) (by omega), rd2_yes (by omega) (by omega) (by omega) (by omega) (by omega)]
    by_cases c2 : 3 ≤ n ∧ 128 ≤ x2 ∧ x2 ≤ 191
    · obtain ⟨m2, rfl⟩ := b2.1 c2
      have b3 := a3 ⟨c2.1, c1.2.1, c1.2.2, c2.2.1, c2.2.2⟩
      by_cases d3 : x0 < 240
      · by_cases g : v3 x0 y1 y2 < 2048 ∨ (55296 ≤ v3 x0 y1 y2 ∧ v3 x0 y1 y2 ≤ 57343)
        · rw [rd3_no (by omega) (by omega), rd3_no (by omega) (by omega)]
        · rw [rd3_yes (by omega) (by omega) (by omega) (by omega) (by omega) (by omega) (by omega) (by omega), rd3_yes (by omega) (by omega) (by omega) (by omega) (by omega) (by omega) (by omega) (by omega)]
      by_cases c3 : 4 ≤ n ∧ 128 ≤ x3 ∧ x3 ≤ 191
      · obtain ⟨m3, rfl⟩ := b3.1 c3
        by_cases g : v4 x0 y1 y2 y3 < 65536 ∨ 1114111 < v4 x0 y1 y2 y3
        · rw [rd4_no (by omega) (by omega), rd4_no (by omega) (by omega)]
        · rw [rd4_yes (by omega) (by omega) (by omega) (by omega) (by omega) (by omega) (by omega) (by omega) (by omega) (by omega), rd4_yes (by omega) (by omega) (by omega) (by omega) (by omega) (by omega) (by omega) (by omega) (by omega) (by omega)]
      · have e3 := b3.2 c3
        rw [rd4_no (by omega) (by omega), rd4_no (by omega) (by omega)]
    · have e2 := b2.2 c2
      by_cases d3 : x0 < 240
      · rw [rd3_no (by omega) (by omega), rd3_no (by omega) (by omega)]
      · rw [rd4_no (by omega) (by omega), rd4_no (by omega) (by omega)]
  · have e1 := a1.2 c1
    by_cases d2 : x0 < 224
    · rw [rd2_no (by omega) (by omega), rd2_no (by omega) (by omega)]
    by_cases d3 : x0 < 240
    · rw [rd3_no (by omega) (by omega), rd3_no (by omega) (by omega)]
    · rw [rd4_no (by omega) (by omega), rd4_no (by omega) (by omega)]

/-- What is asked of a way of writing: no byte from 128 on is touched; what is written for one begins with an ampersand. -/
structure EscOk (esc : Int → ByteArray) : Prop where
  high : ∀ c, 128 ≤ c → esc c = ⟨#[]⟩
  amp : ∀ c, esc c ≠ ⟨#[]⟩ → ∃ r, (esc c).data.toList = 38 :: r
theorem escT_ok : EscOk escT where
  high c h := by
    unfold escT
    rw [if_neg (by simp; omega), if_neg (by simp; omega), if_neg (by simp; omega), if_neg (by simp; omega)]
  amp c h := by
    revert h
    unfold escT
    repeat' split
    all_goals first | (intro _; exact ⟨_, rfl⟩) | (intro h; exact absurd rfl h)
theorem escV_ok : EscOk escV where
  high c h := by
    unfold escV
    rw [if_neg (by simp; omega), if_neg (by simp; omega), if_neg (by simp; omega), if_neg (by simp; omega), if_neg (by simp; omega), if_neg (by simp; omega)]
  amp c h := by
    revert h
    unfold escV
    repeat' split
    all_goals first | (intro _; exact ⟨_, rfl⟩) | (intro h; exact absurd rfl h)
theorem written_cons (esc : Int → ByteArray) (x : UInt8) (t : List UInt8) : writtenL esc (x :: t) = oneL esc x ++ writtenL esc t := by
  unfold writtenL
  rw [List.flatMap_cons]
theorem written_self {esc : Int → ByteArray} {x : UInt8} (h : esc x.toNat = ⟨#[]⟩) (t : List UInt8) : writtenL esc (x :: t) = x :: writtenL esc t := by
  rw [written_cons]
  unfold oneL
  rw [if_pos h]
  rfl
theorem written_esc {esc : Int → ByteArray} {x : UInt8} (h : ¬ esc x.toNat = ⟨#[]⟩) (t : List UInt8) : writtenL esc (x :: t) = (esc x.toNat).data.toList ++ writtenL esc t := by
  rw [written_cons]
  unfold oneL
  rw [if_neg h]
/-- The first byte of what is written: that of the text, if it is from 128 on; else one below 128. -/
theorem head_written {esc : Int → ByteArray} (he : EscOk esc) (t : List UInt8) : (∃ y t1, t = y :: t1 ∧ 128 ≤ y.toNat ∧ writtenL esc t = y :: writtenL esc t1) ∨ (gN t 0 < 128 ∧ gN (writtenL esc t) 0 < 128) := by
  cases t with
  | nil => right; exact ⟨by decide, show gN [] 0 < 128 by decide⟩
  | cons y t1 =>
    by_cases hy : 128 ≤ y.toNat
    · left
      exact ⟨y, t1, rfl, hy, written_self (he.high _ (by omega)) t1⟩
    · right
      refine ⟨by simp [gN]; omega, ?_⟩
      by_cases g : esc y.toNat = ⟨#[]⟩
      · rw [written_self g]; simp [gN]; omega
      · obtain ⟨r, hr⟩ := he.amp _ g
        rw [written_esc g, hr]
        simp [gN]
theorem gN_cons (y : UInt8) (t : List UInt8) (k : Nat) : gN (y :: t) (k + 1) = gN t k := by simp [gN]
theorem gN_zero (y : UInt8) (t : List UInt8) : gN (y :: t) 0 = y.toNat := by simp [gN]
theorem rd_written {esc : Int → ByteArray} (he : EscOk esc) (x : UInt8) (t : List UInt8) (hx : 128 ≤ x.toNat) : rdL (x :: writtenL esc t) = rdL (x :: t) := by
  unfold rdL
  rw [gN_zero, gN_zero, gN_cons, gN_cons, gN_cons, gN_cons, gN_cons, gN_cons]
  simp only [List.length_cons]
  have hl := x.toNat_lt
  rcases head_written he t with ⟨y, t1, rfl, hy, e⟩ | ⟨l1, l2⟩
  · rw [e, gN_zero, gN_zero, gN_cons, gN_cons, gN_cons, gN_cons]
    simp only [List.length_cons]
    rcases head_written he t1 with ⟨z, t2, rfl, hz, e2⟩ | ⟨l1, l2⟩
    · rw [e2, gN_zero, gN_zero, gN_cons, gN_cons]
      simp only [List.length_cons]
      rcases head_written he t2 with ⟨u, t3, rfl, hu, e3⟩ | ⟨l1, l2⟩
      · rw [e3, gN_zero, gN_zero]
        simp only [List.length_cons]
        apply rdN_align <;> omega
      · apply rdN_align <;> omega
    · apply rdN_align <;> omega
  · apply rdN_align <;> omega
theorem byte_back (x : UInt8) : ((x.toNat : Int)).toNat.toUInt8 = x := by simp
theorem encode_rdL (x : UInt8) (t : List UInt8) (h : (rdL (x :: t)).2 ≠ 0) : Lib.encodeRune ((rdL (x :: t)).1 : Int) = (x :: t).take (rdL (x :: t)).2 := by
  have hx := x.toNat_lt
  unfold rdL at h ⊢
  rw [gN_zero] at h ⊢
  by_cases a : x.toNat < 128
  · rw [rd_ascii a]
    unfold Lib.encodeRune
    rw [Lib.encodeRuneZ_one (by omega) (by omega)]
    simp
  by_cases a2 : x.toNat < 192 ∨ 248 ≤ x.toNat
  · exact absurd (by rw [rd_none (by omega) hx]) h
  cases t with
  | nil =>
    exfalso
    apply h
    by_cases a3 : x.toNat < 224
    · rw [rd2_no (by omega) (by simp)]
    · by_cases a4 : x.toNat < 240
      · rw [rd3_no (by omega) (by simp)]
      · rw [rd4_no (by omega) (by simp)]
  | cons y t1 =>
    have hy := y.toNat_lt
    rw [gN_cons, gN_zero, gN_cons, gN_cons] at h ⊢
    by_cases a3 : x.toNat < 224
    · by_cases g : y.toNat < 128 ∨ 191 < y.toNat ∨ 64 * (x.toNat - 192) + (y.toNat - 128) < 128
      · exact absurd (by rw [rd2_no (by omega) (by simp only [List.length_cons]; omega)]) h
      · rw [rd2_yes (by omega) (by simp only [List.length_cons]; omega) (by omega) (by omega) (by omega)]
        unfold Lib.encodeRune
        rw [Lib.encodeRuneZ_two (by omega) (by omega)]
        rw [show (192 + ((64 * (x.toNat - 192) + (y.toNat - 128) : Nat) : Int) / 64) = (x.toNat : Int) by omega, show (128 + ((64 * (x.toNat - 192) + (y.toNat - 128) : Nat) : Int) % 64) = (y.toNat : Int) by omega]
        simp
    cases t1 with
    | nil =>
      exfalso
      apply h
      by_cases a4 : x.toNat < 240
      · rw [rd3_no (by omega) (by simp)]
      · rw [rd4_no (by omega) (by simp)]
    | cons z t2 =>
      have hz := z.toNat_lt
      rw [gN_zero, gN_cons] at h ⊢
      by_cases a4 : x.toNat < 240
      · by_cases g : y.toNat < 128 ∨ 191 < y.toNat ∨ z.toNat < 128 ∨ 191 < z.toNat ∨ v3 x.toNat y.toNat z.toNat < 2048 ∨ (55296 ≤ v3 x.toNat y.toNat z.toNat ∧ v3 x.toNat y.toNat z.toNat ≤ 57343)
        · exact absurd (by rw [rd3_no (by omega) (by simp only [List.length_cons]; omega)]) h
        · rw [rd3_yes (by omega) (by simp only [List.length_cons]; omega) (by omega) (by omega) (by omega) (by omega) (by omega) (by omega)]
          unfold v3 at *
          unfold Lib.encodeRune
          rw [Lib.encodeRuneZ_three (by omega)]
          rw [show (224 + ((64 * (64 * (x.toNat - 224) + (y.toNat - 128)) + (z.toNat - 128) : Nat) : Int) / 4096) = (x.toNat : Int) by omega, show (128 + ((64 * (64 * (x.toNat - 224) + (y.toNat - 128)) + (z.toNat - 128) : Nat) : Int) / 64 % 64) = (y.toNat : Int) by omega, show (128 + ((64 * (64 * (x.toNat - 224) + (y.toNat - 128)) + (z.toNat - 128) : Nat) : Int) % 64) = (z.toNat : Int) by omega]
          simp
      cases t2 with
      | nil =>
        exfalso
        apply h
        rw [rd4_no (by omega) (by simp)]
      | cons u t3 =>
        have hu := u.toNat_lt
        rw [gN_cons, gN_cons, gN_zero] at h ⊢
        by_cases g : y.toNat < 128 ∨ 191 < y.toNat ∨ z.toNat < 128 ∨ 191 < z.toNat ∨ u.toNat < 128 ∨ 191 < u.toNat ∨ v4 x.toNat y.toNat z.toNat u.toNat < 65536 ∨ 1114111 < v4 x.toNat y.toNat z.toNat u.toNat
        · exact absurd (by rw [rd4_no (by omega) (by simp only [List.length_cons]; omega)]) h
        · rw [rd4_yes (by omega) (by simp only [List.length_cons]; omega) (by omega) (by omega) (by omega) (by omega) (by omega) (by omega) (by omega) (by omega)]
          unfold v4 at *
          unfold Lib.encodeRune
          rw [Lib.encodeRuneZ_four (by omega) (by omega)]
          rw [show (240 + ((64 * (64 * (64 * (x.toNat - 240) + (y.toNat - 128)) + (z.toNat - 128)) + (u.toNat - 128) : Nat) : Int) / 262144) = (x.toNat : Int) by omega, show (128 + ((64 * (64 * (64 * (x.toNat - 240) + (y.toNat - 128)) + (z.toNat - 128)) + (u.toNat - 128) : Nat) : Int) / 4096 % 64) = (y.toNat : Int) by omega, show (128 + ((64 * (64 * (64 * (x.toNat - 240) + (y.toNat - 128)) + (z.toNat - 128)) + (u.toNat - 128) : Nat) : Int) / 64 % 64) = (z.toNat : Int) by omega, show (128 + ((64 * (64 * (64 * (x.toNat - 240) + (y.toNat - 128)) + (z.toNat - 128)) + (u.toNat - 128) : Nat) : Int) % 64) = (u.toNat : Int) by omega]
          simp
end Go.Proofs.YteipiaefamfleaaGreatDoor
namespace Go.Proofs.YteipiaefamfleaaGreatDoor
open Go.RowKit

theorem by_list {s : ByteArray} {pos : Nat} {x : UInt8} {r : List UInt8} (h : s.data.toList.drop pos = x :: r) : pos < s.size ∧ by_ s pos = (x.toNat : Int) ∧ s.data.toList.drop (pos + 1) = r := by
  have hp : pos < s.size := by
    by_cases g : pos < s.size
    · exact g
    · rw [List.drop_eq_nil_of_le (by simp; omega)] at h
      cases h
  rw [drop_at s pos hp] at h
  injection h with h1 h2
  exact ⟨hp, by unfold by_; rw [h1], h2⟩
theorem encode_high (r : Int) (h : 128 ≤ r) : ∀ y ∈ Lib.encodeRune r, 128 ≤ y.toNat := by
  have go : ∀ z ∈ Lib.encodeRuneZ r, 128 ≤ z ∧ z < 256 := by
    by_cases c2 : r ≤ 2047
    · rw [Lib.encodeRuneZ_two h c2]
      simp only [List.mem_cons, List.mem_nil_iff, or_false]
      rintro z (rfl | rfl) <;> omega
    by_cases c3 : 1114111 < r ∨ (55296 ≤ r ∧ r ≤ 57343)
    · rw [Lib.encodeRuneZ_bad (by omega)]
      simp only [List.mem_cons, List.mem_nil_iff, or_false]
      rintro z (rfl | rfl | rfl) <;> omega
    by_cases c4 : r ≤ 65535
    · rw [Lib.encodeRuneZ_three (by omega)]
      simp only [List.mem_cons, List.mem_nil_iff, or_false]
      rintro z (rfl | rfl | rfl) <;> omega
    · rw [Lib.encodeRuneZ_four (by omega) (by omega)]
      simp only [List.mem_cons, List.mem_nil_iff, or_false]
      rintro z (rfl | rfl | rfl | rfl) <;> omega
  intro y hy
  unfold Lib.encodeRune at hy
  obtain ⟨z, hz, rfl⟩ := List.mem_map.1 hy
  have := go z hz
  show 128 ≤ (UInt8.ofNat z.toNat).toNat
  rw [UInt8.toNat_ofNat']
  omega
theorem rdL_take_high (x : UInt8) (t : List UInt8) (hx : 128 ≤ x.toNat) (h : (rdL (x :: t)).2 ≠ 0) : ∀ y ∈ (x :: t).take (rdL (x :: t)).2, 128 ≤ y.toNat := by
  have h1 : 128 ≤ (rdL (x :: t)).1 := by
    unfold rdL at h ⊢
    rw [gN_zero] at h ⊢
    exact rd_high _ _ _ _ _ hx x.toNat_lt h
  rw [← encode_rdL x t h]
  exact encode_high _ (by omega)
theorem written_high {esc : Int → ByteArray} (he : EscOk esc) : ∀ l : List UInt8, (∀ y ∈ l, 128 ≤ y.toNat) → writtenL esc l = l
  | [], _ => rfl
  | x :: l, h => by
    rw [written_self (he.high _ (by have := h x (by simp); omega)), written_high he l (fun y hy => h y (by simp [hy]))]
theorem written_cat (esc : Int → ByteArray) (a b : List UInt8) : writtenL esc (a ++ b) = writtenL esc a ++ writtenL esc b := by
  unfold writtenL
  rw [List.flatMap_append]
theorem list_eq_bytes {a b : ByteArray} (h : a.data.toList = b.data.toList) : a = b := by
  apply ByteArray.ext
  exact Array.toList_inj.1 h
theorem list_some {t : ByteArray} (h : ¬ t = ⟨#[]⟩) : 0 < t.data.toList.length := by
  cases he : t.data.toList with
  | nil => exact absurd (list_eq_bytes (by rw [he])) h
  | cons _ _ => simp
theorem written_pos (esc : Int → ByteArray) (x : UInt8) (t : List UInt8) : 0 < (writtenL esc (x :: t)).length := by
  by_cases h : esc x.toNat = ⟨#[]⟩
  · rw [written_self h]; simp
  · rw [written_esc h]
    have := list_some h
    simp only [List.length_append]
    omega
theorem rdL_low (x : UInt8) (t : List UInt8) (h : x.toNat < 128) : rdL (x :: t) = (x.toNat, 1) := by
  unfold rdL
  rw [gN_zero]
  exact rd_ascii h

/-- What is asked of a way of writing and a way of reading: what stands for itself is read as the character there; what doesn't, as itself, whole. -/
structure BackOk (esc : Int → ByteArray) (step : ByteArray → Nat → Int × Int × Int) : Prop where
  plain : ∀ (t : ByteArray) (pos : Nat) (x : UInt8) (l : List UInt8), t.data.toList.drop pos = x :: writtenL esc l → esc x.toNat = ⟨#[]⟩ → step t pos = (((nextF t pos).1 : Int), ((nextF t pos).2.1 : Int), ((nextF t pos).2.2 : Int))
  ref : ∀ (t : ByteArray) (pos : Nat) (x : UInt8) (r : List UInt8), t.data.toList.drop pos = (esc x.toNat).data.toList ++ r → esc x.toNat ≠ ⟨#[]⟩ → step t pos = ((x.toNat : Int), (pos : Int) + ((esc x.toNat).size : Int), 0)
  low : ∀ x : UInt8, esc x.toNat ≠ ⟨#[]⟩ → x.toNat < 128 ∧ charB (x.toNat : Int) = true

def BackIs (f : Nat) (l out : List UInt8) (r : List UInt8 × Nat × Int) : Prop := (f = 0 → r.1 = out ++ l ∧ r.2.2 = 0) ∧ (f ≠ 0 → r.1 = [] ∧ r.2.2 = (f : Int))
theorem back_go {esc : Int → ByteArray} {step : ByteArray → Nat → Int × Int × Int} (he : EscOk esc) (hb : BackOk esc step) (s : ByteArray) : ∀ (b pos : Nat), s.size ≤ pos + b → pos ≤ s.size → ∀ (a : List UInt8) (t : ByteArray), t.data.toList = a ++ writtenL esc (s.data.toList.drop pos) → ∀ (k : Nat) (out : List UInt8), t.size ≤ a.length + k → BackIs (faultGo s b pos).2 (s.data.toList.drop pos) out (readGo (step t) t.size k a.length out) := by
  intro b
  induction b with
  | zero =>
    intro pos h1 h2 a t ht k out hk
    have e : s.data.toList.drop pos = [] := List.drop_eq_nil_of_le (by simp; omega)
    rw [e] at ht ⊢
    have hl : t.size = a.length := by
      have := congrArg List.length ht
      simpa [writtenL] using this
    rw [readGo_end _ _ _ _ _ (by omega)]
    exact ⟨fun _ => ⟨by simp, rfl⟩, fun h => absurd rfl h⟩
  | succ b ih =>
    intro pos h1 h2 a t ht k out hk
    by_cases hlt : pos < s.size
    · have hd := drop_at s pos hlt
      obtain ⟨x, hx⟩ : ∃ x, s.get! pos = x := ⟨_, rfl⟩
      obtain ⟨l, hl⟩ : ∃ l, s.data.toList.drop (pos + 1) = l := ⟨_, rfl⟩
      rw [hx, hl] at hd
      rw [hd] at ht
      have hts : t.data.toList.drop a.length = writtenL esc (x :: l) := by rw [ht]; simp
      have hlen : t.size = a.length + (writtenL esc (x :: l)).length := by
        have := congrArg List.length ht
        simpa using this
      have hpos := written_pos esc x l
      obtain ⟨k, rfl⟩ : ∃ k', k = k' + 1 := ⟨k - 1, by omega⟩
      have hat : a.length < t.size := by omega
      have hrs : rd s pos = rdL (x :: l) := by rw [rd_list, hd]
      by_cases hesc : esc x.toNat = ⟨#[]⟩
      · have hts' := hts
        rw [written_self hesc] at hts'
        have hst := hb.plain t a.length x l hts' hesc
        have hrt : rd t a.length = rd s pos := by
          rw [rd_list, hts', hrs]
          by_cases g : 128 ≤ x.toNat
          · exact rd_written he x l g
          · rw [rdL_low _ _ (by omega), rdL_low _ _ (by omega)]
        by_cases h0 : (rd s pos).2 = 0
        · rw [faultGo_bad s b pos hlt h0]
          have hn : nextF t a.length = (0, 0, 20) := by unfold nextF; rw [hrt, if_pos h0]
          rw [hn] at hst
          rw [readGo_bad _ _ _ _ _ hat (by rw [hst]; decide), hst]
          exact ⟨fun h => absurd (show (20 : Nat) = 0 from h) (by decide), fun _ => ⟨rfl, rfl⟩⟩
        cases hc : charB ((rd s pos).1 : Int)
        · rw [faultGo_no s b pos hlt h0 hc]
          have hn : nextF t a.length = (0, 0, 21) := by unfold nextF; rw [hrt, if_neg h0, hc]; rfl
          rw [hn] at hst
          rw [readGo_bad _ _ _ _ _ hat (by rw [hst]; decide), hst]
          exact ⟨fun h => absurd (show (21 : Nat) = 0 from h) (by decide), fun _ => ⟨rfl, rfl⟩⟩
        · rw [faultGo_step s b pos hlt h0 hc]
          have hn : nextF t a.length = ((rd s pos).1, a.length + (rd s pos).2, 0) := by unfold nextF; rw [hrt, if_neg h0, hc]; rfl
          rw [hn] at hst
          rw [readGo_step _ _ _ _ _ hat (by rw [hst]; rfl), hst]
          simp only [Int.toNat_natCast]
          have hle := rd_le s pos hlt
          rw [hrs] at h0 hle ⊢
          obtain ⟨n, hn⟩ : ∃ n, (rdL (x :: l)).2 = n := ⟨_, rfl⟩
          have henc := encode_rdL x l h0
          have hkeep : writtenL esc ((x :: l).take n) = (x :: l).take n := by
            by_cases g : 128 ≤ x.toNat
            · exact written_high he _ (by rw [← hn]; exact rdL_take_high x l g h0)
            · have : n = 1 := by rw [← hn, rdL_low _ _ (by omega)]
              subst this
              show writtenL esc [x] = [x]
              rw [written_self hesc]
              rfl
          rw [hn] at h0 hle henc ⊢
          rw [henc]
          have hsplit : writtenL esc (x :: l) = (x :: l).take n ++ writtenL esc (s.data.toList.drop (pos + n)) := by
            conv => lhs; rw [← List.take_append_drop n (x :: l)]
            rw [written_cat, hkeep, ← hd, List.drop_drop]
          have hll : (x :: l).length = s.size - pos := by rw [← hd]; simp
          have htl : ((x :: l).take n).length = n := by rw [List.length_take]; omega
          have := ih (pos + n) (by omega) (by omega) (a ++ (x :: l).take n) t (by rw [ht, hsplit]; simp) k (out ++ (x :: l).take n) (by simp only [List.length_append, htl]; omega)
          rw [List.length_append, htl] at this
          obtain ⟨p1, p2⟩ := this
          refine ⟨fun h => ⟨?_, (p1 h).2⟩, p2⟩
          rw [(p1 h).1, List.append_assoc, hd]
          congr 1
          conv => rhs; rw [← List.take_append_drop n (x :: l)]
          rw [← hd, List.drop_drop]
      · have hts' := hts
        rw [written_esc hesc] at hts'
        have hst := hb.ref t a.length x _ hts' hesc
        obtain ⟨hlow, hch⟩ := hb.low x hesc
        have hr : rd s pos = (x.toNat, 1) := by rw [hrs, rdL_low _ _ hlow]
        rw [faultGo_step s b pos hlt (by rw [hr]; exact Nat.one_ne_zero) (by rw [hr]; exact hch), hr]
        rw [readGo_step _ _ _ _ _ hat (by rw [hst]), hst]
        have e1 : ((a.length : Int) + ((esc x.toNat).size : Int)).toNat = a.length + (esc x.toNat).size := by omega
        have e2 : Lib.encodeRune (x.toNat : Int) = [x] := by
          unfold Lib.encodeRune
          rw [Lib.encodeRuneZ_one (by omega) (by omega)]
          simp
        simp only [e1, e2]
        have hsz : (esc x.toNat).data.toList.length = (esc x.toNat).size := by simp
        have := ih (pos + 1) (by omega) (by omega) (a ++ (esc x.toNat).data.toList) t (by rw [ht, written_esc hesc, hl]; simp) k (out ++ [x]) (by
          rw [written_esc hesc] at hlen
          have hne := list_some hesc
          simp only [List.length_append, hsz] at hlen hne ⊢
          omega)
        rw [List.length_append, hsz] at this
        obtain ⟨p1, p2⟩ := this
        refine ⟨fun h => ⟨?_, (p1 h).2⟩, p2⟩
        rw [(p1 h).1, hd, hl]
        simp
    · have e : s.data.toList.drop pos = [] := List.drop_eq_nil_of_le (by simp; omega)
      rw [e] at ht ⊢
      have hl : t.size = a.length := by
        have := congrArg List.length ht
        simpa [writtenL] using this
      rw [readGo_end _ _ _ _ _ (by omega), faultGo_end _ _ _ hlt]
      exact ⟨fun _ => ⟨by simp, rfl⟩, fun h => absurd rfl h⟩
theorem back_all {esc : Int → ByteArray} {step : ByteArray → Nat → Int × Int × Int} (he : EscOk esc) (hb : BackOk esc step) (s : ByteArray) : BackIs (faultF s).2 s.data.toList [] (readF (step (writtenB esc s)) (writtenB esc s).size) := by
  have h := back_go he hb s s.size 0 (by omega) (by omega) [] (writtenB esc s) (by simp [writtenB]) (writtenB esc s).size [] (by simp)
  unfold faultF readF
  exact h

/-- None of these bytes stands in what is written. -/
theorem written_none {esc : Int → ByteArray} (p : UInt8 → Bool) (hp : ∀ x : UInt8, esc x.toNat = ⟨#[]⟩ → p x = false) (he : ∀ c, ∀ y ∈ (esc c).data.toList, p y = false) : ∀ l : List UInt8, ∀ y ∈ writtenL esc l, p y = false
  | [], y, hy => by cases hy
  | x :: l, y, hy => by
    rw [written_cons] at hy
    rcases List.mem_append.1 hy with h | h
    · unfold oneL at h
      split at h
      · rename_i g
        simp only [List.mem_cons, List.mem_nil_iff, or_false] at h
        subst h
        exact hp _ g
      · exact he _ y h
    · exact written_none p hp he l y h
def oddT (y : UInt8) : Bool := y == 60 || y == 62 || y == 13
def oddV (y : UInt8) : Bool := y == 60 || y == 34 || y == 9 || y == 10 || y == 13
theorem u8_of (y : UInt8) (n : Nat) (h : y.toNat = n) : y = UInt8.ofNat n := by rw [← h]; simp
theorem escT_iff (c : Int) : escT c = ⟨#[]⟩ ↔ (c ≠ 38 ∧ c ≠ 60 ∧ c ≠ 62 ∧ c ≠ 13) := by
  unfold escT
  by_cases h0 : c = 38
  · subst h0; simp
  by_cases h1 : c = 60
  · subst h1; simp
  by_cases h2 : c = 62
  · subst h2; simp
  by_cases h3 : c = 13
  · subst h3; simp
  simp [h0, h1, h2, h3]
theorem escV_iff (c : Int) : escV c = ⟨#[]⟩ ↔ (c ≠ 38 ∧ c ≠ 60 ∧ c ≠ 34 ∧ c ≠ 9 ∧ c ≠ 10 ∧ c ≠ 13) := by
  unfold escV
  by_cases h0 : c = 38
  · subst h0; simp
  by_cases h1 : c = 60
  · subst h1; simp
  by_cases h2 : c = 34
  · subst h2; simp
  by_cases h3 : c = 9
  · subst h3; simp
  by_cases h4 : c = 10
  · subst h4; simp
  by_cases h5 : c = 13
  · subst h5; simp
  simp [h0, h1, h2, h3, h4, h5]
theorem beq_u8 (y : UInt8) (n : Nat) (hn : n < 256) : (y == UInt8.ofNat n) = decide ((y.toNat : Int) = n) := by
  rw [Bool.eq_iff_iff, beq_iff_eq, decide_eq_true_iff]
  constructor
  · rintro rfl
    rw [UInt8.toNat_ofNat']
    omega
  · intro h
    exact u8_of y n (by omega)
theorem oddT_self (x : UInt8) (h : escT x.toNat = ⟨#[]⟩) : oddT x = false := by
  have := (escT_iff _).1 h
  unfold oddT
  rw [show (60 : UInt8) = UInt8.ofNat 60 from rfl, show (62 : UInt8) = UInt8.ofNat 62 from rfl, show (13 : UInt8) = UInt8.ofNat 13 from rfl, beq_u8 _ _ (by decide), beq_u8 _ _ (by decide), beq_u8 _ _ (by decide)]
  simp
  omega
theorem oddV_self (x : UInt8) (h : escV x.toNat = ⟨#[]⟩) : oddV x = false := by
  have := (escV_iff _).1 h
  unfold oddV
  rw [show (60 : UInt8) = UInt8.ofNat 60 from rfl, show (34 : UInt8) = UInt8.ofNat 34 from rfl, show (9 : UInt8) = UInt8.ofNat 9 from rfl, show (10 : UInt8) = UInt8.ofNat 10 from rfl, show (13 : UInt8) = UInt8.ofNat 13 from rfl, beq_u8 _ _ (by decide), beq_u8 _ _ (by decide), beq_u8 _ _ (by decide), beq_u8 _ _ (by decide), beq_u8 _ _ (by decide)]
  simp
  omega
theorem oddT_esc (c : Int) : ∀ y ∈ (escT c).data.toList, oddT y = false := by
  unfold escT
  repeat' split
  all_goals decide
theorem oddV_esc (c : Int) : ∀ y ∈ (escV c).data.toList, oddV y = false := by
  unfold escV
  repeat' split
  all_goals decide
theorem writtenT_none (l : List UInt8) : ∀ y ∈ writtenL escT l, oddT y = false := written_none oddT oddT_self oddT_esc l
theorem writtenV_none (l : List UInt8) : ∀ y ∈ writtenL escV l, oddV y = false := written_none oddV oddV_self oddV_esc l

theorem written_size {esc : Int → ByteArray} (h6 : ∀ c, (esc c).size ≤ 6) : ∀ l : List UInt8, (writtenL esc l).length ≤ 6 * l.length
  | [] => by simp [writtenL]
  | x :: l => by
    have := written_size h6 l
    have h := h6 x.toNat
    rw [written_cons]
    unfold oneL
    split
    · simp; omega
    · have e : (esc x.toNat).data.toList.length = (esc x.toNat).size := by simp
      simp only [List.length_append, e, List.length_cons]
      omega
theorem writtenB_size {esc : Int → ByteArray} (h6 : ∀ c, (esc c).size ≤ 6) (s : ByteArray) : (writtenB esc s).size ≤ 6 * s.size := by
  have := written_size h6 s.data.toList
  have e : s.data.toList.length = s.size := by simp
  rw [e] at this
  show (writtenL esc s.data.toList).toArray.size ≤ 6 * s.size
  rw [List.size_toArray]
  exact this
theorem ng_yes (s : ByteArray) (at_ m : Nat) (h : pfxB s at_ (4 - m) = true) : namedGo s at_ (m + 1) = (charOf (4 - m), (at_ : Int) + ((wordOf (4 - m)).size : Int), 0) := by rw [namedGo, if_pos h]
theorem ng_no (s : ByteArray) (at_ m : Nat) (h : pfxB s at_ (4 - m) = false) : namedGo s at_ (m + 1) = namedGo s at_ m := by rw [namedGo, if_neg (by rw [h]; simp)]
theorem exp_named {t : ByteArray} {pos k : Nat} {r : List UInt8} (hk : k < 5) (h : t.data.toList.drop pos = (wordOf k).data.toList ++ r) : expF t pos = (charOf k, (pos : Int) + ((wordOf k).size : Int), 0) := by
  have h35 : by_ t (pos + 1) ≠ 35 := by
    obtain rfl | rfl | rfl | rfl | rfl : k = 0 ∨ k = 1 ∨ k = 2 ∨ k = 3 ∨ k = 4 := by omega
    all_goals
      obtain ⟨_, _, e⟩ := by_list h
      obtain ⟨_, e2, _⟩ := by_list e
      rw [e2]
      decide
  unfold expF
  rw [if_neg (by rintro ⟨_, e⟩; exact h35 e)]
  obtain rfl | rfl | rfl | rfl | rfl : k = 0 ∨ k = 1 ∨ k = 2 ∨ k = 3 ∨ k = 4 := by omega
  · rw [ng_yes t pos 4 (by unfold pfxB; rw [h]; rfl)]
  · rw [ng_no t pos 4 (by unfold pfxB; rw [h]; rfl), ng_yes t pos 3 (by unfold pfxB; rw [h]; rfl)]
  · rw [ng_no t pos 4 (by unfold pfxB; rw [h]; rfl), ng_no t pos 3 (by unfold pfxB; rw [h]; rfl), ng_yes t pos 2 (by unfold pfxB; rw [h]; rfl)]
  · rw [ng_no t pos 4 (by unfold pfxB; rw [h]; rfl), ng_no t pos 3 (by unfold pfxB; rw [h]; rfl), ng_no t pos 2 (by unfold pfxB; rw [h]; rfl), ng_yes t pos 1 (by unfold pfxB; rw [h]; rfl)]
  · rw [ng_no t pos 4 (by unfold pfxB; rw [h]; rfl), ng_no t pos 3 (by unfold pfxB; rw [h]; rfl), ng_no t pos 2 (by unfold pfxB; rw [h]; rfl), ng_no t pos 1 (by unfold pfxB; rw [h]; rfl), ng_yes t pos 0 (by unfold pfxB; rw [h]; rfl)]
theorem exp_one {t : ByteArray} {pos : Nat} {a : UInt8} {r : List UInt8} (v : Nat) (h : t.data.toList.drop pos = 38 :: 35 :: a :: 59 :: r) (ha : a.toNat = 48 + v) (hv : v ≤ 9) (hc : charB (v : Int) = true) : expF t pos = ((v : Int), (pos : Int) + 4, 0) := by
  obtain ⟨l0, b0, h1⟩ := by_list h
  obtain ⟨l1, b1, h2⟩ := by_list h1
  obtain ⟨l2, b2, h3⟩ := by_list h2
  obtain ⟨l3, b3, _⟩ := by_list h3
  rw [show ((35 : UInt8).toNat : Int) = 35 from rfl] at b1
  rw [show ((59 : UInt8).toNat : Int) = 59 from rfl] at b3
  simp only [Nat.add_assoc, Nat.reduceAdd] at b2 b3 l2 l3
  have d2 : digZ (by_ t (pos + 2)) = v := by rw [b2, ha]; unfold digZ; rw [if_pos (by omega)]; omega
  have d3 : ¬ (pos + 3 < t.size ∧ digZ (by_ t (pos + 3)) < ((10 : Nat) : Int)) := by
    rintro ⟨_, e⟩
    rw [b3] at e
    revert e
    decide
  obtain ⟨m, hm⟩ : ∃ m, t.size = m + 1 := ⟨t.size - 1, by omega⟩
  unfold expF
  rw [if_pos ⟨l1, b1⟩]
  unfold numF
  rw [if_neg (by rintro ⟨_, e⟩; rw [b2] at e; omega)]
  have e1 : numGo t 10 t.size (pos + 2) 0 = (v, pos + 3) := by
    have : numGo t 10 (m + 1) (pos + 2) 0 = (v, pos + 3) := by
      rw [numGo_step t 10 m (pos + 2) 0 l2 (by rw [d2]; omega), d2, numGo_end _ _ _ _ _ d3]
      simp
      omega
    rw [hm]
    exact this
  rw [e1]
  unfold numOut
  simp only
  rw [if_neg (by rw [b3]; simp; omega), if_pos hc]
  simp only [Prod.mk.injEq, and_true, true_and]
  omega
theorem exp_two {t : ByteArray} {pos : Nat} {a b : UInt8} {r : List UInt8} (u v : Nat) (h : t.data.toList.drop pos = 38 :: 35 :: a :: b :: 59 :: r) (ha : a.toNat = 48 + u) (hu : u ≤ 9) (hb : b.toNat = 48 + v) (hv : v ≤ 9) (hc : charB ((10 * u + v : Nat) : Int) = true) : expF t pos = (((10 * u + v : Nat) : Int), (pos : Int) + 5, 0) := by
  obtain ⟨l0, b0, h1⟩ := by_list h
  obtain ⟨l1, b1, h2⟩ := by_list h1
  obtain ⟨l2, b2, h3⟩ := by_list h2
  obtain ⟨l3, b3, h4⟩ := by_list h3
  obtain ⟨l4, b4, _⟩ := by_list h4
  rw [show ((35 : UInt8).toNat : Int) = 35 from rfl] at b1
  rw [show ((59 : UInt8).toNat : Int) = 59 from rfl] at b4
  simp only [Nat.add_assoc, Nat.reduceAdd] at b2 b3 b4 l2 l3 l4
  have d2 : digZ (by_ t (pos + 2)) = u := by rw [b2, ha]; unfold digZ; rw [if_pos (by omega)]; omega
  have d3 : digZ (by_ t (pos + 3)) = v := by rw [b3, hb]; unfold digZ; rw [if_pos (by omega)]; omega
  have d4 : ¬ (pos + 4 < t.size ∧ digZ (by_ t (pos + 4)) < ((10 : Nat) : Int)) := by
    rintro ⟨_, e⟩
    rw [b4] at e
    revert e
    decide
  obtain ⟨m, hm⟩ : ∃ m, t.size = m + 2 := ⟨t.size - 2, by omega⟩
  unfold expF
  rw [if_pos ⟨l1, b1⟩]
  unfold numF
  rw [if_neg (by rintro ⟨_, e⟩; rw [b2] at e; omega)]
  have e1 : numGo t 10 t.size (pos + 2) 0 = (10 * u + v, pos + 4) := by
    have : numGo t 10 (m + 1 + 1) (pos + 2) 0 = (10 * u + v, pos + 4) := by
      rw [numGo_step t 10 (m + 1) (pos + 2) 0 l2 (by rw [d2]; omega), d2, numGo_step t 10 m (pos + 2 + 1) _ l3 (by rw [show pos + 2 + 1 = pos + 3 from rfl, d3]; omega), show pos + 2 + 1 = pos + 3 from rfl, d3, numGo_end _ _ _ _ _ d4]
      simp
      omega
    rw [hm]
    exact this
  rw [e1]
  unfold numOut
  simp only
  rw [if_neg (by rw [b4]; simp; omega), if_pos hc]
  simp only [Prod.mk.injEq, and_true, true_and]
  omega
theorem expT_ref (t : ByteArray) (pos : Nat) (x : UInt8) (r : List UInt8) (h : t.data.toList.drop pos = (escT x.toNat).data.toList ++ r) (hx : escT x.toNat ≠ ⟨#[]⟩) : expF t pos = ((x.toNat : Int), (pos : Int) + ((escT x.toNat).size : Int), 0) := by
  have hc := fun e => hx ((escT_iff (x.toNat : Int)).2 e)
  by_cases h0 : x.toNat = 38
  · obtain rfl : x = 38 := u8_of x 38 h0
    exact exp_named (k := 2) (by decide) h
  by_cases h1 : x.toNat = 60
  · obtain rfl : x = 60 := u8_of x 60 h1
    exact exp_named (k := 0) (by decide) h
  by_cases h2 : x.toNat = 62
  · obtain rfl : x = 62 := u8_of x 62 h2
    exact exp_named (k := 1) (by decide) h
  by_cases h3 : x.toNat = 13
  · obtain rfl : x = 13 := u8_of x 13 h3
    exact exp_two (a := 49) (b := 51) (r := r) 1 3 h rfl (by decide) rfl (by decide) (by decide)
  · exact absurd (by omega) hc
theorem expV_ref (t : ByteArray) (pos : Nat) (x : UInt8) (r : List UInt8) (h : t.data.toList.drop pos = (escV x.toNat).data.toList ++ r) (hx : escV x.toNat ≠ ⟨#[]⟩) : expF t pos = ((x.toNat : Int), (pos : Int) + ((escV x.toNat).size : Int), 0) := by
  have hc := fun e => hx ((escV_iff (x.toNat : Int)).2 e)
  by_cases h0 : x.toNat = 38
  · obtain rfl : x = 38 := u8_of x 38 h0
    exact exp_named (k := 2) (by decide) h
  by_cases h1 : x.toNat = 60
  · obtain rfl : x = 60 := u8_of x 60 h1
    exact exp_named (k := 0) (by decide) h
  by_cases h2 : x.toNat = 34
  · obtain rfl : x = 34 := u8_of x 34 h2
    exact exp_named (k := 4) (by decide) h
  by_cases h4 : x.toNat = 9
  · obtain rfl : x = 9 := u8_of x 9 h4
    exact exp_one (a := 57) (r := r) 9 h rfl (by decide) (by decide)
  by_cases h5 : x.toNat = 10
  · obtain rfl : x = 10 := u8_of x 10 h5
    exact exp_two (a := 49) (b := 48) (r := r) 1 0 h rfl (by decide) rfl (by decide) (by decide)
  by_cases h3 : x.toNat = 13
  · obtain rfl : x = 13 := u8_of x 13 h3
    exact exp_two (a := 49) (b := 51) (r := r) 1 3 h rfl (by decide) rfl (by decide) (by decide)
  · exact absurd (by omega) hc
theorem esc_amp {esc : Int → ByteArray} (he : EscOk esc) {t : ByteArray} {pos : Nat} {x : UInt8} {r : List UInt8} (h : t.data.toList.drop pos = (esc x.toNat).data.toList ++ r) (hx : esc x.toNat ≠ ⟨#[]⟩) : pos < t.size ∧ by_ t pos = 38 := by
  obtain ⟨q, hq⟩ := he.amp _ hx
  rw [hq] at h
  obtain ⟨l, b, _⟩ := by_list h
  exact ⟨l, b⟩
theorem no_close (t : ByteArray) (pos : Nat) (x : UInt8) (l : List UInt8) (h : t.data.toList.drop pos = x :: writtenL escT l) : closeB t pos = false := by
  obtain ⟨hp, _, h1⟩ := by_list h
  rw [Bool.eq_false_iff]
  intro e
  obtain ⟨_, h2, _, h62⟩ := (close_iff t pos hp).1 e
  have d1 := drop_at t (pos + 1) (by omega)
  have d2 := drop_at t (pos + 1 + 1) h2
  have hm : t.get! (pos + 2) ∈ writtenL escT l := by rw [← h1, d1, d2]; simp
  have := writtenT_none l _ hm
  have hy : t.get! (pos + 2) = 62 := u8_of _ 62 (by unfold by_ at h62; omega)
  rw [hy] at this
  cases this
theorem backT : BackOk escT stepT where
  plain t pos x l h hx := by
    obtain ⟨hp, hb, _⟩ := by_list h
    have hn := (escT_iff _).1 hx
    exact (steps_next t pos (by omega) (by omega)).1 (no_close t pos x l h)
  ref t pos x r h hx := by
    obtain ⟨hp, hb⟩ := esc_amp escT_ok h hx
    rw [(step_amp t pos hp hb).1]
    exact expT_ref t pos x r h hx
  low x hx := by
    have hc := mt (escT_iff (x.toNat : Int)).2 hx
    have : x.toNat = 38 ∨ x.toNat = 60 ∨ x.toNat = 62 ∨ x.toNat = 13 := by omega
    rcases this with h | h | h | h <;> rw [h] <;> decide
theorem backV : BackOk escV stepV where
  plain t pos x l h hx := by
    obtain ⟨hp, hb, _⟩ := by_list h
    have hn := (escV_iff _).1 hx
    exact (steps_next t pos (by omega) (by omega)).2 (by omega) (by omega) (by omega)
  ref t pos x r h hx := by
    obtain ⟨hp, hb⟩ := esc_amp escV_ok h hx
    rw [(step_amp t pos hp hb).2]
    exact expV_ref t pos x r h hx
  low x hx := by
    have hc := mt (escV_iff (x.toNat : Int)).2 hx
    have : x.toNat = 38 ∨ x.toNat = 60 ∨ x.toNat = 34 ∨ x.toNat = 9 ∨ x.toNat = 10 ∨ x.toNat = 13 := by omega
    rcases this with h | h | h | h | h | h <;> rw [h] <;> decide
end Go.Proofs.YteipiaefamfleaaGreatDoor
