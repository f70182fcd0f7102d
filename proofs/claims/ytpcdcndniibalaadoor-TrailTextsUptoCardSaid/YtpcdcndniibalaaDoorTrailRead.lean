/- Proved here: what trail.Read answers of every text. -/
import Derived.Test.YtpcdcndniibalaaDoorTrailGuess
namespace Go.Proofs.YtpcdcndniibalaaDoor
open Go.RowKit

theorem str_apart {a b : ByteArray} (h : ¬ a = b) : (a.toList == b.toList) = false := by
  rw [beq_eq_false_iff_ne, ByteArray.toList_eq, ByteArray.toList_eq]
  exact fun e => h (ba_ext e)
def trZ : Tr := ⟨[], false, ⟨#[]⟩, ⟨#[]⟩⟩
def ReadPost (w : World) (r : Option Tr) (e : Ending) (w' : World) : Prop := ∃ q d, e = .returned (.tuple #[TrV q d (r.getD trZ), .int .i64 (if r.isSome then 0 else 35)]) ∧ TrAt w' q d (r.getD trZ) ∧ (q = none → d = 0) ∧ Below w.heap.size w w'
theorem readPost_none {w W : World} (hb : Below w.heap.size w W) : ReadPost w none (.returned (.tuple #[.agg #[.slice none 0 0, .bool false, .string ⟨#[]⟩, .string ⟨#[]⟩], .int .i64 35])) W :=
  ⟨none, 0, rfl, ⟨fun h => absurd h (by decide), Nat.le_refl _, Nat.zero_le _⟩, fun _ => rfl, hb⟩
theorem guess_small {s : List UInt8} {t : Tr} (h : guessL s = t) : t.uri.size ≤ s.length ∧ t.loc.size ≤ s.length := by
  subst h
  have h1 := cut_len s [47, 64]
  have h2 := cut_len (Lib.cut s [47, 64]).2.1 [123]
  have h3 := trim_len (Lib.cut (Lib.cut s [47, 64]).2.1 [123]).2.1 [125]
  unfold guessL
  constructor
  · show ByteArray.size (if _ then _ else _) ≤ _
    split
    · rw [ba_len]; omega
    · exact Nat.zero_le _
  · show ByteArray.size (if _ then _ else _) ≤ _
    split
    · rw [ba_len]; omega
    · exact Nat.zero_le _

set_option maxRecDepth 100000 in
set_option maxHeartbeats 4000000 in
/-- The three ways, told by what Show answers of the guess. -/
theorem read_bad (s : ByteArray) (w : World) (hL : TLeans w) (hs : s.size ≤ 4194304) (t : Tr) (ht : guessL s.data.toList = t) (hr : rightT t = false) :
    Calls Tryd.prog 9 #[.string s] w (ReadPost w none) := by
  have hsm := guess_small ht
  rw [ba_size] at hsm
  have GU := Lib.hid (fun W (y : Below w.heap.size w W) => guess_any s W (hL.below y) hs)
  rw [ht] at GU
  have SH := Lib.hid (fun W q d (y : Below w.heap.size w W) (h : TrAt W q d t) => show_any q d t W h (hL.below y) (by omega) (by omega))
  rw [hr] at SH
  simp only [Bool.false_eq_true, if_false] at SH
  obtain ⟨d0, f0⟩ := t_cells (t_one w (.cells #[.slice none 0 0, .bool false, .string ⟨#[]⟩, .string ⟨#[]⟩] 26))
  have D0 := Lib.hid (t_one w (.cells #[.slice none 0 0, .bool false, .string ⟨#[]⟩, .string ⟨#[]⟩] 26))
  clear hL ht hr hsm d0 f0
  obtain ⟨l, a, u, n⟩ := t
  go_enter Tryd.func9, Tryd.ntmps9
  go_wp2_with (fail)
  refine (GU.out _ ((Below.refl _ _).alloc (Nat.le_refl _) _)).mono ?_
  rintro e w1 ⟨q, d, rfl, hat, hqn, hb⟩
  have hb1 := t_cat ((Below.refl _ w).alloc (Nat.le_refl _) _) hb
  have hk1 := (hb.block w.heap.size (by simp)).trans D0.out
  have hz1 : w.heap.size < w1.heap.size := by have := hb.size; simp at this; omega
  have HB1 := Lib.hid (And.intro hb1 (And.intro hk1 hat))
  clear hb hb1 hk1 hqn hat D0
  unfold TrV at SH ⊢
  go_wp2_with (fail)
  refine (SH.out _ q d (HB1.out.1.trans ((Below.refl _ _).alloc (Nat.le_of_lt hz1) _)) (HB1.out.2.2.below ((Below.refl _ _).alloc (Nat.le_refl _) _))).mono ?_
  rintro e w3 ⟨rfl, hb3⟩
  have hk3 := (hb3.block w.heap.size (by simp; omega)).trans ((((Below.refl _ w1).alloc (Nat.le_refl _) _).block w.heap.size hz1).trans HB1.out.2.1)
  have hb4 := (HB1.out.1.trans ((Below.refl _ _).alloc (Nat.le_of_lt hz1) _)).trans (hb3.mono (by simp; omega))
  obtain ⟨⟨c0, c1, c2, c3⟩, ⟨f0, f1, f2, f3⟩⟩ := t_cells hk3
  have hr9 := setT_row (.slice none 0 0) (.bool false) (.string ⟨#[]⟩) (.string ⟨#[]⟩) hk3
  have hb9 := setT_below (.slice none 0 0) (.bool false) (.string ⟨#[]⟩) (.string ⟨#[]⟩) hb4 (G := w.heap.size) (Nat.le_refl _)
  have HB9 := Lib.hid (And.intro hr9 hb9)
  clear hk3 hb3 hb4 hr9 hb9 HB1
  go_wp2_with (fail)
  change bodyPost _ _ _ _ _ (setT w3 w.heap.size (.slice none 0 0) (.bool false) (.string ⟨#[]⟩) (.string ⟨#[]⟩))
  generalize setT w3 w.heap.size (.slice none 0 0) (.bool false) (.string ⟨#[]⟩) (.string ⟨#[]⟩) = w9 at *
  obtain ⟨⟨d0, d1, d2, d3⟩, _⟩ := t_cells HB9.out.1
  refine bodyPost_ret (v := .tuple #[.agg #[.slice none 0 0, .bool false, .string ⟨#[]⟩, .string ⟨#[]⟩], .int .i64 35]) ?_ rfl ?_
  · rw [results_cell_tmp rfl]
    go_simp
  · exact readPost_none HB9.out.2
set_option maxRecDepth 100000 in
set_option maxHeartbeats 4000000 in
theorem read_other (s : ByteArray) (w : World) (hL : TLeans w) (hs : s.size ≤ 4194304) (t : Tr) (ht : guessL s.data.toList = t) (hr : rightT t = true) (z : ByteArray) (hz : (⟨(showL t).toArray⟩ : ByteArray) = z) (hne : ¬ z = s) :
    Calls Tryd.prog 9 #[.string s] w (ReadPost w none) := by
  have hsm := guess_small ht
  rw [ba_size] at hsm
  have GU := Lib.hid (fun W (y : Below w.heap.size w W) => guess_any s W (hL.below y) hs)
  rw [ht] at GU
  have SH := Lib.hid (fun W q d (y : Below w.heap.size w W) (h : TrAt W q d t) => show_any q d t W h (hL.below y) (by omega) (by omega))
  rw [hr, hz] at SH
  simp only [if_true] at SH
  have hn1 : (z.toList == s.toList) = false := str_apart hne
  have D0 := Lib.hid (t_one w (.cells #[.slice none 0 0, .bool false, .string ⟨#[]⟩, .string ⟨#[]⟩] 26))
  clear hL ht hr hsm hz hne
  obtain ⟨l, a, u, n⟩ := t
  go_enter Tryd.func9, Tryd.ntmps9
  go_wp2_with (fail)
  refine (GU.out _ ((Below.refl _ _).alloc (Nat.le_refl _) _)).mono ?_
  rintro e w1 ⟨q, d, rfl, hat, hqn, hb⟩
  have hb1 := t_cat ((Below.refl _ w).alloc (Nat.le_refl _) _) hb
  have hk1 := (hb.block w.heap.size (by simp)).trans D0.out
  have hz1 : w.heap.size < w1.heap.size := by have := hb.size; simp at this; omega
  have HB1 := Lib.hid (And.intro hb1 (And.intro hk1 hat))
  clear hb hb1 hk1 hqn hat D0
  unfold TrV at SH ⊢
  go_wp2_with (fail)
  refine (SH.out _ q d (HB1.out.1.trans ((Below.refl _ _).alloc (Nat.le_of_lt hz1) _)) (HB1.out.2.2.below ((Below.refl _ _).alloc (Nat.le_refl _) _))).mono ?_
  rintro e w3 ⟨rfl, hb3⟩
  have hk3 := (hb3.block w.heap.size (by simp; omega)).trans ((((Below.refl _ w1).alloc (Nat.le_refl _) _).block w.heap.size hz1).trans HB1.out.2.1)
  have hb4 := (HB1.out.1.trans ((Below.refl _ _).alloc (Nat.le_of_lt hz1) _)).trans (hb3.mono (by simp; omega))
  obtain ⟨⟨c0, c1, c2, c3⟩, ⟨f0, f1, f2, f3⟩⟩ := t_cells hk3
  have hr9 := setT_row (.slice none 0 0) (.bool false) (.string ⟨#[]⟩) (.string ⟨#[]⟩) hk3
  have hb9 := setT_below (.slice none 0 0) (.bool false) (.string ⟨#[]⟩) (.string ⟨#[]⟩) hb4 (G := w.heap.size) (Nat.le_refl _)
  have HB9 := Lib.hid (And.intro hr9 hb9)
  clear hk3 hb3 hb4 hr9 hb9 HB1
  go_wp2_with (fail)
  change bodyPost _ _ _ _ _ (setT w3 w.heap.size (.slice none 0 0) (.bool false) (.string ⟨#[]⟩) (.string ⟨#[]⟩))
  generalize setT w3 w.heap.size (.slice none 0 0) (.bool false) (.string ⟨#[]⟩) (.string ⟨#[]⟩) = w9 at *
  obtain ⟨⟨d0, d1, d2, d3⟩, _⟩ := t_cells HB9.out.1
  refine bodyPost_ret (v := .tuple #[.agg #[.slice none 0 0, .bool false, .string ⟨#[]⟩, .string ⟨#[]⟩], .int .i64 35]) ?_ rfl ?_
  · rw [results_cell_tmp rfl]
    go_simp
  · exact readPost_none HB9.out.2
set_option maxRecDepth 100000 in
set_option maxHeartbeats 4000000 in
theorem read_good (s : ByteArray) (w : World) (hL : TLeans w) (hs : s.size ≤ 4194304) (t : Tr) (ht : guessL s.data.toList = t) (hr : rightT t = true) (hz : (⟨(showL t).toArray⟩ : ByteArray) = s) :
    Calls Tryd.prog 9 #[.string s] w (ReadPost w (some t)) := by
  have hsm := guess_small ht
  rw [ba_size] at hsm
  have GU := Lib.hid (fun W (y : Below w.heap.size w W) => guess_any s W (hL.below y) hs)
  rw [ht] at GU
  have SH := Lib.hid (fun W q d (y : Below w.heap.size w W) (h : TrAt W q d t) => show_any q d t W h (hL.below y) (by omega) (by omega))
  rw [hr, hz] at SH
  simp only [if_true] at SH
  have hn1 : (s.toList == s.toList) = true := by simp
  have D0 := Lib.hid (t_one w (.cells #[.slice none 0 0, .bool false, .string ⟨#[]⟩, .string ⟨#[]⟩] 26))
  clear hL ht hr hsm hz
  obtain ⟨l, a, u, n⟩ := t
  go_enter Tryd.func9, Tryd.ntmps9
  go_wp2_with (fail)
  refine (GU.out _ ((Below.refl _ _).alloc (Nat.le_refl _) _)).mono ?_
  rintro e w1 ⟨q, d, rfl, hat, hqn, hb⟩
  have hb1 := t_cat ((Below.refl _ w).alloc (Nat.le_refl _) _) hb
  have hk1 := (hb.block w.heap.size (by simp)).trans D0.out
  have hz1 : w.heap.size < w1.heap.size := by have := hb.size; simp at this; omega
  have HB1 := Lib.hid (And.intro hb1 (And.intro hk1 (And.intro hat hqn)))
  clear hb hb1 hk1 hqn hat D0
  unfold TrV at SH ⊢
  go_wp2_with (fail)
  refine (SH.out _ q d (HB1.out.1.trans ((Below.refl _ _).alloc (Nat.le_of_lt hz1) _)) (HB1.out.2.2.1.below ((Below.refl _ _).alloc (Nat.le_refl _) _))).mono ?_
  rintro e w3 ⟨rfl, hb3⟩
  have hk3 := (hb3.block w.heap.size (by simp; omega)).trans ((((Below.refl _ w1).alloc (Nat.le_refl _) _).block w.heap.size hz1).trans HB1.out.2.1)
  have hb4 := (HB1.out.1.trans ((Below.refl _ _).alloc (Nat.le_of_lt hz1) _)).trans (hb3.mono (by simp; omega))
  have hm3 := (hb3.block w1.heap.size (by simp)).trans (t_one w1 (.cells #[.slice q l.length d, .bool a, .string u, .string n] 26))
  have hat3 := HB1.out.2.2.1.below (((Below.refl _ _).alloc (Nat.le_refl _) _).trans (hb3.mono (by simp)))
  have hqn := HB1.out.2.2.2
  obtain ⟨⟨c0, c1, c2, c3⟩, ⟨f0, f1, f2, f3⟩⟩ := t_cells hk3
  obtain ⟨⟨e0, e1, e2, e3⟩, -⟩ := t_cells hm3
  have hr9 := setT_row (.slice q l.length d) (.bool a) (.string u) (.string n) hk3
  have hb9 := setT_below (.slice q l.length d) (.bool a) (.string u) (.string n) hb4 (G := w.heap.size) (Nat.le_refl _)
  have ho9 := HoldsI.setT (.slice q l.length d) (.bool a) (.string u) (.string n) hat3.1 hk3
  have HB9 := Lib.hid (And.intro hr9 (And.intro hb9 (show ReadPost w (some ⟨l, a, u, n⟩) (.returned (.tuple #[.agg #[.slice q l.length d, .bool a, .string u, .string n], .int .i64 0])) _ from ⟨q, d, rfl, ⟨ho9, hat3.2⟩, hqn, hb9⟩)))
  clear hk3 hb3 hb4 hr9 hb9 HB1 hm3 hat3 hqn ho9
  go_wp2_with (fail)
  change bodyPost _ _ _ _ _ (setT w3 w.heap.size (.slice q l.length d) (.bool a) (.string u) (.string n))
  generalize setT w3 w.heap.size (.slice q l.length d) (.bool a) (.string u) (.string n) = w9 at *
  obtain ⟨⟨d0, d1, d2, d3⟩, _⟩ := t_cells HB9.out.1
  refine bodyPost_ret (v := .tuple #[.agg #[.slice q l.length d, .bool a, .string u, .string n], .int .i64 0]) ?_ rfl ?_
  · rw [results_cell_tmp rfl]
    go_simp
  · exact HB9.out.2.2
theorem read_any (s : ByteArray) (w : World) (hL : TLeans w) (hs : s.size ≤ 4194304) :
    Calls Tryd.prog 9 #[.string s] w (ReadPost w (readT s.data.toList)) := by
  unfold readT
  cases hr : rightT (guessL s.data.toList)
  · exact read_bad s w hL hs _ rfl hr
  · by_cases hz : showL (guessL s.data.toList) = s.data.toList
    · rw [if_pos (by simp [hz])]
      exact read_good s w hL hs _ rfl hr (by rw [hz])
    · rw [if_neg (by simp [hz])]
      exact read_other s w hL hs _ rfl hr _ rfl (fun e => hz (congrArg (fun x : ByteArray => x.data.toList) e))
end Go.Proofs.YtpcdcndniibalaaDoor
