/- Proved here: what trail.Show answers of every trail. -/
import Derived.Test.YtpcdcndniibalaaDoorTrailIs2
import Derived.Test.YtpcdcndniibalaaDoorShelfTB
import Derived.Shelf.Unicode.PredsPay
import Derived.Laws.DeepStrings4
namespace Go.Proofs.YtpcdcndniibalaaDoor
open Go.RowKit

/-- All that trail leans on: two tables of UTF-8, one of powers of ten, a number, two errors. -/
structure TLeans (w : World) : Prop where
  tabs : Tabs w
  pow : Lib.TabIs Tryd.prog w "internal/strconv.uint64pow10" .u64 Lib.pow10Tab
  max : ∃ m, w.cell? ⟨2, 0, none⟩ = some (.int .i64 m)
  syn : ∃ ev, w.cell? ⟨4, 0, none⟩ = some ev ∧ (ev = .nilIface ∨ ∃ te pe, ev = .iface te pe)
  rng : ∃ ev, w.cell? ⟨5, 0, none⟩ = some ev ∧ (ev = .nilIface ∨ ∃ te pe, ev = .iface te pe)
theorem TLeans.below {w W : World} (h : TLeans w) (hb : Below w.heap.size w W) : TLeans W :=
  ⟨h.tabs.below hb, TabIs_below (g := 3) (by kernel_rfl) h.pow hb, by obtain ⟨m, hm⟩ := h.max; exact ⟨m, t_cell hb hm⟩, by obtain ⟨m, hm, hk⟩ := h.syn; exact ⟨m, t_cell hb hm, hk⟩, by obtain ⟨m, hm, hk⟩ := h.rng; exact ⟨m, t_cell hb hm, hk⟩⟩
theorem t_grow (w : World) (k : Nat) (os : Array Obj) : Below w.heap.size w (Sort.grow (w.drewN k) os) :=
  ⟨rfl, rfl, rfl, by simp [Sort.grow], fun i hi => by simp only [Sort.grow]; exact Array.getElem?_append_left hi⟩
theorem builder_far {T e : TypeId} {B b : Nat} {bs : List Value} {w w' : World} (h : Lib.IsBuilder T e B b bs w) (hb : Below w.heap.size w w') : Lib.IsBuilder T e B b bs w' := by
  have hg : w.grownBy w' none := ⟨hb.os, hb.tape, hb.output, hb.size, fun i hi _ => hb.block i hi⟩
  have go : ∀ p, Lib.BuilderAt T e B b p bs w → Lib.BuilderAt T e B b p bs w' := by
    intro p hp
    have hlt := hp.lt
    obtain ⟨hB, v, h1, h2, h3⟩ := hp
    exact ⟨hB, v, by rw [hb.block b hlt]; exact h1, h2.kept hg (by cases v.ownBlock <;> simp), h3⟩
  exact h.imp (go _) (go _)
theorem dig_len : ∀ (k u : Nat), u < 10 ^ (k + 1) → (Lib.decDigits u).length ≤ k + 1
  | 0, u, h => by
    rw [Lib.decDigits, dif_pos (by omega)]; simp
  | k + 1, u, h => by
    rw [Lib.decDigits]
    split
    · simp
    · have h2 : u / 10 < 10 ^ (k + 1) := by rw [Nat.div_lt_iff_lt_mul (by omega)]; rw [Nat.pow_succ] at h; exact h
      have := dig_len k (u / 10) h2
      simp; omega
theorem itoa_len {n : Int} (h : stepOk n = true) : (Lib.itoa n).length ≤ 9 := by
  rw [itoa_dig h]
  simp only [stepOk, Bool.and_eq_true, decide_eq_true_eq] at h
  exact dig_len 8 _ (by omega)
theorem stepsL_take {l : List Int} {k : Nat} (h : k < l.length) : stepsL (l.take (k + 1)) = stepsL (l.take k) ++ 47 :: Lib.itoa (l.getD k 0) := by
  have e : l.getD k 0 = l[k] := by simp [List.getD, List.getElem?_eq_getElem h]
  unfold stepsL
  rw [List.take_succ_eq_append_getElem h, List.flatMap_append, e]
  simp only [List.flatMap_cons, List.flatMap_nil, List.append_nil]
theorem stepsL_len : ∀ (l : List Int), l.all stepOk = true → (stepsL l).length ≤ 10 * l.length
  | [], _ => Nat.le_refl _
  | n :: l, h => by
    simp only [List.all_cons, Bool.and_eq_true] at h
    have h1 := itoa_len h.1
    have h2 := stepsL_len l h.2
    show (47 :: Lib.itoa n ++ stepsL l).length ≤ _
    simp; omega
theorem all_at {l : List Int} (h : l.all stepOk = true) {k : Nat} (hk : k < l.length) : stepOk (l.getD k 0) = true := by
  rw [List.all_eq_true] at h
  have e : l.getD k 0 = l[k] := by simp [List.getD, List.getElem?_eq_getElem hk]
  rw [e]; exact h _ (List.getElem_mem hk)
theorem all_take {l : List Int} (h : l.all stepOk = true) (k : Nat) : (l.take k).all stepOk = true := by
  rw [List.all_eq_true] at h ⊢
  exact fun x hx => h x (List.mem_of_mem_take hx)
theorem ba_list (l : List UInt8) : (⟨l.toArray⟩ : ByteArray).data.toList = l := rfl
theorem ba_len (l : List UInt8) : (⟨l.toArray⟩ : ByteArray).size = l.length := by
  show l.toArray.size = _
  simp
theorem cat_cells (a b : ByteArray) : Lib.strCells (a ++ b) = Lib.byteCells (a.data.toList ++ b.data.toList) := by
  rw [Lib.strCells_eq]; simp

set_option maxRecDepth 100000 in
set_option maxHeartbeats 2000000 in
theorem show_no (p : Option Addr) (c : Nat) (t : Tr) (w : World) (hat : TrAt w p c t) (hL : TLeans w) (hu : t.uri.size ≤ 140737488355328) (hn : t.loc.size ≤ 140737488355328) (hr : rightT t = false) :
    Calls Tryd.prog 8 #[TrV p c t] w fun e w' => e = .returned (.tuple #[.string ⟨#[]⟩, .int .i64 35]) ∧ Below w.heap.size w w' := by
  have R := Lib.hid (fun W (y : Below w.heap.size w W) => isRight_any p c t W (hat.below y) (hL.tabs.below y) hu hn)
  rw [hr] at R
  unfold TrV at R ⊢
  clear hat hL hu hn hr
  go_enter Tryd.func8, Tryd.ntmps8
  go_wp2_with (fail)
  refine (R.out _ ((Below.refl _ _).alloc (Nat.le_refl _) _)).mono ?_
  rintro e w1 ⟨rfl, hb⟩
  have HB := Lib.hid (t_cat ((Below.refl _ _).alloc (Nat.le_refl _) _) hb)
  clear hb
  go_wp2_with (fail)
  go_ret2
  exact ⟨rfl, HB.out⟩
set_option maxRecDepth 100000 in
set_option maxHeartbeats 4000000 in
theorem show_top (p : Option Addr) (c : Nat)  (w : World) (hat : TrAt w p c ⟨[], false, ⟨#[]⟩, ⟨#[]⟩⟩) (hL : TLeans w) (hr : rightT ⟨[], false, ⟨#[]⟩, ⟨#[]⟩⟩ = true)  :
    Calls Tryd.prog 8 #[TrV p c ⟨[], false, ⟨#[]⟩, ⟨#[]⟩⟩] w fun e w' => e = .returned (.tuple #[.string ⟨(showL ⟨[], false, ⟨#[]⟩, ⟨#[]⟩⟩).toArray⟩, .int .i64 0]) ∧ Below w.heap.size w w' := by
  have R := Lib.hid (fun W (y : Below w.heap.size w W) => isRight_any p c ⟨[], false, ⟨#[]⟩, ⟨#[]⟩⟩ W (hat.below y) (hL.tabs.below y) (by exact Nat.zero_le _) (by exact Nat.zero_le _))
  rw [hr] at R
  rw [show showL ⟨[], false, ⟨#[]⟩, ⟨#[]⟩⟩ = [47] from rfl]
  unfold TrV at R ⊢
  obtain ⟨⟨d0, d1, d2, d3⟩, -⟩ := t_cells (t_one w (.cells #[.slice p 0 c, .bool false, .string ⟨#[]⟩, .string ⟨#[]⟩] 26))
  have AT := Lib.hid (fun W (y : Below w.heap.size w W) => (hat.below y).1)
  have LE := Lib.hid (fun W (y : Below w.heap.size w W) => hL.below y)
  clear hat hL hr
  go_enter Tryd.func8, Tryd.ntmps8
  go_wp2_with (fail)
  refine (R.out _ ((Below.refl _ _).alloc (Nat.le_refl _) _)).mono ?_
  rintro e w1 ⟨rfl, hb⟩
  have hb0 := t_cat ((Below.refl _ _).alloc (Nat.le_refl _) _) hb
  have c0 := t_cell hb d0
  have c1 := t_cell hb d1
  have c2 := t_cell hb d2
  have c3 := t_cell hb d3
  have hz1 : w.heap.size < w1.heap.size := by have := hb.size; simp at this; omega
  clear d0 d1 d2 d3 hb
  have HB := Lib.hid hb0
  clear hb0
  go_wp2_with (fail)
  go_ret2
  exact ⟨rfl, HB.out⟩
set_option maxRecDepth 100000 in
set_option maxHeartbeats 4000000 in
theorem show_bare (p : Option Addr) (c : Nat) (l : List Int)  (w : World) (hat : TrAt w p c ⟨l, false, ⟨#[]⟩, ⟨#[]⟩⟩) (hL : TLeans w) (hr : rightT ⟨l, false, ⟨#[]⟩, ⟨#[]⟩⟩ = true) (hne : l ≠ []) :
    Calls Tryd.prog 8 #[TrV p c ⟨l, false, ⟨#[]⟩, ⟨#[]⟩⟩] w fun e w' => e = .returned (.tuple #[.string ⟨(showL ⟨l, false, ⟨#[]⟩, ⟨#[]⟩⟩).toArray⟩, .int .i64 0]) ∧ Below w.heap.size w w' := by
  have R := Lib.hid (fun W (y : Below w.heap.size w W) => isRight_any p c ⟨l, false, ⟨#[]⟩, ⟨#[]⟩⟩ W (hat.below y) (hL.tabs.below y) (by exact Nat.zero_le _) (by exact Nat.zero_le _))
  rw [hr] at R
  have hsh : showL ⟨l, false, ⟨#[]⟩, ⟨#[]⟩⟩ = stepsL l := by unfold showL; rw [if_neg (fun q => hne q.1)]; simp
  rw [hsh]
  have hr2 := hr
  unfold rightT at hr2
  simp only [Bool.and_eq_true, decide_eq_true_eq] at hr2
  have SO := Lib.hid hr2.1.2
  have h64 : (l.length : Int) ≤ 64 := by have := hr2.1.1; omega
  have SL := Lib.hid (stepsL_len l hr2.1.2)
  have hl0 : 0 < l.length := List.length_pos_iff.2 hne
  have z00 : ((l.length : Int) == 0) = false := by rw [beq_eq_false_iff_ne]; omega
  clear hr2 hsh hne hl0
  unfold TrV at R ⊢
  obtain ⟨⟨d0, d1, d2, d3⟩, -⟩ := t_cells (t_one w (.cells #[.slice p l.length c, .bool false, .string ⟨#[]⟩, .string ⟨#[]⟩] 26))
  have AT := Lib.hid (fun W (y : Below w.heap.size w W) => (hat.below y).1)
  have LE := Lib.hid (fun W (y : Below w.heap.size w W) => hL.below y)
  clear hat hL hr
  obtain ⟨m, hm⟩ : ∃ m, l.length = m := ⟨_, rfl⟩
  rw [hm] at R d0 d1 d2 d3 h64 SL z00
  rw [hm]
  have HM := Lib.hid hm
  clear hm
  go_enter Tryd.func8, Tryd.ntmps8
  go_wp2_with (fail)
  refine (R.out _ ((Below.refl _ _).alloc (Nat.le_refl _) _)).mono ?_
  rintro e w1 ⟨rfl, hb⟩
  have hb0 := t_cat ((Below.refl _ _).alloc (Nat.le_refl _) _) hb
  have c0 := t_cell hb d0
  have c1 := t_cell hb d1
  have c2 := t_cell hb d2
  have c3 := t_cell hb d3
  have hz1 : w.heap.size < w1.heap.size := by have := hb.size; simp at this; omega
  clear d0 d1 d2 d3 hb
  have A1 := Lib.hid (AT.out w1 hb0)
  have F1 := Lib.hid (Lib.fresh_isBuilder 50 5 w1)
  have HB := Lib.hid hb0
  clear hb0
  go_wp2_with (fail)
  go_loopw [22] (fun v wr => ∃ k : Nat, v = .int .i64 (k : Int) ∧ k ≤ m ∧ Hid (Lib.IsBuilder 50 5 w1.heap.size w1.heap.size (Lib.byteCells (stepsL (l.take k))) wr) ∧ Hid (Below w1.heap.size w1 wr)) (fun v _ => m - (intOf v).toNat)
  case atStart => exact ⟨0, rfl, Nat.zero_le _, F1, Lib.hid ((Below.refl _ _).alloc (Nat.le_refl _) _)⟩
  case round =>
    obtain ⟨k, rfl, hk, HBU, HBW⟩ := hrel
    have x0 := t_cell HBW.out c0
    have x1 := t_cell HBW.out c1
    have x2 := t_cell HBW.out c2
    have x3 := t_cell HBW.out c3
    by_cases hlt : k < m
    · have hlt2 : k < l.length := by rw [HM.out]; exact hlt
      obtain ⟨g, off, rfl, hc⟩ := A1.out (by omega)
      have y1 := t_cell HBW.out (hc k hlt2)
      clear hc
      have hok := all_at SO.out hlt2
      have hln := itoa_len hok
      have hsl := stepsL_len (l.take k) (all_take SO.out k)
      rw [List.length_take] at hsl
      have hst := stepsL_take hlt2
      have hbd := hok
      simp only [stepOk, Bool.and_eq_true, decide_eq_true_eq] at hbd
      generalize l.getD k 0 = x at *
      have IT := Lib.hid (Tryd.strconv_Itoa x (by omega) (by omega) wr (LE.out wr (t_cat HB.out HBW.out)).pow)
      have HX := Lib.hid hst
      have hzl : (⟨(Lib.itoa x).toArray⟩ : ByteArray).data.toList = Lib.itoa x := rfl
      have hzs := ba_len (Lib.itoa x)
      obtain ⟨z, hz⟩ : ∃ z : ByteArray, z = ⟨(Lib.itoa x).toArray⟩ := ⟨_, rfl⟩
      rw [← hz] at IT hzl hzs
      have g0 : ¬ (1 + z.size > 9223372036854775807) := by omega
      have HZ := Lib.hid (And.intro hzl (And.intro hzs (And.intro hln hsl)))
      have g1 : (k : Int) < (m : Int) := by omega
      clear hlt2 hok hst hbd hz hzl hzs hln hsl
      go_wp2_with (fail)
      refine IT.out.mono ?_
      rintro e w3 ⟨rfl, n3, os3, rfl⟩
      have hb3 := t_grow wr n3 os3
      have WS := Lib.hid (Tryd.Builder_WriteString w1.heap.size w1.heap.size (Lib.byteCells (stepsL (l.take k))) (⟨#[47]⟩ ++ z) _ (builder_far HBU.out hb3) (by rw [Lib.byteCells_length, ByteArray.size_append]; have h1 := HZ.out.2.1; have h2 := HZ.out.2.2.1; have h3 := HZ.out.2.2.2; show _ + (1 + _) ≤ _; omega) (Nat.le_trans HBW.out.size hb3.size))
      have HB3 := Lib.hid (HBW.out.trans (hb3.mono HBW.out.size))
      clear hb3
      generalize Sort.grow (wr.drewN n3) os3 = w3 at *
      go_wp2_with (fail)
      refine WS.out.mono ?_
      rintro e w4 ⟨rfl, hbu, hb4⟩
      have HBU4 := Lib.hid hbu
      have HB4 := Lib.hid (HB3.out.trans hb4)
      clear hbu hb4
      go_wp2_with (fail)
      go_roundw
      case rel =>
        go_light
        refine ⟨k + 1, by go_num, by omega, Lib.hid (.inr ?_), HB4⟩
        rw [HX.out, Lib.byteCells_append]
        have e := HBU4.out
        rw [cat_cells, HZ.out.1] at e
        exact e
      case measure => simp [intOf]; omega
    · obtain rfl : k = m := by omega
      rw [List.take_of_length_le (by rw [HM.out]; exact Nat.le_refl _)] at HBU
      have ST := Lib.hid (Tryd.Builder_String_any w1.heap.size w1.heap.size (stepsL l) wr HBU.out HBW.out.size)
      go_wp2_with (fail)
      refine ST.out.mono ?_
      rintro e w5 ⟨rfl, hb5⟩
      have HB5 := Lib.hid (t_cat HB.out (HBW.out.trans hb5))
      clear hb5
      go_wp2_with (fail)
      go_ret2
      exact ⟨rfl, HB5.out⟩
theorem name_right {l : List Int} {u n : ByteArray} (h : rightT ⟨l, true, u, n⟩ = true) : n.size ≤ 100 ∧ u.size ≤ 100 := by
  unfold rightT at h
  simp only [Bool.and_eq_true, if_true, nameOk, decide_eq_true_eq] at h
  have h1 := h.2.1.1
  unfold nameB at h1
  split at h1
  · cases h1
  · exact ⟨by omega, h.2.1.2⟩
theorem name_small {n : ByteArray} (h : nameB n = true) : n.size ≤ 100 := by
  unfold nameB at h
  split at h
  · cases h
  · omega
set_option maxRecDepth 100000 in
set_option maxHeartbeats 4000000 in
theorem show_name0 (p : Option Addr) (c : Nat) (l : List Int) (n : ByteArray) (w : World) (hat : TrAt w p c ⟨l, true, ⟨#[]⟩, n⟩) (hL : TLeans w) (hr : rightT ⟨l, true, ⟨#[]⟩, n⟩ = true) (hz0 : l.length = 0) :
    Calls Tryd.prog 8 #[TrV p c ⟨l, true, ⟨#[]⟩, n⟩] w fun e w' => e = .returned (.tuple #[.string ⟨(showL ⟨l, true, ⟨#[]⟩, n⟩).toArray⟩, .int .i64 0]) ∧ Below w.heap.size w w' := by
  have R := Lib.hid (fun W (y : Below w.heap.size w W) => isRight_any p c ⟨l, true, ⟨#[]⟩, n⟩ W (hat.below y) (hL.tabs.below y) (by exact Nat.zero_le _) (by exact show n.size ≤ _ from (by have := name_right hr; omega)))
  rw [hr] at R
  have hsh : showL ⟨l, true, ⟨#[]⟩, n⟩ = stepsL l ++ 47 :: 64 :: n.data.toList := by unfold showL; rw [if_neg (fun q => by cases q.2)]; simp [nameL, spaceL]; rfl
  rw [hsh]
  have hr2 := hr
  unfold rightT at hr2
  simp only [Bool.and_eq_true, decide_eq_true_eq] at hr2
  have SO := Lib.hid hr2.1.2
  have h64 : (l.length : Int) ≤ 64 := by have := hr2.1.1; omega
  have SL := Lib.hid (stepsL_len l hr2.1.2)
  have hnm := hr2.2
  simp only [if_true, nameOk, Bool.and_eq_true, decide_eq_true_eq] at hnm
  have hns : n.size ≤ 100 := name_small hnm.1.1
  have hus := hnm.1.2
  have g5 : ¬ (2 + n.size > 9223372036854775807) := by omega
  have NS := Lib.hid (And.intro hns hus)
  clear hr2 hsh hnm hns hus
  have z00 : ((l.length : Int) == 0) = true := by rw [hz0]; rfl
  clear hz0
  unfold TrV at R ⊢
  obtain ⟨⟨d0, d1, d2, d3⟩, -⟩ := t_cells (t_one w (.cells #[.slice p l.length c, .bool true, .string ⟨#[]⟩, .string n] 26))
  have AT := Lib.hid (fun W (y : Below w.heap.size w W) => (hat.below y).1)
  have LE := Lib.hid (fun W (y : Below w.heap.size w W) => hL.below y)
  clear hat hL hr
  obtain ⟨m, hm⟩ : ∃ m, l.length = m := ⟨_, rfl⟩
  rw [hm] at R d0 d1 d2 d3 h64 SL z00
  rw [hm]
  have HM := Lib.hid hm
  clear hm
  go_enter Tryd.func8, Tryd.ntmps8
  go_wp2_with (fail)
  refine (R.out _ ((Below.refl _ _).alloc (Nat.le_refl _) _)).mono ?_
  rintro e w1 ⟨rfl, hb⟩
  have hb0 := t_cat ((Below.refl _ _).alloc (Nat.le_refl _) _) hb
  have c0 := t_cell hb d0
  have c1 := t_cell hb d1
  have c2 := t_cell hb d2
  have c3 := t_cell hb d3
  have hz1 : w.heap.size < w1.heap.size := by have := hb.size; simp at this; omega
  clear d0 d1 d2 d3 hb
  have A1 := Lib.hid (AT.out w1 hb0)
  have F1 := Lib.hid (Lib.fresh_isBuilder 50 5 w1)
  have HB := Lib.hid hb0
  clear hb0
  go_wp2_with (fail)
  go_loopw [22] (fun v wr => ∃ k : Nat, v = .int .i64 (k : Int) ∧ k ≤ m ∧ Hid (Lib.IsBuilder 50 5 w1.heap.size w1.heap.size (Lib.byteCells (stepsL (l.take k))) wr) ∧ Hid (Below w1.heap.size w1 wr)) (fun v _ => m - (intOf v).toNat)
  case atStart => exact ⟨0, rfl, Nat.zero_le _, F1, Lib.hid ((Below.refl _ _).alloc (Nat.le_refl _) _)⟩
  case round =>
    obtain ⟨k, rfl, hk, HBU, HBW⟩ := hrel
    have x0 := t_cell HBW.out c0
    have x1 := t_cell HBW.out c1
    have x2 := t_cell HBW.out c2
    have x3 := t_cell HBW.out c3
    by_cases hlt : k < m
    · have hlt2 : k < l.length := by rw [HM.out]; exact hlt
      obtain ⟨g, off, rfl, hc⟩ := A1.out (by omega)
      have y1 := t_cell HBW.out (hc k hlt2)
      clear hc
      have hok := all_at SO.out hlt2
      have hln := itoa_len hok
      have hsl := stepsL_len (l.take k) (all_take SO.out k)
      rw [List.length_take] at hsl
      have hst := stepsL_take hlt2
      have hbd := hok
      simp only [stepOk, Bool.and_eq_true, decide_eq_true_eq] at hbd
      generalize l.getD k 0 = x at *
      have IT := Lib.hid (Tryd.strconv_Itoa x (by omega) (by omega) wr (LE.out wr (t_cat HB.out HBW.out)).pow)
      have HX := Lib.hid hst
      have hzl : (⟨(Lib.itoa x).toArray⟩ : ByteArray).data.toList = Lib.itoa x := rfl
      have hzs := ba_len (Lib.itoa x)
      obtain ⟨z, hz⟩ : ∃ z : ByteArray, z = ⟨(Lib.itoa x).toArray⟩ := ⟨_, rfl⟩
      rw [← hz] at IT hzl hzs
      have g0 : ¬ (1 + z.size > 9223372036854775807) := by omega
      have HZ := Lib.hid (And.intro hzl (And.intro hzs (And.intro hln hsl)))
      have g1 : (k : Int) < (m : Int) := by omega
      clear hlt2 hok hst hbd hz hzl hzs hln hsl
      go_wp2_with (fail)
      refine IT.out.mono ?_
      rintro e w3 ⟨rfl, n3, os3, rfl⟩
      have hb3 := t_grow wr n3 os3
      have WS := Lib.hid (Tryd.Builder_WriteString w1.heap.size w1.heap.size (Lib.byteCells (stepsL (l.take k))) (⟨#[47]⟩ ++ z) _ (builder_far HBU.out hb3) (by rw [Lib.byteCells_length, ByteArray.size_append]; have h1 := HZ.out.2.1; have h2 := HZ.out.2.2.1; have h3 := HZ.out.2.2.2; show _ + (1 + _) ≤ _; omega) (Nat.le_trans HBW.out.size hb3.size))
      have HB3 := Lib.hid (HBW.out.trans (hb3.mono HBW.out.size))
      clear hb3
      generalize Sort.grow (wr.drewN n3) os3 = w3 at *
      go_wp2_with (fail)
      refine WS.out.mono ?_
      rintro e w4 ⟨rfl, hbu, hb4⟩
      have HBU4 := Lib.hid hbu
      have HB4 := Lib.hid (HB3.out.trans hb4)
      clear hbu hb4
      go_wp2_with (fail)
      go_roundw
      case rel =>
        go_light
        refine ⟨k + 1, by go_num, by omega, Lib.hid (.inr ?_), HB4⟩
        rw [HX.out, Lib.byteCells_append]
        have e := HBU4.out
        rw [cat_cells, HZ.out.1] at e
        exact e
      case measure => simp [intOf]; omega
    · obtain rfl : k = m := by omega
      rw [List.take_of_length_le (by rw [HM.out]; exact Nat.le_refl _)] at HBU
      have WS := Lib.hid (Tryd.Builder_WriteString w1.heap.size w1.heap.size (Lib.byteCells (stepsL l)) (⟨#[47, 64]⟩ ++ n) wr HBU.out (by rw [Lib.byteCells_length, ByteArray.size_append]; have h1 := NS.out.1; have h3 := SL.out; show _ + (2 + _) ≤ _; omega) HBW.out.size)
      go_wp2_with (fail)
      refine WS.out.mono ?_
      rintro e w4 ⟨rfl, hbu, hb4⟩
      have HBU4 := Lib.hid (show Lib.IsBuilder 50 5 w1.heap.size w1.heap.size (Lib.byteCells (stepsL l ++ 47 :: 64 :: n.data.toList)) w4 from .inr (by rw [Lib.byteCells_append]; rw [cat_cells] at hbu; exact hbu))
      have hb14 := HBW.out.trans hb4
      have y1 := t_cell hb14 c1
      have y2 := t_cell hb14 c2
      have y3 := t_cell hb14 c3
      have HB4 := Lib.hid hb14
      clear hbu hb4 hb14
      have ST := Lib.hid (Tryd.Builder_String_any w1.heap.size w1.heap.size (stepsL l ++ 47 :: 64 :: n.data.toList) w4 HBU4.out HB4.out.size)
      go_wp2_with (fail)
      refine ST.out.mono ?_
      rintro e w5 ⟨rfl, hb5⟩
      have HB5 := Lib.hid (t_cat HB.out (HB4.out.trans hb5))
      clear hb5
      go_wp2_with (fail)
      go_ret2
      exact ⟨rfl, HB5.out⟩
set_option maxRecDepth 100000 in
set_option maxHeartbeats 4000000 in
theorem show_name1 (p : Option Addr) (c : Nat) (l : List Int) (n : ByteArray) (w : World) (hat : TrAt w p c ⟨l, true, ⟨#[]⟩, n⟩) (hL : TLeans w) (hr : rightT ⟨l, true, ⟨#[]⟩, n⟩ = true) (hz0 : l.length ≠ 0) :
    Calls Tryd.prog 8 #[TrV p c ⟨l, true, ⟨#[]⟩, n⟩] w fun e w' => e = .returned (.tuple #[.string ⟨(showL ⟨l, true, ⟨#[]⟩, n⟩).toArray⟩, .int .i64 0]) ∧ Below w.heap.size w w' := by
  have R := Lib.hid (fun W (y : Below w.heap.size w W) => isRight_any p c ⟨l, true, ⟨#[]⟩, n⟩ W (hat.below y) (hL.tabs.below y) (by exact Nat.zero_le _) (by exact show n.size ≤ _ from (by have := name_right hr; omega)))
  rw [hr] at R
  have hsh : showL ⟨l, true, ⟨#[]⟩, n⟩ = stepsL l ++ 47 :: 64 :: n.data.toList := by unfold showL; rw [if_neg (fun q => by cases q.2)]; simp [nameL, spaceL]; rfl
  rw [hsh]
  have hr2 := hr
  unfold rightT at hr2
  simp only [Bool.and_eq_true, decide_eq_true_eq] at hr2
  have SO := Lib.hid hr2.1.2
  have h64 : (l.length : Int) ≤ 64 := by have := hr2.1.1; omega
  have SL := Lib.hid (stepsL_len l hr2.1.2)
  have hnm := hr2.2
  simp only [if_true, nameOk, Bool.and_eq_true, decide_eq_true_eq] at hnm
  have hns : n.size ≤ 100 := name_small hnm.1.1
  have hus := hnm.1.2
  have g5 : ¬ (2 + n.size > 9223372036854775807) := by omega
  have NS := Lib.hid (And.intro hns hus)
  clear hr2 hsh hnm hns hus
  have z00 : ((l.length : Int) == 0) = false := by rw [beq_eq_false_iff_ne]; omega
  clear hz0
  unfold TrV at R ⊢
  obtain ⟨⟨d0, d1, d2, d3⟩, -⟩ := t_cells (t_one w (.cells #[.slice p l.length c, .bool true, .string ⟨#[]⟩, .string n] 26))
  have AT := Lib.hid (fun W (y : Below w.heap.size w W) => (hat.below y).1)
  have LE := Lib.hid (fun W (y : Below w.heap.size w W) => hL.below y)
  clear hat hL hr
  obtain ⟨m, hm⟩ : ∃ m, l.length = m := ⟨_, rfl⟩
  rw [hm] at R d0 d1 d2 d3 h64 SL z00
  rw [hm]
  have HM := Lib.hid hm
  clear hm
  go_enter Tryd.func8, Tryd.ntmps8
  go_wp2_with (fail)
  refine (R.out _ ((Below.refl _ _).alloc (Nat.le_refl _) _)).mono ?_
  rintro e w1 ⟨rfl, hb⟩
  have hb0 := t_cat ((Below.refl _ _).alloc (Nat.le_refl _) _) hb
  have c0 := t_cell hb d0
  have c1 := t_cell hb d1
  have c2 := t_cell hb d2
  have c3 := t_cell hb d3
  have hz1 : w.heap.size < w1.heap.size := by have := hb.size; simp at this; omega
  clear d0 d1 d2 d3 hb
  have A1 := Lib.hid (AT.out w1 hb0)
  have F1 := Lib.hid (Lib.fresh_isBuilder 50 5 w1)
  have HB := Lib.hid hb0
  clear hb0
  go_wp2_with (fail)
  go_loopw [22] (fun v wr => ∃ k : Nat, v = .int .i64 (k : Int) ∧ k ≤ m ∧ Hid (Lib.IsBuilder 50 5 w1.heap.size w1.heap.size (Lib.byteCells (stepsL (l.take k))) wr) ∧ Hid (Below w1.heap.size w1 wr)) (fun v _ => m - (intOf v).toNat)
  case atStart => exact ⟨0, rfl, Nat.zero_le _, F1, Lib.hid ((Below.refl _ _).alloc (Nat.le_refl _) _)⟩
  case round =>
    obtain ⟨k, rfl, hk, HBU, HBW⟩ := hrel
    have x0 := t_cell HBW.out c0
    have x1 := t_cell HBW.out c1
    have x2 := t_cell HBW.out c2
    have x3 := t_cell HBW.out c3
    by_cases hlt : k < m
    · have hlt2 : k < l.length := by rw [HM.out]; exact hlt
      obtain ⟨g, off, rfl, hc⟩ := A1.out (by omega)
      have y1 := t_cell HBW.out (hc k hlt2)
      clear hc
      have hok := all_at SO.out hlt2
      have hln := itoa_len hok
      have hsl := stepsL_len (l.take k) (all_take SO.out k)
      rw [List.length_take] at hsl
      have hst := stepsL_take hlt2
      have hbd := hok
      simp only [stepOk, Bool.and_eq_true, decide_eq_true_eq] at hbd
      generalize l.getD k 0 = x at *
      have IT := Lib.hid (Tryd.strconv_Itoa x (by omega) (by omega) wr (LE.out wr (t_cat HB.out HBW.out)).pow)
      have HX := Lib.hid hst
      have hzl : (⟨(Lib.itoa x).toArray⟩ : ByteArray).data.toList = Lib.itoa x := rfl
      have hzs := ba_len (Lib.itoa x)
      obtain ⟨z, hz⟩ : ∃ z : ByteArray, z = ⟨(Lib.itoa x).toArray⟩ := ⟨_, rfl⟩
      rw [← hz] at IT hzl hzs
      have g0 : ¬ (1 + z.size > 9223372036854775807) := by omega
      have HZ := Lib.hid (And.intro hzl (And.intro hzs (And.intro hln hsl)))
      have g1 : (k : Int) < (m : Int) := by omega
      clear hlt2 hok hst hbd hz hzl hzs hln hsl
      go_wp2_with (fail)
      refine IT.out.mono ?_
      rintro e w3 ⟨rfl, n3, os3, rfl⟩
      have hb3 := t_grow wr n3 os3
      have WS := Lib.hid (Tryd.Builder_WriteString w1.heap.size w1.heap.size (Lib.byteCells (stepsL (l.take k))) (⟨#[47]⟩ ++ z) _ (builder_far HBU.out hb3) (by rw [Lib.byteCells_length, ByteArray.size_append]; have h1 := HZ.out.2.1; have h2 := HZ.out.2.2.1; have h3 := HZ.out.2.2.2; show _ + (1 + _) ≤ _; omega) (Nat.le_trans HBW.out.size hb3.size))
      have HB3 := Lib.hid (HBW.out.trans (hb3.mono HBW.out.size))
      clear hb3
      generalize Sort.grow (wr.drewN n3) os3 = w3 at *
      go_wp2_with (fail)
      refine WS.out.mono ?_
      rintro e w4 ⟨rfl, hbu, hb4⟩
      have HBU4 := Lib.hid hbu
      have HB4 := Lib.hid (HB3.out.trans hb4)
      clear hbu hb4
      go_wp2_with (fail)
      go_roundw
      case rel =>
        go_light
        refine ⟨k + 1, by go_num, by omega, Lib.hid (.inr ?_), HB4⟩
        rw [HX.out, Lib.byteCells_append]
        have e := HBU4.out
        rw [cat_cells, HZ.out.1] at e
        exact e
      case measure => simp [intOf]; omega
    · obtain rfl : k = m := by omega
      rw [List.take_of_length_le (by rw [HM.out]; exact Nat.le_refl _)] at HBU
      have WS := Lib.hid (Tryd.Builder_WriteString w1.heap.size w1.heap.size (Lib.byteCells (stepsL l)) (⟨#[47, 64]⟩ ++ n) wr HBU.out (by rw [Lib.byteCells_length, ByteArray.size_append]; have h1 := NS.out.1; have h3 := SL.out; show _ + (2 + _) ≤ _; omega) HBW.out.size)
      go_wp2_with (fail)
      refine WS.out.mono ?_
      rintro e w4 ⟨rfl, hbu, hb4⟩
      have HBU4 := Lib.hid (show Lib.IsBuilder 50 5 w1.heap.size w1.heap.size (Lib.byteCells (stepsL l ++ 47 :: 64 :: n.data.toList)) w4 from .inr (by rw [Lib.byteCells_append]; rw [cat_cells] at hbu; exact hbu))
      have hb14 := HBW.out.trans hb4
      have y1 := t_cell hb14 c1
      have y2 := t_cell hb14 c2
      have y3 := t_cell hb14 c3
      have HB4 := Lib.hid hb14
      clear hbu hb4 hb14
      have ST := Lib.hid (Tryd.Builder_String_any w1.heap.size w1.heap.size (stepsL l ++ 47 :: 64 :: n.data.toList) w4 HBU4.out HB4.out.size)
      go_wp2_with (fail)
      refine ST.out.mono ?_
      rintro e w5 ⟨rfl, hb5⟩
      have HB5 := Lib.hid (t_cat HB.out (HB4.out.trans hb5))
      clear hb5
      go_wp2_with (fail)
      go_ret2
      exact ⟨rfl, HB5.out⟩
set_option maxRecDepth 100000 in
set_option maxHeartbeats 4000000 in
theorem show_space0 (p : Option Addr) (c : Nat) (l : List Int) (u n : ByteArray) (w : World) (hat : TrAt w p c ⟨l, true, u, n⟩) (hL : TLeans w) (hr : rightT ⟨l, true, u, n⟩ = true) (hu0 : u.size ≠ 0) (hz0 : l.length = 0) :
    Calls Tryd.prog 8 #[TrV p c ⟨l, true, u, n⟩] w fun e w' => e = .returned (.tuple #[.string ⟨(showL ⟨l, true, u, n⟩).toArray⟩, .int .i64 0]) ∧ Below w.heap.size w w' := by
  have R := Lib.hid (fun W (y : Below w.heap.size w W) => isRight_any p c ⟨l, true, u, n⟩ W (hat.below y) (hL.tabs.below y) (by exact show u.size ≤ _ from (by have := (name_right hr).2; omega)) (by exact show n.size ≤ _ from (by have := (name_right hr).1; omega)))
  rw [hr] at R
  have hsh : showL ⟨l, true, u, n⟩ = stepsL l ++ 47 :: 64 :: n.data.toList ++ (123 :: u.data.toList ++ [125]) := by unfold showL; rw [if_neg (fun q => by cases q.2)]; simp [nameL, spaceL, hu0]
  rw [hsh]
  have u0 := str_ne (s := u) (by omega)
  have u1 : ¬ u.toList = [] := fun e => by rw [e] at u0; cases u0
  have hr2 := hr
  unfold rightT at hr2
  simp only [Bool.and_eq_true, decide_eq_true_eq] at hr2
  have SO := Lib.hid hr2.1.2
  have h64 : (l.length : Int) ≤ 64 := by have := hr2.1.1; omega
  have SL := Lib.hid (stepsL_len l hr2.1.2)
  have hnm := hr2.2
  simp only [if_true, nameOk, Bool.and_eq_true, decide_eq_true_eq] at hnm
  have hns : n.size ≤ 100 := name_small hnm.1.1
  have hus := hnm.1.2
  have g5 : ¬ (2 + n.size > 9223372036854775807) := by omega
  have NS := Lib.hid (And.intro hns hus)
  have g6 : ¬ (1 + u.size > 9223372036854775807) := by omega
  have g7 : ¬ (1 + u.size + 1 > 9223372036854775807) := by omega
  clear hr2 hsh hnm hns hus hu0
  have z00 : ((l.length : Int) == 0) = true := by rw [hz0]; rfl
  clear hz0
  unfold TrV at R ⊢
  obtain ⟨⟨d0, d1, d2, d3⟩, -⟩ := t_cells (t_one w (.cells #[.slice p l.length c, .bool true, .string u, .string n] 26))
  have AT := Lib.hid (fun W (y : Below w.heap.size w W) => (hat.below y).1)
  have LE := Lib.hid (fun W (y : Below w.heap.size w W) => hL.below y)
  clear hat hL hr
  obtain ⟨m, hm⟩ : ∃ m, l.length = m := ⟨_, rfl⟩
  rw [hm] at R d0 d1 d2 d3 h64 SL z00
  rw [hm]
  have HM := Lib.hid hm
  clear hm
  go_enter Tryd.func8, Tryd.ntmps8
  go_wp2_with (fail)
  refine (R.out _ ((Below.refl _ _).alloc (Nat.le_refl _) _)).mono ?_
  rintro e w1 ⟨rfl, hb⟩
  have hb0 := t_cat ((Below.refl _ _).alloc (Nat.le_refl _) _) hb
  have c0 := t_cell hb d0
  have c1 := t_cell hb d1
  have c2 := t_cell hb d2
  have c3 := t_cell hb d3
  have hz1 : w.heap.size < w1.heap.size := by have := hb.size; simp at this; omega
  clear d0 d1 d2 d3 hb
  have A1 := Lib.hid (AT.out w1 hb0)
  have F1 := Lib.hid (Lib.fresh_isBuilder 50 5 w1)
  have HB := Lib.hid hb0
  clear hb0
  go_wp2_with (fail)
  go_loopw [22] (fun v wr => ∃ k : Nat, v = .int .i64 (k : Int) ∧ k ≤ m ∧ Hid (Lib.IsBuilder 50 5 w1.heap.size w1.heap.size (Lib.byteCells (stepsL (l.take k))) wr) ∧ Hid (Below w1.heap.size w1 wr)) (fun v _ => m - (intOf v).toNat)
  case atStart => exact ⟨0, rfl, Nat.zero_le _, F1, Lib.hid ((Below.refl _ _).alloc (Nat.le_refl _) _)⟩
  case round =>
    obtain ⟨k, rfl, hk, HBU, HBW⟩ := hrel
    have x0 := t_cell HBW.out c0
    have x1 := t_cell HBW.out c1
    have x2 := t_cell HBW.out c2
    have x3 := t_cell HBW.out c3
    by_cases hlt : k < m
    · have hlt2 : k < l.length := by rw [HM.out]; exact hlt
      obtain ⟨g, off, rfl, hc⟩ := A1.out (by omega)
      have y1 := t_cell HBW.out (hc k hlt2)
      clear hc
      have hok := all_at SO.out hlt2
      have hln := itoa_len hok
      have hsl := stepsL_len (l.take k) (all_take SO.out k)
      rw [List.length_take] at hsl
      have hst := stepsL_take hlt2
      have hbd := hok
      simp only [stepOk, Bool.and_eq_true, decide_eq_true_eq] at hbd
      generalize l.getD k 0 = x at *
      have IT := Lib.hid (Tryd.strconv_Itoa x (by omega) (by omega) wr (LE.out wr (t_cat HB.out HBW.out)).pow)
      have HX := Lib.hid hst
      have hzl : (⟨(Lib.itoa x).toArray⟩ : ByteArray).data.toList = Lib.itoa x := rfl
      have hzs := ba_len (Lib.itoa x)
      obtain ⟨z, hz⟩ : ∃ z : ByteArray, z = ⟨(Lib.itoa x).toArray⟩ := ⟨_, rfl⟩
      rw [← hz] at IT hzl hzs
      have g0 : ¬ (1 + z.size > 9223372036854775807) := by omega
      have HZ := Lib.hid (And.intro hzl (And.intro hzs (And.intro hln hsl)))
      have g1 : (k : Int) < (m : Int) := by omega
      clear hlt2 hok hst hbd hz hzl hzs hln hsl
      go_wp2_with (fail)
      refine IT.out.mono ?_
      rintro e w3 ⟨rfl, n3, os3, rfl⟩
      have hb3 := t_grow wr n3 os3
      have WS := Lib.hid (Tryd.Builder_WriteString w1.heap.size w1.heap.size (Lib.byteCells (stepsL (l.take k))) (⟨#[47]⟩ ++ z) _ (builder_far HBU.out hb3) (by rw [Lib.byteCells_length, ByteArray.size_append]; have h1 := HZ.out.2.1; have h2 := HZ.out.2.2.1; have h3 := HZ.out.2.2.2; show _ + (1 + _) ≤ _; omega) (Nat.le_trans HBW.out.size hb3.size))
      have HB3 := Lib.hid (HBW.out.trans (hb3.mono HBW.out.size))
      clear hb3
      generalize Sort.grow (wr.drewN n3) os3 = w3 at *
      go_wp2_with (fail)
      refine WS.out.mono ?_
      rintro e w4 ⟨rfl, hbu, hb4⟩
      have HBU4 := Lib.hid hbu
      have HB4 := Lib.hid (HB3.out.trans hb4)
      clear hbu hb4
      go_wp2_with (fail)
      go_roundw
      case rel =>
        go_light
        refine ⟨k + 1, by go_num, by omega, Lib.hid (.inr ?_), HB4⟩
        rw [HX.out, Lib.byteCells_append]
        have e := HBU4.out
        rw [cat_cells, HZ.out.1] at e
        exact e
      case measure => simp [intOf]; omega
    · obtain rfl : k = m := by omega
      rw [List.take_of_length_le (by rw [HM.out]; exact Nat.le_refl _)] at HBU
      have WS := Lib.hid (Tryd.Builder_WriteString w1.heap.size w1.heap.size (Lib.byteCells (stepsL l)) (⟨#[47, 64]⟩ ++ n) wr HBU.out (by rw [Lib.byteCells_length, ByteArray.size_append]; have h1 := NS.out.1; have h3 := SL.out; show _ + (2 + _) ≤ _; omega) HBW.out.size)
      go_wp2_with (fail)
      refine WS.out.mono ?_
      rintro e w4 ⟨rfl, hbu, hb4⟩
      have HBU4 := Lib.hid (show Lib.IsBuilder 50 5 w1.heap.size w1.heap.size (Lib.byteCells (stepsL l ++ 47 :: 64 :: n.data.toList)) w4 from .inr (by rw [Lib.byteCells_append]; rw [cat_cells] at hbu; exact hbu))
      have hb14 := HBW.out.trans hb4
      have y1 := t_cell hb14 c1
      have y2 := t_cell hb14 c2
      have y3 := t_cell hb14 c3
      have HB4 := Lib.hid hb14
      clear hbu hb4 hb14
      have WT := Lib.hid (Tryd.Builder_WriteString w1.heap.size w1.heap.size (Lib.byteCells (stepsL l ++ 47 :: 64 :: n.data.toList)) (⟨#[123]⟩ ++ u ++ ⟨#[125]⟩) w4 HBU4.out (by rw [Lib.byteCells_length, ByteArray.size_append, ByteArray.size_append]; have h1 := NS.out.1; have h2 := NS.out.2; have h3 := SL.out; show _ + (1 + _ + 1) ≤ _; rw [List.length_append]; simp only [List.length_cons, Array.length_toList]; have h4 : n.data.size = n.size := rfl; omega) HB4.out.size)
      go_wp2_with (fail)
      refine WT.out.mono ?_
      rintro e w6 ⟨rfl, hbu, hb6⟩
      have HBU6 := Lib.hid (show Lib.IsBuilder 50 5 w1.heap.size w1.heap.size (Lib.byteCells (stepsL l ++ 47 :: 64 :: n.data.toList ++ (123 :: u.data.toList ++ [125]))) w6 from .inr (by rw [Lib.byteCells_append (stepsL l ++ 47 :: 64 :: n.data.toList)]; rw [cat_cells] at hbu; have e : (({ data := #[123] } : ByteArray) ++ u).data.toList ++ ({ data := #[125] } : ByteArray).data.toList = 123 :: u.data.toList ++ [125] := (by simp); rw [e] at hbu; exact hbu))
      have HB6 := Lib.hid (HB4.out.trans hb6)
      clear hbu hb6
      have ST := Lib.hid (Tryd.Builder_String_any w1.heap.size w1.heap.size (stepsL l ++ 47 :: 64 :: n.data.toList ++ (123 :: u.data.toList ++ [125])) w6 HBU6.out HB6.out.size)
      go_wp2_with (fail)
      refine ST.out.mono ?_
      rintro e w5 ⟨rfl, hb5⟩
      have HB5 := Lib.hid (t_cat HB.out (HB6.out.trans hb5))
      clear hb5
      go_wp2_with (fail)
      go_ret2
      exact ⟨by first | rfl | simp, HB5.out⟩
set_option maxRecDepth 100000 in
set_option maxHeartbeats 4000000 in
theorem show_space1 (p : Option Addr) (c : Nat) (l : List Int) (u n : ByteArray) (w : World) (hat : TrAt w p c ⟨l, true, u, n⟩) (hL : TLeans w) (hr : rightT ⟨l, true, u, n⟩ = true) (hu0 : u.size ≠ 0) (hz0 : l.length ≠ 0) :
    Calls Tryd.prog 8 #[TrV p c ⟨l, true, u, n⟩] w fun e w' => e = .returned (.tuple #[.string ⟨(showL ⟨l, true, u, n⟩).toArray⟩, .int .i64 0]) ∧ Below w.heap.size w w' := by
  have R := Lib.hid (fun W (y : Below w.heap.size w W) => isRight_any p c ⟨l, true, u, n⟩ W (hat.below y) (hL.tabs.below y) (by exact show u.size ≤ _ from (by have := (name_right hr).2; omega)) (by exact show n.size ≤ _ from (by have := (name_right hr).1; omega)))
  rw [hr] at R
  have hsh : showL ⟨l, true, u, n⟩ = stepsL l ++ 47 :: 64 :: n.data.toList ++ (123 :: u.data.toList ++ [125]) := by unfold showL; rw [if_neg (fun q => by cases q.2)]; simp [nameL, spaceL, hu0]
  rw [hsh]
  have u0 := str_ne (s := u) (by omega)
  have u1 : ¬ u.toList = [] := fun e => by rw [e] at u0; cases u0
  have hr2 := hr
  unfold rightT at hr2
  simp only [Bool.and_eq_true, decide_eq_true_eq] at hr2
  have SO := Lib.hid hr2.1.2
  have h64 : (l.length : Int) ≤ 64 := by have := hr2.1.1; omega
  have SL := Lib.hid (stepsL_len l hr2.1.2)
  have hnm := hr2.2
  simp only [if_true, nameOk, Bool.and_eq_true, decide_eq_true_eq] at hnm
  have hns : n.size ≤ 100 := name_small hnm.1.1
  have hus := hnm.1.2
  have g5 : ¬ (2 + n.size > 9223372036854775807) := by omega
  have NS := Lib.hid (And.intro hns hus)
  have g6 : ¬ (1 + u.size > 9223372036854775807) := by omega
  have g7 : ¬ (1 + u.size + 1 > 9223372036854775807) := by omega
  clear hr2 hsh hnm hns hus hu0
  have z00 : ((l.length : Int) == 0) = false := by rw [beq_eq_false_iff_ne]; omega
  clear hz0
  unfold TrV at R ⊢
  obtain ⟨⟨d0, d1, d2, d3⟩, -⟩ := t_cells (t_one w (.cells #[.slice p l.length c, .bool true, .string u, .string n] 26))
  have AT := Lib.hid (fun W (y : Below w.heap.size w W) => (hat.below y).1)
  have LE := Lib.hid (fun W (y : Below w.heap.size w W) => hL.below y)
  clear hat hL hr
  obtain ⟨m, hm⟩ : ∃ m, l.length = m := ⟨_, rfl⟩
  rw [hm] at R d0 d1 d2 d3 h64 SL z00
  rw [hm]
  have HM := Lib.hid hm
  clear hm
  go_enter Tryd.func8, Tryd.ntmps8
  go_wp2_with (fail)
  refine (R.out _ ((Below.refl _ _).alloc (Nat.le_refl _) _)).mono ?_
  rintro e w1 ⟨rfl, hb⟩
  have hb0 := t_cat ((Below.refl _ _).alloc (Nat.le_refl _) _) hb
  have c0 := t_cell hb d0
  have c1 := t_cell hb d1
  have c2 := t_cell hb d2
  have c3 := t_cell hb d3
  have hz1 : w.heap.size < w1.heap.size := by have := hb.size; simp at this; omega
  clear d0 d1 d2 d3 hb
  have A1 := Lib.hid (AT.out w1 hb0)
  have F1 := Lib.hid (Lib.fresh_isBuilder 50 5 w1)
  have HB := Lib.hid hb0
  clear hb0
  go_wp2_with (fail)
  go_loopw [22] (fun v wr => ∃ k : Nat, v = .int .i64 (k : Int) ∧ k ≤ m ∧ Hid (Lib.IsBuilder 50 5 w1.heap.size w1.heap.size (Lib.byteCells (stepsL (l.take k))) wr) ∧ Hid (Below w1.heap.size w1 wr)) (fun v _ => m - (intOf v).toNat)
  case atStart => exact ⟨0, rfl, Nat.zero_le _, F1, Lib.hid ((Below.refl _ _).alloc (Nat.le_refl _) _)⟩
  case round =>
    obtain ⟨k, rfl, hk, HBU, HBW⟩ := hrel
    have x0 := t_cell HBW.out c0
    have x1 := t_cell HBW.out c1
    have x2 := t_cell HBW.out c2
    have x3 := t_cell HBW.out c3
    by_cases hlt : k < m
    · have hlt2 : k < l.length := by rw [HM.out]; exact hlt
      obtain ⟨g, off, rfl, hc⟩ := A1.out (by omega)
      have y1 := t_cell HBW.out (hc k hlt2)
      clear hc
      have hok := all_at SO.out hlt2
      have hln := itoa_len hok
      have hsl := stepsL_len (l.take k) (all_take SO.out k)
      rw [List.length_take] at hsl
      have hst := stepsL_take hlt2
      have hbd := hok
      simp only [stepOk, Bool.and_eq_true, decide_eq_true_eq] at hbd
      generalize l.getD k 0 = x at *
      have IT := Lib.hid (Tryd.strconv_Itoa x (by omega) (by omega) wr (LE.out wr (t_cat HB.out HBW.out)).pow)
      have HX := Lib.hid hst
      have hzl : (⟨(Lib.itoa x).toArray⟩ : ByteArray).data.toList = Lib.itoa x := rfl
      have hzs := ba_len (Lib.itoa x)
      obtain ⟨z, hz⟩ : ∃ z : ByteArray, z = ⟨(Lib.itoa x).toArray⟩ := ⟨_, rfl⟩
      rw [← hz] at IT hzl hzs
      have g0 : ¬ (1 + z.size > 9223372036854775807) := by omega
      have HZ := Lib.hid (And.intro hzl (And.intro hzs (And.intro hln hsl)))
      have g1 : (k : Int) < (m : Int) := by omega
      clear hlt2 hok hst hbd hz hzl hzs hln hsl
      go_wp2_with (fail)
      refine IT.out.mono ?_
      rintro e w3 ⟨rfl, n3, os3, rfl⟩
      have hb3 := t_grow wr n3 os3
      have WS := Lib.hid (Tryd.Builder_WriteString w1.heap.size w1.heap.size (Lib.byteCells (stepsL (l.take k))) (⟨#[47]⟩ ++ z) _ (builder_far HBU.out hb3) (by rw [Lib.byteCells_length, ByteArray.size_append]; have h1 := HZ.out.2.1; have h2 := HZ.out.2.2.1; have h3 := HZ.out.2.2.2; show _ + (1 + _) ≤ _; omega) (Nat.le_trans HBW.out.size hb3.size))
      have HB3 := Lib.hid (HBW.out.trans (hb3.mono HBW.out.size))
      clear hb3
      generalize Sort.grow (wr.drewN n3) os3 = w3 at *
      go_wp2_with (fail)
      refine WS.out.mono ?_
      rintro e w4 ⟨rfl, hbu, hb4⟩
      have HBU4 := Lib.hid hbu
      have HB4 := Lib.hid (HB3.out.trans hb4)
      clear hbu hb4
      go_wp2_with (fail)
      go_roundw
      case rel =>
        go_light
        refine ⟨k + 1, by go_num, by omega, Lib.hid (.inr ?_), HB4⟩
        rw [HX.out, Lib.byteCells_append]
        have e := HBU4.out
        rw [cat_cells, HZ.out.1] at e
        exact e
      case measure => simp [intOf]; omega
    · obtain rfl : k = m := by omega
      rw [List.take_of_length_le (by rw [HM.out]; exact Nat.le_refl _)] at HBU
      have WS := Lib.hid (Tryd.Builder_WriteString w1.heap.size w1.heap.size (Lib.byteCells (stepsL l)) (⟨#[47, 64]⟩ ++ n) wr HBU.out (by rw [Lib.byteCells_length, ByteArray.size_append]; have h1 := NS.out.1; have h3 := SL.out; show _ + (2 + _) ≤ _; omega) HBW.out.size)
      go_wp2_with (fail)
      refine WS.out.mono ?_
      rintro e w4 ⟨rfl, hbu, hb4⟩
      have HBU4 := Lib.hid (show Lib.IsBuilder 50 5 w1.heap.size w1.heap.size (Lib.byteCells (stepsL l ++ 47 :: 64 :: n.data.toList)) w4 from .inr (by rw [Lib.byteCells_append]; rw [cat_cells] at hbu; exact hbu))
      have hb14 := HBW.out.trans hb4
      have y1 := t_cell hb14 c1
      have y2 := t_cell hb14 c2
      have y3 := t_cell hb14 c3
      have HB4 := Lib.hid hb14
      clear hbu hb4 hb14
      have WT := Lib.hid (Tryd.Builder_WriteString w1.heap.size w1.heap.size (Lib.byteCells (stepsL l ++ 47 :: 64 :: n.data.toList)) (⟨#[123]⟩ ++ u ++ ⟨#[125]⟩) w4 HBU4.out (by rw [Lib.byteCells_length, ByteArray.size_append, ByteArray.size_append]; have h1 := NS.out.1; have h2 := NS.out.2; have h3 := SL.out; show _ + (1 + _ + 1) ≤ _; rw [List.length_append]; simp only [List.length_cons, Array.length_toList]; have h4 : n.data.size = n.size := rfl; omega) HB4.out.size)
      go_wp2_with (fail)
      refine WT.out.mono ?_
      rintro e w6 ⟨rfl, hbu, hb6⟩
      have HBU6 := Lib.hid (show Lib.IsBuilder 50 5 w1.heap.size w1.heap.size (Lib.byteCells (stepsL l ++ 47 :: 64 :: n.data.toList ++ (123 :: u.data.toList ++ [125]))) w6 from .inr (by rw [Lib.byteCells_append (stepsL l ++ 47 :: 64 :: n.data.toList)]; rw [cat_cells] at hbu; have e : (({ data := #[123] } : ByteArray) ++ u).data.toList ++ ({ data := #[125] } : ByteArray).data.toList = 123 :: u.data.toList ++ [125] := (by simp); rw [e] at hbu; exact hbu))
      have HB6 := Lib.hid (HB4.out.trans hb6)
      clear hbu hb6
      have ST := Lib.hid (Tryd.Builder_String_any w1.heap.size w1.heap.size (stepsL l ++ 47 :: 64 :: n.data.toList ++ (123 :: u.data.toList ++ [125])) w6 HBU6.out HB6.out.size)
      go_wp2_with (fail)
      refine ST.out.mono ?_
      rintro e w5 ⟨rfl, hb5⟩
      have HB5 := Lib.hid (t_cat HB.out (HB6.out.trans hb5))
      clear hb5
      go_wp2_with (fail)
      go_ret2
      exact ⟨by first | rfl | simp, HB5.out⟩
theorem show_any (p : Option Addr) (c : Nat) (t : Tr) (w : World) (hat : TrAt w p c t) (hL : TLeans w) (hu : t.uri.size ≤ 140737488355328) (hn : t.loc.size ≤ 140737488355328) :
    Calls Tryd.prog 8 #[TrV p c t] w fun e w' => e = .returned (if rightT t then .tuple #[.string ⟨(showL t).toArray⟩, .int .i64 0] else .tuple #[.string ⟨#[]⟩, .int .i64 35]) ∧ Below w.heap.size w w' := by
  cases hr : rightT t
  · exact show_no p c t w hat hL hu hn hr
  · rw [if_pos rfl]
    obtain ⟨l, a, u, n⟩ := t
    cases a
    · have h2 := hr
      unfold rightT at h2
      simp only [Bool.and_eq_true, decide_eq_true_eq, Bool.false_eq_true, if_false] at h2
      obtain rfl := ba_empty h2.2.1
      obtain rfl := ba_empty h2.2.2
      by_cases h0 : l = []
      · subst h0
        exact show_top p c w hat hL hr
      · exact show_bare p c l w hat hL hr h0
    · by_cases h0 : u.size = 0
      · obtain rfl := ba_empty h0
        by_cases h1 : l.length = 0
        · exact show_name0 p c l n w hat hL hr h1
        · exact show_name1 p c l n w hat hL hr h1
      · by_cases h1 : l.length = 0
        · exact show_space0 p c l u n w hat hL hr h0 h1
        · exact show_space1 p c l u n w hat hL hr h0 h1
end Go.Proofs.YtpcdcndniibalaaDoor
