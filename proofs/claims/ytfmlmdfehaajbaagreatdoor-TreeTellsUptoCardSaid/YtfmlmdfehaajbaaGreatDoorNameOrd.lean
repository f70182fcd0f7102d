/- Proved here: how two names stand: Order. -/
import Derived.Test.YtfmlmdfehaajbaaGreatDoorAsks1
import Derived.Deep.RegionHeld3
import Derived.IntWalk
namespace Go.Proofs.YtfmlmdfehaajbaaGreatDoor
open Go.RowKit Go.Shelf

theorem t_cell' {w W : World} {a : Addr} {v : Value} (h : Below w.heap.size w W) (hc : w.cell? a = some v) : W.cell? a = some v := (h.cell (World.block_lt_of_cell? _ _ hc)).trans hc
theorem below_drewN' {B : Nat} {a w : World} (h : Below B a w) (n : Nat) : Below B a (w.drewN n) := ⟨h.os, h.tape, h.output, h.size, h.block⟩
theorem below_cat5 {a b c : World} (h : Below a.heap.size a b) (k : Below b.heap.size b c) : Below a.heap.size a c := h.trans (k.mono h.size)
def cmpS (a b : ByteArray) : Int := Lib.compareBytes a.data.toList b.data.toList
def ordN (u l v m : ByteArray) : Int := if cmpS u v = 0 then cmpS l m else cmpS u v
theorem ret_i5 {k : IntKind} {a b : Int} (h : a = b) : Ending.returned (.int k a) = .returned (.int k b) := by rw [h]
set_option maxRecDepth 100000 in
set_option maxHeartbeats 1000000 in
theorem or2_any (w : World) (b c : Nat) (x y r : Int) (hr : (if x = 0 then y else x) = r) (h0 : w.cell? ⟨b, 0, none⟩ = some (.int .i64 x)) (h1 : w.cell? ⟨b, 1, none⟩ = some (.int .i64 y)) :
    Calls Tryz.prog 90 #[.slice (some ⟨b, 0, none⟩) 2 c] w fun e w' => e = .returned (.int .i64 r) ∧ w' = w := by
  have HR := Lib.hid hr
  clear hr
  go_enter Tryz.func90, Tryz.ntmps90
  go_wp2_with (fail)
  go_loop [8] (fun v => ∃ k : Nat, v = .int .i64 (k : Int) ∧ k ≤ 2 ∧ (0 < k → x = 0) ∧ (1 < k → y = 0)) (fun v => 2 - (intOf v).toNat)
  case atStart => exact ⟨0, rfl, by omega, by omega, by omega⟩
  case round =>
    obtain ⟨k, rfl, hk, hx, hy⟩ := hrel
    match k, hk with
    | 0, _ =>
      by_cases e : x = 0
      · go_wp2_with (fail)
        go_round
        · exact ⟨1, rfl, by omega, fun _ => e, by omega⟩
        · simp [intOf]
      · go_wp2_with (fail)
        go_ret
        exact ⟨ret_i5 (by have h := HR.out; rw [if_neg e] at h; exact h), rfl⟩
    | 1, _ =>
      have ex := hx (by omega)
      by_cases e : y = 0
      · go_wp2_with (fail)
        go_round
        · exact ⟨2, rfl, by omega, fun _ => ex, fun _ => e⟩
        · simp [intOf]
      · go_wp2_with (fail)
        go_ret
        exact ⟨ret_i5 (by have h := HR.out; rw [if_pos ex] at h; exact h), rfl⟩
    | 2, _ =>
      have ex := hx (by omega)
      have ey := hy (by omega)
      go_wp2_with (fail)
      go_ret
      exact ⟨ret_i5 (by have h := HR.out; rw [if_pos ex, ey] at h; exact h), rfl⟩
set_option maxRecDepth 100000 in
set_option maxHeartbeats 1000000 in
theorem order_any (w : World) (u l v m : ByteArray) :
    Calls Tryz.prog 69 #[.agg #[.string u, .string l], .agg #[.string v, .string m]] w fun e w' => e = .returned (.int .i64 (ordN u l v m)) ∧ Below w.heap.size w w' := by
  obtain ⟨x, hx⟩ : ∃ x, Lib.compareBytes u.data.toList v.data.toList = x := ⟨_, rfl⟩
  obtain ⟨y, hy⟩ : ∃ y, Lib.compareBytes l.data.toList m.data.toList = y := ⟨_, rfl⟩
  have C1 := Lib.hid (fun W => Tryz.strings_Compare u v W)
  have C2 := Lib.hid (fun W => Tryz.strings_Compare l m W)
  obtain ⟨r, hr⟩ : ∃ r, (if x = 0 then y else x) = r := ⟨_, rfl⟩
  rw [show ordN u l v m = r by rw [← hr]; unfold ordN cmpS; rw [hx, hy]]
  have HR := Lib.hid hr
  rw [hx] at C1
  rw [hy] at C2
  clear hx hy hr
  go_enter Tryz.func69, Tryz.ntmps69
  go_wp2_with (fail)
  go_region_held3 (fun w' => w'.cell? ⟨w.heap.size, 0, none⟩ = some (.string u) ∧ w'.cell? ⟨w.heap.size, 1, none⟩ = some (.string l) ∧ w'.cell? ⟨w.heap.size + 1, 0, none⟩ = some (.string v) ∧ w'.cell? ⟨w.heap.size + 1, 1, none⟩ = some (.string m)) (first | assumption | go_keep) (first | (go_at_call 91; first | (refine (C1.out _).mono ?_; rintro e w' ⟨rfl, rfl⟩) | (refine (C2.out _).mono ?_; rintro e w' ⟨rfl, rfl⟩)) | (go_at_call 90; refine (or2_any _ _ _ x y r HR.out (by go_simp) (by go_simp)).mono ?_; rintro e w' ⟨rfl, rfl⟩))
  go_wp2_with (fail)
  go_ret
  exact ⟨rfl, (((((Below.refl _ _).alloc (Nat.le_refl _) _).alloc (by simp) _).alloc (by simp; omega) _).drew)⟩
def unordL : List AttrM → Bool
  | a :: b :: r => decide (0 ≤ ordN a.uri a.loc b.uri b.loc) || unordL (b :: r)
  | _ => false
theorem unord_step (l : List AttrM) (j : Nat) (h : j + 1 < l.length) : unordL (l.drop j) = (decide (0 ≤ ordN l[j].uri l[j].loc l[j + 1].uri l[j + 1].loc) || unordL (l.drop (j + 1))) := by
  rw [List.drop_eq_getElem_cons (by omega : j < l.length), List.drop_eq_getElem_cons h, unordL]
theorem unord_end (l : List AttrM) (j : Nat) (h : ¬ j + 1 < l.length) : unordL (l.drop j) = false := by
  have : (l.drop j).length ≤ 1 := by rw [List.length_drop]; omega
  match l.drop j, this with
  | [], _ => rfl
  | [_], _ => rfl
def AT.unordered (t : AT) : Bool := unordL t.attrs
set_option maxRecDepth 100000 in
set_option maxHeartbeats 2000000 in
theorem isUnordered_any (w : World) (x : AT) (hx : TreeAt w x) :
    Calls Tryz.prog 36 #[x.ptr] w fun e w' => e = .returned (.bool x.unordered) ∧ Below w.heap.size w w' := by
  obtain ⟨pa, ca, pk, ck, h0, c0, c1, c2, c3, c4, c5⟩ := hx.top
  unfold AT.ptr AT.unordered
  obtain ⟨b, hb⟩ : ∃ b, x.b = b := ⟨_, rfl⟩
  obtain ⟨o, ho⟩ : ∃ o, x.o = o := ⟨_, rfl⟩
  obtain ⟨l, hl⟩ : ∃ l, x.attrs = l := ⟨_, rfl⟩
  have hat : AttrsAt w pa l := hl ▸ h0.attrs
  have hcap : l.length ≤ ca := hl ▸ h0.acap
  have hsz : l.length ≤ 140737488351232 := hl ▸ h0.asz
  rw [hb, ho, hl]
  rw [hb, ho, hl] at c3
  obtain ⟨ANS, hA⟩ : ∃ ANS, unordL l = ANS := ⟨_, rfl⟩
  rw [hA]
  have HA := Lib.hid hA
  have HAT := Lib.hid hat
  clear hx h0 c0 c1 c2 c4 c5 hb ho hl hA hat
  go_enter Tryz.func36, Tryz.ntmps36
  go_wp2_with (fail)
  go_loopw [3] (fun v wr => ∃ j : Nat, v = .int .i64 ((j : Int) + 1) ∧ (j = 0 ∨ j < l.length) ∧ Below w.heap.size w wr ∧ Hid (unordL (l.drop j) = ANS)) (fun v _ => l.length + 1 - (intOf v).toNat)
  case atStart => exact ⟨0, rfl, .inl rfl, Below.refl _ _, HA⟩
  case round =>
    obtain ⟨j, rfl, hj, hB, HJ⟩ := hrel
    have d3 := t_cell' hB c3
    by_cases hlt : j + 1 < l.length
    · have hi : (j : Int) + 1 < (l.length : Int) := by omega
      obtain ⟨q, off, rfl, hc⟩ := HAT.out (by omega)
      have e0 := t_cell' hB (hc j (by omega)).1
      have e1 := t_cell' hB (hc j (by omega)).2.1
      have e2 := t_cell' hB (hc (j + 1) hlt).1
      have e3 := t_cell' hB (hc (j + 1) hlt).2.1
      obtain ⟨y, hy⟩ : ∃ y, ordN l[j].uri l[j].loc l[j + 1].uri l[j + 1].loc = y := ⟨_, rfl⟩
      have C := Lib.hid (fun W => order_any W l[j].uri l[j].loc l[j + 1].uri l[j + 1].loc)
      have HS := Lib.hid (unord_step l j hlt)
      rw [hy] at C HS
      clear hy hc
      generalize l[j].uri = u at *
      generalize l[j].loc = lc at *
      generalize l[j + 1].uri = u2 at *
      generalize l[j + 1].loc = lc2 at *
      have k1 : IntKind.i64.wrap ((j : Int) + 1 - 1) = (j : Int) := by rw [show (j : Int) + 1 - 1 = (j : Int) by omega]; exact IntWalk.i64_in _ (by omega)
      have k2 : (j : Int) < (l.length : Int) := by omega
      have k3 : IntKind.i64.wrap (j : Int) = (j : Int) := IntWalk.i64_in _ (by omega)
      have k4 : (0 : Int) ≤ (j : Int) := by omega
      have k5 : (0 : Int) ≤ (j : Int) + 1 := by omega
      have k6 : ((j : Int) + 1).toNat = j + 1 := by omega
      rw [show off + (j + 1) * 3 = off + (j + 1) * 3 from rfl] at e2
      go_wp2_with (fail)
      go_region_held3 (fun w' => w'.cell? ⟨b, o + 3, none⟩ = some (.slice (some ⟨q, off, none⟩) l.length ca) ∧ w'.cell? ⟨q, off + j * 3, none⟩ = some (.string u) ∧ w'.cell? ⟨q, off + j * 3 + 1, none⟩ = some (.string lc) ∧ w'.cell? ⟨q, off + (j + 1) * 3, none⟩ = some (.string u2) ∧ w'.cell? ⟨q, off + (j + 1) * 3 + 1, none⟩ = some (.string lc2)) (first | assumption | go_keep | (refine ⟨t_cell' hb' ?_, t_cell' hb' ?_, t_cell' hb' ?_, t_cell' hb' ?_, t_cell' hb' ?_⟩ <;> assumption)) ((go_at_call 69; refine (C.out _).mono ?_; rintro e w' ⟨rfl, hb'⟩))
      by_cases hyy : 0 ≤ y
      · go_wp2_with (fail)
        go_ret
        exact ⟨ret_bb (by rw [← HJ.out, HS.out]; simp [hyy]), below_cat5 hB.drew hb'⟩
      · go_wp2_with (fail)
        go_roundw
        · exact ⟨j + 1, rfl, .inr hlt, below_cat5 hB.drew hb', Lib.hid (by rw [← HJ.out, HS.out]; simp [hyy])⟩
        · simp only [intOf]
          omega
    · have hi : ¬ (j : Int) + 1 < (l.length : Int) := by omega
      have HE := Lib.hid (unord_end l j hlt)
      go_wp2_with (fail)
      go_ret
      exact ⟨ret_bb (by rw [← HJ.out, HE.out]), hB⟩
end Go.Proofs.YtfmlmdfehaajbaaGreatDoor
