/- Proved here: what refer's Expand answers at every number and any bytes: a fault of the argument, or just expF; what was there stays. | Proved here: what refer's texts and values say at a place within any bytes: just stepT, stepV; what was there stays. -/
import Derived.Test.YteipiaefamfleaaGreatDoorM5
import Derived.Test.YteipiaefamfleaaGreatDoorM6
import Derived.Test.YteipiaefamfleaaGreatDoorM0
import Derived.Lib.SlBytesConst
namespace Go.Proofs.YteipiaefamfleaaGreatDoor
open Go.RowKit

set_option maxHeartbeats 1000000 in
theorem expand_out (p : Option Addr) (n cap : Nat) (at_ : Int) (w : World) (h : at_ < 0 ∨ (n : Int) ≤ at_) :
    Calls Tryz.prog 95 #[.slice p n cap, .int .i64 at_] w fun e w' => e = .returned (.tuple #[.int .i32 0, .int .i64 0, .int .i64 1]) ∧ w = w' := by
  go_enter Tryz.func95, Tryz.ntmps95
  rcases h with h | h
  · go_wp2_with (fail)
    all_goals first | (exfalso; omega) | (go_ret3; exact ⟨rfl, rfl⟩)
  · go_wp2_with (fail)
    all_goals first | (exfalso; omega) | (go_ret3; exact ⟨rfl, rfl⟩)
set_option maxHeartbeats 1000000 in
theorem expand_other (n b off cap at_ : Nat) (c : Int) (w : World) (hat : at_ < n) (hcell : w.cell? ⟨b, off + at_, none⟩ = some (.int .u8 c)) (hc : c ≠ 38) :
    Calls Tryz.prog 95 #[.slice (some ⟨b, off, none⟩) n cap, .int .i64 at_] w fun e w' => e = .returned (.tuple #[.int .i32 0, .int .i64 0, .int .i64 1]) ∧ w = w' := by
  have hz : (at_ : Int) < (n : Int) := by omega
  have hc' : (c == 38) = false := by rw [beq_eq_false_iff_ne]; exact hc
  go_enter Tryz.func95, Tryz.ntmps95
  go_wp2_with (fail)
  all_goals first | (exfalso; omega) | (go_ret3; exact ⟨rfl, rfl⟩)
set_option maxHeartbeats 1000000 in
theorem expand_num (s : ByteArray) (b off cap at_ : Nat) (w : World) (hs : s.size ≤ 140737488355000) (h38 : by_ s at_ = 38) (hlt : at_ + 1 < s.size) (h35 : by_ s (at_ + 1) = 35) (hp : ∀ j, j < s.size → w.cell? ⟨b, off + j, none⟩ = some (.int .u8 (by_ s j))) :
    Calls Tryz.prog 95 #[.slice (some ⟨b, off, none⟩) s.size cap, .int .i64 at_] w fun e w' => e = .returned (.tuple #[.int .i32 (numF s (at_ + 2)).1, .int .i64 (numF s (at_ + 2)).2.1, .int .i64 (numF s (at_ + 2)).2.2]) ∧ w = w' := by
  have hz : (at_ : Int) < (s.size : Int) := by omega
  have hz1 : (at_ : Int) + 1 < (s.size : Int) := by omega
  have c0 := hp at_ (by omega)
  have c1 := hp (at_ + 1) hlt
  rw [h38] at c0
  rw [h35] at c1
  have N := Lib.hid (numbered_any s b off cap (at_ + 2) w (by omega) (by omega) hp)
  clear hp h38 h35
  go_enter Tryz.func95, Tryz.ntmps95
  go_wp2_with (fail)
  refine N.out.mono ?_
  rintro e w' ⟨rfl, rfl⟩
  go_wp2_with (fail)
  go_ret3
  exact ⟨rfl, rfl⟩
theorem expand_in (s : ByteArray) (b off cap at_ : Nat) (w : World) (hs : s.size ≤ 140737488355000) (hcap : s.size ≤ cap) (hat : at_ < s.size) (h38 : by_ s at_ = 38) (hN : NamedAt w) (hp : ∀ j, j < s.size → w.cell? ⟨b, off + j, none⟩ = some (.int .u8 (by_ s j))) :
    Calls Tryz.prog 95 #[.slice (some ⟨b, off, none⟩) s.size cap, .int .i64 at_] w fun e w' => e = .returned (.tuple #[.int .i32 (expF s at_).1, .int .i64 (expF s at_).2.1, .int .i64 (expF s at_).2.2]) ∧ Below w.heap.size w w' := by
  by_cases hlt : at_ + 1 < s.size
  · by_cases h35 : by_ s (at_ + 1) = 35
    · have e : expF s at_ = numF s (at_ + 2) := by unfold expF; rw [if_pos ⟨hlt, h35⟩]
      rw [e]
      refine (expand_num s b off cap at_ w hs h38 hlt h35 hp).mono ?_
      rintro e w' ⟨rfl, rfl⟩
      exact ⟨rfl, Below.refl _ _⟩
    · have e : expF s at_ = namedGo s at_ 5 := by unfold expF; rw [if_neg (by rintro ⟨_, g⟩; exact h35 g)]
      rw [e]
      exact expand_a s b off cap at_ w hs hcap hat h38 _ hlt rfl h35 hN hp
  · have e : expF s at_ = namedGo s at_ 5 := by unfold expF; rw [if_neg (by rintro ⟨g, _⟩; exact hlt g)]
    rw [e]
    exact expand_b s b off cap at_ w hs hcap hat h38 hlt hN hp
end Go.Proofs.YteipiaefamfleaaGreatDoor
namespace Go.Proofs.YteipiaefamfleaaGreatDoor
open Go.RowKit

set_option maxHeartbeats 2000000 in
theorem both_in (s : ByteArray) (b off cap at_ : Nat) (w : World) (hs : s.size ≤ 140737488354000) (hcap : s.size ≤ cap) (hat : at_ < s.size) (hT : Tabs w) (hN : NamedAt w) (hp : ∀ j, j < s.size → w.cell? ⟨b, off + j, none⟩ = some (.int .u8 (by_ s j))) :
    Calls Tryz.prog 86 #[.slice (some ⟨b, off, none⟩) s.size cap, .int .i64 at_] w fun e w' => e = .returned (.tuple #[.int .i32 (bothF s at_).1, .int .i64 (bothF s at_).2.1, .int .i64 (bothF s at_).2.2]) ∧ Below w.heap.size w w' := by
  have hz : (at_ : Int) < (s.size : Int) := by omega
  obtain ⟨A, hA⟩ : ∃ A, bothF s at_ = A := ⟨_, rfl⟩
  rw [hA]
  have c0 := hp at_ hat
  by_cases h60 : by_ s at_ = 60
  · have HA := Lib.hid (show A = (0, 0, 23) by rw [← hA]; unfold bothF; rw [if_pos h60])
    rw [h60] at c0
    clear hA hp hT hN h60
    go_enter Tryz.func86, Tryz.ntmps86
    go_wp2_with (fail)
    go_ret3
    exact ⟨ret_tri HA.out, Below.refl _ _⟩
  · by_cases h38 : by_ s at_ = 38
    · have HA := Lib.hid (show A = expF s at_ by rw [← hA]; unfold bothF; rw [if_neg h60, if_pos h38])
      have E := Lib.hid (expand_in s b off cap at_ w (by omega) hcap hat h38 hN hp)
      rw [← HA.out] at E
      rw [h38] at c0
      clear hA hp hT hN h60 h38
      go_enter Tryz.func86, Tryz.ntmps86
      go_wp2_with (fail)
      refine E.out.mono ?_
      rintro e w1 ⟨rfl, hb⟩
      go_wp2_with (fail)
      go_ret3
      exact ⟨rfl, hb⟩
    · have HA := Lib.hid (show A = (((nextF s at_).1 : Int), ((nextF s at_).2.1 : Int), ((nextF s at_).2.2 : Int)) by rw [← hA]; unfold bothF; rw [if_neg h60, if_neg h38])
      have E := Lib.hid (next_in s b off cap at_ w hT (by omega) hcap hat hp)
      obtain ⟨c, hc⟩ : ∃ c, by_ s at_ = c := ⟨_, rfl⟩
      rw [hc] at c0 h60 h38
      have f1 : (c == 60) = false := by rw [beq_eq_false_iff_ne]; exact h60
      have f2 : (c == 38) = false := by rw [beq_eq_false_iff_ne]; exact h38
      clear hA hp hT hN h60 h38 hc
      go_enter Tryz.func86, Tryz.ntmps86
      go_wp2_with (fail)
      refine E.out.mono ?_
      rintro e w1 ⟨rfl, hb⟩
      go_wp2_with (fail)
      go_ret3
      exact ⟨ret_tri HA.out, hb⟩

theorem row3_cell (w : World) (x y z : Value) (t : TypeId) (fr : Nat × Nat) (v : Value) (j : Nat) (h : #[x, y, z][j]? = some v) : (w.alloc (.cells #[x, y, z] t fr)).cell? ⟨w.heap.size, j, none⟩ = some v := by
  rw [cell_of_row _ _ _ #[x, y, z] t fr (heap_alloc_new w _)]
  exact h
theorem close_at (s : ByteArray) (b off cap at_ : Nat) (w : World) (c : Nat) (hcap : s.size ≤ cap) (hat : at_ ≤ s.size) (hp : ∀ j, j < s.size → w.cell? ⟨b, off + j, none⟩ = some (.int .u8 (by_ s j))) :
    Calls Tryz.prog 22 #[.slice (some ⟨b, off + at_, none⟩) (s.size - at_) (cap - at_), .slice (some ⟨w.heap.size, 0, none⟩) 3 c] (w.alloc (.cells #[.int .u8 93, .int .u8 93, .int .u8 62] 5 (3, 4))) fun e w' => e = .returned (.bool (closeB s at_)) ∧ (w.alloc (.cells #[.int .u8 93, .int .u8 93, .int .u8 62] 5 (3, 4))) = w' := by
  have hb : Below w.heap.size w (w.alloc (.cells #[.int .u8 93, .int .u8 93, .int .u8 62] 5 (3, 4))) := (Below.refl _ _).alloc (Nat.le_refl _) _
  refine (Tryz.bytes_HasPrefix_all (some ⟨b, off + at_, none⟩) (some ⟨w.heap.size, 0, none⟩) (s.size - at_) (cap - at_) 3 c (tailZ s at_) [93, 93, 62] _ (tailZ_length s at_) rfl (by omega) ?_ ?_).mono ?_
  · intro _
    refine ⟨b, off + at_, rfl, fun i hi => ?_⟩
    rw [tailZ_get s at_ i hi, Nat.add_assoc]
    exact hb_cell hb (hp (at_ + i) (by omega))
  · intro _
    refine ⟨w.heap.size, 0, rfl, fun i hi => ?_⟩
    rw [Nat.zero_add]
    apply row3_cell
    match i, hi with
    | 0, _ => rfl
    | 1, _ => rfl
    | 2, _ => rfl
  · rintro e w' ⟨rfl, rfl⟩
    refine ⟨?_, rfl⟩
    rw [tailZ_bytes]
    rfl
set_option maxHeartbeats 2000000 in
theorem text_in (s : ByteArray) (b off cap at_ : Nat) (w : World) (hs : s.size ≤ 140737488354000) (hcap : s.size ≤ cap) (hat : at_ < s.size) (hT : Tabs w) (hN : NamedAt w) (hp : ∀ j, j < s.size → w.cell? ⟨b, off + j, none⟩ = some (.int .u8 (by_ s j))) :
    Calls Tryz.prog 69 #[.slice (some ⟨b, off, none⟩) s.size cap, .int .i64 at_] w fun e w' => e = .returned (.tuple #[.int .i32 (stepT s at_).1, .int .i64 (stepT s at_).2.1, .int .i64 (stepT s at_).2.2]) ∧ Below w.heap.size w w' := by
  have hz : (at_ : Int) < (s.size : Int) := by omega
  have hbs : (at_ : Int) ≤ (cap : Int) := by omega
  have hbn : (0 : Int) ≤ (at_ : Int) := by omega
  have hbl : (at_ : Int) ≤ (s.size : Int) := by omega
  have hne : ¬ cap = at_ := by omega
  obtain ⟨A, hA⟩ : ∃ A, stepT s at_ = A := ⟨_, rfl⟩
  rw [hA]
  have C := Lib.hid (close_at s b off cap at_ w 3 hcap (by omega) hp)
  have hb1 : Below w.heap.size w (w.alloc (.cells #[.int .u8 93, .int .u8 93, .int .u8 62] 5 (3, 4))) := (Below.refl _ _).alloc (Nat.le_refl _) _
  have E := Lib.hid (both_in s b off cap at_ _ hs hcap hat (hT.below hb1) (hN.below hb1) (fun j hj => hb_cell hb1 (hp j hj)))
  have kc : (convert 22 22 (.slice (some ⟨w.heap.size, 0, none⟩) 3 3)).run Tryz.prog (w.alloc (.cells #[.int .u8 93, .int .u8 93, .int .u8 62] 5)) = .ok (.slice (some ⟨w.heap.size, 0, none⟩) 3 3) (w.alloc (.cells #[.int .u8 93, .int .u8 93, .int .u8 62] 5 (3, 4))) := Lib.run_convert_bytes_const w 22 5 #[.int .u8 93, .int .u8 93, .int .u8 62] 3 3 Tryz.underlying22 Tryz.underlying5
  cases hc : closeB s at_
  · have HA := Lib.hid (show A = bothF s at_ by rw [← hA]; unfold stepT; rw [if_neg (by rw [hc]; simp)])
    rw [hc] at C
    rw [← HA.out] at E
    have HB := Lib.hid hb1
    clear hA hp hT hN hc hb1
    go_enter Tryz.func69, Tryz.ntmps69
    go_wp2_with (fail)
    refine C.out.mono ?_
    rintro e w1 ⟨rfl, rfl⟩
    go_wp2_with (fail)
    refine E.out.mono ?_
    rintro e w1 ⟨rfl, hb⟩
    have hB := below_cat HB.out hb
    go_wp2_with (fail)
    go_ret3
    exact ⟨rfl, hB⟩
  · have HA := Lib.hid (show A = (0, 0, 23) by rw [← hA]; unfold stepT; rw [if_pos hc])
    rw [hc] at C
    have HB := Lib.hid hb1
    clear hA hp hT hN hc hb1 E
    go_enter Tryz.func69, Tryz.ntmps69
    go_wp2_with (fail)
    refine C.out.mono ?_
    rintro e w1 ⟨rfl, rfl⟩
    go_wp2_with (fail)
    go_ret3
    exact ⟨ret_tri HA.out, HB.out⟩
set_option maxHeartbeats 2000000 in
theorem value_in (s : ByteArray) (b off cap at_ : Nat) (w : World) (hs : s.size ≤ 140737488354000) (hcap : s.size ≤ cap) (hat : at_ < s.size) (hT : Tabs w) (hN : NamedAt w) (hp : ∀ j, j < s.size → w.cell? ⟨b, off + j, none⟩ = some (.int .u8 (by_ s j))) :
    Calls Tryz.prog 79 #[.slice (some ⟨b, off, none⟩) s.size cap, .int .i64 at_] w fun e w' => e = .returned (.tuple #[.int .i32 (stepV s at_).1, .int .i64 (stepV s at_).2.1, .int .i64 (stepV s at_).2.2]) ∧ Below w.heap.size w w' := by
  have hz : (at_ : Int) < (s.size : Int) := by omega
  obtain ⟨A, hA⟩ : ∃ A, stepV s at_ = A := ⟨_, rfl⟩
  rw [hA]
  have c0 := hp at_ hat
  have E := Lib.hid (both_in s b off cap at_ w hs hcap hat hT hN hp)
  by_cases h : by_ s at_ = 9 ∨ by_ s at_ = 10 ∨ by_ s at_ = 13
  · have HA := Lib.hid (show A = ((32 : Int), (at_ : Int) + 1, (0 : Int)) by rw [← hA]; unfold stepV; rw [if_pos h])
    clear hA hp hT hN E
    rcases h with h | h | h
    all_goals
      rw [h] at c0
      clear h
      go_enter Tryz.func79, Tryz.ntmps79
      go_wp2_with (fail)
      go_ret3
      exact ⟨ret_tri HA.out, Below.refl _ _⟩
  · have HA := Lib.hid (show A = bothF s at_ by rw [← hA]; unfold stepV; rw [if_neg h])
    rw [← HA.out] at E
    obtain ⟨c, hc⟩ : ∃ c, by_ s at_ = c := ⟨_, rfl⟩
    rw [hc] at c0 h
    have f1 : (c == 9) = false := by rw [beq_eq_false_iff_ne]; omega
    have f2 : (c == 10) = false := by rw [beq_eq_false_iff_ne]; omega
    have f3 : (c == 13) = false := by rw [beq_eq_false_iff_ne]; omega
    clear hA hp hT hN h hc
    go_enter Tryz.func79, Tryz.ntmps79
    go_wp2_with (fail)
    refine E.out.mono ?_
    rintro e w1 ⟨rfl, hb⟩
    go_wp2_with (fail)
    go_ret3
    exact ⟨rfl, hb⟩
end Go.Proofs.YteipiaefamfleaaGreatDoor
