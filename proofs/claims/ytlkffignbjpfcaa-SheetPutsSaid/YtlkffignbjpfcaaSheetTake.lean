/- Proved here: what the program's Take of a page's bytes answers. -/
import Derived.Test.YtlkffignbjpfcaaSheetPage
import Derived.RegionTactic
import Derived.Deep.RegionWith
import Derived.WalkSmall
namespace Go.Proofs.Ytlkffignbjpfcaa
open Go.RowKit

/-- What a page's bytes are: bytes, stamp, error. -/
def takeR (n : Nat) (l : List UInt8) : List UInt8 × Nat × Nat :=
  if l.length ≠ 512 then ([], 0, 6) else if blankL l then (zL 496, 0, 0) else if sealed l = false then ([], 0, 10) else if valN ((l.drop 4).take 4) ≠ n then ([], 0, 11) else (l.drop 16, valN ((l.drop 8).take 8), 0)
/-- Bytes that are told: none, or new memory. -/
def Told (l : List UInt8) (w : World) (r : Value) (w' : World) : Prop := (l = [] ∧ r = .slice none 0 0 ∧ Below w.heap.size w w') ∨ NewB l w r w'
theorem Told.below {l : List UInt8} {w W : World} {r : Value} (h : Told l w r W) : Below w.heap.size w W := by
  rcases h with ⟨_, _, h⟩ | h
  · exact h
  · exact h.below
theorem Told.after {l : List UInt8} {w W W' : World} {r : Value} (h : Told l W r W') (hb : Below w.heap.size w W) : Told l w r W' := by
  rcases h with ⟨h1, h2, h⟩ | h
  · exact .inl ⟨h1, h2, below_cat hb h⟩
  · exact .inr (h.after hb)
theorem Told.holds {l : List UInt8} {w W : World} {r : Value} (h : Told l w r W) : ∃ p c, r = .slice p l.length c ∧ HoldsB W p (ofL l) ∧ (p = none → c = 0) := by
  rcases h with ⟨rfl, rfl, h⟩ | ⟨g, c, rfl, ho, _⟩
  · exact ⟨none, 0, rfl, fun h0 => by rw [ofL_size] at h0; exact absurd h0 (by decide), fun _ => rfl⟩
  · exact ⟨_, _, rfl, ho.holds, fun e => by cases e⟩
theorem sealed_keeps (b off : Nat) (s : ByteArray) (n c : Nat) (w : World) (hn : s.size = n) (h5 : 5 ≤ n) (hc : n ≤ c) (hs : n ≤ 1000000) (hp : HoldsB w (some ⟨b, off, none⟩) s) :
    Calls Try.prog 64 #[.slice (some ⟨b, off, none⟩) n c] w fun e w' => e = .returned (.bool (sealed (bl s))) ∧ Below w.heap.size w w' :=
  (isSealed_any b off s n c w hn h5 hc hs hp).mono fun _ _ ⟨h1, m, h2⟩ => ⟨h1, by rw [h2]; exact below_drewN (Below.refl _ _) m⟩
set_option maxHeartbeats 1000000 in
theorem take_arg (n : Int) (h : n < 0 ∨ 4294967295 < n) (p : Option Addr) (m c : Nat) (w : World) :
    Calls Try.prog 42 #[.int .i64 n, .slice p m c] w fun e w' => e = .returned (.tuple #[.slice none 0 0, .int .u64 0, .int .i64 1]) ∧ w = w' := by
  have IN := Lib.hid (isNumber_no n h w)
  clear h
  go_enter Try.func42, Try.ntmps42
  go_wp2_with (fail)
  refine IN.out.mono ?_
  rintro e w' ⟨rfl, rfl⟩
  go_wp2_with (fail)
  go_ret3
  exact ⟨rfl, rfl⟩
set_option maxHeartbeats 1000000 in
theorem take_len (n : Nat) (hn : n ≤ 4294967295) (p : Option Addr) (m c : Nat) (hm : m ≠ 512) (w : World) :
    Calls Try.prog 42 #[.int .i64 (n : Int), .slice p m c] w fun e w' => e = .returned (.tuple #[.slice none 0 0, .int .u64 0, .int .i64 6]) ∧ w = w' := by
  have IN := Lib.hid (isNumber_yes n hn w)
  have hm9 : ((m : Int) == 512) = false := by rw [beq_eq_false_iff_ne]; omega
  clear hn hm
  go_enter Try.func42, Try.ntmps42
  go_wp2_with (fail)
  refine IN.out.mono ?_
  rintro e w' ⟨rfl, rfl⟩
  go_wp2_with (fail)
  go_ret3
  exact ⟨rfl, rfl⟩
def TakePost (x : List UInt8 × Nat × Nat) (w : World) (e : Ending) (w' : World) : Prop := ∃ r, e = .returned (.tuple #[r, .int .u64 (x.2.1 : Int), .int .i64 (x.2.2 : Int)]) ∧ Told x.1 w r w'
set_option maxRecDepth 100000 in
set_option maxHeartbeats 8000000 in
theorem take_512 (n : Nat) (hn : n ≤ 4294967295) (b off : Nat) (s : ByteArray) (c : Nat) (w : World) (hs : s.size = 512) (hc : 512 ≤ c) (hp : HoldsB w (some ⟨b, off, none⟩) s) :
    Calls Try.prog 42 #[.int .i64 (n : Int), .slice (some ⟨b, off, none⟩) 512 c] w (TakePost (takeR n (bl s)) w) := by
  have IN := Lib.hid (isNumber_yes n hn w)
  have BK := Lib.hid (blank_any (some ⟨b, off, none⟩) s 512 c w hs (by decide) hp)
  have IS := Lib.hid (sealed_keeps b off s 512 c w hs (by decide) hc (by decide) hp)
  obtain ⟨W0, hmk, ho, hb⟩ := make_full w 496 (by omega)
  have hmk : (Instr.makeSlice 33 (.int .i64 496) (.int .i64 496)).run Try.prog w = .ok (.slice (some ⟨w.heap.size, 0, none⟩) 496 496) W0 := hmk
  have hl : (bl s).length = 512 := by rw [bl_length, hs]
  have HH := Lib.hid (And.intro hp (And.intro hs (And.intro hl (And.intro ho hb))))
  have hc9 : (512 : Int) ≤ (c : Int) := by omega
  have hn9 : (n : Int) ≤ 4294967295 := by omega
  have hn8 : (0 : Int) ≤ (n : Int) := by omega
  have hc16 : ¬ c = 16 := by omega
  have hT : takeR n (bl s) = if blankL (bl s) then (zL 496, 0, 0) else if sealed (bl s) = false then ([], 0, 10) else if valN (((bl s).drop 4).take 4) ≠ n then ([], 0, 11) else ((bl s).drop 16, valN (((bl s).drop 8).take 8), 0) := by
    unfold takeR
    rw [if_neg (by rw [hl]; simp)]
  rw [hT]
  clear hp hs hl ho hb hn hT hc
  cases q1 : blankL (bl s)
  · rw [if_neg (by simp)]
    cases q2 : sealed (bl s)
    · rw [if_pos rfl]
      rw [q1] at BK
      rw [q2] at IS
      clear q1 q2
      go_enter Try.func42, Try.ntmps42
      go_wp2_with (fail)
      refine IN.out.mono ?_
      rintro e w' ⟨rfl, rfl⟩
      go_wp2_with (fail)
      refine BK.out.mono ?_
      rintro e w' ⟨rfl, rfl⟩
      go_wp2_with (fail)
      refine IS.out.mono ?_
      rintro e W1 ⟨rfl, hb⟩
      have HB := Lib.hid hb
      clear hb
      go_wp2_with (fail)
      go_ret3
      exact ⟨_, rfl, .inl ⟨rfl, rfl, HB.out⟩⟩
    · rw [if_neg (by simp)]
      rw [q1] at BK
      rw [q2] at IS
      have b4 : bl (s.extract 4 8) = ((bl s).drop 4).take 4 := bl_extract s 4 8
      have b8 : bl (s.extract 8 16) = ((bl s).drop 8).take 8 := bl_extract s 8 16
      have b16 : bl (s.extract 16 512) = (bl s).drop 16 := by rw [bl_extract, List.take_of_length_le (by rw [List.length_drop, HH.out.2.2.1]; decide)]
      have N4 := Lib.hid (fun W (hW : Below w.heap.size w W) => number_any (some ⟨b, off + 4, none⟩) (s.extract 4 8) 4 (c - 4) W (ext_size s 4 8 (by rw [HH.out.2.1]; decide)) (by decide) ((HH.out.1.below hW).part 4 8 (by rw [HH.out.2.1]; decide)))
      have N8 := Lib.hid (fun W (hW : Below w.heap.size w W) => number_any (some ⟨b, off + 8, none⟩) (s.extract 8 16) 8 (c - 8) W (ext_size s 8 16 (by rw [HH.out.2.1]; decide)) (by decide) ((HH.out.1.below hW).part 8 16 (by rw [HH.out.2.1]; decide)))
      have CL := Lib.hid (fun W (hW : Below w.heap.size w W) => clone_some b (off + 16) (s.extract 16 512) 496 (c - 16) W (ext_size s 16 512 (by rw [HH.out.2.1]; decide)) (by decide) ((HH.out.1.below hW).part 16 512 (by rw [HH.out.2.1]; decide)))
      rw [b4] at N4
      rw [b8] at N8
      rw [b16] at CL
      have hl16 : ((bl s).drop 16).length = 496 := by rw [List.length_drop, HH.out.2.2.1]
      have HL := Lib.hid hl16
      clear q1 q2 b4 b8 b16 hl16
      obtain ⟨X, hX⟩ : ∃ X, valN (((bl s).drop 4).take 4) = X := ⟨_, rfl⟩
      rw [hX] at N4 ⊢
      clear hX
      by_cases q3 : X = n
      · have t3 : ((X : Int) == (n : Int)) = true := by rw [beq_iff_eq]; omega
        rw [if_neg (by simp [q3])]
        clear q3
        go_enter Try.func42, Try.ntmps42
        go_wp2_with (fail)
        refine IN.out.mono ?_
        rintro e w' ⟨rfl, rfl⟩
        go_wp2_with (fail)
        refine BK.out.mono ?_
        rintro e w' ⟨rfl, rfl⟩
        go_wp2_with (fail)
        refine IS.out.mono ?_
        rintro e W1 ⟨rfl, hb⟩
        have HB := Lib.hid hb
        clear hb
        go_wp2_with (fail)
        refine (N4.out _ HB.out).mono ?_
        rintro e W2 ⟨rfl, rfl⟩
        go_wp2_with (fail)
        go_region_with (first | (go_at_call 65; with_reducible (refine (N8.out _ (by first | exact below_drewN HB.out _ | exact HB.out.drew | exact HB.out | assumption | exact below_drewN (by assumption) _ | exact Below.drew (by assumption))).mono ?_); rintro e W2 ⟨rfl, rfl⟩) | (go_at_call 66; with_reducible (refine (CL.out _ (by first | exact below_drewN HB.out _ | exact HB.out.drew | exact HB.out)).mono ?_); rintro e W2 ⟨r, rfl, hr⟩; have hb2 := below_cat (by first | exact below_drewN HB.out _ | exact HB.out.drew | exact HB.out) hr.below))
        all_goals
          go_wp2_with (fail)
          go_ret3
          exact ⟨_, rfl, .inr (hr.after (by first | exact HB.out | exact HB.out.drew | exact below_drewN HB.out _))⟩
      · have t3 : ((X : Int) == (n : Int)) = false := by rw [beq_eq_false_iff_ne]; omega
        rw [if_pos q3]
        clear q3
        go_enter Try.func42, Try.ntmps42
        go_wp2_with (fail)
        refine IN.out.mono ?_
        rintro e w' ⟨rfl, rfl⟩
        go_wp2_with (fail)
        refine BK.out.mono ?_
        rintro e w' ⟨rfl, rfl⟩
        go_wp2_with (fail)
        refine IS.out.mono ?_
        rintro e W1 ⟨rfl, hb⟩
        have HB := Lib.hid hb
        clear hb
        go_wp2_with (fail)
        refine (N4.out _ HB.out).mono ?_
        rintro e W2 ⟨rfl, rfl⟩
        go_wp2_with (fail)
        go_ret3
        exact ⟨_, rfl, .inl ⟨rfl, rfl, HB.out⟩⟩
  · rw [if_pos rfl]
    rw [q1] at BK
    clear q1
    go_enter Try.func42, Try.ntmps42
    go_wp2_with (fail)
    refine IN.out.mono ?_
    rintro e w' ⟨rfl, rfl⟩
    go_wp2_with (fail)
    refine BK.out.mono ?_
    rintro e w' ⟨rfl, rfl⟩
    go_wp2_with (fail)
    go_ret3
    exact ⟨_, rfl, .inr ⟨_, _, rfl, HH.out.2.2.2.1, HH.out.2.2.2.2⟩⟩
end Go.Proofs.Ytlkffignbjpfcaa
