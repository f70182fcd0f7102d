/- Proved here: what the law's digits writes of a number: digits of the base that say it, with noughts ahead; what was there stays. -/
import Derived.Test.YtdomhjjoijkeaaaDoorBackGo
import Derived.Test.YtdomhjjoijkeaaaDoorConvStr
import Derived.BigGuardPart
namespace Go.Proofs.YtdomhjjoijkeaaaDoor
open Go.RowKit

/-- The number that digits say, behind what was said. -/
def valL (base : Nat) : Nat → List UInt8 → Nat
  | a, [] => a
  | a, x :: l => valL base (a * base + (digZ (x.toNat : Int)).toNat) l
def digC (cap : Bool) (d : Nat) : Nat := if d ≤ 9 then 48 + d else if cap then 55 + d else 87 + d
theorem digC_lt (cap : Bool) (d : Nat) (h : d < 16) : 48 ≤ digC cap d ∧ digC cap d < 128 := by
  unfold digC
  split
  · omega
  · split <;> omega
theorem digZ_digC (cap : Bool) (d : Nat) (h : d < 16) : digZ (digC cap d : Nat) = d := by
  unfold digC digZ
  split
  · rw [if_pos (by omega)]; omega
  · split
    · rw [if_neg (by omega), if_neg (by omega), if_pos (by omega)]; omega
    · rw [if_neg (by omega), if_pos (by omega)]; omega
def DigsOk (base : Nat) (s : ByteArray) : Prop := ∀ y ∈ s.data.toList, digZ (y.toNat : Int) < base
theorem u8_nat (c : Nat) (h : c < 256) : (UInt8.ofNat c).toNat = c := by rw [UInt8.toNat_ofNat']; omega
/-- A digit more ahead. -/
theorem dig_more (base : Nat) (cap : Bool) (d m : Nat) (s D : ByteArray) (hd : d < base) (hb : base ≤ 16) (hD : D = ⟨#[UInt8.ofNat (digC cap d)]⟩) (h : DigsOk base s) : valL base m (D ++ s).data.toList = valL base (m * base + d) s.data.toList ∧ DigsOk base (D ++ s) ∧ (D ++ s).size = s.size + 1 := by
  have e : (D ++ s).data.toList = UInt8.ofNat (digC cap d) :: s.data.toList := by rw [hD]; simp
  have hl := digC_lt cap d (by omega)
  have hz : digZ ((UInt8.ofNat (digC cap d)).toNat : Int) = d := by rw [u8_nat _ (by omega)]; exact digZ_digC cap d (by omega)
  refine ⟨?_, ?_, ?_⟩
  · rw [e]
    show valL base (m * base + (digZ ((UInt8.ofNat (digC cap d)).toNat : Int)).toNat) s.data.toList = _
    rw [hz]
    simp only [Int.toNat_natCast]
  · intro y hy
    rw [e] at hy
    rcases List.mem_cons.1 hy with rfl | hy
    · rw [hz]; omega
    · exact h y hy
  · rw [ByteArray.size_append, hD]
    show 1 + s.size = s.size + 1
    omega
theorem pow_more (m b size : Nat) (hb : 2 ≤ b) (h : m * 2 ^ size < 2 ^ 63) : m / b * 2 ^ (size + 1) < 2 ^ 63 := by
  have h1 : m / b * 2 ≤ m := by
    have h4 : m / b * 2 ≤ m / b * b := Nat.mul_le_mul_left _ hb
    exact Nat.le_trans h4 (Nat.div_mul_le_self m b)
  have h2 : m / b * 2 ^ (size + 1) = (m / b * 2) * 2 ^ size := by rw [Nat.pow_succ, Nat.mul_comm (2 ^ size) 2, ← Nat.mul_assoc]
  rw [h2]
  exact Nat.lt_of_le_of_lt (Nat.mul_le_mul_right _ h1) h
theorem pow_room (m size : Nat) (hm : 0 < m) (h : m * 2 ^ size < 2 ^ 63) : size + 1 ≤ 63 := by
  have h1 : 2 ^ size < 2 ^ 63 := Nat.lt_of_le_of_lt (Nat.le_mul_of_pos_left _ hm) h
  have := (Nat.pow_lt_pow_iff_right (by decide : 1 < 2)).1 h1
  omega
def emptyV : Value → Nat
  | .string s => if s.size = 0 then 1 else 0
  | _ => 0
theorem one_str (w : World) (z : Int) (c : Nat) (hz : z = c) (hc : c < 256) : (convert 22 9 (.slice (some ⟨w.heap.size, 0, none⟩) 1 1)).run Tryd.prog (w.alloc (.cells #[.int .u8 z] 5)) = .ok (.string ⟨#[UInt8.ofNat c]⟩) (w.alloc (.cells #[.int .u8 z] 5)) := by
  subst hz
  have hh : (w.alloc (.cells #[.int .u8 (c : Int)] 5)).heap[w.heap.size]? = some (.cells #[.int .u8 (c : Int)] 5) := heap_alloc_new w _
  have hp : HoldsB (w.alloc (.cells #[.int .u8 (c : Int)] 5)) (some ⟨w.heap.size, 0, none⟩) ⟨#[UInt8.ofNat c]⟩ := fun _ => ⟨_, _, rfl, fun j hj => by
    have hj1 : j < 1 := hj
    obtain rfl : j = 0 := by omega
    rw [cell_of_row _ _ _ #[.int .u8 (c : Int)] 5 _ hh]
    show some (Value.int .u8 (c : Int)) = some (.int .u8 ((UInt8.ofNat c).toNat : Int))
    rw [u8_nat c hc]⟩
  exact conv_str hp 1 (fun e => by cases e)
def DigRel (n base : Nat) (w : World) (v0 v9 : Value) (wr : World) : Prop := ∃ (m : Nat) (s : ByteArray), v0 = .int .i64 m ∧ v9 = .string s ∧ valL base m s.data.toList = n ∧ DigsOk base s ∧ m * 2 ^ s.size < 2 ^ 63 ∧ s.size ≤ 63 ∧ Below w.heap.size w wr
def NoughtRel (n base noughts : Nat) (v9 v12 : Value) : Prop := ∃ (i : Nat) (s : ByteArray), v12 = .int .i64 i ∧ v9 = .string s ∧ valL base 0 s.data.toList = n ∧ DigsOk base s ∧ 0 < s.size ∧ s.size ≤ 63 + i ∧ i ≤ noughts
theorem empty_of_size {s : ByteArray} (h : s.size = 0) : s = ⟨#[]⟩ := list_eq_bytes (List.eq_nil_of_length_eq_zero (by simpa using h))

set_option maxHeartbeats 8000000 in
set_option maxRecDepth 100000 in
theorem digits_ten (n noughts : Nat) (cap : Bool) (w : World) (hn : n < 2 ^ 63) (hk : noughts ≤ 255) :
    Calls Tryd.prog 23 #[.int .i64 n, .int .i64 10, .int .i64 noughts, .bool cap] w fun e w' => (∃ s : ByteArray, e = .returned (.string s) ∧ valL 10 0 s.data.toList = n ∧ DigsOk 10 s ∧ 0 < s.size ∧ s.size ≤ 400) ∧ Below w.heap.size w w' := by
  go_enter Tryd.func23, Tryd.ntmps23
  go_wp2_with (fail)
  go_loopw [0, 9] (fun v0 v9 wr => DigRel n 10 w v0 v9 wr) (fun v0 v9 _ => (intOf v0).toNat + emptyV v9)
  case atStart => exact ⟨n, ⟨#[]⟩, rfl, rfl, rfl, (fun y hy => by cases hy), (by show n * 2 ^ 0 < 2 ^ 63; omega), Nat.zero_le _, Below.refl _ _⟩
  case round =>
    obtain ⟨m, s, rfl, rfl, hval, hdig, hm, hsz, hb⟩ := hrel
    have hmb : (m : Int) % 10 < 10 := by omega
    have hm63 : (m : Int) < 9223372036854775808 := by
      have h1 : m * 1 ≤ m * 2 ^ s.size := Nat.mul_le_mul_left m (Nat.one_le_two_pow)
      omega
    by_cases hgo : 0 < m
    · have hgz : (0 : Int) < (m : Int) := by omega
      have hroom := pow_room m s.size hgo hm
      have h9 : ¬ (9 : Int) < (m : Int) % 10 := by omega
      have h9n : m % 10 ≤ 9 := by omega
      have ho := Lib.hid (one_str wr (48 + (m : Int) % 10) (digC cap (m % 10)) (by unfold digC; rw [if_pos h9n]; omega) (by have := digC_lt cap (m % 10) (by omega); omega))
      obtain ⟨D, hD⟩ : ∃ D : ByteArray, (⟨#[UInt8.ofNat (digC cap (m % 10))]⟩ : ByteArray) = D := ⟨_, rfl⟩
      obtain ⟨v1, v2, v3⟩ := dig_more 10 cap (m % 10) (m / 10) s D (by omega) (by omega) hD.symm hdig
      have hcv := ho.out
      rw [hD] at hcv
      have hdm : m / 10 * 10 + m % 10 = m := Nat.div_add_mod' m 10
      rw [hdm] at v1
      have hsum : ¬ D.size + s.size > 9223372036854775807 := by rw [← ByteArray.size_append, v3]; omega
      have hbig := pow_more m 10 s.size (by omega) hm
      have hb' : Below w.heap.size w (wr.alloc (.cells #[.int .u8 (48 + (m : Int) % 10)] 5)) := hb.alloc hb.size _
      have KEEP := Lib.hid (And.intro (v1.trans hval) (And.intro v2 (And.intro v3 (And.intro hbig hb'))))
      clear ho hD v1 v2 v3 hbig hb' hdm hdig hval hb hm
      go_wp2_with (fail)
      go_roundw
      case rel =>
        go_light
        obtain ⟨k1, k2, k3, k4, k5⟩ := KEEP.out
        exact ⟨m / 10, D ++ s, by go_num, rfl, k1, k2, by rw [k3]; exact k4, by rw [k3]; exact hroom, k5⟩
      case measure =>
        go_light
        obtain ⟨k1, k2, k3, k4, k5⟩ := KEEP.out
        simp only [intOf, emptyV, k3]
        simp
        first | omega | (split <;> omega)
    · obtain rfl : m = 0 := by omega
      have hgz : ¬ (0 : Int) < ((0 : Nat) : Int) := by omega
      by_cases hs0 : s.size = 0
      · obtain rfl := empty_of_size hs0
        have hcv := one_str wr 48 48 rfl (by decide)
        obtain ⟨D, hD⟩ : ∃ D : ByteArray, (⟨#[UInt8.ofNat 48]⟩ : ByteArray) = D := ⟨_, rfl⟩
        obtain ⟨v1, v2, v3⟩ := dig_more 10 cap 0 0 ⟨#[]⟩ D (by omega) (by omega) hD.symm hdig
        rw [hD] at hcv
        have hsum : ¬ D.size > 9223372036854775807 := by
          have e : (⟨#[]⟩ : ByteArray).size = 0 := rfl
          rw [ByteArray.size_append, e] at v3
          omega
        have hb' : Below w.heap.size w (wr.alloc (.cells #[.int .u8 48] 5)) := hb.alloc hb.size _
        have KEEP := Lib.hid (And.intro ((v1.trans (by rw [Nat.zero_mul])).trans hval) (And.intro v2 (And.intro v3 hb')))
        clear hD v1 v2 v3 hb' hdig hval hb hm hsz
        go_wp2_with (fail)
        go_roundw
        case rel =>
          go_light
          obtain ⟨k1, k2, k3, k5⟩ := KEEP.out
          exact ⟨0, D ++ ⟨#[]⟩, by go_num, by first | rfl | simp, k1, k2, by rw [Nat.zero_mul]; decide, by rw [k3]; decide, k5⟩
        case measure =>
          go_light
          obtain ⟨k1, k2, k3, k5⟩ := KEEP.out
          have e : (⟨#[]⟩ : ByteArray).size = 0 := rfl
          have e2 : D.size = 1 := by rw [ByteArray.size_append, e] at k3; omega
          simp [intOf, emptyV, e2]
          first | done | (rw [if_pos rfl]; decide) | exact (by decide : 0 < 1)
      · have hne := str_some (t := s) (fun e => hs0 (by rw [e]; rfl))
        have KEEP := Lib.hid hb
        clear hm hb
        go_wp2_with (fail)
        go_loop [9, 12] (fun v9 v12 => NoughtRel n 10 noughts v9 v12) (fun _ v12 => noughts - (intOf v12).toNat)
        case atStart => exact ⟨0, s, rfl, rfl, hval, hdig, by omega, by omega, by omega⟩
        case round =>
          obtain ⟨i, s, rfl, rfl, hval, hdig, h0, hsz, hi⟩ := hrel
          by_cases hlt : i < noughts
          · have hlz : (i : Int) < (noughts : Int) := by omega
            obtain ⟨v1, v2, v3⟩ := dig_more 10 cap 0 0 s ⟨#[48]⟩ (by omega) (by omega) rfl hdig
            have hsum : ¬ (⟨#[48]⟩ : ByteArray).size + s.size > 9223372036854775807 := by
              rw [← ByteArray.size_append, v3]; omega
            have K2 := Lib.hid (And.intro ((v1.trans (by rw [Nat.zero_mul])).trans hval) (And.intro v2 v3))
            clear v1 v2 v3 hval hdig
            go_wp2_with (fail)
            all_goals try (exfalso; omega)
            go_round
            case rel =>
              go_light
              obtain ⟨k1, k2, k3⟩ := K2.out
              exact ⟨i + 1, ⟨#[48]⟩ ++ s, by go_num, rfl, k1, k2, by rw [k3]; omega, by rw [k3]; omega, by omega⟩
            case measure => simp [intOf]; omega
          · have hlz : ¬ (i : Int) < (noughts : Int) := by omega
            have K2 := Lib.hid (And.intro hval (And.intro hdig (And.intro h0 hsz)))
            clear hval hdig h0 hsz
            go_wp2_with (fail)
            go_ret
            obtain ⟨k1, k2, k3, k4⟩ := K2.out
            exact ⟨⟨s, rfl, k1, k2, k3, by omega⟩, KEEP.out⟩

set_option maxHeartbeats 8000000 in
set_option maxRecDepth 100000 in
theorem digits_sixteen (n noughts : Nat) (cap : Bool) (w : World) (hn : n < 2 ^ 63) (hk : noughts ≤ 255) :
    Calls Tryd.prog 23 #[.int .i64 n, .int .i64 16, .int .i64 noughts, .bool cap] w fun e w' => (∃ s : ByteArray, e = .returned (.string s) ∧ valL 16 0 s.data.toList = n ∧ DigsOk 16 s ∧ 0 < s.size ∧ s.size ≤ 400) ∧ Below w.heap.size w w' := by
  go_enter Tryd.func23, Tryd.ntmps23
  go_wp2_with (fail)
  go_loopw [0, 9] (fun v0 v9 wr => DigRel n 16 w v0 v9 wr) (fun v0 v9 _ => (intOf v0).toNat + emptyV v9)
  case atStart => exact ⟨n, ⟨#[]⟩, rfl, rfl, rfl, (fun y hy => by cases hy), (by show n * 2 ^ 0 < 2 ^ 63; omega), Nat.zero_le _, Below.refl _ _⟩
  case round =>
    obtain ⟨m, s, rfl, rfl, hval, hdig, hm, hsz, hb⟩ := hrel
    have hmb : (m : Int) % 16 < 16 := by omega
    have hm63 : (m : Int) < 9223372036854775808 := by
      have h1 : m * 1 ≤ m * 2 ^ s.size := Nat.mul_le_mul_left m (Nat.one_le_two_pow)
      omega
    by_cases hgo : 0 < m
    · have hgz : (0 : Int) < (m : Int) := by omega
      have hroom := pow_room m s.size hgo hm
      by_cases h9n : m % 16 ≤ 9
      · have h9 : ¬ (9 : Int) < (m : Int) % 16 := by omega
        have ho := Lib.hid (one_str wr (48 + (m : Int) % 16) (digC cap (m % 16)) (by unfold digC; rw [if_pos h9n]; omega) (by have := digC_lt cap (m % 16) (by omega); omega))
        obtain ⟨D, hD⟩ : ∃ D : ByteArray, (⟨#[UInt8.ofNat (digC cap (m % 16))]⟩ : ByteArray) = D := ⟨_, rfl⟩
        obtain ⟨v1, v2, v3⟩ := dig_more 16 cap (m % 16) (m / 16) s D (by omega) (by omega) hD.symm hdig
        have hcv := ho.out
        rw [hD] at hcv
        have hdm : m / 16 * 16 + m % 16 = m := Nat.div_add_mod' m 16
        rw [hdm] at v1
        have hsum : ¬ D.size + s.size > 9223372036854775807 := by rw [← ByteArray.size_append, v3]; omega
        have hbig := pow_more m 16 s.size (by omega) hm
        have hb' : Below w.heap.size w (wr.alloc (.cells #[.int .u8 (48 + (m : Int) % 16)] 5)) := hb.alloc hb.size _
        have KEEP := Lib.hid (And.intro (v1.trans hval) (And.intro v2 (And.intro v3 (And.intro hbig hb'))))
        clear ho hD v1 v2 v3 hbig hb' hdm hdig hval hb hm
        go_wp2_with (fail)
        go_roundw
        case rel =>
          go_light
          obtain ⟨k1, k2, k3, k4, k5⟩ := KEEP.out
          exact ⟨m / 16, D ++ s, by go_num, rfl, k1, k2, by rw [k3]; exact k4, by rw [k3]; exact hroom, k5⟩
        case measure =>
          go_light
          obtain ⟨k1, k2, k3, k4, k5⟩ := KEEP.out
          simp only [intOf, emptyV, k3]
          simp
          first | omega | (split <;> omega)
      · have h9 : (9 : Int) < (m : Int) % 16 := by omega
        cases cap
        · have ho := Lib.hid (one_str wr (97 + (m : Int) % 16 - 10) (digC false (m % 16)) (by unfold digC; rw [if_neg h9n, if_neg (by decide)]; omega) (by have := digC_lt false (m % 16) (by omega); omega))
          obtain ⟨D, hD⟩ : ∃ D : ByteArray, (⟨#[UInt8.ofNat (digC false (m % 16))]⟩ : ByteArray) = D := ⟨_, rfl⟩
          obtain ⟨v1, v2, v3⟩ := dig_more 16 false (m % 16) (m / 16) s D (by omega) (by omega) hD.symm hdig
          have hcv := ho.out
          rw [hD] at hcv
          have hdm : m / 16 * 16 + m % 16 = m := Nat.div_add_mod' m 16
          rw [hdm] at v1
          have hsum : ¬ D.size + s.size > 9223372036854775807 := by rw [← ByteArray.size_append, v3]; omega
          have hbig := pow_more m 16 s.size (by omega) hm
          have hb' : Below w.heap.size w (wr.alloc (.cells #[.int .u8 (97 + (m : Int) % 16 - 10)] 5)) := hb.alloc hb.size _
          have KEEP := Lib.hid (And.intro (v1.trans hval) (And.intro v2 (And.intro v3 (And.intro hbig hb'))))
          clear ho hD v1 v2 v3 hbig hb' hdm hdig hval hb hm
          go_wp2_with (fail)
          go_roundw
          case rel =>
            go_light
            obtain ⟨k1, k2, k3, k4, k5⟩ := KEEP.out
            exact ⟨m / 16, D ++ s, by go_num, rfl, k1, k2, by rw [k3]; exact k4, by rw [k3]; exact hroom, k5⟩
          case measure =>
            go_light
            obtain ⟨k1, k2, k3, k4, k5⟩ := KEEP.out
            simp only [intOf, emptyV, k3]
            simp
            first | omega | (split <;> omega)
        · have ho := Lib.hid (one_str wr (65 + (m : Int) % 16 - 10) (digC true (m % 16)) (by unfold digC; rw [if_neg h9n, if_pos rfl]; omega) (by have := digC_lt true (m % 16) (by omega); omega))
          obtain ⟨D, hD⟩ : ∃ D : ByteArray, (⟨#[UInt8.ofNat (digC true (m % 16))]⟩ : ByteArray) = D := ⟨_, rfl⟩
          obtain ⟨v1, v2, v3⟩ := dig_more 16 true (m % 16) (m / 16) s D (by omega) (by omega) hD.symm hdig
          have hcv := ho.out
          rw [hD] at hcv
          have hdm : m / 16 * 16 + m % 16 = m := Nat.div_add_mod' m 16
          rw [hdm] at v1
          have hsum : ¬ D.size + s.size > 9223372036854775807 := by rw [← ByteArray.size_append, v3]; omega
          have hbig := pow_more m 16 s.size (by omega) hm
          have hb' : Below w.heap.size w (wr.alloc (.cells #[.int .u8 (65 + (m : Int) % 16 - 10)] 5)) := hb.alloc hb.size _
          have KEEP := Lib.hid (And.intro (v1.trans hval) (And.intro v2 (And.intro v3 (And.intro hbig hb'))))
          clear ho hD v1 v2 v3 hbig hb' hdm hdig hval hb hm
          go_wp2_with (fail)
          go_roundw
          case rel =>
            go_light
            obtain ⟨k1, k2, k3, k4, k5⟩ := KEEP.out
            exact ⟨m / 16, D ++ s, by go_num, rfl, k1, k2, by rw [k3]; exact k4, by rw [k3]; exact hroom, k5⟩
          case measure =>
            go_light
            obtain ⟨k1, k2, k3, k4, k5⟩ := KEEP.out
            simp only [intOf, emptyV, k3]
            simp
            first | omega | (split <;> omega)
    · obtain rfl : m = 0 := by omega
      have hgz : ¬ (0 : Int) < ((0 : Nat) : Int) := by omega
      by_cases hs0 : s.size = 0
      · obtain rfl := empty_of_size hs0
        have hcv := one_str wr 48 48 rfl (by decide)
        obtain ⟨D, hD⟩ : ∃ D : ByteArray, (⟨#[UInt8.ofNat 48]⟩ : ByteArray) = D := ⟨_, rfl⟩
        obtain ⟨v1, v2, v3⟩ := dig_more 16 cap 0 0 ⟨#[]⟩ D (by omega) (by omega) hD.symm hdig
        rw [hD] at hcv
        have hsum : ¬ D.size > 9223372036854775807 := by
          have e : (⟨#[]⟩ : ByteArray).size = 0 := rfl
          rw [ByteArray.size_append, e] at v3
          omega
        have hb' : Below w.heap.size w (wr.alloc (.cells #[.int .u8 48] 5)) := hb.alloc hb.size _
        have KEEP := Lib.hid (And.intro ((v1.trans (by rw [Nat.zero_mul])).trans hval) (And.intro v2 (And.intro v3 hb')))
        clear hD v1 v2 v3 hb' hdig hval hb hm hsz
        go_wp2_with (fail)
        go_roundw
        case rel =>
          go_light
          obtain ⟨k1, k2, k3, k5⟩ := KEEP.out
          exact ⟨0, D ++ ⟨#[]⟩, by go_num, by first | rfl | simp, k1, k2, by rw [Nat.zero_mul]; decide, by rw [k3]; decide, k5⟩
        case measure =>
          go_light
          obtain ⟨k1, k2, k3, k5⟩ := KEEP.out
          have e : (⟨#[]⟩ : ByteArray).size = 0 := rfl
          have e2 : D.size = 1 := by rw [ByteArray.size_append, e] at k3; omega
          simp [intOf, emptyV, e2]
          first | done | (rw [if_pos rfl]; decide) | exact (by decide : 0 < 1)
      · have hne := str_some (t := s) (fun e => hs0 (by rw [e]; rfl))
        have KEEP := Lib.hid hb
        clear hm hb
        go_wp2_with (fail)
        go_loop [9, 12] (fun v9 v12 => NoughtRel n 16 noughts v9 v12) (fun _ v12 => noughts - (intOf v12).toNat)
        case atStart => exact ⟨0, s, rfl, rfl, hval, hdig, by omega, by omega, by omega⟩
        case round =>
          obtain ⟨i, s, rfl, rfl, hval, hdig, h0, hsz, hi⟩ := hrel
          by_cases hlt : i < noughts
          · have hlz : (i : Int) < (noughts : Int) := by omega
            obtain ⟨v1, v2, v3⟩ := dig_more 16 cap 0 0 s ⟨#[48]⟩ (by omega) (by omega) rfl hdig
            have hsum : ¬ (⟨#[48]⟩ : ByteArray).size + s.size > 9223372036854775807 := by
              rw [← ByteArray.size_append, v3]; omega
            have K2 := Lib.hid (And.intro ((v1.trans (by rw [Nat.zero_mul])).trans hval) (And.intro v2 v3))
            clear v1 v2 v3 hval hdig
            go_wp2_with (fail)
            all_goals try (exfalso; omega)
            go_round
            case rel =>
              go_light
              obtain ⟨k1, k2, k3⟩ := K2.out
              exact ⟨i + 1, ⟨#[48]⟩ ++ s, by go_num, rfl, k1, k2, by rw [k3]; omega, by rw [k3]; omega, by omega⟩
            case measure => simp [intOf]; omega
          · have hlz : ¬ (i : Int) < (noughts : Int) := by omega
            have K2 := Lib.hid (And.intro hval (And.intro hdig (And.intro h0 hsz)))
            clear hval hdig h0 hsz
            go_wp2_with (fail)
            go_ret
            obtain ⟨k1, k2, k3, k4⟩ := K2.out
            exact ⟨⟨s, rfl, k1, k2, k3, by omega⟩, KEEP.out⟩
end Go.Proofs.YtdomhjjoijkeaaaDoor
