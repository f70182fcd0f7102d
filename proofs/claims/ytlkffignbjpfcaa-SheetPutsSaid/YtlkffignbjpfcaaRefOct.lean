/- Proved here: what the document's sum answers, its numbers in bytes, its bytes filled with noughts, its bytes behind their sum. -/
import Derived.Test.YtlkffignbjpfcaaSheetPage
namespace Go.Proofs.Ytlkffignbjpfcaa
open Go.RowKit

set_option maxRecDepth 100000 in
set_option maxHeartbeats 4000000 in
theorem rsum_any (p : Option Addr) (s : ByteArray) (n c : Nat) (w : World) (hn : s.size = n) (hs : n ≤ 4611686018427387904) (hp : HoldsB w p s) :
    Calls Try.prog 67 #[.slice p n c] w fun e w' => e = .returned (.int .u32 (sumN (bl s) : Nat)) ∧ w = w' := by
  have hn' : (n : Int) ≤ 4611686018427387904 := by omega
  have HN := Lib.hid hn
  clear hn hs
  go_enter Try.func67, Try.ntmps67
  go_wp2_with (fail)
  go_loop [3, 9] (fun a i => ∃ k : Nat, i = .int .i64 (k : Int) ∧ k ≤ n ∧ a = .int .u32 ((sumG 4294967295 ((bl s).take k) : Nat) : Int)) (fun _ i => n - (intOf i).toNat)
  case atStart => exact ⟨0, rfl, Nat.zero_le _, rfl⟩
  case round =>
    obtain ⟨k, rfl, hk, rfl⟩ := hrel
    have hX := sumG_lt ((bl s).take k) (show 4294967295 < 4294967296 by decide)
    have hst : k < n → sumG 4294967295 ((bl s).take (k + 1)) = byteN (sumG 4294967295 ((bl s).take k)) (s.get! k).toNat := fun h => by
      rw [take_more s k (by rw [HN.out]; exact h), sumG_snoc]
    have HE := Lib.hid (show k = n → sumG 4294967295 ((bl s).take k) = sumG 4294967295 (bl s) from fun h => by rw [h, ← HN.out, take_whole])
    have HST := Lib.hid hst
    clear hst
    generalize sumG 4294967295 ((bl s).take k) = X at *
    by_cases hlt : k < n
    · obtain ⟨b, off, rfl, hc⟩ := hp (by rw [HN.out]; omega)
      have hcell := hc k (by rw [HN.out]; exact hlt)
      have hb : (s.get! k).toNat < 256 := UInt8.toNat_lt _
      have hst := HST.out hlt
      clear HST hp hc
      generalize (s.get! k).toNat = y at *
      have hx1 := xor_u32 X y hX (by omega)
      have hY : X ^^^ y < 4294967296 := Nat.xor_lt_two_pow (n := 32) hX (by omega)
      have HS := Lib.hid (show sumG 4294967295 ((bl s).take (k + 1)) = stepsN 8 (X ^^^ y) from hst)
      clear hst
      have hy9 : (y : Int) < 256 := by omega
      go_wp2_with (fail)
      go_loop [3, 6] (fun a i => ∃ j : Nat, i = .int .i64 (j : Int) ∧ j ≤ 8 ∧ a = .int .u32 ((stepsN j (X ^^^ y) : Nat) : Int)) (fun _ i => 8 - (intOf i).toNat)
      case atStart => exact ⟨0, rfl, Nat.zero_le _, rfl⟩
      case round =>
        obtain ⟨j, rfl, hj, rfl⟩ := hrel
        by_cases hlj : j < 8
        · have hZ := stepsN_lt j hY
          have hnx : stepsN (j + 1) (X ^^^ y) = stepN (stepsN j (X ^^^ y)) := rfl
          generalize stepsN j (X ^^^ y) = Z at *
          have e3 : ((Z / 2 : Nat) : Int) = (Z : Int) / 2 := by omega
          by_cases hodd : Z % 2 = 1
          · have a2 := xor_u32 (Z / 2) 3988292384 (by omega) (by omega)
            rw [e3] at a2
            have HX := Lib.hid (show stepsN (j + 1) (X ^^^ y) = (Z / 2) ^^^ 3988292384 by rw [hnx]; unfold stepN; rw [hodd, Nat.one_mul])
            have t1 : ((Z : Int) % 2 == 1) = true := by rw [beq_iff_eq]; omega
            clear hnx e3 hodd
            go_wp2_with (fail)
            go_round
            case rel => exact ⟨j + 1, by go_num, by omega, by rw [HX.out, ← a2]; rfl⟩
            case measure => simp [intOf]; omega
          · have HX := Lib.hid (show stepsN (j + 1) (X ^^^ y) = Z / 2 by rw [hnx]; unfold stepN; rw [show Z % 2 = 0 by omega, Nat.zero_mul, Nat.xor_zero])
            have t1 : ((Z : Int) % 2 == 1) = false := by rw [beq_eq_false_iff_ne]; omega
            clear hnx e3 hodd
            go_wp2_with (fail)
            go_round
            case rel => exact ⟨j + 1, by go_num, by omega, by rw [HX.out]; simp⟩
            case measure => simp [intOf]; omega
        · obtain rfl : j = 8 := by omega
          go_wp2_with (fail)
          go_round
          case rel => exact ⟨k + 1, by go_num, by omega, by rw [HS.out]⟩
          case measure => simp [intOf]; omega
    · obtain rfl : k = n := by omega
      have hq : (4294967295 : Int) - (X : Int) = ((4294967295 - X : Nat) : Int) := by omega
      have HQ := Lib.hid hq
      clear hq
      go_wp2_with (fail)
      go_ret
      refine ⟨?_, by first | rfl | trivial⟩
      unfold sumN
      rw [← HE.out (by first | rfl | trivial), ← HQ.out]
      rfl
/-- A loop's state. -/
def RNumRel (w : World) (v n : Nat) (a x : Value) (wr : World) : Prop := ∃ i : Nat, x = .int .i64 ((n : Int) - 1 - (i : Int)) ∧ a = .int .u64 ((v / 256 ^ i : Nat) : Int) ∧ i ≤ n ∧ Hid (Owns wr w.heap.size w.heap.size n (ofL (numTo v n i)) ∧ Below w.heap.size w wr)
set_option maxRecDepth 100000 in
set_option maxHeartbeats 4000000 in
theorem rnumber_any (v n : Nat) (w : World) (hv : v < 18446744073709551616) (hn0 : 0 < n) (hn : n ≤ 8) :
    Calls Try.prog 44 #[.int .u64 (v : Int), .int .i64 (n : Int)] w fun e w' => ∃ r, e = .returned r ∧ NewB (numL v n) w r w' := by
  obtain ⟨w1, hmk, ho, hb⟩ := make_full w n (by omega)
  have hn' : (n : Int) ≤ 8 := by omega
  have hn1 : (1 : Int) ≤ (n : Int) := by omega
  have HO := Lib.hid (And.intro ho hb)
  clear ho hb
  have HV := Lib.hid hv
  clear hv
  go_enter Try.func44, Try.ntmps44
  go_wp2_with (fail)
  go_loopw [0, 6] (fun a x wr => RNumRel w v n a x wr) (fun _ x _ => (intOf x + 1).toNat)
  case atStart => exact ⟨0, by simp, by simp, Nat.zero_le _, Lib.hid ⟨by
    have h := HO.out.1
    show Owns _ _ _ _ (ofL (zL (n - 0) ++ []))
    rw [List.append_nil]
    exact h, HO.out.2⟩⟩
  case round =>
    obtain ⟨i, rfl, rfl, hi, HR⟩ := hrel
    have hi9 : (i : Int) ≤ (n : Int) := by omega
    by_cases hlt : i < n
    · have hlt9 : (i : Int) < (n : Int) := by omega
      have hf : wr.frozen? ⟨w.heap.size, n - 1 - i, none⟩ = false := by
        have := HR.out.1.1
        rw [ofL_size, numTo_length v n i hi] at this
        exact World.ownsRow.frozenAt this _
      have hc : ∃ u, wr.cell? ⟨w.heap.size, n - 1 - i, none⟩ = some u := by
        obtain ⟨b, off, e, hc⟩ := HR.out.1.holds (by rw [ofL_size, numTo_length v n i hi]; omega)
        cases e
        exact ⟨_, by have := hc (n - 1 - i) (by rw [ofL_size, numTo_length v n i hi]; omega); rwa [Nat.zero_add] at this⟩
      obtain ⟨u, hc⟩ := hc
      have hput := HR.out.1.put (t := ofL (numTo v n (i + 1))) (n - 1 - i) (UInt8.ofNat (v / 256 ^ i)) (by rw [bl_ofL, bl_ofL, numTo_more v n i hlt])
      have hy : (((UInt8.ofNat (v / 256 ^ i)).toNat : Nat) : Int) = ((v / 256 ^ i : Nat) : Int) % 256 := by rw [ofNat_toNat8]; omega
      have hnx : v / 256 ^ (i + 1) = v / 256 ^ i / 256 := by rw [Nat.pow_succ, Nat.div_div_eq_div_mul]
      rw [hy] at hput
      have HP := Lib.hid (And.intro hput (And.intro (below_put HR.out.2 (Nat.le_refl _) (n - 1 - i) (.int .u8 (((v / 256 ^ i : Nat) : Int) % 256))) hnx))
      have HQ := Lib.hid (show v / 256 ^ i < 18446744073709551616 from Nat.lt_of_le_of_lt (Nat.div_le_self _ _) HV.out)
      clear hput hy hnx
      generalize v / 256 ^ i = y at *
      go_wp2_with (fail)
      go_roundw
      case rel => exact ⟨i + 1, by go_num, by have := HQ.out; rw [HP.out.2.2]; congr 1; first | (rw [IntKind.wrap_u64]; omega) | omega, by omega, Lib.hid ⟨HP.out.1, HP.out.2.1⟩⟩
      case measure => simp [intOf]; omega
    · obtain rfl : i = n := by omega
      go_wp2_with (fail)
      go_ret
      refine ⟨_, rfl, w.heap.size, i, ?_, ?_, HR.out.2⟩
      · rw [numL_length]; rfl
      · have h := HR.out.1
        unfold numTo at h
        rw [Nat.sub_self] at h
        exact h
def fillTo (s : ByteArray) (n k : Nat) : List UInt8 := (bl s).take k ++ zL (n - k)
theorem fillTo_length (s : ByteArray) (n k : Nat) (h : k ≤ s.size) (hn : s.size ≤ n) : (fillTo s n k).length = n := by
  unfold fillTo zL
  rw [List.length_append, List.length_take, List.length_replicate, bl_length]; omega
theorem fillTo_more (s : ByteArray) (n k : Nat) (h : k < s.size) (hn : s.size ≤ n) : (fillTo s n k).set k (s.get! k) = fillTo s n (k + 1) := by
  unfold fillTo
  have hk : ((bl s).take k).length = k := by rw [List.length_take, bl_length]; omega
  rw [show n - k = (n - (k + 1)) + 1 by omega]
  unfold zL
  rw [List.replicate_succ, set_mid _ _ _ _ _ hk, take_more s k h, List.append_assoc, List.singleton_append]
def FillRel (w : World) (s : ByteArray) (n : Nat) (x : Value) (wr : World) : Prop := ∃ k : Nat, x = .int .i64 (k : Int) ∧ k ≤ s.size ∧ Hid (Owns wr w.heap.size w.heap.size n (ofL (fillTo s n k)) ∧ Below w.heap.size w wr)
set_option maxRecDepth 100000 in
set_option maxHeartbeats 4000000 in
theorem fill_any (p : Option Addr) (s : ByteArray) (m c n : Nat) (w : World) (hm : s.size = m) (hmn : m ≤ n) (hn : n ≤ 1048576) (hp : HoldsB w p s) :
    Calls Try.prog 46 #[.slice p m c, .int .i64 (n : Int)] w fun e w' => ∃ r, e = .returned r ∧ NewB (fillL (bl s) n) w r w' := by
  obtain ⟨w1, hmk, ho, hb⟩ := make_full w n hn
  have hn' : (n : Int) ≤ 1048576 := by omega
  have hn0 : (0 : Int) ≤ (n : Int) := by omega
  have hmn9 : (m : Int) ≤ (n : Int) := by omega
  have HO := Lib.hid (And.intro ho hb)
  have HM := Lib.hid hm
  clear ho hb hm
  go_enter Try.func46, Try.ntmps46
  go_wp2_with (fail)
  go_loopw [11] (fun x wr => FillRel w s n x wr) (fun x _ => m - (intOf x).toNat)
  case atStart => exact ⟨0, rfl, Nat.zero_le _, Lib.hid ⟨HO.out.1, HO.out.2⟩⟩
  case round =>
    obtain ⟨k, rfl, hk, HR⟩ := hrel
    rw [HM.out] at hk
    by_cases hlt : k < m
    · obtain ⟨b, off, rfl, hc⟩ := hp (by rw [HM.out]; omega)
      have hlt9 : (k : Int) < (n : Int) := by omega
      have hld : wr.cell? ⟨b, off + k, none⟩ = some (.int .u8 ((s.get! k).toNat : Int)) := hb_cell HR.out.2 (hc k (by rw [HM.out]; exact hlt))
      have hL := fillTo_length s n k (by rw [HM.out]; exact hk) (by rw [HM.out]; exact hmn)
      have hf : wr.frozen? ⟨w.heap.size, k, none⟩ = false := by
        have := HR.out.1.1
        rw [ofL_size, hL] at this
        exact World.ownsRow.frozenAt this _
      have hcl : ∃ u, wr.cell? ⟨w.heap.size, k, none⟩ = some u := by
        obtain ⟨b, off, e, hc⟩ := HR.out.1.holds (by rw [ofL_size, hL]; omega)
        cases e
        exact ⟨_, by have := hc k (by rw [ofL_size, hL]; omega); rwa [Nat.zero_add] at this⟩
      obtain ⟨u, hcl⟩ := hcl
      have hput := HR.out.1.put (t := ofL (fillTo s n (k + 1))) k (s.get! k) (by rw [bl_ofL, bl_ofL, fillTo_more s n k (by rw [HM.out]; exact hlt) (by rw [HM.out]; exact hmn)])
      have HP := Lib.hid (And.intro hput (below_put HR.out.2 (Nat.le_refl _) k (.int .u8 ((s.get! k).toNat : Int))))
      clear hput hc hL hp
      generalize ((s.get! k).toNat : Int) = y at *
      go_wp2_with (fail)
      go_roundw
      case rel => exact ⟨k + 1, by go_num, by rw [HM.out]; omega, Lib.hid HP.out⟩
      case measure => simp [intOf]; omega
    · obtain rfl : k = m := by omega
      go_wp2_with (fail)
      go_ret
      have hl : (fillL (bl s) n).length = n := fillL_length (by rw [bl_length, HM.out]; exact hmn)
      refine ⟨_, rfl, w.heap.size, n, ?_, ?_, HR.out.2⟩
      · rw [hl]; rfl
      · have h := HR.out.1
        have e : fillTo s n k = fillL (bl s) n := by
          unfold fillTo fillL
          rw [List.take_of_length_le (by rw [bl_length, HM.out]; exact Nat.le_refl _), bl_length, HM.out]
        rwa [e] at h
set_option maxRecDepth 100000 in
set_option maxHeartbeats 4000000 in
theorem value_any (p : Option Addr) (s : ByteArray) (n c : Nat) (w : World) (hn : s.size = n) (hs : n ≤ 6) (hp : HoldsB w p s) :
    Calls Try.prog 49 #[.slice p n c] w fun e w' => e = .returned (.int .i64 (valN (bl s) : Nat)) ∧ w = w' := by
  have hn' : (n : Int) ≤ 6 := by omega
  have HN := Lib.hid hn
  have HL := Lib.hid (show ∀ k, k < n → valG 0 ((bl s).take k) < 1099511627776 from fun k hk => by
    have h1 := valG_lt ((bl s).take k)
    have h2 : ((bl s).take k).length ≤ 5 := by rw [List.length_take]; omega
    have h3 : 256 ^ ((bl s).take k).length ≤ 256 ^ 5 := Nat.pow_le_pow_right (by decide) h2
    have h4 : (256 : Nat) ^ 5 = 1099511627776 := by decide
    omega)
  clear hn hs
  go_enter Try.func49, Try.ntmps49
  go_wp2_with (fail)
  go_loop [3, 8] (fun a i => ∃ k : Nat, i = .int .i64 (k : Int) ∧ k ≤ n ∧ a = .int .i64 ((valG 0 ((bl s).take k) : Nat) : Int)) (fun _ i => n - (intOf i).toNat)
  case atStart => exact ⟨0, rfl, Nat.zero_le _, rfl⟩
  case round =>
    obtain ⟨k, rfl, hk, rfl⟩ := hrel
    have HST := Lib.hid (show k < n → valG 0 ((bl s).take (k + 1)) = 256 * valG 0 ((bl s).take k) + (s.get! k).toNat from fun h => by
      rw [take_more s k (by rw [HN.out]; exact h), valG_snoc, Nat.mul_comm])
    have HE := Lib.hid (show k = n → valG 0 ((bl s).take k) = valN (bl s) from fun h => by rw [h, ← HN.out, take_whole]; rfl)
    have HLK := Lib.hid (HL.out k)
    generalize valG 0 ((bl s).take k) = X at *
    by_cases hlt : k < n
    · obtain ⟨b, off, rfl, hc⟩ := hp (by rw [HN.out]; omega)
      have hcell := hc k (by rw [HN.out]; exact hlt)
      have hb : (s.get! k).toNat < 256 := UInt8.toNat_lt _
      have hst := HST.out hlt
      have hX := HLK.out hlt
      clear HST hp hc HLK HL
      generalize (s.get! k).toNat = y at *
      have hX9 : (X : Int) < 1099511627776 := by omega
      have hy9 : (y : Int) < 256 := by omega
      have HS := Lib.hid hst
      clear hst
      go_wp2_with (fail)
      go_round
      case rel => exact ⟨k + 1, by go_num, by omega, by rw [HS.out]; simp⟩
      case measure => simp [intOf]; omega
    · obtain rfl : k = n := by omega
      go_wp2_with (fail)
      go_ret
      exact ⟨by rw [← HE.out (by first | rfl | trivial)]; rfl, by first | rfl | trivial⟩
set_option maxRecDepth 100000 in
set_option maxHeartbeats 4000000 in
theorem wide_any (p : Option Addr) (s : ByteArray) (n c : Nat) (w : World) (hn : s.size = n) (hs : n ≤ 8) (hp : HoldsB w p s) :
    Calls Try.prog 50 #[.slice p n c] w fun e w' => e = .returned (.int .u64 (valN (bl s) : Nat)) ∧ w = w' := by
  have hn' : (n : Int) ≤ 8 := by omega
  have HN := Lib.hid hn
  have HL := Lib.hid (show ∀ k, k < n → valG 0 ((bl s).take k) < 72057594037927936 from fun k hk => by
    have h1 := valG_lt ((bl s).take k)
    have h2 : ((bl s).take k).length ≤ 7 := by rw [List.length_take]; omega
    have h3 : 256 ^ ((bl s).take k).length ≤ 256 ^ 7 := Nat.pow_le_pow_right (by decide) h2
    have h4 : (256 : Nat) ^ 7 = 72057594037927936 := by decide
    omega)
  clear hn hs
  go_enter Try.func50, Try.ntmps50
  go_wp2_with (fail)
  go_loop [3, 8] (fun a i => ∃ k : Nat, i = .int .i64 (k : Int) ∧ k ≤ n ∧ a = .int .u64 ((valG 0 ((bl s).take k) : Nat) : Int)) (fun _ i => n - (intOf i).toNat)
  case atStart => exact ⟨0, rfl, Nat.zero_le _, rfl⟩
  case round =>
    obtain ⟨k, rfl, hk, rfl⟩ := hrel
    have HST := Lib.hid (show k < n → valG 0 ((bl s).take (k + 1)) = 256 * valG 0 ((bl s).take k) + (s.get! k).toNat from fun h => by
      rw [take_more s k (by rw [HN.out]; exact h), valG_snoc, Nat.mul_comm])
    have HE := Lib.hid (show k = n → valG 0 ((bl s).take k) = valN (bl s) from fun h => by rw [h, ← HN.out, take_whole]; rfl)
    have HLK := Lib.hid (HL.out k)
    generalize valG 0 ((bl s).take k) = X at *
    by_cases hlt : k < n
    · obtain ⟨b, off, rfl, hc⟩ := hp (by rw [HN.out]; omega)
      have hcell := hc k (by rw [HN.out]; exact hlt)
      have hb : (s.get! k).toNat < 256 := UInt8.toNat_lt _
      have hst := HST.out hlt
      have hX := HLK.out hlt
      clear HST hp hc HLK HL
      generalize (s.get! k).toNat = y at *
      have hX9 : (X : Int) < 72057594037927936 := by omega
      have hy9 : (y : Int) < 256 := by omega
      have HS := Lib.hid hst
      clear hst
      go_wp2_with (fail)
      go_round
      case rel => exact ⟨k + 1, by go_num, by omega, by rw [HS.out]; simp⟩
      case measure => simp [intOf]; omega
    · obtain rfl : k = n := by omega
      go_wp2_with (fail)
      go_ret
      exact ⟨by rw [← HE.out (by first | rfl | trivial)]; rfl, by first | rfl | trivial⟩
set_option maxRecDepth 100000 in
set_option maxHeartbeats 2000000 in
theorem rseal_any (p : Option Addr) (s : ByteArray) (n c : Nat) (w : World) (hn : s.size = n) (hs : n ≤ 1000000) (hp : HoldsB w p s) (hnil : p = none → c = 0) :
    Calls Try.prog 45 #[.slice p n c] w fun e w' => ∃ r, e = .returned r ∧ NewB (sealL (bl s)) w r w' := by
  have SM := Lib.hid (rsum_any p s n c w hn (by omega) hp)
  have hb32 := sumN_lt (bl s)
  have OC := Lib.hid (rnumber_any (sumN (bl s)) 4 w (by omega) (by omega) (by omega))
  have HH := Lib.hid (And.intro hp (And.intro hnil (And.intro hn hs)))
  have hi : ((sumN (bl s) : Nat) : Int) < 4294967296 := by omega
  obtain ⟨S, hS⟩ : ∃ S, sumN (bl s) = S := ⟨_, rfl⟩
  rw [hS] at SM OC hi
  have HS := Lib.hid hS
  clear hp hnil hn hs hS hb32
  go_enter Try.func45, Try.ntmps45
  go_wp2_with (fail)
  refine SM.out.mono ?_
  rintro e w' ⟨rfl, rfl⟩
  go_wp2_with (fail)
  refine OC.out.mono ?_
  rintro e W1 ⟨r, rfl, g, cap, rfl, ho, hb⟩
  obtain ⟨g2, k2, w2, hrun, ho2, hb2⟩ := append_next (c := c) ho hb (HH.out.1.below hb) HH.out.2.1 (by rw [ofL_size, numL_length, HH.out.2.2.1]; have := HH.out.2.2.2; omega)
  rw [ofL_size, numL_length, HH.out.2.2.1] at hrun
  have HR := Lib.hid hrun
  have H2 := Lib.hid (And.intro ho2 hb2)
  clear ho hb hrun ho2 hb2 SM OC
  go_wp2_with (at_builtin; refine wpList_append_eq rfl _ _ _ rfl _ _ _ _ rfl rfl HR.out ?_)
  go_ret
  have e : ofL (numL S 4) ++ s = ofL (sealL (bl s)) := by
    unfold sealL
    rw [HS.out, ofL_append, ofL_bl]
  have h := H2.out
  rw [e] at h
  refine ⟨_, rfl, g2, k2, ?_, h.1, h.2⟩
  rw [sealL_length, bl_length, HH.out.2.2.1, Nat.add_comm]
  rfl
end Go.Proofs.Ytlkffignbjpfcaa
