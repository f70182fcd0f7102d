/- Proved here: what the program's numbers in bytes, and its bytes of numbers, answer. -/
import Derived.Test.YtlkffignbjpfcaaOctet
namespace Go.Proofs.Ytlkffignbjpfcaa
open Go.RowKit

/-- What is new memory that holds just these bytes. -/
def NewB (l : List UInt8) (w : World) (v : Value) (w' : World) : Prop := ∃ g cap, v = .slice (some ⟨g, 0, none⟩) l.length cap ∧ Owns w' w.heap.size g cap (ofL l) ∧ Below w.heap.size w w'

set_option maxRecDepth 100000 in
set_option maxHeartbeats 4000000 in
theorem number_any (p : Option Addr) (s : ByteArray) (n c : Nat) (w : World) (hn : s.size = n) (hs : n ≤ 8) (hp : HoldsB w p s) :
    Calls Try.prog 65 #[.slice p n c] w fun e w' => e = .returned (.int .u64 (valN (bl s) : Nat)) ∧ w = w' := by
  have hn' : (n : Int) ≤ 8 := by omega
  have HN := Lib.hid hn
  have hlt' : ∀ k, k < n → valG 0 ((bl s).take k) < 72057594037927936 := fun k hk => by
    have h1 := valG_lt ((bl s).take k)
    have h2 : ((bl s).take k).length ≤ 7 := by rw [List.length_take]; omega
    have h3 : 256 ^ ((bl s).take k).length ≤ 256 ^ 7 := Nat.pow_le_pow_right (by decide) h2
    have h4 : (256 : Nat) ^ 7 = 72057594037927936 := by decide
    omega
  have HL := Lib.hid hlt'
  clear hn hs hlt'
  go_enter Try.func65, Try.ntmps65
  go_wp2_with (fail)
  go_loop [3, 7] (fun a i => ∃ k : Nat, i = .int .i64 (k : Int) ∧ k ≤ n ∧ a = .int .u64 ((valG 0 ((bl s).take k) : Nat) : Int)) (fun _ i => n - (intOf i).toNat)
  case atStart => exact ⟨0, rfl, Nat.zero_le _, rfl⟩
  case round =>
    obtain ⟨k, rfl, hk, rfl⟩ := hrel
    have HST := Lib.hid (show k < n → valG 0 ((bl s).take (k + 1)) = valG 0 ((bl s).take k) * 256 + (s.get! k).toNat from fun h => by
      rw [take_more s k (by rw [HN.out]; exact h), valG_snoc])
    have HE := Lib.hid (show k = n → valG 0 ((bl s).take k) = valN (bl s) from fun h => by rw [h, ← HN.out, take_whole]; rfl)
    have HLK := Lib.hid (HL.out k)
    generalize valG 0 ((bl s).take k) = X at *
    by_cases hlt : k < n
    · obtain ⟨b, off, rfl, hc⟩ := hp (by rw [HN.out]; omega)
      have hcell := hc k (by rw [HN.out]; exact hlt)
      have hb : (s.get! k).toNat < 256 := UInt8.toNat_lt _
      have hst := HST.out hlt
      have hX := HLK.out hlt
      clear HST hp hc HLK HL
      generalize (s.get! k).toNat = y at *
      have hx1 := or_u64 X y hX hb
      have hX9 : (X : Int) < 72057594037927936 := by omega
      have hX0 : (0 : Int) ≤ (X : Int) := by omega
      have HS := Lib.hid hst
      clear hst
      go_wp2_with (fail)
      go_round
      case rel => exact ⟨k + 1, by go_num, by omega, by rw [HS.out]; simp⟩
      case measure => simp [intOf]; omega
    · obtain rfl : k = n := by omega
      go_wp2_with (fail)
      go_ret
      exact ⟨by rw [← HE.out (by first | rfl | trivial)]; rfl, by first | rfl | trivial⟩
theorem set_mid {α : Type} (a b : List α) (x y : α) (k : Nat) (h : a.length = k) : (a ++ x :: b).set k y = a ++ y :: b := by
  subst h
  simp
theorem bytesV_ofL (l : List UInt8) : bytesV (ofL l) = l.map fun b => Value.int .u8 (b.toNat : Int) := by simp [bytesV, ofL]
/-- A byte is stored where nothing stands yet. -/
theorem Owns.put {w : World} {B g cap : Nat} {s t : ByteArray} (h : Owns w B g cap s) (k : Nat) (x : UInt8) (ht : bl t = (bl s).set k x) : Owns (w.setCell ⟨g, k, none⟩ (.int .u8 (x.toNat : Int))) B g cap t := by
  have hz : t.size = s.size := by rw [← bl_length, ht, List.length_set, bl_length]
  have h1 := (World.ownsRow.stored h.1 k (.int .u8 (x.toNat : Int))).1
  have e : (bytesV s).set k (.int .u8 (x.toNat : Int)) = bytesV t := by
    show (List.map _ (bl s)).set k _ = List.map _ (bl t)
    rw [ht, List.map_set]
  rw [e, ← hz] at h1
  exact ⟨h1, h.2.1, by show g < (w.heap.modify _ _).size; simpa using h.2.2.1, by rw [hz]; exact h.2.2.2⟩
theorem below_put {w W : World} {B g : Nat} (h : Below B w W) (hg : B ≤ g) (k : Nat) (v : Value) : Below B w (W.setCell ⟨g, k, none⟩ v) := h.setCell hg _
theorem make_full (w : World) (n : Nat) (hn : n ≤ 1048576) : ∃ w1, (Instr.makeSlice 33 (.int .i64 (n : Int)) (.int .i64 (n : Int))).run Try.prog w = .ok (.slice (some ⟨w.heap.size, 0, none⟩) n n) w1 ∧ Owns w1 w.heap.size w.heap.size n (ofL (zL n)) ∧ Below w.heap.size w w1 := by
  obtain ⟨i0, hi, hz0, hz1, hz2⟩ := info_parts infoByte
  obtain ⟨w1, h1, h2, h3⟩ := run_make_full (P := Try.prog) (w := w) w.heap.size 33 5 i0 (.int .u8 0) 1 Try.underlying33 hi hz0 hz1 .i64 .i64 n (by rw [hz2]; omega) (by unfold maxLen; omega) (Nat.le_refl _)
  have e : (madeCells (Value.int .u8 0).cells (n * 1)).toList = bytesV (ofL (zL n)) := by
    rw [Nat.mul_one, bytesV_ofL]
    exact (toList_madeCells_one _ _).trans (by simp [zL])
  have hz : (ofL (zL n)).size = n := by rw [ofL_size]; simp [zL]
  rw [e] at h2
  refine ⟨w1, h1, ⟨by rw [hz]; exact h2, Nat.le_refl _, (h2.lt w.heap.size rfl).2, by rw [hz]; exact Nat.le_refl _⟩, ⟨h3.os, h3.tape, h3.output, h3.size, fun k hk => h3.block k hk (by simp)⟩⟩
theorem pow_shift (v i : Nat) : ((v : Int) / 2 ^ (8 * i) % 256) = (((UInt8.ofNat (v / 256 ^ i)).toNat : Nat) : Int) := by
  have e : (2 : Nat) ^ (8 * i) = 256 ^ i := by rw [Nat.pow_mul]
  rw [ofNat_toNat8, ← e]
  simp
/-- What stands behind i rounds. -/
def numTo (v n i : Nat) : List UInt8 := zL (n - i) ++ numL v i
theorem numTo_length (v n i : Nat) (h : i ≤ n) : (numTo v n i).length = n := by simp [numTo, zL, numL_length]; omega
theorem numTo_more (v n i : Nat) (h : i < n) : (numTo v n i).set (n - 1 - i) (UInt8.ofNat (v / 256 ^ i)) = numTo v n (i + 1) := by
  unfold numTo
  rw [show n - i = (n - 1 - i) + 1 by omega]
  unfold zL
  rw [List.replicate_succ', List.append_assoc, List.singleton_append, set_mid _ _ _ _ _ List.length_replicate, show n - (i + 1) = n - 1 - i by omega]
  rfl
/-- A loop's state. -/
def NumRel (w : World) (v n : Nat) (x : Value) (wr : World) : Prop := ∃ i : Nat, x = .int .i64 (i : Int) ∧ i ≤ n ∧ Hid (Owns wr w.heap.size w.heap.size n (ofL (numTo v n i)) ∧ Below w.heap.size w wr)
set_option maxRecDepth 100000 in
set_option maxHeartbeats 4000000 in
theorem octets_any (v n : Nat) (w : World) (hv : v < 18446744073709551616) (hn : n ≤ 8) :
    Calls Try.prog 62 #[.int .u64 (v : Int), .int .i64 (n : Int)] w fun e w' => ∃ r, e = .returned r ∧ NewB (numL v n) w r w' := by
  obtain ⟨w1, hmk, ho, hb⟩ := make_full w n (by omega)
  have hn' : (n : Int) ≤ 8 := by omega
  have hn0 : (0 : Int) ≤ (n : Int) := by omega
  have HO := Lib.hid (And.intro ho hb)
  clear ho hb
  have hv' : (v : Int) < 18446744073709551616 := by omega
  have hv0 : (0 : Int) ≤ (v : Int) := by omega
  have hmx : max (n : Int) 0 = (n : Int) := by omega
  go_enter Try.func62, Try.ntmps62
  go_wp2_with (fail)
  go_loopw [12] (fun x wr => NumRel w v n x wr) (fun x _ => n - (intOf x).toNat)
  case atStart => exact ⟨0, rfl, Nat.zero_le _, Lib.hid ⟨by
    have h := HO.out.1
    show Owns _ _ _ _ (ofL (zL (n - 0) ++ []))
    rw [List.append_nil]
    exact h, HO.out.2⟩⟩
  case round =>
    obtain ⟨i, rfl, hi, HR⟩ := hrel
    have hi9 : (i : Int) ≤ (n : Int) := by omega
    by_cases hlt : i < n
    · have hsh := pow_shift v i
      have hlt9 : (i : Int) < (n : Int) := by omega
      have hf : wr.frozen? ⟨w.heap.size, n - 1 - i, none⟩ = false := by
        have := HR.out.1.1
        rw [ofL_size, numTo_length v n i hi] at this
        exact World.ownsRow.frozenAt this _
      have hc : ∃ u, wr.cell? ⟨w.heap.size, n - 1 - i, none⟩ = some u := by
        obtain ⟨b, off, e, hc⟩ := HR.out.1.holds (by rw [ofL_size, numTo_length v n i hi]; omega)
        cases e
        exact ⟨_, by have := hc (n - 1 - i) (by rw [ofL_size, numTo_length v n i hi]; omega); rwa [Nat.zero_add] at this⟩
      obtain ⟨u, hc⟩ := hc
      have hput := HR.out.1.put (t := ofL (numTo v n (i + 1))) (n - 1 - i) (UInt8.ofNat (v / 256 ^ i)) (by rw [bl_ofL, bl_ofL, numTo_more v n i hlt])
      have HP := Lib.hid (And.intro hput (below_put HR.out.2 (Nat.le_refl _) (n - 1 - i) (.int .u8 ((UInt8.ofNat (v / 256 ^ i)).toNat : Int))))
      clear hput
      generalize ((UInt8.ofNat (v / 256 ^ i)).toNat : Int) = y at *
      go_wp2_with (fail)
      go_roundw
      case rel => exact ⟨i + 1, by go_num, by omega, Lib.hid HP.out⟩
      case measure => simp [intOf]; omega
    · obtain rfl : i = n := by omega
      go_wp2_with (fail)
      go_ret
      refine ⟨_, rfl, w.heap.size, i, ?_, ?_, HR.out.2⟩
      · rw [numL_length]; rfl
      · have h := HR.out.1
        unfold numTo at h
        rw [Nat.sub_self] at h
        exact h
end Go.Proofs.Ytlkffignbjpfcaa
