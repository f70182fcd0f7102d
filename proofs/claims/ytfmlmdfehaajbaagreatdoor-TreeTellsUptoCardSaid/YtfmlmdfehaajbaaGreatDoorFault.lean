/- Proved here: char.Fault answers faultF (the first place that is no char, and why) of every slice of bytes; what was there stays. -/
import Derived.Test.YtfmlmdfehaajbaaGreatDoorKit
import Derived.Lib.ConvBytes
import Derived.Lib.SmallJoins
import Derived.Laws.AppendOwn
import Derived.Test.YtfmlmdfehaajbaaGreatDoorFaultPlain
import Derived.BigGuardPart
namespace Go.Proofs.YtfmlmdfehaajbaaGreatDoor
open Go.RowKit

/-- '[]byte(s)': a new row that holds the bytes. -/
theorem bytes_of (w : World) (s : ByteArray) : ∃ (cap : Nat) (W : World), (convert 9 102 (.string s)).run Tryz.prog w = .ok (.slice (some ⟨w.heap.size, 0, none⟩) s.size cap) W ∧ s.size ≤ cap ∧ Below w.heap.size w W ∧ W.heap.size = w.heap.size + 1 ∧
    ∀ j, j < s.size → W.cell? ⟨w.heap.size, 0 + j, none⟩ = some (.int .u8 (s.get! j).toNat) := by
  refine ⟨_, _, Lib.run_convert_string_bytes w 9 102 5 s Tryz.underlying9 Tryz.underlying102 Tryz.underlying5, grownCap_ge _ _ _ _, Joins.below_bytesWorld _ w _ s (Nat.le_refl _), Lib.bytesWorld_size w _ s, fun j hj => ?_⟩
  rw [Nat.zero_add, Lib.bytesWorld_cell w _ s j hj]
  have e : s.data.toList.getD j 0 = s.get! j := by
    show _ = s.data[j]!
    rw [getElem!_pos s.data j hj]
    simp [List.getD, Array.getElem?_eq_getElem (show j < s.data.size from hj)]
  rw [e]

end Go.Proofs.YtfmlmdfehaajbaaGreatDoor
namespace Go.Proofs.YtfmlmdfehaajbaaGreatDoor
open Go.RowKit

theorem below_cat' {a b c : World} (h : Below a.heap.size a b) (k : Below b.heap.size b c) : Below a.heap.size a c := h.trans (k.mono h.size)
def FaultRel (s : ByteArray) (w : World) (ANS : Nat × Nat) (i : Value) (wr : World) : Prop := ∃ pos b : Nat, i = .int .i64 pos ∧ Below w.heap.size w wr ∧ faultGo s b pos = ANS ∧ s.size ≤ pos + b ∧ pos ≤ s.size

theorem ret_ff {k l : IntKind} {a c : Nat × Nat} (h : a = c) : Ending.returned (.tuple #[.int k (a.1 : Int), .int l (a.2 : Int)]) = .returned (.tuple #[.int k (c.1 : Int), .int l (c.2 : Int)]) := by rw [h]

set_option maxHeartbeats 2000000 in
theorem fault_some (s : ByteArray) (b off cap : Nat) (w : World) (hT : Tabs w) (hs : s.size ≤ 140737488355328) (hcap : s.size ≤ cap) (hp : ∀ j, j < s.size → w.cell? ⟨b, off + j, none⟩ = some (.int .u8 (s.get! j).toNat)) :
    Calls Tryz.prog 89 #[.slice (some ⟨b, off, none⟩) s.size cap] w fun e w' => e = .returned (.tuple #[.int .i64 ((faultF s).1 : Int), .int .i64 ((faultF s).2 : Int)]) ∧ Below w.heap.size w w' := by
  obtain ⟨ANS, hA⟩ : ∃ ANS, faultF s = ANS := ⟨_, rfl⟩
  rw [hA]
  have HA := Lib.hid hA
  have HT := Lib.hid hT
  have HP := Lib.hid hp
  clear hA hT hp
  go_enter Tryz.func89, Tryz.ntmps89
  go_wp2_with (fail)
  go_loopw [4] (fun i wr => FaultRel s w ANS i wr) (fun i _ => s.size - (intOf i).toNat)
  case atStart => exact ⟨0, s.size, rfl, Below.refl _ _, HA.out, by omega, by omega⟩
  case round =>
    obtain ⟨pos, k, rfl, hb, hgo, hb1, hb2⟩ := hrel
    by_cases hpos : pos < s.size
    · obtain ⟨k, rfl⟩ : ∃ k', k = k' + 1 := ⟨k - 1, by omega⟩
      have C := Lib.hid (next_in s b off cap pos wr (HT.out.below hb) hs hcap hpos (fun j hj => hb_cell hb (HP.out j hj)))
      have hle := rd_le s pos hpos
      have hbd := rd_bd s pos
      have G := Lib.hid hgo
      clear hgo
      by_cases h0 : (rd s pos).2 = 0
      · rw [faultGo_bad s k pos hpos h0] at G
        unfold nextF at C
        rw [if_pos h0] at C
        clear h0 hle hbd
        go_wp2_with (fail)
        refine C.out.mono ?_
        rintro e w1 ⟨rfl, hb3⟩
        go_wp2_with (fail)
        go_ret2
        exact ⟨ret_ff G.out, below_cat' hb hb3⟩
      · unfold nextF at C
        rw [if_neg h0] at C
        cases hc : charB ((rd s pos).1 : Int)
        · rw [faultGo_no s k pos hpos h0 hc] at G
          rw [hc, if_neg (by simp)] at C
          clear h0 hle hbd hc
          go_wp2_with (fail)
          refine C.out.mono ?_
          rintro e w1 ⟨rfl, hb3⟩
          go_wp2_with (fail)
          go_ret2
          exact ⟨ret_ff G.out, below_cat' hb hb3⟩
        · rw [faultGo_step s k pos hpos h0 hc] at G
          rw [hc, if_pos rfl] at C
          clear hc
          generalize rd s pos = d at *
          go_wp2_with (fail)
          refine C.out.mono ?_
          rintro e w1 ⟨rfl, hb3⟩
          have hB := below_cat' hb hb3
          clear hb3
          go_wp2_with (fail)
          go_roundw
          case rel =>
            go_light
            exact ⟨pos + d.2, k, by go_num, hB, G.out, by omega, hle⟩
          case measure => simp [intOf]; omega
    · have G := Lib.hid ((faultGo_end s k pos hpos).symm.trans hgo)
      clear hgo
      go_wp2_with (fail)
      go_ret2
      exact ⟨ret_ff G.out, hb⟩

theorem fault_any (p : Option Addr) (s : ByteArray) (cap : Nat) (w : World) (hT : Tabs w) (hs : s.size ≤ 140737488355328) (hcap : s.size ≤ cap) (hp : HoldsB w p s) :
    Calls Tryz.prog 89 #[.slice p s.size cap] w fun e w' => e = .returned (.tuple #[.int .i64 ((faultF s).1 : Int), .int .i64 ((faultF s).2 : Int)]) ∧ Below w.heap.size w w' := by
  by_cases h0 : 0 < s.size
  · obtain ⟨b, off, rfl, hc⟩ := hp h0
    exact fault_some s b off cap w hT hs hcap hc
  · have hf : faultF s = (0, 0) := by unfold faultF; rw [faultGo_end s _ 0 h0]
    have hz : s.size = 0 := by omega
    rw [hf, hz]
    clear hf hp
    go_enter Tryz.func89, Tryz.ntmps89
    go_wp2_with (fail)
    go_loop [4] (fun i => i = .int .i64 0) (fun _ => 0)
    case atStart => rfl
    case round =>
      subst hrel
      go_wp2_with (fail)
      go_ret2
      exact ⟨rfl, Below.refl _ _⟩
end Go.Proofs.YtfmlmdfehaajbaaGreatDoor
