/- Proved here: the law CharReads answers true at every slice of bytes and every place, in every world that holds the library's two tables; what was there stays. -/
import Derived.Test.YtiibmpjfkgohpaaDoorAwake
import Derived.Test.YtiibmpjfkgohpaaDoorKit
import Derived.BigGuardPart
namespace Go.Proofs.YtiibmpjfkgohpaaDoor
open Go.RowKit

set_option maxHeartbeats 2000000 in
theorem charReads_out (p : Option Addr) (n cap : Nat) (at_ : Int) (w : World) (hT : Tabs w) (h : at_ < 0 ∨ (n : Int) ≤ at_) :
    Calls Tryd.prog 4 #[.slice p n cap, .int .i64 at_] w fun e w' => e = .returned (.bool true) ∧ Below w.heap.size w w' := by
  have A := Lib.hid (awake_any w hT)
  have C := Lib.hid (fun W => next_out p n cap at_ W h)
  clear hT
  rcases h with h | h
  · go_enter Tryd.func4, Tryd.ntmps4
    go_wp2_with (fail)
    refine A.out.mono ?_
    rintro e W ⟨rfl, hb⟩
    go_wp2_with (fail)
    refine (C.out _).mono ?_
    rintro e W' ⟨rfl, rfl⟩
    go_wp2_with (fail)
    all_goals first | (exfalso; omega) | (go_ret; exact ⟨rfl, hb⟩)
  · by_cases h' : at_ < 0
    · exfalso; omega
    · go_enter Tryd.func4, Tryd.ntmps4
      go_wp2_with (fail)
      refine A.out.mono ?_
      rintro e W ⟨rfl, hb⟩
      go_wp2_with (fail)
      refine (C.out _).mono ?_
      rintro e W' ⟨rfl, rfl⟩
      go_wp2_with (fail)
      all_goals first | (exfalso; omega) | (go_ret; exact ⟨rfl, hb⟩)

set_option maxHeartbeats 2000000 in
set_option maxRecDepth 100000 in
theorem charReads_in (s : ByteArray) (b off cap at_ : Nat) (w : World) (hT : Tabs w) (hs : s.size ≤ 140737488355328) (hcap : s.size ≤ cap) (hat : at_ < s.size) (hp : ∀ j, j < s.size → w.cell? ⟨b, off + j, none⟩ = some (.int .u8 (s.get! j).toNat)) :
    Calls Tryd.prog 4 #[.slice (some ⟨b, off, none⟩) s.size cap, .int .i64 (at_ : Int)] w fun e w' => e = .returned (.bool true) ∧ Below w.heap.size w w' := by
  have A := Lib.hid (awake_any w hT)
  have C := Lib.hid (fun W (h : Below w.heap.size w W) => next_in s b off cap at_ W (hT.below h) hs hcap hat (fun j hj => (hb_cell h (hp j hj))))
  have R := Lib.hid (fun W (h : Below w.heap.size w W) => refRead s b off cap at_ W hs hat (fun j hj => (hb_cell h (hp j hj))))
  have hle := rd_le s at_ hat
  have hbd := rd_bd s at_
  unfold nextF at C
  have hat' : (at_ : Int) < (s.size : Int) := by omega
  clear hT hp
  generalize rd s at_ = d at *
  by_cases h0 : d.2 = 0
  · have h01 : ((d.2 : Int) == 0) = true := by simp [h0]
    rw [if_pos h0] at C
    clear h0
    go_enter Tryd.func4, Tryd.ntmps4
    go_wp2_with (fail)
    refine A.out.mono ?_
    rintro e w1 ⟨rfl, hb1⟩
    go_wp2_with (fail)
    refine (C.out _ hb1).mono ?_
    rintro e w2 ⟨rfl, hb2⟩
    have hb3 := below_cat hb1 hb2
    clear hb1 hb2
    go_wp2_with (fail)
    refine (R.out _ hb3).mono ?_
    rintro e w3 ⟨rfl, rfl⟩
    go_wp2_with (fail)
    go_ret
    exact ⟨rfl, hb3⟩
  · have h01 : ((d.2 : Int) == 0) = false := by simp [h0]
    rw [if_neg h0] at C
    have K := Lib.hid (refChar (d.1 : Int))
    clear h0
    cases hc : charB (d.1 : Int)
    · rw [hc] at C K
      rw [if_neg (by simp)] at C
      clear hc
      go_enter Tryd.func4, Tryd.ntmps4
      go_wp2_with (fail)
      refine A.out.mono ?_
      rintro e w1 ⟨rfl, hb1⟩
      go_wp2_with (fail)
      refine (C.out _ hb1).mono ?_
      rintro e w2 ⟨rfl, hb2⟩
      have hb3 := below_cat hb1 hb2
      clear hb1 hb2
      go_wp2_with (fail)
      refine (R.out _ hb3).mono ?_
      rintro e w3 ⟨rfl, rfl⟩
      go_wp2_with (fail)
      refine (K.out _).mono ?_
      rintro e w4 ⟨rfl, rfl⟩
      go_wp2_with (fail)
      go_ret
      exact ⟨rfl, hb3⟩
    · rw [hc] at C K
      rw [if_pos rfl] at C
      clear hc
      go_enter Tryd.func4, Tryd.ntmps4
      go_wp2_with (fail)
      refine A.out.mono ?_
      rintro e w1 ⟨rfl, hb1⟩
      go_wp2_with (fail)
      refine (C.out _ hb1).mono ?_
      rintro e w2 ⟨rfl, hb2⟩
      have hb3 := below_cat hb1 hb2
      clear hb1 hb2
      go_wp2_with (fail)
      refine (R.out _ hb3).mono ?_
      rintro e w3 ⟨rfl, rfl⟩
      go_wp2_with (fail)
      refine (K.out _).mono ?_
      rintro e w4 ⟨rfl, rfl⟩
      go_wp2_with (fail)
      go_ret
      exact ⟨rfl, hb3⟩

theorem charReads_walk (p : Option Addr) (s : ByteArray) (cap : Nat) (at_ : Int) (w : World) (hT : Tabs w) (hs : s.size ≤ 140737488355328) (hcap : s.size ≤ cap) (hp : HoldsB w p s) :
    Calls Tryd.prog 4 #[.slice p s.size cap, .int .i64 at_] w fun e w' => e = .returned (.bool true) ∧ Below w.heap.size w w' := by
  by_cases h : at_ < 0 ∨ (s.size : Int) ≤ at_
  · exact charReads_out p s.size cap at_ w hT h
  · obtain ⟨b, off, rfl, hc⟩ := hp (by omega)
    obtain ⟨k, rfl⟩ : ∃ k : Nat, at_ = k := ⟨at_.toNat, by omega⟩
    exact charReads_in s b off cap k w hT hs hcap (by omega) hc
end Go.Proofs.YtiibmpjfkgohpaaDoor
