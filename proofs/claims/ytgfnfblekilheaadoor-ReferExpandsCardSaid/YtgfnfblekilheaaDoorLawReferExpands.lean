/- Proved here: the law ReferExpands answers true at every slice of bytes of less than 2^47 bytes and every number, in every world that holds the library's two tables and refer's table of names; what was there stays. -/
import Derived.Test.YtgfnfblekilheaaDoorAwake2
import Derived.Test.YtgfnfblekilheaaDoorRefExp
import Derived.Test.YtgfnfblekilheaaDoorExpand
namespace Go.Proofs.YtgfnfblekilheaaDoor
open Go.RowKit

theorem numOut_bd (s : ByteArray) (first : Nat) (r : Nat × Nat) : 0 ≤ (numOut s first r).1 ∧ (numOut s first r).1 ≤ 1114111 := by
  unfold numOut
  split
  · simp
  · split
    · rename_i h
      have := charB_bd h
      simp only
      omega
    · simp
theorem namedGo_bd (s : ByteArray) (at_ : Nat) : ∀ m, 0 ≤ (namedGo s at_ m).1 ∧ (namedGo s at_ m).1 ≤ 1114111
  | 0 => by simp [namedGo]
  | m + 1 => by
    rw [namedGo]
    split
    · have := charOf_bd (4 - m)
      simp only
      omega
    · exact namedGo_bd s at_ m
theorem expF_bd (s : ByteArray) (at_ : Nat) : 0 ≤ (expF s at_).1 ∧ (expF s at_).1 ≤ 1114111 := by
  unfold expF
  split
  · unfold numF
    split
    · exact numOut_bd _ _ _
    · exact numOut_bd _ _ _
  · exact namedGo_bd s at_ 5
set_option maxHeartbeats 2000000 in
theorem referExpands_out (p : Option Addr) (n cap : Nat) (i : Int) (w : World) (hT : Tabs w) (hN : NamedAt w) (h : i < 0 ∨ (n : Int) ≤ i) :
    Calls Tryd.prog 3 #[.slice p n cap, .int .i64 i] w fun e w' => e = .returned (.bool true) ∧ Below w.heap.size w w' := by
  have A := Lib.hid (awake2_any w hT hN)
  have E := Lib.hid (fun W => expand_out p n cap i W h)
  clear hT hN
  rcases h with h | h
  all_goals
    go_enter Tryd.func3, Tryd.ntmps3
    go_wp2_with (fail)
    refine A.out.mono ?_
    rintro e w1 ⟨rfl, hb⟩
    go_wp2_with (fail)
    refine (E.out _).mono ?_
    rintro e w2 ⟨rfl, rfl⟩
    go_wp2_with (fail)
    all_goals first | (exfalso; omega) | (go_ret; exact ⟨ret_bool (by simp), hb⟩)
set_option maxHeartbeats 2000000 in
theorem referExpands_in (s : ByteArray) (b off cap at_ : Nat) (w : World) (hs : s.size ≤ 140737488355000) (hcap : s.size ≤ cap) (hat : at_ < s.size) (hT : Tabs w) (hN : NamedAt w) (hp : ∀ j, j < s.size → w.cell? ⟨b, off + j, none⟩ = some (.int .u8 (by_ s j))) :
    Calls Tryd.prog 3 #[.slice (some ⟨b, off, none⟩) s.size cap, .int .i64 at_] w fun e w' => e = .returned (.bool true) ∧ Below w.heap.size w w' := by
  have A := Lib.hid (awake2_any w hT hN)
  have hz : (at_ : Int) < (s.size : Int) := by omega
  have HN := Lib.hid hN
  have HP := Lib.hid hp
  obtain ⟨c, hc⟩ : ∃ c, by_ s at_ = c := ⟨_, rfl⟩
  have c0 := hp at_ hat
  rw [hc] at c0
  have C0 := Lib.hid c0
  clear hT hN hp
  by_cases h38 : c = 38
  · subst h38
    have E := Lib.hid (fun W (h : Below w.heap.size w W) => expand_in s b off cap at_ W hs hcap hat hc (HN.out.below h) (fun j hj => hb_cell h (HP.out j hj)))
    have R := Lib.hid (fun W (h : Below w.heap.size w W) => refexp_in s b off cap at_ W hs hcap hat hc (fun j hj => hb_cell h (HP.out j hj)))
    have hbd := expF_bd s at_
    generalize expF s at_ = A3 at *
    obtain ⟨x, y, z⟩ := A3
    simp only at E R hbd
    obtain ⟨hx0, hx1⟩ := hbd
    clear hc c0
    go_enter Tryd.func3, Tryd.ntmps3
    go_wp2_with (fail)
    refine A.out.mono ?_
    rintro e w1 ⟨rfl, hb⟩
    go_wp2_with (fail)
    refine (E.out _ hb).mono ?_
    rintro e w2 ⟨rfl, hb2⟩
    have hB := below_cat hb hb2
    have c1 := hb_cell hB C0.out
    clear hb hb2
    go_wp2_with (fail)
    all_goals try (exfalso; omega)
    refine (R.out _ hB).mono ?_
    rintro e w3 ⟨rfl, rfl⟩
    go_wp2_with (fail)
    all_goals first | (exfalso; omega) | (go_ret; exact ⟨ret_bool (by simp), hB⟩)
  · have E := Lib.hid (fun W (h : Below w.heap.size w W) => expand_other s.size b off cap at_ c W hat (hb_cell h C0.out) h38)
    have f38 : (c == 38) = false := by rw [beq_eq_false_iff_ne]; exact h38
    clear hc c0
    go_enter Tryd.func3, Tryd.ntmps3
    go_wp2_with (fail)
    refine A.out.mono ?_
    rintro e w1 ⟨rfl, hb⟩
    go_wp2_with (fail)
    refine (E.out _ hb).mono ?_
    rintro e w2 ⟨rfl, rfl⟩
    have c1 := hb_cell hb C0.out
    go_wp2_with (fail)
    all_goals first | (exfalso; omega) | (go_ret; exact ⟨ret_bool (by simp), hb⟩)
theorem referExpands_walk (p : Option Addr) (s : ByteArray) (cap : Nat) (i : Int) (w : World) (hT : Tabs w) (hN : NamedAt w) (hs : s.size ≤ 140737488355000) (hcap : s.size ≤ cap) (hp : HoldsB w p s) :
    Calls Tryd.prog 3 #[.slice p s.size cap, .int .i64 i] w fun e w' => e = .returned (.bool true) ∧ Below w.heap.size w w' := by
  by_cases h : i < 0 ∨ (s.size : Int) ≤ i
  · exact referExpands_out p s.size cap i w hT hN h
  · obtain ⟨n, rfl⟩ : ∃ n : Nat, i = n := ⟨i.toNat, by omega⟩
    have hn : n < s.size := by omega
    obtain ⟨b, off, rfl, hc⟩ := hp (by omega)
    exact referExpands_in s b off cap n w hs hcap hn hT hN hc
end Go.Proofs.YtgfnfblekilheaaDoor
