/- Proved here: Open of a tape with numbers that are refused; rows of a part of a list; how far a reader comes. -/
import Derived.Test.YtggchfmglaijgaaTapeOpenG
import Derived.Test.YtggchfmglaijgaaTapeRefW
namespace Go.Proofs.Ytggchfmglaijgaa
open Go.RowKit

set_option maxRecDepth 100000 in
set_option maxHeartbeats 4000000 in
theorem open_arg (W : World) (F : Nat → Prop) (G N : Nat) (M : DM) (d : Drum W F G N M) (hN : N ≤ 16384) (lo hi gen : Int) (bl1 : -9223372036854775808 ≤ lo ∧ lo ≤ 9223372036854775807) (bh1 : -9223372036854775808 ≤ hi ∧ hi ≤ 9223372036854775807) (hbad : lo < 0 ∨ (N : Int) < hi ∨ hi ≤ lo ∨ gen < 1 ∨ 4294967295 < gen) :
    Calls Try.prog 21 #[.pointer (some ⟨G, 0, none⟩), .int .i64 lo, .int .i64 hi, .int .i64 gen] W fun e W' => e = .returned (.tuple #[.pointer none, .slice none 0 0, .int .i64 1]) ∧ W = W' := by
  have SC := Lib.hid (sectors_any W F G N M d)
  have HNI := Lib.hid hN
  have hNI : (N : Int) ≤ 16384 := by omega
  clear d hN
  go_enter Try.func21, Try.ntmps21
  by_cases h1 : lo < 0
  · go_wp2_with (fail)
    all_goals try (exfalso; omega; done)
    go_ret3
    exact ⟨rfl, rfl⟩
  · go_wp2_with (fail)
    all_goals try (exfalso; omega; done)
    with_reducible (refine SC.out.mono ?_)
    rintro e W' ⟨rfl, rfl⟩
    by_cases h2 : (N : Int) < hi
    · go_wp2_with (fail)
      all_goals try (exfalso; omega; done)
      go_ret3
      exact ⟨rfl, rfl⟩
    · by_cases h3 : hi ≤ lo
      · go_wp2_with (fail)
        all_goals try (exfalso; omega; done)
        go_ret3
        exact ⟨rfl, rfl⟩
      · by_cases h4 : gen < 1
        · go_wp2_with (fail)
          all_goals try (exfalso; omega; done)
          go_ret3
          exact ⟨rfl, rfl⟩
        · by_cases h5 : 4294967295 < gen
          · go_wp2_with (fail)
            all_goals try (exfalso; omega; done)
            go_ret3
            exact ⟨rfl, rfl⟩
          · exfalso; omega
theorem GroupsIn.rowsG {W : World} {Y : Nat → Prop} {g n k lo hi : Nat} {A : List (List UInt8)} (h : GroupsIn W Y (.slice (some ⟨g, 0, none⟩) n k) (A.map ofL)) (hn : A.length = n) (h64 : ∀ x ∈ A, x.length = 64) (hhi : hi ≤ n) : RowsG W g lo ((A.drop lo).take (hi - lo)) := fun j hj => by
  have hlen : ((A.drop lo).take (hi - lo)).length ≤ hi - lo := by rw [List.length_take]; omega
  have hl : (A.map ofL).length = n := by rw [List.length_map, hn]
  have hjn : lo + j < A.length := by omega
  obtain ⟨Vs, a1, a2, a3⟩ := h
  obtain ⟨v, b1, b2, b3⟩ := a3 (lo + j) (by rw [hl]; omega)
  have hgm : (A.map ofL)[lo + j]'(by rw [hl]; omega) = ofL A[lo + j] := List.getElem_map ..
  have hx : ((A.drop lo).take (hi - lo))[j] = A[lo + j] := by rw [List.getElem_take, List.getElem_drop]
  rw [hgm] at b2
  rw [hl] at a1
  have hc := a1.cellAt (lo + j) (by rw [Nat.mul_one]; omega)
  rw [b1] at hc
  have hs : (ofL A[lo + j]).size = 64 := by rw [ofL_size, h64 _ (List.getElem_mem hjn)]
  obtain ⟨pa, pc, hv, hvh, _⟩ := rowv_holds b2
  rcases b2.2 with ⟨e, h0⟩ | ⟨gr, cap, cur, e, _, _, hcp, _⟩
  · omega
  · rw [e] at hv hc
    injection hv with e1 e2 e3
    subst e1 e3
    rw [hs] at hcp hc
    exact ⟨gr, _, hc, hcp, by rw [hx]; exact hvh⟩
theorem reads_used (gen : Nat) : ∀ (T : List (List UInt8)) (M : RM), M.used ≤ M.taken → (readsM gen M T).used ≤ M.taken + T.length
  | [], M, h => by rw [readsM]; exact h
  | x :: r, M, h => by
    rw [readsM]
    split
    · have h1 : (M.next x).taken = M.taken + 1 := by unfold RM.next; split <;> rfl
      have h2 : (M.next x).used ≤ (M.next x).taken := by
        rw [h1]
        unfold RM.next
        split
        · exact Nat.le_refl _
        · show M.used ≤ _; omega
      have := reads_used gen r (M.next x) h2
      rw [List.length_cons]; omega
    · rw [List.length_cons]; omega
theorem reads_count (gen : Nat) : ∀ (T : List (List UInt8)) (M : RM), M.groups.length ≤ M.taken → (readsM gen M T).groups.length ≤ M.taken + T.length
  | [], M, h => by rw [readsM]; exact h
  | x :: r, M, h => by
    rw [readsM]
    split
    · have h1 : (M.next x).taken = M.taken + 1 := by unfold RM.next; split <;> rfl
      have h2 : (M.next x).groups.length ≤ (M.next x).taken := by
        rw [h1]
        unfold RM.next
        split
        · show (M.groups ++ [M.grown x]).length ≤ _; rw [List.length_append]; show M.groups.length + 1 ≤ _; omega
        · show M.groups.length ≤ _; omega
      have := reads_count gen r (M.next x) h2
      rw [List.length_cons]; omega
    · rw [List.length_cons]; omega
theorem log_part (A : List (List UInt8)) (M : DM) (h : M.now = A.map ofL) (lo n : Nat) : logOf M lo n = (A.drop lo).take n := by
  unfold logOf
  rw [h, ← List.map_drop, ← List.map_take, List.map_map]
  have e : (bl ∘ ofL) = id := funext fun x => bl_ofL x
  rw [e, List.map_id]
end Go.Proofs.Ytggchfmglaijgaa
