/- Proved here: the plan of a drum and the first sector of a page, of any drum and any number. -/
import Derived.Test.YtlkffignbjpfcaaPutPlain
namespace Go.Proofs.Ytlkffignbjpfcaa
open Go.RowKit

/-- base, pages, whether there is a plan. -/
structure Lies (N bs pg : Nat) (ok : Bool) : Prop where
  yes : ok = true → 64 ≤ N ∧ bs = 2 + N / 4 ∧ pg = (N - (2 + N / 4)) / 8
  no : ok = false → N < 64 ∧ bs = 0 ∧ pg = 0
  pos : 1 ≤ N
  top : N ≤ 400
theorem Lies.fits {N bs pg : Nat} {ok : Bool} (h : Lies N bs pg ok) {n : Nat} (hn : n < pg) : ok = true ∧ 2 ≤ bs ∧ bs + 8 * n + 8 ≤ N := by
  cases ok with
  | false => have := (h.no rfl).2.2; omega
  | true =>
    obtain ⟨h1, h2, h3⟩ := h.yes rfl
    exact ⟨rfl, by omega, by omega⟩
theorem lies (N : Nat) (h1 : 1 ≤ N) (h2 : N ≤ 400) : Lies N (if 64 ≤ N then 2 + N / 4 else 0) (if 64 ≤ N then (N - (2 + N / 4)) / 8 else 0) (decide (64 ≤ N)) := by
  refine ⟨fun h => ?_, fun h => ?_, h1, h2⟩
  · have h : 64 ≤ N := by simpa using h
    rw [if_pos h, if_pos h]
    exact ⟨h, rfl, rfl⟩
  · have h : ¬ 64 ≤ N := by simpa using h
    rw [if_neg h, if_neg h]
    exact ⟨by omega, rfl, rfl⟩
set_option maxRecDepth 100000 in
set_option maxHeartbeats 2000000 in
theorem plan_no {W : World} {F : Nat → Prop} {G N : Nat} {M : DM} (h : Drum W F G N M) (h1 : N < 64) :
    Calls Try.prog 47 #[.pointer (some ⟨G, 0, none⟩)] W fun e W' => e = .returned (.tuple #[.agg #[.int .i64 0, .int .i64 0, .int .i64 0], .int .i64 1]) ∧ Below W.heap.size W W' := by
  obtain ⟨WA, hWA⟩ : ∃ WA, W.alloc (.cells #[.int .i64 0, .int .i64 0, .int .i64 0] 89) = WA := ⟨_, rfl⟩
  have nA : WA.heap[W.heap.size]? = some (.cells #[.int .i64 0, .int .i64 0, .int .i64 0] 89 (0, 0)) := by rw [← hWA]; exact heap_alloc_new _ _
  have bA : Below W.heap.size W WA := by rw [← hWA]; exact (Below.refl _ _).alloc (Nat.le_refl _) _
  have SC := Lib.hid (sectors_any WA F G N M (h.below bA))
  have DR := Lib.hid (draft_arg (N : Int) (.inl (by omega)) WA)
  have HA := Lib.hid (And.intro nA bA)
  clear nA bA h h1
  go_enter Try.func47, Try.ntmps47
  go_wp2_with (fail)
  refine SC.out.mono ?_
  rintro e W' ⟨rfl, rfl⟩
  go_wp2_with (fail)
  refine DR.out.mono ?_
  rintro e W1 ⟨rfl, hb⟩
  have n1 := (hb.block _ (blk_lt2 HA.out.1)).trans HA.out.1
  have d0 : W1.cell? ⟨W.heap.size, 0, none⟩ = some (.int .i64 0) := by rw [cell_of_row _ _ _ _ _ _ n1]; rfl
  have d1 : W1.cell? ⟨W.heap.size, 1, none⟩ = some (.int .i64 0) := by rw [cell_of_row _ _ _ _ _ _ n1]; rfl
  have d2 : W1.cell? ⟨W.heap.size, 2, none⟩ = some (.int .i64 0) := by rw [cell_of_row _ _ _ _ _ _ n1]; rfl
  have f0 : W1.frozen? ⟨W.heap.size, 0, none⟩ = false := frozen_of_row _ _ _ _ _ n1
  have f1 : W1.frozen? ⟨W.heap.size, 1, none⟩ = false := frozen_of_row _ _ _ _ _ n1
  have f2 : W1.frozen? ⟨W.heap.size, 2, none⟩ = false := frozen_of_row _ _ _ _ _ n1
  have B1 := Lib.hid (below_cat HA.out.2 hb)
  clear hb n1 DR SC hWA
  go_wp2_with (fail)
  (try simp only [Exit.inBlock, Exit.then])
  refine bodyPost_ret (v := .tuple #[.agg #[.int .i64 0, .int .i64 0, .int .i64 0], .int .i64 1]) ?_ rfl ⟨rfl, ?_⟩
  · rw [results_cell_tmp rfl]
    go_simp
  · exact ((B1.out.setCell (Nat.le_refl _) _).setCell (Nat.le_refl _) _).setCell (Nat.le_refl _) _
/-- The plan's numbers, and the error. -/
def planI (N bs pg : Nat) (ok : Bool) : Value × Int := if ok = true then (.agg #[.int .i64 ((N / 4 : Nat) : Int), .int .i64 (bs : Int), .int .i64 (pg : Int)], 0) else (.agg #[.int .i64 0, .int .i64 0, .int .i64 0], 1)
theorem plan_any {W : World} {F : Nat → Prop} {G N bs pg : Nat} {ok : Bool} {M : DM} (h : Drum W F G N M) (hl : Lies N bs pg ok) :
    Calls Try.prog 47 #[.pointer (some ⟨G, 0, none⟩)] W fun e W' => e = .returned (.tuple #[(planI N bs pg ok).1, .int .i64 (planI N bs pg ok).2]) ∧ Below W.heap.size W W' := by
  cases ok with
  | true =>
    obtain ⟨h1, h2, h3⟩ := hl.yes rfl
    have := plan_ok h h1 (by have := hl.top; omega)
    unfold planV at this
    rw [← h3, ← h2] at this
    exact this
  | false => exact plan_no h (hl.no rfl).1
set_option maxRecDepth 100000 in
set_option maxHeartbeats 2000000 in
theorem first_ok {W : World} {F : Nat → Prop} {G N bs pg : Nat} {ok : Bool} {M : DM} (h : Drum W F G N M) (hl : Lies N bs pg ok) (n : Nat) (hn : n < pg) :
    Calls Try.prog 43 #[.pointer (some ⟨G, 0, none⟩), .int .i64 (n : Int)] W fun e W' => e = .returned (.tuple #[.int .i64 ((bs + 8 * n : Nat) : Int), .int .i64 0]) ∧ Below W.heap.size W W' := by
  obtain ⟨hok, hb2, hf⟩ := hl.fits hn
  have PL := plan_any h hl
  unfold planI at PL
  rw [if_pos hok] at PL
  have HPL := Lib.hid PL
  have hn' : (n : Int) < (pg : Int) := by omega
  have hnn : ¬ (n : Int) < 0 := by omega
  have hns : ¬ (pg : Int) ≤ (n : Int) := by omega
  have b1 : (bs : Int) ≤ 400 := by have := hl.top; omega
  have b2 : (n : Int) ≤ 400 := by have := hl.top; omega
  have b3 : (0 : Int) ≤ (n : Int) := by omega
  have e8 : ((bs + 8 * n : Nat) : Int) = (bs : Int) + (n : Int) * 8 := by omega
  have HE := Lib.hid e8
  generalize N / 4 = L at *
  clear PL h hl hok hb2 hf e8
  go_enter Try.func43, Try.ntmps43
  go_wp2_with (fail)
  refine HPL.out.mono ?_
  rintro e W1 ⟨rfl, hb⟩
  have HB := Lib.hid hb
  clear hb HPL
  go_wp2_with (fail)
  go_ret2
  rw [HE.out]
  exact ⟨rfl, HB.out.alloc HB.out.size _⟩
set_option maxRecDepth 100000 in
set_option maxHeartbeats 2000000 in
theorem first_no {W : World} {F : Nat → Prop} {G N bs pg : Nat} {ok : Bool} {M : DM} (h : Drum W F G N M) (hl : Lies N bs pg ok) (n : Int) (hn : n < 0 ∨ (pg : Int) ≤ n) :
    Calls Try.prog 43 #[.pointer (some ⟨G, 0, none⟩), .int .i64 n] W fun e W' => e = .returned (.tuple #[.int .i64 0, .int .i64 1]) ∧ Below W.heap.size W W' := by
  have PL := plan_any h hl
  unfold planI at PL
  cases ok with
  | true =>
    rw [if_pos rfl] at PL
    have HPL := Lib.hid PL
    generalize N / 4 = L at *
    clear PL h hl
    go_enter Try.func43, Try.ntmps43
    go_wp2_with (fail)
    refine HPL.out.mono ?_
    rintro e W1 ⟨rfl, hb⟩
    have HB := Lib.hid hb
    clear hb HPL
    rcases Int.lt_or_le n 0 with h0 | h0
    · clear hn
      go_wp2_with (fail)
      go_ret2
      exact ⟨rfl, HB.out.alloc HB.out.size _⟩
    · have h1 : (pg : Int) ≤ n := by omega
      have h2 : ¬ n < 0 := by omega
      clear hn
      go_wp2_with (fail)
      go_ret2
      exact ⟨rfl, HB.out.alloc HB.out.size _⟩
  | false =>
    rw [if_neg (by simp)] at PL
    have HPL := Lib.hid PL
    clear PL h hl hn
    go_enter Try.func43, Try.ntmps43
    go_wp2_with (fail)
    refine HPL.out.mono ?_
    rintro e W1 ⟨rfl, hb⟩
    have HB := Lib.hid hb
    clear hb HPL
    go_wp2_with (fail)
    go_ret2
    exact ⟨rfl, HB.out.alloc HB.out.size _⟩
end Go.Proofs.Ytlkffignbjpfcaa
