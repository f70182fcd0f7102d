/- Proved here: what refer's digit and the document's hex answer, at every byte; the world stays as it was. | Proved here: what refer's numbered answers, at every place of any bytes: just numF; the world stays as it was. | Proved here: what refer's numbered answers where no x begins, at every place of any bytes; and so wherever it begins; the world stays as it was. | Proved here: what the walks of refer's Expand ask of the table and of the test of a beginning; what was there stays. -/
import Derived.Test.YteipiaefamfleaaGreatDoorM0
import Derived.BigGuardPart
import Derived.Deep.RegionWith
import Derived.Laws.Rows
namespace Go.Proofs.YteipiaefamfleaaGreatDoor
open Go.RowKit

theorem ret_int {k : IntKind} {a b : Int} (h : a = b) : Ending.returned (.int k a) = .returned (.int k b) := by rw [h]
set_option maxHeartbeats 1000000 in
theorem digit_any (c : Int) (h0 : 0 ≤ c) (h1 : c < 256) (w : World) :
    Calls Tryz.prog 103 #[.int .u8 c] w fun e w' => e = .returned (.int .i64 (digZ c)) ∧ w = w' := by
  obtain ⟨p, hp⟩ : ∃ p, digZ c = p := ⟨_, rfl⟩
  have HP := Lib.hid hp
  rw [hp]; clear hp
  go_enter Tryz.func103, Tryz.ntmps103
  go_wp2
  all_goals go_ret
  all_goals refine ⟨ret_int ?_, rfl⟩
  all_goals ((rw [← HP.out]; unfold digZ; go_light); (repeat' split) <;> omega)
end Go.Proofs.YteipiaefamfleaaGreatDoor
namespace Go.Proofs.YteipiaefamfleaaGreatDoor
open Go.RowKit

/-- Where the loop stands: the rest gives ANS. -/
def NumRel (s : ByteArray) (base first : Nat) (ANS : Nat × Nat) (a i : Value) : Prop := ∃ k pos n : Nat, a = .int .i64 pos ∧ i = .int .i64 n ∧ numGo s base k pos n = ANS ∧ s.size ≤ pos + k ∧ first ≤ pos ∧ pos ≤ s.size ∧ n ≤ 1114112
theorem numOut_22 (s : ByteArray) (first n pos : Nat) (h : pos = first ∨ pos = s.size ∨ by_ s pos ≠ 59) : numOut s first (n, pos) = (0, 0, 22) := by unfold numOut; rw [if_pos h]
theorem numOut_21 (s : ByteArray) (first n pos : Nat) (h1 : ¬ pos = first) (h2 : ¬ pos = s.size) (h3 : by_ s pos = 59) (hc : charB n = false) : numOut s first (n, pos) = (0, 0, 21) := by
  unfold numOut
  rw [if_neg (by rintro (h | h | h); exact h1 h; exact h2 h; exact h h3), hc]
  rfl
theorem numOut_ok (s : ByteArray) (first n pos : Nat) (h1 : ¬ pos = first) (h2 : ¬ pos = s.size) (h3 : by_ s pos = 59) (hc : charB n = true) : numOut s first (n, pos) = ((n : Int), (pos : Int) + 1, 0) := by
  unfold numOut
  rw [if_neg (by rintro (h | h | h); exact h1 h; exact h2 h; exact h h3), hc]
  rfl
theorem ret_out {s : ByteArray} {first : Nat} {A : Nat × Nat} {x y z : Int} (h : numOut s first A = (x, y, z)) : Ending.returned (.tuple #[.int .i32 x, .int .i64 y, .int .i64 z]) = .returned (.tuple #[.int .i32 (numOut s first A).1, .int .i64 (numOut s first A).2.1, .int .i64 (numOut s first A).2.2]) := by rw [h]

set_option maxHeartbeats 8000000 in
set_option maxRecDepth 100000 in
theorem numbered_x (s : ByteArray) (b off cap at_ : Nat) (w : World) (hs : s.size ≤ 140737488355328) (_hat : at_ ≤ s.size) (hlt0 : at_ < s.size) (hx : by_ s at_ = 120) (hp : ∀ j, j < s.size → w.cell? ⟨b, off + j, none⟩ = some (.int .u8 (by_ s j))) :
    Calls Tryz.prog 99 #[.slice (some ⟨b, off, none⟩) s.size cap, .int .i64 at_] w fun e w' => e = .returned (.tuple #[.int .i32 (numOut s (at_ + 1) (numGo s 16 s.size (at_ + 1) 0)).1, .int .i64 (numOut s (at_ + 1) (numGo s 16 s.size (at_ + 1) 0)).2.1, .int .i64 (numOut s (at_ + 1) (numGo s 16 s.size (at_ + 1) 0)).2.2]) ∧ w = w' := by
  obtain ⟨ANS, hA⟩ : ∃ A, numGo s 16 s.size (at_ + 1) 0 = A := ⟨_, rfl⟩
  rw [hA]
  have HA := Lib.hid hA
  have HP := Lib.hid hp
  have hlz0 : (at_ : Int) < (s.size : Int) := by omega
  have cx := hp at_ hlt0
  rw [hx] at cx
  clear hx
  clear hA hp
  go_enter Tryz.func99, Tryz.ntmps99
  go_wp2_with (fail)
  all_goals try (exfalso; omega)
  go_loop [1, 8] (fun a i => NumRel s 16 (at_ + 1) ANS a i) (fun a _ => s.size - (intOf a).toNat)
  case atStart => exact ⟨s.size, (at_ + 1), 0, by go_num, rfl, HA.out, by omega, Nat.le_refl _, by omega, by omega⟩
  case round =>
    obtain ⟨k, pos, n, rfl, rfl, hgo, hk, hfirst, hpos, hn⟩ := hrel
    have G := Lib.hid hgo
    clear hgo
    by_cases hlt : pos < s.size
    · have hlz : (pos : Int) < (s.size : Int) := by omega
      obtain ⟨k, rfl⟩ : ∃ k', k = k' + 1 := ⟨k - 1, by omega⟩
      have cell := HP.out pos hlt
      obtain ⟨c, hc⟩ : ∃ c, by_ s pos = c := ⟨_, rfl⟩
      have hcb := by_bd s pos
      have HC := Lib.hid hc
      rw [hc] at cell hcb
      clear hc
      have hd0 := digZ_bd c
      obtain ⟨D, hD⟩ : ∃ D, digZ c = D := ⟨_, rfl⟩
      have HD := Lib.hid (fun w => digit_any c hcb.1 hcb.2 w)
      rw [hD] at HD hd0
      have HDD := Lib.hid hD
      clear hD
      by_cases hlb : D < 16
      · have HN := Lib.hid ((numGo_step s 16 k pos n hlt (by rw [HC.out, HDD.out]; exact hlb)).symm.trans G.out)
        rw [HC.out, HDD.out] at HN
        have hm : ((min (n * 16 + D.toNat) 1114112 : Nat) : Int) = min ((n : Int) * 16 + D) 1114112 := by omega
        clear G HC HDD
        go_wp2_with (fail)
        refine (HD.out _).mono ?_
        rintro e w1 ⟨rfl, rfl⟩
        go_wp2_with (fail)
        all_goals try (exfalso; omega)
        refine (HD.out _).mono ?_
        rintro e w1 ⟨rfl, rfl⟩
        go_wp2_with (fail)
        all_goals try (exfalso; omega)
        go_round
        case rel =>
          go_light
          exact ⟨k, pos + 1, min (n * 16 + D.toNat) 1114112, by go_num, by rw [hm], HN.out, by omega, by omega, by omega, by omega⟩
        case measure => simp [intOf]; omega
      · have hans := Lib.hid ((numGo_end s 16 (k + 1) pos n (by rintro ⟨_, h⟩; rw [HC.out, HDD.out] at h; exact hlb h)).symm.trans G.out)
        have hnz : ((pos : Int) == (s.size : Int)) = false := by rw [beq_eq_false_iff_ne]; omega
        have hnz' : ¬ pos = s.size := by omega
        clear G HDD
        by_cases h1 : pos = (at_ + 1)
        · have hO := Lib.hid (numOut_22 s (at_ + 1) n pos (.inl h1))
          have h1z : ((pos : Int) == (at_ : Int) + 1) = true := by rw [beq_iff_eq]; omega
          clear h1
          go_wp2_with (fail)
          refine (HD.out _).mono ?_
          rintro e w1 ⟨rfl, rfl⟩
          go_wp2_with (fail)
          all_goals try (exfalso; omega)
          go_ret3
          exact ⟨ret_out (by rw [← hans.out]; exact hO.out), rfl⟩
        · have h1z : ((pos : Int) == (at_ : Int) + 1) = false := by rw [beq_eq_false_iff_ne]; omega
          by_cases h3 : c = 59
          · subst h3
            cases hcb2 : charB (n : Int)
            · have hO := Lib.hid (numOut_21 s (at_ + 1) n pos h1 hnz' HC.out hcb2)
              have IC := Lib.hid (isChar (n : Int))
              rw [hcb2] at IC
              clear hcb2 h1 hnz'
              go_wp2_with (fail)
              refine (HD.out _).mono ?_
              rintro e w1 ⟨rfl, rfl⟩
              go_wp2_with (fail)
              all_goals try (exfalso; omega)
              refine (IC.out _).mono ?_
              rintro e w1 ⟨rfl, rfl⟩
              go_wp2_with (fail)
              go_ret3
              exact ⟨ret_out (by rw [← hans.out]; exact hO.out), rfl⟩
            · have hO := Lib.hid (numOut_ok s (at_ + 1) n pos h1 hnz' HC.out hcb2)
              have IC := Lib.hid (isChar (n : Int))
              rw [hcb2] at IC
              clear hcb2 h1 hnz'
              go_wp2_with (fail)
              refine (HD.out _).mono ?_
              rintro e w1 ⟨rfl, rfl⟩
              go_wp2_with (fail)
              all_goals try (exfalso; omega)
              refine (IC.out _).mono ?_
              rintro e w1 ⟨rfl, rfl⟩
              go_wp2_with (fail)
              go_ret3
              exact ⟨ret_out (by rw [← hans.out]; exact hO.out), rfl⟩
          · have hO := Lib.hid (numOut_22 s (at_ + 1) n pos (.inr (.inr (by rw [HC.out]; exact h3))))
            have h3b : (c == 59) = false := by rw [beq_eq_false_iff_ne]; exact h3
            clear h1 hnz'
            go_wp2_with (fail)
            refine (HD.out _).mono ?_
            rintro e w1 ⟨rfl, rfl⟩
            go_wp2_with (fail)
            all_goals try (exfalso; omega)
            go_ret3
            exact ⟨ret_out (by rw [← hans.out]; exact hO.out), rfl⟩
    · have hans := Lib.hid ((numGo_end s 16 k pos n (by rintro ⟨h, _⟩; exact hlt h)).symm.trans G.out)
      have hO := Lib.hid (numOut_22 s (at_ + 1) n pos (.inr (.inl (by omega))))
      have hz : ((pos : Int) == (s.size : Int)) = true := by rw [beq_iff_eq]; omega
      have hz2 : ¬ (pos : Int) < (s.size : Int) := by omega
      clear G hlt
      go_wp2_with (fail)
      all_goals try (exfalso; omega)
      all_goals (go_ret3; exact ⟨ret_out (by rw [← hans.out]; exact hO.out), rfl⟩)
end Go.Proofs.YteipiaefamfleaaGreatDoor
namespace Go.Proofs.YteipiaefamfleaaGreatDoor
open Go.RowKit

set_option maxHeartbeats 8000000 in
set_option maxRecDepth 100000 in
theorem numbered_ten (s : ByteArray) (b off cap at_ : Nat) (w : World) (hs : s.size ≤ 140737488355328) (_hat : at_ ≤ s.size) (hlt0 : at_ < s.size) (hx : by_ s at_ ≠ 120) (hp : ∀ j, j < s.size → w.cell? ⟨b, off + j, none⟩ = some (.int .u8 (by_ s j))) :
    Calls Tryz.prog 99 #[.slice (some ⟨b, off, none⟩) s.size cap, .int .i64 at_] w fun e w' => e = .returned (.tuple #[.int .i32 (numOut s at_ (numGo s 10 s.size at_ 0)).1, .int .i64 (numOut s at_ (numGo s 10 s.size at_ 0)).2.1, .int .i64 (numOut s at_ (numGo s 10 s.size at_ 0)).2.2]) ∧ w = w' := by
  obtain ⟨ANS, hA⟩ : ∃ A, numGo s 10 s.size at_ 0 = A := ⟨_, rfl⟩
  rw [hA]
  have HA := Lib.hid hA
  have HP := Lib.hid hp
  have hlz0 : (at_ : Int) < (s.size : Int) := by omega
  have cx0 := hp at_ hlt0
  obtain ⟨y, hy⟩ : ∃ y, by_ s at_ = y := ⟨_, rfl⟩
  rw [hy] at cx0 hx
  have f3 : (y == 120) = false := by rw [beq_eq_false_iff_ne]; exact hx
  clear hy
  clear hA hp
  go_enter Tryz.func99, Tryz.ntmps99
  go_wp2_with (fail)
  all_goals try (exfalso; omega)
  go_loop [1, 8] (fun a i => NumRel s 10 at_ ANS a i) (fun a _ => s.size - (intOf a).toNat)
  case atStart => exact ⟨s.size, at_, 0, rfl, rfl, HA.out, by omega, Nat.le_refl _, by omega, by omega⟩
  case round =>
    obtain ⟨k, pos, n, rfl, rfl, hgo, hk, hfirst, hpos, hn⟩ := hrel
    have G := Lib.hid hgo
    clear hgo
    by_cases hlt : pos < s.size
    · have hlz : (pos : Int) < (s.size : Int) := by omega
      obtain ⟨k, rfl⟩ : ∃ k', k = k' + 1 := ⟨k - 1, by omega⟩
      have cell := HP.out pos hlt
      obtain ⟨c, hc⟩ : ∃ c, by_ s pos = c := ⟨_, rfl⟩
      have hcb := by_bd s pos
      have HC := Lib.hid hc
      rw [hc] at cell hcb
      clear hc
      have hd0 := digZ_bd c
      obtain ⟨D, hD⟩ : ∃ D, digZ c = D := ⟨_, rfl⟩
      have HD := Lib.hid (fun w => digit_any c hcb.1 hcb.2 w)
      rw [hD] at HD hd0
      have HDD := Lib.hid hD
      clear hD
      by_cases hlb : D < 10
      · have HN := Lib.hid ((numGo_step s 10 k pos n hlt (by rw [HC.out, HDD.out]; exact hlb)).symm.trans G.out)
        rw [HC.out, HDD.out] at HN
        have hm : ((min (n * 10 + D.toNat) 1114112 : Nat) : Int) = min ((n : Int) * 10 + D) 1114112 := by omega
        clear G HC HDD
        go_wp2_with (fail)
        refine (HD.out _).mono ?_
        rintro e w1 ⟨rfl, rfl⟩
        go_wp2_with (fail)
        all_goals try (exfalso; omega)
        refine (HD.out _).mono ?_
        rintro e w1 ⟨rfl, rfl⟩
        go_wp2_with (fail)
        all_goals try (exfalso; omega)
        go_round
        case rel =>
          go_light
          exact ⟨k, pos + 1, min (n * 10 + D.toNat) 1114112, by go_num, by rw [hm], HN.out, by omega, by omega, by omega, by omega⟩
        case measure => simp [intOf]; omega
      · have hans := Lib.hid ((numGo_end s 10 (k + 1) pos n (by rintro ⟨_, h⟩; rw [HC.out, HDD.out] at h; exact hlb h)).symm.trans G.out)
        have hnz : ((pos : Int) == (s.size : Int)) = false := by rw [beq_eq_false_iff_ne]; omega
        have hnz' : ¬ pos = s.size := by omega
        clear G HDD
        by_cases h1 : pos = at_
        · have hO := Lib.hid (numOut_22 s at_ n pos (.inl h1))
          have h1z : ((pos : Int) == (at_ : Int)) = true := by rw [beq_iff_eq]; omega
          clear h1
          go_wp2_with (fail)
          refine (HD.out _).mono ?_
          rintro e w1 ⟨rfl, rfl⟩
          go_wp2_with (fail)
          all_goals try (exfalso; omega)
          go_ret3
          exact ⟨ret_out (by rw [← hans.out]; exact hO.out), rfl⟩
        · have h1z : ((pos : Int) == (at_ : Int)) = false := by rw [beq_eq_false_iff_ne]; omega
          by_cases h3 : c = 59
          · subst h3
            cases hcb2 : charB (n : Int)
            · have hO := Lib.hid (numOut_21 s at_ n pos h1 hnz' HC.out hcb2)
              have IC := Lib.hid (isChar (n : Int))
              rw [hcb2] at IC
              clear hcb2 h1 hnz'
              go_wp2_with (fail)
              refine (HD.out _).mono ?_
              rintro e w1 ⟨rfl, rfl⟩
              go_wp2_with (fail)
              all_goals try (exfalso; omega)
              refine (IC.out _).mono ?_
              rintro e w1 ⟨rfl, rfl⟩
              go_wp2_with (fail)
              go_ret3
              exact ⟨ret_out (by rw [← hans.out]; exact hO.out), rfl⟩
            · have hO := Lib.hid (numOut_ok s at_ n pos h1 hnz' HC.out hcb2)
              have IC := Lib.hid (isChar (n : Int))
              rw [hcb2] at IC
              clear hcb2 h1 hnz'
              go_wp2_with (fail)
              refine (HD.out _).mono ?_
              rintro e w1 ⟨rfl, rfl⟩
              go_wp2_with (fail)
              all_goals try (exfalso; omega)
              refine (IC.out _).mono ?_
              rintro e w1 ⟨rfl, rfl⟩
              go_wp2_with (fail)
              go_ret3
              exact ⟨ret_out (by rw [← hans.out]; exact hO.out), rfl⟩
          · have hO := Lib.hid (numOut_22 s at_ n pos (.inr (.inr (by rw [HC.out]; exact h3))))
            have h3b : (c == 59) = false := by rw [beq_eq_false_iff_ne]; exact h3
            clear h1 hnz'
            go_wp2_with (fail)
            refine (HD.out _).mono ?_
            rintro e w1 ⟨rfl, rfl⟩
            go_wp2_with (fail)
            all_goals try (exfalso; omega)
            go_ret3
            exact ⟨ret_out (by rw [← hans.out]; exact hO.out), rfl⟩
    · have hans := Lib.hid ((numGo_end s 10 k pos n (by rintro ⟨h, _⟩; exact hlt h)).symm.trans G.out)
      have hO := Lib.hid (numOut_22 s at_ n pos (.inr (.inl (by omega))))
      have hz : ((pos : Int) == (s.size : Int)) = true := by rw [beq_iff_eq]; omega
      have hz2 : ¬ (pos : Int) < (s.size : Int) := by omega
      clear G hlt
      go_wp2_with (fail)
      all_goals try (exfalso; omega)
      all_goals (go_ret3; exact ⟨ret_out (by rw [← hans.out]; exact hO.out), rfl⟩)

set_option maxHeartbeats 8000000 in
set_option maxRecDepth 100000 in
theorem numbered_end (s : ByteArray) (b off cap at_ : Nat) (w : World) (hs : s.size ≤ 140737488355328) (_hat : at_ ≤ s.size) (hlt0 : ¬ at_ < s.size) (hp : ∀ j, j < s.size → w.cell? ⟨b, off + j, none⟩ = some (.int .u8 (by_ s j))) :
    Calls Tryz.prog 99 #[.slice (some ⟨b, off, none⟩) s.size cap, .int .i64 at_] w fun e w' => e = .returned (.tuple #[.int .i32 (numOut s at_ (numGo s 10 s.size at_ 0)).1, .int .i64 (numOut s at_ (numGo s 10 s.size at_ 0)).2.1, .int .i64 (numOut s at_ (numGo s 10 s.size at_ 0)).2.2]) ∧ w = w' := by
  obtain ⟨ANS, hA⟩ : ∃ A, numGo s 10 s.size at_ 0 = A := ⟨_, rfl⟩
  rw [hA]
  have HA := Lib.hid hA
  have HP := Lib.hid hp
  have hlz0 : ¬ (at_ : Int) < (s.size : Int) := by omega
  clear hA hp
  go_enter Tryz.func99, Tryz.ntmps99
  go_wp2_with (fail)
  all_goals try (exfalso; omega)
  go_loop [1, 8] (fun a i => NumRel s 10 at_ ANS a i) (fun a _ => s.size - (intOf a).toNat)
  case atStart => exact ⟨s.size, at_, 0, rfl, rfl, HA.out, by omega, Nat.le_refl _, by omega, by omega⟩
  case round =>
    obtain ⟨k, pos, n, rfl, rfl, hgo, hk, hfirst, hpos, hn⟩ := hrel
    have G := Lib.hid hgo
    clear hgo
    by_cases hlt : pos < s.size
    · exfalso; omega
    · have hans := Lib.hid ((numGo_end s 10 k pos n (by rintro ⟨h, _⟩; exact hlt h)).symm.trans G.out)
      have hO := Lib.hid (numOut_22 s at_ n pos (.inr (.inl (by omega))))
      have hz : ((pos : Int) == (s.size : Int)) = true := by rw [beq_iff_eq]; omega
      have hz2 : ¬ (pos : Int) < (s.size : Int) := by omega
      clear G hlt
      go_wp2_with (fail)
      all_goals try (exfalso; omega)
      all_goals (go_ret3; exact ⟨ret_out (by rw [← hans.out]; exact hO.out), rfl⟩)

theorem numbered_any (s : ByteArray) (b off cap at_ : Nat) (w : World) (hs : s.size ≤ 140737488355328) (hat : at_ ≤ s.size) (hp : ∀ j, j < s.size → w.cell? ⟨b, off + j, none⟩ = some (.int .u8 (by_ s j))) :
    Calls Tryz.prog 99 #[.slice (some ⟨b, off, none⟩) s.size cap, .int .i64 at_] w fun e w' => e = .returned (.tuple #[.int .i32 (numF s at_).1, .int .i64 (numF s at_).2.1, .int .i64 (numF s at_).2.2]) ∧ w = w' := by
  by_cases h : at_ < s.size
  · by_cases hx : by_ s at_ = 120
    · have e : numF s at_ = numOut s (at_ + 1) (numGo s 16 s.size (at_ + 1) 0) := by unfold numF; rw [if_pos ⟨h, hx⟩]
      rw [e]
      exact numbered_x s b off cap at_ w hs hat h hx hp
    · have e : numF s at_ = numOut s at_ (numGo s 10 s.size at_ 0) := by unfold numF; rw [if_neg (by rintro ⟨_, g⟩; exact hx g)]
      rw [e]
      exact numbered_ten s b off cap at_ w hs hat h hx hp
  · have e : numF s at_ = numOut s at_ (numGo s 10 s.size at_ 0) := by unfold numF; rw [if_neg (by rintro ⟨g, _⟩; exact h g)]
    rw [e]
    exact numbered_end s b off cap at_ w hs hat h hp
end Go.Proofs.YteipiaefamfleaaGreatDoor
namespace Go.Proofs.YteipiaefamfleaaGreatDoor
open Go.RowKit

theorem index0 (W : World) : (Instr.index 132 (.agg #[.string (wordOf 0), .int .i32 (charOf 0), .string (wordOf 1), .int .i32 (charOf 1), .string (wordOf 2), .int .i32 (charOf 2), .string (wordOf 3), .int .i32 (charOf 3), .string (wordOf 4), .int .i32 (charOf 4)]) (.int .i64 0)).run Tryz.prog W = .ok (.agg #[.string (wordOf 0), .int .i32 (charOf 0)]) W := by
  kernel_rfl
theorem index1 (W : World) : (Instr.index 132 (.agg #[.string (wordOf 0), .int .i32 (charOf 0), .string (wordOf 1), .int .i32 (charOf 1), .string (wordOf 2), .int .i32 (charOf 2), .string (wordOf 3), .int .i32 (charOf 3), .string (wordOf 4), .int .i32 (charOf 4)]) (.int .i64 1)).run Tryz.prog W = .ok (.agg #[.string (wordOf 1), .int .i32 (charOf 1)]) W := by
  kernel_rfl
theorem index2 (W : World) : (Instr.index 132 (.agg #[.string (wordOf 0), .int .i32 (charOf 0), .string (wordOf 1), .int .i32 (charOf 1), .string (wordOf 2), .int .i32 (charOf 2), .string (wordOf 3), .int .i32 (charOf 3), .string (wordOf 4), .int .i32 (charOf 4)]) (.int .i64 2)).run Tryz.prog W = .ok (.agg #[.string (wordOf 2), .int .i32 (charOf 2)]) W := by
  kernel_rfl
theorem index3 (W : World) : (Instr.index 132 (.agg #[.string (wordOf 0), .int .i32 (charOf 0), .string (wordOf 1), .int .i32 (charOf 1), .string (wordOf 2), .int .i32 (charOf 2), .string (wordOf 3), .int .i32 (charOf 3), .string (wordOf 4), .int .i32 (charOf 4)]) (.int .i64 3)).run Tryz.prog W = .ok (.agg #[.string (wordOf 3), .int .i32 (charOf 3)]) W := by
  kernel_rfl
theorem index4 (W : World) : (Instr.index 132 (.agg #[.string (wordOf 0), .int .i32 (charOf 0), .string (wordOf 1), .int .i32 (charOf 1), .string (wordOf 2), .int .i32 (charOf 2), .string (wordOf 3), .int .i32 (charOf 3), .string (wordOf 4), .int .i32 (charOf 4)]) (.int .i64 4)).run Tryz.prog W = .ok (.agg #[.string (wordOf 4), .int .i32 (charOf 4)]) W := by
  kernel_rfl
theorem wordOf_size (k : Nat) : (wordOf k).size ≤ 6 := by
  match k with
  | 0 => decide
  | 1 => decide
  | 2 => decide
  | 3 => decide
  | _ + 4 => show (⟨#[38, 113, 117, 111, 116, 59]⟩ : ByteArray).size ≤ 6; decide
def wordZ (k : Nat) : List Int := (wordOf k).data.toList.map fun x => (x.toNat : Int)
theorem wordZ_bytes (k : Nat) : Lib.bytesOf (wordZ k) = (wordOf k).data.toList := by
  unfold Lib.bytesOf wordZ
  rw [List.map_map]
  conv => rhs; rw [← List.map_id (wordOf k).data.toList]
  apply List.map_congr_left
  intro x _
  simp
theorem prefix_at (s : ByteArray) (b off cap at_ : Nat) (k : Nat) (g c : Nat) (W : World) (hcap : s.size ≤ cap) (hat : at_ ≤ s.size) (hp : ∀ j, j < s.size → W.cell? ⟨b, off + j, none⟩ = some (.int .u8 (by_ s j)))
    (hw : ∀ j, j < (wordOf k).size → W.cell? ⟨g, 0 + j, none⟩ = some (.int .u8 ((wordOf k).get! j).toNat)) :
    Calls Tryz.prog 22 #[.slice (some ⟨b, off + at_, none⟩) (s.size - at_) (cap - at_), .slice (some ⟨g, 0, none⟩) (wordOf k).size c] W fun e w' => e = .returned (.bool (pfxB s at_ k)) ∧ W = w' := by
  refine (Tryz.bytes_HasPrefix_all (some ⟨b, off + at_, none⟩) (some ⟨g, 0, none⟩) (s.size - at_) (cap - at_) (wordOf k).size c (tailZ s at_) (wordZ k) W (tailZ_length s at_) (by simp [wordZ]) (by omega) ?_ ?_).mono ?_
  · intro _
    refine ⟨b, off + at_, rfl, fun i hi => ?_⟩
    rw [tailZ_get s at_ i hi, Nat.add_assoc]
    exact hp (at_ + i) (by omega)
  · intro _
    refine ⟨g, 0, rfl, fun i hi => ?_⟩
    rw [hw i hi]
    have h1 := get!_of (wordOf k) i hi
    simp [wordZ, List.getD, h1]
  · rintro e w' ⟨rfl, rfl⟩
    refine ⟨?_, rfl⟩
    rw [tailZ_bytes, wordZ_bytes]
    rfl
theorem alloc_cell0 (w : World) (x y : Value) (t : TypeId) : (w.alloc (.cells #[x, y] t)).drew.cell? ⟨w.heap.size, 0, none⟩ = some x := by
  show (w.alloc (.cells #[x, y] t)).cell? ⟨w.heap.size, 0, none⟩ = some x
  rw [cell_of_row _ _ _ #[x, y] t (0, 0) (heap_alloc_new w _)]
  rfl
theorem alloc_cell1 (w : World) (x y : Value) (t : TypeId) : (w.alloc (.cells #[x, y] t)).drew.cell? ⟨w.heap.size, 1, none⟩ = some y := by
  show (w.alloc (.cells #[x, y] t)).cell? ⟨w.heap.size, 1, none⟩ = some y
  rw [cell_of_row _ _ _ #[x, y] t (0, 0) (heap_alloc_new w _)]
  rfl
theorem alloc_drew_size (w : World) (o : Obj) : (w.alloc o).drew.heap.size = w.heap.size + 1 := by
  show (w.heap.push o).size = _
  simp
theorem named_yes (s : ByteArray) (at_ m : Nat) (h : pfxB s at_ (4 - m) = true) : namedGo s at_ (m + 1) = (charOf (4 - m), (at_ : Int) + ((wordOf (4 - m)).size : Int), 0) := by rw [namedGo, if_pos h]
theorem named_no (s : ByteArray) (at_ m : Nat) (h : pfxB s at_ (4 - m) = false) : namedGo s at_ (m + 1) = namedGo s at_ m := by rw [namedGo, if_neg (by rw [h]; simp)]
theorem ret_tri {A : Int × Int × Int} {x y z : Int} (h : A = (x, y, z)) : Ending.returned (.tuple #[.int .i32 x, .int .i64 y, .int .i64 z]) = .returned (.tuple #[.int .i32 A.1, .int .i64 A.2.1, .int .i64 A.2.2]) := by rw [h]
def NamedRel (s : ByteArray) (at_ : Nat) (w : World) (ANS : Int × Int × Int) (i : Value) (wr : World) : Prop := ∃ k : Nat, i = .int .i64 k ∧ k ≤ 5 ∧ Below w.heap.size w wr ∧ namedGo s at_ (5 - k) = ANS
end Go.Proofs.YteipiaefamfleaaGreatDoor
