/- Proved here: char.Next answers nextF (the char, the place behind it, the error) at every place of every slice of bytes, and what was there stays. -/
import Derived.Test.YtfmlmdfehaajbaaGreatDoorSets
import Derived.Test.YtfmlmdfehaajbaaGreatDoorShelf
import Derived.Test.YtfmlmdfehaajbaaGreatDoorFaultPlain
import Derived.WalkKit
import Derived.BigGuardPart
import Derived.Below
namespace Go.Proofs.YtfmlmdfehaajbaaGreatDoor
open Go.RowKit

/-- The library's two tables lie in this world as their text lays them. -/
def Tabs (w : World) : Prop := Lib.Utf8Tabs 0 1 w
theorem Tabs.below {w w' : World} (h : Tabs w) (hb : Below w.heap.size w w') : Tabs w' := Utf8Tabs_below h hb
theorem ret_iii {k l m : IntKind} {a b c a' b' c' : Int} (h : a = a' ∧ b = b' ∧ c = c') : Ending.returned (.tuple #[.int k a, .int l b, .int m c]) = .returned (.tuple #[.int k a', .int l b', .int m c']) := by rw [h.1, h.2.1, h.2.2]

theorem next_out (p : Option Addr) (n cap : Nat) (at_ : Int) (w : World) (h : at_ < 0 ∨ (n : Int) ≤ at_) :
    Calls Tryz.prog 118 #[.slice p n cap, .int .i64 at_] w fun e w' => e = .returned (.tuple #[.int .i32 0, .int .i64 0, .int .i64 1]) ∧ w = w' := by
  go_enter Tryz.func118, Tryz.ntmps118
  go_wp2_with (fail)
  all_goals first | (exfalso; omega) | (go_ret3; exact ⟨rfl, rfl⟩)

set_option maxHeartbeats 1000000 in
theorem next_walk (n b off cap at_ : Nat) (R K r k e : Int) (w : World) (hat : at_ < n) (hcap : at_ < cap) (hn : n ≤ 140737488355328) (_hnc : n ≤ cap) (hK : 1 ≤ K) (hK' : K ≤ 4)
    (cD : Calls Tryz.prog 130 #[.slice (some ⟨b, off + at_, none⟩) (n - at_) (cap - at_)] w fun e w' => e = .returned (.tuple #[.int .i32 R, .int .i64 K]) ∧ Below w.heap.size w w')
    (h : (R = 65533 ∧ K = 1 ∧ r = 0 ∧ k = 0 ∧ e = 20) ∨ (¬ (R = 65533 ∧ K = 1) ∧ charB R = true ∧ r = R ∧ k = at_ + K ∧ e = 0) ∨ (¬ (R = 65533 ∧ K = 1) ∧ charB R = false ∧ r = 0 ∧ k = 0 ∧ e = 21)) :
    Calls Tryz.prog 118 #[.slice (some ⟨b, off, none⟩) n cap, .int .i64 (at_ : Int)] w fun e' w' => e' = .returned (.tuple #[.int .i32 r, .int .i64 k, .int .i64 e]) ∧ Below w.heap.size w w' := by
  have hat' : (at_ : Int) < (n : Int) := by omega
  have CD := Lib.hid cD
  clear cD
  have cI := isChar R
  rcases h with ⟨h1, h2, h3⟩ | ⟨h1, h2, h3⟩ | ⟨h1, h2, h3⟩
  · subst h1 h2
    have H := Lib.hid h3
    clear h3 cI
    go_enter Tryz.func118, Tryz.ntmps118
    go_wp2_with (go_at_call 130; refine (CD.out).mono ?_; rintro e w' ⟨rfl, hb⟩)
    all_goals first | (exfalso; omega) | (go_ret3; exact ⟨ret_iii (by have := H.out; omega), hb⟩)
  · rw [h2] at cI
    have H := Lib.hid h3
    have CI := Lib.hid cI
    clear h3 h2 cI
    by_cases hR : R = 65533
    · subst hR
      have hK1 : (K == 1) = false := by simp; omega
      go_enter Tryz.func118, Tryz.ntmps118
      go_wp2_with (first | (go_at_call 130; refine (CD.out).mono ?_; rintro e w' ⟨rfl, hb⟩) | (go_at_call 131; refine (CI.out _).mono ?_; rintro e w' ⟨rfl, rfl⟩))
      all_goals first | (exfalso; omega) | (go_ret3; exact ⟨ret_iii (by have := H.out; omega), hb⟩)
    · have hR1 : (R == 65533) = false := by simp; omega
      clear hR h1
      go_enter Tryz.func118, Tryz.ntmps118
      go_wp2_with (first | (go_at_call 130; refine (CD.out).mono ?_; rintro e w' ⟨rfl, hb⟩) | (go_at_call 131; refine (CI.out _).mono ?_; rintro e w' ⟨rfl, rfl⟩))
      all_goals first | (exfalso; omega) | (go_ret3; exact ⟨ret_iii (by have := H.out; omega), hb⟩)
  · rw [h2] at cI
    have H := Lib.hid h3
    have CI := Lib.hid cI
    clear h3 h2 cI
    by_cases hR : R = 65533
    · subst hR
      have hK1 : (K == 1) = false := by simp; omega
      go_enter Tryz.func118, Tryz.ntmps118
      go_wp2_with (first | (go_at_call 130; refine (CD.out).mono ?_; rintro e w' ⟨rfl, hb⟩) | (go_at_call 131; refine (CI.out _).mono ?_; rintro e w' ⟨rfl, rfl⟩))
      all_goals first | (exfalso; omega) | (go_ret3; exact ⟨ret_iii (by have := H.out; omega), hb⟩)
    · have hR1 : (R == 65533) = false := by simp; omega
      clear hR h1
      go_enter Tryz.func118, Tryz.ntmps118
      go_wp2_with (first | (go_at_call 130; refine (CD.out).mono ?_; rintro e w' ⟨rfl, hb⟩) | (go_at_call 131; refine (CI.out _).mono ?_; rintro e w' ⟨rfl, rfl⟩))
      all_goals first | (exfalso; omega) | (go_ret3; exact ⟨ret_iii (by have := H.out; omega), hb⟩)

theorem next_in (s : ByteArray) (b off cap at_ : Nat) (w : World) (hT : Tabs w) (hs : s.size ≤ 140737488355328) (hcap : s.size ≤ cap) (hat : at_ < s.size) (hp : ∀ j, j < s.size → w.cell? ⟨b, off + j, none⟩ = some (.int .u8 (s.get! j).toNat)) :
    Calls Tryz.prog 118 #[.slice (some ⟨b, off, none⟩) s.size cap, .int .i64 (at_ : Int)] w fun e w' => e = .returned (.tuple #[.int .i32 ((nextF s at_).1 : Int), .int .i64 ((nextF s at_).2.1 : Int), .int .i64 ((nextF s at_).2.2 : Int)]) ∧ Below w.heap.size w w' := by
  have hz : (s.extract at_ s.size).size = s.size - at_ := by simp
  have cD := Tryz.decodeRune (s.extract at_ s.size) b (off + at_) (cap - at_) w hT (fun j hj => by
    rw [get!_extract _ _ _ (by omega), Nat.add_assoc]; exact hp (at_ + j) (by omega))
  rw [hz, decodeGo_at s at_ hat] at cD
  have l0 : (s.get! at_).toNat < 256 := (s.get! at_).toNat_lt
  have hb := decodeN_bd (s.size - at_) (s.get! at_).toNat (s.get! (at_ + 1)).toNat (s.get! (at_ + 2)).toNat (s.get! (at_ + 3)).toNat l0
  have hr := rd_of_decode (s.size - at_) (s.get! at_).toNat (s.get! (at_ + 1)).toNat (s.get! (at_ + 2)).toNat (s.get! (at_ + 3)).toNat l0
  refine next_walk s.size b off cap at_ _ _ _ _ _ w hat (by omega) hs hcap ?_ ?_ cD ?_
  · omega
  · omega
  unfold nextF rd
  generalize Lib.decodeN (s.size - at_) (s.get! at_).toNat (s.get! (at_ + 1)).toNat (s.get! (at_ + 2)).toNat (s.get! (at_ + 3)).toNat = d at *
  generalize rdN (s.size - at_) (s.get! at_).toNat (s.get! (at_ + 1)).toNat (s.get! (at_ + 2)).toNat (s.get! (at_ + 3)).toNat = q at *
  rcases hr with ⟨rfl, rfl⟩ | ⟨rfl, hq⟩
  · left; simp
  · have hz2 : ¬ q.2 = 0 := by omega
    cases hc : charB (q.1 : Int)
    · right; right; simp [hz2]; omega
    · right; left; simp [hz2]; omega
end Go.Proofs.YtfmlmdfehaajbaaGreatDoor
