/- Proved here: the law ReferPlain answers true at every string of at most 2^20 bytes, in every world that holds the library's two tables and refer's table of names; what was there stays. -/
import Derived.Test.YtdomhjjoijkeaaaDoorAwake2
import Derived.Test.YtdomhjjoijkeaaaDoorQuote
import Derived.Test.YtdomhjjoijkeaaaDoorBackGo
import Derived.BigGuardPart
namespace Go.Proofs.YtdomhjjoijkeaaaDoor
open Go.RowKit

def oddS (x : Int) : Bool := x == 60 || x == 62 || x == 38 || x == 34 || decide (x < 32)
def preB (s : ByteArray) : Nat → Bool
  | 0 => false
  | k + 1 => preB s k || oddS (by_ s k)
theorem pre_all (s : ByteArray) : ∀ k, preB s k = false → ∀ j, j < k → oddS (by_ s j) = false
  | 0, _, j, hj => by omega
  | k + 1, h, j, hj => by
    unfold preB at h
    rw [Bool.or_eq_false_iff] at h
    by_cases e : j = k
    · rw [e]; exact h.2
    · exact pre_all s k h.1 j (by omega)
theorem written_id {esc : Int → ByteArray} (he : ∀ c, oddS c = false → esc c = ⟨#[]⟩) : ∀ l : List UInt8, (∀ y ∈ l, oddS (y.toNat : Int) = false) → writtenL esc l = l
  | [], _ => rfl
  | x :: l, h => by rw [written_self (he _ (h x (by simp))), written_id he l (fun y hy => h y (by simp [hy]))]
theorem odd_false {x : Int} (h : oddS x = false) : x ≠ 60 ∧ x ≠ 62 ∧ x ≠ 38 ∧ x ≠ 34 ∧ 32 ≤ x := by
  unfold oddS at h
  simp only [Bool.or_eq_false_iff, beq_eq_false_iff_ne, decide_eq_false_iff_not] at h
  omega
theorem escT_plain (c : Int) (h : oddS c = false) : escT c = ⟨#[]⟩ := by
  have := odd_false h
  exact (escT_iff c).2 (by omega)
theorem escV_plain (c : Int) (h : oddS c = false) : escV c = ⟨#[]⟩ := by
  have := odd_false h
  exact (escV_iff c).2 (by omega)
theorem mem_get (s : ByteArray) (y : UInt8) (h : y ∈ s.data.toList) : ∃ j, j < s.size ∧ s.get! j = y := by
  obtain ⟨j, hj, e⟩ := List.getElem_of_mem h
  have hj' : j < s.size := by simpa using hj
  refine ⟨j, hj', ?_⟩
  have := get!_of s j hj'
  rw [List.getElem?_eq_getElem hj, e] at this
  exact (Option.some.inj this).symm
theorem get_mem (s : ByteArray) (j : Nat) (h : j < s.size) : s.get! j ∈ s.data.toList := List.mem_of_getElem? (get!_of s j h)
theorem writtenB_id {esc : Int → ByteArray} (he : ∀ c, oddS c = false → esc c = ⟨#[]⟩) (s : ByteArray) (h : preB s s.size = false) : writtenB esc s = s := by
  unfold writtenB
  rw [written_id he s.data.toList (fun y hy => by
    obtain ⟨j, hj, rfl⟩ := mem_get s y hy
    exact pre_all s s.size h j hj)]
theorem list_of_bytes (l : List UInt8) : (⟨l.toArray⟩ : ByteArray).data.toList = l := by simp
theorem plainT (s : ByteArray) (k : Nat) (h : k < (writtenB escT s).size) : (by_ (writtenB escT s) k == 60) = false ∧ (by_ (writtenB escT s) k == 62) = false ∧ (by_ (writtenB escT s) k == 13) = false := by
  have hm := get_mem _ k h
  have e : (writtenB escT s).data.toList = writtenL escT s.data.toList := list_of_bytes _
  rw [e] at hm
  have := writtenT_none _ _ hm
  unfold oddT at this
  simp only [Bool.or_eq_false_iff, beq_eq_false_iff_ne] at this
  have go : ∀ n : Nat, n < 256 → (writtenB escT s).get! k ≠ UInt8.ofNat n → (by_ (writtenB escT s) k == (n : Int)) = false := fun n hn hne => by
    rw [beq_eq_false_iff_ne]
    intro e
    exact hne (u8_of _ n (by unfold by_ at e; omega))
  exact ⟨go 60 (by decide) this.1.1, go 62 (by decide) this.1.2, go 13 (by decide) this.2⟩
theorem plainV (s : ByteArray) (k : Nat) (h : k < (writtenB escV s).size) : (by_ (writtenB escV s) k == 60) = false ∧ (by_ (writtenB escV s) k == 34) = false ∧ (by_ (writtenB escV s) k == 9) = false ∧ (by_ (writtenB escV s) k == 10) = false ∧ (by_ (writtenB escV s) k == 13) = false := by
  have hm := get_mem _ k h
  have e : (writtenB escV s).data.toList = writtenL escV s.data.toList := list_of_bytes _
  rw [e] at hm
  have := writtenV_none _ _ hm
  unfold oddV at this
  simp only [Bool.or_eq_false_iff, beq_eq_false_iff_ne] at this
  have go : ∀ n : Nat, n < 256 → (writtenB escV s).get! k ≠ UInt8.ofNat n → (by_ (writtenB escV s) k == (n : Int)) = false := fun n hn hne => by
    rw [beq_eq_false_iff_ne]
    intro e
    exact hne (u8_of _ n (by unfold by_ at e; omega))
  exact ⟨go 60 (by decide) this.1.1.1.1, go 34 (by decide) this.1.1.1.2, go 9 (by decide) this.1.1.2, go 10 (by decide) this.1.2, go 13 (by decide) this.2⟩
theorem odd_cases (x : Int) : (oddS x = true ∧ (x == 60) = true) ∨ (oddS x = true ∧ (x == 60) = false ∧ (x == 62) = true) ∨ (oddS x = true ∧ (x == 60) = false ∧ (x == 62) = false ∧ (x == 38) = true) ∨ (oddS x = true ∧ (x == 60) = false ∧ (x == 62) = false ∧ (x == 38) = false ∧ (x == 34) = true)
    ∨ (oddS x = true ∧ (x == 60) = false ∧ (x == 62) = false ∧ (x == 38) = false ∧ (x == 34) = false ∧ x < 32) ∨ (oddS x = false ∧ (x == 60) = false ∧ (x == 62) = false ∧ (x == 38) = false ∧ (x == 34) = false ∧ ¬ x < 32) := by
  unfold oddS
  cases x == 60 <;> cases x == 62 <;> cases x == 38 <;> cases x == 34 <;> by_cases h : x < 32 <;> simp [h]

set_option maxHeartbeats 4000000 in
set_option maxRecDepth 100000 in
theorem referPlain_walk (s : ByteArray) (w : World) (hT : Tabs w) (hN : NamedAt w) (hs : s.size ≤ 1048576) :
    Calls Tryd.prog 9 #[.string s] w fun e w' => e = .returned (.bool true) ∧ Below w.heap.size w w' := by
  have A := Lib.hid (awake2_any w hT hN)
  have TA := Lib.hid (fun W => text_any s W (by omega))
  have QA := Lib.hid (fun W => quote_any s W (by omega))
  have PT := Lib.hid (plainT s)
  have PV := Lib.hid (plainV s)
  have SAME := Lib.hid (fun h => And.intro (writtenB_id escT_plain s h) (writtenB_id escV_plain s h))
  have zT := writtenB_size escT_size s
  have zV := writtenB_size escV_size s
  generalize writtenB escT s = t at *
  generalize writtenB escV s = q at *
  have IT := Lib.hid (fun k (h : k < t.size) (W : World) => index_str t k h W)
  have IQ := Lib.hid (fun k (h : k < q.size) (W : World) => index_str q k h W)
  have IS := Lib.hid (fun k (h : k < s.size) (W : World) => index_str s k h W)
  clear hT hN
  go_enter Tryd.func9, Tryd.ntmps9
  go_wp2_with (fail)
  refine A.out.mono ?_
  rintro e w1 ⟨rfl, hB1⟩
  go_wp2_with (fail)
  refine (TA.out _).mono ?_
  rintro e w2 ⟨rfl, hb2⟩
  have hB2 := below_cat hB1 hb2
  clear hB1 hb2
  go_wp2_with (fail)
  refine (QA.out _).mono ?_
  rintro e w3 ⟨rfl, hb3⟩
  have hB3 := Lib.hid (below_cat hB2 hb3)
  clear hB2 hb3
  go_wp2_with (fail)
  go_loop [6] (fun i => ∃ k : Nat, i = .int .i64 k ∧ k ≤ t.size) (fun i => t.size - (intOf i).toNat)
  case atStart => exact ⟨0, rfl, Nat.zero_le _⟩
  case round =>
    obtain ⟨k, rfl, hk⟩ := hrel
    by_cases hlt : k < t.size
    · have hlz : (k : Int) < (t.size : Int) := by omega
      have ix := IT.out k hlt
      obtain ⟨x1, x2, x3⟩ := PT.out k hlt
      generalize by_ t k = x at *
      go_wp2_with (fail)
      go_round
      case rel =>
        go_light
        exact ⟨k + 1, by go_num, by omega⟩
      case measure => simp [intOf]; omega
    · have hlz : ¬ (k : Int) < (t.size : Int) := by omega
      clear hlt hk
      go_wp2_with (fail)
      go_loop [7] (fun i => ∃ k : Nat, i = .int .i64 k ∧ k ≤ q.size) (fun i => q.size - (intOf i).toNat)
      case atStart => exact ⟨0, rfl, Nat.zero_le _⟩
      case round =>
        obtain ⟨k, rfl, hk⟩ := hrel
        by_cases hlt : k < q.size
        · have hlz : (k : Int) < (q.size : Int) := by omega
          have ix := IQ.out k hlt
          obtain ⟨x1, x2, x3, x4, x5⟩ := PV.out k hlt
          generalize by_ q k = x at *
          go_wp2_with (fail)
          go_round
          case rel =>
            go_light
            exact ⟨k + 1, by go_num, by omega⟩
          case measure => simp [intOf]; omega
        · have hlz : ¬ (k : Int) < (q.size : Int) := by omega
          clear hlt hk
          go_wp2_with (fail)
          go_loop [5, 8] (fun v i => ∃ k : Nat, i = .int .i64 k ∧ v = .bool (preB s k) ∧ k ≤ s.size) (fun _ i => s.size - (intOf i).toNat)
          case atStart => exact ⟨0, rfl, rfl, Nat.zero_le _⟩
          case round =>
            obtain ⟨k, rfl, rfl, hk⟩ := hrel
            by_cases hlt : k < s.size
            · have hlz : (k : Int) < (s.size : Int) := by omega
              have ix := IS.out k hlt
              have hstep : preB s (k + 1) = (preB s k || oddS (by_ s k)) := rfl
              obtain ⟨x, hx⟩ : ∃ x, by_ s k = x := ⟨_, rfl⟩
              rw [hx] at ix hstep
              clear hx
              cases ho : preB s k
              · rw [ho] at hstep
                rcases odd_cases x with ⟨y, x1⟩ | ⟨y, x1, x2⟩ | ⟨y, x1, x2, x3⟩ | ⟨y, x1, x2, x3, x4⟩ | ⟨y, x1, x2, x3, x4, x5⟩ | ⟨y, x1, x2, x3, x4, x5⟩
                all_goals
                  rw [y] at hstep
                  have HS := Lib.hid hstep
                  clear hstep y ho
                  go_wp2_with (fail)
                  go_round
                  case rel =>
                    go_light
                    exact ⟨k + 1, by go_num, by rw [HS.out]; rfl, by omega⟩
                  case measure => simp [intOf]; omega
              · rw [ho] at hstep
                have HS := Lib.hid hstep
                clear hstep ho
                go_wp2_with (fail)
                go_round
                case rel =>
                  go_light
                  exact ⟨k + 1, by go_num, by rw [HS.out]; rfl, by omega⟩
                case measure => simp [intOf]; omega
            · have hlz : ¬ (k : Int) < (s.size : Int) := by omega
              obtain rfl : k = s.size := by omega
              clear hlt hk
              cases ho : preB s s.size
              · obtain ⟨e1, e2⟩ := SAME.out ho
                clear ho
                subst e1
                subst e2
                go_wp2_with (fail)
                all_goals (go_ret; exact ⟨ret_bool (by simp), hB3.out⟩)
              · clear ho
                go_wp2_with (fail)
                all_goals (go_ret; exact ⟨ret_bool (by simp), hB3.out⟩)
end Go.Proofs.YtdomhjjoijkeaaaDoor
