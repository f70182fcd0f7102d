/- Proved here: plain facts on how the document writes texts and values: byte for byte as refer does; no program is named. | Proved here: what the document's written makes of a text: byte for byte what refer's write makes of it; what was there stays. -/
import Derived.Test.YteipiaefamfleaaGreatDoorM0
import Derived.Test.YteipiaefamfleaaGreatDoorM4
import Derived.BigGuardPart
namespace Go.Proofs.YteipiaefamfleaaGreatDoor
open Go.RowKit

def txtB : ByteArray := ⟨#[38, 60, 62, 13]⟩
def valB : ByteArray := ⟨#[38, 60, 34, 9, 10, 13]⟩
def refT : Nat → ByteArray
  | 0 => ⟨#[38, 97, 109, 112, 59]⟩
  | 1 => ⟨#[38, 108, 116, 59]⟩
  | 2 => ⟨#[38, 103, 116, 59]⟩
  | 3 => ⟨#[38, 35, 49, 51, 59]⟩
  | 4 => ⟨#[]⟩
  | _ => ⟨#[]⟩
def refV : Nat → ByteArray
  | 0 => ⟨#[38, 97, 109, 112, 59]⟩
  | 1 => ⟨#[38, 108, 116, 59]⟩
  | 2 => ⟨#[38, 113, 117, 111, 116, 59]⟩
  | 3 => ⟨#[38, 35, 57, 59]⟩
  | 4 => ⟨#[38, 35, 49, 48, 59]⟩
  | _ => ⟨#[38, 35, 49, 51, 59]⟩
/-- What stands for c behind k looks. -/
def tGo (bs : ByteArray) (refs : Nat → ByteArray) (c : Int) (x : ByteArray) : Nat → ByteArray
  | 0 => x
  | k + 1 => if c = by_ bs k then refs k else tGo bs refs c x k
theorem tGo_yes {bs : ByteArray} {refs : Nat → ByteArray} {c : Int} {x : ByteArray} {k : Nat} (h : c = by_ bs k) : tGo bs refs c x (k + 1) = refs k := by rw [tGo, if_pos h]
theorem tGo_no {bs : ByteArray} {refs : Nat → ByteArray} {c : Int} {x : ByteArray} {k : Nat} (h : ¬ c = by_ bs k) : tGo bs refs c x (k + 1) = tGo bs refs c x k := by rw [tGo, if_neg h]
def oneB (esc : Int → ByteArray) (c : Int) (x : ByteArray) : ByteArray := if esc c = ⟨#[]⟩ then x else esc c
theorem tGo_text (c : Int) (x : ByteArray) : tGo txtB refT c x txtB.size = oneB escT c x := by
  show tGo txtB refT c x 4 = _
  have b0 : by_ txtB 0 = 38 := rfl
  have b1 : by_ txtB 1 = 60 := rfl
  have b2 : by_ txtB 2 = 62 := rfl
  have b3 : by_ txtB 3 = 13 := rfl
  simp only [tGo, b0, b1, b2, b3]
  unfold oneB escT
  by_cases h0 : c = 38
  · subst h0; rfl
  by_cases h1 : c = 60
  · subst h1; rfl
  by_cases h2 : c = 62
  · subst h2; rfl
  by_cases h3 : c = 13
  · subst h3; rfl
  simp [h0, h1, h2, h3]
theorem tGo_value (c : Int) (x : ByteArray) : tGo valB refV c x valB.size = oneB escV c x := by
  show tGo valB refV c x 6 = _
  have b0 : by_ valB 0 = 38 := rfl
  have b1 : by_ valB 1 = 60 := rfl
  have b2 : by_ valB 2 = 34 := rfl
  have b3 : by_ valB 3 = 9 := rfl
  have b4 : by_ valB 4 = 10 := rfl
  have b5 : by_ valB 5 = 13 := rfl
  simp only [tGo, b0, b1, b2, b3, b4, b5]
  unfold oneB escV
  by_cases h0 : c = 38
  · subst h0; rfl
  by_cases h1 : c = 60
  · subst h1; rfl
  by_cases h2 : c = 34
  · subst h2; rfl
  by_cases h3 : c = 9
  · subst h3; rfl
  by_cases h4 : c = 10
  · subst h4; rfl
  by_cases h5 : c = 13
  · subst h5; rfl
  simp [h0, h1, h2, h3, h4, h5]
theorem wacc_one (esc : Int → ByteArray) (s : ByteArray) (k : Nat) (o : ByteArray) (h : k < s.size) (ha : WAcc esc s k o.data.toList) : WAcc esc s (k + 1) (o ++ oneB esc (by_ s k) (s.extract k (k + 1))).data.toList := by
  have e : (o ++ oneB esc (by_ s k) (s.extract k (k + 1))).data.toList = o.data.toList ++ (oneB esc (by_ s k) (s.extract k (k + 1))).data.toList := by simp
  rw [e]
  unfold oneB
  by_cases he : esc (by_ s k) = ⟨#[]⟩
  · rw [if_pos he]
    have h1 : (s.extract k (k + 1)).data.toList = [s.get! k] := by
      have := extract_list s k 1
      rw [Lib.toList_data] at this
      rw [this, drop_at s k h]
      rfl
    rw [h1]
    exact wacc_self esc s k _ h he ha
  · rw [if_neg he]
    exact wacc_esc esc s k _ h he ha
theorem oneB_size (esc : Int → ByteArray) (s : ByteArray) (k : Nat) (h : k < s.size) (he : ∀ c, (esc c).size ≤ 6) : (oneB esc (by_ s k) (s.extract k (k + 1))).size ≤ 6 := by
  unfold oneB
  split
  · simp; omega
  · exact he _
end Go.Proofs.YteipiaefamfleaaGreatDoor
namespace Go.Proofs.YteipiaefamfleaaGreatDoor
open Go.RowKit

theorem index_str (s : ByteArray) (k : Nat) (h : k < s.size) (W : World) : (Instr.index 9 (.string s) (.int .i64 (k : Int))).run Tryz.prog W = .ok (.int .u8 (by_ s k)) W := by
  rw [run_index_string W 9 s .i64 (k : Int) Tryz.underlying9]
  rw [by_get s k h]
  simp [h]

def WtRel (esc : Int → ByteArray) (s : ByteArray) (w : World) (g : Nat) (cs : Nat → ByteArray) (i v : Value) (wr : World) : Prop := ∃ (k : Nat) (o : ByteArray), i = .int .i64 k ∧ v = .string o ∧ k ≤ s.size ∧ WAcc esc s k o.data.toList ∧ o.size ≤ 6 * k ∧ Below w.heap.size w wr ∧ ∀ j, j < 6 → wr.cell? ⟨g, j, none⟩ = some (.string (cs j))
def WkRel (bs : ByteArray) (refs : Nat → ByteArray) (c : Int) (x : ByteArray) (w : World) (g : Nat) (i v : Value) (wr : World) : Prop := ∃ k : Nat, i = .int .i64 k ∧ v = .string (tGo bs refs c x k) ∧ k ≤ bs.size ∧ Below w.heap.size w wr ∧ ∀ j, j < 6 → wr.cell? ⟨g, j, none⟩ = some (.string (refs j))
set_option maxHeartbeats 4000000 in
set_option maxRecDepth 100000 in
theorem writtenR_any (esc : Int → ByteArray) (bs : ByteArray) (refs : Nat → ByteArray) (s : ByteArray) (w : World) (hs : s.size ≤ 20000000000000) (hbs : bs.size ≤ 6) (he : ∀ c, (esc c).size ≤ 6) (hone : ∀ c x, tGo bs refs c x bs.size = oneB esc c x) :
    Calls Tryz.prog 21 #[.string s, .string bs, .agg #[.string (refs 0), .string (refs 1), .string (refs 2), .string (refs 3), .string (refs 4), .string (refs 5)]] w fun e w' => e = .returned (.string (writtenB esc s)) ∧ Below w.heap.size w w' := by
  have HO := Lib.hid hone
  have HE := Lib.hid he
  have C0 : ∀ j, j < 6 → (w.alloc (.cells #[.string (refs 0), .string (refs 1), .string (refs 2), .string (refs 3), .string (refs 4), .string (refs 5)] 55)).cell? ⟨w.heap.size, j, none⟩ = some (.string (refs j)) := fun j hj => by
    rw [cell_of_row _ _ _ _ 55 (0, 0) (heap_alloc_new w _)]
    match j, hj with
    | 0, _ => rfl
    | 1, _ => rfl
    | 2, _ => rfl
    | 3, _ => rfl
    | 4, _ => rfl
    | 5, _ => rfl
  have H0 := Lib.hid C0
  clear hone he C0
  go_enter Tryz.func21, Tryz.ntmps21
  go_wp2_with (fail)
  go_loopw [8, 7] (fun i v wr => WtRel esc s w w.heap.size refs i v wr) (fun i _ _ => s.size - (intOf i).toNat)
  case atStart => exact ⟨0, ⟨#[]⟩, rfl, rfl, Nat.zero_le _, wacc_zero esc s, Nat.zero_le _, (Below.refl _ _).alloc (Nat.le_refl _) _, H0.out⟩
  case round =>
    obtain ⟨i, o, rfl, rfl, hi, hacc, hlen, hb, hcells⟩ := hrel
    have AC := Lib.hid hacc
    have CE := Lib.hid hcells
    clear hacc hcells
    by_cases hlt : i < s.size
    · have hlz : (i : Int) < (s.size : Int) := by omega
      have hiz : (0 : Int) ≤ (i : Int) := by omega
      have hiw : (i : Int) + 1 ≤ (s.size : Int) := by omega
      have hi2 : (i : Int) ≤ (i : Int) + 1 := by omega
      have hi3 : ((i : Int) + 1).toNat = i + 1 := by omega
      have hid1 := fun W => index_str s i hlt W
      obtain ⟨c, hc⟩ : ∃ c, by_ s i = c := ⟨_, rfl⟩
      have HC := Lib.hid hc
      rw [hc] at hid1
      obtain ⟨x, hx⟩ : ∃ x, s.extract i (i + 1) = x := ⟨_, rfl⟩
      have HX := Lib.hid hx
      clear hc
      go_wp2_with (fail)
      clear hx
      go_loopw [10, 9] (fun i v wr => WkRel bs refs c x w w.heap.size i v wr) (fun i _ _ => bs.size - (intOf i).toNat)
      case atStart => exact ⟨0, rfl, rfl, Nat.zero_le _, hb, CE.out⟩
      case round =>
        obtain ⟨k, rfl, rfl, hk, hb2, hc2⟩ := hrel
        have CC := Lib.hid hc2
        clear hc2 hb
        by_cases hlk : k < bs.size
        · have hkz : (k : Int) < (bs.size : Int) := by omega
          have hk0 : (0 : Int) ≤ (k : Int) := by omega
          have hk6 : (k : Int) < 6 := by omega
          have hid2 := fun W => index_str bs k hlk W
          obtain ⟨d, hd⟩ : ∃ d, by_ bs k = d := ⟨_, rfl⟩
          rw [hd] at hid2
          have cell := CC.out k (by omega)
          by_cases hcd : c = d
          · have hq : (c == d) = true := by rw [beq_iff_eq]; exact hcd
            have HT := Lib.hid (tGo_yes (refs := refs) (x := x) (hcd.trans hd.symm))
            clear hcd hd
            go_wp2_with (fail)
            go_region
            go_wp2_with (fail)
            exact ⟨⟨k + 1, by go_num, by rw [HT.out], by omega, hb2.drew, fun j hj => CC.out j hj⟩, by simp [intOf]; omega⟩
          · have hq : (c == d) = false := by rw [beq_eq_false_iff_ne]; exact hcd
            have HT := Lib.hid (tGo_no (refs := refs) (x := x) (fun e => hcd (e.trans hd)))
            clear hcd hd
            go_wp2_with (fail)
            go_region
            go_wp2_with (fail)
            exact ⟨⟨k + 1, by go_num, by rw [HT.out], by omega, hb2.drew, fun j hj => CC.out j hj⟩, by simp [intOf]; omega⟩
        · have hke : k = bs.size := by omega
          have hT := HO.out c x
          have hsz := oneB_size esc s i hlt HE.out
          have hW := wacc_one esc s i o hlt AC.out
          rw [HC.out, HX.out] at hW hsz
          rw [← hT, ← hke] at hW hsz
          have HW := Lib.hid hW
          obtain ⟨t, ht⟩ : ∃ t, tGo bs refs c x k = t := ⟨_, rfl⟩
          rw [ht] at HW hsz
          simp only [ht]
          clear hT hW ht hke
          have hkz : ¬ (k : Int) < (bs.size : Int) := by omega
          go_wp2_with (fail)
          exact ⟨⟨i + 1, o ++ t, by go_num, rfl, by omega, HW.out, by rw [ByteArray.size_append]; omega, hb2, CC.out⟩, by simp [intOf]; omega⟩
    · have hout := wacc_end esc s i _ hlt AC.out
      have HOUT := Lib.hid hout
      have hlz : ¬ (i : Int) < (s.size : Int) := by omega
      clear hout
      go_wp2_with (fail)
      go_ret
      exact ⟨by unfold writtenB; rw [← HOUT.out]; simp [Array.getD], hb⟩

theorem reftext_any (s : ByteArray) (w : World) (hs : s.size ≤ 20000000000000) :
    Calls Tryz.prog 15 #[.string s] w fun e w' => e = .returned (.string (writtenB escT s)) ∧ Below w.heap.size w w' := by
  have H := Lib.hid (writtenR_any escT txtB refT s w hs (by decide) escT_size tGo_text)
  go_enter Tryz.func15, Tryz.ntmps15
  go_wp2_with (fail)
  refine H.out.mono ?_
  rintro e w1 ⟨rfl, hb⟩
  go_wp2_with (fail)
  go_ret
  exact ⟨rfl, hb⟩
theorem refquote_any (s : ByteArray) (w : World) (hs : s.size ≤ 20000000000000) :
    Calls Tryz.prog 13 #[.string s] w fun e w' => e = .returned (.string (writtenB escV s)) ∧ Below w.heap.size w w' := by
  have H := Lib.hid (writtenR_any escV valB refV s w hs (by decide) escV_size tGo_value)
  go_enter Tryz.func13, Tryz.ntmps13
  go_wp2_with (fail)
  refine H.out.mono ?_
  rintro e w1 ⟨rfl, hb⟩
  go_wp2_with (fail)
  go_ret
  exact ⟨rfl, hb⟩
end Go.Proofs.YteipiaefamfleaaGreatDoor
