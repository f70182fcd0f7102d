/- Proved here: what refer's ReadText answers of any bytes: just what they say from place to place, or the first fault; what was there stays. | Proved here: what refer's ReadValue answers of any bytes: just what they say from place to place, or the first fault; what was there stays. -/
import Derived.Test.YteipiaefamfleaaGreatDoorM7
import Derived.Test.YteipiaefamfleaaGreatDoorM0
import Derived.Lib.OthersKept
namespace Go.Proofs.YteipiaefamfleaaGreatDoor
open Go.RowKit

def RdRel_text (s : ByteArray) (w : World) (ANS : List UInt8 × Nat × Int) (i : Value) (wr : World) : Prop := ∃ (k pos : Nat) (out : List UInt8), i = .int .i64 pos ∧ readGo (stepT s) s.size k pos out = ANS ∧ s.size ≤ pos + k ∧ pos ≤ s.size ∧ out.length ≤ pos ∧ Lib.IsBuilderF 111 5 w.heap.size w.heap.size (Lib.byteCells out) wr ∧ Below w.heap.size w wr
theorem ret_str {A : List UInt8 × Nat × Int} {x : List UInt8} {y : Nat} {z : Int} (h : (x, y, z) = A) : Ending.returned (.tuple #[.string ⟨x.toArray⟩, .int .i64 (y : Int), .int .i64 z]) = .returned (.tuple #[.string ⟨A.1.toArray⟩, .int .i64 (A.2.1 : Int), .int .i64 A.2.2]) := by rw [← h]
theorem _root_.Go.Lib.IsBuilderF.far {T e : TypeId} {B b : Nat} {bs : List Value} {w w' : World} (h : Lib.IsBuilderF T e B b bs w) (hb : Below w.heap.size w w') : Lib.IsBuilderF T e B b bs w' := by
  have hg : w.grownBy w' none := ⟨hb.os, hb.tape, hb.output, hb.size, fun i hi _ => hb.block i hi⟩
  have go : ∀ p, Lib.BuilderAtF T e B b p bs w → Lib.BuilderAtF T e B b p bs w' := by
    rintro p ⟨h1, v, h2, h3, h4⟩
    have hlt : b < w.heap.size := by
      rcases Nat.lt_or_ge b w.heap.size with h' | h'
      · exact h'
      · rw [Array.getElem?_eq_none h'] at h2; cases h2
    exact ⟨h1, v, (hb.block b hlt).trans h2, h3.kept hg (by cases v.ownBlock <;> simp), h4⟩
  exact h.elim (fun x => .inl (go _ x)) (fun x => .inr (go _ x))
set_option maxHeartbeats 4000000 in
set_option maxRecDepth 100000 in
theorem text_some (s : ByteArray) (b off cap : Nat) (w : World) (hs : s.size ≤ 140737488354000) (hcap : s.size ≤ cap) (hT : Tabs w) (hN : NamedAt w) (hp : ∀ j, j < s.size → w.cell? ⟨b, off + j, none⟩ = some (.int .u8 (by_ s j))) :
    Calls Tryz.prog 68 #[.slice (some ⟨b, off, none⟩) s.size cap, .func (.func 69) #[] #[]] w fun e w' => e = .returned (.tuple #[.string ⟨(readF (stepT s) s.size).1.toArray⟩, .int .i64 (readF (stepT s) s.size).2.1, .int .i64 (readF (stepT s) s.size).2.2]) ∧ Below w.heap.size w w' := by
  obtain ⟨ANS, hA⟩ : ∃ A, readF (stepT s) s.size = A := ⟨_, rfl⟩
  rw [hA]
  have HA := Lib.hid hA
  have F0 := Lib.hid (Lib.IsBuilderF.of (Lib.fresh_isBuilder 111 5 w))
  have HP := Lib.hid hp
  have HT := Lib.hid hT
  have HN := Lib.hid hN
  clear hA hp hT hN
  go_enter Tryz.func68, Tryz.ntmps68
  go_wp2_with (fail)
  go_loopw [8] (fun i wr => RdRel_text s w ANS i wr) (fun i _ => s.size - (intOf i).toNat)
  case atStart => exact ⟨s.size, 0, [], rfl, HA.out, by omega, Nat.zero_le _, Nat.le_refl _, F0.out, (Below.refl _ _).alloc (Nat.le_refl _) _⟩
  case round =>
    obtain ⟨k, pos, out, rfl, hgo, hk, hpos, hlen, hbd, hb⟩ := hrel
    by_cases hlt : pos < s.size
    · have hlz : (pos : Int) < (s.size : Int) := by omega
      obtain ⟨k, rfl⟩ : ∃ k', k = k' + 1 := ⟨k - 1, by omega⟩
      have N := Lib.hid (text_in s b off cap pos wr hs hcap hlt (HT.out.below hb) (HN.out.below hb) (fun j hj => hb_cell hb (HP.out j hj)))
      have hok := stepT_ok s pos hlt
      have G := Lib.hid hgo
      clear hgo
      obtain ⟨r, hr⟩ : ∃ r, stepT s pos = r := ⟨_, rfl⟩
      rw [hr] at N hok
      obtain ⟨c, p2, e2⟩ := r
      simp only at N
      by_cases he : e2 = 0
      · subst he
        have hst := Lib.hid ((readGo_step (stepT s) s.size k pos out hlt (by rw [hr])).symm.trans G.out)
        rw [hr] at hst
        simp only at hst
        obtain ⟨o1, o2, o3, o4, o5⟩ := hok rfl
        simp only at o1 o2 o3 o4 o5
        obtain ⟨p, rfl⟩ : ∃ p : Nat, p2 = p := ⟨p2.toNat, by omega⟩
        rw [Int.toNat_natCast] at hst
        clear G hok hr
        have hpz : (p : Int) ≤ (s.size : Int) := o2
        have hpp : pos < p := by omega
        clear o1 o2
        have N2 := Lib.hid (fun w1 (hb1 : Below wr.heap.size wr w1) => Tryz.Builder_WriteRune_k w.heap.size w.heap.size (Lib.byteCells out) c (by omega) (by omega) w1 (hbd.far hb1) (by rw [byteCells_length]; omega) (Nat.le_trans hb.size hb1.size))
        clear hbd
        go_wp2_with (fail)
        refine N.out.mono ?_
        rintro e w1 ⟨rfl, hb1⟩
        have hB1 := below_cat hb hb1
        have N3 := Lib.hid (N2.out _ hb1)
        clear N2 hb1
        go_wp2_with (fail)
        refine N3.out.mono ?_
        rintro e w2 ⟨rfl, hb2, hb3, _⟩
        have hB3 := hB1.trans hb3
        have HB2 := Lib.hid hb2
        clear hb2 hb3
        go_wp2_with (fail)
        go_roundw
        case rel =>
          go_light
          exact ⟨k, p, out ++ Lib.encodeRune c, rfl, hst.out, by omega, by omega, by simp; omega, .inr (by rw [byteCells_append, Lib.byteCells_encodeRune]; exact HB2.out), hB3⟩
        case measure => simp [intOf]; omega
      · have hst := Lib.hid ((readGo_bad (stepT s) s.size k pos out hlt (by rw [hr]; exact he)).symm.trans G.out)
        rw [hr] at hst
        simp only at hst
        have hf : (e2 == 0) = false := by rw [beq_eq_false_iff_ne]; exact he
        clear G hok hr hbd he
        go_wp2_with (fail)
        refine N.out.mono ?_
        rintro e w1 ⟨rfl, hb1⟩
        have hB1 := below_cat hb hb1
        clear hb1
        go_wp2_with (fail)
        go_ret3
        exact ⟨ret_str hst.out, hB1⟩
    · have hst := Lib.hid ((readGo_end (stepT s) s.size k pos out hlt).symm.trans hgo)
      have HS := Lib.hid (Tryz.Builder_String_any_k w.heap.size w.heap.size out wr hbd hb.size)
      clear hgo hbd
      go_wp2_with (fail)
      refine HS.out.mono ?_
      rintro e w1 ⟨rfl, _, hb2, _⟩
      have hB := hb.trans hb2
      clear hb2
      go_wp2_with (fail)
      go_ret3
      exact ⟨ret_str hst.out, hB⟩
theorem text_none (p : Option Addr) (cap : Nat) (w : World) :
    Calls Tryz.prog 68 #[.slice p 0 cap, .func (.func 69) #[] #[]] w fun e w' => e = .returned (.tuple #[.string ⟨#[]⟩, .int .i64 0, .int .i64 0]) ∧ Below w.heap.size w w' := by
  have F0 := Lib.hid (Lib.IsBuilderF.of (Lib.fresh_isBuilder 111 5 w))
  have hb0 := Lib.hid (show Below w.heap.size w (w.alloc (.cells #[.pointer none, .slice none 0 0] 111)) from (Below.refl _ _).alloc (Nat.le_refl _) _)
  have HS := Lib.hid (Tryz.Builder_String_any_k w.heap.size w.heap.size [] _ F0.out hb0.out.size)
  go_enter Tryz.func68, Tryz.ntmps68
  go_wp2_with (fail)
  go_loop [8] (fun i => i = .int .i64 0) (fun _ => 0)
  case atStart => rfl
  case round =>
    subst hrel
    go_wp2_with (fail)
    refine HS.out.mono ?_
    rintro e w1 ⟨rfl, _, hb2, _⟩
    have hB := hb0.out.trans hb2
    clear hb2
    go_wp2_with (fail)
    go_ret3
    exact ⟨rfl, hB⟩
theorem text_read (p : Option Addr) (s : ByteArray) (cap : Nat) (w : World) (hs : s.size ≤ 140737488354000) (hcap : s.size ≤ cap) (hT : Tabs w) (hN : NamedAt w) (hp : HoldsB w p s) :
    Calls Tryz.prog 51 #[.slice p s.size cap] w fun e w' => e = .returned (.tuple #[.string ⟨(readF (stepT s) s.size).1.toArray⟩, .int .i64 (readF (stepT s) s.size).2.1, .int .i64 (readF (stepT s) s.size).2.2]) ∧ Below w.heap.size w w' := by
  have H : Calls Tryz.prog 68 #[.slice p s.size cap, .func (.func 69) #[] #[]] w fun e w' => e = .returned (.tuple #[.string ⟨(readF (stepT s) s.size).1.toArray⟩, .int .i64 (readF (stepT s) s.size).2.1, .int .i64 (readF (stepT s) s.size).2.2]) ∧ Below w.heap.size w w' := by
    by_cases h0 : 0 < s.size
    · obtain ⟨b, off, rfl, hc⟩ := hp h0
      exact text_some s b off cap w hs hcap hT hN hc
    · have hz : s.size = 0 := by omega
      rw [hz]
      exact text_none p cap w
  have HH := Lib.hid H
  clear H hp hT hN
  go_enter Tryz.func51, Tryz.ntmps51
  go_wp2_with (fail)
  refine HH.out.mono ?_
  rintro e w1 ⟨rfl, hb⟩
  go_wp2_with (fail)
  go_ret3
  exact ⟨rfl, hb⟩
end Go.Proofs.YteipiaefamfleaaGreatDoor
namespace Go.Proofs.YteipiaefamfleaaGreatDoor
open Go.RowKit

def RdRel_value (s : ByteArray) (w : World) (ANS : List UInt8 × Nat × Int) (i : Value) (wr : World) : Prop := ∃ (k pos : Nat) (out : List UInt8), i = .int .i64 pos ∧ readGo (stepV s) s.size k pos out = ANS ∧ s.size ≤ pos + k ∧ pos ≤ s.size ∧ out.length ≤ pos ∧ Lib.IsBuilderF 111 5 w.heap.size w.heap.size (Lib.byteCells out) wr ∧ Below w.heap.size w wr
set_option maxHeartbeats 4000000 in
set_option maxRecDepth 100000 in
theorem value_some (s : ByteArray) (b off cap : Nat) (w : World) (hs : s.size ≤ 140737488354000) (hcap : s.size ≤ cap) (hT : Tabs w) (hN : NamedAt w) (hp : ∀ j, j < s.size → w.cell? ⟨b, off + j, none⟩ = some (.int .u8 (by_ s j))) :
    Calls Tryz.prog 68 #[.slice (some ⟨b, off, none⟩) s.size cap, .func (.func 79) #[] #[]] w fun e w' => e = .returned (.tuple #[.string ⟨(readF (stepV s) s.size).1.toArray⟩, .int .i64 (readF (stepV s) s.size).2.1, .int .i64 (readF (stepV s) s.size).2.2]) ∧ Below w.heap.size w w' := by
  obtain ⟨ANS, hA⟩ : ∃ A, readF (stepV s) s.size = A := ⟨_, rfl⟩
  rw [hA]
  have HA := Lib.hid hA
  have F0 := Lib.hid (Lib.IsBuilderF.of (Lib.fresh_isBuilder 111 5 w))
  have HP := Lib.hid hp
  have HT := Lib.hid hT
  have HN := Lib.hid hN
  clear hA hp hT hN
  go_enter Tryz.func68, Tryz.ntmps68
  go_wp2_with (fail)
  go_loopw [8] (fun i wr => RdRel_value s w ANS i wr) (fun i _ => s.size - (intOf i).toNat)
  case atStart => exact ⟨s.size, 0, [], rfl, HA.out, by omega, Nat.zero_le _, Nat.le_refl _, F0.out, (Below.refl _ _).alloc (Nat.le_refl _) _⟩
  case round =>
    obtain ⟨k, pos, out, rfl, hgo, hk, hpos, hlen, hbd, hb⟩ := hrel
    by_cases hlt : pos < s.size
    · have hlz : (pos : Int) < (s.size : Int) := by omega
      obtain ⟨k, rfl⟩ : ∃ k', k = k' + 1 := ⟨k - 1, by omega⟩
      have N := Lib.hid (value_in s b off cap pos wr hs hcap hlt (HT.out.below hb) (HN.out.below hb) (fun j hj => hb_cell hb (HP.out j hj)))
      have hok := stepV_ok s pos hlt
      have G := Lib.hid hgo
      clear hgo
      obtain ⟨r, hr⟩ : ∃ r, stepV s pos = r := ⟨_, rfl⟩
      rw [hr] at N hok
      obtain ⟨c, p2, e2⟩ := r
      simp only at N
      by_cases he : e2 = 0
      · subst he
        have hst := Lib.hid ((readGo_step (stepV s) s.size k pos out hlt (by rw [hr])).symm.trans G.out)
        rw [hr] at hst
        simp only at hst
        obtain ⟨o1, o2, o3, o4, o5⟩ := hok rfl
        simp only at o1 o2 o3 o4 o5
        obtain ⟨p, rfl⟩ : ∃ p : Nat, p2 = p := ⟨p2.toNat, by omega⟩
        rw [Int.toNat_natCast] at hst
        clear G hok hr
        have hpz : (p : Int) ≤ (s.size : Int) := o2
        have hpp : pos < p := by omega
        clear o1 o2
        have N2 := Lib.hid (fun w1 (hb1 : Below wr.heap.size wr w1) => Tryz.Builder_WriteRune_k w.heap.size w.heap.size (Lib.byteCells out) c (by omega) (by omega) w1 (hbd.far hb1) (by rw [byteCells_length]; omega) (Nat.le_trans hb.size hb1.size))
        clear hbd
        go_wp2_with (fail)
        refine N.out.mono ?_
        rintro e w1 ⟨rfl, hb1⟩
        have hB1 := below_cat hb hb1
        have N3 := Lib.hid (N2.out _ hb1)
        clear N2 hb1
        go_wp2_with (fail)
        refine N3.out.mono ?_
        rintro e w2 ⟨rfl, hb2, hb3, _⟩
        have hB3 := hB1.trans hb3
        have HB2 := Lib.hid hb2
        clear hb2 hb3
        go_wp2_with (fail)
        go_roundw
        case rel =>
          go_light
          exact ⟨k, p, out ++ Lib.encodeRune c, rfl, hst.out, by omega, by omega, by simp; omega, .inr (by rw [byteCells_append, Lib.byteCells_encodeRune]; exact HB2.out), hB3⟩
        case measure => simp [intOf]; omega
      · have hst := Lib.hid ((readGo_bad (stepV s) s.size k pos out hlt (by rw [hr]; exact he)).symm.trans G.out)
        rw [hr] at hst
        simp only at hst
        have hf : (e2 == 0) = false := by rw [beq_eq_false_iff_ne]; exact he
        clear G hok hr hbd he
        go_wp2_with (fail)
        refine N.out.mono ?_
        rintro e w1 ⟨rfl, hb1⟩
        have hB1 := below_cat hb hb1
        clear hb1
        go_wp2_with (fail)
        go_ret3
        exact ⟨ret_str hst.out, hB1⟩
    · have hst := Lib.hid ((readGo_end (stepV s) s.size k pos out hlt).symm.trans hgo)
      have HS := Lib.hid (Tryz.Builder_String_any_k w.heap.size w.heap.size out wr hbd hb.size)
      clear hgo hbd
      go_wp2_with (fail)
      refine HS.out.mono ?_
      rintro e w1 ⟨rfl, _, hb2, _⟩
      have hB := hb.trans hb2
      clear hb2
      go_wp2_with (fail)
      go_ret3
      exact ⟨ret_str hst.out, hB⟩
theorem value_none (p : Option Addr) (cap : Nat) (w : World) :
    Calls Tryz.prog 68 #[.slice p 0 cap, .func (.func 79) #[] #[]] w fun e w' => e = .returned (.tuple #[.string ⟨#[]⟩, .int .i64 0, .int .i64 0]) ∧ Below w.heap.size w w' := by
  have F0 := Lib.hid (Lib.IsBuilderF.of (Lib.fresh_isBuilder 111 5 w))
  have hb0 := Lib.hid (show Below w.heap.size w (w.alloc (.cells #[.pointer none, .slice none 0 0] 111)) from (Below.refl _ _).alloc (Nat.le_refl _) _)
  have HS := Lib.hid (Tryz.Builder_String_any_k w.heap.size w.heap.size [] _ F0.out hb0.out.size)
  go_enter Tryz.func68, Tryz.ntmps68
  go_wp2_with (fail)
  go_loop [8] (fun i => i = .int .i64 0) (fun _ => 0)
  case atStart => rfl
  case round =>
    subst hrel
    go_wp2_with (fail)
    refine HS.out.mono ?_
    rintro e w1 ⟨rfl, _, hb2, _⟩
    have hB := hb0.out.trans hb2
    clear hb2
    go_wp2_with (fail)
    go_ret3
    exact ⟨rfl, hB⟩
theorem value_read (p : Option Addr) (s : ByteArray) (cap : Nat) (w : World) (hs : s.size ≤ 140737488354000) (hcap : s.size ≤ cap) (hT : Tabs w) (hN : NamedAt w) (hp : HoldsB w p s) :
    Calls Tryz.prog 66 #[.slice p s.size cap] w fun e w' => e = .returned (.tuple #[.string ⟨(readF (stepV s) s.size).1.toArray⟩, .int .i64 (readF (stepV s) s.size).2.1, .int .i64 (readF (stepV s) s.size).2.2]) ∧ Below w.heap.size w w' := by
  have H : Calls Tryz.prog 68 #[.slice p s.size cap, .func (.func 79) #[] #[]] w fun e w' => e = .returned (.tuple #[.string ⟨(readF (stepV s) s.size).1.toArray⟩, .int .i64 (readF (stepV s) s.size).2.1, .int .i64 (readF (stepV s) s.size).2.2]) ∧ Below w.heap.size w w' := by
    by_cases h0 : 0 < s.size
    · obtain ⟨b, off, rfl, hc⟩ := hp h0
      exact value_some s b off cap w hs hcap hT hN hc
    · have hz : s.size = 0 := by omega
      rw [hz]
      exact value_none p cap w
  have HH := Lib.hid H
  clear H hp hT hN
  go_enter Tryz.func66, Tryz.ntmps66
  go_wp2_with (fail)
  refine HH.out.mono ?_
  rintro e w1 ⟨rfl, hb⟩
  go_wp2_with (fail)
  go_ret3
  exact ⟨rfl, hb⟩
end Go.Proofs.YteipiaefamfleaaGreatDoor
