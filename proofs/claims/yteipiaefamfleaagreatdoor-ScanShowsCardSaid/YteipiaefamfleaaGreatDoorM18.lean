/- Proved here: what append of one byte, and make, do to rows of bytes that the call itself made. | Proved here: char.Lines answers, in a new row, the bytes with all line ends made one (linesB), of every slice of bytes of less than 2^47 bytes; what was there stays. | Proved here: the document's Lines answers, in a new row, linesB of every slice of bytes of less than 2^47 bytes, as char.Lines does; what was there stays. | Proved here: char.Fault answers faultF (the first place that is no char, and why) of every slice of bytes; what was there stays. -/
import Derived.Test.YteipiaefamfleaaGreatDoorM10
import Derived.Laws.MakeOwn
import Derived.Test.YteipiaefamfleaaGreatDoorM0
import Derived.BigGuardPart
namespace Go.Proofs.YteipiaefamfleaaGreatDoor
open Go.RowKit

/-- 'append(v, x)' of one byte. -/
theorem append_one {w0 w : World} {g cap : Nat} {o : ByteArray} (x : UInt8) (h : Owns w w0.heap.size g cap o) (hb : Below w0.heap.size w0 w) (hsz : o.size + 1 ≤ 140737488355328) :
    ∃ g' cap' w', (∀ ty, (Builtin.append_ #[22, 22] ty #[.slice (some ⟨g, 0, none⟩) o.size cap, .slice (some ⟨w.heap.size, 0, none⟩) 1 1]).run Tryz.prog (w.alloc (.cells #[.int .u8 (x.toNat : Int)] 5)) = .ok (.slice (some ⟨g', 0, none⟩) (o.size + 1) cap') w') ∧
      Owns w' w0.heap.size g' cap' (o ++ ⟨#[x]⟩) ∧ Below w0.heap.size w0 w' := by
  have hb1 : Below w.heap.size w (w.alloc (.cells #[.int .u8 (x.toNat : Int)] 5)) := (Below.refl _ _).alloc (Nat.le_refl _) _
  have hh : (w.alloc (.cells #[.int .u8 (x.toNat : Int)] 5)).heap[w.heap.size]? = some (.cells #[.int .u8 (x.toNat : Int)] 5) := by
    show (w.heap.push _)[w.heap.size]? = _
    simp
  have hp : HoldsB (w.alloc (.cells #[.int .u8 (x.toNat : Int)] 5)) (some ⟨w.heap.size, 0, none⟩) ⟨#[x]⟩ := fun _ => ⟨_, _, rfl, fun j hj => by
    have hj0 : j = 0 := by
      have : j < 1 := hj
      omega
    subst hj0
    rw [Nat.zero_add, cell_of_row _ _ _ _ _ _ hh]
    rfl⟩
  have := append_next (t := ⟨#[x]⟩) (c := 1) (h.far hb1) (hb.trans (hb1.mono hb.size)) hp (fun e => by cases e) hsz
  exact this

theorem size_push (o : ByteArray) (x : UInt8) : (o ++ ⟨#[x]⟩).size = o.size + 1 := by
  rw [ByteArray.size_append]; rfl
theorem make_own (w : World) (n : Nat) (hn : n ≤ 281474976710656) : ∃ w1, (Instr.makeSlice 22 (.int .i64 0) (.int .i64 (n : Int))).run Tryz.prog w = .ok (.slice (some ⟨w.heap.size, 0, none⟩) 0 n) w1 ∧ Owns w1 w.heap.size w.heap.size n ⟨#[]⟩ ∧ Below w.heap.size w w1 := by
  obtain ⟨i0, hi, hz0, hz1, hz2⟩ := info_parts infoByte
  obtain ⟨w1, h1, h2, h3⟩ := run_make_own (P := Tryz.prog) w w.heap.size 22 5 i0 (.int .u8 0) 1 Tryz.underlying22 hi hz0 hz1 .i64 .i64 n (by rw [hz2]; omega) (by unfold maxLen; omega) (Nat.le_refl _)
  exact ⟨w1, h1, ⟨h2, Nat.le_refl _, (h2.lt w.heap.size rfl).2, Nat.zero_le _⟩, ⟨h3.os, h3.tape, h3.output, h3.size, fun k hk => h3.block k hk (by simp)⟩⟩
end Go.Proofs.YteipiaefamfleaaGreatDoor
namespace Go.Proofs.YteipiaefamfleaaGreatDoor
open Go.RowKit

def LinesRel (s : ByteArray) (w : World) (v i : Value) (wr : World) : Prop := ∃ (k g cap : Nat) (o : ByteArray), i = .int .i64 k ∧ v = .slice (some ⟨g, 0, none⟩) o.size cap ∧ Owns wr w.heap.size g cap o ∧ Below w.heap.size w wr ∧ k ≤ s.size ∧ o.size ≤ k ∧ LAcc s o k

theorem u8_int {x : UInt8} {n : Nat} (hn : n < 256) : (x.toNat : Int) = (n : Int) ↔ x = UInt8.ofNat n := by
  constructor
  · intro h
    apply UInt8.toNat_inj.1
    rw [UInt8.toNat_ofNat']
    omega
  · rintro rfl
    rw [UInt8.toNat_ofNat']
    omega

/-- It ends with a row of the call's own that holds t. -/
def MadeB (t : ByteArray) (w : World) (e : Ending) (w' : World) : Prop := ∃ g cap, e = .returned (.slice (some ⟨g, 0, none⟩) t.size cap) ∧ Owns w' w.heap.size g cap t ∧ Below w.heap.size w w'

set_option maxHeartbeats 4000000 in
set_option maxRecDepth 100000 in
theorem lines_some (s : ByteArray) (b off c : Nat) (w : World) (hs : s.size ≤ 140737488355000) (hp : ∀ j, j < s.size → w.cell? ⟨b, off + j, none⟩ = some (.int .u8 (s.get! j).toNat)) :
    Calls Tryz.prog 16 #[.slice (some ⟨b, off, none⟩) s.size c] w (MadeB (linesB s) w) := by
  have HP := Lib.hid hp
  clear hp
  obtain ⟨w1, hmk, ho0, hb0⟩ := make_own w s.size (by omega)
  go_enter Tryz.func16, Tryz.ntmps16
  go_wp2_with (fail)
  clear hmk
  go_loopw [3, 11] (fun v i wr => LinesRel s w v i wr) (fun _ i _ => s.size - (intOf i).toNat)
  case atStart => exact ⟨0, w.heap.size, s.size, ⟨#[]⟩, rfl, rfl, ho0, hb0, Nat.zero_le _, Nat.le_refl _, lacc_zero s⟩
  case round =>
    obtain ⟨k, g, cap, o, rfl, rfl, ho, hB, hk, hok, hacc⟩ := hrel
    have ACC := Lib.hid hacc
    clear hacc ho0 hb0
    by_cases hlt : k < s.size
    · have hlz : (k : Int) < (s.size : Int) := by omega
      have ck := hb_cell hB (HP.out k hlt)
      by_cases hx : s.get! k = 13
      · have e1 : (s.get! k).toNat = 13 := by rw [hx]; rfl
        rw [e1] at ck
        by_cases hl : k + 1 = s.size
        · have hl1 : ((k : Int) + 1 == (s.size : Int)) = true := by rw [beq_iff_eq]; omega
          have HN := Lib.hid (lacc_end13 s o k hlt hx (by omega) ACC.out)
          clear hx e1 hl
          obtain ⟨g', cap', w2, hr, ho', hb'⟩ := append_one 10 ho hB (by omega)
          have HR := Lib.hid hr
          have HO := Lib.hid ho'
          have HB := Lib.hid hb'
          have HACC := Lib.hid (HN.out)
          clear hr ho' hb' ho hB
          go_wp2_with (first | (at_builtin; refine wpList_append_eq rfl (.tmp 19) (.tmp 21) 22 rfl _ _ _ _ rfl rfl HR.out ?_) | (at_builtin; refine wpList_append_eq rfl (.tmp 37) (.tmp 38) 22 rfl _ _ _ _ rfl rfl HR.out ?_))
          go_roundw
          case rel =>
            go_light
            exact ⟨k + 1, g', cap', _, by go_num, by rw [size_push], HO.out, HB.out, by omega, by rw [size_push]; omega, HACC.out⟩
          case measure => simp [intOf]; omega
        · have hl1 : ((k : Int) + 1 == (s.size : Int)) = false := by rw [beq_eq_false_iff_ne]; omega
          have hk1 : (k : Int) + 1 < (s.size : Int) := by omega
          have cn := hb_cell hB (HP.out (k + 1) (by omega))
          by_cases hy : s.get! (k + 1) = 10
          · have e2 : (s.get! (k + 1)).toNat = 10 := by rw [hy]; rfl
            rw [e2] at cn
            have HACC := Lib.hid (lacc_skip s o k hlt hx (by omega) hy ACC.out)
            have HO := Lib.hid ho
            have HB := Lib.hid hB
            clear hx e1 e2 hy hl ho hB
            go_wp2_with (fail)
            go_roundw
            case rel =>
              go_light
              exact ⟨k + 1, g, cap, o, by go_num, rfl, HO.out, HB.out, by omega, by omega, HACC.out⟩
            case measure => simp [intOf]; omega
          · have e2 : ¬ (s.get! (k + 1)).toNat = 10 := fun e => hy (UInt8.toNat_inj.1 (by rw [e]; rfl))
            have e3 : (((s.get! (k + 1)).toNat : Int) != 10) = true := by rw [bne_iff_ne]; omega
            have HN := Lib.hid (lacc_end13 s o k hlt hx (by rintro ⟨_, e⟩; exact hy e) ACC.out)
            clear hx e1 e2 hy hl
            obtain ⟨g', cap', w2, hr, ho', hb'⟩ := append_one 10 ho hB (by omega)
            have HR := Lib.hid hr
            have HO := Lib.hid ho'
            have HB := Lib.hid hb'
            have HACC := Lib.hid (HN.out)
            clear hr ho' hb' ho hB
            generalize (s.get! (k + 1)).toNat = y at *
            go_wp2_with (first | (at_builtin; refine wpList_append_eq rfl (.tmp 19) (.tmp 21) 22 rfl _ _ _ _ rfl rfl HR.out ?_) | (at_builtin; refine wpList_append_eq rfl (.tmp 37) (.tmp 38) 22 rfl _ _ _ _ rfl rfl HR.out ?_))
            go_roundw
            case rel =>
              go_light
              exact ⟨k + 1, g', cap', _, by go_num, by rw [size_push], HO.out, HB.out, by omega, by rw [size_push]; omega, HACC.out⟩
            case measure => simp [intOf]; omega
      · have e2 : ¬ (s.get! k).toNat = 13 := fun e => hx (UInt8.toNat_inj.1 (by rw [e]; rfl))
        have e3 : (((s.get! k).toNat : Int) != 13) = true := by rw [bne_iff_ne]; omega
        have HN := Lib.hid (lacc_other s o k hlt hx ACC.out)
        clear hx e2
        obtain ⟨g', cap', w2, hr, ho', hb'⟩ := append_one (s.get! k) ho hB (by omega)
        have HR := Lib.hid hr
        have HO := Lib.hid ho'
        have HB := Lib.hid hb'
        have HACC := Lib.hid (HN.out)
        clear hr ho' hb' ho hB
        go_wp2_with (first | (at_builtin; refine wpList_append_eq rfl (.tmp 19) (.tmp 21) 22 rfl _ _ _ _ rfl rfl HR.out ?_) | (at_builtin; refine wpList_append_eq rfl (.tmp 37) (.tmp 38) 22 rfl _ _ _ _ rfl rfl HR.out ?_))
        go_roundw
        case rel =>
          go_light
          exact ⟨k + 1, g', cap', _, by go_num, by rw [size_push], HO.out, HB.out, by omega, by rw [size_push]; omega, HACC.out⟩
        case measure => simp [intOf]; omega
    · have e : o = linesB s := lacc_end s o k hlt ACC.out
      have HO := Lib.hid ho
      have HB := Lib.hid hB
      have HE := Lib.hid e
      clear e ho hB
      go_wp2_with (fail)
      go_ret
      refine ⟨g, cap, ?_, ?_, HB.out⟩
      · rw [← HE.out]; rfl
      · rw [← HE.out]; exact HO.out
end Go.Proofs.YteipiaefamfleaaGreatDoor
namespace Go.Proofs.YteipiaefamfleaaGreatDoor
open Go.RowKit

def RLinesRel (s : ByteArray) (w : World) (v i : Value) (wr : World) : Prop := ∃ (k g cap : Nat) (o : ByteArray), i = .int .i64 k ∧ v = .slice (some ⟨g, 0, none⟩) o.size cap ∧ Owns wr w.heap.size g cap o ∧ Below w.heap.size w wr ∧ k ≤ s.size ∧ o.size ≤ k ∧ RAcc s o k


theorem linesB_none (s : ByteArray) (h : s.size = 0) : linesB s = ⟨#[]⟩ := by
  have e : s = ⟨#[]⟩ := by
    apply ByteArray.ext
    exact Array.eq_empty_of_size_eq_zero h
  subst e
  rfl

theorem lines_any (p : Option Addr) (s : ByteArray) (c : Nat) (w : World) (hs : s.size ≤ 140737488355000) (hp : HoldsB w p s) :
    Calls Tryz.prog 16 #[.slice p s.size c] w (MadeB (linesB s) w) := by
  by_cases h0 : 0 < s.size
  · obtain ⟨b, off, rfl, hc⟩ := hp h0
    exact lines_some s b off c w hs hc
  · have hz : s.size = 0 := by omega
    rw [linesB_none s hz, hz]
    obtain ⟨w1, hmk, ho0, hb0⟩ := make_own w 0 (by omega)
    have HO := Lib.hid ho0
    have HB := Lib.hid hb0
    clear ho0 hb0 hz h0 hp hs
    simp only [Int.cast_ofNat_Int] at hmk
    go_enter Tryz.func16, Tryz.ntmps16
    go_wp2_with (fail)
    clear hmk
    go_loop [3, 11] (fun v i => i = .int .i64 0 ∧ v = .slice (some ⟨w.heap.size, 0, none⟩) 0 0) (fun _ _ => 0)
    case atStart => exact ⟨rfl, rfl⟩
    case round =>
      obtain ⟨rfl, rfl⟩ := hrel
      go_wp2_with (fail)
      go_ret
      exact ⟨w.heap.size, 0, rfl, HO.out, HB.out⟩

end Go.Proofs.YteipiaefamfleaaGreatDoor
namespace Go.Proofs.YteipiaefamfleaaGreatDoor
open Go.RowKit

theorem below_cat' {a b c : World} (h : Below a.heap.size a b) (k : Below b.heap.size b c) : Below a.heap.size a c := h.trans (k.mono h.size)
def FaultRel (s : ByteArray) (w : World) (ANS : Nat × Nat) (i : Value) (wr : World) : Prop := ∃ pos b : Nat, i = .int .i64 pos ∧ Below w.heap.size w wr ∧ faultGo s b pos = ANS ∧ s.size ≤ pos + b ∧ pos ≤ s.size

theorem ret_ff {k l : IntKind} {a c : Nat × Nat} (h : a = c) : Ending.returned (.tuple #[.int k (a.1 : Int), .int l (a.2 : Int)]) = .returned (.tuple #[.int k (c.1 : Int), .int l (c.2 : Int)]) := by rw [h]

set_option maxHeartbeats 2000000 in
theorem fault_some (s : ByteArray) (b off cap : Nat) (w : World) (hT : Tabs w) (hs : s.size ≤ 140737488355328) (hcap : s.size ≤ cap) (hp : ∀ j, j < s.size → w.cell? ⟨b, off + j, none⟩ = some (.int .u8 (s.get! j).toNat)) :
    Calls Tryz.prog 11 #[.slice (some ⟨b, off, none⟩) s.size cap] w fun e w' => e = .returned (.tuple #[.int .i64 ((faultF s).1 : Int), .int .i64 ((faultF s).2 : Int)]) ∧ Below w.heap.size w w' := by
  obtain ⟨ANS, hA⟩ : ∃ ANS, faultF s = ANS := ⟨_, rfl⟩
  rw [hA]
  have HA := Lib.hid hA
  have HT := Lib.hid hT
  have HP := Lib.hid hp
  clear hA hT hp
  go_enter Tryz.func11, Tryz.ntmps11
  go_wp2_with (fail)
  go_loopw [4] (fun i wr => FaultRel s w ANS i wr) (fun i _ => s.size - (intOf i).toNat)
  case atStart => exact ⟨0, s.size, rfl, Below.refl _ _, HA.out, by omega, by omega⟩
  case round =>
    obtain ⟨pos, k, rfl, hb, hgo, hb1, hb2⟩ := hrel
    by_cases hpos : pos < s.size
    · obtain ⟨k, rfl⟩ : ∃ k', k = k' + 1 := ⟨k - 1, by omega⟩
      have C := Lib.hid (next_in s b off cap pos wr (HT.out.below hb) hs hcap hpos (fun j hj => hb_cell hb (HP.out j hj)))
      have hle := rd_le s pos hpos
      have hbd := rd_bd s pos
      have G := Lib.hid hgo
      clear hgo
      by_cases h0 : (rd s pos).2 = 0
      · rw [faultGo_bad s k pos hpos h0] at G
        unfold nextF at C
        rw [if_pos h0] at C
        clear h0 hle hbd
        go_wp2_with (fail)
        refine C.out.mono ?_
        rintro e w1 ⟨rfl, hb3⟩
        go_wp2_with (fail)
        go_ret2
        exact ⟨ret_ff G.out, below_cat' hb hb3⟩
      · unfold nextF at C
        rw [if_neg h0] at C
        cases hc : charB ((rd s pos).1 : Int)
        · rw [faultGo_no s k pos hpos h0 hc] at G
          rw [hc, if_neg (by simp)] at C
          clear h0 hle hbd hc
          go_wp2_with (fail)
          refine C.out.mono ?_
          rintro e w1 ⟨rfl, hb3⟩
          go_wp2_with (fail)
          go_ret2
          exact ⟨ret_ff G.out, below_cat' hb hb3⟩
        · rw [faultGo_step s k pos hpos h0 hc] at G
          rw [hc, if_pos rfl] at C
          clear hc
          generalize rd s pos = d at *
          go_wp2_with (fail)
          refine C.out.mono ?_
          rintro e w1 ⟨rfl, hb3⟩
          have hB := below_cat' hb hb3
          clear hb3
          go_wp2_with (fail)
          go_roundw
          case rel =>
            go_light
            exact ⟨pos + d.2, k, by go_num, hB, G.out, by omega, hle⟩
          case measure => simp [intOf]; omega
    · have G := Lib.hid ((faultGo_end s k pos hpos).symm.trans hgo)
      clear hgo
      go_wp2_with (fail)
      go_ret2
      exact ⟨ret_ff G.out, hb⟩

theorem fault_any (p : Option Addr) (s : ByteArray) (cap : Nat) (w : World) (hT : Tabs w) (hs : s.size ≤ 140737488355328) (hcap : s.size ≤ cap) (hp : HoldsB w p s) :
    Calls Tryz.prog 11 #[.slice p s.size cap] w fun e w' => e = .returned (.tuple #[.int .i64 ((faultF s).1 : Int), .int .i64 ((faultF s).2 : Int)]) ∧ Below w.heap.size w w' := by
  by_cases h0 : 0 < s.size
  · obtain ⟨b, off, rfl, hc⟩ := hp h0
    exact fault_some s b off cap w hT hs hcap hc
  · have hf : faultF s = (0, 0) := by unfold faultF; rw [faultGo_end s _ 0 h0]
    have hz : s.size = 0 := by omega
    rw [hf, hz]
    clear hf hp
    go_enter Tryz.func11, Tryz.ntmps11
    go_wp2_with (fail)
    go_loop [4] (fun i => i = .int .i64 0) (fun _ => 0)
    case atStart => rfl
    case round =>
      subst hrel
      go_wp2_with (fail)
      go_ret2
      exact ⟨rfl, Below.refl _ _⟩
end Go.Proofs.YteipiaefamfleaaGreatDoor
