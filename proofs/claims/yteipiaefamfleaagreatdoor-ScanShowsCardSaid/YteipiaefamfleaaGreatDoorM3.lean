/- Proved here: char.Name and the document's Name answer nameB of every string; what was there stays. | Proved here: strings.Cut at the colon, strings.Clone and char.Split: Split answers splitF (the parts of a qualified name) of every string; what was there stays. | Proved here: char.Split answers splitF of every string. -/
import Derived.Test.YteipiaefamfleaaGreatDoorM0
import Derived.WalkKit
import Derived.BigGuardPart
import Derived.WalkSpells
import Derived.WalkSmall
import Derived.RegionTactic
import Derived.Lib.IndexLaws
import Derived.Lib.Hide
namespace Go.Proofs.YteipiaefamfleaaGreatDoor
open Go.RowKit

theorem str_ne {s : ByteArray} (h : 0 < s.size) : s.toList.isEmpty = false := by
  rw [Lib.toList_data]
  cases e : s.data.toList with
  | nil =>
    have hz : s.data.toList.length = s.size := by simp
    rw [e] at hz
    simp at hz
    omega
  | cons _ _ => rfl

set_option maxHeartbeats 1000000 in
theorem name_head (s : ByteArray) (w : World) (hT : Tabs w) (hs : s.size ≤ 140737488355328) (h : s.size = 0 ∨ 100 < s.size ∨ Lib.validD s.data.toList = false) :
    Calls Tryz.prog 47 #[.string s] w fun e w' => e = .returned (.bool false) ∧ Below w.heap.size w w' := by
  by_cases h0 : s.size = 0
  · obtain rfl : s = ⟨#[]⟩ := by
      apply ByteArray.ext
      exact Array.eq_empty_of_size_eq_zero h0
    go_enter Tryz.func47, Tryz.ntmps47
    go_wp2_with (fail)
    go_ret
    exact ⟨rfl, Below.refl _ _⟩
  · have h0' : (0 : Int) < (s.size : Int) := by omega
    have hne := str_ne (s := s) (by omega)
    by_cases h1 : 100 < s.size
    · have h1' : (100 : Int) < (s.size : Int) := by omega
      clear h
      go_enter Tryz.func47, Tryz.ntmps47
      go_wp2_with (fail)
      go_ret
      exact ⟨rfl, Below.refl _ _⟩
    · have h1' : (s.size : Int) ≤ 100 := by omega
      have hv : Lib.validD s.data.toList = false := by
        rcases h with h | h | h
        · exact absurd h h0
        · exact absurd h h1
        · exact h
      have cV := Tryz.validString s w (by omega) hT
      rw [hv] at cV
      have CV := Lib.hid cV
      clear cV h hv
      go_enter Tryz.func47, Tryz.ntmps47
      go_wp2_with (go_at_call 64; refine (CV.out).mono ?_; rintro e w' ⟨rfl, hb⟩)
      go_ret
      exact ⟨rfl, hb⟩

def NameRel (s : ByteArray) (W : World) (ANS : Bool) (wr : World) : Prop := ∃ pos b : Nat, wr = W.iter s pos ∧ validAt s pos = true ∧ nameGo s b pos = ANS ∧ s.size ≤ pos + b ∧ pos ≤ s.size

theorem validAt_good (s : ByteArray) (pos : Nat) (h : pos < s.size) (hv : validAt s pos = true) : rd s pos = Utf8.decode s pos ∧ (rd s pos).2 ≠ 0 ∧ validAt s (pos + (rd s pos).2) = true := by
  rw [valid_step s pos h] at hv
  have h0 : (rd s pos).2 ≠ 0 := fun e => by rw [if_pos e] at hv; cases hv
  rw [if_neg h0] at hv
  rcases decode_cases s pos with ⟨_, r⟩ | ⟨r, _⟩
  · rw [r] at h0; exact absurd rfl h0
  · exact ⟨r, h0, hv⟩

set_option maxHeartbeats 2000000 in
theorem name_loop (s : ByteArray) (w : World) (hT : Tabs w) (h0 : 0 < s.size) (h1 : s.size ≤ 100) (hv : Lib.validD s.data.toList = true) :
    Calls Tryz.prog 47 #[.string s] w fun e w' => e = .returned (.bool (nameGo s s.size 0)) ∧ Below w.heap.size w w' := by
  have h0' : (0 : Int) < (s.size : Int) := by omega
  have h1' : (s.size : Int) ≤ 100 := by omega
  have hne := str_ne (s := s) (by omega)
  have cV := Tryz.validString s w (by omega) hT
  rw [hv] at cV
  have CV := Lib.hid cV
  obtain ⟨ANS, hA⟩ : ∃ ANS, nameGo s s.size 0 = ANS := ⟨_, rfl⟩
  rw [hA]
  have HA := Lib.hid hA
  have HV := Lib.hid hv
  clear cV hv hA
  go_enter Tryz.func47, Tryz.ntmps47
  go_wp2_with (go_at_call 64; refine (CV.out).mono ?_; rintro e W ⟨rfl, hb⟩)
  clear CV
  go_loopw [3, 4] (fun _ _ wr => NameRel s W ANS wr) (fun _ _ w' => s.size - w'.iterPos W.heap.size)
  case atStart => exact ⟨0, s.size, rfl, by unfold validAt; rw [List.drop_zero]; exact HV.out, HA.out, by omega, by omega⟩
  case round =>
    obtain ⟨pos, b, rfl, hva, hgo, hb1, hb2⟩ := hrel
    by_cases hp : pos < s.size
    · obtain ⟨g1, g2, g3⟩ := validAt_good s pos hp hva
      obtain ⟨b, rfl⟩ : ∃ b', b = b' + 1 := ⟨b - 1, by omega⟩
      have hnx : ∀ ty, (Instr.next (.pointer (some ⟨W.heap.size, 0, none⟩)) true ty).run Tryz.prog (W.iter s pos) = _ := fun ty => run_next_any W s pos ty hp
      rw [← g1] at hnx
      have hstep := nameGo_step s b pos hp g2
      have hbad := nameGo_bad s b pos hp
      have hle := rd_le s pos hp
      have hbd := rd_bd s pos
      obtain ⟨d, hd⟩ : ∃ d, rd s pos = d := ⟨_, rfl⟩
      rw [hd] at hnx g2 g3 hstep hbad hle hbd
      clear hd g1
      have cS := isStart (d.1 : Int)
      have cP := isPart (d.1 : Int)
      generalize startB (d.1 : Int) = sb at *
      generalize partB (d.1 : Int) = pb at *
      have HG := Lib.hid hgo
      have HS := Lib.hid hstep
      have HB := Lib.hid hbad
      have H3 := Lib.hid g3
      have CS := Lib.hid cS
      have CP := Lib.hid cP
      clear hgo hstep hbad g3 cS cP hva
      by_cases hpz : pos = 0
      · subst hpz
        cases sb
        · cases pb
          · go_wp2_with (first | (go_at_call 62; refine (CS.out _).mono ?_; rintro e w' ⟨rfl, rfl⟩) | (go_at_call 63; refine (CP.out _).mono ?_; rintro e w' ⟨rfl, rfl⟩))
            go_ret
            exact ⟨ret_bool ((HB.out (.inr (.inl (by simp)))).symm.trans HG.out), hb.trans (((Below.refl _ _).alloc (Nat.le_refl _) _).mono hb.size)⟩
          · go_wp2_with (first | (go_at_call 62; refine (CS.out _).mono ?_; rintro e w' ⟨rfl, rfl⟩) | (go_at_call 63; refine (CP.out _).mono ?_; rintro e w' ⟨rfl, rfl⟩))
            go_ret
            exact ⟨ret_bool ((HB.out (.inr (.inr ⟨by simp, by simp⟩))).symm.trans HG.out), hb.trans (((Below.refl _ _).alloc (Nat.le_refl _) _).mono hb.size)⟩
        · cases pb
          · go_wp2_with (first | (go_at_call 62; refine (CS.out _).mono ?_; rintro e w' ⟨rfl, rfl⟩) | (go_at_call 63; refine (CP.out _).mono ?_; rintro e w' ⟨rfl, rfl⟩))
            go_ret
            exact ⟨ret_bool ((HB.out (.inr (.inl (by simp)))).symm.trans HG.out), hb.trans (((Below.refl _ _).alloc (Nat.le_refl _) _).mono hb.size)⟩
          · go_wp2_with (first | (go_at_call 62; refine (CS.out _).mono ?_; rintro e w' ⟨rfl, rfl⟩) | (go_at_call 63; refine (CP.out _).mono ?_; rintro e w' ⟨rfl, rfl⟩))
            go_roundw
            case rel =>
              go_light
              exact ⟨0 + d.2, b, by simp, by simpa using H3.out, by rw [← HG.out]; exact (HS.out (by simp) (by simp)).symm, by omega, hle⟩
            case measure => simp; omega
      · have hpz1 : ((pos : Int) == 0) = false := by simp; omega
        cases pb
        · go_wp2_with (first | (go_at_call 62; refine (CS.out _).mono ?_; rintro e w' ⟨rfl, rfl⟩) | (go_at_call 63; refine (CP.out _).mono ?_; rintro e w' ⟨rfl, rfl⟩))
          go_ret
          exact ⟨ret_bool ((HB.out (.inr (.inl (by simp)))).symm.trans HG.out), hb.trans (((Below.refl _ _).alloc (Nat.le_refl _) _).mono hb.size)⟩
        · go_wp2_with (first | (go_at_call 62; refine (CS.out _).mono ?_; rintro e w' ⟨rfl, rfl⟩) | (go_at_call 63; refine (CP.out _).mono ?_; rintro e w' ⟨rfl, rfl⟩))
          go_roundw
          case rel =>
            go_light
            exact ⟨pos + d.2, b, by simp, by simpa using H3.out, by rw [← HG.out]; exact (HS.out (by simp) (fun h => absurd h hpz)).symm, by omega, hle⟩
          case measure => simp; omega
    · have hnx : ∀ ty, (Instr.next (.pointer (some ⟨W.heap.size, 0, none⟩)) true ty).run Tryz.prog (W.iter s pos) = _ := fun ty => run_next_end W s pos ty hp
      have HG := Lib.hid ((nameGo_end s b pos hp).symm.trans hgo)
      clear hgo hva
      go_wp2_with (fail)
      go_ret
      exact ⟨ret_bool HG.out, hb.trans (((Below.refl _ _).alloc (Nat.le_refl _) _).mono hb.size)⟩
end Go.Proofs.YteipiaefamfleaaGreatDoor
namespace Go.Proofs.YteipiaefamfleaaGreatDoor
open Go.RowKit

theorem name_any (s : ByteArray) (w : World) (hT : Tabs w) (hs : s.size ≤ 140737488355328) :
    Calls Tryz.prog 47 #[.string s] w fun e w' => e = .returned (.bool (nameB s)) ∧ Below w.heap.size w w' := by
  by_cases h : s.size = 0 ∨ 100 < s.size
  · rw [show nameB s = false by unfold nameB; rw [if_pos h]]
    exact name_head s w hT hs (by omega)
  · rw [show nameB s = nameGo s s.size 0 by unfold nameB; rw [if_neg h]]
    cases hv : Lib.validD s.data.toList
    · rw [name_false_of_invalid s hv s.size (Nat.le_refl _)]
      exact name_head s w hT hs (.inr (.inr hv))
    · exact name_loop s w hT (by omega) (by omega) hv


set_option maxHeartbeats 1000000 in
theorem cutlite_miss (s : ByteArray) (w : World) (h : Lib.indexByte s.data.toList 58 = -1) :
    Calls Tryz.prog 89 #[.string s, .string ⟨#[58]⟩] w fun e w' => e = .returned (.tuple #[.string s, .string ⟨#[]⟩, .bool false]) ∧ Below w.heap.size w w' := by
  have cI := Tryz.index_one s 58 w
  rw [h] at cI
  have CI := Lib.hid cI
  clear h cI
  go_enter Tryz.func89, Tryz.ntmps89
  go_wp2_with (go_at_call 96; refine (CI.out).mono ?_; rintro e w' ⟨rfl, rfl⟩)
  go_ret3
  exact ⟨rfl, Below.refl _ _⟩

set_option maxHeartbeats 1000000 in
theorem cutlite_hit (s : ByteArray) (i : Nat) (w : World) (h : Lib.indexByte s.data.toList 58 = i) (hi : i < s.size) (hs : s.size ≤ 140737488355328) :
    Calls Tryz.prog 89 #[.string s, .string ⟨#[58]⟩] w fun e w' => e = .returned (.tuple #[.string (s.extract 0 i), .string (s.extract (i + 1) s.size), .bool true]) ∧ Below w.heap.size w w' := by
  have cI := Tryz.index_one s 58 w
  rw [h] at cI
  have CI := Lib.hid cI
  have c1 : (0 : Int) ≤ (i : Int) := by omega
  have c2 : (i : Int) ≤ (s.size : Int) := by omega
  have c3 : (0 : Int) ≤ (i : Int) + 1 := by omega
  have c4 : (i : Int) + 1 ≤ (s.size : Int) := by omega
  have hw : IntKind.i64.wrap ((i : Int) + 1) = (i : Int) + 1 := IntWalk.i64_in _ (by omega)
  have hw2 : ((i : Int) + 1).toNat = i + 1 := by omega
  clear h cI
  go_enter Tryz.func89, Tryz.ntmps89
  go_wp2_with (go_at_call 96; refine (CI.out).mono ?_; rintro e w' ⟨rfl, rfl⟩)
  go_region
  go_wp2
  go_ret3
  exact ⟨rfl, (Below.refl _ _).drew⟩

set_option maxHeartbeats 1000000 in
theorem cut_miss (s : ByteArray) (w : World) (h : Lib.indexByte s.data.toList 58 = -1) :
    Calls Tryz.prog 77 #[.string s, .string ⟨#[58]⟩] w fun e w' => e = .returned (.tuple #[.string s, .string ⟨#[]⟩, .bool false]) ∧ Below w.heap.size w w' := by
  have C := Lib.hid (cutlite_miss s w h)
  clear h
  go_enter Tryz.func77, Tryz.ntmps77
  go_wp2_with (go_at_call 89; refine (C.out).mono ?_; rintro e w' ⟨rfl, hb⟩)
  go_ret3
  exact ⟨rfl, hb⟩
set_option maxHeartbeats 1000000 in
theorem cut_hit (s : ByteArray) (i : Nat) (w : World) (h : Lib.indexByte s.data.toList 58 = i) (hi : i < s.size) (hs : s.size ≤ 140737488355328) :
    Calls Tryz.prog 77 #[.string s, .string ⟨#[58]⟩] w fun e w' => e = .returned (.tuple #[.string (s.extract 0 i), .string (s.extract (i + 1) s.size), .bool true]) ∧ Below w.heap.size w w' := by
  have C := Lib.hid (cutlite_hit s i w h hi hs)
  clear h
  generalize s.extract 0 i = p at C ⊢
  generalize s.extract (i + 1) s.size = l at C ⊢
  go_enter Tryz.func77, Tryz.ntmps77
  go_wp2_with (go_at_call 89; refine (C.out).mono ?_; rintro e w' ⟨rfl, hb⟩)
  go_ret3
  exact ⟨rfl, hb⟩
set_option maxHeartbeats 1000000 in
theorem clone_any (s : ByteArray) (w : World) (hs : s.size ≤ 140737488355328) :
    Calls Tryz.prog 78 #[.string s] w fun e w' => e = .returned (.string s) ∧ Below w.heap.size w w' := by
  have C := Lib.hid (Tryz.clone s w (by omega))
  go_enter Tryz.func78, Tryz.ntmps78
  go_wp2_with (go_at_call 90; refine (C.out).mono ?_; rintro e w' ⟨rfl, hb⟩)
  go_ret
  exact ⟨rfl, hb⟩


set_option maxHeartbeats 1000000 in
theorem split_walk (q p l : ByteArray) (np nl : Bool) (w : World) (hT : Tabs w) (hp : p.size ≤ 140737488355328) (hl : l.size ≤ 140737488355328)
    (cC : Calls Tryz.prog 77 #[.string q, .string ⟨#[58]⟩] w fun e w' => e = .returned (.tuple #[.string p, .string l, .bool true]) ∧ Below w.heap.size w w')
    (h1 : nameB p = np) (h2 : nameB l = nl) :
    Calls Tryz.prog 65 #[.string q] w fun e w' => e = .returned (if np && nl then .tuple #[.string p, .string l, .bool true] else .tuple #[.string sEmpty, .string sEmpty, .bool false]) ∧ Below w.heap.size w w' := by
  have C := Lib.hid cC
  have N1 := Lib.hid (fun W (h : Tabs W) => name_any p W h hp)
  have N2 := Lib.hid (fun W (h : Tabs W) => name_any l W h hl)
  have K1 := Lib.hid (fun W => clone_any p W hp)
  have K2 := Lib.hid (fun W => clone_any l W hl)
  rw [h1] at N1
  rw [h2] at N2
  have HT := Lib.hid hT
  clear cC h1 h2 hT
  cases np
  · go_enter Tryz.func65, Tryz.ntmps65
    go_wp2_with (fail)
    refine C.out.mono ?_
    rintro e w1 ⟨rfl, hb1⟩
    go_wp2_with (fail)
    refine (N1.out _ (HT.out.below hb1)).mono ?_
    rintro e w2 ⟨rfl, hb2⟩
    go_wp2_with (fail)
    go_ret3
    exact ⟨rfl, below_cat hb1 hb2⟩
  · cases nl
    · go_enter Tryz.func65, Tryz.ntmps65
      go_wp2_with (fail)
      refine C.out.mono ?_
      rintro e w1 ⟨rfl, hb1⟩
      go_wp2_with (fail)
      refine (N1.out _ (HT.out.below hb1)).mono ?_
      rintro e w2 ⟨rfl, hb2⟩
      go_wp2_with (fail)
      refine (N2.out _ ((HT.out.below hb1).below hb2)).mono ?_
      rintro e w3 ⟨rfl, hb3⟩
      go_wp2_with (fail)
      go_ret3
      exact ⟨rfl, below_cat (below_cat hb1 hb2) hb3⟩
    · go_enter Tryz.func65, Tryz.ntmps65
      go_wp2_with (fail)
      refine C.out.mono ?_
      rintro e w1 ⟨rfl, hb1⟩
      go_wp2_with (fail)
      refine (N1.out _ (HT.out.below hb1)).mono ?_
      rintro e w2 ⟨rfl, hb2⟩
      go_wp2_with (fail)
      refine (N2.out _ ((HT.out.below hb1).below hb2)).mono ?_
      rintro e w3 ⟨rfl, hb3⟩
      go_wp2_with (fail)
      refine (K1.out _).mono ?_
      rintro e w4 ⟨rfl, hb4⟩
      go_wp2_with (fail)
      refine (K2.out _).mono ?_
      rintro e w5 ⟨rfl, hb5⟩
      go_wp2_with (fail)
      go_ret3
      exact ⟨rfl, below_cat (below_cat (below_cat (below_cat hb1 hb2) hb3) hb4) hb5⟩

set_option maxHeartbeats 1000000 in
theorem split_none (q : ByteArray) (nl : Bool) (w : World) (hT : Tabs w) (hq : q.size ≤ 140737488355328) (h : Lib.indexByte q.data.toList 58 = -1) (h2 : nameB q = nl) :
    Calls Tryz.prog 65 #[.string q] w fun e w' => e = .returned (if nl then .tuple #[.string sEmpty, .string q, .bool true] else .tuple #[.string sEmpty, .string sEmpty, .bool false]) ∧ Below w.heap.size w w' := by
  have C := Lib.hid (cut_miss q w h)
  have N2 := Lib.hid (fun W (h : Tabs W) => name_any q W h hq)
  have K1 := Lib.hid (fun W => clone_any sEmpty W (by decide))
  have K2 := Lib.hid (fun W => clone_any q W hq)
  rw [h2] at N2
  have HT := Lib.hid hT
  clear h h2 hT
  cases nl
  · go_enter Tryz.func65, Tryz.ntmps65
    go_wp2_with (fail)
    refine C.out.mono ?_
    rintro e w1 ⟨rfl, hb1⟩
    go_wp2_with (fail)
    refine (N2.out _ (HT.out.below hb1)).mono ?_
    rintro e w2 ⟨rfl, hb2⟩
    go_wp2_with (fail)
    go_ret3
    exact ⟨rfl, below_cat hb1 hb2⟩
  · go_enter Tryz.func65, Tryz.ntmps65
    go_wp2_with (fail)
    refine C.out.mono ?_
    rintro e w1 ⟨rfl, hb1⟩
    go_wp2_with (fail)
    refine (N2.out _ (HT.out.below hb1)).mono ?_
    rintro e w2 ⟨rfl, hb2⟩
    go_wp2_with (fail)
    refine (K1.out _).mono ?_
    rintro e w4 ⟨rfl, hb4⟩
    go_wp2_with (fail)
    refine (K2.out _).mono ?_
    rintro e w5 ⟨rfl, hb5⟩
    go_wp2_with (fail)
    go_ret3
    exact ⟨rfl, below_cat (below_cat (below_cat hb1 hb2) hb4) hb5⟩
end Go.Proofs.YteipiaefamfleaaGreatDoor
namespace Go.Proofs.YteipiaefamfleaaGreatDoor
open Go.RowKit

theorem index_lt (q : ByteArray) : Lib.indexByte q.data.toList 58 = -1 ∨ ∃ i : Nat, Lib.indexByte q.data.toList 58 = i ∧ i < q.size := by
  have hg := Lib.indexByte_ge q.data.toList 58
  by_cases h : Lib.indexByte q.data.toList 58 = -1
  · exact .inl h
  · right
    obtain ⟨i, hi⟩ : ∃ i : Nat, Lib.indexByte q.data.toList 58 = i := ⟨(Lib.indexByte q.data.toList 58).toNat, by omega⟩
    refine ⟨i, hi, ?_⟩
    have h1 := (Lib.indexByte_some hi).1
    have h2 := (List.getElem?_eq_some_iff.1 h1).1
    simpa using h2

theorem splitF_none (q : ByteArray) (h : Lib.indexByte q.data.toList 58 = -1) : splitF q = if nameB q then (sEmpty, q, true) else (sEmpty, sEmpty, false) := by
  unfold splitF
  rw [h, if_neg (by omega)]
theorem splitF_at (q : ByteArray) (i : Nat) (h : Lib.indexByte q.data.toList 58 = i) : splitF q = if nameB (q.extract 0 i) && nameB (q.extract (i + 1) q.size) then (q.extract 0 i, q.extract (i + 1) q.size, true) else (sEmpty, sEmpty, false) := by
  unfold splitF
  rw [h, if_pos (by omega), Int.toNat_natCast]
  simp only [Bool.and_eq_true]

theorem split_any (q : ByteArray) (w : World) (hT : Tabs w) (hq : q.size ≤ 140737488355328) :
    Calls Tryz.prog 65 #[.string q] w fun e w' => e = .returned (.tuple #[.string (splitF q).1, .string (splitF q).2.1, .bool (splitF q).2.2]) ∧ Below w.heap.size w w' := by
  rcases index_lt q with h | ⟨i, h, hi⟩
  · rw [splitF_none q h]
    cases hn : nameB q
    · exact split_none q false w hT hq h hn
    · exact split_none q true w hT hq h hn
  · rw [splitF_at q i h]
    have hp : (q.extract 0 i).size ≤ 140737488355328 := by simp; omega
    have hl : (q.extract (i + 1) q.size).size ≤ 140737488355328 := by simp; omega
    have c := cut_hit q i w h hi hq
    generalize q.extract 0 i = p at *
    generalize q.extract (i + 1) q.size = l at *
    refine (split_walk q p l (nameB p) (nameB l) w hT hp hl c rfl rfl).mono ?_
    rintro e w' ⟨rfl, hb⟩
    refine ⟨?_, hb⟩
    cases nameB p <;> cases nameB l <;> rfl
end Go.Proofs.YteipiaefamfleaaGreatDoor
