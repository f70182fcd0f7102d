/- Proved here: the document's Split answers splitF of every string; what was there stays. -/
import Derived.Test.YtiibmpjfkgohpaaDoorAwake
import Derived.Test.YtiibmpjfkgohpaaDoorRefName
import Derived.Test.YtiibmpjfkgohpaaDoorColonPlain
import Derived.RegionTactic
namespace Go.Proofs.YtiibmpjfkgohpaaDoor
open Go.RowKit

theorem splitF_name (q : ByteArray) (h : nameB q = true) : splitF q = (sEmpty, q, true) := by
  rw [splitF_none q (name_index q h), h]; rfl
theorem ret_ssb {a b c d : ByteArray} {x y : Bool} (h : (a, b, x) = (c, d, y)) : Ending.returned (.tuple #[.string a, .string b, .bool x]) = .returned (.tuple #[.string c, .string d, .bool y]) := by
  injection h with h1 h2
  injection h2 with h2 h3
  rw [h1, h2, h3]

theorem get!_idx (q : ByteArray) (k : Nat) (h : k < q.size) : q.get! k = q[k] := by
  show q.data[k]! = _
  rw [getElem!_pos q.data k h]; rfl
theorem splitF_false (q : ByteArray) (h : ¬ (splitF q).2.2 = true) : splitF q = (sEmpty, sEmpty, false) := by
  rcases index_lt q with g | ⟨i, g, _⟩
  · rw [splitF_none q g] at h ⊢
    split
    · rename_i e; rw [if_pos e] at h; exact absurd rfl h
    · rfl
  · rw [splitF_at q i g] at h ⊢
    split
    · rename_i e; rw [if_pos e] at h; exact absurd rfl h
    · rfl
/-- How far the search may have come: to the first colon, if the parts there are names. -/
def Far (q : ByteArray) (k : Nat) : Prop := (splitF q).2.2 = true → ∃ i0 : Nat, Lib.indexByte q.data.toList 58 = i0 ∧ k ≤ i0
theorem far_zero (q : ByteArray) (h : nameB q = false) : Far q 0 := by
  intro g
  rcases index_lt q with e | ⟨i, e, _⟩
  · rw [splitF_none q e, h] at g; cases g
  · exact ⟨i, e, Nat.zero_le _⟩
theorem far_other (q : ByteArray) (k : Nat) (h : k < q.size) (hc : q[k].toNat ≠ 58) (hf : Far q k) : Far q (k + 1) := by
  intro g
  obtain ⟨i, e, hi⟩ := hf g
  obtain ⟨h1, h2, _⟩ := first_colon q i e
  refine ⟨i, e, ?_⟩
  rcases Nat.lt_or_ge k i with h' | h'
  · omega
  · obtain rfl : i = k := by omega
    rw [get!_idx q i h] at h2
    exact absurd h2 hc
theorem far_no (q : ByteArray) (k : Nat) (hn : nameB (q.extract 0 k) = false ∨ nameB (q.extract (k + 1) q.size) = false) (hf : Far q k) : Far q (k + 1) := by
  intro g
  obtain ⟨i, e, hi⟩ := hf g
  refine ⟨i, e, ?_⟩
  rcases Nat.lt_or_ge k i with h' | h'
  · omega
  · obtain rfl : i = k := by omega
    rw [splitF_at q i e] at g
    rcases hn with hn | hn
    · rw [hn] at g; simp at g
    · rw [hn] at g; simp at g
theorem far_end (q : ByteArray) (k : Nat) (h : ¬ k < q.size) (hf : Far q k) : splitF q = (sEmpty, sEmpty, false) := by
  apply splitF_false
  intro g
  obtain ⟨i, e, hi⟩ := hf g
  have := (first_colon q i e).1
  omega
theorem split_here (q : ByteArray) (k : Nat) (h : k < q.size) (hc : q[k].toNat = 58) (h1 : nameB (q.extract 0 k) = true) (h2 : nameB (q.extract (k + 1) q.size) = true) : splitF q = (q.extract 0 k, q.extract (k + 1) q.size, true) := by
  rcases index_lt q with e | ⟨i, e, hi⟩
  · exact absurd (by rw [get!_idx q k h]; exact hc) (no_colon q e k h)
  · obtain ⟨g1, g2, g3⟩ := first_colon q i e
    rcases Nat.lt_trichotomy i k with h' | h' | h'
    · rw [later_colon q i k g2 h' h] at h1; cases h1
    · subst h'
      rw [splitF_at q i e, h1, h2]; rfl
    · exact absurd (by rw [get!_idx q k h]; exact hc) (g3 k h')
def SplitRel (q : ByteArray) (w : World) (i : Value) (wr : World) : Prop := ∃ k : Nat, i = .int .i64 k ∧ Below w.heap.size w wr ∧ k ≤ q.size ∧ Far q k

set_option maxHeartbeats 2000000 in
theorem refSplit_any (q : ByteArray) (w : World) (hs : q.size ≤ 140737488355328) :
    Calls Tryd.prog 24 #[.string q] w fun e w' => e = .returned (.tuple #[.string (splitF q).1, .string (splitF q).2.1, .bool (splitF q).2.2]) ∧ Below w.heap.size w w' := by
  have N := Lib.hid (fun W => refName_any q W hs)
  cases hn : nameB q
  · rw [hn] at N
    obtain ⟨ANS, hA⟩ : ∃ ANS, splitF q = ANS := ⟨_, rfl⟩
    rw [hA]
    have HA := Lib.hid hA
    have HN := Lib.hid hn
    clear hA hn
    go_enter Tryd.func24, Tryd.ntmps24
    go_wp2_with (fail)
    refine (N.out _).mono ?_
    rintro e w1 ⟨rfl, hb1⟩
    go_wp2_with (fail)
    go_loopw [5] (fun i wr => SplitRel q w i wr) (fun i _ => q.size - (intOf i).toNat)
    case atStart => exact ⟨0, rfl, hb1, Nat.zero_le _, far_zero q HN.out⟩
    case round =>
      obtain ⟨k, rfl, hb, hk, hfar⟩ := hrel
      have F := Lib.hid hfar
      clear hfar
      by_cases hlt : k < q.size
      · have hgz : (k : Int) < (q.size : Int) := by omega
        by_cases hc : q[k].toNat = 58
        · have hc1 : ((q[k].toNat : Int) == 58) = true := by simp [hc]
          have N1 := Lib.hid (fun W => refName_any (q.extract 0 k) W (by simp; omega))
          have N2 := Lib.hid (fun W => refName_any (q.extract (k + 1) q.size) W (by simp; omega))
          have HC := Lib.hid hc
          clear hc
          cases h1 : nameB (q.extract 0 k)
          · rw [h1] at N1
            have FN := Lib.hid (far_no q k (.inl h1) F.out)
            clear h1
            go_wp2_with (fail)
            refine (N1.out _).mono ?_
            rintro e w2 ⟨rfl, hb2⟩
            have hB := below_cat hb hb2
            clear hb2
            go_wp2_with (fail)
            go_roundw
            case rel =>
              go_light
              exact ⟨k + 1, by go_num, hB, by omega, FN.out⟩
            case measure => simp [intOf]; omega
          · cases h2 : nameB (q.extract (k + 1) q.size)
            · rw [h1] at N1
              rw [h2] at N2
              have FN := Lib.hid (far_no q k (.inr h2) F.out)
              clear h1 h2
              go_wp2_with (fail)
              refine (N1.out _).mono ?_
              rintro e w2 ⟨rfl, hb2⟩
              have hB := below_cat hb hb2
              clear hb2
              go_wp2_with (fail)
              refine (N2.out _).mono ?_
              rintro e w3 ⟨rfl, hb3⟩
              have hB3 := below_cat hB hb3
              clear hb3
              go_wp2_with (fail)
              go_roundw
              case rel =>
                go_light
                exact ⟨k + 1, by go_num, hB3, by omega, FN.out⟩
              case measure => simp [intOf]; omega
            · have HS := Lib.hid ((split_here q k hlt HC.out h1 h2).symm.trans HA.out)
              rw [h1] at N1
              rw [h2] at N2
              clear h1 h2
              go_wp2_with (fail)
              refine (N1.out _).mono ?_
              rintro e w2 ⟨rfl, hb2⟩
              have hB := below_cat hb hb2
              clear hb2
              go_wp2_with (fail)
              refine (N2.out _).mono ?_
              rintro e w3 ⟨rfl, hb3⟩
              have hB3 := below_cat hB hb3
              clear hb3
              have hw : IntKind.i64.wrap ((k : Int) + 1) = (k : Int) + 1 := IntWalk.i64_in _ (by omega)
              have hw2 : ((k : Int) + 1).toNat = k + 1 := by omega
              have c1 : (0 : Int) ≤ (k : Int) := by omega
              have c2 : (k : Int) ≤ (q.size : Int) := by omega
              have c3 : (0 : Int) ≤ (k : Int) + 1 := by omega
              have c4 : (k : Int) + 1 ≤ (q.size : Int) := by omega
              go_wp2_with (fail)
              go_region
              go_wp2_with (fail)
              go_ret3
              exact ⟨by rw [← HS.out]; rfl, hB3.drew⟩
        · have hc1 : ((q[k].toNat : Int) == 58) = false := by simp; omega
          have FN := Lib.hid (far_other q k hlt hc F.out)
          clear hc
          go_wp2_with (fail)
          go_roundw
          case rel =>
            go_light
            exact ⟨k + 1, by go_num, hb, by omega, FN.out⟩
          case measure => simp [intOf]; omega
      · have HE := Lib.hid ((far_end q k hlt F.out).symm.trans HA.out)
        go_wp2_with (fail)
        go_ret3
        exact ⟨by rw [← HE.out]; rfl, hb⟩
  · rw [hn] at N
    rw [splitF_name q hn]
    clear hn
    go_enter Tryd.func24, Tryd.ntmps24
    go_wp2_with (fail)
    refine (N.out _).mono ?_
    rintro e w1 ⟨rfl, hb1⟩
    go_wp2_with (fail)
    go_ret3
    exact ⟨rfl, hb1⟩
end Go.Proofs.YtiibmpjfkgohpaaDoor
