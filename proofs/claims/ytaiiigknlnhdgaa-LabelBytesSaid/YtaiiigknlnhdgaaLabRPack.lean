/- Proved here: what the document's Packed makes of signs. -/
import Derived.Test.YtaiiigknlnhdgaaLabRBits
import Derived.BigRegion
namespace Go.Proofs.Ytaiiigknlnhdgaa
open Go.RowKit

theorem add_bit : ∀ (r : Nat), r < 8 → ∀ (f0 f1 f2 f3 f4 f5 f6 : Bool),
    byte8 (fun i => if i < r then [f0, f1, f2, f3, f4, f5, f6].getD i false else if i = r then true else false) =
    byte8 (fun i => if i < r then [f0, f1, f2, f3, f4, f5, f6].getD i false else false) + 128 / 2 ^ r := by decide +kernel
theorem packAt_add (bs : List Bool) : packAt (bs ++ [true]) (bs.length / 8) = packAt bs (bs.length / 8) + 128 / 2 ^ (bs.length % 8) := by
  have hr : bs.length % 8 < 8 := Nat.mod_lt _ (by decide)
  generalize hd : bs.length / 8 = d
  generalize hm : bs.length % 8 = r at hr
  have hn : bs.length = 8 * d + r := by omega
  have e1 : packAt bs d = byte8 (fun i => if i < r then [bs.getD (8 * d) false, bs.getD (8 * d + 1) false, bs.getD (8 * d + 2) false, bs.getD (8 * d + 3) false, bs.getD (8 * d + 4) false, bs.getD (8 * d + 5) false, bs.getD (8 * d + 6) false].getD i false else false) := by
    refine byte8_same fun i hi => ?_
    by_cases h1 : i < r
    · rw [if_pos h1]
      rcases (show i = 0 ∨ i = 1 ∨ i = 2 ∨ i = 3 ∨ i = 4 ∨ i = 5 ∨ i = 6 by omega) with rfl | rfl | rfl | rfl | rfl | rfl | rfl <;> rfl
    · rw [if_neg h1, getD_over bs _ (by omega)]
  have e2 : packAt (bs ++ [true]) d = byte8 (fun i => if i < r then [bs.getD (8 * d) false, bs.getD (8 * d + 1) false, bs.getD (8 * d + 2) false, bs.getD (8 * d + 3) false, bs.getD (8 * d + 4) false, bs.getD (8 * d + 5) false, bs.getD (8 * d + 6) false].getD i false else if i = r then true else false) := by
    refine byte8_same fun i hi => ?_
    by_cases h1 : i < r
    · rw [if_pos h1, getD_app_lt _ _ _ (by omega)]
      rcases (show i = 0 ∨ i = 1 ∨ i = 2 ∨ i = 3 ∨ i = 4 ∨ i = 5 ∨ i = 6 by omega) with rfl | rfl | rfl | rfl | rfl | rfl | rfl <;> rfl
    · rw [if_neg h1, getD_app_ge _ _ _ (by omega)]
      by_cases h2 : i = r
      · rw [if_pos h2, show 8 * d + i - bs.length = 0 by omega]; rfl
      · rw [if_neg h2]
        obtain ⟨k, hk⟩ : ∃ k, 8 * d + i - bs.length = k + 1 := ⟨8 * d + i - bs.length - 1, by omega⟩
        rw [hk]; rfl
  rw [e1, e2]
  exact add_bit r hr _ _ _ _ _ _ _
/-- A bit more, of what holds the bytes so far and, where a byte begins, a nought. -/
theorem pack_false (bs : List Bool) (l2 : List Nat) (hl : l2.length = (bs.length + 1 + 7) / 8) (h : ∀ j, j < l2.length → l2.getD j 0 = packAt bs j) : packB (bs ++ [false]) = l2 := by
  rw [packB_more bs false l2 hl h]
  have e : b2n false <<< (7 - bs.length % 8) = 0 := by simp [b2n]
  rw [e, Nat.or_zero]
  apply List.ext_getElem
  · rw [List.length_set]
  · intro j h1 h2
    rw [List.getElem_set]
    split
    · rename_i q
      subst q
      rw [List.getD_eq_getElem?_getD, List.getElem?_eq_getElem h2]; rfl
    · rfl
theorem pack_true (bs : List Bool) (l2 : List Nat) (hl : l2.length = (bs.length + 1 + 7) / 8) (h : ∀ j, j < l2.length → l2.getD j 0 = packAt bs j) : packB (bs ++ [true]) = l2.set (bs.length / 8) (l2.getD (bs.length / 8) 0 + 128 / 2 ^ (bs.length % 8)) ∧ l2.getD (bs.length / 8) 0 + 128 / 2 ^ (bs.length % 8) < 256 := by
  have e : l2.getD (bs.length / 8) 0 + 128 / 2 ^ (bs.length % 8) = l2.getD (bs.length / 8) 0 ||| (b2n true <<< (7 - bs.length % 8)) := by
    rw [h _ (by omega), ← packAt_add, packAt_near]
  refine ⟨by rw [e]; exact packB_more bs true l2 hl h, ?_⟩
  rw [h _ (by omega), ← packAt_add]
  exact byte8_lt _
theorem OwnU.store {w : World} {B g c : Nat} {l : List Nat} (h : OwnU w B (some ⟨g, 0, none⟩) c l) (j : Nat) (x : Nat) : OwnU (w.setCell ⟨g, j, none⟩ (.int .u8 (x : Int))) B (some ⟨g, 0, none⟩) c (l.set j x) := by
  have o1 := (World.ownsRow.stored h.1 j (.int .u8 (x : Int))).1
  rw [bytV_set] at o1
  exact ⟨by rw [List.length_set]; exact o1, fun e => (by cases e), by rw [List.length_set]; exact h.2.2⟩
def PackPost (w : World) (l : List Nat) (e : Ending) (w' : World) : Prop := ∃ q c, e = .returned (.slice q l.length c) ∧ OwnU w' w.heap.size q c l ∧ Below w.heap.size w w'
def PkRel (w : World) (bs : List Bool) (v3 v4 : Value) (wr : World) : Prop :=
  ∃ (i : Nat) (q : Option Addr) (c : Nat), v3 = .slice q ((i + 7) / 8) c ∧ v4 = .int .i64 (i : Int) ∧ i ≤ bs.length ∧ Hid (OwnU wr w.heap.size q c (packB (bs.take i)) ∧ Below w.heap.size w wr)
set_option maxRecDepth 100000 in
set_option maxHeartbeats 16000000 in
theorem packed_any (bs : List Bool) (w : World) (hb : bs.length ≤ 1048576) : Calls Try.prog 33 #[.string (strB bs)] w (PackPost w (packB bs)) := by
  obtain ⟨t, ht⟩ : ∃ t, strB bs = t := ⟨_, rfl⟩
  have hts : t.size = bs.length := by rw [← ht, strB_size]
  rw [ht]
  have HT := Lib.hid (And.intro ht hb)
  have gb : (bs.length : Int) ≤ 1048576 := by omega
  have O0 := Lib.hid (And.intro (ownU_new w [] (by simp)) ((Below.refl w.heap.size w).alloc (Nat.le_refl _) (.cells (bytV []).toArray 5)))
  clear ht hb
  go_enter Try.func33, Try.ntmps33
  go_wp2_with (fail)
  go_loopw [3, 4] (fun v3 v4 wr => PkRel w bs v3 v4 wr) (fun _ v4 _ => bs.length - (intOf v4).toNat)
  case atStart => exact ⟨0, some ⟨w.heap.size, 0, none⟩, 0, rfl, rfl, Nat.zero_le _, Lib.hid ⟨by
    have e : packB (bs.take 0) = [] := by rw [List.take_zero]; rfl
    rw [e]; exact O0.out.1, O0.out.2⟩⟩
  case round =>
    obtain ⟨i, q, c, rfl, rfl, hi, HK⟩ := hrel
    by_cases hlt : i < bs.length
    · have hlt' : i < t.size := by omega
      have hg : t.get! i = sgn (bs.getD i false) := by rw [← HT.out.1, strB_get _ _ hlt]
      have hg2 : t[i]'hlt' = sgn (bs.getD i false) := by
        rw [← hg]
        show t.data[i]'hlt' = t.data[i]!
        rw [getElem!_pos]
      have htk : bs.take (i + 1) = bs.take i ++ [bs.getD i false] := by
        rw [List.take_add_one, List.getElem?_eq_getElem hlt, List.getD_eq_getElem?_getD, List.getElem?_eq_getElem hlt]; rfl
      have htl : (bs.take i).length = i := by rw [List.length_take]; omega
      obtain ⟨x, hx⟩ : ∃ x, bs.getD i false = x := ⟨_, rfl⟩
      rw [hx] at hg2 htk
      have gi : (i : Int) < (bs.length : Int) := by omega
      obtain ⟨k, hk⟩ : ∃ k, i / 8 = k := ⟨_, rfl⟩
      obtain ⟨r, hr⟩ : ∃ r, i % 8 = r := ⟨_, rfl⟩
      have e1 : (i : Int) / 8 = (k : Int) := by omega
      have e2 : (i : Int) % 8 = (r : Int) := by omega
      have hr8 : r < 8 := by omega
      have gk : (k : Int) ≤ 131072 := by have := HT.out.2; omega
      have HI := Lib.hid (And.intro hlt (And.intro htk (And.intro htl (And.intro hk hr))))
      have hplen : (packB (bs.take i)).length = (i + 7) / 8 := by rw [packB_length, htl]
      by_cases h8 : r = 0
      · have t8 : ((r : Int) == 0) = true := by rw [h8]; rfl
        obtain ⟨g, cap, w2, hrun, hown, hgr⟩ := appendU_one (x := 0) HK.out.1 HK.out.2.size (by rw [hplen]; omega)
        rw [hplen] at hrun hgr
        have hm : (i + 7) / 8 = k := by omega
        rw [hm] at hrun hgr ⊢
        have hb2 : Below w.heap.size w w2 := HK.out.2.grown hgr HK.out.2.size (fun j e => by
          have := HK.out.1.1
          rw [hplen, hm] at this
          exact (World.ownsRow.lt this j e).1)
        obtain ⟨l2, hl2⟩ : ∃ l2, packB (bs.take i) ++ [0] = l2 := ⟨_, rfl⟩
        have hl2l : l2.length = k + 1 := by rw [← hl2, List.length_append, hplen, hm]; rfl
        have hpk : ∀ j, j < l2.length → l2.getD j 0 = packAt (bs.take i) j := by
          intro j hj
          rw [← hl2]
          by_cases q9 : j < k
          · rw [List.getD_eq_getElem?_getD, List.getElem?_append_left (by rw [hplen, hm]; exact q9), ← List.getD_eq_getElem?_getD, packB_getD _ _ (by rw [htl]; omega)]
          · have : j = k := by omega
            subst this
            rw [List.getD_eq_getElem?_getD, List.getElem?_append_right (by rw [hplen, hm]; exact Nat.le_refl _), hplen, hm, Nat.sub_self, packAt_zero _ _ (by rw [htl]; omega)]; rfl
        rw [hl2] at hown
        have HR := Lib.hid hrun
        clear hrun hgr hl2
        have hln : l2.length = ((bs.take i).length + 1 + 7) / 8 := by rw [htl, hl2l]; omega
        have hlen2 : (i + 1 + 7) / 8 = k + 1 := by omega
        have HL := Lib.hid hlen2
        cases x
        · have hq : (((t[i]'hlt').toNat : Int) == 49) = false := by rw [hg2]; rfl
          have hp := pack_false _ l2 hln hpk
          rw [← htk] at hp
          have HF := Lib.hid (And.intro hp (And.intro hown hb2))
          clear hp hown hb2 hpk hln hlen2 hg hg2 hx hlt hk hr h8 htk htl hplen hm hl2l
          go_wp2_with (at_builtin; refine t_append_eq rfl _ _ _ rfl _ _ _ _ rfl rfl HR.out ?_)
          go_round
          case rel => exact ⟨i + 1, some ⟨g, 0, none⟩, cap, by rw [HL.out], by go_num, by have := HI.out.1; omega, Lib.hid ⟨by rw [HF.out.1]; exact HF.out.2.1, HF.out.2.2⟩⟩
          case measure => have := HI.out.1; simp [intOf]; omega
        · have hq : (((t[i]'hlt').toNat : Int) == 49) = true := by rw [hg2]; rfl
          obtain ⟨hp, hp2⟩ := pack_true _ l2 hln hpk
          rw [← htk, htl, hk, hr] at hp
          rw [htl, hk, hr] at hp2
          obtain ⟨g9, hg9, hBg, -, x1, x2⟩ := hown.at (j := k) (by omega)
          obtain rfl : g9 = g := by injection hg9 with e; injection e with e _ _; exact e.symm
          obtain ⟨X, hX⟩ : ∃ X, l2.getD k 0 = X := ⟨_, rfl⟩
          rw [hX] at x1 hp hp2
          have hv : (((X : Int) + 128 / 2 ^ r) % 256) = ((X + 128 / 2 ^ r : Nat) : Int) := by
            have : ((128 / 2 ^ r : Nat) : Int) = (128 : Int) / 2 ^ r := by simp
            rw [← this]
            generalize 128 / 2 ^ r = Y at *
            omega
          have HV := Lib.hid hv
          have HF := Lib.hid (And.intro hp (And.intro hown (And.intro hb2 hBg)))
          clear hv hp hp2 hown hb2 hpk hln hlen2 hg hg2 hx hlt hk hr htk htl hplen hm hl2l hX hBg h8
          go_wp2_with (at_builtin; refine t_append_eq rfl _ _ _ rfl _ _ _ _ rfl rfl HR.out ?_)
          go_region
          go_wp2_with (fail)
          go_round
          case rel =>
            rw [HV.out]
            exact ⟨i + 1, some ⟨g9, 0, none⟩, cap, by rw [HL.out], by go_num, by have := HI.out.1; omega, Lib.hid ⟨by rw [HF.out.1]; exact HF.out.2.1.store k _, (HF.out.2.2.1.setCell HF.out.2.2.2 _).drew⟩⟩
          case measure => have := HI.out.1; simp [intOf]; omega
      · have t8 : ((r : Int) == 0) = false := by rw [beq_eq_false_iff_ne]; omega
        have hm : (i + 7) / 8 = k + 1 := by omega
        have hown := HK.out.1
        have hb2 := HK.out.2
        obtain ⟨w2, hw2⟩ : ∃ W, wr = W := ⟨_, rfl⟩
        subst hw2
        obtain ⟨l2, hl2⟩ : ∃ l2, packB (bs.take i) = l2 := ⟨_, rfl⟩
        have hl2l : l2.length = k + 1 := by rw [← hl2, hplen, hm]
        have hpk : ∀ j, j < l2.length → l2.getD j 0 = packAt (bs.take i) j := by
          intro j hj
          rw [← hl2, packB_getD _ _ (by rw [htl]; omega)]
        rw [hl2] at hown
        rw [hm]
        clear hl2
        have hln : l2.length = ((bs.take i).length + 1 + 7) / 8 := by rw [htl, hl2l]; omega
        have hlen2 : (i + 1 + 7) / 8 = k + 1 := by omega
        have HL := Lib.hid hlen2
        cases x
        · have hq : (((t[i]'hlt').toNat : Int) == 49) = false := by rw [hg2]; rfl
          have hp := pack_false _ l2 hln hpk
          rw [← htk] at hp
          have HF := Lib.hid (And.intro hp (And.intro hown hb2))
          clear hp hown hb2 hpk hln hlen2 hg hg2 hx hlt hk hr h8 htk htl hplen hm hl2l
          go_wp2_with (fail)
          go_round
          case rel => exact ⟨i + 1, q, c, by rw [HL.out], by go_num, by have := HI.out.1; omega, Lib.hid ⟨by rw [HF.out.1]; exact HF.out.2.1, HF.out.2.2⟩⟩
          case measure => have := HI.out.1; simp [intOf]; omega
        · have hq : (((t[i]'hlt').toNat : Int) == 49) = true := by rw [hg2]; rfl
          obtain ⟨hp, hp2⟩ := pack_true _ l2 hln hpk
          rw [← htk, htl, hk, hr] at hp
          rw [htl, hk, hr] at hp2
          obtain ⟨g9, hg9, hBg, -, x1, x2⟩ := hown.at (j := k) (by omega)
          subst hg9
          obtain ⟨X, hX⟩ : ∃ X, l2.getD k 0 = X := ⟨_, rfl⟩
          rw [hX] at x1 hp hp2
          have hv : (((X : Int) + 128 / 2 ^ r) % 256) = ((X + 128 / 2 ^ r : Nat) : Int) := by
            have : ((128 / 2 ^ r : Nat) : Int) = (128 : Int) / 2 ^ r := by simp
            rw [← this]
            generalize 128 / 2 ^ r = Y at *
            omega
          have HV := Lib.hid hv
          have HF := Lib.hid (And.intro hp (And.intro hown (And.intro hb2 hBg)))
          clear hv hp hp2 hown hb2 hpk hln hlen2 hg hg2 hx hlt hk hr htk htl hplen hm hl2l hX hBg h8
          go_wp2_with (fail)
          go_region
          go_wp2_with (fail)
          go_round
          case rel =>
            rw [HV.out]
            exact ⟨i + 1, some ⟨g9, 0, none⟩, c, by rw [HL.out], by go_num, by have := HI.out.1; omega, Lib.hid ⟨by rw [HF.out.1]; exact HF.out.2.1.store k _, (HF.out.2.2.1.setCell HF.out.2.2.2 _).drew⟩⟩
          case measure => have := HI.out.1; simp [intOf]; omega
    · obtain rfl : i = bs.length := by omega
      have hp : (bs.length + 7) / 8 = (packB bs).length := by rw [packB_length]
      have HP := Lib.hid hp
      clear hp
      go_wp2_with (fail)
      go_ret
      have ho := HK.out.1
      rw [List.take_of_length_le (Nat.le_refl _)] at ho
      exact ⟨q, c, by rw [← HP.out]; rfl, ho, HK.out.2⟩
end Go.Proofs.Ytaiiigknlnhdgaa
