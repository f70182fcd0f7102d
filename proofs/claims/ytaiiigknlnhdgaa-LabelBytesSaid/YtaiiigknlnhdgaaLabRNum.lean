/- Proved here: what the document's reading of one number answers. -/
import Derived.Test.YtaiiigknlnhdgaaLabRBytes
import Derived.Test.YtaiiigknlnhdgaaLabBetween
import Derived.BigRegion
namespace Go.Proofs.Ytaiiigknlnhdgaa
open Go.RowKit

/-- The document's reading of one number: as label's, of a run one longer too. -/
def numR (l : List Bool) : Int × Nat :=
  let c := l.headD false
  let k := runB c l
  if 32 < k ∨ l.length < 2 * k then (0, 0)
  else (if c then (numOf c 1 ((l.drop (k + 1)).take (k - 1)) : Int) - 1 else -(numOf c 1 ((l.drop (k + 1)).take (k - 1)) : Int), 2 * k)
theorem numR_none {D : List Bool} (k : Nat) (hk : runB (D.headD false) D = k) (h : 32 < k ∨ D.length < 2 * k) : numR D = (0, 0) := by
  unfold numR
  simp only [hk]
  rw [if_pos h]
theorem numR_some {D : List Bool} (k : Nat) (c : Bool) (hc : D.headD false = c) (hk : runB c D = k) (h : ¬ (32 < k ∨ D.length < 2 * k)) : numR D = (if c then (numOf c 1 ((D.drop (k + 1)).take (k - 1)) : Int) - 1 else -(numOf c 1 ((D.drop (k + 1)).take (k - 1)) : Int), 2 * k) := by
  unfold numR
  simp only [hc, hk]
  rw [if_neg h]
theorem numR_same {D : List Bool} (h : (numB D).2 ≠ 0) : numR D = numB D := by
  by_cases hb : 31 < runB (D.headD false) D ∨ D.length < 2 * runB (D.headD false) D
  · rw [numB_none _ rfl hb] at h; exact absurd rfl h
  · rw [numB_some _ _ rfl rfl hb, numR_some _ _ rfl rfl (by omega)]
theorem runB_spec (c : Bool) : ∀ D : List Bool, (∀ t, t < runB c D → D.getD t false = c) ∧ (runB c D < D.length → D.getD (runB c D) false ≠ c)
  | [] => ⟨fun t h => absurd h (Nat.not_lt_zero _), fun h => absurd h (Nat.not_lt_zero _)⟩
  | b :: l => by
    obtain ⟨h1, h2⟩ := runB_spec c l
    unfold runB
    by_cases q : b = c
    · rw [if_pos q]
      refine ⟨fun t ht => ?_, fun h => ?_⟩
      · cases t with
        | zero => exact q
        | succ t => simpa using h1 t (by omega)
      · simpa using h2 (by simpa using h)
    · rw [if_neg q]
      exact ⟨fun t h => absurd h (Nat.not_lt_zero _), fun _ => q⟩
theorem sgn_eq (a b : Bool) : (((sgn a).toNat : Int) == ((sgn b).toNat : Int)) = (a == b) := by cases a <;> cases b <;> rfl
theorem strB_at (U : List Bool) (Z : ByteArray) (hZ : strB U = Z) (i : Nat) (h : i < Z.size) : Z[i]'h = sgn (U.getD i false) := by
  subst hZ
  rw [← strB_get U i (by rw [strB_size] at h; exact h)]
  show (strB U).data[i]'h = (strB U).data[i]!
  rw [getElem!_pos]
theorem numOf_snoc2 (c : Bool) (b : Bool) : ∀ (l : List Bool) (a : Nat), numOf c a (l ++ [b]) = 2 * numOf c a l + (if b = c then 1 else 0)
  | [], a => rfl
  | x :: l, a => by
    rw [List.cons_append]
    unfold numOf
    exact numOf_snoc2 c b l _
theorem numOf_big (c : Bool) : ∀ (l : List Bool) (a : Nat), numOf c a l < (a + 1) * 2 ^ l.length
  | [], a => by unfold numOf; simp
  | x :: l, a => by
    unfold numOf
    have h := numOf_big c l (2 * a + (if x = c then 1 else 0))
    have h2 : (2 * a + (if x = c then 1 else 0) + 1) ≤ 2 * (a + 1) := by split <;> omega
    have h3 : (2 * a + (if x = c then 1 else 0) + 1) * 2 ^ l.length ≤ 2 * (a + 1) * 2 ^ l.length := Nat.mul_le_mul_right _ h2
    have h4 : (a + 1) * 2 ^ (x :: l).length = 2 * (a + 1) * 2 ^ l.length := by
      rw [List.length_cons, Nat.pow_succ', ← Nat.mul_assoc, Nat.mul_comm (a + 1) 2]
    omega
def nextR (i m : Nat) : Int := if m = 0 then -1 else ((i + m : Nat) : Int)
set_option maxRecDepth 100000 in
set_option maxHeartbeats 8000000 in
theorem rnumber_any (U : List Bool) (hU : U.length ≤ 960) (i : Nat) (hi : i < U.length) (w : World) :
    Calls Try.prog 36 #[.string (strB U), .int .i64 (i : Int)] w fun e w' => e = .returned (.tuple #[.int .i64 (numR (U.drop i)).1, .int .i64 (nextR i (numR (U.drop i)).2)]) ∧ w = w' := by
  obtain ⟨Z, hZ⟩ : ∃ Z, strB U = Z := ⟨_, rfl⟩
  have hZs : Z.size = U.length := by rw [← hZ, strB_size]
  have hDl : (U.drop i).length = U.length - i := by rw [List.length_drop]
  have hpos : 0 < runB ((U.drop i).headD false) (U.drop i) := runB_pos (by omega)
  have hrl := runB_le ((U.drop i).headD false) (U.drop i)
  rw [hDl] at hrl
  obtain ⟨d, hd⟩ : ∃ d, U.getD i false = d := ⟨_, rfl⟩
  have hhd : (U.drop i).headD false = d := by rw [headD_drop, hd]
  rw [hhd] at hpos hrl
  obtain ⟨hsp1, hsp2⟩ := runB_spec d (U.drop i)
  obtain ⟨k, hk⟩ : ∃ k, runB d (U.drop i) = k + 1 := ⟨runB d (U.drop i) - 1, by omega⟩
  rw [hk] at hpos hrl hsp1 hsp2
  rw [hDl] at hsp2
  have hgd : ∀ t, (U.drop i).getD t false = U.getD (i + t) false := by
    intro t
    rw [List.getD_eq_getElem?_getD, List.getElem?_drop, List.getD_eq_getElem?_getD]
  have hat : ∀ j (h : j < Z.size), ((Z[j]'h).toNat : Int) = ((sgn (U.getD j false)).toNat : Int) := fun j h => by rw [strB_at U Z hZ j h]
  have hc0 : ∀ h, ((Z[i]'h).toNat : Int) = ((sgn d).toNat : Int) := fun h => by rw [hat, hd]
  have HAT := Lib.hid (And.intro hat hc0)
  have HSP := Lib.hid (And.intro hsp1 (And.intro hsp2 hgd))
  have gU : (U.length : Int) ≤ 960 := by omega
  have gi : (i : Int) < (U.length : Int) := by omega
  have HRL := Lib.hid hrl
  have gk : (k : Int) + 1 ≤ 960 := by omega
  have HRES : Hid (numR (U.drop i) = if 32 < k + 1 ∨ U.length - i < 2 * (k + 1) then (0, 0) else (if d then (numOf d 1 (((U.drop i).drop (k + 1 + 1)).take k) : Int) - 1 else -(numOf d 1 (((U.drop i).drop (k + 1 + 1)).take k) : Int), 2 * (k + 1))) := Lib.hid (by
    split
    · rename_i h
      exact numR_none (k + 1) (by rw [hhd]; exact hk) (by rw [hDl]; exact h)
    · rename_i h
      exact numR_some (k + 1) d hhd hk (by rw [hDl]; exact h))
  have hZ' := hZ
  clear hZ hDl hpos hrl hd hhd hk hsp1 hsp2 hgd hat hc0
  obtain ⟨R, hR⟩ : ∃ R, numR (U.drop i) = R := ⟨_, rfl⟩
  rw [hR] at HRES ⊢
  rw [hZ']
  clear hR hZ'
  go_enter Try.func36, Try.ntmps36
  go_wp2_with (fail)
  go_loop [7] (fun v => ∃ K : Nat, v = .int .i64 (K : Int) ∧ i < K ∧ K ≤ i + 1 + k) (fun v => 961 - (intOf v).toNat)
  case atStart => exact ⟨i + 1, by go_num, by omega, by omega⟩
  case round =>
    obtain ⟨K, rfl, hK1, hK2⟩ := hrel
    by_cases hlt : K < i + 1 + k
    · have hKU : K < U.length := by have := HRL.out; omega
      have gK : (K : Int) < (U.length : Int) := by omega
      have hKz : K < Z.size := by omega
      have hiz : i < Z.size := by omega
      have hq : (((Z[K]'hKz).toNat : Int) == ((Z[i]'hiz).toNat : Int)) = true := by
        rw [HAT.out.1, HAT.out.2, sgn_eq]
        have := HSP.out.1 (K - i) (by omega)
        rw [HSP.out.2.2, show i + (K - i) = K by omega] at this
        rw [this]; simp
      have HLT := Lib.hid (And.intro hlt (And.intro hK1 hKU))
      clear hlt hK1 hK2
      go_wp2_with (fail)
      go_round
      case rel => exact ⟨K + 1, by go_num, by have := HLT.out; omega, by have := HLT.out; omega⟩
      case measure => have := HLT.out; simp [intOf]; omega
    · have hKe : K = i + 1 + k := by omega
      have HKE := Lib.hid hKe
      have e1 : (K : Int) - (i : Int) - 1 = (k : Int) := by omega
      have hiz : i < Z.size := by omega
      have hKU : K ≤ U.length := by have := HRL.out; omega
      have hq : ∀ h : K < Z.size, (((Z[K]'h).toNat : Int) == ((Z[i]'hiz).toNat : Int)) = false := by
        intro h
        rw [HAT.out.1, HAT.out.2, sgn_eq]
        have := HSP.out.2.1 (by omega)
        rw [HSP.out.2.2, show i + (k + 1) = K by omega] at this
        rw [beq_eq_false_iff_ne]; exact this
      have gK0 : (K : Int) ≤ 960 := by omega
      clear hlt hK1 hK2 hKe
      by_cases hbad : U.length < K + 1 + k ∨ 31 < k
      · have hR : R = (0, 0) := by
          rw [HRES.out, if_pos]
          have := HKE.out
          omega
        have HR := Lib.hid hR
        have gb : (U.length : Int) < (K : Int) + 1 + (k : Int) ∨ ¬ (U.length : Int) < (K : Int) + 1 + (k : Int) ∧ (31 : Int) < (k : Int) := by omega
        clear hR hbad HRES
        rcases Nat.lt_or_ge K U.length with hlt | hge
        · have hKz : K < Z.size := by omega
          have hq2 := hq hKz
          have gK : (K : Int) < (U.length : Int) := by omega
          clear hq
          rcases gb with gb | ⟨gb0, gb⟩
          · go_wp2_with (fail)
            go_ret2
            rw [HR.out]
            exact ⟨rfl, rfl⟩
          · go_wp2_with (fail)
            go_ret2
            rw [HR.out]
            exact ⟨rfl, rfl⟩
        · have gK : ¬ (K : Int) < (U.length : Int) := by omega
          clear hq
          rcases gb with gb | ⟨gb0, gb⟩
          · go_wp2_with (fail)
            go_ret2
            rw [HR.out]
            exact ⟨rfl, rfl⟩
          · go_wp2_with (fail)
            go_ret2
            rw [HR.out]
            exact ⟨rfl, rfl⟩
      · have hKz : K < Z.size := by omega
        have hq2 := hq hKz
        have gK : (K : Int) < (U.length : Int) := by omega
        have gb1 : ¬ (U.length : Int) < (K : Int) + 1 + (k : Int) := by omega
        have gb2 : ¬ (31 : Int) < (k : Int) := by omega
        obtain ⟨S, hS⟩ : ∃ S, ((U.drop i).drop (k + 1 + 1)).take k = S := ⟨_, rfl⟩
        have hSl : S.length = k := by rw [← hS, List.length_take, List.length_drop, List.length_drop]; have := HKE.out; omega
        have hSg : ∀ t, t < k → S.getD t false = U.getD (K + 1 + t) false := by
          intro t ht
          rw [← hS]
          simp only [List.getD_eq_getElem?_getD]
          rw [List.getElem?_take_of_lt ht, List.getElem?_drop, List.getElem?_drop]
          congr 2; have := HKE.out; omega
        have hSt : ∀ t, t < k → numOf d 1 (S.take (t + 1)) = 2 * numOf d 1 (S.take t) + (if S.getD t false = d then 1 else 0) := by
          intro t ht
          rw [List.take_add_one, List.getElem?_eq_getElem (by omega), Option.toList_some, numOf_snoc2, List.getD_eq_getElem?_getD, List.getElem?_eq_getElem (by omega)]
          rfl
        have hSb : ∀ t, numOf d 1 (S.take t) ≤ 4294967296 := by
          intro t
          have h1 := numOf_big d (S.take t) 1
          have h2 : (S.take t).length ≤ S.length := by rw [List.length_take]; omega
          have h3 : 2 ^ ((S.take t).length + 1) ≤ 2 ^ 32 := Nat.pow_le_pow_right (by decide) (by omega)
          have h4 : (2 : Nat) ^ 32 = 4294967296 := by decide
          have h5 : (1 + 1) * 2 ^ (S.take t).length = 2 ^ ((S.take t).length + 1) := by rw [Nat.pow_succ']
          omega
        have hR : R = (if d then (numOf d 1 S : Int) - 1 else -(numOf d 1 S : Int), 2 * (k + 1)) := by
          rw [HRES.out, if_neg, hS]
          have := HKE.out
          omega
        have HR := Lib.hid hR
        have HS := Lib.hid (And.intro hSl (And.intro hSg (And.intro hSt (And.intro hSb (show K + 1 + k ≤ U.length by omega)))))
        clear hR hbad HRES hq hS hSl hSg hSt hSb
        go_wp2_with (fail)
        go_loop [9, 10] (fun a v => ∃ J t : Nat, v = .int .i64 (J : Int) ∧ J = K + 1 + t ∧ t ≤ k ∧ a = .int .i64 (numOf d 1 (S.take t) : Int)) (fun _ v => 2000 - (intOf v).toNat)
        case atStart => exact ⟨K + 1, 0, by go_num, rfl, Nat.zero_le _, rfl⟩
        case round =>
          obtain ⟨J, t, rfl, hJ, ht, rfl⟩ := hrel
          have hm := HS.out.2.2.2.1 t
          by_cases hlt : t < k
          · have hst := HS.out.2.2.1 t hlt
            have hJU : J < U.length := by have := HS.out.2.2.2.2; omega
            have hJz : J < Z.size := by omega
            have hx : U.getD J false = S.getD t false := by rw [HS.out.2.1 t hlt, hJ]
            generalize S.getD t false = x at *
            obtain ⟨m, hmm⟩ : ∃ m, numOf d 1 (S.take t) = m := ⟨_, rfl⟩
            rw [hmm] at hm hst ⊢
            have hq3 : (((Z[J]'hJz).toNat : Int) == ((Z[i]'hiz).toNat : Int)) = (x == d) := by rw [HAT.out.1, HAT.out.2, sgn_eq, hx]
            have gJ : (J : Int) < (U.length : Int) := by omega
            have gJ2 : (J : Int) < (K : Int) + 1 + (k : Int) := by omega
            have gm : (m : Int) ≤ 4294967296 := by omega
            have HST := Lib.hid (And.intro hst (And.intro hlt (And.intro hJ hJU)))
            clear hst hx hmm hlt hm hJ ht
            by_cases hxd : x = d
            · have hq4 : (x == d) = true := by rw [hxd]; simp
              rw [hq4] at hq3
              have HX := Lib.hid hxd
              clear hq4 hxd
              go_wp2_with (fail)
              go_round
              case rel => exact ⟨J + 1, t + 1, by go_num, by have := HST.out; omega, by have := HST.out; omega, by rw [HST.out.1, if_pos HX.out]; go_num⟩
              case measure => have := HST.out; simp [intOf]; omega
            · have hq4 : (x == d) = false := by rw [beq_eq_false_iff_ne]; exact hxd
              rw [hq4] at hq3
              have HX := Lib.hid hxd
              clear hq4 hxd
              go_wp2_with (fail)
              go_round
              case rel => exact ⟨J + 1, t + 1, by go_num, by have := HST.out; omega, by have := HST.out; omega, by rw [HST.out.1, if_neg HX.out]; go_num⟩
              case measure => have := HST.out; simp [intOf]; omega
          · obtain rfl : t = k := by omega
            have hall : S.take t = S := List.take_of_length_le (by rw [HS.out.1]; exact Nat.le_refl _)
            rw [hall] at hm ⊢
            obtain ⟨m, hmm⟩ : ∃ m, numOf d 1 S = m := ⟨_, rfl⟩
            rw [hmm] at hm ⊢
            have gm : (m : Int) ≤ 4294967296 := by omega
            have gJ2 : ¬ (J : Int) < (K : Int) + 1 + (t : Int) := by omega
            have HM := Lib.hid hmm
            clear hall hmm hm hlt ht hJ
            have hnx : nextR i (2 * (t + 1)) = (K : Int) + 1 + (t : Int) := by
              unfold nextR
              rw [if_neg (by omega)]
              have := HKE.out
              omega
            have HNX := Lib.hid hnx
            clear hnx
            cases d
            · have hq5 : (((Z[i]'hiz).toNat : Int) == 49) = false := by rw [HAT.out.2]; rfl
              go_wp2_with (fail)
              go_ret2
              refine ⟨?_, rfl⟩
              rw [HR.out, HM.out, HNX.out]
              rfl
            · have hq5 : (((Z[i]'hiz).toNat : Int) == 49) = true := by rw [HAT.out.2]; rfl
              go_wp2_with (fail)
              go_ret2
              refine ⟨?_, rfl⟩
              rw [HR.out, HM.out, HNX.out]
              rfl
end Go.Proofs.Ytaiiigknlnhdgaa
