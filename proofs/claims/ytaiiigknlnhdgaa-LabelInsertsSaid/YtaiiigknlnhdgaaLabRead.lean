/- Proved here: what label's reading of bits answers: one bit, how many alike, one number. -/
import Derived.Test.YtaiiigknlnhdgaaLabBytes
namespace Go.Proofs.Ytaiiigknlnhdgaa
open Go.RowKit

/-- These bytes stand behind this address (nothing is asked of none). -/
def HoldsU (w : World) (p : Option Addr) (l : List Nat) : Prop := 0 < l.length → ∃ b off, p = some ⟨b, off, none⟩ ∧ ∀ j, j < l.length → w.cell? ⟨b, off + j, none⟩ = some (.int .u8 ((l.getD j 0 : Nat) : Int))
theorem HoldsU.below {w W : World} {p : Option Addr} {l : List Nat} (h : HoldsU w p l) (hb : Below w.heap.size w W) : HoldsU W p l := fun h0 => by
  obtain ⟨b, off, e, hc⟩ := h h0
  exact ⟨b, off, e, fun j hj => t_cell hb (hc j hj)⟩
theorem OwnU.holds {w : World} {B : Nat} {q : Option Addr} {c : Nat} {l : List Nat} (h : OwnU w B q c l) : HoldsU w q l := fun h0 => by
  have hown := h.1
  rcases hown.2 with ⟨e, h1⟩ | ⟨g, cap, cur, e, hb, hh, hc, _, _⟩
  · omega
  · injection e with e1 e2 e3
    subst e1
    refine ⟨g, 0, rfl, fun j hj => ?_⟩
    rw [Nat.zero_add, World.ownsRow.cellAt hown j (by omega), bytV_get l j hj]
theorem bit_of (x s : Nat) : bits BinOp.and IntKind.i64 ((x : Int) / 2 ^ s) 1 = ((b2n (x.testBit s) : Nat) : Int) := by
  have e : ((x : Int) / 2 ^ s) % 2 = ((x / 2 ^ s % 2 : Nat) : Int) := by simp
  rw [and_one, e, Nat.testBit_eq_decide_div_mod_eq]
  rcases Nat.mod_two_eq_zero_or_one (x / 2 ^ s) with h | h <;> rw [h] <;> decide
theorem getD_lt {l : List Nat} (h : ∀ x ∈ l, x < 256) (j : Nat) : l.getD j 0 < 256 := by
  rw [List.getD_eq_getElem?_getD]
  rcases Nat.lt_or_ge j l.length with q | q
  · rw [List.getElem?_eq_getElem q]; exact h _ (List.getElem_mem q)
  · rw [List.getElem?_eq_none q]; decide
set_option maxHeartbeats 1000000 in
theorem bitOf_any (p : Option Addr) (l : List Nat) (c : Nat) (w : World) (hl : l.length ≤ 140737488355328) (__hlc : l.length ≤ c) (h : HoldsU w p l) (hx : ∀ x ∈ l, x < 256) (i : Nat) (hi : i < 8 * l.length) :
    Calls Try.prog 64 #[.slice p l.length c, .int .i64 (i : Int)] w fun e w' => e = .returned (.int .i64 ((b2n ((unpackB l).getD i false) : Nat) : Int)) ∧ w = w' := by
  obtain ⟨b, off, rfl, hc⟩ := h (by omega)
  have hx1 := getD_lt hx (i / 8)
  have c1 := hc (i / 8) (by omega)
  rw [unpackB_get _ _ hi]
  unfold bitAt
  generalize l.getD (i / 8) 0 = x at *
  obtain ⟨k, hk⟩ : ∃ k, i / 8 = k := ⟨_, rfl⟩
  obtain ⟨r, hr⟩ : ∃ r, i % 8 = r := ⟨_, rfl⟩
  have e1 : (i : Int) / 8 = (k : Int) := by omega
  have e2 : (i : Int) % 8 = (r : Int) := by omega
  have hr8 : r < 8 := by omega
  have hkl : k < l.length := by omega
  have hii : (i : Int) ≤ 1125899906842624 := by omega
  have hkk : (k : Int) ≤ 140737488355328 := by omega
  rw [hk] at c1
  rw [hr]
  have HBt := Lib.hid (bit_of x (7 - r))
  have HW : Hid (wrap64 ((x : Int) / 2 ^ (7 - r)) = (x : Int) / 2 ^ (7 - r)) := by
    have e : ((x : Int) / 2 ^ (7 - r)) = ((x / 2 ^ (7 - r) : Nat) : Int) := by simp
    have h2 := Nat.div_le_self x (2 ^ (7 - r))
    rw [e]
    generalize x / 2 ^ (7 - r) = y at *
    show wrap64 (y : Int) = y
    unfold wrap64; omega
  clear hc hx h hi hk hr
  go_enter Try.func64, Try.ntmps64
  go_wp2_with (fail)
  go_ret
  exact ⟨ret_i (by rw [HW.out]; exact HBt.out), rfl⟩
theorem drop_cons_b {U : List Bool} {i : Nat} (h : i < U.length) : U.drop i = U.getD i false :: U.drop (i + 1) := by
  rw [List.drop_eq_getElem_cons h]
  simp [List.getD, List.getElem?_eq_getElem h]
set_option maxHeartbeats 2000000 in
theorem alike_any (p : Option Addr) (l : List Nat) (c : Nat) (w : World) (hl : l.length ≤ 1048576) (hlc : l.length ≤ c) (h : HoldsU w p l) (hx : ∀ x ∈ l, x < 256) (i : Nat) (hi : i < 8 * l.length) :
    Calls Try.prog 65 #[.slice p l.length c, .int .i64 (i : Int)] w fun e w' => e = .returned (.int .i64 ((runB ((unpackB l).getD i false) ((unpackB l).drop i) : Nat) : Int)) ∧ w = w' := by
  obtain ⟨U, hU⟩ : ∃ U, unpackB l = U := ⟨_, rfl⟩
  have BT := Lib.hid (fun j (hj : j < 8 * l.length) => bitOf_any p l c w (by omega) hlc h hx j hj)
  rw [hU] at BT ⊢
  have hUl : U.length = 8 * l.length := by rw [← hU, unpackB_length]
  obtain ⟨n, hn⟩ : ∃ n, l.length = n := ⟨_, rfl⟩
  rw [hn] at BT hUl hi hl ⊢
  obtain ⟨d, hd⟩ : ∃ d, U.getD i false = d := ⟨_, rfl⟩
  have B0 := Lib.hid (BT.out i hi)
  rw [hd] at B0 ⊢
  have hnn : (n : Int) ≤ 1048576 := by omega
  have hii : (i : Int) < 8 * (n : Int) := by omega
  have HU := Lib.hid hUl
  clear h hx hU hn hlc hUl hd
  go_enter Try.func65, Try.ntmps65
  go_wp2_with (fail)
  go_loop [13] (fun v => ∃ k : Nat, v = .int .i64 (k : Int) ∧ i + k ≤ 8 * n ∧ Hid (runB d (U.drop i) = k + runB d (U.drop (i + k)))) (fun v => 8 * n - (intOf v).toNat)
  case atStart => exact ⟨0, rfl, by omega, Lib.hid (by simp)⟩
  case round =>
    obtain ⟨k, rfl, hk, HK⟩ := hrel
    by_cases hlt : i + k < 8 * n
    · have BK := Lib.hid (BT.out (i + k) hlt)
      have hdr := drop_cons_b (U := U) (i := i + k) (by rw [HU.out]; exact hlt)
      obtain ⟨x, hx⟩ : ∃ x, U.getD (i + k) false = x := ⟨_, rfl⟩
      rw [hx] at BK hdr
      have es : ((i + k : Nat) : Int) = (i : Int) + (k : Int) := by omega
      rw [es] at BK
      have HD := Lib.hid hdr
      clear hdr hx es
      by_cases hxd : x = d
      · have hne : (((b2n x : Nat) : Int) != ((b2n d : Nat) : Int)) = false := by rw [hxd]; simp
        have HX := Lib.hid hxd
        clear hxd
        go_wp2_with (fail)
        refine (BK.out).mono ?_
        rintro e w' ⟨rfl, rfl⟩
        go_wp2_with (fail)
        refine (B0.out).mono ?_
        rintro e w' ⟨rfl, rfl⟩
        go_wp2_with (fail)
        go_round
        case rel => exact ⟨k + 1, by go_num, by omega, Lib.hid (by rw [HK.out, HD.out, HX.out, runB, if_pos rfl]; simp only [Nat.add_assoc]; omega)⟩
        case measure => simp [intOf]; omega
      · have hne : (((b2n x : Nat) : Int) != ((b2n d : Nat) : Int)) = true := by
          rw [bne_iff_ne]
          cases x <;> cases d <;> simp [b2n] at hxd ⊢
        have HX := Lib.hid hxd
        clear hxd
        go_wp2_with (fail)
        refine (BK.out).mono ?_
        rintro e w' ⟨rfl, rfl⟩
        go_wp2_with (fail)
        refine (B0.out).mono ?_
        rintro e w' ⟨rfl, rfl⟩
        go_wp2_with (fail)
        go_ret
        refine ⟨ret_i ?_, rfl⟩
        rw [HK.out, HD.out, runB, if_neg HX.out]; rfl
    · go_wp2_with (fail)
      go_ret
      refine ⟨ret_i ?_, rfl⟩
      have h1 := HK.out
      have hnil : U.drop (i + k) = [] := List.drop_eq_nil_of_le (by rw [HU.out]; omega)
      rw [hnil] at h1
      rw [h1]
      show _ = ((k + 0 : Nat) : Int)
      omega
theorem numOf_snoc (c : Bool) : ∀ (l : List Bool) (acc : Nat) (b : Bool), numOf c acc (l ++ [b]) = 2 * numOf c acc l + (if b = c then 1 else 0)
  | [], acc, b => rfl
  | x :: l, acc, b => by rw [List.cons_append, numOf, numOf, numOf_snoc c l]
theorem numOf_lt (c : Bool) : ∀ (l : List Bool), numOf c 1 l < 2 ^ (l.length + 1) := by
  have h : ∀ (l : List Bool) (acc : Nat), numOf c acc l < (acc + 1) * 2 ^ l.length := by
    intro l
    induction l with
    | nil => intro acc; simp [numOf]
    | cons x l ih =>
      intro acc
      rw [numOf, List.length_cons, Nat.pow_succ]
      refine Nat.lt_of_lt_of_le (ih _) ?_
      have : 2 * acc + (if x = c then 1 else 0) + 1 ≤ (acc + 1) * 2 := by split <;> omega
      calc (2 * acc + (if x = c then 1 else 0) + 1) * 2 ^ l.length ≤ ((acc + 1) * 2) * 2 ^ l.length := Nat.mul_le_mul_right _ this
        _ = (acc + 1) * (2 ^ l.length * 2) := by rw [Nat.mul_assoc, Nat.mul_comm 2]
  intro l
  have := h l 1
  rw [Nat.pow_succ, Nat.mul_comm]
  exact this
end Go.Proofs.Ytaiiigknlnhdgaa
