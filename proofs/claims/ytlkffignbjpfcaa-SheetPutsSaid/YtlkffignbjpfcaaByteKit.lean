/- Proved here: rows of bytes: how they lie in memory, what append, make and a string of them do. -/
import Derived.Test.YtlkffignbjpfcaaDrumPlain
import Derived.WalkKit
import Derived.Below
import Derived.Laws.AppendOwn
import Derived.Laws.AppendOwnNone
import Derived.Laws.OwnMore
import Derived.OwnWalk
import Derived.Laws.MakeOwn
import Derived.Laws.BytesArg
import Derived.Laws.IdiomStrings
import Derived.Lib.SliceRun
namespace Go.Proofs.Ytlkffignbjpfcaa
open Go.RowKit

theorem ret_bool {a b : Bool} (h : a = b) : Ending.returned (.bool a) = .returned (.bool b) := by rw [h]
theorem ret_i {k : IntKind} {a b : Int} (h : a = b) : Ending.returned (.int k a) = .returned (.int k b) := by rw [h]
theorem get!_of (s : ByteArray) (j : Nat) (hj : j < s.size) : s.data.toList[j]? = some (s.get! j) := by
  have e : s.get! j = s.data[j]'hj := by
    show s.data[j]! = _
    rw [getElem!_pos s.data j hj]
  rw [e]
  simp [Array.getElem?_eq_getElem (show j < s.data.size from hj)]
theorem get!_left (a b : ByteArray) (j : Nat) (h : j < a.size) : (a ++ b).get! j = a.get! j := by
  have e1 := get!_of (a ++ b) j (by simp; omega)
  have e2 := get!_of a j h
  have e3 : (a ++ b).data.toList = a.data.toList ++ b.data.toList := by simp
  rw [e3, List.getElem?_append_left (by simpa using h), e2] at e1
  exact (Option.some.inj e1).symm
theorem get!_out (s : ByteArray) (j : Nat) (h : ¬ j < s.size) : s.get! j = default := by
  show s.data[j]! = _
  exact getElem!_neg s.data j h
theorem get!_right (a b : ByteArray) (j : Nat) : (a ++ b).get! (a.size + j) = b.get! j := by
  by_cases h : j < b.size
  · have e1 := get!_of (a ++ b) (a.size + j) (by simp; omega)
    have e2 := get!_of b j h
    have e3 : (a ++ b).data.toList = a.data.toList ++ b.data.toList := by simp
    have e4 : a.data.toList.length = a.size := by simp
    rw [e3, List.getElem?_append_right (by omega), e4, Nat.add_sub_cancel_left, e2] at e1
    exact (Option.some.inj e1).symm
  · rw [get!_out _ _ (by simp; omega), get!_out _ _ h]


theorem cellsByte : Try.prog.cellsOf 5 = 1 := by kernel_rfl

/-- These bytes stand behind this address (nothing is asked of none). -/
def HoldsB (w : World) (p : Option Addr) (s : ByteArray) : Prop := 0 < s.size → ∃ b off, p = some ⟨b, off, none⟩ ∧ ∀ j, j < s.size → w.cell? ⟨b, off + j, none⟩ = some (.int .u8 (s.get! j).toNat)

theorem below_cat {a b c : World} (h : Below a.heap.size a b) (k : Below b.heap.size b c) : Below a.heap.size a c := h.trans (k.mono h.size)
theorem hb_cell {w W : World} {a : Addr} {v : Value} (h : Below w.heap.size w W) (hc : w.cell? a = some v) : W.cell? a = some v :=
  (h.cell (World.block_lt_of_cell? _ _ hc)).trans hc
theorem HoldsB.below {w W : World} {p : Option Addr} {s : ByteArray} (h : HoldsB w p s) (hb : Below w.heap.size w W) : HoldsB W p s := fun h0 => by
  obtain ⟨b, off, e, hc⟩ := h h0
  exact ⟨b, off, e, fun j hj => hb_cell hb (hc j hj)⟩


def bytesV (s : ByteArray) : List Value := s.data.toList.map fun b => Value.int .u8 (b.toNat : Int)
theorem bytesV_length (s : ByteArray) : (bytesV s).length = s.size := by simp [bytesV]
theorem bytesV_append (s t : ByteArray) : bytesV (s ++ t) = bytesV s ++ bytesV t := by simp [bytesV]
theorem bytesV_get (s : ByteArray) (j : Nat) (h : j < s.size) : (bytesV s)[j]? = some (.int .u8 ((s.get! j).toNat : Int)) := by
  have e : s.get! j = s.data[j]'h := by
    show s.data[j]! = _
    rw [getElem!_pos s.data j h]
  rw [e]
  simp [bytesV, Array.getElem?_eq_getElem (show j < s.data.size from h)]
theorem bytesV_one (s : ByteArray) : ∀ u ∈ bytesV s, u.oneCell' = true := by
  intro u hu
  simp only [bytesV, List.mem_map] at hu
  obtain ⟨b, _, rfl⟩ := hu
  rfl

/-- The slice value v is a row of the call's own (from block B on) that holds just these bytes. -/
def Owns (w : World) (B : Nat) (g cap : Nat) (s : ByteArray) : Prop := w.ownsRow B 5 1 (.slice (some ⟨g, 0, none⟩) s.size cap) s.size (bytesV s) ∧ B ≤ g ∧ g < w.heap.size ∧ s.size ≤ cap

theorem Owns.holds {w : World} {B g cap : Nat} {s : ByteArray} (h : Owns w B g cap s) : HoldsB w (some ⟨g, 0, none⟩) s := fun _ =>
  ⟨g, 0, rfl, fun j hj => by rw [Nat.zero_add, h.1.cellAt j (by omega), bytesV_get s j hj]⟩
theorem Owns.of_row {w : World} {B : Nat} {v : Value} {s : ByteArray} (h : w.ownsRow B 5 1 v s.size (bytesV s)) (hv : v ≠ .slice none 0 0) : ∃ g cap, v = .slice (some ⟨g, 0, none⟩) s.size cap ∧ Owns w B g cap s := by
  rcases h.2 with ⟨rfl, _⟩ | ⟨g, cap, cur, rfl, hb, hh, hc, _, _⟩
  · exact absurd rfl hv
  · exact ⟨g, cap, rfl, h, hb, (h.lt g rfl).2, hc⟩
theorem Owns.far {w w' : World} {B g cap : Nat} {s : ByteArray} (h : Owns w B g cap s) (hb : Below w.heap.size w w') : Owns w' B g cap s := by
  have hg : w.grownBy w' none := ⟨hb.os, hb.tape, hb.output, hb.size, fun i hi _ => hb.block i hi⟩
  exact ⟨h.1.kept hg (.inr (by simp [Value.ownBlock])), h.2.1, Nat.lt_of_lt_of_le h.2.2.1 hb.size, h.2.2.2⟩

theorem infoByte : (Try.prog.info? 5).map (fun i => (i.zero, i.size, i.bytes)) = some (some (.int .u8 0), 1, 1) := by kernel_rfl

/-- 'append(v, src...)': what v held and what src holds, in a row of the call's own. -/
theorem append_run {w : World} {B g cap : Nat} {s t : ByteArray} {p : Option Addr} {c : Nat} (h : Owns w B g cap s) (hp : HoldsB w p t) (hnil : p = none → c = 0 ∧ t.size = 0) (hB : B ≤ w.heap.size) (hsz : s.size + t.size ≤ 140737488355328) :
    ∃ g' cap' w', (∀ ty, (Builtin.append_ #[33, 33] ty #[.slice (some ⟨g, 0, none⟩) s.size cap, .slice p t.size c]).run Try.prog w = .ok (.slice (some ⟨g', 0, none⟩) (s.size + t.size) cap') w') ∧
      Owns w' B g' cap' (s ++ t) ∧ w.grownBy w' (some g) ∧ w.heap.size ≤ w'.heap.size := by
  obtain ⟨i0, hi, hz0, hz1, hz2⟩ := info_parts infoByte
  have hst : (s ++ t).size = s.size + t.size := by simp
  cases p with
  | none =>
    obtain ⟨rfl, ht⟩ := hnil rfl
    have et : t = ⟨#[]⟩ := by
      apply ByteArray.ext
      exact Array.eq_empty_of_size_eq_zero ht
    subst et
    have hrun := fun ty => run_append_owned_none (P := Try.prog) (w := w) B 33 ty 5 i0 1 Try.underlying33 hi _ s.size (bytesV s) h.1
    have e : s ++ (⟨#[]⟩ : ByteArray) = s := by
      apply ByteArray.ext
      simp
    refine ⟨g, cap, w, fun ty => ?_, by rw [e]; exact h, World.grownBy.refl w _, Nat.le_refl _⟩
    exact hrun ty
  | some a =>
    have hcells : ∀ j u, (bytesV t)[j]? = some u → w.cell? (a.add j) = some u := by
      intro j u hu
      have hj : j < t.size := by
        have := (List.getElem?_eq_some_iff.1 hu).1
        rwa [bytesV_length] at this
      obtain ⟨b, off, e, hc⟩ := hp (by omega)
      obtain rfl := Option.some.inj e
      have ha : (⟨b, off, none⟩ : Addr).add j = ⟨b, off + j, none⟩ := by unfold Addr.add; split <;> simp_all
      rw [ha, hc j hj, ← hu, bytesV_get t j hj]
    obtain ⟨v', w', hrun, hown, hgrow, hne⟩ := run_append_own (P := Try.prog) (w := w) B 33 33 5 i0 (.int .u8 0) 1 1 Try.underlying33 hi hz0 hz1 hz2 rfl (by decide) _ s.size (bytesV s) h.1 a t.size c (bytesV t) (by rw [bytesV_length, Nat.mul_one]) hcells (bytesV_one t) (by unfold maxLen; omega) (by omega) hB
    have hv : v' ≠ .slice none 0 0 := fun e => by
      have := hne.1 e
      cases this.1
    rw [← bytesV_append, ← hst] at hown
    obtain ⟨g', cap', rfl, ho⟩ := Owns.of_row hown hv
    rw [hst] at hrun
    refine ⟨g', cap', w', fun ty => ?_, ho, hgrow, hgrow.size⟩
    rw [← hrun]
    rfl

/-- The walk's step at an append whose run is known. -/
theorem wpList_append_eq {P : Program} {w : World} {ops : Array Oper} {rest : List Oper} {o : Oper} {a : Act} {Q : Exit → Act → World → Prop} (hgd : o.guard = none) (s x : Operand) (t : TypeId)
    (ho : o.op = .call { callee := .builtin .append, args := #[s, x], argTypes := #[t, t] }) (v u v' : Value) (w' : World) (hs : a.eval s = v) (hx : a.eval x = u)
    (hrun : ∀ ty, (Builtin.append_ #[t, t] ty #[v, u]).run P w = .ok v' w')
    (h : wpList P ops Q rest (a.put o.dst v') w') : wpList P ops Q (o :: rest) a w := by
  refine wpList_plain hgd fun K hK => ?_
  have hr := hrun o.type
  unfold Oper.wp
  simp [execOp, ho, resolve, invoke, builtin, hs, hx, hr, Result.andThen]
  exact hK _ _ h

/-- An empty row of the call's own. -/
theorem owns_empty (w : World) : Owns (w.alloc (.cells #[] 5)) w.heap.size w.heap.size 0 ⟨#[]⟩ :=
  ⟨World.ownsRow_lit w #[] 0 (Nat.le_refl _) (by unfold maxLen; omega) rfl, Nat.le_refl _, by simp, Nat.le_refl _⟩
theorem empty_append (s : ByteArray) : (⟨#[]⟩ : ByteArray) ++ s = s := by
  apply ByteArray.ext
  simp

/-- 'append([]byte{}, src...)': a new row that holds src. -/
theorem append_first {w : World} {s : ByteArray} {p : Option Addr} {c : Nat} (hp : HoldsB w p s) (hnil : p = none → c = 0) (hsz : s.size ≤ 140737488355328) :
    ∃ g cap w', (∀ ty, (Builtin.append_ #[33, 33] ty #[.slice (some ⟨w.heap.size, 0, none⟩) 0 0, .slice p s.size c]).run Try.prog (w.alloc (.cells #[] 5)) = .ok (.slice (some ⟨g, 0, none⟩) s.size cap) w') ∧
      Owns w' w.heap.size g cap s ∧ Below w.heap.size w w' ∧ w.heap.size < w'.heap.size := by
  have hb0 : Below w.heap.size w (w.alloc (.cells #[] 5)) := (Below.refl _ _).alloc (Nat.le_refl _) _
  have hnone : p = none → c = 0 ∧ s.size = 0 := fun e => ⟨hnil e, by
    rcases Nat.eq_zero_or_pos s.size with h | h
    · exact h
    · obtain ⟨_, _, e', _⟩ := hp h
      rw [e] at e'; cases e'⟩
  have hz : (⟨#[]⟩ : ByteArray).size = 0 := rfl
  obtain ⟨g, cap, w', h1, h2, h3, h4⟩ := append_run (owns_empty w) (hp.below hb0) hnone (by simp) (by rw [hz]; omega)
  rw [empty_append] at h2
  simp only [hz, Nat.zero_add] at h1
  have hs : (w.alloc (.cells #[] 5)).heap.size = w.heap.size + 1 := by simp
  exact ⟨g, cap, w', h1, h2, hb0.grown h3 (by omega) (fun k e => by injection e with e; omega), by omega⟩

/-- 'append(v, src...)' behind it. -/
theorem append_next {w0 w : World} {g cap : Nat} {s t : ByteArray} {p : Option Addr} {c : Nat} (h : Owns w w0.heap.size g cap s) (hb : Below w0.heap.size w0 w) (hp : HoldsB w p t) (hnil : p = none → c = 0) (hsz : s.size + t.size ≤ 140737488355328) :
    ∃ g' cap' w', (∀ ty, (Builtin.append_ #[33, 33] ty #[.slice (some ⟨g, 0, none⟩) s.size cap, .slice p t.size c]).run Try.prog w = .ok (.slice (some ⟨g', 0, none⟩) (s.size + t.size) cap') w') ∧
      Owns w' w0.heap.size g' cap' (s ++ t) ∧ Below w0.heap.size w0 w' := by
  have hnone : p = none → c = 0 ∧ t.size = 0 := fun e => ⟨hnil e, by
    rcases Nat.eq_zero_or_pos t.size with h | h
    · exact h
    · obtain ⟨_, _, e', _⟩ := hp h
      rw [e] at e'; cases e'⟩
  obtain ⟨g', cap', w', h1, h2, h3, h4⟩ := append_run h hp hnone hb.size hsz
  exact ⟨g', cap', w', h1, h2, hb.grown h3 hb.size (fun k e => by injection e with e; have := h.2.1; omega)⟩

/-- 'append(v, x)' of one byte. -/
theorem append_one {w0 w : World} {g cap : Nat} {o : ByteArray} (x : UInt8) (h : Owns w w0.heap.size g cap o) (hb : Below w0.heap.size w0 w) (hsz : o.size + 1 ≤ 140737488355328) :
    ∃ g' cap' w', (∀ ty, (Builtin.append_ #[33, 33] ty #[.slice (some ⟨g, 0, none⟩) o.size cap, .slice (some ⟨w.heap.size, 0, none⟩) 1 1]).run Try.prog (w.alloc (.cells #[.int .u8 (x.toNat : Int)] 5)) = .ok (.slice (some ⟨g', 0, none⟩) (o.size + 1) cap') w') ∧
      Owns w' w0.heap.size g' cap' (o ++ ⟨#[x]⟩) ∧ Below w0.heap.size w0 w' := by
  have hb1 : Below w.heap.size w (w.alloc (.cells #[.int .u8 (x.toNat : Int)] 5)) := (Below.refl _ _).alloc (Nat.le_refl _) _
  have hh : (w.alloc (.cells #[.int .u8 (x.toNat : Int)] 5)).heap[w.heap.size]? = some (.cells #[.int .u8 (x.toNat : Int)] 5) := by
    show (w.heap.push _)[w.heap.size]? = _
    simp
  have hp : HoldsB (w.alloc (.cells #[.int .u8 (x.toNat : Int)] 5)) (some ⟨w.heap.size, 0, none⟩) ⟨#[x]⟩ := fun _ => ⟨_, _, rfl, fun j hj => by
    have hj0 : j = 0 := by
      have : j < 1 := hj
      omega
    subst hj0
    rw [Nat.zero_add, cell_of_row _ _ _ _ _ _ hh]
    rfl⟩
  have := append_next (t := ⟨#[x]⟩) (c := 1) (h.far hb1) (hb.trans (hb1.mono hb.size)) hp (fun e => by cases e) hsz
  exact this

theorem size_push (o : ByteArray) (x : UInt8) : (o ++ ⟨#[x]⟩).size = o.size + 1 := by
  rw [ByteArray.size_append]; rfl
theorem make_own (w : World) (n : Nat) (hn : n ≤ 281474976710656) : ∃ w1, (Instr.makeSlice 33 (.int .i64 0) (.int .i64 (n : Int))).run Try.prog w = .ok (.slice (some ⟨w.heap.size, 0, none⟩) 0 n) w1 ∧ Owns w1 w.heap.size w.heap.size n ⟨#[]⟩ ∧ Below w.heap.size w w1 := by
  obtain ⟨i0, hi, hz0, hz1, hz2⟩ := info_parts infoByte
  obtain ⟨w1, h1, h2, h3⟩ := run_make_own (P := Try.prog) w w.heap.size 33 5 i0 (.int .u8 0) 1 Try.underlying33 hi hz0 hz1 .i64 .i64 n (by rw [hz2]; omega) (by unfold maxLen; omega) (Nat.le_refl _)
  exact ⟨w1, h1, ⟨h2, Nat.le_refl _, (h2.lt w.heap.size rfl).2, Nat.zero_le _⟩, ⟨h3.os, h3.tape, h3.output, h3.size, fun k hk => h3.block k hk (by simp)⟩⟩

theorem conv_str {w : World} {p : Option Addr} {s : ByteArray} (h : HoldsB w p s) (c : Nat) (hz : p = none → s.size = 0) : (convert 33 9 (.slice p s.size c)).run Try.prog w = .ok (.string s) w := by
  cases p with
  | none =>
    have e : s = ⟨#[]⟩ := by
      apply ByteArray.ext
      exact Array.eq_empty_of_size_eq_zero (hz rfl)
    subst e
    exact run_convert_bytes_nil w 33 5 Try.underlying33 Try.underlying5 0 c 9 Try.underlying9
  | some a =>
    have hl : s.data.toList.length = s.size := by simp
    have hr := run_convert_bytes_back (P := Try.prog) w 33 9 5 a c s.data.toList Try.underlying33 Try.underlying5 Try.underlying9 (fun j hj => by
      obtain ⟨b, off, e, hc⟩ := h (by omega)
      obtain rfl := Option.some.inj e
      have ha : (⟨b, off, none⟩ : Addr).add j = ⟨b, off + j, none⟩ := by unfold Addr.add; split <;> simp_all
      rw [ha, hc j (by omega)]
      have h1 := get!_of s j (by omega)
      obtain ⟨h2, h3⟩ := List.getElem?_eq_some_iff.1 h1
      rw [← h3])
    rw [hl] at hr
    exact hr
theorem holds_none {w : World} {p : Option Addr} {s : ByteArray} (h : HoldsB w p s) : p = none → s.size = 0 := fun e => by
  rcases Nat.eq_zero_or_pos s.size with h0 | h0
  · exact h0
  · obtain ⟨_, _, e', _⟩ := h h0
    rw [e] at e'; cases e'
end Go.Proofs.Ytlkffignbjpfcaa
