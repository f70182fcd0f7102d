/- Proved here: the law's helper that tells whether two lists of rows of bytes are the same. -/
import Derived.Test.YtggchfmglaijgaaTapeReads
import Derived.Test.YtggchfmglaijgaaRowsArg
namespace Go.Proofs.Ytggchfmglaijgaa
open Go.RowKit

theorem World.cell?_of_heap {w w' : World} (h : w'.heap = w.heap) (a : Addr) : w'.cell? a = w.cell? a := World.cell?_of_block (by rw [h])
theorem HoldsB.of_heap {w w' : World} {p : Option Addr} {s : ByteArray} (h : HoldsB w p s) (he : w'.heap = w.heap) : HoldsB w' p s := fun h0 => by
  obtain ⟨b, off, e, hc⟩ := h h0
  exact ⟨b, off, e, fun j hj => (World.cell?_of_heap he _).trans (hc j hj)⟩
theorem exec_conv_str {w : World} {o : Oper} {a : Act} {p : Option Addr} {s : ByteArray} {x : Operand} (h : HoldsB w p s) (c : Nat) (hz : p = none → s.size = 0) (ho : o.op = .convert 33 9 x) (hx : a.eval x = .slice p s.size c) : (execOp a.eval o).run Try.prog w = .ok (.value (.string s)) w := by
  have h1 := conv_str h c hz
  unfold execOp
  simp only [ho, hx, Sem.run_bind, h1, Result.andThen_ok, Sem.run_pure]
/-- A list of rows as it lies in memory. -/
def HoldsH (W : World) (p : Option Addr) (l : List ByteArray) : Prop := 0 < l.length → ∃ b off, p = some ⟨b, off, none⟩ ∧ ∀ j (h : j < l.length), ∃ pa pc, W.cell? ⟨b, off + j, none⟩ = some (.slice pa l[j].size pc) ∧ HoldsB W pa l[j]
theorem HoldsH.of_heap {w w' : World} {p : Option Addr} {l : List ByteArray} (h : HoldsH w p l) (he : w'.heap = w.heap) : HoldsH w' p l := fun h0 => by
  obtain ⟨b, off, e, hc⟩ := h h0
  refine ⟨b, off, e, fun j hj => ?_⟩
  obtain ⟨pa, pc, h1, h2⟩ := hc j hj
  exact ⟨pa, pc, (World.cell?_of_heap he _).trans h1, h2.of_heap he⟩
theorem rowv_holds {W : World} {v : Value} {s : ByteArray} (h : W.ownsRow 0 5 1 v s.size (bytesV s)) : ∃ pa pc, v = .slice pa s.size pc ∧ HoldsB W pa s ∧ (pa = none → pc = 0) := by
  rcases h.2 with ⟨rfl, h0⟩ | ⟨g, cap, cur, rfl, _⟩
  · exact ⟨none, 0, by rw [h0], fun h1 => by omega, fun _ => rfl⟩
  · exact ⟨some ⟨g, 0, none⟩, cap, rfl, fun _ => ⟨g, 0, rfl, fun j hj => by rw [Nat.zero_add, h.cellAt j (by omega), bytesV_get s j hj]⟩, fun e => by cases e⟩
theorem GroupsIn.holds {W : World} {Y : Nat → Prop} {p : Option Addr} {c : Nat} {L : List ByteArray} (h : GroupsIn W Y (.slice p L.length c) L) : HoldsH W p L := fun h0 => by
  obtain ⟨Vs, h1, h2, h3⟩ := h
  obtain ⟨g, cap, e, _⟩ := h1.form h0
  injection e with e1 e2 e3
  subst e1
  refine ⟨g, 0, rfl, fun j hj => ?_⟩
  obtain ⟨v, a1, a2, _⟩ := h3 j hj
  obtain ⟨pa, pc, rfl, a3, _⟩ := rowv_holds a2
  exact ⟨pa, pc, by rw [Nat.zero_add, h1.cellAt j (by omega), a1], a3⟩
theorem toList_same {a b : ByteArray} (h : ¬ a = b) : (a.toList == b.toList) = false := by
  rw [beq_eq_false_iff_ne]
  intro e
  rw [ByteArray.toList_eq, ByteArray.toList_eq] at e
  exact h (bl_inj e)
set_option maxRecDepth 100000 in
set_option maxHeartbeats 4000000 in
theorem same14_any (p q : Option Addr) (A B : List ByteArray) (n m c d : Nat) (w : World) (hn : A.length = n) (hm : B.length = m) (hn9 : n ≤ 140737488351232) (hp : HoldsH w p A) (hq : HoldsH w q B) :
    Calls Try.prog 26 #[.slice p n c, .slice q m d] w fun e w' => e = .returned (.bool (decide (A = B))) ∧ w'.heap = w.heap ∧ Below w.heap.size w w' := by
  have HH := Lib.hid (And.intro hn (And.intro hm (And.intro hp hq)))
  have hnI : (n : Int) ≤ 140737488351232 := by omega
  clear hn hm hp hq hn9
  by_cases hlen : n = m
  · subst hlen
    go_enter Try.func26, Try.ntmps26
    go_wp2_with (fail)
    go_loopw [13] (fun x wr => ∃ i : Nat, x = .int .i64 (i : Int) ∧ i ≤ n ∧ Hid (wr.heap = w.heap ∧ Below w.heap.size w wr ∧ A.take i = B.take i)) (fun x _ => n - (intOf x).toNat)
    case atStart => exact ⟨0, rfl, Nat.zero_le _, Lib.hid ⟨rfl, Below.refl _ _, rfl⟩⟩
    case round =>
      obtain ⟨i, rfl, hi, HR⟩ := hrel
      by_cases hlt : i < n
      · have hltI : (i : Int) < (n : Int) := by omega
        have hi0 : (0 : Int) ≤ (i : Int) := by omega
        have hiA : i < A.length := by rw [HH.out.1]; exact hlt
        have hiB : i < B.length := by rw [HH.out.2.1]; exact hlt
        obtain ⟨bA, oA, rfl, hcA⟩ := HH.out.2.2.1 (by omega)
        obtain ⟨bB, oB, rfl, hcB⟩ := HH.out.2.2.2 (by omega)
        obtain ⟨paA, pcA, cA, hA⟩ := hcA i hiA
        obtain ⟨paB, pcB, cB, hB⟩ := hcB i hiB
        have htA : A.take (i + 1) = A.take i ++ [A[i]] := List.take_succ_eq_append_getElem hiA
        have htB : B.take (i + 1) = B.take i ++ [B[i]] := List.take_succ_eq_append_getElem hiB
        have hdA : A[i]? = some A[i] := List.getElem?_eq_getElem hiA
        have hdB : B[i]? = some B[i] := List.getElem?_eq_getElem hiB
        have HT := Lib.hid (And.intro htA (And.intro htB (And.intro hdA hdB)))
        have hlI : (A.take i).length = (B.take i).length := by rw [HR.out.2.2]
        have HLI := Lib.hid hlI
        clear htA htB hdA hdB hcA hcB hlI
        generalize A[i] = sA at *
        generalize B[i] = sB at *
        have HC := Lib.hid (show wr.cell? ⟨bA, oA + i, none⟩ = some (.slice paA sA.size pcA) ∧ wr.cell? ⟨bB, oB + i, none⟩ = some (.slice paB sB.size pcB) ∧ HoldsB wr paA sA ∧ HoldsB wr paB sB from ⟨(World.cell?_of_heap HR.out.1 _).trans cA, (World.cell?_of_heap HR.out.1 _).trans cB, hA.of_heap HR.out.1, hB.of_heap HR.out.1⟩)
        have HL := Lib.hid hlt
        clear cA cB hA hB hlt hiA hiB
        go_wp2_with (fail)
        refine wp_region_held_drew (S := fun W => W.heap = wr.heap) (by kernel_rfl) rfl (fun hHeld => ?_)
        refine wpAnyH_take (i := 0) (oi := _) (v := ?va0) rfl (by kernel_rfl) (by kernel_rfl) (by kernel_rfl) (fun _ _ _ h => h) (Or.inl ⟨by rfl, ?hya0⟩) (by assumption) ?resta0
        case hya0 =>
          intro W hSw
          clear hSw
          go_simp
          try (with_reducible rfl)
        try simp only [Act.put, List.getElem_toArray, List.getElem_cons_zero, List.getElem_cons_succ, List.setIfInBounds_toArray, List.set_cons_zero, List.set_cons_succ]
        refine wpAnyH_take (i := 1) (oi := _) (v := ?va1) rfl (by kernel_rfl) (by kernel_rfl) (by kernel_rfl) (fun _ _ _ h => h) (Or.inl ⟨by rfl, ?hya1⟩) (by assumption) ?resta1
        case hya1 =>
          intro W hSw
          clear hSw
          go_simp
          try (with_reducible rfl)
        try simp only [Act.put, List.getElem_toArray, List.getElem_cons_zero, List.getElem_cons_succ, List.setIfInBounds_toArray, List.set_cons_zero, List.set_cons_succ]
        refine wpAnyH_take (i := 2) (oi := _) (v := ?va2) rfl (by kernel_rfl) (by kernel_rfl) (by kernel_rfl) (fun _ _ _ h => h) (Or.inl ⟨by rfl, ?hya2⟩) (by assumption) ?resta2
        case hya2 =>
          intro W hSw
          clear hSw
          go_simp
          try (with_reducible rfl)
        try simp only [Act.put, List.getElem_toArray, List.getElem_cons_zero, List.getElem_cons_succ, List.setIfInBounds_toArray, List.set_cons_zero, List.set_cons_succ]
        refine wpAnyH_take (i := 3) (oi := _) (v := ?va3) rfl (by kernel_rfl) (by kernel_rfl) (by kernel_rfl) (fun _ _ _ h => h) (Or.inl ⟨by rfl, ?hya3⟩) (by assumption) ?resta3
        case hya3 =>
          intro W hSw
          have e1 := (World.cell?_of_heap hSw _).trans HC.out.1
          have e2 := (World.cell?_of_heap hSw _).trans HC.out.2.1
          clear hSw
          go_simp
          try (with_reducible rfl)
        try simp only [Act.put, List.getElem_toArray, List.getElem_cons_zero, List.getElem_cons_succ, List.setIfInBounds_toArray, List.set_cons_zero, List.set_cons_succ]
        refine wpAnyH_take (i := 4) (oi := _) (v := .string sA) rfl (by kernel_rfl) (by kernel_rfl) (by kernel_rfl) (fun _ _ _ h => h) (Or.inl ⟨by rfl, ?hya4⟩) (by assumption) ?resta4
        case hya4 =>
          intro W hSw
          skip
          exact exec_conv_str (HC.out.2.2.1.of_heap hSw) pcA (holds_none (HC.out.2.2.1.of_heap hSw)) rfl rfl
        try simp only [Act.put, List.getElem_toArray, List.getElem_cons_zero, List.getElem_cons_succ, List.setIfInBounds_toArray, List.set_cons_zero, List.set_cons_succ]
        refine wpAnyH_take (i := 5) (oi := _) (v := ?va5) rfl (by kernel_rfl) (by kernel_rfl) (by kernel_rfl) (fun _ _ _ h => h) (Or.inl ⟨by rfl, ?hya5⟩) (by assumption) ?resta5
        case hya5 =>
          intro W hSw
          clear hSw
          go_simp
          try (with_reducible rfl)
        try simp only [Act.put, List.getElem_toArray, List.getElem_cons_zero, List.getElem_cons_succ, List.setIfInBounds_toArray, List.set_cons_zero, List.set_cons_succ]
        refine wpAnyH_take (i := 6) (oi := _) (v := ?va6) rfl (by kernel_rfl) (by kernel_rfl) (by kernel_rfl) (fun _ _ _ h => h) (Or.inl ⟨by rfl, ?hya6⟩) (by assumption) ?resta6
        case hya6 =>
          intro W hSw
          clear hSw
          go_simp
          try (with_reducible rfl)
        try simp only [Act.put, List.getElem_toArray, List.getElem_cons_zero, List.getElem_cons_succ, List.setIfInBounds_toArray, List.set_cons_zero, List.set_cons_succ]
        refine wpAnyH_take (i := 7) (oi := _) (v := ?va7) rfl (by kernel_rfl) (by kernel_rfl) (by kernel_rfl) (fun _ _ _ h => h) (Or.inl ⟨by rfl, ?hya7⟩) (by assumption) ?resta7
        case hya7 =>
          intro W hSw
          clear hSw
          go_simp
          try (with_reducible rfl)
        try simp only [Act.put, List.getElem_toArray, List.getElem_cons_zero, List.getElem_cons_succ, List.setIfInBounds_toArray, List.set_cons_zero, List.set_cons_succ]
        refine wpAnyH_take (i := 8) (oi := _) (v := ?va8) rfl (by kernel_rfl) (by kernel_rfl) (by kernel_rfl) (fun _ _ _ h => h) (Or.inl ⟨by rfl, ?hya8⟩) (by assumption) ?resta8
        case hya8 =>
          intro W hSw
          have e1 := (World.cell?_of_heap hSw _).trans HC.out.1
          have e2 := (World.cell?_of_heap hSw _).trans HC.out.2.1
          clear hSw
          go_simp
          try (with_reducible rfl)
        try simp only [Act.put, List.getElem_toArray, List.getElem_cons_zero, List.getElem_cons_succ, List.setIfInBounds_toArray, List.set_cons_zero, List.set_cons_succ]
        refine wpAnyH_take (i := 9) (oi := _) (v := .string sB) rfl (by kernel_rfl) (by kernel_rfl) (by kernel_rfl) (fun _ _ _ h => h) (Or.inl ⟨by rfl, ?hya9⟩) (by assumption) ?resta9
        case hya9 =>
          intro W hSw
          skip
          exact exec_conv_str (HC.out.2.2.2.of_heap hSw) pcB (holds_none (HC.out.2.2.2.of_heap hSw)) rfl rfl
        try simp only [Act.put, List.getElem_toArray, List.getElem_cons_zero, List.getElem_cons_succ, List.setIfInBounds_toArray, List.set_cons_zero, List.set_cons_succ]
        refine wpAnyH_take (i := 10) (oi := _) (v := ?va10) rfl (by kernel_rfl) (by kernel_rfl) (by kernel_rfl) (fun _ _ _ h => h) (Or.inl ⟨by rfl, ?hya10⟩) (by assumption) ?resta10
        case hya10 =>
          intro W hSw
          clear hSw
          go_simp
          try (with_reducible rfl)
        try simp only [Act.put, List.getElem_toArray, List.getElem_cons_zero, List.getElem_cons_succ, List.setIfInBounds_toArray, List.set_cons_zero, List.set_cons_succ]
        refine wpAnyH_done (by kernel_rfl) ?_ _
        clear hHeld
        have hwd : wr.drew.heap = w.heap := HR.out.1
        have HD := Lib.hid (And.intro hwd (HR.out.2.1.drew))
        clear hwd
        by_cases he : sA = sB
        · subst he
          have HN := Lib.hid (show A.take (i + 1) = B.take (i + 1) from by rw [HT.out.1, HT.out.2.1, HR.out.2.2])
          rw [show (!(sA.toList == sA.toList)) = false by simp]
          go_wp2_with (fail)
          go_roundw
          case rel => exact ⟨i + 1, by go_num, by have := HL.out; omega, Lib.hid ⟨HD.out.1, HD.out.2, HN.out⟩⟩
          case measure => simp [intOf]; have := HL.out; omega
        · have HE := Lib.hid he
          rw [show (!(sA.toList == sB.toList)) = true by rw [toList_same he]; rfl]
          have hAB : ¬ A = B := fun e => by
            have h1 := HT.out.2.2.1
            rw [e, HT.out.2.2.2] at h1
            exact HE.out (Option.some.inj h1).symm
          have HAB := Lib.hid hAB
          clear he hAB
          go_wp2_with (fail)
          go_ret
          exact ⟨by rw [decide_eq_false HAB.out]; rfl, HD.out.1, HD.out.2⟩
      · obtain rfl : i = n := by omega
        have hAB : A = B := by
          have h := HR.out.2.2
          rw [List.take_of_length_le (by rw [HH.out.1]; exact Nat.le_refl _), List.take_of_length_le (by rw [HH.out.2.1]; exact Nat.le_refl _)] at h
          exact h
        have HAB := Lib.hid hAB
        clear hAB
        go_wp2_with (fail)
        go_ret
        exact ⟨by rw [decide_eq_true HAB.out]; rfl, HR.out.1, HR.out.2.1⟩
  · have hne : ((n : Int) == (m : Int)) = false := by rw [beq_eq_false_iff_ne]; omega
    have hne2 : ¬ n = m := hlen
    have HL := Lib.hid hlen
    clear hlen
    go_enter Try.func26, Try.ntmps26
    go_wp2_with (fail)
    go_ret
    exact ⟨by rw [decide_eq_false (fun e => HL.out (by rw [← HH.out.1, ← HH.out.2.1, e]))]; rfl, rfl, Below.refl _ _⟩
end Go.Proofs.Ytggchfmglaijgaa
