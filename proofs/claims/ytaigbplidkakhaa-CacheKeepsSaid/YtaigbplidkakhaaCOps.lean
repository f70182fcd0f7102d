/- Proved here: use, add, take, mayGo of the cache. -/
import Derived.Test.YtaigbplidkakhaaCState
import Derived.Deep.RegionHeld3
import Derived.Handy
import Derived.Deep.CutBlock
namespace Go.Proofs.Ytaigbplidkakhaa
open Go.RowKit Go.ChangeMaps

theorem wp_delete_eq {P : Program} {w : World} {o : Oper} {a : Act} {K : Act → World → Prop} {Q : Exit → Act → World → Prop} (m x : Operand) (t k : TypeId)
    (ho : o.op = .call { callee := .builtin .delete, args := #[m, x], argTypes := #[t, k] }) (v u : Value) (w' : World) (hm : a.eval m = v) (hx : a.eval x = u)
    (hrun : ∀ ty, (Builtin.delete_ #[t, k] ty #[v, u]).run P w = .ok (.tuple #[]) w')
    (h : K (a.put o.dst (.tuple #[])) w') : Oper.wp P o a w K Q := by
  have hr := hrun o.type
  unfold Oper.wp
  simp [execOp, ho, resolve, invoke, builtin, hm, hx, hr, Result.andThen]
  exact h
theorem step_of2 {P : Program} {ops : Array Oper} {o : Oper} {a : Act} {w : World} {K : Act → World → Prop} {Q : Exit → Act → World → Prop} {E : Prop} (hgd : o.guard = none) (h : Oper.wp P o a w K Q) :
    if Region.wanted o (yielded ops a.tmps) = true then Oper.wp P o a w K Q else E := by
  rw [if_pos (by simp [Region.wanted, hgd])]
  exact h
theorem mine_lt {C r m : Nat} {L : List Nat} {W : World} (h : ∀ k, Mine C r m L k → k < W.heap.size) : ¬ Mine C r m L W.heap.size := fun hk => by have := h _ hk; omega
theorem mem_more {p q : List Nat} {a x r : Nat} : x ∈ r :: (p ++ q ++ [a]) ↔ x ∈ r :: (p ++ q) ∨ x = a := by simp [or_assoc]
theorem mem_split {p q : List Nat} {a x r : Nat} : x ∈ r :: (p ++ a :: q) ↔ x ∈ r :: (p ++ q) ∨ x = a := by
  simp only [List.mem_cons, List.mem_append]
  constructor
  · rintro (h | h | h | h)
    · exact .inl (.inl h)
    · exact .inl (.inr (.inl h))
    · exact .inr h
    · exact .inl (.inr (.inr h))
  · rintro ((h | h | h) | h)
    · exact .inl h
    · exact .inr (.inl h)
    · exact .inr (.inr (.inr h))
    · exact .inr (.inr (.inl h))
set_option maxHeartbeats 2000000 in
theorem use_anyS {W : World} {C r m nb : Nat} {places : Int} {L : List Nat} {B : Nat → EntV} {nx pv : Nat → Nat} {f : Lit → Option Nat} (h : CAt Try.prog 98 95 9 W C r m places nb L B nx pv f) {p q : List Nat} {a : Nat} (hL : L = p ++ a :: q) :
    Calls Try.prog 57 #[PV C, PV a] W fun x W' => x = .returned (.tuple #[]) ∧ (∃ nx' pv', CAt Try.prog 98 95 9 W' C r m places nb (p ++ q ++ [a]) B nx' pv' f) ∧ Tch (Mine C r m L) W W' ∧ W'.heap.size = W.heap.size := by
  obtain ⟨ha, hpv, hnx, hne1, hne2, hout⟩ := h.entry hL
  have UL := Lib.hid (unlinkS W _ B nx pv a h.nodes ha hpv hnx hne1 hne2)
  have HH := Lib.hid (And.intro h (And.intro hL (And.intro ha (And.intro hpv (And.intro hnx hout)))))
  clear h hL ha hpv hnx hne1 hne2 hout
  go_enter Try.func57, Try.ntmps57
  go_wp2_with (fail)
  refine (UL.out).mono ?_
  rintro x W1 ⟨rfl, hN, hT, hz⟩
  have hC1 := (hT.block C (heap_lt HH.out.1.blk) HH.out.1.cr).trans HH.out.1.blk
  have c3 : W1.cell? ⟨C, 3, none⟩ = some (PV r) := by rw [cell_of_row _ _ _ _ _ _ hC1]; rfl
  have hR := HH.out.1.ring
  rw [HH.out.2.1] at hR
  have hR1 := hR.unlink.2.2
  have hR2 := hR1.link HH.out.2.2.2.2.2
  have hblk := hN a HH.out.2.2.1
  have LK := Lib.hid (linkS W1 (fun x => x ∈ r :: (p ++ q)) B _ _ a r _ _ (hN.mono (fun x hx => by rw [HH.out.2.1]; exact mem_split.2 (.inl hx))) (by simp) hR2.1 HH.out.2.2.2.2.2 hblk)
  have H1 := Lib.hid (And.intro hR2.2 (And.intro hT (And.intro hz hC1)))
  clear hN hT hz hC1 hR hR1 hR2 hblk UL
  go_wp2_with (fail)
  refine (LK.out).mono ?_
  rintro x W2 ⟨rfl, hN2, hT2, hz2⟩
  have HX := Lib.hid (And.intro hN2 (And.intro hT2 hz2))
  clear hN2 hT2 hz2 LK
  go_wp2_with (fail)
  go_returns
  have hmem : ∀ x, (x ∈ r :: (p ++ q) ∨ x = a) → x ∈ r :: L := fun x hx => by rw [HH.out.2.1]; exact mem_split.2 hx
  have hT02 : Tch (Mine C r m L) W W2 := (H1.out.2.1.mono (fun k hk => .inr (.inr hk))).trans (HX.out.2.1.mono (fun k hk => .inr (.inr (hmem k hk))))
  have hlen : (p ++ q ++ [a]).length = L.length := by rw [HH.out.2.1]; simp
  refine ⟨rfl, ⟨_, _, ⟨?_, H1.out.1, HX.out.1.mono (fun x hx => mem_more.1 hx), ?_, ?_, ?_, ?_, ?_, HH.out.1.cm⟩⟩, hT02, HX.out.2.2.trans H1.out.2.2.1⟩
  · rw [hlen]
    exact (HX.out.2.1.block C (heap_lt H1.out.2.2.2) (fun hk => HH.out.1.cr (hmem C hk))).trans H1.out.2.2.2
  · refine HH.out.1.map.keep ((HX.out.2.1.block m ?_ (fun hk => HH.out.1.mr (hmem m hk))).trans (H1.out.2.1.block m HH.out.1.map.lt HH.out.1.mr))
    rw [H1.out.2.2.1]; exact HH.out.1.map.lt
  · intro x hx
    refine HH.out.1.keyed x ?_
    rw [HH.out.2.1]
    simp at hx ⊢
    rcases hx with h | h | h <;> simp [h]
  · intro kl x hx
    obtain ⟨h1, h2⟩ := HH.out.1.only kl x hx
    refine ⟨?_, h2⟩
    rw [HH.out.2.1] at h1
    simp at h1 ⊢
    rcases h1 with h | h | h <;> simp [h]
  · intro hx
    exact HH.out.1.cr (hmem C (mem_more.1 hx))
  · intro hx
    exact HH.out.1.mr (hmem m (mem_more.1 hx))
set_option maxHeartbeats 2000000 in
theorem use_anyI {W : World} {C r m nb : Nat} {places : Int} {L : List Nat} {B : Nat → EntV} {nx pv : Nat → Nat} {f : Lit → Option Nat} (h : CAt Try.prog 74 67 3 W C r m places nb L B nx pv f) {p q : List Nat} {a : Nat} (hL : L = p ++ a :: q) :
    Calls Try.prog 42 #[PV C, PV a] W fun x W' => x = .returned (.tuple #[]) ∧ (∃ nx' pv', CAt Try.prog 74 67 3 W' C r m places nb (p ++ q ++ [a]) B nx' pv' f) ∧ Tch (Mine C r m L) W W' ∧ W'.heap.size = W.heap.size := by
  obtain ⟨ha, hpv, hnx, hne1, hne2, hout⟩ := h.entry hL
  have UL := Lib.hid (unlinkI W _ B nx pv a h.nodes ha hpv hnx hne1 hne2)
  have HH := Lib.hid (And.intro h (And.intro hL (And.intro ha (And.intro hpv (And.intro hnx hout)))))
  clear h hL ha hpv hnx hne1 hne2 hout
  go_enter Try.func42, Try.ntmps42
  go_wp2_with (fail)
  refine (UL.out).mono ?_
  rintro x W1 ⟨rfl, hN, hT, hz⟩
  have hC1 := (hT.block C (heap_lt HH.out.1.blk) HH.out.1.cr).trans HH.out.1.blk
  have c3 : W1.cell? ⟨C, 3, none⟩ = some (PV r) := by rw [cell_of_row _ _ _ _ _ _ hC1]; rfl
  have hR := HH.out.1.ring
  rw [HH.out.2.1] at hR
  have hR1 := hR.unlink.2.2
  have hR2 := hR1.link HH.out.2.2.2.2.2
  have hblk := hN a HH.out.2.2.1
  have LK := Lib.hid (linkI W1 (fun x => x ∈ r :: (p ++ q)) B _ _ a r _ _ (hN.mono (fun x hx => by rw [HH.out.2.1]; exact mem_split.2 (.inl hx))) (by simp) hR2.1 HH.out.2.2.2.2.2 hblk)
  have H1 := Lib.hid (And.intro hR2.2 (And.intro hT (And.intro hz hC1)))
  clear hN hT hz hC1 hR hR1 hR2 hblk UL
  go_wp2_with (fail)
  refine (LK.out).mono ?_
  rintro x W2 ⟨rfl, hN2, hT2, hz2⟩
  have HX := Lib.hid (And.intro hN2 (And.intro hT2 hz2))
  clear hN2 hT2 hz2 LK
  go_wp2_with (fail)
  go_returns
  have hmem : ∀ x, (x ∈ r :: (p ++ q) ∨ x = a) → x ∈ r :: L := fun x hx => by rw [HH.out.2.1]; exact mem_split.2 hx
  have hT02 : Tch (Mine C r m L) W W2 := (H1.out.2.1.mono (fun k hk => .inr (.inr hk))).trans (HX.out.2.1.mono (fun k hk => .inr (.inr (hmem k hk))))
  have hlen : (p ++ q ++ [a]).length = L.length := by rw [HH.out.2.1]; simp
  refine ⟨rfl, ⟨_, _, ⟨?_, H1.out.1, HX.out.1.mono (fun x hx => mem_more.1 hx), ?_, ?_, ?_, ?_, ?_, HH.out.1.cm⟩⟩, hT02, HX.out.2.2.trans H1.out.2.2.1⟩
  · rw [hlen]
    exact (HX.out.2.1.block C (heap_lt H1.out.2.2.2) (fun hk => HH.out.1.cr (hmem C hk))).trans H1.out.2.2.2
  · refine HH.out.1.map.keep ((HX.out.2.1.block m ?_ (fun hk => HH.out.1.mr (hmem m hk))).trans (H1.out.2.1.block m HH.out.1.map.lt HH.out.1.mr))
    rw [H1.out.2.2.1]; exact HH.out.1.map.lt
  · intro x hx
    refine HH.out.1.keyed x ?_
    rw [HH.out.2.1]
    simp at hx ⊢
    rcases hx with h | h | h <;> simp [h]
  · intro kl x hx
    obtain ⟨h1, h2⟩ := HH.out.1.only kl x hx
    refine ⟨?_, h2⟩
    rw [HH.out.2.1] at h1
    simp at h1 ⊢
    rcases h1 with h | h | h <;> simp [h]
  · intro hx
    exact HH.out.1.cr (hmem C (mem_more.1 hx))
  · intro hx
    exact HH.out.1.mr (hmem m (mem_more.1 hx))
set_option maxHeartbeats 4000000 in
theorem add_newS {W : World} {C r m nb : Nat} {places : Int} {L : List Nat} {B : Nat → EntV} {nx pv : Nat → Nat} {f : Lit → Option Nat} (h : CAt Try.prog 98 95 9 W C r m places nb L B nx pv f) (k : ByteArray) {kl : Lit} (hk : keyOf Try.prog 9 (.string k) = some kl) (hf : f kl = none) (hn : nb < maxLen) (hlen : L.length ≤ 65536) :
    Calls Try.prog 56 #[PV C, .string k] W fun x W' => x = .returned (PV W.heap.size) ∧ (∃ nx' pv', CAt Try.prog 98 95 9 W' C r m places (nb + 1) (L ++ [W.heap.size]) (fun x => if x = W.heap.size then ⟨.string k, .int .i64 0, false, 0⟩ else B x) nx' pv' (updO f kl (some W.heap.size))) ∧ Tch (Mine C r m L) W W' := by
  obtain ⟨B', hB'⟩ : ∃ B' : Nat → EntV, (fun x => if x = W.heap.size then ⟨.string k, .int .i64 0, false, 0⟩ else B x) = B' := ⟨_, rfl⟩
  rw [hB']
  have hBe : B' W.heap.size = ⟨.string k, .int .i64 0, false, 0⟩ := by rw [← hB']; exact if_pos rfl
  have hBo : ∀ x, x ≠ W.heap.size → B' x = B x := fun x hx => by rw [← hB']; exact if_neg hx
  have hlt := h.lt
  have FI := Lib.hid (findableS k (W.alloc (.cells #[.string k, .int .i64 0, .bool false, .int .i64 0, .pointer none, .pointer none] 98)))
  have HB := Lib.hid (And.intro hBe hBo)
  have HH := Lib.hid (And.intro h (And.intro hk (And.intro hf (And.intro hn hlt))))
  have hle : ((L.length : Nat) : Int) ≤ 65536 := by omega
  clear hB' hBe hBo h hk hf hn hlt hlen
  go_enter Try.func56, Try.ntmps56
  go_wp2_with (fail)
  refine (FI.out).mono ?_
  rintro x W1 ⟨rfl, hb⟩
  have hb1 : Below W.heap.size W W1 := bcat ((Below.refl _ _).alloc (Nat.le_refl _) _) hb
  have h1 := HH.out.1.below hb1
  have he1 := (hb.block W.heap.size (by simp)).trans (heap_alloc_new W (.cells #[.string k, .int .i64 0, .bool false, .int .i64 0, .pointer none, .pointer none] 98))
  obtain ⟨W2, hrun, hm2, t2, z2⟩ := h1.map.put (Maps.string_keyed Try.underlying9) Try.underlying91 HH.out.2.2.2.1 HH.out.2.1 W.heap.size
  obtain ⟨_, _, c2, _, _⟩ := h1.cells
  have heL : W.heap.size ∉ r :: L := fun hm => by have := HH.out.2.2.2.2 _ (.inr (.inr hm)); omega
  have hem : W.heap.size ≠ m := fun e => by have := HH.out.2.2.2.2 m (.inr (.inl rfl)); omega
  have heC : W.heap.size ≠ C := fun e => by have := HH.out.2.2.2.2 C (.inl rfl); omega
  have hN2 : Nodes 98 W2 (fun x => x ∈ r :: L) B' nx pv := fun a ha => by
    rw [HB.out.2 a (fun e => heL (e ▸ ha))]
    exact h1.nodes.tch t2 (fun a ha e => h1.mr (by rw [← e]; exact ha)) a ha
  have hR2 := h1.ring.link heL
  have he2 := (t2.block W.heap.size (heap_lt he1) hem).trans he1
  have hC2 := (t2.block C (heap_lt h1.blk) h1.cm).trans h1.blk
  have d3 : W2.cell? ⟨C, 3, none⟩ = some (PV r) := by rw [cell_of_row _ _ _ _ _ _ hC2]; rfl
  have LK := Lib.hid (linkS W2 _ B' nx pv W.heap.size r (.pointer none) (.pointer none) hN2 (by simp) hR2.1 heL (by rw [HB.out.1]; exact he2))
  have H2 := Lib.hid (And.intro hm2 (And.intro t2 (And.intro z2 (And.intro hR2.2 (And.intro hC2 (And.intro hb1 (And.intro heL (And.intro hem heC))))))))
  have H1 := Lib.hid h1
  clear hb hb1 h1 he1 hm2 t2 z2 heL hem heC hN2 hR2 he2 hC2 FI
  go_wp2_with (fail)
  refine (LK.out).mono ?_
  rintro x W3 ⟨rfl, hN3, t3, z3⟩
  have hC3 := (t3.block C (heap_lt H2.out.2.2.2.2.1) (fun hk => hk.elim H1.out.cr (fun e => H2.out.2.2.2.2.2.2.2.2 e.symm))).trans H2.out.2.2.2.2.1
  have e1 : W3.cell? ⟨C, 1, none⟩ = some (.int .i64 ((L.length : Nat) : Int)) := by rw [cell_of_row _ _ _ _ _ _ hC3]; rfl
  have f1 : W3.frozen? ⟨C, 1, none⟩ = false := frozen_of_row _ _ _ _ _ hC3
  have H3 := Lib.hid (And.intro hN3 (And.intro t3 (And.intro z3 hC3)))
  clear hN3 t3 z3 hC3 LK hrun
  go_wp2_with (fail)
  go_returns
  have hCC : ∀ x, (x ∈ r :: L ∨ x = W.heap.size) → x ≠ C := fun x hx e => by
    subst e
    exact hx.elim H1.out.cr (fun e => H2.out.2.2.2.2.2.2.2.2 e.symm)
  have t4 : Tch (fun k => k = C) W3 (W3.setCell ⟨C, 1, none⟩ (.int .i64 ((L.length : Int) + 1))) := Tch.set (F := fun k => k = C) (p := ⟨C, 1, none⟩) (Tch.refl _ _) rfl _
  have hmm : ∀ x, x ∈ r :: (L ++ [W.heap.size]) ↔ x ∈ r :: L ∨ x = W.heap.size := fun x => by simp [or_assoc]
  have hm3 : W3.heap[m]? = W2.heap[m]? := H3.out.2.1.block m H2.out.1.lt (fun hk => hk.elim H1.out.mr (fun e => H2.out.2.2.2.2.2.2.2.1 e.symm))
  refine ⟨rfl, ⟨_, _, ⟨?_, H2.out.2.2.2.1, ?_, ?_, ?_, ?_, ?_, ?_, HH.out.1.cm⟩⟩, ?_⟩
  · rw [row_put _ H3.out.2.2.2]
    simp
  · exact (H3.out.1.tch t4 (fun a ha => hCC a ha)).mono (fun a ha => (hmm a).1 ha)
  · exact H2.out.1.keep ((t4.block m (by rw [H3.out.2.2.1]; exact H2.out.1.lt) (fun e => HH.out.1.cm e.symm)).trans hm3)
  · intro x hx
    rcases (by simpa using hx : x ∈ L ∨ x = W.heap.size) with hx | rfl
    · obtain ⟨kl', h1, h2⟩ := HH.out.1.keyed x hx
      have hne : kl' ≠ kl := fun e => by rw [e, HH.out.2.2.1] at h2; cases h2
      refine ⟨kl', ?_, ?_⟩
      · rw [HB.out.2 x (fun e => H2.out.2.2.2.2.2.2.1 (by rw [← e]; exact List.mem_cons_of_mem _ hx))]; exact h1
      · unfold updO; rw [if_neg hne]; exact h2
    · refine ⟨kl, by rw [HB.out.1]; exact HH.out.2.1, ?_⟩
      unfold updO; rw [if_pos rfl]
  · intro kl' x hx
    unfold updO at hx
    by_cases e : kl' = kl
    · rw [if_pos e] at hx
      injection hx with hx
      subst hx e
      exact ⟨by simp, by rw [HB.out.1]; exact HH.out.2.1⟩
    · rw [if_neg e] at hx
      obtain ⟨h1, h2⟩ := HH.out.1.only kl' x hx
      exact ⟨by simp [h1], by rw [HB.out.2 x (fun e => H2.out.2.2.2.2.2.2.1 (by rw [← e]; exact List.mem_cons_of_mem _ h1))]; exact h2⟩
  · intro hx
    exact hCC C ((hmm C).1 hx) rfl
  · intro hx
    rcases (hmm m).1 hx with h | h
    · exact HH.out.1.mr h
    · exact H2.out.2.2.2.2.2.2.2.1 h.symm
  · refine ⟨t4.os.trans (H3.out.2.1.os.trans (H2.out.2.1.os.trans H2.out.2.2.2.2.2.1.os)), t4.tape.trans (H3.out.2.1.tape.trans (H2.out.2.1.tape.trans H2.out.2.2.2.2.2.1.tape)), t4.output.trans (H3.out.2.1.output.trans (H2.out.2.1.output.trans H2.out.2.2.2.2.2.1.output)), ?_, fun k hk hn => ?_⟩
    · exact Nat.le_trans H2.out.2.2.2.2.2.1.size (Nat.le_trans H2.out.2.1.size (Nat.le_trans H3.out.2.1.size t4.size))
    · have k1 : k < W1.heap.size := Nat.lt_of_lt_of_le hk H2.out.2.2.2.2.2.1.size
      have k2 : k < W2.heap.size := Nat.lt_of_lt_of_le k1 H2.out.2.1.size
      have k3 : k < W3.heap.size := Nat.lt_of_lt_of_le k2 H3.out.2.1.size
      exact (t4.block k k3 (fun e => hn (.inl e))).trans ((H3.out.2.1.block k k2 (fun hx => hx.elim (fun hx => hn (.inr (.inr hx))) (fun e => by omega))).trans ((H2.out.2.1.block k k1 (fun e => hn (.inr (.inl e)))).trans (H2.out.2.2.2.2.2.1.block k hk)))
set_option maxHeartbeats 4000000 in
theorem add_newI {W : World} {C r m nb : Nat} {places : Int} {L : List Nat} {B : Nat → EntV} {nx pv : Nat → Nat} {f : Lit → Option Nat} (h : CAt Try.prog 74 67 3 W C r m places nb L B nx pv f) (k : Int) {kl : Lit} (hk : keyOf Try.prog 3 (.int .i64 k) = some kl) (hf : f kl = none) (hn : nb < maxLen) (hlen : L.length ≤ 65536) :
    Calls Try.prog 44 #[PV C, .int .i64 k] W fun x W' => x = .returned (PV W.heap.size) ∧ (∃ nx' pv', CAt Try.prog 74 67 3 W' C r m places (nb + 1) (L ++ [W.heap.size]) (fun x => if x = W.heap.size then ⟨.int .i64 k, .int .i64 0, false, 0⟩ else B x) nx' pv' (updO f kl (some W.heap.size))) ∧ Tch (Mine C r m L) W W' := by
  obtain ⟨B', hB'⟩ : ∃ B' : Nat → EntV, (fun x => if x = W.heap.size then ⟨.int .i64 k, .int .i64 0, false, 0⟩ else B x) = B' := ⟨_, rfl⟩
  rw [hB']
  have hBe : B' W.heap.size = ⟨.int .i64 k, .int .i64 0, false, 0⟩ := by rw [← hB']; exact if_pos rfl
  have hBo : ∀ x, x ≠ W.heap.size → B' x = B x := fun x hx => by rw [← hB']; exact if_neg hx
  have hlt := h.lt
  have FI := Lib.hid (findableI k (W.alloc (.cells #[.int .i64 k, .int .i64 0, .bool false, .int .i64 0, .pointer none, .pointer none] 74)))
  have HB := Lib.hid (And.intro hBe hBo)
  have HH := Lib.hid (And.intro h (And.intro hk (And.intro hf (And.intro hn hlt))))
  have hle : ((L.length : Nat) : Int) ≤ 65536 := by omega
  clear hB' hBe hBo h hk hf hn hlt hlen
  go_enter Try.func44, Try.ntmps44
  go_wp2_with (fail)
  refine (FI.out).mono ?_
  rintro x W1 ⟨rfl, hb⟩
  have hb1 : Below W.heap.size W W1 := bcat ((Below.refl _ _).alloc (Nat.le_refl _) _) hb
  have h1 := HH.out.1.below hb1
  have he1 := (hb.block W.heap.size (by simp)).trans (heap_alloc_new W (.cells #[.int .i64 k, .int .i64 0, .bool false, .int .i64 0, .pointer none, .pointer none] 74))
  obtain ⟨W2, hrun, hm2, t2, z2⟩ := h1.map.put (Maps.int_keyed Try.underlying3) Try.underlying63 HH.out.2.2.2.1 HH.out.2.1 W.heap.size
  obtain ⟨_, _, c2, _, _⟩ := h1.cells
  have heL : W.heap.size ∉ r :: L := fun hm => by have := HH.out.2.2.2.2 _ (.inr (.inr hm)); omega
  have hem : W.heap.size ≠ m := fun e => by have := HH.out.2.2.2.2 m (.inr (.inl rfl)); omega
  have heC : W.heap.size ≠ C := fun e => by have := HH.out.2.2.2.2 C (.inl rfl); omega
  have hN2 : Nodes 74 W2 (fun x => x ∈ r :: L) B' nx pv := fun a ha => by
    rw [HB.out.2 a (fun e => heL (e ▸ ha))]
    exact h1.nodes.tch t2 (fun a ha e => h1.mr (by rw [← e]; exact ha)) a ha
  have hR2 := h1.ring.link heL
  have he2 := (t2.block W.heap.size (heap_lt he1) hem).trans he1
  have hC2 := (t2.block C (heap_lt h1.blk) h1.cm).trans h1.blk
  have d3 : W2.cell? ⟨C, 3, none⟩ = some (PV r) := by rw [cell_of_row _ _ _ _ _ _ hC2]; rfl
  have LK := Lib.hid (linkI W2 _ B' nx pv W.heap.size r (.pointer none) (.pointer none) hN2 (by simp) hR2.1 heL (by rw [HB.out.1]; exact he2))
  have H2 := Lib.hid (And.intro hm2 (And.intro t2 (And.intro z2 (And.intro hR2.2 (And.intro hC2 (And.intro hb1 (And.intro heL (And.intro hem heC))))))))
  have H1 := Lib.hid h1
  clear hb hb1 h1 he1 hm2 t2 z2 heL hem heC hN2 hR2 he2 hC2 FI
  go_wp2_with (fail)
  refine (LK.out).mono ?_
  rintro x W3 ⟨rfl, hN3, t3, z3⟩
  have hC3 := (t3.block C (heap_lt H2.out.2.2.2.2.1) (fun hk => hk.elim H1.out.cr (fun e => H2.out.2.2.2.2.2.2.2.2 e.symm))).trans H2.out.2.2.2.2.1
  have e1 : W3.cell? ⟨C, 1, none⟩ = some (.int .i64 ((L.length : Nat) : Int)) := by rw [cell_of_row _ _ _ _ _ _ hC3]; rfl
  have f1 : W3.frozen? ⟨C, 1, none⟩ = false := frozen_of_row _ _ _ _ _ hC3
  have H3 := Lib.hid (And.intro hN3 (And.intro t3 (And.intro z3 hC3)))
  clear hN3 t3 z3 hC3 LK hrun
  go_wp2_with (fail)
  go_returns
  have hCC : ∀ x, (x ∈ r :: L ∨ x = W.heap.size) → x ≠ C := fun x hx e => by
    subst e
    exact hx.elim H1.out.cr (fun e => H2.out.2.2.2.2.2.2.2.2 e.symm)
  have t4 : Tch (fun k => k = C) W3 (W3.setCell ⟨C, 1, none⟩ (.int .i64 ((L.length : Int) + 1))) := Tch.set (F := fun k => k = C) (p := ⟨C, 1, none⟩) (Tch.refl _ _) rfl _
  have hmm : ∀ x, x ∈ r :: (L ++ [W.heap.size]) ↔ x ∈ r :: L ∨ x = W.heap.size := fun x => by simp [or_assoc]
  have hm3 : W3.heap[m]? = W2.heap[m]? := H3.out.2.1.block m H2.out.1.lt (fun hk => hk.elim H1.out.mr (fun e => H2.out.2.2.2.2.2.2.2.1 e.symm))
  refine ⟨rfl, ⟨_, _, ⟨?_, H2.out.2.2.2.1, ?_, ?_, ?_, ?_, ?_, ?_, HH.out.1.cm⟩⟩, ?_⟩
  · rw [row_put _ H3.out.2.2.2]
    simp
  · exact (H3.out.1.tch t4 (fun a ha => hCC a ha)).mono (fun a ha => (hmm a).1 ha)
  · exact H2.out.1.keep ((t4.block m (by rw [H3.out.2.2.1]; exact H2.out.1.lt) (fun e => HH.out.1.cm e.symm)).trans hm3)
  · intro x hx
    rcases (by simpa using hx : x ∈ L ∨ x = W.heap.size) with hx | rfl
    · obtain ⟨kl', h1, h2⟩ := HH.out.1.keyed x hx
      have hne : kl' ≠ kl := fun e => by rw [e, HH.out.2.2.1] at h2; cases h2
      refine ⟨kl', ?_, ?_⟩
      · rw [HB.out.2 x (fun e => H2.out.2.2.2.2.2.2.1 (by rw [← e]; exact List.mem_cons_of_mem _ hx))]; exact h1
      · unfold updO; rw [if_neg hne]; exact h2
    · refine ⟨kl, by rw [HB.out.1]; exact HH.out.2.1, ?_⟩
      unfold updO; rw [if_pos rfl]
  · intro kl' x hx
    unfold updO at hx
    by_cases e : kl' = kl
    · rw [if_pos e] at hx
      injection hx with hx
      subst hx e
      exact ⟨by simp, by rw [HB.out.1]; exact HH.out.2.1⟩
    · rw [if_neg e] at hx
      obtain ⟨h1, h2⟩ := HH.out.1.only kl' x hx
      exact ⟨by simp [h1], by rw [HB.out.2 x (fun e => H2.out.2.2.2.2.2.2.1 (by rw [← e]; exact List.mem_cons_of_mem _ h1))]; exact h2⟩
  · intro hx
    exact hCC C ((hmm C).1 hx) rfl
  · intro hx
    rcases (hmm m).1 hx with h | h
    · exact HH.out.1.mr h
    · exact H2.out.2.2.2.2.2.2.2.1 h.symm
  · refine ⟨t4.os.trans (H3.out.2.1.os.trans (H2.out.2.1.os.trans H2.out.2.2.2.2.2.1.os)), t4.tape.trans (H3.out.2.1.tape.trans (H2.out.2.1.tape.trans H2.out.2.2.2.2.2.1.tape)), t4.output.trans (H3.out.2.1.output.trans (H2.out.2.1.output.trans H2.out.2.2.2.2.2.1.output)), ?_, fun k hk hn => ?_⟩
    · exact Nat.le_trans H2.out.2.2.2.2.2.1.size (Nat.le_trans H2.out.2.1.size (Nat.le_trans H3.out.2.1.size t4.size))
    · have k1 : k < W1.heap.size := Nat.lt_of_lt_of_le hk H2.out.2.2.2.2.2.1.size
      have k2 : k < W2.heap.size := Nat.lt_of_lt_of_le k1 H2.out.2.1.size
      have k3 : k < W3.heap.size := Nat.lt_of_lt_of_le k2 H3.out.2.1.size
      exact (t4.block k k3 (fun e => hn (.inl e))).trans ((H3.out.2.1.block k k2 (fun hx => hx.elim (fun hx => hn (.inr (.inr hx))) (fun e => by omega))).trans ((H2.out.2.1.block k k1 (fun e => hn (.inr (.inl e)))).trans (H2.out.2.2.2.2.2.1.block k hk)))
set_option maxHeartbeats 4000000 in
theorem mayGo_anyS (W : World) (a : Nat) (y : EntV) (b0 a0 : Value) (h : W.heap[a]? = some (.cells (entC y b0 a0) 98 (0, 0))) : Calls Try.prog 73 #[PV a] W fun x W' => x = .returned (.bool (!y.d && decide (y.p = 0))) ∧ W = W' := by
  have c2 : W.cell? ⟨a, 2, none⟩ = some (.bool y.d) := by rw [cell_of_row _ _ _ _ _ _ h]; rfl
  have c3 : W.cell? ⟨a, 3, none⟩ = some (.int .i64 (y.p : Int)) := by rw [cell_of_row _ _ _ _ _ _ h]; rfl
  obtain ⟨d, hd⟩ : ∃ d, y.d = d := ⟨_, rfl⟩
  rw [hd] at c2 ⊢
  clear h hd
  go_enter Try.func73, Try.ntmps73
  cases d
  · by_cases hp : y.p = 0
    · have hp' : ((y.p : Int) == 0) = true := by rw [beq_iff_eq]; omega
      have HP := Lib.hid hp
      clear hp
      go_wp2_with (fail)
      go_ret
      exact ⟨by rw [HP.out]; rfl, rfl⟩
    · have hp' : ((y.p : Int) == 0) = false := by rw [beq_eq_false_iff_ne]; omega
      have HP := Lib.hid hp
      clear hp
      go_wp2_with (fail)
      go_ret
      exact ⟨by rw [decide_eq_false HP.out]; rfl, rfl⟩
  · go_wp2_with (fail)
    go_ret
    exact ⟨rfl, rfl⟩
set_option maxRecDepth 100000 in
set_option maxHeartbeats 4000000 in
theorem take_anyS {W : World} {C r m nb : Nat} {places : Int} {L : List Nat} {B : Nat → EntV} {nx pv : Nat → Nat} {f : Lit → Option Nat} (h : CAt Try.prog 98 95 9 W C r m places nb L B nx pv f) {p q : List Nat} {a : Nat} (hL : L = p ++ a :: q) (k : ByteArray) (hkv : (B a).k = .string k) {kl : Lit} (hk : keyOf Try.prog 9 (.string k) = some kl) (hlen : L.length ≤ 65536) :
    Calls Try.prog 74 #[PV C, PV a] W fun x W' => x = .returned (.tuple #[]) ∧ (∃ nx' pv', CAt Try.prog 98 95 9 W' C r m places nb (p ++ q) B nx' pv' (updO f kl none)) ∧ Tch (Mine C r m L) W W' := by
  obtain ⟨ha, hpv, hnx, hne1, hne2, hout⟩ := h.entry hL
  obtain ⟨c0, _⟩ := h.nodes.cells ha
  rw [hkv] at c0
  have FI := Lib.hid (findableS k W)
  have HH := Lib.hid (And.intro h (And.intro hL (And.intro ha (And.intro hpv (And.intro hnx (And.intro hne1 (And.intro hne2 (And.intro hout (And.intro hk hkv)))))))))
  have hpos : 1 ≤ L.length := by rw [hL]; simp; omega
  have hle : ((L.length : Nat) : Int) ≤ 65536 := by omega
  have hge : (1 : Int) ≤ ((L.length : Nat) : Int) := by omega
  have HPOS := Lib.hid hpos
  clear h hL ha hpv hnx hne1 hne2 hout hkv hk hlen hpos
  go_enter Try.func74, Try.ntmps74
  go_wp2_with (fail)
  refine (FI.out).mono ?_
  rintro x W1 ⟨rfl, hb⟩
  have h1 := HH.out.1.below hb
  have bdr : Below W1.heap.size W1 W1.drew := (Below.refl _ _).drew
  have h1 := h1.below bdr
  have hb := bcat hb bdr
  obtain ⟨W2, hrun, hm2, t2, z2⟩ := h1.map.del (Maps.string_keyed Try.underlying9) Try.underlying91 HH.out.2.2.2.2.2.2.2.2.1
  obtain ⟨_, _, g2, _, _⟩ := h1.cells
  obtain ⟨g0, _⟩ := h1.nodes.cells HH.out.2.2.1
  rw [HH.out.2.2.2.2.2.2.2.2.2] at g0
  have hN2 := h1.nodes.tch t2 (fun a ha e => h1.mr (by rw [← e]; exact ha))
  have hC2 := (t2.block C (heap_lt h1.blk) h1.cm).trans h1.blk
  have UL := Lib.hid (unlinkS W2 _ B nx pv a hN2 HH.out.2.2.1 HH.out.2.2.2.1 HH.out.2.2.2.2.1 HH.out.2.2.2.2.2.1 HH.out.2.2.2.2.2.2.1)
  have H2 := Lib.hid (And.intro hm2 (And.intro t2 (And.intro z2 (And.intro hC2 (And.intro h1 hb)))))
  have HRUN := Lib.hid hrun
  clear hb h1 hm2 t2 z2 hN2 hC2 FI hrun c0 bdr
  go_upto_region 1 with (fail)
  refine wp_region_held_drew (S := fun W' => W'.cell? ⟨C, 2, none⟩ = some (.map (some m)) ∧ W'.cell? ⟨a, 0, none⟩ = some (.string k)) (by kernel_rfl) ⟨g2, g0⟩ (fun hHeld => ?_)
  have HHELD := Lib.hid hHeld
  clear g2 g0
  refine wpAnyH_take (i := 0) (oi := _) (v := ?v0) rfl (by kernel_rfl) (by kernel_rfl) (by kernel_rfl) (fun _ _ _ h => h) (Or.inl ⟨by rfl, ?hy0⟩) (by assumption) ?rest0
  case hy0 =>
    intro W hSw
    clear hSw
    go_simp
    try (with_reducible rfl)
  try simp only [Act.put, List.getElem_toArray, List.getElem_cons_zero, List.getElem_cons_succ, List.setIfInBounds_toArray, List.set_cons_zero, List.set_cons_succ]
  refine wpAnyH_take (i := 1) (oi := _) (v := ?v1) rfl (by kernel_rfl) (by kernel_rfl) (by kernel_rfl) (fun _ _ _ h => h) (Or.inl ⟨by rfl, ?hy1⟩) (by assumption) ?rest1
  case hy1 =>
    intro W hSw
    clear hSw
    go_simp
    try (with_reducible rfl)
  try simp only [Act.put, List.getElem_toArray, List.getElem_cons_zero, List.getElem_cons_succ, List.setIfInBounds_toArray, List.set_cons_zero, List.set_cons_succ]
  refine wpAnyH_take (i := 2) (oi := _) (v := ?v2) rfl (by kernel_rfl) (by kernel_rfl) (by kernel_rfl) (fun _ _ _ h => h) (Or.inl ⟨by rfl, ?hy2⟩) (by assumption) ?rest2
  case hy2 =>
    intro W hSw
    clear hSw
    go_simp
    try (with_reducible rfl)
  try simp only [Act.put, List.getElem_toArray, List.getElem_cons_zero, List.getElem_cons_succ, List.setIfInBounds_toArray, List.set_cons_zero, List.set_cons_succ]
  refine wpAnyH_take (i := 3) (oi := _) (v := ?v3) rfl (by kernel_rfl) (by kernel_rfl) (by kernel_rfl) (fun _ _ _ h => h) (Or.inl ⟨by rfl, ?hy3⟩) (by assumption) ?rest3
  case hy3 =>
    intro W hSw
    obtain ⟨e0, e1⟩ := hSw
    go_simp
    try (with_reducible rfl)
  try simp only [Act.put, List.getElem_toArray, List.getElem_cons_zero, List.getElem_cons_succ, List.setIfInBounds_toArray, List.set_cons_zero, List.set_cons_succ]
  refine wpAnyH_take (i := 4) (oi := _) (v := ?v4) rfl (by kernel_rfl) (by kernel_rfl) (by kernel_rfl) (fun _ _ _ h => h) (Or.inl ⟨by rfl, ?hy4⟩) (by assumption) ?rest4
  case hy4 =>
    intro W hSw
    clear hSw
    go_simp
    try (with_reducible rfl)
  try simp only [Act.put, List.getElem_toArray, List.getElem_cons_zero, List.getElem_cons_succ, List.setIfInBounds_toArray, List.set_cons_zero, List.set_cons_succ]
  refine wpAnyH_take (i := 5) (oi := _) (v := ?v5) rfl (by kernel_rfl) (by kernel_rfl) (by kernel_rfl) (fun _ _ _ h => h) (Or.inl ⟨by rfl, ?hy5⟩) (by assumption) ?rest5
  case hy5 =>
    intro W hSw
    clear hSw
    go_simp
    try (with_reducible rfl)
  try simp only [Act.put, List.getElem_toArray, List.getElem_cons_zero, List.getElem_cons_succ, List.setIfInBounds_toArray, List.set_cons_zero, List.set_cons_succ]
  refine wpAnyH_take (i := 6) (oi := _) (v := ?v6) rfl (by kernel_rfl) (by kernel_rfl) (by kernel_rfl) (fun _ _ _ h => h) (Or.inl ⟨by rfl, ?hy6⟩) (by assumption) ?rest6
  case hy6 =>
    intro W hSw
    clear hSw
    go_simp
    try (with_reducible rfl)
  try simp only [Act.put, List.getElem_toArray, List.getElem_cons_zero, List.getElem_cons_succ, List.setIfInBounds_toArray, List.set_cons_zero, List.set_cons_succ]
  refine wpAnyH_take (i := 7) (oi := _) (v := ?v7) rfl (by kernel_rfl) (by kernel_rfl) (by kernel_rfl) (fun _ _ _ h => h) (Or.inl ⟨by rfl, ?hy7⟩) (by assumption) ?rest7
  case hy7 =>
    intro W hSw
    obtain ⟨e0, e1⟩ := hSw
    go_simp
    try (with_reducible rfl)
  try simp only [Act.put, List.getElem_toArray, List.getElem_cons_zero, List.getElem_cons_succ, List.setIfInBounds_toArray, List.set_cons_zero, List.set_cons_succ]

  refine wpAnyH_ready (rs := [8]) (by kernel_rfl) (by simp) ?_
  refine AllReadyH.cons (o := _) rfl (fun K hK => ?_) AllReadyH.nil
  refine step_of2 rfl (wp_delete_eq (.tmp 12) (.tmp 16) 91 9 rfl (.map (some m)) (.string k) W2 (by rfl) (by rfl) HRUN.out ?_)
  have hHeld2 : W2.cell? ⟨C, 2, none⟩ = some (.map (some m)) ∧ W2.cell? ⟨a, 0, none⟩ = some (.string k) :=
    ⟨(World.cell?_of_block (w := W1.drew) (H2.out.2.1.block C (heap_lt H2.out.2.2.2.2.1.blk) H2.out.2.2.2.2.1.cm)).trans HHELD.out.1, (World.cell?_of_block (w := W1.drew) (H2.out.2.1.block a (heap_lt (H2.out.2.2.2.2.1.nodes a HH.out.2.2.1)) (fun e => H2.out.2.2.2.2.1.mr (by rw [← e]; exact HH.out.2.2.1)))).trans HHELD.out.2⟩
  refine hK.out _ _ hHeld2 (fun _ => ?_)
  clear hK K hHeld hHeld2
  try simp only [Act.put, List.getElem_toArray, List.getElem_cons_zero, List.getElem_cons_succ, List.setIfInBounds_toArray, List.set_cons_zero, List.set_cons_succ]
  refine wpAnyH_done (by kernel_rfl) ?_ _
  go_wp2_with (fail)
  refine (UL.out).mono ?_
  rintro x W3 ⟨rfl, hN3, t3, z3⟩
  have hC3 := (t3.block C (heap_lt H2.out.2.2.2.1) HH.out.1.cr).trans H2.out.2.2.2.1
  have e1 : W3.cell? ⟨C, 1, none⟩ = some (.int .i64 ((L.length : Nat) : Int)) := by rw [cell_of_row _ _ _ _ _ _ hC3]; rfl
  have f1 : W3.frozen? ⟨C, 1, none⟩ = false := frozen_of_row _ _ _ _ _ hC3
  have H3 := Lib.hid (And.intro hN3 (And.intro t3 (And.intro z3 hC3)))
  clear hN3 t3 z3 hC3 UL
  go_wp2_with (fail)
  go_returns
  have t4 : Tch (fun k => k = C) W3 (W3.setCell ⟨C, 1, none⟩ (.int .i64 ((L.length : Int) - 1))) := Tch.set (F := fun k => k = C) (p := ⟨C, 1, none⟩) (Tch.refl _ _) rfl _
  have hR := HH.out.1.ring
  rw [HH.out.2.1] at hR
  have hsub : ∀ x, x ∈ r :: (p ++ q) → x ∈ r :: L := fun x hx => by rw [HH.out.2.1]; exact mem_split.2 (.inl hx)
  have hm3 : W3.heap[m]? = W2.heap[m]? := H3.out.2.1.block m H2.out.1.lt HH.out.1.mr
  refine ⟨rfl, ⟨_, _, ⟨?_, hR.unlink.2.2, ?_, ?_, ?_, ?_, ?_, ?_, HH.out.1.cm⟩⟩, ?_⟩
  · rw [row_put _ H3.out.2.2.2]
    have hln : (((p ++ q).length : Nat) : Int) = (L.length : Int) - 1 := by rw [HH.out.2.1]; simp; omega
    rw [hln]
    rfl
  · exact (H3.out.1.tch t4 (fun a ha e => HH.out.1.cr (by rw [← e]; exact ha))).mono hsub
  · exact H2.out.1.keep ((t4.block m (by rw [H3.out.2.2.1]; exact H2.out.1.lt) (fun e => HH.out.1.cm e.symm)).trans hm3)
  · intro x hx
    obtain ⟨kl', h1, h2⟩ := HH.out.1.keyed x (by rw [HH.out.2.1]; simp at hx ⊢; rcases hx with h | h <;> simp [h])
    have hne : kl' ≠ kl := fun e => by
      have hak : f kl = some a := by
        obtain ⟨k2, g1, g2⟩ := HH.out.1.keyed a (by rw [HH.out.2.1]; simp)
        rw [HH.out.2.2.2.2.2.2.2.2.2, HH.out.2.2.2.2.2.2.2.2.1] at g1
        injection g1 with g1
        rw [g1]; exact g2
      rw [e, hak] at h2
      injection h2 with h2
      exact HH.out.2.2.2.2.2.2.2.1 (by rw [h2]; exact List.mem_cons_of_mem _ hx)
    exact ⟨kl', h1, by unfold updO; rw [if_neg hne]; exact h2⟩
  · intro kl' x hx
    unfold updO at hx
    by_cases e : kl' = kl
    · rw [if_pos e] at hx; cases hx
    · rw [if_neg e] at hx
      obtain ⟨h1, h2⟩ := HH.out.1.only kl' x hx
      refine ⟨?_, h2⟩
      have hxa : x ≠ a := fun ex => by
        rw [ex, HH.out.2.2.2.2.2.2.2.2.2, HH.out.2.2.2.2.2.2.2.2.1] at h2
        injection h2 with h2
        exact e h2.symm
      rw [HH.out.2.1] at h1
      simp [hxa] at h1 ⊢
      exact h1
  · exact fun hx => HH.out.1.cr (hsub C hx)
  · exact fun hx => HH.out.1.mr (hsub m hx)
  · refine ⟨t4.os.trans (H3.out.2.1.os.trans (H2.out.2.1.os.trans H2.out.2.2.2.2.2.os)), t4.tape.trans (H3.out.2.1.tape.trans (H2.out.2.1.tape.trans H2.out.2.2.2.2.2.tape)), t4.output.trans (H3.out.2.1.output.trans (H2.out.2.1.output.trans H2.out.2.2.2.2.2.output)), ?_, fun k hk hn => ?_⟩
    · exact Nat.le_trans H2.out.2.2.2.2.2.size (Nat.le_trans H2.out.2.1.size (Nat.le_trans H3.out.2.1.size t4.size))
    · have k1 : k < W1.drew.heap.size := Nat.lt_of_lt_of_le hk H2.out.2.2.2.2.2.size
      have k2 : k < W2.heap.size := Nat.lt_of_lt_of_le k1 H2.out.2.1.size
      have k3 : k < W3.heap.size := Nat.lt_of_lt_of_le k2 H3.out.2.1.size
      exact (t4.block k k3 (fun e => hn (.inl e))).trans ((H3.out.2.1.block k k2 (fun hx => hn (.inr (.inr hx)))).trans ((H2.out.2.1.block k k1 (fun e => hn (.inr (.inl e)))).trans (H2.out.2.2.2.2.2.block k hk)))
set_option maxHeartbeats 4000000 in
theorem mayGo_anyI (W : World) (a : Nat) (y : EntV) (b0 a0 : Value) (h : W.heap[a]? = some (.cells (entC y b0 a0) 74 (0, 0))) : Calls Try.prog 65 #[PV a] W fun x W' => x = .returned (.bool (!y.d && decide (y.p = 0))) ∧ W = W' := by
  have c2 : W.cell? ⟨a, 2, none⟩ = some (.bool y.d) := by rw [cell_of_row _ _ _ _ _ _ h]; rfl
  have c3 : W.cell? ⟨a, 3, none⟩ = some (.int .i64 (y.p : Int)) := by rw [cell_of_row _ _ _ _ _ _ h]; rfl
  obtain ⟨d, hd⟩ : ∃ d, y.d = d := ⟨_, rfl⟩
  rw [hd] at c2 ⊢
  clear h hd
  go_enter Try.func65, Try.ntmps65
  cases d
  · by_cases hp : y.p = 0
    · have hp' : ((y.p : Int) == 0) = true := by rw [beq_iff_eq]; omega
      have HP := Lib.hid hp
      clear hp
      go_wp2_with (fail)
      go_ret
      exact ⟨by rw [HP.out]; rfl, rfl⟩
    · have hp' : ((y.p : Int) == 0) = false := by rw [beq_eq_false_iff_ne]; omega
      have HP := Lib.hid hp
      clear hp
      go_wp2_with (fail)
      go_ret
      exact ⟨by rw [decide_eq_false HP.out]; rfl, rfl⟩
  · go_wp2_with (fail)
    go_ret
    exact ⟨rfl, rfl⟩
set_option maxRecDepth 100000 in
set_option maxHeartbeats 4000000 in
theorem take_anyI {W : World} {C r m nb : Nat} {places : Int} {L : List Nat} {B : Nat → EntV} {nx pv : Nat → Nat} {f : Lit → Option Nat} (h : CAt Try.prog 74 67 3 W C r m places nb L B nx pv f) {p q : List Nat} {a : Nat} (hL : L = p ++ a :: q) (k : Int) (hkv : (B a).k = .int .i64 k) {kl : Lit} (hk : keyOf Try.prog 3 (.int .i64 k) = some kl) (hlen : L.length ≤ 65536) :
    Calls Try.prog 50 #[PV C, PV a] W fun x W' => x = .returned (.tuple #[]) ∧ (∃ nx' pv', CAt Try.prog 74 67 3 W' C r m places nb (p ++ q) B nx' pv' (updO f kl none)) ∧ Tch (Mine C r m L) W W' := by
  obtain ⟨ha, hpv, hnx, hne1, hne2, hout⟩ := h.entry hL
  obtain ⟨c0, _⟩ := h.nodes.cells ha
  rw [hkv] at c0
  have FI := Lib.hid (findableI k W)
  have HH := Lib.hid (And.intro h (And.intro hL (And.intro ha (And.intro hpv (And.intro hnx (And.intro hne1 (And.intro hne2 (And.intro hout (And.intro hk hkv)))))))))
  have hpos : 1 ≤ L.length := by rw [hL]; simp; omega
  have hle : ((L.length : Nat) : Int) ≤ 65536 := by omega
  have hge : (1 : Int) ≤ ((L.length : Nat) : Int) := by omega
  have HPOS := Lib.hid hpos
  clear h hL ha hpv hnx hne1 hne2 hout hkv hk hlen hpos
  go_enter Try.func50, Try.ntmps50
  go_wp2_with (fail)
  refine (FI.out).mono ?_
  rintro x W1 ⟨rfl, hb⟩
  have h1 := HH.out.1.below hb
  have bdr : Below W1.heap.size W1 W1.drew := (Below.refl _ _).drew
  have h1 := h1.below bdr
  have hb := bcat hb bdr
  obtain ⟨W2, hrun, hm2, t2, z2⟩ := h1.map.del (Maps.int_keyed Try.underlying3) Try.underlying63 HH.out.2.2.2.2.2.2.2.2.1
  obtain ⟨_, _, g2, _, _⟩ := h1.cells
  obtain ⟨g0, _⟩ := h1.nodes.cells HH.out.2.2.1
  rw [HH.out.2.2.2.2.2.2.2.2.2] at g0
  have hN2 := h1.nodes.tch t2 (fun a ha e => h1.mr (by rw [← e]; exact ha))
  have hC2 := (t2.block C (heap_lt h1.blk) h1.cm).trans h1.blk
  have UL := Lib.hid (unlinkI W2 _ B nx pv a hN2 HH.out.2.2.1 HH.out.2.2.2.1 HH.out.2.2.2.2.1 HH.out.2.2.2.2.2.1 HH.out.2.2.2.2.2.2.1)
  have H2 := Lib.hid (And.intro hm2 (And.intro t2 (And.intro z2 (And.intro hC2 (And.intro h1 hb)))))
  have HRUN := Lib.hid hrun
  clear hb h1 hm2 t2 z2 hN2 hC2 FI hrun c0 bdr
  go_upto_region 1 with (fail)
  refine wp_region_held_drew (S := fun W' => W'.cell? ⟨C, 2, none⟩ = some (.map (some m)) ∧ W'.cell? ⟨a, 0, none⟩ = some (.int .i64 k)) (by kernel_rfl) ⟨g2, g0⟩ (fun hHeld => ?_)
  have HHELD := Lib.hid hHeld
  clear g2 g0
  refine wpAnyH_take (i := 0) (oi := _) (v := ?v0) rfl (by kernel_rfl) (by kernel_rfl) (by kernel_rfl) (fun _ _ _ h => h) (Or.inl ⟨by rfl, ?hy0⟩) (by assumption) ?rest0
  case hy0 =>
    intro W hSw
    clear hSw
    go_simp
    try (with_reducible rfl)
  try simp only [Act.put, List.getElem_toArray, List.getElem_cons_zero, List.getElem_cons_succ, List.setIfInBounds_toArray, List.set_cons_zero, List.set_cons_succ]
  refine wpAnyH_take (i := 1) (oi := _) (v := ?v1) rfl (by kernel_rfl) (by kernel_rfl) (by kernel_rfl) (fun _ _ _ h => h) (Or.inl ⟨by rfl, ?hy1⟩) (by assumption) ?rest1
  case hy1 =>
    intro W hSw
    clear hSw
    go_simp
    try (with_reducible rfl)
  try simp only [Act.put, List.getElem_toArray, List.getElem_cons_zero, List.getElem_cons_succ, List.setIfInBounds_toArray, List.set_cons_zero, List.set_cons_succ]
  refine wpAnyH_take (i := 2) (oi := _) (v := ?v2) rfl (by kernel_rfl) (by kernel_rfl) (by kernel_rfl) (fun _ _ _ h => h) (Or.inl ⟨by rfl, ?hy2⟩) (by assumption) ?rest2
  case hy2 =>
    intro W hSw
    clear hSw
    go_simp
    try (with_reducible rfl)
  try simp only [Act.put, List.getElem_toArray, List.getElem_cons_zero, List.getElem_cons_succ, List.setIfInBounds_toArray, List.set_cons_zero, List.set_cons_succ]
  refine wpAnyH_take (i := 3) (oi := _) (v := ?v3) rfl (by kernel_rfl) (by kernel_rfl) (by kernel_rfl) (fun _ _ _ h => h) (Or.inl ⟨by rfl, ?hy3⟩) (by assumption) ?rest3
  case hy3 =>
    intro W hSw
    obtain ⟨e0, e1⟩ := hSw
    go_simp
    try (with_reducible rfl)
  try simp only [Act.put, List.getElem_toArray, List.getElem_cons_zero, List.getElem_cons_succ, List.setIfInBounds_toArray, List.set_cons_zero, List.set_cons_succ]
  refine wpAnyH_take (i := 4) (oi := _) (v := ?v4) rfl (by kernel_rfl) (by kernel_rfl) (by kernel_rfl) (fun _ _ _ h => h) (Or.inl ⟨by rfl, ?hy4⟩) (by assumption) ?rest4
  case hy4 =>
    intro W hSw
    clear hSw
    go_simp
    try (with_reducible rfl)
  try simp only [Act.put, List.getElem_toArray, List.getElem_cons_zero, List.getElem_cons_succ, List.setIfInBounds_toArray, List.set_cons_zero, List.set_cons_succ]
  refine wpAnyH_take (i := 5) (oi := _) (v := ?v5) rfl (by kernel_rfl) (by kernel_rfl) (by kernel_rfl) (fun _ _ _ h => h) (Or.inl ⟨by rfl, ?hy5⟩) (by assumption) ?rest5
  case hy5 =>
    intro W hSw
    clear hSw
    go_simp
    try (with_reducible rfl)
  try simp only [Act.put, List.getElem_toArray, List.getElem_cons_zero, List.getElem_cons_succ, List.setIfInBounds_toArray, List.set_cons_zero, List.set_cons_succ]
  refine wpAnyH_take (i := 6) (oi := _) (v := ?v6) rfl (by kernel_rfl) (by kernel_rfl) (by kernel_rfl) (fun _ _ _ h => h) (Or.inl ⟨by rfl, ?hy6⟩) (by assumption) ?rest6
  case hy6 =>
    intro W hSw
    clear hSw
    go_simp
    try (with_reducible rfl)
  try simp only [Act.put, List.getElem_toArray, List.getElem_cons_zero, List.getElem_cons_succ, List.setIfInBounds_toArray, List.set_cons_zero, List.set_cons_succ]
  refine wpAnyH_take (i := 7) (oi := _) (v := ?v7) rfl (by kernel_rfl) (by kernel_rfl) (by kernel_rfl) (fun _ _ _ h => h) (Or.inl ⟨by rfl, ?hy7⟩) (by assumption) ?rest7
  case hy7 =>
    intro W hSw
    obtain ⟨e0, e1⟩ := hSw
    go_simp
    try (with_reducible rfl)
  try simp only [Act.put, List.getElem_toArray, List.getElem_cons_zero, List.getElem_cons_succ, List.setIfInBounds_toArray, List.set_cons_zero, List.set_cons_succ]

  refine wpAnyH_ready (rs := [8]) (by kernel_rfl) (by simp) ?_
  refine AllReadyH.cons (o := _) rfl (fun K hK => ?_) AllReadyH.nil
  refine step_of2 rfl (wp_delete_eq (.tmp 12) (.tmp 16) 63 3 rfl (.map (some m)) (.int .i64 k) W2 (by rfl) (by rfl) HRUN.out ?_)
  have hHeld2 : W2.cell? ⟨C, 2, none⟩ = some (.map (some m)) ∧ W2.cell? ⟨a, 0, none⟩ = some (.int .i64 k) :=
    ⟨(World.cell?_of_block (w := W1.drew) (H2.out.2.1.block C (heap_lt H2.out.2.2.2.2.1.blk) H2.out.2.2.2.2.1.cm)).trans HHELD.out.1, (World.cell?_of_block (w := W1.drew) (H2.out.2.1.block a (heap_lt (H2.out.2.2.2.2.1.nodes a HH.out.2.2.1)) (fun e => H2.out.2.2.2.2.1.mr (by rw [← e]; exact HH.out.2.2.1)))).trans HHELD.out.2⟩
  refine hK.out _ _ hHeld2 (fun _ => ?_)
  clear hK K hHeld hHeld2
  try simp only [Act.put, List.getElem_toArray, List.getElem_cons_zero, List.getElem_cons_succ, List.setIfInBounds_toArray, List.set_cons_zero, List.set_cons_succ]
  refine wpAnyH_done (by kernel_rfl) ?_ _
  go_wp2_with (fail)
  refine (UL.out).mono ?_
  rintro x W3 ⟨rfl, hN3, t3, z3⟩
  have hC3 := (t3.block C (heap_lt H2.out.2.2.2.1) HH.out.1.cr).trans H2.out.2.2.2.1
  have e1 : W3.cell? ⟨C, 1, none⟩ = some (.int .i64 ((L.length : Nat) : Int)) := by rw [cell_of_row _ _ _ _ _ _ hC3]; rfl
  have f1 : W3.frozen? ⟨C, 1, none⟩ = false := frozen_of_row _ _ _ _ _ hC3
  have H3 := Lib.hid (And.intro hN3 (And.intro t3 (And.intro z3 hC3)))
  clear hN3 t3 z3 hC3 UL
  go_wp2_with (fail)
  go_returns
  have t4 : Tch (fun k => k = C) W3 (W3.setCell ⟨C, 1, none⟩ (.int .i64 ((L.length : Int) - 1))) := Tch.set (F := fun k => k = C) (p := ⟨C, 1, none⟩) (Tch.refl _ _) rfl _
  have hR := HH.out.1.ring
  rw [HH.out.2.1] at hR
  have hsub : ∀ x, x ∈ r :: (p ++ q) → x ∈ r :: L := fun x hx => by rw [HH.out.2.1]; exact mem_split.2 (.inl hx)
  have hm3 : W3.heap[m]? = W2.heap[m]? := H3.out.2.1.block m H2.out.1.lt HH.out.1.mr
  refine ⟨rfl, ⟨_, _, ⟨?_, hR.unlink.2.2, ?_, ?_, ?_, ?_, ?_, ?_, HH.out.1.cm⟩⟩, ?_⟩
  · rw [row_put _ H3.out.2.2.2]
    have hln : (((p ++ q).length : Nat) : Int) = (L.length : Int) - 1 := by rw [HH.out.2.1]; simp; omega
    rw [hln]
    rfl
  · exact (H3.out.1.tch t4 (fun a ha e => HH.out.1.cr (by rw [← e]; exact ha))).mono hsub
  · exact H2.out.1.keep ((t4.block m (by rw [H3.out.2.2.1]; exact H2.out.1.lt) (fun e => HH.out.1.cm e.symm)).trans hm3)
  · intro x hx
    obtain ⟨kl', h1, h2⟩ := HH.out.1.keyed x (by rw [HH.out.2.1]; simp at hx ⊢; rcases hx with h | h <;> simp [h])
    have hne : kl' ≠ kl := fun e => by
      have hak : f kl = some a := by
        obtain ⟨k2, g1, g2⟩ := HH.out.1.keyed a (by rw [HH.out.2.1]; simp)
        rw [HH.out.2.2.2.2.2.2.2.2.2, HH.out.2.2.2.2.2.2.2.2.1] at g1
        injection g1 with g1
        rw [g1]; exact g2
      rw [e, hak] at h2
      injection h2 with h2
      exact HH.out.2.2.2.2.2.2.2.1 (by rw [h2]; exact List.mem_cons_of_mem _ hx)
    exact ⟨kl', h1, by unfold updO; rw [if_neg hne]; exact h2⟩
  · intro kl' x hx
    unfold updO at hx
    by_cases e : kl' = kl
    · rw [if_pos e] at hx; cases hx
    · rw [if_neg e] at hx
      obtain ⟨h1, h2⟩ := HH.out.1.only kl' x hx
      refine ⟨?_, h2⟩
      have hxa : x ≠ a := fun ex => by
        rw [ex, HH.out.2.2.2.2.2.2.2.2.2, HH.out.2.2.2.2.2.2.2.2.1] at h2
        injection h2 with h2
        exact e h2.symm
      rw [HH.out.2.1] at h1
      simp [hxa] at h1 ⊢
      exact h1
  · exact fun hx => HH.out.1.cr (hsub C hx)
  · exact fun hx => HH.out.1.mr (hsub m hx)
  · refine ⟨t4.os.trans (H3.out.2.1.os.trans (H2.out.2.1.os.trans H2.out.2.2.2.2.2.os)), t4.tape.trans (H3.out.2.1.tape.trans (H2.out.2.1.tape.trans H2.out.2.2.2.2.2.tape)), t4.output.trans (H3.out.2.1.output.trans (H2.out.2.1.output.trans H2.out.2.2.2.2.2.output)), ?_, fun k hk hn => ?_⟩
    · exact Nat.le_trans H2.out.2.2.2.2.2.size (Nat.le_trans H2.out.2.1.size (Nat.le_trans H3.out.2.1.size t4.size))
    · have k1 : k < W1.drew.heap.size := Nat.lt_of_lt_of_le hk H2.out.2.2.2.2.2.size
      have k2 : k < W2.heap.size := Nat.lt_of_lt_of_le k1 H2.out.2.1.size
      have k3 : k < W3.heap.size := Nat.lt_of_lt_of_le k2 H3.out.2.1.size
      exact (t4.block k k3 (fun e => hn (.inl e))).trans ((H3.out.2.1.block k k2 (fun hx => hn (.inr (.inr hx)))).trans ((H2.out.2.1.block k k1 (fun e => hn (.inr (.inl e)))).trans (H2.out.2.2.2.2.2.block k hk)))
end Go.Proofs.Ytaigbplidkakhaa
