/- Proved here: a map of truths; a Put of a key that is not there, when there is room or a place is made. -/
import Derived.Test.YtaigbplidkakhaaCKeep
namespace Go.Proofs.Ytaigbplidkakhaa
open Go.RowKit Go.ChangeMaps

theorem places_num' (n : Int) : ∃ m : Nat, wrap64 (1 + wrap64 ((IntKind.u64.wrap n).tmod 20)) = (m : Int) ∧ 1 ≤ m ∧ m ≤ 20 := by
  have h0 : 0 ≤ IntKind.u64.wrap n := by
    have e : IntKind.u64.wrap n = n % 18446744073709551616 := by simp [IntKind.wrap, IntKind.signed, IntKind.bits]
    rw [e]
    omega
  obtain ⟨U, hU⟩ : ∃ U : Nat, IntKind.u64.wrap n = (U : Int) := ⟨_, (Int.toNat_of_nonneg h0).symm⟩
  rw [hU, show (20 : Int) = ((20 : Nat) : Int) from rfl, ← Int.ofNat_tmod]
  refine ⟨1 + U % 20, ?_, by omega, by omega⟩
  unfold wrap64
  omega
theorem holdsI_tch {W W' : World} {q : Option Addr} {l : List Int} {F : Nat → Prop} (h : HoldsI W q l) (t : Tch F W W') (hq : ∀ b off, q = some ⟨b, off, none⟩ → ¬ F b) : HoldsI W' q l := fun h0 => by
  obtain ⟨b, off, e, hc⟩ := h h0
  exact ⟨b, off, e, fun j hj => (World.cell?_of_block (t.block b (World.block_lt_of_cell? _ _ (hc j hj)) (hq b off e))).trans (hc j hj)⟩
/-- A map of truths in block b: true just at the keys ks. -/
def BoolM (W : World) (b : Nat) (ks : List Int) : Prop := ∃ D : DataW Unit, W.ownsMap Try.prog 3 (plainElem Try.prog 4) b ks.length D ∧ Maps.Tidy D ∧ Maps.size D = ks.length ∧ ∀ x, (Lit.int .i64 x).wf = true → D.atKey (.int .i64 x) (.lit (.bool false)) = .lit (.bool (decide (x ∈ ks))) ∧ Maps.has D (.int .i64 x) = decide (x ∈ ks)
theorem BoolM.made (W : World) : BoolM (W.alloc (.map #[] 0)) W.heap.size [] :=
  ⟨.map [], World.ownsMap_made W _ _ _, Maps.tidy_empty, rfl, fun kl _ => ⟨WideAt.atKey_none _ (fun _ hp => by cases hp), rfl⟩⟩
theorem BoolM.lt {W : World} {b : Nat} {ks : List Int} (m : BoolM W b ks) : b < W.heap.size := by
  obtain ⟨D, h1, _⟩ := m
  exact h1.lt
theorem BoolM.keep {W W' : World} {b : Nat} {ks : List Int} (m : BoolM W b ks) (hb : W'.heap[b]? = W.heap[b]?) : BoolM W' b ks := by
  obtain ⟨D, ⟨es, clock, h1, h2⟩, h3⟩ := m
  exact ⟨D, ⟨es, clock, hb.trans h1, h2⟩, h3⟩
theorem plainElem_bool_inv' {v : Value} {z : DataW Unit × List MemPlace} (h : plainElem Try.prog 4 v = some z) : ∃ x, v = .bool x ∧ z = (.lit (.bool x), []) := by
  cases v <;> simp [plainElem, Try.underlying4] at h
  exact ⟨_, rfl, h.symm⟩
theorem BoolM.look {W : World} {b : Nat} {ks : List Int} (m : BoolM W b ks) (x : Int) (hx : (Lit.int .i64 x).wf = true) : (Instr.lookup 47 (.map (some b)) (.int .i64 x) false).run Try.prog W = .ok (.bool (decide (x ∈ ks))) W := by
  obtain ⟨D, h1, _, _, h3⟩ := m
  obtain ⟨v, ps, hrun, hv⟩ := h1.lookup KI Try.underlying47 (Try.zeroValue4 W) (plainElem_bool Try.underlying4 false) (keyK x (rangeK hx))
  obtain ⟨c, rfl, hc⟩ := plainElem_bool_inv' hv
  rw [(h3 x hx).1] at hc
  have e : decide (x ∈ ks) = c := by
    have := (Prod.mk.injEq .. ▸ hc).1
    cases this
    rfl
  rw [e]
  exact hrun
theorem BoolM.len {W : World} {b : Nat} {ks : List Int} (m : BoolM W b ks) (ty : TypeId) : (Builtin.len_ #[47] ty #[.map (some b)]).run Try.prog W = .ok (.int .i64 (ks.length : Int)) W := by
  obtain ⟨D, h1, _, h3, _⟩ := m
  rw [h1.len Try.underlying47 ty, h3]
theorem BoolM.put {W : World} {b : Nat} {ks : List Int} (m : BoolM W b ks) (hn : ks.length < maxLen) (k : Int) (hk : (Lit.int .i64 k).wf = true) (hnew : k ∉ ks) :
    ∃ W', (Instr.mapUpdate 47 (.map (some b)) (.int .i64 k) (.bool true)).run Try.prog W = .ok () W' ∧ BoolM W' b (ks ++ [k]) ∧ Tch (fun j => j = b) W W' ∧ W'.heap.size = W.heap.size := by
  obtain ⟨D, h1, h2, h3, h4⟩ := m
  obtain ⟨W', hrun, h5, es, clock, es', clock', hb, rfl⟩ := h1.store KI Try.underlying47 hn (keyK k (rangeK hk)) (plainElem_bool Try.underlying4 true)
  have hkl : WideAt.IsKeyLit (.int .i64 k) := KI.key (keyK k (rangeK hk))
  refine ⟨_, hrun, ⟨_, by rw [List.length_append]; exact h5, h2.put hkl _, ?_, fun x hx => ?_⟩, ⟨rfl, rfl, rfl, by simp [setBlock], fun j _ hj => heap_setBlock_other hb _ (fun e => hj e)⟩, by simp [setBlock]⟩
  · rw [Maps.size_put h2, (h4 k hk).2, decide_eq_false hnew, h3, List.length_append]
    rfl
  · by_cases e : x = k
    · subst e
      refine ⟨?_, ?_⟩
      · rw [Maps.atKey_put_same h2.isMap hkl, decide_eq_true (by simp)]
      · rw [Maps.has_put_same h2.isMap hkl, decide_eq_true (by simp)]
    · have hne : Lit.int .i64 x ≠ .int .i64 k := fun e' => e (by injection e')
      have hd : decide (x ∈ ks ++ [k]) = decide (x ∈ ks) := by
        by_cases hx2 : x ∈ ks
        · rw [decide_eq_true hx2, decide_eq_true (by simp [hx2])]
        · rw [decide_eq_false hx2, decide_eq_false (by simp [hx2, e])]
      rw [hd]
      exact ⟨(Maps.atKey_put_other hne _ _).trans (h4 x hx).1, (Maps.has_put_other hne _).trans (h4 x hx).2⟩
/-- Whether an entry may go, or there is room. -/
theorem put_ways (m : Int) (l : List EntI) : ((l.length : Int) < m ∨ ∃ p e q, l = p ++ e :: q ∧ (∀ y ∈ p, y.goes = false) ∧ e.goes = true ∧ m ≤ (l.length : Int)) ∨ (m ≤ (l.length : Int) ∧ ∀ y ∈ l, y.goes = false) := by
  by_cases hr : (l.length : Int) < m
  · exact .inl (.inl hr)
  · have split : ∀ l : List EntI, (∀ e ∈ l, e.goes = false) ∨ ∃ p e q, l = p ++ e :: q ∧ (∀ y ∈ p, y.goes = false) ∧ e.goes = true := fun l => by
      induction l with
      | nil => exact .inl (fun _ h => by simp at h)
      | cons a t ih =>
        cases ha : a.goes with
        | true => exact .inr ⟨[], a, t, rfl, (fun _ h => by simp at h), ha⟩
        | false =>
          rcases ih with h | ⟨p, e, q, h1, h2, h3⟩
          · exact .inl (List.forall_mem_cons.2 ⟨ha, h⟩)
          · exact .inr ⟨a :: p, e, q, by rw [h1]; rfl, List.forall_mem_cons.2 ⟨ha, h2⟩, h3⟩
    rcases split l with h | ⟨p, e, q, h1, h2, h3⟩
    · exact .inr ⟨by omega, h⟩
    · exact .inl (.inr ⟨p, e, q, h1, h2, h3, by omega⟩)
theorem putNew {M : Nat → Prop} {W : World} {C nb : Nat} {m : Nat} {l : List EntI} (h : CSI M W C (m : Int) nb l) (k : Int) {kl : Lit} (hk : keyOf Try.prog 3 (.int .i64 k) = some kl) (hn : ∀ e ∈ l, e.k ≠ k) (hm : m ≤ 20) (hlm : l.length ≤ m)
    (hw : (l.length : Int) < m ∨ ∃ p e q, l = p ++ e :: q ∧ (∀ y ∈ p, y.goes = false) ∧ e.goes = true ∧ (m : Int) ≤ (l.length : Int)) (hnb : nb < maxLen) (v : Int) (d : Bool) :
    Calls Try.prog 15 #[PV C, .int .i64 k, .int .i64 v, .bool d] W fun x W' => x = .returned (.int .i64 0) ∧ ∃ M' l', CSI M' W' C (m : Int) (nb + 1) l' ∧ Step M M' W W' ∧ l'.length ≤ m ∧ (∀ y ∈ l', y = ⟨k, v, d, 0⟩ ∨ y ∈ l) ∧ (⟨k, v, d, 0⟩ : EntI) ∈ l' ∧ ∀ y ∈ l, y ∈ l' ∨ (y.p = 0 ∧ y.d = false) := by
  rcases hw with hr | ⟨p, e, q, rfl, h1, h2, h3⟩
  · refine (putRoomI h k hk hn hr (by omega) hnb v d).mono ?_
    rintro x W' ⟨rfl, M', c, s⟩
    exact ⟨rfl, M', _, c, s, by rw [List.length_append, List.length_singleton]; omega, fun y hy => by simp at hy; exact hy.elim .inr .inl, by simp, fun y hy => .inl (by simp [hy])⟩
  · refine (putEvictI h k hk hn h3 h1 h2 hnb v d).mono ?_
    rintro x W' ⟨rfl, M', c, s⟩
    refine ⟨rfl, M', _, c, s, ?_, fun y hy => ?_, by simp, fun y hy => ?_⟩
    · simp at hlm ⊢; omega
    · simp at hy ⊢
      rcases hy with h | h | h
      · exact .inr (.inl h)
      · exact .inr (.inr (.inr h))
      · exact .inl h
    · simp at hy ⊢
      rcases hy with h | h | h
      · exact .inl (.inl h)
      · subst h
        unfold EntI.goes at h2
        simp at h2
        exact .inr ⟨h2.2, h2.1⟩
      · exact .inl (.inr (.inl h))
end Go.Proofs.Ytaigbplidkakhaa
