/- Proved here: the document's cache: Clean. -/
import Derived.Test.YtaigbplidkakhaaCRef4
namespace Go.Proofs.Ytaigbplidkakhaa
open Go.RowKit Go.ChangeMaps

theorem entVs_set (p q : List EntI) (e e' : EntI) (i : Nat) (u : Value) (hi : i < 4) (h : (ent4 e).set i u = ent4 e') : (entVs (p ++ e :: q)).set (p.length * 4 + i) u = entVs (p ++ e' :: q) := by
  rw [entVs_append, entVs_append, List.set_append_right _ _ (by rw [entVs_length]; omega), entVs_length, Nat.add_sub_cancel_left]
  rw [show entVs (e :: q) = ent4 e ++ entVs q from rfl, show entVs (e' :: q) = ent4 e' ++ entVs q from rfl, List.set_append_left _ _ (by simp [ent4]; omega), h]
/-- An entry is written in its place. -/
theorem RC.put {F : Nat → Prop} {W : World} {R g : Nat} {places : Int} {p q : List EntI} {e e' : EntI} {s : Option Addr} {c : Nat} (h1 : W.heap[R]? = some (.cells #[.int .i64 places, .slice s (p ++ e :: q).length c] 31 (0, 0))) (h2 : W.ownsRow 0 76 4 (.slice s (p ++ e :: q).length c) (p ++ e :: q).length (entVs (p ++ e :: q))) (h3 : F R)
    (h4 : ∀ k, (Value.slice s (p ++ e :: q).length c).ownBlock = some k → F k ∧ k ≠ R) (h5 : (p ++ e :: q).length ≤ c) (hs : s = some ⟨g, 0, none⟩) (i : Nat) (u : Value) (hi : i < 4) (hu : u.oneCell' = true) (h : (ent4 e).set i u = ent4 e') :
    RC F (W.setCell ⟨g, p.length * 4 + i, none⟩ u) R places (p ++ e' :: q) ∧ Tch F W (W.setCell ⟨g, p.length * 4 + i, none⟩ u) := by
  subst hs
  have hg := h4 g (by simp [Value.ownBlock])
  have hlen : (p ++ e' :: q).length = (p ++ e :: q).length := by simp
  refine ⟨⟨some ⟨g, 0, none⟩, c, ?_, ?_, h3, ?_, ?_⟩, (Tch.refl F W).set (p := ⟨g, p.length * 4 + i, none⟩) hg.1 u⟩
  · rw [hlen]
    exact (set_oth (fun e => hg.2 e.symm)).trans h1
  · rw [hlen, ← entVs_set p q e e' i u hi h]
    exact (h2.stored (p.length * 4 + i) u).1
  · rw [hlen]; exact h4
  · rw [hlen]; exact h5
theorem refCleanNone {F : Nat → Prop} {W : World} {R : Nat} {places : Int} {l : List EntI} (h : RC F W R places l) (hl : l.length ≤ 65536) (k : Int) (hn : ∀ e ∈ l, e.k ≠ k) :
    Calls Try.prog 39 #[PV R, .int .i64 k] W fun x W' => x = .returned (.bool false) ∧ RC F W' R places l ∧ Step F F W W' := by
  have HF := Lib.hid (findNone h hl k hn)
  have HH := Lib.hid h
  clear h hl hn
  go_enter Try.func39, Try.ntmps39
  go_wp2_with (fail)
  refine HF.out.mono ?_
  rintro x W1 ⟨rfl, hb⟩
  have HB := Lib.hid hb
  clear hb
  go_wp2_with (fail)
  go_ret
  exact ⟨rfl, HH.out.below HB.out, stay HB.out⟩
theorem refCleanSome {F : Nat → Prop} {W : World} {R : Nat} {places : Int} {p q : List EntI} {e : EntI} (h : RC F W R places (p ++ e :: q)) (hl : (p ++ e :: q).length ≤ 65536) (k : Int) (he : e.k = k) (hn : ∀ y ∈ p, y.k ≠ k) :
    Calls Try.prog 39 #[PV R, .int .i64 k] W fun x W' => x = .returned (.bool e.d) ∧ RC F W' R places (p ++ ⟨e.k, e.v, false, e.p⟩ :: q) ∧ Step F F W W' := by
  have HF := Lib.hid (findSome h hl k he hn)
  have HH := Lib.hid (And.intro h hl)
  clear h hl hn
  go_enter Try.func39, Try.ntmps39
  go_wp2_with (fail)
  refine HF.out.mono ?_
  rintro x W1 ⟨rfl, hb⟩
  have h1 := HH.out.1.below hb
  have hrc := h1
  obtain ⟨s, c, k1, k2, k3, k4, k5⟩ := hrc
  have r1 : W1.cell? ⟨R, 1, none⟩ = some (.slice s (p ++ e :: q).length c) := by rw [cell_of_row _ _ _ _ _ _ k1]; rfl
  have hpl : p.length < (p ++ e :: q).length := by simp
  obtain ⟨g, hs, hcl⟩ := RC.cells (F := F) (R := R) (places := places) k2 hpl
  obtain ⟨d0, d1, d2, d3⟩ := hcl e (by simp)
  have hput := RC.put (e' := ⟨e.k, e.v, false, e.p⟩) k1 k2 k3 k4 k5 hs 2 (.bool false) (by omega) rfl rfl
  subst hs
  have hfz := k2.frozenAt (p.length * 4 + 2)
  have HP := Lib.hid hput
  have HB := Lib.hid (And.intro hb h1)
  obtain ⟨N, hN⟩ : ∃ N, (p ++ e :: q).length = N := ⟨_, rfl⟩
  rw [hN] at r1 hpl k5
  have hpI : (p.length : Int) < (N : Int) := by omega
  clear hb h1 hcl hN k1 k2 k3 k4 hput
  obtain ⟨ed, hed⟩ : ∃ ed, e.d = ed := ⟨_, rfl⟩
  rw [hed] at d2
  have HE := Lib.hid hed
  clear hed
  cases ed with
  | true =>
    go_wp2_with (fail)
    go_ret
    exact ⟨by rw [HE.out]; rfl, HP.out.1, (stay HB.out.1).1.trans HP.out.2, fun k hk => .inl hk⟩
  | false =>
    go_wp2_with (fail)
    go_ret
    have e1 : (⟨e.k, e.v, false, e.p⟩ : EntI) = e := by rw [← HE.out]
    rw [e1]
    exact ⟨by rw [HE.out]; rfl, HB.out.2, stay HB.out.1⟩
end Go.Proofs.Ytaigbplidkakhaa
