/- Proved here: the document's cache: Get, Drop. -/
import Derived.Test.YtaigbplidkakhaaCRef2
namespace Go.Proofs.Ytaigbplidkakhaa
open Go.RowKit Go.ChangeMaps

theorem first_key {k : Int} : ∀ {P P' Q Q' : List EntI} {a a' : EntI}, P ++ a :: Q = P' ++ a' :: Q' → (∀ y ∈ P, y.k ≠ k) → a.k = k → (∀ y ∈ P', y.k ≠ k) → a'.k = k → P = P' ∧ a = a' ∧ Q = Q'
  | [], [], Q, Q', a, a', h, _, _, _, _ => by
    simp at h
    exact ⟨rfl, h.1, h.2⟩
  | [], b :: P', Q, Q', a, a', h, _, h2, h3, _ => by
    simp at h
    exact absurd (h.1 ▸ h2) (h3 b (by simp))
  | b :: P, [], Q, Q', a, a', h, h1, _, _, h4 => by
    simp at h
    exact absurd (h.1 ▸ h4) (h1 b (by simp))
  | b :: P, b' :: P', Q, Q', a, a', h, h1, h2, h3, h4 => by
    simp at h
    obtain ⟨e1, e2, e3⟩ := first_key h.2 (fun y hy => h1 y (by simp [hy])) h2 (fun y hy => h3 y (by simp [hy])) h4
    exact ⟨by rw [h.1, e1], e2, e3⟩
theorem findNone {F : Nat → Prop} {W : World} {R : Nat} {places : Int} {l : List EntI} (h : RC F W R places l) (hl : l.length ≤ 65536) (k : Int) (hn : ∀ e ∈ l, e.k ≠ k) :
    Calls Try.prog 58 #[PV R, .int .i64 k] W fun x W' => x = .returned (.int .i64 (-1)) ∧ Below W.heap.size W W' :=
  (refFind h hl k).mono fun x W' ⟨h1, hb⟩ => by
    rcases h1 with ⟨h1, _⟩ | ⟨p, e, q, rfl, h2, _⟩
    · exact ⟨h1, hb⟩
    · exact absurd h2 (hn e (by simp))
theorem findSome {F : Nat → Prop} {W : World} {R : Nat} {places : Int} {p q : List EntI} {e : EntI} (h : RC F W R places (p ++ e :: q)) (hl : (p ++ e :: q).length ≤ 65536) (k : Int) (he : e.k = k) (hn : ∀ y ∈ p, y.k ≠ k) :
    Calls Try.prog 58 #[PV R, .int .i64 k] W fun x W' => x = .returned (.int .i64 (p.length : Int)) ∧ Below W.heap.size W W' :=
  (refFind h hl k).mono fun x W' ⟨h1, hb⟩ => by
    rcases h1 with ⟨_, h1⟩ | ⟨p', e', q', h2, h3, h4, h5⟩
    · exact absurd he (h1 e (by simp))
    · obtain ⟨rfl, _, _⟩ := first_key h2 hn he h4 h3
      exact ⟨h5, hb⟩
theorem RC.row {F : Nat → Prop} {W : World} {R : Nat} {places : Int} {l : List EntI} (h : RC F W R places l) : ∃ q c, l.length ≤ c ∧ W.cell? ⟨R, 1, none⟩ = some (.slice q l.length c) ∧ W.cell? ⟨R, 0, none⟩ = some (.int .i64 places) ∧ (∀ j, W.frozen? ⟨R, j, none⟩ = false) ∧ W.ownsRow 0 76 4 (.slice q l.length c) l.length (entVs l) := by
  obtain ⟨q, c, h1, h2, h3, h4, h5⟩ := h
  refine ⟨q, c, h5, ?_, ?_, fun j => frozen_of_row _ _ _ _ _ h1, h2⟩ <;> (rw [cell_of_row _ _ _ _ _ _ h1]; rfl)
theorem stay {F : Nat → Prop} {W W' : World} (hb : Below W.heap.size W W') : Step F F W W' := ⟨(Tch.of_below (F := fun _ => False) hb).mono (fun _ h => h.elim), fun k hk => .inl hk⟩
theorem RC.below {F : Nat → Prop} {W W' : World} {R : Nat} {places : Int} {l : List EntI} (h : RC F W R places l) (hb : Below W.heap.size W W') : RC F W' R places l := h.tch (Tch.of_below (F := fun _ => False) hb) (fun _ _ => id)
theorem Step.cat {M M' M'' : Nat → Prop} {A B C : World} (s : Step M M' A B) (t : Step M' M'' B C) : Step M M'' A C :=
  ⟨s.1.join t.1 (fun j hj hm => (s.2 j hm).elim id (fun h => by omega)), fun k hk => by
    have h1 := s.1.size
    have h2 := t.1.size
    rcases t.2 k hk with h | h
    · rcases s.2 k h with h | h
      · exact .inl h
      · exact .inr ⟨h.1, by omega⟩
    · exact .inr ⟨by omega, h.2⟩⟩
theorem refGetNone {F : Nat → Prop} {W : World} {R : Nat} {places : Int} {l : List EntI} (h : RC F W R places l) (hl : l.length ≤ 65536) (k : Int) (hn : ∀ e ∈ l, e.k ≠ k) :
    Calls Try.prog 35 #[PV R, .int .i64 k] W fun x W' => x = .returned (.tuple #[.int .i64 0, .bool false]) ∧ RC F W' R places l ∧ Step F F W W' := by
  have HF := Lib.hid (findNone h hl k hn)
  have HH := Lib.hid h
  clear h hl hn
  go_enter Try.func35, Try.ntmps35
  go_wp2_with (fail)
  refine HF.out.mono ?_
  rintro x W1 ⟨rfl, hb⟩
  have HB := Lib.hid hb
  clear hb
  go_wp2_with (fail)
  go_returns
  exact ⟨rfl, HH.out.below HB.out, stay HB.out⟩
theorem refGetSome {F : Nat → Prop} {W : World} {R : Nat} {places : Int} {p q : List EntI} {e : EntI} (h : RC F W R places (p ++ e :: q)) (hF : ∀ k, F k → k < W.heap.size) (hl : (p ++ e :: q).length ≤ 65536) (k : Int) (he : e.k = k) (hn : ∀ y ∈ p, y.k ≠ k) :
    Calls Try.prog 35 #[PV R, .int .i64 k] W fun x W' => x = .returned (.tuple #[.int .i64 e.v, .bool true]) ∧ ∃ F', RC F' W' R places (p ++ q ++ [e]) ∧ Step F F' W W' := by
  have HF := Lib.hid (findSome h hl k he hn)
  have HH := Lib.hid (And.intro h (And.intro hF hl))
  clear h hF hl hn
  go_enter Try.func35, Try.ntmps35
  go_wp2_with (fail)
  refine HF.out.mono ?_
  rintro x W1 ⟨rfl, hb⟩
  have h1 := HH.out.1.below hb
  obtain ⟨s, c, hc, r1, _, _, ho⟩ := h1.row
  have hpl : p.length < (p ++ e :: q).length := by simp
  obtain ⟨g, rfl, hcl⟩ := RC.cells (F := F) (R := R) (places := places) ho hpl
  obtain ⟨d0, d1, d2, d3⟩ := hcl e (by simp)
  have HU := Lib.hid (refUsed h1 (fun k hk => Nat.lt_of_lt_of_le (HH.out.2.1 k hk) hb.size) HH.out.2.2)
  have HB := Lib.hid hb
  obtain ⟨N, hN⟩ : ∃ N, (p ++ e :: q).length = N := ⟨_, rfl⟩
  rw [hN] at r1 hpl hc
  have hpI : (p.length : Int) < (N : Int) := by omega
  clear hb h1 ho hcl hN
  go_wp2_with (fail)
  refine HU.out.mono ?_
  rintro x W2 ⟨rfl, F2, h2, s2⟩
  have H2 := Lib.hid (And.intro h2 s2)
  clear h2 s2 HU
  go_wp2_with (fail)
  go_returns
  exact ⟨rfl, F2, H2.out.1, (stay HB.out).cat H2.out.2⟩
theorem refDropNone {F : Nat → Prop} {W : World} {R : Nat} {places : Int} {l : List EntI} (h : RC F W R places l) (hl : l.length ≤ 65536) (k : Int) (hn : ∀ e ∈ l, e.k ≠ k) :
    Calls Try.prog 37 #[PV R, .int .i64 k] W fun x W' => x = .returned (.bool false) ∧ RC F W' R places l ∧ Step F F W W' := by
  have HF := Lib.hid (findNone h hl k hn)
  have HH := Lib.hid h
  clear h hl hn
  go_enter Try.func37, Try.ntmps37
  go_wp2_with (fail)
  refine HF.out.mono ?_
  rintro x W1 ⟨rfl, hb⟩
  have HB := Lib.hid hb
  clear hb
  go_wp2_with (fail)
  go_ret
  exact ⟨rfl, HH.out.below HB.out, stay HB.out⟩
theorem refDropSome {F : Nat → Prop} {W : World} {R : Nat} {places : Int} {p q : List EntI} {e : EntI} (h : RC F W R places (p ++ e :: q)) (hl : (p ++ e :: q).length ≤ 65536) (k : Int) (he : e.k = k) (hn : ∀ y ∈ p, y.k ≠ k) :
    Calls Try.prog 37 #[PV R, .int .i64 k] W fun x W' => x = .returned (.bool (decide (e.p = 0))) ∧ ∃ F', RC F' W' R places (if e.p = 0 then p ++ q else p ++ e :: q) ∧ Step F F' W W' := by
  have HF := Lib.hid (findSome h hl k he hn)
  have HH := Lib.hid (And.intro h hl)
  clear h hl hn
  go_enter Try.func37, Try.ntmps37
  go_wp2_with (fail)
  refine HF.out.mono ?_
  rintro x W1 ⟨rfl, hb⟩
  have h1 := HH.out.1.below hb
  obtain ⟨s, c, hc, r1, _, _, ho⟩ := h1.row
  have hpl : p.length < (p ++ e :: q).length := by simp
  obtain ⟨g, rfl, hcl⟩ := RC.cells (F := F) (R := R) (places := places) ho hpl
  obtain ⟨d0, d1, d2, d3⟩ := hcl e (by simp)
  have HU := Lib.hid (refOut h1 HH.out.2)
  have HB := Lib.hid (And.intro hb h1)
  obtain ⟨N, hN⟩ : ∃ N, (p ++ e :: q).length = N := ⟨_, rfl⟩
  rw [hN] at r1 hpl hc
  have hpI : (p.length : Int) < (N : Int) := by omega
  clear hb h1 ho hcl hN
  by_cases hp : e.p = 0
  · rw [hp] at d3
    go_wp2_with (fail)
    refine HU.out.mono ?_
    rintro x W2 ⟨rfl, F2, h2, s2⟩
    have H2 := Lib.hid (And.intro h2 s2)
    clear h2 s2 HU
    go_wp2_with (fail)
    go_ret
    exact ⟨rfl, F2, H2.out.1, (stay HB.out.1).cat H2.out.2⟩
  · have hpp : (0 : Int) < (e.p : Int) := by omega
    go_wp2_with (fail)
    go_ret
    exact ⟨rfl, F, HB.out.2, stay HB.out.1⟩
end Go.Proofs.Ytaigbplidkakhaa
