/- Proved here: the document's cache: Put of a key that is not there, where none may go. -/
import Derived.Test.YtaigbplidkakhaaCRef8
namespace Go.Proofs.Ytaigbplidkakhaa
open Go.RowKit Go.ChangeMaps

theorem step_one (j : Nat) (n : Nat) (hn : n ≤ 65536) (h : j < n) : wrap64 ((j : Int) + 1) = ((j + 1 : Nat) : Int) := by unfold wrap64; omega
set_option maxHeartbeats 2000000 in
theorem refPutFull {F : Nat → Prop} {W : World} {R : Nat} {places : Int} {l : List EntI} (h : RC F W R places l) (hl : l.length ≤ 65536) (k : Int) (hn : ∀ y ∈ l, y.k ≠ k) (hr : places ≤ (l.length : Int)) (hg : ∀ y ∈ l, y.goes = false) (v : Int) (d : Bool) :
    Calls Try.prog 36 #[PV R, .int .i64 k, .int .i64 v, .bool d] W fun x W' => x = .returned (.int .i64 4) ∧ RC F W' R places l ∧ Step F F W W' := by
  have HF := Lib.hid (findNone h hl k hn)
  have HH := Lib.hid (And.intro h hl)
  have HG := Lib.hid (show ∀ (j : Nat) (e : EntI), j < l.length → l[j]? = some e → e.goes = false from fun j e _ he => hg e (List.mem_of_getElem? he))
  clear h hl hn hg
  go_enter Try.func36, Try.ntmps36
  go_wp2_with (fail)
  refine HF.out.mono ?_
  rintro x W1 ⟨rfl, hb⟩
  have h1 := HH.out.1.below hb.drew
  obtain ⟨s, c, hc, q1, q0, _, ho⟩ := h1.row
  have HO := Lib.hid ho
  have HB := Lib.hid (And.intro hb.drew h1)
  obtain ⟨n, hnl⟩ : ∃ n, l.length = n := ⟨_, rfl⟩
  have HNL := Lib.hid hnl
  have HN := Lib.hid (show n ≤ 65536 by rw [← hnl]; exact HH.out.2)
  rw [hnl] at hr q1 hc
  have q1w : W1.cell? ⟨R, 1, none⟩ = some (.slice s n c) := q1
  have q0w : W1.cell? ⟨R, 0, none⟩ = some (.int .i64 places) := q0
  clear hb h1 ho hnl HF
  go_wp2_with (fail)
  go_region
  go_wp2_with (fail)
  go_loopw [10] (fun w0 wr => ∃ j : Nat, w0 = .int .i64 (j : Int) ∧ j ≤ n ∧ Hid' (wr = W1.drew)) (fun w0 _ => n - (intOf w0).toNat)
  case atStart => exact ⟨0, rfl, Nat.zero_le _, rfl⟩
  case round =>
    obtain ⟨j, rfl, hj, hw⟩ := hrel
    obtain rfl := hw.out
    by_cases hlt : j < n
    · obtain ⟨e1, he1⟩ : ∃ e1, l[j]? = some e1 := ⟨l[j]'(by have := HNL.out; omega), List.getElem?_eq_getElem _⟩
      obtain ⟨g1, hg1, hcl⟩ := RC.cells (F := F) (R := R) (places := places) HO.out (j := j) (by have := HNL.out; omega)
      obtain ⟨d0, d1, d2, d3⟩ := hcl e1 he1
      have hgo := HG.out j e1 (by have := HNL.out; omega) he1
      cases hg1
      have hstep := step_one j n HN.out hlt
      have hjI : (j : Int) < (n : Int) := by have := HNL.out; omega
      clear hcl he1 d0 d1
      obtain ⟨ed, hed⟩ : ∃ ed, e1.d = ed := ⟨_, rfl⟩
      rw [hed] at d2
      rw [EntI.goes, hed] at hgo
      clear hed
      cases ed with
      | true =>
        clear hgo d3
        go_wp2_with (fail)
        rw [hstep]
        exact ⟨⟨j + 1, rfl, by omega, trivial⟩, by show n - ((j + 1 : Nat) : Int).toNat < n - (j : Int).toNat; omega⟩
      | false =>
        have hpp : (0 : Int) < (e1.p : Int) := by
          simp at hgo
          omega
        clear hgo
        go_wp2_with (fail)
        rw [hstep]
        exact ⟨⟨j + 1, rfl, by omega, trivial⟩, by show n - ((j + 1 : Nat) : Int).toNat < n - (j : Int).toNat; omega⟩
    · obtain rfl : j = n := by omega
      go_wp2_with (fail)
      go_ret
      exact ⟨rfl, HB.out.2, stay HB.out.1⟩
set_option maxRecDepth 100000 in
set_option maxHeartbeats 4000000 in
theorem refPutEvict {F : Nat → Prop} {W : World} {R : Nat} {places : Int} {p q : List EntI} {e : EntI} (h : RC F W R places (p ++ e :: q)) (hl : (p ++ e :: q).length ≤ 65536) (k : Int) (hn : ∀ y ∈ p ++ e :: q, y.k ≠ k) (hr : places ≤ ((p ++ e :: q).length : Int)) (hg : ∀ y ∈ p, y.goes = false) (he : e.goes = true) (v : Int) (d : Bool) :
    Calls Try.prog 36 #[PV R, .int .i64 k, .int .i64 v, .bool d] W fun x W' => x = .returned (.int .i64 0) ∧ ∃ F', RC F' W' R places (p ++ q ++ [⟨k, v, d, 0⟩]) ∧ Step F F' W W' := by
  have HF := Lib.hid (findNone h hl k hn)
  have HH := Lib.hid (And.intro h hl)
  have HG := Lib.hid (show ∀ (j : Nat) (y : EntI), j < p.length → (p ++ e :: q)[j]? = some y → y.goes = false from fun j y hj hy => hg y (by
    rw [List.getElem?_append_left hj] at hy
    exact List.mem_of_getElem? hy))
  have HE := Lib.hid he
  clear h hl hn hg he
  go_enter Try.func36, Try.ntmps36
  go_wp2_with (fail)
  refine HF.out.mono ?_
  rintro x W1 ⟨rfl, hb⟩
  have h1 := HH.out.1.below hb.drew
  obtain ⟨s, c, hc, q1, q0, _, ho⟩ := h1.row
  have HO := Lib.hid ho
  have HB := Lib.hid (And.intro hb.drew h1)
  have HU := Lib.hid (refOut h1 HH.out.2)
  obtain ⟨n, hnl⟩ : ∃ n, (p ++ e :: q).length = n := ⟨_, rfl⟩
  have HNL := Lib.hid (And.intro hnl (show p.length < n by rw [← hnl]; simp))
  have HN := Lib.hid (show n ≤ 65536 by rw [← hnl]; exact HH.out.2)
  rw [hnl] at hr q1 hc
  have q1w : W1.cell? ⟨R, 1, none⟩ = some (.slice s n c) := q1
  have q0w : W1.cell? ⟨R, 0, none⟩ = some (.int .i64 places) := q0
  clear hb h1 ho hnl HF
  go_wp2_with (fail)
  go_region
  go_wp2_with (fail)
  go_loopw [10] (fun w0 wr => ∃ j : Nat, w0 = .int .i64 (j : Int) ∧ j ≤ p.length ∧ Hid' (wr = W1.drew)) (fun w0 _ => n - (intOf w0).toNat)
  case atStart => exact ⟨0, rfl, Nat.zero_le _, rfl⟩
  case round =>
    obtain ⟨j, rfl, hj, hw⟩ := hrel
    obtain rfl := hw.out
    by_cases hlt : j < p.length
    · obtain ⟨e1, he1⟩ : ∃ e1, (p ++ e :: q)[j]? = some e1 := ⟨(p ++ e :: q)[j]'(by have h7 := HNL.out.2; have h8 := HNL.out.1; omega), List.getElem?_eq_getElem _⟩
      obtain ⟨g1, hg1, hcl⟩ := RC.cells (F := F) (R := R) (places := places) HO.out (j := j) (by have h7 := HNL.out.2; have h8 := HNL.out.1; omega)
      obtain ⟨d0, d1, d2, d3⟩ := hcl e1 he1
      have hgo := HG.out j e1 hlt he1
      cases hg1
      have hstep := step_one j n HN.out (by have := HNL.out.2; omega)
      have hjI : (j : Int) < (n : Int) := by have := HNL.out.2; omega
      clear hcl he1 d0 d1
      obtain ⟨ed, hed⟩ : ∃ ed, e1.d = ed := ⟨_, rfl⟩
      rw [hed] at d2
      rw [EntI.goes, hed] at hgo
      clear hed
      cases ed with
      | true =>
        clear hgo d3
        go_wp2_with (fail)
        rw [hstep]
        exact ⟨⟨j + 1, rfl, by omega, trivial⟩, by have h7 := HNL.out.2; show n - ((j + 1 : Nat) : Int).toNat < n - (j : Int).toNat; omega⟩
      | false =>
        have hpp : (0 : Int) < (e1.p : Int) := by
          simp at hgo
          omega
        clear hgo
        go_wp2_with (fail)
        rw [hstep]
        exact ⟨⟨j + 1, rfl, by omega, trivial⟩, by have h7 := HNL.out.2; show n - ((j + 1 : Nat) : Int).toNat < n - (j : Int).toNat; omega⟩
    · obtain rfl : j = p.length := by omega
      obtain ⟨g1, hg1, hcl⟩ := RC.cells (F := F) (R := R) (places := places) HO.out (j := p.length) (by have h7 := HNL.out.2; have h8 := HNL.out.1; omega)
      obtain ⟨d0, d1, d2, d3⟩ := hcl e (by simp)
      have hge := HE.out
      simp only [EntI.goes, Bool.and_eq_true, Bool.not_eq_true', decide_eq_true_eq] at hge
      rw [hge.1] at d2
      rw [hge.2] at d3
      cases hg1
      have hjI : (p.length : Int) < (n : Int) := by have := HNL.out.2; omega
      clear hcl d0 d1 hge hj
      go_wp2_with (fail)
      refine HU.out.mono ?_
      rintro x W5 ⟨rfl, F5, h5, s5⟩
      have hl5 : (p ++ q).length ≤ 65536 := by have := HH.out.2; simp at this ⊢; omega
      obtain ⟨s, c, s', c', W6, z1, hrun, z4, zf, hfin⟩ := h5.more hl5 k v d
      have HRUN := Lib.hid hrun
      have HFIN := Lib.hid hfin
      have H5 := Lib.hid s5
      obtain ⟨n5, hn5⟩ : ∃ n5, (p ++ q).length = n5 := ⟨_, rfl⟩
      rw [hn5] at z1 z4 HRUN HFIN
      have z1b : (W5.alloc (.cells #[.int .i64 k, .int .i64 v, .bool d, .int .i64 0] 76)).cell? ⟨R, 1, none⟩ = some (.slice s n5 c) := bcell ((Below.refl _ W5).alloc (Nat.le_refl _) _) z1
      clear h5 s5 hl5 hrun hfin hn5 HU
      go_wp2_with (at_builtin; refine t_append_eq rfl (.tmp 99) (.tmp 104) 29 rfl _ _ _ _ (by rfl) (by rfl) HRUN.out ?_)
      go_ret
      obtain ⟨F', g1, g2⟩ := HFIN.out
      exact ⟨rfl, F', g1, ((stay HB.out.1).cat H5.out).cat g2⟩
end Go.Proofs.Ytaigbplidkakhaa
