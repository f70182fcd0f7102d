/- Proved here: of each call the program's cache and the document's answer alike, and stand alike behind it; how both stand side by side. -/
import Derived.Test.YtaigbplidkakhaaCRef9
namespace Go.Proofs.Ytaigbplidkakhaa
open Go.RowKit Go.ChangeMaps

theorem keyI' (k : Int) (h : -9223372036854775808 ≤ k ∧ k ≤ 9223372036854775807) : keyOf Try.prog 3 (.int .i64 k) = some (.int .i64 k) := by
  refine Maps.keyOf_int_mk Try.underlying3 ?_
  have e1 : IntKind.i64.min = -9223372036854775808 := rfl
  have e2 : IntKind.i64.max = 9223372036854775807 := rfl
  simp only [Lit.wf, Bool.and_eq_true, decide_eq_true_eq]
  omega
theorem key_split (k : Int) : ∀ l : List EntI, (∀ e ∈ l, e.k ≠ k) ∨ ∃ p e q, l = p ++ e :: q ∧ e.k = k ∧ ∀ y ∈ p, y.k ≠ k
  | [] => .inl (fun _ h => by simp at h)
  | a :: t => by
    by_cases ha : a.k = k
    · exact .inr ⟨[], a, t, rfl, ha, fun _ h => by simp at h⟩
    · rcases key_split k t with h | ⟨p, e, q, h1, h2, h3⟩
      · exact .inl (List.forall_mem_cons.2 ⟨ha, h⟩)
      · exact .inr ⟨a :: p, e, q, by rw [h1]; rfl, h2, List.forall_mem_cons.2 ⟨ha, h3⟩⟩
theorem goes_split : ∀ l : List EntI, (∀ e ∈ l, e.goes = false) ∨ ∃ p e q, l = p ++ e :: q ∧ (∀ y ∈ p, y.goes = false) ∧ e.goes = true
  | [] => .inl (fun _ h => by simp at h)
  | a :: t => by
    cases ha : a.goes with
    | true => exact .inr ⟨[], a, t, rfl, (fun _ h => by simp at h), ha⟩
    | false =>
      rcases goes_split t with h | ⟨p, e, q, h1, h2, h3⟩
      · exact .inl (List.forall_mem_cons.2 ⟨ha, h⟩)
      · exact .inr ⟨a :: p, e, q, by rw [h1]; rfl, List.forall_mem_cons.2 ⟨ha, h2⟩, h3⟩
/-- A call of the program's cache: its answer, and what stands behind it. -/
def PDo (fn : Nat) (ar : Nat → Array Value) (places : Int) (l l' : List EntI) (a : Value) : Prop :=
  ∀ (M : Nat → Prop) (W : World) (C nb : Nat), CSI M W C places nb l → nb ≤ 100000 → Calls Try.prog fn (ar C) W fun x W' => x = .returned a ∧ ∃ M' nb', nb' ≤ nb + 1 ∧ CSI M' W' C places nb' l' ∧ Step M M' W W'
def RDo (fn : Nat) (ar : Nat → Array Value) (places : Int) (l l' : List EntI) (a : Value) : Prop :=
  ∀ (F : Nat → Prop) (W : World) (R : Nat), RC F W R places l → (∀ k, F k → k < W.heap.size) → Calls Try.prog fn (ar R) W fun x W' => x = .returned a ∧ ∃ F', RC F' W' R places l' ∧ Step F F' W W'
theorem PDo.same {fn : Nat} {ar : Nat → Array Value} {places : Int} {l l' : List EntI} {a : Value} (h : ∀ (M : Nat → Prop) (W : World) (C nb : Nat), CSI M W C places nb l → Calls Try.prog fn (ar C) W fun x W' => x = .returned a ∧ CSI M W' C places nb l' ∧ Step M M W W') : PDo fn ar places l l' a :=
  fun M W C nb hc _ => (h M W C nb hc).mono (fun _ _ ⟨h1, h2, h3⟩ => ⟨h1, M, nb, by omega, h2, h3⟩)
theorem PDo.more {fn : Nat} {ar : Nat → Array Value} {places : Int} {l l' : List EntI} {a : Value} (h : ∀ (M : Nat → Prop) (W : World) (C nb : Nat), CSI M W C places nb l → nb < maxLen → Calls Try.prog fn (ar C) W fun x W' => x = .returned a ∧ ∃ M', CSI M' W' C places (nb + 1) l' ∧ Step M M' W W') : PDo fn ar places l l' a :=
  fun M W C nb hc hn => (h M W C nb hc (by unfold maxLen; omega)).mono (fun _ _ ⟨h1, M', h2, h3⟩ => ⟨h1, M', nb + 1, by omega, h2, h3⟩)
theorem RDo.same {fn : Nat} {ar : Nat → Array Value} {places : Int} {l l' : List EntI} {a : Value} (h : ∀ (F : Nat → Prop) (W : World) (R : Nat), RC F W R places l → (∀ k, F k → k < W.heap.size) → Calls Try.prog fn (ar R) W fun x W' => x = .returned a ∧ RC F W' R places l' ∧ Step F F W W') : RDo fn ar places l l' a :=
  fun F W R hc hF => (h F W R hc hF).mono (fun _ _ ⟨h1, h2, h3⟩ => ⟨h1, F, h2, h3⟩)
/-- Both calls answer alike and leave one list. -/
def Alike (fp fr : Nat) (ap ar : Nat → Array Value) (places : Int) (l l' : List EntI) (a : Value) : Prop :=
  PDo fp ap places l l' a ∧ RDo fr ar places l l' a ∧ ∀ B : Nat, (∀ e ∈ l, e.p ≤ B) → ∀ e ∈ l', e.p ≤ B + 1
theorem Alike.mk' {fp fr : Nat} {ap ar : Nat → Array Value} {places : Int} {l l' : List EntI} {a : Value} (h1 : PDo fp ap places l l' a) (h2 : RDo fr ar places l l' a) (h3 : ∀ B : Nat, (∀ e ∈ l, e.p ≤ B) → ∀ e ∈ l', e.p ≤ B + 1) : Alike fp fr ap ar places l l' a := ⟨h1, h2, h3⟩
theorem pins_same {l : List EntI} : ∀ B : Nat, (∀ e ∈ l, e.p ≤ B) → ∀ e ∈ l, e.p ≤ B + 1 := fun B h e he => Nat.le_succ_of_le (h e he)
theorem pins_sub {l l' : List EntI} (hs : ∀ e ∈ l', e ∈ l) : ∀ B : Nat, (∀ e ∈ l, e.p ≤ B) → ∀ e ∈ l', e.p ≤ B + 1 := fun B h e he => Nat.le_succ_of_le (h e (hs e he))
theorem pins_one {l l' : List EntI} {x y : EntI} (hy : y ∈ l) (hx : x.p ≤ y.p + 1) (hs : ∀ e ∈ l', e ∈ l ∨ e = x) : ∀ B : Nat, (∀ e ∈ l, e.p ≤ B) → ∀ e ∈ l', e.p ≤ B + 1 := fun B h e he => by
  rcases hs e he with h1 | rfl
  · exact Nat.le_succ_of_le (h e h1)
  · have := h y hy
    omega
theorem pins_new {l l' : List EntI} {x : EntI} (hx : x.p = 0) (hs : ∀ e ∈ l', e ∈ l ∨ e = x) : ∀ B : Nat, (∀ e ∈ l, e.p ≤ B) → ∀ e ∈ l', e.p ≤ B + 1 := fun B h e he => by
  rcases hs e he with h1 | rfl
  · exact Nat.le_succ_of_le (h e h1)
  · omega
theorem mem_swap {p q : List EntI} {e x y : EntI} (h : y ∈ p ++ x :: q) : y ∈ p ++ e :: q ∨ y = x := by
  simp only [List.mem_append, List.mem_cons] at h ⊢
  rcases h with h | h | h
  · exact .inl (.inl h)
  · exact .inr h
  · exact .inl (.inr (.inr h))
theorem mem_last {p q : List EntI} {e x y : EntI} (h : y ∈ p ++ q ++ [x]) : y ∈ p ++ e :: q ∨ y = x := by
  simp only [List.mem_append, List.mem_cons, List.mem_singleton] at h ⊢
  rcases h with (h | h) | h
  · exact .inl (.inl h)
  · exact .inl (.inr (.inr h))
  · rcases h with h | h
    · exact .inr h
    · cases h
theorem mem_less {p q : List EntI} {e y : EntI} (h : y ∈ p ++ q) : y ∈ p ++ e :: q := by
  simp only [List.mem_append, List.mem_cons] at h ⊢
  rcases h with h | h
  · exact .inl h
  · exact .inr (.inr h)
theorem both_get (places : Int) (hp : places ≤ 65536) (l : List EntI) (hl : l.length ≤ 65536) (hpin : ∀ e ∈ l, e.p ≤ 1000000) (k : Int) (hk : -9223372036854775808 ≤ k ∧ k ≤ 9223372036854775807) :
    ∃ (v : Int) (ok : Bool) (l' : List EntI), Alike 14 35 (fun C => #[PV C, .int .i64 k]) (fun R => #[PV R, .int .i64 k]) places l l' (.tuple #[.int .i64 v, .bool ok]) := by
  have hkey := keyI' k hk
  rcases key_split k l with h | ⟨p, e, q, rfl, he, hn⟩
  · exact ⟨0, false, l, .mk' (.same fun M W C nb hc => getNoneI hc k hkey h) (.same fun F W R hc _ => refGetNone hc hl k h) pins_same⟩
  · exact ⟨e.v, true, p ++ q ++ [e], .mk' (.same fun M W C nb hc => getSomeI hc k hkey he) (fun F W R hc hF => refGetSome hc hF hl k he hn) (pins_sub fun y hy => (mem_last (e := e) hy).elim id (fun h => by rw [h]; simp))⟩
theorem both_put (places : Int) (hp : places ≤ 65536) (l : List EntI) (hl : l.length ≤ 65536) (hpin : ∀ e ∈ l, e.p ≤ 1000000) (k : Int) (hk : -9223372036854775808 ≤ k ∧ k ≤ 9223372036854775807) (v : Int) (d : Bool) :
    ∃ (r : Int) (l' : List EntI), Alike 15 36 (fun C => #[PV C, .int .i64 k, .int .i64 v, .bool d]) (fun R => #[PV R, .int .i64 k, .int .i64 v, .bool d]) places l l' (.int .i64 r) := by
  have hkey := keyI' k hk
  rcases key_split k l with h | ⟨p, e, q, rfl, he, hn⟩
  · by_cases hr : (l.length : Int) < places
    · exact ⟨0, l ++ [⟨k, v, d, 0⟩], .mk' (.more fun M W C nb hc hnb => putRoomI hc k hkey h hr hp hnb v d) (fun F W R hc _ => refPutRoom hc hl k h hr v d) (pins_new (x := ⟨k, v, d, 0⟩) rfl (fun e he => by simpa using he))⟩
    · have hr' : places ≤ (l.length : Int) := by omega
      rcases goes_split l with hg | ⟨p, e, q, rfl, hg, he⟩
      · exact ⟨4, l, .mk' (.same fun M W C nb hc => putFullI hc k hkey h hr' hg v d) (.same fun F W R hc _ => refPutFull hc hl k h hr' hg v d) pins_same⟩
      · exact ⟨0, p ++ q ++ [⟨k, v, d, 0⟩], .mk' (.more fun M W C nb hc hnb => putEvictI hc k hkey h hr' hg he hnb v d) (fun F W R hc _ => refPutEvict hc hl k h hr' hg he v d) (pins_new (x := ⟨k, v, d, 0⟩) rfl (fun y hy => mem_last hy))⟩
  · exact ⟨0, p ++ q ++ [⟨k, v, e.d || d, e.p⟩], .mk' (.same fun M W C nb hc => putThereI hc k hkey he v d) (fun F W R hc hF => refPutThere hc hF hl k he hn v d) (pins_one (x := ⟨k, v, e.d || d, e.p⟩) (y := e) (by simp) (Nat.le_succ _) (fun y hy => mem_last hy))⟩
theorem both_drop (places : Int) (hp : places ≤ 65536) (l : List EntI) (hl : l.length ≤ 65536) (hpin : ∀ e ∈ l, e.p ≤ 1000000) (k : Int) (hk : -9223372036854775808 ≤ k ∧ k ≤ 9223372036854775807) :
    ∃ (ok : Bool) (l' : List EntI), Alike 22 37 (fun C => #[PV C, .int .i64 k]) (fun R => #[PV R, .int .i64 k]) places l l' (.bool ok) := by
  have hkey := keyI' k hk
  rcases key_split k l with h | ⟨p, e, q, rfl, he, hn⟩
  · exact ⟨false, l, .mk' (.same fun M W C nb hc => noneDrop hc k hkey h) (.same fun F W R hc _ => refDropNone hc hl k h) pins_same⟩
  · by_cases h0 : e.p = 0
    · refine ⟨true, p ++ q, .mk' (.same fun M W C nb hc => thereDrop1 hc k hkey he h0) (fun F W R hc _ => ?_) (pins_sub fun y hy => mem_less hy)⟩
      have h9 := refDropSome hc hl k he hn
      rw [decide_eq_true h0, if_pos h0] at h9
      exact h9
    · refine ⟨false, p ++ e :: q, .mk' (.same fun M W C nb hc => thereDrop0 hc k hkey he h0) (fun F W R hc _ => ?_) pins_same⟩
      have h9 := refDropSome hc hl k he hn
      rw [decide_eq_false h0, if_neg h0] at h9
      exact h9
theorem both_pin (places : Int) (hp : places ≤ 65536) (l : List EntI) (hl : l.length ≤ 65536) (hpin : ∀ e ∈ l, e.p ≤ 1000000) (k : Int) (hk : -9223372036854775808 ≤ k ∧ k ≤ 9223372036854775807) :
    ∃ (ok : Bool) (l' : List EntI), Alike 16 38 (fun C => #[PV C, .int .i64 k]) (fun R => #[PV R, .int .i64 k, .int .i64 1]) places l l' (.bool ok) := by
  have hkey := keyI' k hk
  rcases key_split k l with h | ⟨p, e, q, rfl, he, hn⟩
  · exact ⟨false, l, .mk' (.same fun M W C nb hc => nonePin hc k hkey h) (.same fun F W R hc _ => refPinNone hc hl k 1 h) pins_same⟩
  · have hb : e.p ≤ 1000000 := hpin e (by simp)
    exact ⟨true, p ++ ⟨e.k, e.v, e.d, e.p + 1⟩ :: q, .mk' (.same fun M W C nb hc => therePin hc k hkey he hb) (.same fun F W R hc _ => refPinUp hc hl k he hn hb) (pins_one (x := ⟨e.k, e.v, e.d, e.p + 1⟩) (y := e) (by simp) (Nat.le_refl _) (fun y hy => mem_swap hy))⟩
theorem both_unpin (places : Int) (hp : places ≤ 65536) (l : List EntI) (hl : l.length ≤ 65536) (hpin : ∀ e ∈ l, e.p ≤ 1000000) (k : Int) (hk : -9223372036854775808 ≤ k ∧ k ≤ 9223372036854775807) :
    ∃ (ok : Bool) (l' : List EntI), Alike 17 38 (fun C => #[PV C, .int .i64 k]) (fun R => #[PV R, .int .i64 k, .int .i64 (-1)]) places l l' (.bool ok) := by
  have hkey := keyI' k hk
  rcases key_split k l with h | ⟨p, e, q, rfl, he, hn⟩
  · exact ⟨false, l, .mk' (.same fun M W C nb hc => noneUnpin hc k hkey h) (.same fun F W R hc _ => refPinNone hc hl k (-1) h) pins_same⟩
  · have hb : e.p ≤ 1000000 := hpin e (by simp)
    by_cases h0 : e.p = 0
    · exact ⟨false, p ++ e :: q, .mk' (.same fun M W C nb hc => thereUnpin0 hc k hkey he h0) (.same fun F W R hc _ => refPinDown0 hc hl k he hn h0) pins_same⟩
    · exact ⟨true, p ++ ⟨e.k, e.v, e.d, e.p - 1⟩ :: q, .mk' (.same fun M W C nb hc => thereUnpin1 hc k hkey he h0 hb) (.same fun F W R hc _ => refPinDown1 hc hl k he hn (e.p - 1) (by omega) (by omega)) (pins_one (x := ⟨e.k, e.v, e.d, e.p - 1⟩) (y := e) (by simp) (by show e.p - 1 ≤ e.p + 1; omega) (fun y hy => mem_swap hy))⟩
theorem both_clean (places : Int) (hp : places ≤ 65536) (l : List EntI) (hl : l.length ≤ 65536) (hpin : ∀ e ∈ l, e.p ≤ 1000000) (k : Int) (hk : -9223372036854775808 ≤ k ∧ k ≤ 9223372036854775807) :
    ∃ (ok : Bool) (l' : List EntI), Alike 18 39 (fun C => #[PV C, .int .i64 k]) (fun R => #[PV R, .int .i64 k]) places l l' (.bool ok) := by
  have hkey := keyI' k hk
  rcases key_split k l with h | ⟨p, e, q, rfl, he, hn⟩
  · exact ⟨false, l, .mk' (.same fun M W C nb hc => noneClean hc k hkey h) (.same fun F W R hc _ => refCleanNone hc hl k h) pins_same⟩
  · cases hd : e.d with
    | false =>
      refine ⟨false, p ++ e :: q, .mk' (.same fun M W C nb hc => thereClean0 hc k hkey he hd) (.same fun F W R hc _ => ?_) pins_same⟩
      have h9 := refCleanSome hc hl k he hn
      rw [hd, show (⟨e.k, e.v, false, e.p⟩ : EntI) = e by rw [← hd]] at h9
      exact h9
    | true =>
      refine ⟨true, p ++ ⟨e.k, e.v, false, e.p⟩ :: q, .mk' (.same fun M W C nb hc => thereClean1 hc k hkey he hd) (.same fun F W R hc _ => ?_) (pins_one (x := ⟨e.k, e.v, false, e.p⟩) (y := e) (by simp) (Nat.le_succ _) (fun y hy => mem_swap hy))⟩
      have h9 := refCleanSome hc hl k he hn
      rw [hd] at h9
      exact h9
/-- Both caches side by side: the program's list, the document's. -/
structure PR (B : Nat) (W : World) (M F : Nat → Prop) (C R : Nat) (places : Int) (i : Nat) (lc lr : List EntI) : Prop where
  cs : ∃ nb, nb ≤ i ∧ CSI M W C places nb lc
  rc : RC F W R places lr
  mf : ∀ k, M k → ¬ F k
  mb : ∀ k, M k → B ≤ k ∧ k < W.heap.size
  fb : ∀ k, F k → B ≤ k ∧ k < W.heap.size
  le : B ≤ W.heap.size
/-- What a call leaves alone. -/
def Away (M F M' F' : Nat → Prop) (W W' : World) : Prop := ∀ k, k < W.heap.size → ¬ M k → ¬ F k → W'.heap[k]? = W.heap[k]? ∧ ¬ M' k ∧ ¬ F' k
theorem Away.cell {M F M' F' : Nat → Prop} {W W' : World} (h : Away M F M' F' W W') {a : Addr} {v : Value} (hm : ¬ M a.block) (hf : ¬ F a.block) (hc : W.cell? a = some v) : W'.cell? a = some v :=
  (World.cell?_of_block (h a.block (World.block_lt_of_cell? _ _ hc) hm hf).1).trans hc
theorem PR.below {B : Nat} {W W' : World} {M F : Nat → Prop} {C R : Nat} {places : Int} {i : Nat} {lc lr : List EntI} (h : PR B W M F C R places i lc lr) (hb : Below W.heap.size W W') : PR B W' M F C R places i lc lr :=
  ⟨by obtain ⟨nb, h1, h2⟩ := h.cs; exact ⟨nb, h1, h2.tch (Tch.of_below (F := fun _ => False) hb) (fun _ _ => id)⟩, h.rc.below hb, h.mf, fun k hk => ⟨(h.mb k hk).1, Nat.lt_of_lt_of_le (h.mb k hk).2 hb.size⟩, fun k hk => ⟨(h.fb k hk).1, Nat.lt_of_lt_of_le (h.fb k hk).2 hb.size⟩, Nat.le_trans h.le hb.size⟩
theorem PR.mono {B : Nat} {W : World} {M F : Nat → Prop} {C R : Nat} {places : Int} {i j : Nat} {lc lr : List EntI} (h : PR B W M F C R places i lc lr) (hij : i ≤ j) : PR B W M F C R places j lc lr :=
  ⟨by obtain ⟨nb, h1, h2⟩ := h.cs; exact ⟨nb, by omega, h2⟩, h.rc, h.mf, h.mb, h.fb, h.le⟩
theorem PR.prog {B : Nat} {W : World} {M F : Nat → Prop} {C R : Nat} {places : Int} {i : Nat} {l l' lr : List EntI} (h : PR B W M F C R places i l lr) (hi : i ≤ 99999) {fn : Nat} {ar : Nat → Array Value} {a : Value} (hP : PDo fn ar places l l' a) :
    Calls Try.prog fn (ar C) W fun x W' => x = .returned a ∧ ∃ M', PR B W' M' F C R places (i + 1) l' lr ∧ Below B W W' ∧ Away M F M' F W W' := by
  obtain ⟨nb, hn, hc⟩ := h.cs
  refine (hP M W C nb hc (by omega)).mono ?_
  rintro x W' ⟨h1, M', nb', h2, h3, h4⟩
  refine ⟨h1, M', ⟨⟨nb', by omega, h3⟩, h.rc.tch h4.1 (fun k hf hm => h.mf k hm hf), fun k hm hf => ?_, fun k hk => ?_, fun k hk => ⟨(h.fb k hk).1, Nat.lt_of_lt_of_le (h.fb k hk).2 h4.1.size⟩, Nat.le_trans h.le h4.1.size⟩, h4.1.below (fun k hk => (h.mb k hk).1) h.le, fun k hk hm hf => ⟨h4.1.block k hk hm, fun hm' => ?_, hf⟩⟩
  · rcases h4.2 k hm with e | e
    · exact h.mf k e hf
    · have := (h.fb k hf).2; omega
  · rcases h4.2 k hk with e | e
    · exact ⟨(h.mb k e).1, Nat.lt_of_lt_of_le (h.mb k e).2 h4.1.size⟩
    · exact ⟨Nat.le_trans h.le e.1, e.2⟩
  · rcases h4.2 k hm' with e | e
    · exact hm e
    · omega
theorem PR.refd {B : Nat} {W : World} {M F : Nat → Prop} {C R : Nat} {places : Int} {i : Nat} {l l' lc : List EntI} (h : PR B W M F C R places i lc l) {fn : Nat} {ar : Nat → Array Value} {a : Value} (hR : RDo fn ar places l l' a) :
    Calls Try.prog fn (ar R) W fun x W' => x = .returned a ∧ ∃ F', PR B W' M F' C R places i lc l' ∧ Below B W W' ∧ Away M F M F' W W' := by
  refine (hR F W R h.rc (fun k hk => (h.fb k hk).2)).mono ?_
  rintro x W' ⟨h1, F', h3, h4⟩
  obtain ⟨nb, hn, hc⟩ := h.cs
  refine ⟨h1, F', ⟨⟨nb, hn, hc.tch h4.1 (fun k hm hf => h.mf k hm hf)⟩, h3, fun k hm hf => ?_, fun k hk => ⟨(h.mb k hk).1, Nat.lt_of_lt_of_le (h.mb k hk).2 h4.1.size⟩, fun k hk => ?_, Nat.le_trans h.le h4.1.size⟩, h4.1.below (fun k hk => (h.fb k hk).1) h.le, fun k hk hm hf => ⟨h4.1.block k hk hf, hm, fun hf' => ?_⟩⟩
  · rcases h4.2 k hf with e | e
    · exact h.mf k hm e
    · have := (h.mb k hm).2; omega
  · rcases h4.2 k hk with e | e
    · exact ⟨(h.fb k e).1, Nat.lt_of_lt_of_le (h.fb k e).2 h4.1.size⟩
    · exact ⟨Nat.le_trans h.le e.1, e.2⟩
  · rcases h4.2 k hf' with e | e
    · exact hf e
    · omega
end Go.Proofs.Ytaigbplidkakhaa
