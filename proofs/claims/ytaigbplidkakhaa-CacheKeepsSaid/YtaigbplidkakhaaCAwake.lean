/- Proved here: the law's awake answers true; what a nil cache of ints answers to Drop, Pin, Unpin, Clean, Keys, Dirty. -/
import Derived.Test.YtaigbplidkakhaaCPut
namespace Go.Proofs.Ytaigbplidkakhaa
open Go.RowKit Go.ChangeMaps Go.Shelf

theorem keyS (k : ByteArray) (h : k.size ≤ maxLen) : keyOf Try.prog 9 (.string k) = some (.string k.data.toList) := by
  simp [keyOf, mapKey, Try.underlying9, h]
/-- What stands behind a few steps of a cache that has been made meanwhile. -/
def Since (W : World) (M : Nat → Prop) (W' : World) : Prop := Below W.heap.size W W' ∧ ∀ k, M k → W.heap.size ≤ k
theorem Since.step {W A B : World} {M M' : Nat → Prop} (h : Since W M A) (s : Step M M' A B) : Since W M' B :=
  ⟨h.1.trans (s.1.below (fun k hk => h.2 k hk) h.1.size), fun k hk => (s.2 k hk).elim (h.2 k) (fun e => Nat.le_trans h.1.size e.1)⟩
theorem nilDrop (k : Int) (W : World) : Calls Try.prog 22 #[.pointer none, .int .i64 k] W fun x W' => x = .returned (.bool false) ∧ W = W' := by
  go_enter Try.func22, Try.ntmps22
  go_wp2_with (fail)
  refine (find_nilI k W).mono ?_
  rintro x W1 ⟨rfl, rfl⟩
  go_wp2_with (fail)
  go_ret
  exact ⟨rfl, rfl⟩
theorem nilPin (k : Int) (W : World) : Calls Try.prog 16 #[.pointer none, .int .i64 k] W fun x W' => x = .returned (.bool false) ∧ W = W' := by
  go_enter Try.func16, Try.ntmps16
  go_wp2_with (fail)
  refine (find_nilI k W).mono ?_
  rintro x W1 ⟨rfl, rfl⟩
  go_wp2_with (fail)
  go_ret
  exact ⟨rfl, rfl⟩
theorem nilUnpin (k : Int) (W : World) : Calls Try.prog 17 #[.pointer none, .int .i64 k] W fun x W' => x = .returned (.bool false) ∧ W = W' := by
  go_enter Try.func17, Try.ntmps17
  go_wp2_with (fail)
  refine (find_nilI k W).mono ?_
  rintro x W1 ⟨rfl, rfl⟩
  go_wp2_with (fail)
  go_ret
  exact ⟨rfl, rfl⟩
theorem nilClean (k : Int) (W : World) : Calls Try.prog 18 #[.pointer none, .int .i64 k] W fun x W' => x = .returned (.bool false) ∧ W = W' := by
  go_enter Try.func18, Try.ntmps18
  go_wp2_with (fail)
  refine (find_nilI k W).mono ?_
  rintro x W1 ⟨rfl, rfl⟩
  go_wp2_with (fail)
  go_ret
  exact ⟨rfl, rfl⟩
set_option maxHeartbeats 1000000 in
theorem nilKeys (w : World) : Calls Try.prog 10 #[.pointer none] w fun x W' => x = .returned (.slice none 0 0) ∧ Below w.heap.size w W' := by
  refine (callsIn_wide (n := 4)).1 ?_
  refine callsIn_of_wp_marks Try.func10 rfl trivial ?_ rfl
  simp only [Try.ntmps10, List.size_toArray, List.length_cons, List.length_nil, Nat.reduceAdd, Nat.reduceSub, Array.replicate_succ, Array.replicate_zero, List.push_toArray, List.append_toArray, List.nil_append, List.cons_append]
  gi_wp2_with (refine ⟨trivial, ?_⟩; gi_at_call 40; refine (order_makeI Fence.wide _ trivial rfl _ _).mono ?_; rintro e w' ⟨rfl, rfl⟩)
  obtain ⟨W0, hW0⟩ : ∃ W0, (w.alloc (.cells #[.slice none 0 0] 36)).alloc (.cells #[.pointer none] 24) = W0 := ⟨_, rfl⟩
  have hs0 : W0.heap.size = w.heap.size + 2 := by rw [← hW0]; simp
  have hb0 : W0.heap[w.heap.size]? = some (.cells #[.slice none 0 0] 36 (0, 0)) := by
    rw [← hW0]; exact (Below.heap_alloc _ _ _ (by simp)).trans (World.alloc_heap_new w _)
  have hb1 : W0.heap[w.heap.size + 1]? = some (.cells #[.pointer none] 24 (0, 0)) := by
    rw [← hW0]; have := World.alloc_heap_new (w.alloc (.cells #[.slice none 0 0] 36)) (.cells #[.pointer none] 24); rwa [World.size_alloc] at this
  have hB0 : Below w.heap.size w W0 := by
    rw [← hW0]; exact ((Below.refl _ _).alloc (Nat.le_refl _) _).alloc (by simp) _
  rw [hW0]
  refine wpIn_rangeFunc_ownG rfl (by omega) (gf := 61) (lb := #[PV (w.heap.size + 1)]) rfl trivial (enters_of Try.func61 (by kernel_rfl) rfl)
    (order_nilI Fence.wide _ trivial rfl (w.heap.size + 1) (fun _ _ => True) W0 hb1) (fun _ _ => trivial) (fun _ _ _ _ _ _ _ _ => trivial) (Below.refl _ _) (fun x => x.elim)
    (fun _ W => W.heap[w.heap.size]? = some (.cells #[.slice none 0 0] 36 (0, 0)) ∧ Below w.heap.size w W)
    (fun _ _ _ => False)
    (fun s A B row hs hg hr => ⟨heap_kept hs.1 hg (fun r e => (hr r e).2), hs.2.grown hg hs.2.size (fun k e => by have := (hr k e).1; omega)⟩)
    (fun _ _ _ _ _ hs _ _ => hs)
    ⟨hb0, hB0⟩
    (fun x => x.elim) ?assign ?body ?done ?stop
  case assign =>
    intro l x
    exact x.elim
  case body =>
    intro l pre x
    exact x.elim
  case done =>
    rintro D xs W hD hx ⟨hw0, hB⟩ hK
    have hc0 : W.cell? ⟨w.heap.size, 0, none⟩ = some (.slice none 0 0) := by rw [cell_of_row _ _ _ _ _ _ hw0]; rfl
    clear hw0 hb0 hb1 hB0 hW0
    gi_wp2
    refine ⟨by simp, .inl ⟨_, _, rfl, run_takeDeferred hK, ?_⟩⟩
    refine ⟨.slice none 0 0, ?_, rfl, hB.grown (grownBy_putObj' _ D (.deferred none)) hB.size (fun k e => by cases e; omega)⟩
    simp [results, Try.f10, go_sem]
  case stop =>
    rintro D c pre W hD hp h hK
    exact h.elim
set_option maxHeartbeats 1000000 in
theorem nilDirty (w : World) : Calls Try.prog 12 #[.pointer none] w fun x W' => x = .returned (.slice none 0 0) ∧ Below w.heap.size w W' := by
  refine (callsIn_wide (n := 4)).1 ?_
  refine callsIn_of_wp_marks Try.func12 rfl trivial ?_ rfl
  simp only [Try.ntmps12, List.size_toArray, List.length_cons, List.length_nil, Nat.reduceAdd, Nat.reduceSub, Array.replicate_succ, Array.replicate_zero, List.push_toArray, List.append_toArray, List.nil_append, List.cons_append]
  gi_wp2_with (refine ⟨trivial, ?_⟩; gi_at_call 40; refine (order_makeI Fence.wide _ trivial rfl _ _).mono ?_; rintro e w' ⟨rfl, rfl⟩)
  obtain ⟨W0, hW0⟩ : ∃ W0, (w.alloc (.cells #[.slice none 0 0] 36)).alloc (.cells #[.pointer none] 24) = W0 := ⟨_, rfl⟩
  have hs0 : W0.heap.size = w.heap.size + 2 := by rw [← hW0]; simp
  have hb0 : W0.heap[w.heap.size]? = some (.cells #[.slice none 0 0] 36 (0, 0)) := by
    rw [← hW0]; exact (Below.heap_alloc _ _ _ (by simp)).trans (World.alloc_heap_new w _)
  have hb1 : W0.heap[w.heap.size + 1]? = some (.cells #[.pointer none] 24 (0, 0)) := by
    rw [← hW0]; have := World.alloc_heap_new (w.alloc (.cells #[.slice none 0 0] 36)) (.cells #[.pointer none] 24); rwa [World.size_alloc] at this
  have hB0 : Below w.heap.size w W0 := by
    rw [← hW0]; exact ((Below.refl _ _).alloc (Nat.le_refl _) _).alloc (by simp) _
  rw [hW0]
  refine wpIn_rangeFunc_ownG rfl (by omega) (gf := 61) (lb := #[PV (w.heap.size + 1)]) rfl trivial (enters_of Try.func61 (by kernel_rfl) rfl)
    (order_nilI Fence.wide _ trivial rfl (w.heap.size + 1) (fun _ _ => True) W0 hb1) (fun _ _ => trivial) (fun _ _ _ _ _ _ _ _ => trivial) (Below.refl _ _) (fun x => x.elim)
    (fun _ W => W.heap[w.heap.size]? = some (.cells #[.slice none 0 0] 36 (0, 0)) ∧ Below w.heap.size w W)
    (fun _ _ _ => False)
    (fun s A B row hs hg hr => ⟨heap_kept hs.1 hg (fun r e => (hr r e).2), hs.2.grown hg hs.2.size (fun k e => by have := (hr k e).1; omega)⟩)
    (fun _ _ _ _ _ hs _ _ => hs)
    ⟨hb0, hB0⟩
    (fun x => x.elim) ?assign ?body ?done ?stop
  case assign =>
    intro l x
    exact x.elim
  case body =>
    intro l pre x
    exact x.elim
  case done =>
    rintro D xs W hD hx ⟨hw0, hB⟩ hK
    have hc0 : W.cell? ⟨w.heap.size, 0, none⟩ = some (.slice none 0 0) := by rw [cell_of_row _ _ _ _ _ _ hw0]; rfl
    clear hw0 hb0 hb1 hB0 hW0
    gi_wp2
    refine ⟨by simp, .inl ⟨_, _, rfl, run_takeDeferred hK, ?_⟩⟩
    refine ⟨.slice none 0 0, ?_, rfl, hB.grown (grownBy_putObj' _ D (.deferred none)) hB.size (fun k e => by cases e; omega)⟩
    simp [results, Try.f12, go_sem]
  case stop =>
    rintro D c pre W hD hp h hK
    exact h.elim

theorem awake_any (W : World) : Calls Try.prog 6 #[] W fun x W' => x = .returned (.bool true) ∧ Below W.heap.size W W' := by
  go_enter Try.func6, Try.ntmps6
  go_wp2_with (fail)
  refine (newS 2 (by decide) (by decide) W).mono ?_
  rintro x W1 ⟨C, rfl, s1, b1⟩
  have H1 := Lib.hid (And.intro s1 (show Since W (fun k => W.heap.size ≤ k ∧ k < W1.heap.size) W1 from ⟨b1, fun k hk => hk.1⟩))
  clear s1 b1
  go_wp2_with (fail)
  refine (putRoomS H1.out.1 ⟨#[97]⟩ (keyS _ (by decide)) (by simp) (by simp) (by decide) (by decide) 1 false).mono ?_
  rintro x W2 ⟨rfl, M2, s2, t2⟩
  have H2 := Lib.hid (And.intro s2 (H1.out.2.step t2))
  clear s2 t2
  go_wp2_with (fail)
  refine (putRoomS H2.out.1 ⟨#[98]⟩ (keyS _ (by decide)) (by simp) (by simp) (by decide) (by decide) 2 false).mono ?_
  rintro x W3 ⟨rfl, M3, s3, t3⟩
  have H3 := Lib.hid (And.intro s3 (H2.out.2.step t3))
  clear s3 t3
  go_wp2_with (fail)
  refine (getSomeS (p := []) (q := [⟨⟨#[98]⟩, 2, false, 0⟩]) (e := ⟨⟨#[97]⟩, 1, false, 0⟩) H3.out.1 ⟨#[97]⟩ (keyS _ (by decide)) rfl).mono ?_
  rintro x W4 ⟨rfl, s4, t4⟩
  have H4 := Lib.hid (And.intro s4 (H3.out.2.step t4))
  clear s4 t4
  go_wp2_with (fail)
  refine (putEvictS (p := []) (q := [⟨⟨#[97]⟩, 1, false, 0⟩]) (e := ⟨⟨#[98]⟩, 2, false, 0⟩) H4.out.1 ⟨#[99]⟩ (keyS _ (by decide)) (by simp) (by simp) (by simp) rfl (by decide) 3 false).mono ?_
  rintro x W5 ⟨rfl, M5, s5, t5⟩
  have H5 := Lib.hid (And.intro s5 (H4.out.2.step t5))
  clear s5 t5
  go_wp2_with (fail)
  refine (getNoneS H5.out.1 ⟨#[98]⟩ (keyS _ (by decide)) (by simp)).mono ?_
  rintro x W6 ⟨rfl, s6, t6⟩
  have H6 := Lib.hid (And.intro s6 (H5.out.2.step t6))
  clear s6 t6
  go_wp2_with (fail)
  refine (lenS H6.out.1).mono ?_
  rintro x W7 ⟨rfl, rfl⟩
  go_wp2_with (fail)
  go_ret
  exact ⟨rfl, H6.out.2.1⟩
end Go.Proofs.Ytaigbplidkakhaa
