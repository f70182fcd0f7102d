/- Proved here: makePlace takes the first entry out that may go, or says that none may. -/
import Derived.Test.YtaigbplidkakhaaCOps
import Derived.Test.YtaigbplidkakhaaCIter
namespace Go.Proofs.Ytaigbplidkakhaa
open Go.RowKit Go.ChangeMaps Go.Shelf
attribute [local go_sem] Oper.semAt_some

def Goes (y : EntV) : Bool := !y.d && decide (y.p = 0)
theorem heap_kept {W W' : World} {row : Option Nat} {k : Nat} {c : Array Value} {t : TypeId} {z : Nat × Nat} (h : W.heap[k]? = some (.cells c t z)) (hg : W.grownBy W' row) (hr : ∀ r, row = some r → ∃ o : Obj, W.heap[r]? = some o ∧ o.isCells = false) : W'.heap[k]? = some (.cells c t z) := (grownBy_keeps_cells hg hr h rfl).trans h
theorem Tch.setOut {F : Nat → Prop} {a b : World} (h : Tch F a b) {p : Addr} (hp : a.heap.size ≤ p.block) (v : Value) : Tch F a (b.setCell p v) :=
  ⟨h.os, h.tape, h.output, by rw [set_sz]; exact h.size, fun k hk hn => (set_oth (by omega)).trans (h.block k hk hn)⟩
theorem Tch.grown {F : Nat → Prop} {a b c : World} {row : Option Nat} (h : Tch F a b) (hg : b.grownBy c row) (hr : ∀ r, row = some r → a.heap.size ≤ r) : Tch F a c :=
  ⟨hg.os.trans h.os, hg.tape.trans h.tape, hg.output.trans h.output, Nat.le_trans h.size hg.size, fun k hk hn => (hg.block k (Nat.lt_of_lt_of_le hk h.size) (fun e => by have := hr k e.symm; omega)).trans (h.block k hk hn)⟩
theorem CAt.grown {P : Program} {E T K : TypeId} {W W' : World} {C r m nb B0 : Nat} {places : Int} {L L' : List Nat} {B : Nat → EntV} {nx pv : Nat → Nat} {f : Lit → Option Nat} {row : Option Nat} (h : CAt P E T K W C r m places nb L B nx pv f) (hM : ∀ k, Mine C r m L' k → k < B0) (hLL : ∀ k ∈ L, k ∈ L') (hg : W.grownBy W' row) (hr : ∀ r, row = some r → B0 ≤ r) : CAt P E T K W' C r m places nb L B nx pv f :=
  h.same (fun k hk => hg.block k (h.lt k hk) (fun e => by
    have h1 := hr k e.symm
    have h2 := hM k (by
      rcases hk with hk | hk | hk
      · exact .inl hk
      · exact .inr (.inl hk)
      · refine .inr (.inr ?_)
        rcases List.mem_cons.1 hk with hk | hk
        · rw [hk]; simp
        · exact List.mem_cons_of_mem _ (hLL k hk))
    omega))
theorem erase_at {p q : List Nat} {a : Nat} (hn : (p ++ a :: q).Nodup) : (p ++ a :: q).erase a = p ++ q := by
  have ha : a ∉ p := fun hm => by
    rw [List.nodup_append] at hn
    exact hn.2.2 a hm a List.mem_cons_self rfl
  rw [List.erase_append_right _ ha, List.erase_cons_head]
set_option maxRecDepth 100000 in
set_option maxHeartbeats 4000000 in
theorem makePlaceS (w : World) {C r m nb : Nat} {places : Int} {L : List Nat} {B : Nat → EntV} {nx pv : Nat → Nat} {f : Lit → Option Nat} (h : CAt Try.prog 98 95 9 w C r m places nb L B nx pv f) (hkv : ∀ x ∈ L, ∃ k : ByteArray, (B x).k = .string k) (hlen : L.length ≤ 65536) :
    Calls Try.prog 55 #[PV C] w fun x W' =>
      (x = .returned (.bool true) ∧ ∃ p a q, L = p ++ a :: q ∧ (∀ y ∈ p, Goes (B y) = false) ∧ Goes (B a) = true ∧ (∃ nx' pv' kl, keyOf Try.prog 9 (B a).k = some kl ∧ CAt Try.prog 98 95 9 W' C r m places nb (p ++ q) B nx' pv' (updO f kl none)) ∧ Tch (Mine C r m L) w W') ∨
      (x = .returned (.bool false) ∧ (∀ y ∈ L, Goes (B y) = false) ∧ Below w.heap.size w W') := by
  have hnL : L.Nodup := (List.nodup_cons.1 h.ring.nodup).2
  have hlt := h.lt
  refine (callsIn_wide (n := 4)).1 ?_
  refine callsIn_of_wp_marks Try.func55 rfl trivial ?_ rfl
  simp only [Try.ntmps55, List.size_toArray, List.length_cons, List.length_nil, Nat.reduceAdd, Nat.reduceSub, Array.replicate_succ, Array.replicate_zero, List.push_toArray, List.append_toArray, List.nil_append, List.cons_append]
  gi_wp2_with (refine ⟨trivial, ?_⟩; gi_at_call 72; refine (order_makeS Fence.wide _ trivial rfl _ _).mono ?_; rintro e w' ⟨rfl, rfl⟩)
  obtain ⟨W0, hW0⟩ : ∃ W0, ((w.alloc (.cells #[PV C] 58)).alloc (.cells #[.bool false] 4)).alloc (.cells #[PV C] 58) = W0 := ⟨_, rfl⟩
  have hs0 : W0.heap.size = w.heap.size + 3 := by rw [← hW0]; simp
  have hb0 : W0.heap[w.heap.size]? = some (.cells #[PV C] 58 (0, 0)) := by
    rw [← hW0]; exact ((Below.heap_alloc _ _ _ (by simp; omega)).trans (Below.heap_alloc _ _ _ (by simp))).trans (World.alloc_heap_new w _)
  have hb1 : W0.heap[w.heap.size + 1]? = some (.cells #[.bool false] 4 (0, 0)) := by
    rw [← hW0]; refine (Below.heap_alloc _ _ _ (by simp)).trans ?_
    have := World.alloc_heap_new (w.alloc (.cells #[PV C] 58)) (.cells #[.bool false] 4); rwa [World.size_alloc] at this
  have hb2 : W0.heap[w.heap.size + 1 + 1]? = some (.cells #[PV C] 58 (0, 0)) := by
    rw [← hW0]; have := World.alloc_heap_new ((w.alloc (.cells #[PV C] 58)).alloc (.cells #[.bool false] 4)) (.cells #[PV C] 58); rwa [World.size_alloc, World.size_alloc] at this
  have hB0 : Below w.heap.size w W0 := by
    rw [← hW0]; exact (((Below.refl _ _).alloc (Nat.le_refl _) _).alloc (by simp) _).alloc (by simp; omega) _
  rw [hW0]
  refine wpIn_rangeFunc_ownG rfl (by omega) (gf := 80) (lb := #[PV (w.heap.size + 1 + 1)]) rfl trivial (enters_of Try.func80 (by kernel_rfl) rfl)
    (order_stopsS Fence.wide _ trivial rfl (by omega) (w.heap.size + 1 + 1) W0.heap.size (fun _ => False) W0 hb2 ⟨by omega, id⟩ (h.below hB0) (fun k hk => ⟨by have := hlt k hk; omega, id⟩)) kx_t (kx_b (Nat.le_refl _)) (Below.refl _ _) (fun _ => rfl)
    (fun pre W => (∀ y ∈ pre, Goes (B y.1) = false) ∧ W.heap[w.heap.size]? = some (.cells #[PV C] 58 (0, 0)) ∧ W.heap[w.heap.size + 1]? = some (.cells #[.bool false] 4 (0, 0)) ∧ Below w.heap.size w W)
    (fun c pre W => c = .ret ∧ ∃ pre' a, pre = pre' ++ [a] ∧ (∀ y ∈ pre', Goes (B y.1) = false) ∧ Goes (B a.1) = true ∧ (∃ nx' pv' kl, keyOf Try.prog 9 (B a.1).k = some kl ∧ CAt Try.prog 98 95 9 W C r m places nb (L.erase a.1) B nx' pv' (updO f kl none)) ∧ Tch (Mine C r m L) w W ∧ W.heap[w.heap.size + 1]? = some (.cells #[.bool true] 4 (0, 0)))
    (fun s A B row hs hg hr => ⟨hs.1, heap_kept hs.2.1 hg (fun r e => (hr r e).2), heap_kept hs.2.2.1 hg (fun r e => (hr r e).2), hs.2.2.2.grown hg hs.2.2.2.size (fun k e => by have := (hr k e).1; omega)⟩)
    (fun c s A B row hs hg hr => by
      obtain ⟨rfl, pre', a, e1, h1, h2, ⟨nx', pv', kl, h3, h4⟩, h5, h6⟩ := hs
      exact ⟨rfl, pre', a, e1, h1, h2, ⟨nx', pv', kl, h3, h4.grown (L' := L) (B0 := W0.heap.size) (fun k hk => by have := hlt k hk; omega) (fun k hk => List.mem_of_mem_erase hk) hg (fun r e => (hr r e).1)⟩, h5.grown hg (fun r e => by have := (hr r e).1; omega), heap_kept h6 hg (fun r e => (hr r e).2)⟩)
    ⟨by simp, hb0, hb1, hB0⟩
    (fun x => { tmps := #[PV C, .pointer (some ⟨w.heap.size, 0, none⟩), .pointer (some ⟨w.heap.size + 1, 0, none⟩), PV x.1, PV C, .func (.func 80) #[] #[PV (w.heap.size + 1 + 1)], PV x.1, undef, undef, undef, undef, undef], defers := [] }) ?assign ?body ?done ?stop
  case assign =>
    intro l x W K hK
    gi_wp2
    exact hK
  case body =>
    rintro l pre x W ⟨hp, hw0, hw1, hB⟩ _
    obtain ⟨xx, hxL⟩ := x
    have hS := h.below hB
    obtain ⟨p, q, hL⟩ := List.append_of_mem hxL
    obtain ⟨k, hk⟩ := hkv xx hxL
    obtain ⟨kl, hkl, _⟩ := hS.keyed xx hxL
    have hm := mayGo_anyS W xx (B xx) _ _ (hS.nodes xx (List.mem_cons_of_mem _ hxL))
    have ht := take_anyS hS hL k hk (kl := kl) (by rw [← hk]; exact hkl) hlen
    have hE : L.erase xx = p ++ q := by rw [hL] at hnL ⊢; exact erase_at hnL
    obtain ⟨g, hg⟩ : ∃ g, (!(B xx).d && decide ((B xx).p = 0)) = g := ⟨_, rfl⟩
    rw [hg] at hm
    have hc0 : W.cell? ⟨w.heap.size, 0, none⟩ = some (PV C) := by rw [cell_of_row _ _ _ _ _ _ hw0]; rfl
    have HM := Lib.hid hm
    have HT := Lib.hid ht
    have HH := Lib.hid (And.intro hp (And.intro hw0 (And.intro hw1 (And.intro hB (And.intro hE (And.intro hg (And.intro hkl hlt)))))))
    have hsz := hs0
    clear hm ht hp hw0 hw1 hB hE hg hkl hlt hS h hL hk hkv hb0 hb1 hb2 hB0 hW0 hnL
    cases g with
    | false =>
      gi_wp2_with (refine ⟨trivial, ?_⟩; gi_at_call 73; refine (CallsIn.inRound l (callsIn_wide.2 HM.out)).mono ?_; rintro e w' ⟨rfl, rfl⟩)
      refine ⟨KeepsFrom.refl _ _, fun _ _ _ => rfl, fun y hy => ?_, HH.out.2.1, HH.out.2.2.1, HH.out.2.2.2.1⟩
      rcases List.mem_append.1 hy with hy | hy
      · exact HH.out.1 y hy
      · rw [List.mem_singleton.1 hy]; exact HH.out.2.2.2.2.2.1
    | true =>
      gi_wp2_with (first | (refine ⟨trivial, ?_⟩; gi_at_call 73; refine (CallsIn.inRound l (callsIn_wide.2 HM.out)).mono ?_; rintro e w' ⟨rfl, rfl⟩) | (refine ⟨trivial, ?_⟩; gi_at_call 74; refine (CallsIn.inRound l (callsIn_wide.2 HT.out)).mono ?_; rintro e W4 ⟨rfl, ⟨nx', pv', h4⟩, ht4⟩; have r1 : W4.heap[w.heap.size + 1]? = some (.cells #[.bool false] 4 (0, 0)) := (ht4.block _ (heap_lt HH.out.2.2.1) (fun hk => by have := HH.out.2.2.2.2.2.2.2 _ hk; omega)).trans HH.out.2.2.1; have rc : W4.cell? ⟨w.heap.size + 1, 0, none⟩ = some (.bool false) := (by rw [cell_of_row _ _ _ _ _ _ r1]; rfl); have rf : W4.frozen? ⟨w.heap.size + 1, 0, none⟩ = false := frozen_of_row _ _ _ _ _ r1; have H4 := Lib.hid (And.intro h4 (And.intro ht4 r1)); clear h4 ht4 r1))
      obtain ⟨h4, ht4, r1⟩ := H4.out
      obtain ⟨_, hw0, hw1, hB, hE, hg, hkl, hlt⟩ := HH.out
      refine ⟨⟨by simpa using ht4.size, fun j o hj ho hno => ?_⟩, rfl, pre, ⟨xx, hxL⟩, rfl, HH.out.1, hg, ⟨nx', pv', kl, hkl, ?_⟩, ?_, ?_⟩
      · exact (set_oth (by show j ≠ w.heap.size + 1; omega)).trans ((ht4.block j (heap_lt ho) (fun hk => by have := hlt _ hk; omega)).trans ho)
      · show CAt _ _ _ _ _ _ _ _ _ _ (L.erase xx) _ _ _ _
        rw [hE]
        exact h4.same (fun j hj => set_oth (by
          have : j < w.heap.size := hlt j (by
            rcases hj with hj | hj | hj
            · exact .inl hj
            · exact .inr (.inl hj)
            · refine .inr (.inr ?_)
              rw [← hE] at hj
              rcases List.mem_cons.1 hj with hj | hj
              · rw [hj]; simp
              · exact List.mem_cons_of_mem _ (List.mem_of_mem_erase hj))
          show j ≠ w.heap.size + 1
          omega))
      · exact Tch.setOut ((Tch.of_below hB).trans ht4) (by show w.heap.size ≤ w.heap.size + 1; omega) _
      · rw [row_put _ r1]; rfl
  case done =>
    rintro D xs W hD hx ⟨hp, hw0, hw1, hB⟩ hK
    have hc1 : W.cell? ⟨w.heap.size + 1, 0, none⟩ = some (.bool false) := by rw [cell_of_row _ _ _ _ _ _ hw1]; rfl
    have hf1 : W.frozen? ⟨w.heap.size + 1, 0, none⟩ = false := frozen_of_row _ _ _ _ _ hw1
    have HH := Lib.hid (And.intro hx (And.intro hp (And.intro hw1 hB)))
    clear hx hp hw1 hB hw0 h hkv hb0 hb1 hb2 hB0 hW0 hnL
    gi_wp2
    obtain ⟨hx, hp, hw1, hB⟩ := HH.out
    have hK' := (KeepsOthers.setCell W ⟨w.heap.size + 1, 0, none⟩ (.bool false)).same D _ hK rfl
    refine ⟨by simp, .inl ⟨_, _, rfl, run_takeDeferred hK', ?_⟩⟩
    have hc5 := cell_kept (World.cell?_setCell_same' W ⟨w.heap.size + 1, 0, none⟩ (.bool false) (by rw [hc1]; rfl)) (grownBy_putObj' _ D (.deferred none)) (fun r e => by cases e; exact ⟨_, hK', rfl⟩)
    refine ⟨.bool false, ?_, .inr ⟨rfl, fun y hy => ?_, ?_⟩⟩
    · simp [results, Try.f55, go_sem, hc5]
    · rw [← hx] at hy
      obtain ⟨z, hz, rfl⟩ := List.mem_map.1 hy
      exact hp z hz
    · exact (hB.setCell (p := ⟨w.heap.size + 1, 0, none⟩) (by show w.heap.size ≤ w.heap.size + 1; omega) _).grown (grownBy_putObj' _ D (.deferred none)) (by simpa using hB.size) (fun k e => by cases e; omega)
  case stop =>
    rintro D c pre W hD hp ⟨rfl, pre', a, e1, h1, h2, ⟨nx', pv', kl, h3, h4⟩, h5, h6⟩ hK
    have hc1 : W.cell? ⟨w.heap.size + 1, 0, none⟩ = some (.bool true) := by rw [cell_of_row _ _ _ _ _ _ h6]; rfl
    have HH := Lib.hid (And.intro hp (And.intro e1 (And.intro h1 (And.intro h2 (And.intro h3 (And.intro h4 h5))))))
    have HN := Lib.hid hnL
    have HL := Lib.hid hlt
    clear hp e1 h1 h2 h3 h4 h5 h6 h hkv hb0 hb1 hb2 hB0 hW0 hnL hlt
    gi_wp2
    obtain ⟨hp, e1, h1, h2, h3, h4, h5⟩ := HH.out
    refine ⟨by simp, .inl ⟨_, _, rfl, run_takeDeferred hK, ?_⟩⟩
    have hc5 := cell_kept hc1 (grownBy_putObj' _ D (.deferred none)) (fun r e => by cases e; exact ⟨_, hK, rfl⟩)
    obtain ⟨t, ht⟩ := hp
    rw [e1] at ht
    have hL : L = pre'.map (·.1) ++ a.1 :: t := ht.symm.trans (by simp)
    have hE : L.erase a.1 = pre'.map (·.1) ++ t := by
      obtain ⟨az, haz⟩ : ∃ z, z = a.1 := ⟨_, rfl⟩
      obtain ⟨pz, hpz⟩ : ∃ z, z = pre'.map (·.1) := ⟨_, rfl⟩
      rw [← haz, ← hpz] at hL ⊢
      have hn := HN.out
      clear haz hpz h1 h2 h3 h4 e1 ht
      revert hn
      rw [hL]
      exact erase_at
    refine ⟨.bool true, ?_, .inl ⟨rfl, pre'.map (·.1), a.1, t, hL, fun y hy => ?_, h2, ⟨nx', pv', kl, h3, ?_⟩, h5.grown (grownBy_putObj' _ D (.deferred none)) (fun r e => by cases e; omega)⟩⟩
    · simp [results, Try.f55, go_sem, hc5]
    · obtain ⟨z, hz, rfl⟩ := List.mem_map.1 hy
      exact h1 z hz
    · rw [hE] at h4
      refine h4.grown (L' := L) (B0 := W0.heap.size) (fun k hk => by have := HL.out k hk; omega) (fun k hk => ?_) (grownBy_putObj' _ D (.deferred none)) (fun r e => by cases e; exact hD)
      rw [← hE] at hk
      exact List.mem_of_mem_erase hk
set_option maxRecDepth 100000 in
set_option maxHeartbeats 4000000 in
theorem makePlaceI (w : World) {C r m nb : Nat} {places : Int} {L : List Nat} {B : Nat → EntV} {nx pv : Nat → Nat} {f : Lit → Option Nat} (h : CAt Try.prog 74 67 3 w C r m places nb L B nx pv f) (hkv : ∀ x ∈ L, ∃ k : Int, (B x).k = .int .i64 k) (hlen : L.length ≤ 65536) :
    Calls Try.prog 43 #[PV C] w fun x W' =>
      (x = .returned (.bool true) ∧ ∃ p a q, L = p ++ a :: q ∧ (∀ y ∈ p, Goes (B y) = false) ∧ Goes (B a) = true ∧ (∃ nx' pv' kl, keyOf Try.prog 3 (B a).k = some kl ∧ CAt Try.prog 74 67 3 W' C r m places nb (p ++ q) B nx' pv' (updO f kl none)) ∧ Tch (Mine C r m L) w W') ∨
      (x = .returned (.bool false) ∧ (∀ y ∈ L, Goes (B y) = false) ∧ Below w.heap.size w W') := by
  have hnL : L.Nodup := (List.nodup_cons.1 h.ring.nodup).2
  have hlt := h.lt
  refine (callsIn_wide (n := 4)).1 ?_
  refine callsIn_of_wp_marks Try.func43 rfl trivial ?_ rfl
  simp only [Try.ntmps43, List.size_toArray, List.length_cons, List.length_nil, Nat.reduceAdd, Nat.reduceSub, Array.replicate_succ, Array.replicate_zero, List.push_toArray, List.append_toArray, List.nil_append, List.cons_append]
  gi_wp2_with (refine ⟨trivial, ?_⟩; gi_at_call 40; refine (order_makeI Fence.wide _ trivial rfl _ _).mono ?_; rintro e w' ⟨rfl, rfl⟩)
  obtain ⟨W0, hW0⟩ : ∃ W0, ((w.alloc (.cells #[PV C] 24)).alloc (.cells #[.bool false] 4)).alloc (.cells #[PV C] 24) = W0 := ⟨_, rfl⟩
  have hs0 : W0.heap.size = w.heap.size + 3 := by rw [← hW0]; simp
  have hb0 : W0.heap[w.heap.size]? = some (.cells #[PV C] 24 (0, 0)) := by
    rw [← hW0]; exact ((Below.heap_alloc _ _ _ (by simp; omega)).trans (Below.heap_alloc _ _ _ (by simp))).trans (World.alloc_heap_new w _)
  have hb1 : W0.heap[w.heap.size + 1]? = some (.cells #[.bool false] 4 (0, 0)) := by
    rw [← hW0]; refine (Below.heap_alloc _ _ _ (by simp)).trans ?_
    have := World.alloc_heap_new (w.alloc (.cells #[PV C] 24)) (.cells #[.bool false] 4); rwa [World.size_alloc] at this
  have hb2 : W0.heap[w.heap.size + 1 + 1]? = some (.cells #[PV C] 24 (0, 0)) := by
    rw [← hW0]; have := World.alloc_heap_new ((w.alloc (.cells #[PV C] 24)).alloc (.cells #[.bool false] 4)) (.cells #[PV C] 24); rwa [World.size_alloc, World.size_alloc] at this
  have hB0 : Below w.heap.size w W0 := by
    rw [← hW0]; exact (((Below.refl _ _).alloc (Nat.le_refl _) _).alloc (by simp) _).alloc (by simp; omega) _
  rw [hW0]
  refine wpIn_rangeFunc_ownG rfl (by omega) (gf := 61) (lb := #[PV (w.heap.size + 1 + 1)]) rfl trivial (enters_of Try.func61 (by kernel_rfl) rfl)
    (order_stopsI Fence.wide _ trivial rfl (by omega) (w.heap.size + 1 + 1) W0.heap.size (fun _ => False) W0 hb2 ⟨by omega, id⟩ (h.below hB0) (fun k hk => ⟨by have := hlt k hk; omega, id⟩)) kx_t (kx_b (Nat.le_refl _)) (Below.refl _ _) (fun _ => rfl)
    (fun pre W => (∀ y ∈ pre, Goes (B y.1) = false) ∧ W.heap[w.heap.size]? = some (.cells #[PV C] 24 (0, 0)) ∧ W.heap[w.heap.size + 1]? = some (.cells #[.bool false] 4 (0, 0)) ∧ Below w.heap.size w W)
    (fun c pre W => c = .ret ∧ ∃ pre' a, pre = pre' ++ [a] ∧ (∀ y ∈ pre', Goes (B y.1) = false) ∧ Goes (B a.1) = true ∧ (∃ nx' pv' kl, keyOf Try.prog 3 (B a.1).k = some kl ∧ CAt Try.prog 74 67 3 W C r m places nb (L.erase a.1) B nx' pv' (updO f kl none)) ∧ Tch (Mine C r m L) w W ∧ W.heap[w.heap.size + 1]? = some (.cells #[.bool true] 4 (0, 0)))
    (fun s A B row hs hg hr => ⟨hs.1, heap_kept hs.2.1 hg (fun r e => (hr r e).2), heap_kept hs.2.2.1 hg (fun r e => (hr r e).2), hs.2.2.2.grown hg hs.2.2.2.size (fun k e => by have := (hr k e).1; omega)⟩)
    (fun c s A B row hs hg hr => by
      obtain ⟨rfl, pre', a, e1, h1, h2, ⟨nx', pv', kl, h3, h4⟩, h5, h6⟩ := hs
      exact ⟨rfl, pre', a, e1, h1, h2, ⟨nx', pv', kl, h3, h4.grown (L' := L) (B0 := W0.heap.size) (fun k hk => by have := hlt k hk; omega) (fun k hk => List.mem_of_mem_erase hk) hg (fun r e => (hr r e).1)⟩, h5.grown hg (fun r e => by have := (hr r e).1; omega), heap_kept h6 hg (fun r e => (hr r e).2)⟩)
    ⟨by simp, hb0, hb1, hB0⟩
    (fun x => { tmps := #[PV C, .pointer (some ⟨w.heap.size, 0, none⟩), .pointer (some ⟨w.heap.size + 1, 0, none⟩), PV x.1, PV C, .func (.func 61) #[] #[PV (w.heap.size + 1 + 1)], PV x.1, undef, undef, undef, undef, undef], defers := [] }) ?assign ?body ?done ?stop
  case assign =>
    intro l x W K hK
    gi_wp2
    exact hK
  case body =>
    rintro l pre x W ⟨hp, hw0, hw1, hB⟩ _
    obtain ⟨xx, hxL⟩ := x
    have hS := h.below hB
    obtain ⟨p, q, hL⟩ := List.append_of_mem hxL
    obtain ⟨k, hk⟩ := hkv xx hxL
    obtain ⟨kl, hkl, _⟩ := hS.keyed xx hxL
    have hm := mayGo_anyI W xx (B xx) _ _ (hS.nodes xx (List.mem_cons_of_mem _ hxL))
    have ht := take_anyI hS hL k hk (kl := kl) (by rw [← hk]; exact hkl) hlen
    have hE : L.erase xx = p ++ q := by rw [hL] at hnL ⊢; exact erase_at hnL
    obtain ⟨g, hg⟩ : ∃ g, (!(B xx).d && decide ((B xx).p = 0)) = g := ⟨_, rfl⟩
    rw [hg] at hm
    have hc0 : W.cell? ⟨w.heap.size, 0, none⟩ = some (PV C) := by rw [cell_of_row _ _ _ _ _ _ hw0]; rfl
    have HM := Lib.hid hm
    have HT := Lib.hid ht
    have HH := Lib.hid (And.intro hp (And.intro hw0 (And.intro hw1 (And.intro hB (And.intro hE (And.intro hg (And.intro hkl hlt)))))))
    have hsz := hs0
    clear hm ht hp hw0 hw1 hB hE hg hkl hlt hS h hL hk hkv hb0 hb1 hb2 hB0 hW0 hnL
    cases g with
    | false =>
      gi_wp2_with (refine ⟨trivial, ?_⟩; gi_at_call 65; refine (CallsIn.inRound l (callsIn_wide.2 HM.out)).mono ?_; rintro e w' ⟨rfl, rfl⟩)
      refine ⟨KeepsFrom.refl _ _, fun _ _ _ => rfl, fun y hy => ?_, HH.out.2.1, HH.out.2.2.1, HH.out.2.2.2.1⟩
      rcases List.mem_append.1 hy with hy | hy
      · exact HH.out.1 y hy
      · rw [List.mem_singleton.1 hy]; exact HH.out.2.2.2.2.2.1
    | true =>
      gi_wp2_with (first | (refine ⟨trivial, ?_⟩; gi_at_call 65; refine (CallsIn.inRound l (callsIn_wide.2 HM.out)).mono ?_; rintro e w' ⟨rfl, rfl⟩) | (refine ⟨trivial, ?_⟩; gi_at_call 50; refine (CallsIn.inRound l (callsIn_wide.2 HT.out)).mono ?_; rintro e W4 ⟨rfl, ⟨nx', pv', h4⟩, ht4⟩; have r1 : W4.heap[w.heap.size + 1]? = some (.cells #[.bool false] 4 (0, 0)) := (ht4.block _ (heap_lt HH.out.2.2.1) (fun hk => by have := HH.out.2.2.2.2.2.2.2 _ hk; omega)).trans HH.out.2.2.1; have rc : W4.cell? ⟨w.heap.size + 1, 0, none⟩ = some (.bool false) := (by rw [cell_of_row _ _ _ _ _ _ r1]; rfl); have rf : W4.frozen? ⟨w.heap.size + 1, 0, none⟩ = false := frozen_of_row _ _ _ _ _ r1; have H4 := Lib.hid (And.intro h4 (And.intro ht4 r1)); clear h4 ht4 r1))
      obtain ⟨h4, ht4, r1⟩ := H4.out
      obtain ⟨_, hw0, hw1, hB, hE, hg, hkl, hlt⟩ := HH.out
      refine ⟨⟨by simpa using ht4.size, fun j o hj ho hno => ?_⟩, rfl, pre, ⟨xx, hxL⟩, rfl, HH.out.1, hg, ⟨nx', pv', kl, hkl, ?_⟩, ?_, ?_⟩
      · exact (set_oth (by show j ≠ w.heap.size + 1; omega)).trans ((ht4.block j (heap_lt ho) (fun hk => by have := hlt _ hk; omega)).trans ho)
      · show CAt _ _ _ _ _ _ _ _ _ _ (L.erase xx) _ _ _ _
        rw [hE]
        exact h4.same (fun j hj => set_oth (by
          have : j < w.heap.size := hlt j (by
            rcases hj with hj | hj | hj
            · exact .inl hj
            · exact .inr (.inl hj)
            · refine .inr (.inr ?_)
              rw [← hE] at hj
              rcases List.mem_cons.1 hj with hj | hj
              · rw [hj]; simp
              · exact List.mem_cons_of_mem _ (List.mem_of_mem_erase hj))
          show j ≠ w.heap.size + 1
          omega))
      · exact Tch.setOut ((Tch.of_below hB).trans ht4) (by show w.heap.size ≤ w.heap.size + 1; omega) _
      · rw [row_put _ r1]; rfl
  case done =>
    rintro D xs W hD hx ⟨hp, hw0, hw1, hB⟩ hK
    have hc1 : W.cell? ⟨w.heap.size + 1, 0, none⟩ = some (.bool false) := by rw [cell_of_row _ _ _ _ _ _ hw1]; rfl
    have hf1 : W.frozen? ⟨w.heap.size + 1, 0, none⟩ = false := frozen_of_row _ _ _ _ _ hw1
    have HH := Lib.hid (And.intro hx (And.intro hp (And.intro hw1 hB)))
    clear hx hp hw1 hB hw0 h hkv hb0 hb1 hb2 hB0 hW0 hnL
    gi_wp2
    obtain ⟨hx, hp, hw1, hB⟩ := HH.out
    have hK' := (KeepsOthers.setCell W ⟨w.heap.size + 1, 0, none⟩ (.bool false)).same D _ hK rfl
    refine ⟨by simp, .inl ⟨_, _, rfl, run_takeDeferred hK', ?_⟩⟩
    have hc5 := cell_kept (World.cell?_setCell_same' W ⟨w.heap.size + 1, 0, none⟩ (.bool false) (by rw [hc1]; rfl)) (grownBy_putObj' _ D (.deferred none)) (fun r e => by cases e; exact ⟨_, hK', rfl⟩)
    refine ⟨.bool false, ?_, .inr ⟨rfl, fun y hy => ?_, ?_⟩⟩
    · simp [results, Try.f43, go_sem, hc5]
    · rw [← hx] at hy
      obtain ⟨z, hz, rfl⟩ := List.mem_map.1 hy
      exact hp z hz
    · exact (hB.setCell (p := ⟨w.heap.size + 1, 0, none⟩) (by show w.heap.size ≤ w.heap.size + 1; omega) _).grown (grownBy_putObj' _ D (.deferred none)) (by simpa using hB.size) (fun k e => by cases e; omega)
  case stop =>
    rintro D c pre W hD hp ⟨rfl, pre', a, e1, h1, h2, ⟨nx', pv', kl, h3, h4⟩, h5, h6⟩ hK
    have hc1 : W.cell? ⟨w.heap.size + 1, 0, none⟩ = some (.bool true) := by rw [cell_of_row _ _ _ _ _ _ h6]; rfl
    have HH := Lib.hid (And.intro hp (And.intro e1 (And.intro h1 (And.intro h2 (And.intro h3 (And.intro h4 h5))))))
    have HN := Lib.hid hnL
    have HL := Lib.hid hlt
    clear hp e1 h1 h2 h3 h4 h5 h6 h hkv hb0 hb1 hb2 hB0 hW0 hnL hlt
    gi_wp2
    obtain ⟨hp, e1, h1, h2, h3, h4, h5⟩ := HH.out
    refine ⟨by simp, .inl ⟨_, _, rfl, run_takeDeferred hK, ?_⟩⟩
    have hc5 := cell_kept hc1 (grownBy_putObj' _ D (.deferred none)) (fun r e => by cases e; exact ⟨_, hK, rfl⟩)
    obtain ⟨t, ht⟩ := hp
    rw [e1] at ht
    have hL : L = pre'.map (·.1) ++ a.1 :: t := ht.symm.trans (by simp)
    have hE : L.erase a.1 = pre'.map (·.1) ++ t := by
      obtain ⟨az, haz⟩ : ∃ z, z = a.1 := ⟨_, rfl⟩
      obtain ⟨pz, hpz⟩ : ∃ z, z = pre'.map (·.1) := ⟨_, rfl⟩
      rw [← haz, ← hpz] at hL ⊢
      have hn := HN.out
      clear haz hpz h1 h2 h3 h4 e1 ht
      revert hn
      rw [hL]
      exact erase_at
    refine ⟨.bool true, ?_, .inl ⟨rfl, pre'.map (·.1), a.1, t, hL, fun y hy => ?_, h2, ⟨nx', pv', kl, h3, ?_⟩, h5.grown (grownBy_putObj' _ D (.deferred none)) (fun r e => by cases e; omega)⟩⟩
    · simp [results, Try.f43, go_sem, hc5]
    · obtain ⟨z, hz, rfl⟩ := List.mem_map.1 hy
      exact h1 z hz
    · rw [hE] at h4
      refine h4.grown (L' := L) (B0 := W0.heap.size) (fun k hk => by have := HL.out k hk; omega) (fun k hk => ?_) (grownBy_putObj' _ D (.deferred none)) (fun r e => by cases e; exact hD)
      rw [← hE] at hk
      exact List.mem_of_mem_erase hk
end Go.Proofs.Ytaigbplidkakhaa
