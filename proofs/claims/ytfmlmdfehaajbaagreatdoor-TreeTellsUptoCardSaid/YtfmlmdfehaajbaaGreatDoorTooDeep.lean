/- Proved here: isTooDeep says whether an element stands below too many others. -/
import Derived.Test.YtfmlmdfehaajbaaGreatDoorDepth
namespace Go.Proofs.YtfmlmdfehaajbaaGreatDoor
open Go.RowKit Go.Shelf
attribute [local go_sem] Oper.semAt_some

theorem any_of_prefix {α : Type} {f : α → Bool} {p l : List α} (h : p <+: l) (hp : p.any f = true) : l.any f = true := by
  rw [List.any_eq_true] at hp ⊢
  obtain ⟨x, hx, hf⟩ := hp
  exact ⟨x, h.subset hx, hf⟩
def NoneOf {t : AT} (f : List Nat × AT → Bool) (pre : List (Shown t)) : Prop := (pre.map Shown.item).any f = false
def SomeOf {t : AT} (f : List Nat × AT → Bool) (pre : List (Shown t)) : Prop := (pre.map Shown.item).any f = true
theorem any_snoc {t : AT} {f : List Nat × AT → Bool} {pre : List (Shown t)} (h : NoneOf f pre) (x : Shown t) : ((pre ++ [x]).map Shown.item).any f = f (x.p, x.t) := by
  unfold NoneOf at h
  rw [List.map_append, List.any_append, h]
  simp [Shown.item]
def deepAt (x : List Nat × AT) : Bool := x.2.kind == 2 && decide (33 < x.1.length)
def AT.tooDeep (t : AT) : Bool := (AT.flat [] t).any deepAt
set_option maxRecDepth 100000 in
set_option maxHeartbeats 4000000 in
theorem isTooDeep_any (w : World) (t : AT) (hT : TreeAt w t) (hc : t.count ≤ 1000000000) :
    Calls Tryz.prog 32 #[t.ptr] w fun e W' => e = .returned (.bool t.tooDeep) ∧ Below w.heap.size w W' := by
  refine (callsIn_wide (n := 4)).1 ?_
  refine callsIn_of_wp_marks Tryz.func32 rfl trivial ?_ rfl
  simp only [Tryz.ntmps32, List.size_toArray, List.length_cons, List.length_nil, Nat.reduceAdd, Nat.reduceSub, Array.replicate_succ, Array.replicate_zero, List.push_toArray, List.append_toArray, List.nil_append, List.cons_append]
  obtain ⟨P, hP⟩ : ∃ P, t.ptr = .pointer (some P) := ⟨_, rfl⟩
  rw [hP]
  obtain ⟨W0, hW0⟩ : ∃ W0, (w.alloc (.cells #[.bool false] 4)).alloc (.cells #[.pointer (some P)] 58) = W0 := ⟨_, rfl⟩
  have hz : W0.heap.size = w.heap.size + 2 := by rw [← hW0]; simp
  have hbox : Boxed W0 w.heap.size 4 (.bool false) := by
    rw [← hW0]
    exact (Boxed.new w _ _).alloc _
  have hBn : W0.heap[w.heap.size + 1]? = some (.cells #[t.ptr] 58 (0, 0)) := by
    rw [← hW0, hP]
    have := heap_alloc_new (w.alloc (.cells #[.bool false] 4)) (.cells #[.pointer (some P)] 58)
    rwa [World.size_alloc] at this
  have hB : Below w.heap.size w W0 := by rw [← hW0]; exact ((Below.refl _ _).alloc (Nat.le_refl _) _).alloc (by simp) _
  have HH := Lib.hid (And.intro hT hc)
  have HPP := Lib.hid hP
  clear hT hc hP
  gi_wp2_with (refine ⟨trivial, ?_⟩; gi_at_call 30; refine (nodes_make Fence.wide _ trivial rfl _ _).mono ?_; rintro e w' ⟨rfl, rfl⟩)
  refine wpIn_rangeFunc_C rfl (by omega) (gf := 57) (lb := #[.pointer (some ⟨w.heap.size + 1, 0, none⟩)]) rfl trivial (enters_of Tryz.func57 (by kernel_rfl) rfl)
    (encs := fun x : Shown t => #[.slice x.q x.p.length x.c, x.t.ptr]) (Pre := Shown.pre (W0.heap.size + 2)) (X := fun k => k = w.heap.size) (S := fun xs => xs.map Shown.item = AT.flat [] t) (Sp := fun pre => pre.map Shown.item <+: AT.flat [] t)
    (fun W hsz hb => by
      rw [← hsz]
      have hh := HH.out
      refine nodes_C Fence.wide _ trivial rfl (by omega) t w W (w.heap.size + 1) 58 _ hh.1 (Stay.below (hB.trans (hb.mono (by omega)))) ((hb.block _ (by omega)).trans hBn) (fun e => by have e' : w.heap.size + 1 = w.heap.size := e; omega) (fun b e => by have e' : b = w.heap.size := e; omega) (by omega) (fun x hx => ?_)
      have := AT.depth_lt t [] x hx
      have := hh.2
      simp at *
      omega)
    (fun x W l o o' _ hl ho hp => Shown.pre_put hl ho hp) (fun x => rfl)
    (fun pre W => Boxed W w.heap.size 4 (.bool false) ∧ Below w.heap.size w W ∧ NoneOf deepAt pre) (fun c pre W => c = .ret ∧ Boxed W w.heap.size 4 (.bool true) ∧ Below w.heap.size w W ∧ SomeOf deepAt pre)
    (fun s A C hs hb => ⟨boxed_low hs.1 hb (by omega), hs.2.1.trans (hb.mono (by omega)), hs.2.2⟩)
    (fun _ s A C hs hb => ⟨hs.1, boxed_low hs.2.1 hb (by omega), hs.2.2.1.trans (hb.mono (by omega)), hs.2.2.2⟩)
    ⟨hbox, hB, rfl⟩
    (fun x => { tmps := #[.pointer (some P), undef, .pointer (some ⟨w.heap.size, 0, none⟩), .slice x.q x.p.length x.c, x.t.ptr, .pointer (some P), .func (.func 57) #[] #[.pointer (some ⟨w.heap.size + 1, 0, none⟩)], .slice x.q x.p.length x.c, x.t.ptr, undef, undef, undef, undef, undef, undef, undef, undef, undef, undef, undef], defers := [] }) ?assign ?body ?done ?stop
  case assign =>
    intro l x W K hK
    gi_wp2
    simpa using hK
  case body =>
    rintro l pre x W ⟨hx, hb, hf⟩ _ hsp hW
    have hxl : x.p.length ≤ 1000000000 := by
      have := AT.depth_lt t [] _ x.mem
      have h2 := HH.out.2
      simp at this
      omega
    have hsn := any_snoc hf x
    obtain ⟨pa, ca, pk, ck, _, ck0, _⟩ := (HH.out.1 _ (AT.flat_mem_all x.mem)).stay (Stay.below hb)
    have hfr := hx.frozen
    have hcl := hx.cell
    have HB := Lib.hid (And.intro hx hb)
    unfold deepAt at hsn
    unfold AT.ptr
    obtain ⟨d, hd⟩ : ∃ d, x.p.length = d := ⟨_, rfl⟩
    obtain ⟨kd, hkd⟩ : ∃ kd, x.t.kind = kd := ⟨_, rfl⟩
    dsimp only at ck0 hsn
    rw [hkd] at ck0 hsn
    rw [hd] at hxl hsn ⊢
    have HS := Lib.hid hsn
    clear hx hb hf hsp hsn
    have HNO : deepAt (x.p, x.t) = false → Hid' (NoneOf deepAt (pre ++ [x])) := fun h => by
      show _ = false
      exact HS.out.trans (by unfold deepAt at h; rw [hd] at h; dsimp only at h; rw [hkd] at h; exact h)
    have HYES : deepAt (x.p, x.t) = true → Hid' (SomeOf deepAt (pre ++ [x])) := fun h => by
      show _ = true
      exact HS.out.trans (by unfold deepAt at h; rw [hd] at h; dsimp only at h; rw [hkd] at h; exact h)
    have hval : deepAt (x.p, x.t) = (kd == 2 && decide (33 < d)) := by unfold deepAt; rw [hd]; dsimp only; rw [hkd]
    rw [hval] at HNO HYES
    have HN := Lib.hid (And.intro HNO HYES)
    clear HNO HYES hval hd hkd
    by_cases hk2 : kd = 2
    · subst hk2
      by_cases hlt : (32 : Int) < (d : Int) - 1
      · have hy := HN.out.2 (by simp; omega)
        have HYS := Lib.hid hy
        clear hy
        gi_wp2
        exact ⟨(KeepsOthers.setCell _ _ _).from _, rfl, HB.out.1.set _, HB.out.2.setCell (p := ⟨w.heap.size, 0, none⟩) (Nat.le_refl _) _, HYS.out.out⟩
      · have hy := HN.out.1 (by simp; omega)
        have HYS := Lib.hid hy
        clear hy
        gi_wp2
        exact ⟨KeepsFrom.refl _ _, CKeep.refl _ _, HB.out.1, HB.out.2, HYS.out.out⟩
    · have hq : (kd == 2) = false := by rw [beq_eq_false_iff_ne]; exact hk2
      have hy := HN.out.1 (by rw [hq]; rfl)
      have HYS := Lib.hid hy
      clear hy hk2
      gi_wp2
      exact ⟨KeepsFrom.refl _ _, CKeep.refl _ _, HB.out.1, HB.out.2, HYS.out.out⟩
  case done =>
    rintro D xs W hD hS ⟨hx, hb, hf⟩ hK
    have hc1 := hx.cell
    have HB := Lib.hid (And.intro hS (And.intro hb hf))
    have hfr := hx.frozen
    clear hx hb hf hbox hBn hB hW0 hS
    gi_wp2
    have hK' := (KeepsOthers.setCell W ⟨w.heap.size, 0, none⟩ (.bool false)).same D _ hK rfl
    refine ⟨by simp, .inl ⟨_, _, rfl, run_takeDeferred hK', ?_⟩⟩
    have hc5 := cell_kept (World.cell?_setCell_same' W ⟨w.heap.size, 0, none⟩ (.bool false) (by rw [hc1]; rfl)) (grownBy_putObj' _ D (.deferred none)) (fun r e => by cases e; exact ⟨_, hK', rfl⟩)
    refine ⟨.bool false, ?_, ?_, (HB.out.2.1.setCell (p := ⟨w.heap.size, 0, none⟩) (Nat.le_refl _) _).grown (grownBy_putObj' _ D (.deferred none)) (by simpa using HB.out.2.1.size) (fun k e => by cases e; omega)⟩
    · simp [results, Tryz.f32, go_sem, hc5]
    · unfold AT.tooDeep
      rw [← HB.out.1]
      exact (show true = true → _ from fun _ => by rw [show (xs.map Shown.item).any deepAt = false from HB.out.2.2]) rfl
  case stop =>
    rintro D c pre W hD hp ⟨rfl, hx, hb, hf⟩ hK
    have hc1 := hx.cell
    have HB := Lib.hid (And.intro hp (And.intro hb hf))
    clear hx hb hf hbox hBn hB hW0 hp
    gi_wp2
    refine ⟨by simp, .inl ⟨_, _, rfl, run_takeDeferred hK, ?_⟩⟩
    have hc5 := cell_kept hc1 (grownBy_putObj' _ D (.deferred none)) (fun r e => by cases e; exact ⟨_, hK, rfl⟩)
    refine ⟨.bool true, ?_, ?_, HB.out.2.1.grown (grownBy_putObj' _ D (.deferred none)) HB.out.2.1.size (fun k e => by cases e; omega)⟩
    · simp [results, Tryz.f32, go_sem, hc5]
    · unfold AT.tooDeep
      rw [any_of_prefix HB.out.1 HB.out.2.2]
end Go.Proofs.YtfmlmdfehaajbaaGreatDoor
