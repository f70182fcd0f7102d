/- Proved here: Check's closure says whether something holds of any node of a tree, whatever is asked of them. -/
import Derived.Test.YtfmlmdfehaajbaaGreatDoorTooDeep
import Derived.Shelf.AbstractIn
namespace Go.Proofs.YtfmlmdfehaajbaaGreatDoor
open Go.RowKit Go.Shelf
attribute [local go_sem] Oper.semAt_some

/-- What is asked of a node: a function of the program that reads it alone. -/
def Asks (g : Nat) (f : AT → Bool) (w : World) (t : AT) : Prop := ∀ x ∈ t.all, ∀ W, Below w.heap.size w W → Calls Tryz.prog g #[x.ptr] W fun e W' => e = .returned (.bool (f x)) ∧ Below W.heap.size W W'
set_option maxRecDepth 100000 in
set_option maxHeartbeats 4000000 in
theorem anywhere_any (w : World) (t : AT) (hT : TreeAt w t) (hc : t.count ≤ 1000000000) (g : Nat) (f : AT → Bool) (eg : ∀ args w, (callFunc g args).run Tryz.prog w = .ok (.enter g args) w) (hg : Asks g f w t) :
    Calls Tryz.prog 29 #[.func (.func g) #[] #[], t.ptr] w fun e W' => e = .returned (.bool (t.all.any f)) ∧ Below w.heap.size w W' := by
  refine (callsIn_wide (n := 4)).1 ?_
  refine callsIn_of_wp_marks Tryz.func29 rfl trivial ?_ rfl
  simp only [Tryz.ntmps29, List.size_toArray, List.length_cons, List.length_nil, Nat.reduceAdd, Nat.reduceSub, Array.replicate_succ, Array.replicate_zero, List.push_toArray, List.append_toArray, List.nil_append, List.cons_append]
  obtain ⟨P, hP⟩ : ∃ P, t.ptr = .pointer (some P) := ⟨_, rfl⟩
  rw [hP]
  obtain ⟨W0, hW0⟩ : ∃ W0, ((w.alloc (.cells #[.func (.func g) #[] #[]] 54)).alloc (.cells #[.bool false] 4)).alloc (.cells #[.pointer (some P)] 58) = W0 := ⟨_, rfl⟩
  have hz : W0.heap.size = w.heap.size + 3 := by rw [← hW0]; simp
  have hfb : Boxed W0 w.heap.size 54 (.func (.func g) #[] #[]) := by
    rw [← hW0]
    exact ((Boxed.new w _ _).alloc _).alloc _
  have hbox : Boxed W0 (w.heap.size + 1) 4 (.bool false) := by
    rw [← hW0]
    have := Boxed.new (w.alloc (.cells #[.func (.func g) #[] #[]] 54)) 4 (.bool false)
    rw [World.size_alloc] at this
    exact this.alloc _
  have hBn : W0.heap[w.heap.size + 2]? = some (.cells #[t.ptr] 58 (0, 0)) := by
    rw [← hW0, hP]
    have := heap_alloc_new ((w.alloc (.cells #[.func (.func g) #[] #[]] 54)).alloc (.cells #[.bool false] 4)) (.cells #[.pointer (some P)] 58)
    rwa [World.size_alloc, World.size_alloc] at this
  have hB : Below w.heap.size w W0 := by rw [← hW0]; exact (((Below.refl _ _).alloc (Nat.le_refl _) _).alloc (by simp) _).alloc (by simp; omega) _
  have HH := Lib.hid (And.intro hT hc)
  have HG := Lib.hid hg
  have HPP := Lib.hid hP
  clear hT hc hP hg
  gi_wp2_with (refine ⟨trivial, ?_⟩; gi_at_call 30; refine (nodes_make Fence.wide _ trivial rfl _ _).mono ?_; rintro e w' ⟨rfl, rfl⟩)
  refine wpIn_rangeFunc_C rfl (by omega) (gf := 57) (lb := #[.pointer (some ⟨w.heap.size + 1 + 1, 0, none⟩)]) rfl trivial (enters_of Tryz.func57 (by kernel_rfl) rfl)
    (encs := fun x : Shown t => #[.slice x.q x.p.length x.c, x.t.ptr]) (Pre := Shown.pre (W0.heap.size + 2)) (X := fun k => k = w.heap.size + 1) (S := fun xs => xs.map Shown.item = AT.flat [] t) (Sp := fun pre => pre.map Shown.item <+: AT.flat [] t)
    (fun W hsz hb => by
      rw [← hsz]
      have hh := HH.out
      refine nodes_C Fence.wide _ trivial rfl (by omega) t w W (w.heap.size + 2) 58 _ hh.1 (Stay.below (hB.trans (hb.mono (by omega)))) ((hb.block _ (by omega)).trans hBn) (fun e => by have e' : w.heap.size + 2 = w.heap.size + 1 := e; omega) (fun b e => by have e' : b = w.heap.size + 1 := e; omega) (by omega) (fun x hx => ?_)
      have := AT.depth_lt t [] x hx
      have := hh.2
      simp at *
      omega)
    (fun x W l o o' _ hl ho hp => Shown.pre_put hl ho hp) (fun x => rfl)
    (fun pre W => Boxed W w.heap.size 54 (.func (.func g) #[] #[]) ∧ Boxed W (w.heap.size + 1) 4 (.bool false) ∧ Below w.heap.size w W ∧ NoneOf (fun x => f x.2) pre) (fun c pre W => c = .ret ∧ Boxed W (w.heap.size + 1) 4 (.bool true) ∧ Below w.heap.size w W ∧ SomeOf (fun x => f x.2) pre)
    (fun s A C hs hb => ⟨boxed_low hs.1 hb (by omega), boxed_low hs.2.1 hb (by omega), hs.2.2.1.trans (hb.mono (by omega)), hs.2.2.2⟩)
    (fun _ s A C hs hb => ⟨hs.1, boxed_low hs.2.1 hb (by omega), hs.2.2.1.trans (hb.mono (by omega)), hs.2.2.2⟩)
    ⟨hfb, hbox, hB, rfl⟩
    (fun x => { tmps := #[.func (.func g) #[] #[], .pointer (some P), .pointer (some ⟨w.heap.size, 0, none⟩), .pointer (some ⟨w.heap.size + 1, 0, none⟩), undef, x.t.ptr, .func (.func 57) #[] #[.pointer (some ⟨w.heap.size + 1 + 1, 0, none⟩)], .slice x.q x.p.length x.c, x.t.ptr, undef, undef, undef], defers := [] }) ?assign ?body ?done ?stop
  case assign =>
    intro l x W K hK
    gi_wp2
    simpa using hK
  case body =>
    rintro l pre x W ⟨hfn, hx, hb, hf⟩ _ hsp hW
    have hsn := any_snoc hf x
    dsimp only at hsn
    have hcall := HG.out x.t (AT.flat_mem_all x.mem) W hb
    have hfr := hx.frozen
    have hcl := hx.cell
    have hcf := hfn.cell
    obtain ⟨PX, hPX⟩ : ∃ PX, x.t.ptr = .pointer (some PX) := ⟨_, rfl⟩
    rw [hPX] at hcall ⊢
    have HB := Lib.hid (And.intro hx (And.intro hb (And.intro hsn hfn)))
    have HCALL := Lib.hid (hcall.mono (R' := fun e W' => e = .returned (.bool (f x.t)) ∧ W'.cell? ⟨w.heap.size + 1, 0, none⟩ = some (.bool false) ∧ W'.frozen? ⟨w.heap.size + 1, 0, none⟩ = false ∧ Hid' (Below W.heap.size W W' ∧ Boxed W' (w.heap.size + 1) 4 (.bool false))) (fun e W' ⟨h1, h2⟩ => by
      have h3 : Boxed W' (w.heap.size + 1) 4 (.bool false) := boxed_low hx h2 hx.lt
      exact ⟨h1, h3.cell, h3.frozen, ⟨h2, h3⟩⟩))
    clear hx hb hf hsp hfn hcall hPX
    obtain ⟨a, ha⟩ : ∃ a, f x.t = a := ⟨_, rfl⟩
    rw [ha] at HCALL
    have HA := Lib.hid ha
    clear ha hsn
    cases a with
    | true =>
      gi_wp2_with (refine ⟨trivial, ?_⟩; gi_at_fn g; refine (CallsIn.inRound l (callsIn_wide.2 HCALL.out)).mono ?_; rintro e w' ⟨rfl, hcl', hfr', hb'⟩)
      refine ⟨KeepsFrom.trans (Y := w') ⟨hb'.out.1.size, fun k o hk ho hn => (hb'.out.1.block k (it_lt ho)).trans ho⟩ ((KeepsOthers.setCell _ _ _).from _), rfl, hb'.out.2.set _, (HB.out.2.1.trans (hb'.out.1.mono HB.out.2.1.size)).setCell (p := ⟨w.heap.size + 1, 0, none⟩) (Nat.le_succ _) _, ?_⟩
      show _ = true
      rw [HB.out.2.2.1]
      exact HA.out
    | false =>
      gi_wp2_with (refine ⟨trivial, ?_⟩; gi_at_fn g; refine (CallsIn.inRound l (callsIn_wide.2 HCALL.out)).mono ?_; rintro e w' ⟨rfl, hcl', hfr', hb'⟩)
      refine ⟨⟨hb'.out.1.size, fun k o hk ho hn => (hb'.out.1.block k (it_lt ho)).trans ho⟩, CKeep.of_below hb'.out.1, boxed_low HB.out.2.2.2 hb'.out.1 HB.out.2.2.2.lt, hb'.out.2, HB.out.2.1.trans (hb'.out.1.mono HB.out.2.1.size), ?_⟩
      show _ = false
      rw [HB.out.2.2.1]
      exact HA.out
  case done =>
    rintro D xs W hD hS ⟨_, hx, hb, hf⟩ hK
    have hc1 := hx.cell
    have HB := Lib.hid (And.intro hS (And.intro hb hf))
    have hfr := hx.frozen
    clear hx hb hf hbox hBn hB hW0 hS hfb
    gi_wp2
    have hK' := (KeepsOthers.setCell W ⟨w.heap.size + 1, 0, none⟩ (.bool false)).same D _ hK rfl
    refine ⟨by simp, .inl ⟨_, _, rfl, run_takeDeferred hK', ?_⟩⟩
    have hc5 := cell_kept (World.cell?_setCell_same' W ⟨w.heap.size + 1, 0, none⟩ (.bool false) (by rw [hc1]; rfl)) (grownBy_putObj' _ D (.deferred none)) (fun r e => by cases e; exact ⟨_, hK', rfl⟩)
    refine ⟨.bool false, ?_, ?_, (HB.out.2.1.setCell (p := ⟨w.heap.size + 1, 0, none⟩) (Nat.le_succ _) _).grown (grownBy_putObj' _ D (.deferred none)) (by simpa using HB.out.2.1.size) (fun k e => by cases e; omega)⟩
    · simp [results, Tryz.f29, go_sem, hc5]
    · have h9 : (xs.map Shown.item).any (fun x => f x.2) = false := HB.out.2.2
      rw [HB.out.1] at h9
      rw [← AT.flat_all t [], List.any_map]
      exact congrArg (fun b => Ending.returned (.bool b)) h9.symm
  case stop =>
    rintro D c pre W hD hp ⟨rfl, hx, hb, hf⟩ hK
    have hc1 := hx.cell
    have HB := Lib.hid (And.intro hp (And.intro hb hf))
    clear hx hb hf hbox hBn hB hW0 hp hfb
    gi_wp2
    refine ⟨by simp, .inl ⟨_, _, rfl, run_takeDeferred hK, ?_⟩⟩
    have hc5 := cell_kept hc1 (grownBy_putObj' _ D (.deferred none)) (fun r e => by cases e; exact ⟨_, hK, rfl⟩)
    refine ⟨.bool true, ?_, ?_, HB.out.2.1.grown (grownBy_putObj' _ D (.deferred none)) HB.out.2.1.size (fun k e => by cases e; omega)⟩
    · simp [results, Tryz.f29, go_sem, hc5]
    · have h9 := any_of_prefix HB.out.1 HB.out.2.2
      rw [← AT.flat_all t [], List.any_map]
      exact congrArg (fun b => Ending.returned (.bool b)) h9.symm
end Go.Proofs.YtfmlmdfehaajbaaGreatDoor
