/- Proved here: Depth is how deep a tree is: one more than the longest path of a node. -/
import Derived.Test.YtfmlmdfehaajbaaGreatDoorSize
namespace Go.Proofs.YtfmlmdfehaajbaaGreatDoor
open Go.RowKit Go.Shelf
attribute [local go_sem] Oper.semAt_some

def deepOf (xs : List (List Nat × AT)) : Nat := xs.foldl (fun m x => max m (x.1.length + 1)) 0
theorem deepOf_snoc (xs : List (List Nat × AT)) (x : List Nat × AT) : deepOf (xs ++ [x]) = max (deepOf xs) (x.1.length + 1) := by
  unfold deepOf
  rw [List.foldl_append]
  rfl
theorem deepOf_le {B : Nat} : ∀ {xs : List (List Nat × AT)}, (∀ x ∈ xs, x.1.length + 1 ≤ B) → deepOf xs ≤ B := fun {xs} => by
  have : ∀ (xs : List (List Nat × AT)) (m : Nat), m ≤ B → (∀ x ∈ xs, x.1.length + 1 ≤ B) → xs.foldl (fun m x => max m (x.1.length + 1)) m ≤ B := fun xs => by
    induction xs with
    | nil => intro m hm _; exact hm
    | cons y r ih => intro m hm h; exact ih _ (Nat.max_le.2 ⟨hm, h y (by simp)⟩) (fun x hx => h x (by simp [hx]))
  exact this xs 0 (Nat.zero_le _)
/-- How deep a tree is. -/
def AT.deep (t : AT) : Nat := deepOf (AT.flat [] t)
set_option maxRecDepth 100000 in
set_option maxHeartbeats 4000000 in
theorem depth_any (w : World) (t : AT) (pa : Option Addr) (ca : Nat) (pk : Option Addr) (ck : Nat) (h : PartsAt w t pa ca pk ck) (hk : KidsAt w t) (hc : t.count ≤ 1000000000) :
    Calls Tryz.prog 17 #[nodeV t pa ca pk ck] w fun e W' => e = .returned (.int .i64 ((t.put w.heap.size 0).deep : Int)) ∧ Below w.heap.size w W' := by
  refine (callsIn_wide (n := 4)).1 ?_
  refine callsIn_of_wp_marks Tryz.func17 rfl trivial ?_ rfl
  simp only [Tryz.ntmps17, List.size_toArray, List.length_cons, List.length_nil, Nat.reduceAdd, Nat.reduceSub, Array.replicate_succ, Array.replicate_zero, List.push_toArray, List.append_toArray, List.nil_append, List.cons_append]
  obtain ⟨w0, hw0⟩ : ∃ w0, w.alloc (.cells (nodeC t pa ca pk ck) 27) = w0 := ⟨_, rfl⟩
  have hT := nodes_at h hk 27
  rw [hw0] at hT
  have hz0 : w0.heap.size = w.heap.size + 1 := by rw [← hw0]; simp
  have hb0 : Below w.heap.size w w0 := by rw [← hw0]; exact (Below.refl _ _).alloc (Nat.le_refl _) _
  have hcnt := put_count t w.heap.size 0
  obtain ⟨root, hroot⟩ : ∃ root, t.put w.heap.size 0 = root := ⟨_, rfl⟩
  have hptr : root.ptr = .pointer (some ⟨w.heap.size, 0, none⟩) := by rw [← hroot]; unfold AT.ptr; rw [put_b, put_o]
  rw [hroot] at hT hcnt ⊢
  unfold nodeC at hw0
  unfold nodeV
  obtain ⟨W0, hW0⟩ : ∃ W0, (w0.alloc (.cells #[.int .i64 0] 3)).alloc (.cells #[.pointer (some ⟨w.heap.size, 0, none⟩)] 58) = W0 := ⟨_, rfl⟩
  have hz : W0.heap.size = w.heap.size + 3 := by rw [← hW0]; simp [hz0]
  have hbox : Boxed W0 (w.heap.size + 1) 3 (.int .i64 0) := by
    rw [← hW0, ← hz0]
    exact (Boxed.new w0 _ _).alloc _
  have hBn : W0.heap[w.heap.size + 2]? = some (.cells #[root.ptr] 58 (0, 0)) := by
    rw [← hW0, hptr]
    have := heap_alloc_new (w0.alloc (.cells #[.int .i64 0] 3)) (.cells #[.pointer (some ⟨w.heap.size, 0, none⟩)] 58)
    rwa [World.size_alloc, hz0] at this
  have hBW : Below w0.heap.size w0 W0 := by rw [← hW0]; exact ((Below.refl _ _).alloc (Nat.le_refl _) _).alloc (by simp) _
  have hB : Below w.heap.size w W0 := hb0.trans (hBW.mono (by omega))
  have HH := Lib.hid (And.intro hT (And.intro hBW (And.intro hcnt hc)))
  have HRT := Lib.hid hroot
  clear h hk hroot hT hBW hcnt hc hb0 hptr
  gi_wp2_with (refine ⟨trivial, ?_⟩; gi_at_call 30; refine (nodes_make Fence.wide _ trivial rfl _ _).mono ?_; rintro e w' ⟨rfl, rfl⟩)
  refine wpIn_rangeFunc_C rfl (by omega) (gf := 57) (lb := #[.pointer (some ⟨w.heap.size + 1 + 1, 0, none⟩)]) rfl trivial (enters_of Tryz.func57 (by kernel_rfl) rfl)
    (encs := fun x : Shown root => #[.slice x.q x.p.length x.c, x.t.ptr]) (Pre := Shown.pre (W0.heap.size + 2)) (X := fun k => k = w.heap.size + 1) (S := fun xs => xs.map Shown.item = AT.flat [] root) (Sp := fun pre => pre.map Shown.item <+: AT.flat [] root)
    (fun W hsz hb => by
      rw [← hsz]
      have hh := HH.out
      refine nodes_C Fence.wide _ trivial rfl (by omega) root w0 W (w.heap.size + 2) 58 _ hh.1 (Stay.below (hh.2.1.trans (hb.mono (by omega)))) ((hb.block _ (by omega)).trans hBn) (fun e => by have e' : w.heap.size + 2 = w.heap.size + 1 := e; omega) (fun b e => by have e' : b = w.heap.size + 1 := e; omega) (by omega) (fun x hx => ?_)
      have := AT.depth_lt root [] x hx
      rw [hh.2.2.1] at this
      have := hh.2.2.2
      simp at *
      omega)
    (fun x W l o o' _ hl ho hp => Shown.pre_put hl ho hp) (fun x => rfl)
    (fun pre W => Boxed W (w.heap.size + 1) 3 (.int .i64 (deepOf (pre.map Shown.item) : Int)) ∧ Below w.heap.size w W) (fun _ _ _ => False)
    (fun s A C hs hb => ⟨boxed_low hs.1 hb (by omega), hs.2.trans (hb.mono (by omega))⟩)
    (fun _ _ _ _ h _ => h)
    ⟨hbox, hB⟩
    (fun x => { tmps := #[.agg #[.int .i64 t.kind, .string t.uri, .string t.loc, .slice pa t.attrs.length ca, .slice pk t.kids.length ck, .string t.text], .pointer (some ⟨w.heap.size, 0, none⟩), .int .i64 0, .pointer (some ⟨w.heap.size + 1, 0, none⟩), .slice x.q x.p.length x.c, .func (.func 57) #[] #[.pointer (some ⟨w.heap.size + 1 + 1, 0, none⟩)], .slice x.q x.p.length x.c, x.t.ptr, undef, undef, undef, undef, undef, undef], defers := [] }) ?assign ?body ?done ?stop
  case assign =>
    intro l x W K hK
    gi_wp2
    simpa using hK
  case body =>
    rintro l pre x W ⟨hx, hb⟩ _ hsp hW
    have hdl : ∀ y ∈ AT.flat [] root, y.1.length + 1 ≤ 1000000000 := fun y hy => by
      have := AT.depth_lt root [] y hy
      rw [HH.out.2.2.1] at this
      have h2 := HH.out.2.2.2
      simp at this
      omega
    have hxl : x.p.length + 1 ≤ 1000000000 := hdl _ x.mem
    have hml : deepOf (pre.map Shown.item) ≤ 1000000000 := deepOf_le (fun y hy => hdl y (List.IsPrefix.subset hsp (by simp [hy])))
    have hsn : deepOf ((pre ++ [x]).map Shown.item) = max (deepOf (pre.map Shown.item)) (x.p.length + 1) := by rw [List.map_append]; exact deepOf_snoc _ _
    obtain ⟨m, hm⟩ : ∃ m, deepOf (pre.map Shown.item) = m := ⟨_, rfl⟩
    obtain ⟨d, hd⟩ : ∃ d, x.p.length = d := ⟨_, rfl⟩
    rw [hm] at hx hml hsn
    rw [hd] at hxl hsn ⊢
    have hcl := hx.cell
    have hfr := hx.frozen
    have HB := Lib.hid (And.intro hx (And.intro hb hsn))
    clear hx hb hsp hdl hm hd hsn
    by_cases hlt : (m : Int) < (d : Int) + 1
    · gi_wp2
      refine ⟨(KeepsOthers.setCell _ _ _).from _, CKeep.setCell (X := fun k => k = w.heap.size + 1) (CKeep.refl _ _) (p := ⟨w.heap.size + 1, 0, none⟩) rfl _, ?_, HB.out.2.1.setCell (p := ⟨w.heap.size + 1, 0, none⟩) (Nat.le_succ _) _⟩
      rw [HB.out.2.2, Nat.max_eq_right (by omega)]
      exact HB.out.1.set _
    · gi_wp2
      refine ⟨(KeepsOthers.setCell _ _ _).from _, CKeep.setCell (X := fun k => k = w.heap.size + 1) (CKeep.refl _ _) (p := ⟨w.heap.size + 1, 0, none⟩) rfl _, ?_, HB.out.2.1.setCell (p := ⟨w.heap.size + 1, 0, none⟩) (Nat.le_succ _) _⟩
      rw [HB.out.2.2, Nat.max_eq_left (by omega)]
      exact HB.out.1.set _
  case done =>
    rintro D xs W hD hS ⟨hx, hb⟩ hK
    rw [hS] at hx
    have hcl := hx.cell
    have hB9 := Lib.hid hb
    clear hx hb hbox hBn hB hW0 hw0 hS
    gi_wp2
    refine ⟨by simp, .inl ⟨_, _, rfl, run_takeDeferred hK, ?_⟩⟩
    exact ⟨_, results_tmp rfl _ _ _, rfl, hB9.out.grown (grownBy_putObj' _ D (.deferred none)) hB9.out.size (fun k e => by cases e; omega)⟩
  case stop =>
    rintro D c pre W hD hp h hK
    exact h.elim
end Go.Proofs.YtfmlmdfehaajbaaGreatDoor
