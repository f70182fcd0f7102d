/- Proved here: Size is how many nodes a tree has. -/
import Derived.Test.YtfmlmdfehaajbaaGreatDoorNodes
import Derived.RangeFuncBox
namespace Go.Proofs.YtfmlmdfehaajbaaGreatDoor
open Go.RowKit Go.Shelf
attribute [local go_sem] Oper.semAt_some

theorem nodes_make (F : Fence) (n : Nat) (h5 : F.fn 30) (hro : F.round = none) (o : Option Addr) (w : World) :
    CallsIn F n Tryz.prog 30 #[.pointer o] w fun e w' => e = .returned (.func (.func 57) #[] #[.pointer (some ⟨w.heap.size, 0, none⟩)]) ∧ w' = w.alloc (.cells #[.pointer o] 58) := by
  refine callsIn_of_wp Tryz.func30 rfl h5 ?_ hro
  simp only [Tryz.ntmps30, List.size_toArray, List.length_cons, List.length_nil, Nat.reduceAdd, Nat.reduceSub, Array.replicate_succ, Array.replicate_zero, List.push_toArray, List.append_toArray, List.nil_append, List.cons_append]
  gi_wp2
  go_ret
  exact ⟨rfl, rfl⟩
/-- How many nodes there are; no path is longer. -/
def AT.count (t : AT) : Nat := t.all.length
theorem AT.depth_lt : ∀ (t : AT) (p0 : List Nat), ∀ x ∈ AT.flat p0 t, x.1.length < p0.length + t.count := fun t => by
  induction t using AT.ind with
  | h t ih =>
    intro p0 x hx
    rw [AT.flat_eq] at hx
    unfold AT.count
    rw [AT.all_eq, AT.alls_eq, List.length_cons]
    rcases List.mem_cons.1 hx with rfl | hx
    · show p0.length < _
      omega
    · obtain ⟨j, k, hk, hx⟩ := AT.mem_flats hx
      have hm := List.mem_of_getElem? hk
      have h1 := ih k hm _ x hx
      rw [List.length_append, List.length_singleton] at h1
      have h2 : k.count ≤ (t.kids.flatMap AT.all).length := by
        obtain ⟨a, b, hab⟩ := List.append_of_mem hm
        rw [hab, List.flatMap_append, List.flatMap_cons, List.length_append, List.length_append]
        unfold AT.count
        omega
      omega
theorem put_count (t : AT) (b o : Nat) : (t.put b o).count = t.count := by
  unfold AT.count
  rw [AT.all_eq, AT.all_eq, put_kids]
  rfl
theorem flat_length (t : AT) (p : List Nat) : (AT.flat p t).length = t.count := by
  unfold AT.count
  rw [← AT.flat_all t p, List.length_map]
theorem shown_len {root : AT} {pre : List (Shown root)} (h : pre.map Shown.item <+: AT.flat [] root) : pre.length ≤ root.count := by
  have := h.length_le
  rwa [List.length_map, flat_length] at this
theorem CKeep.setCell {X : Nat → Prop} {A B : World} (h : CKeep X A B) {p : Addr} (hp : X p.block) (v : Value) : CKeep X A (B.setCell p v) :=
  ⟨h.os, h.tape, h.output, by simpa using h.size, fun k o hx hk hc => (Below.heap_setCell B p v k (fun e => hx (by rw [e]; exact hp))).trans (h.keep k o hx hk hc)⟩
theorem boxed_low {A C : World} {B b : Nat} {T : TypeId} {v : Value} (h : Boxed A b T v) (hb : Below B A C) (hB : b < B) : Boxed C b T v := (hb.block b hB).trans h
/-- The node that is handed over, in its own block, and the iterator over its tree. -/
theorem nodes_at {w : World} {t : AT} {pa : Option Addr} {ca : Nat} {pk : Option Addr} {ck : Nat} (h : PartsAt w t pa ca pk ck) (hk : KidsAt w t) (T : TypeId) : TreeAt (w.alloc (.cells (nodeC t pa ca pk ck) T)) (t.put w.heap.size 0) := by
  have s : Stay w (w.alloc (.cells (nodeC t pa ca pk ck) T)) := Stay.below ((Below.refl _ _).alloc (Nat.le_refl _) _)
  exact TreeAt.boxed (h.stay s) (hk.stay s) (heap_alloc_new _ _)
set_option maxRecDepth 100000 in
set_option maxHeartbeats 4000000 in
theorem size_any (w : World) (t : AT) (pa : Option Addr) (ca : Nat) (pk : Option Addr) (ck : Nat) (h : PartsAt w t pa ca pk ck) (hk : KidsAt w t) (hc : t.count ≤ 1000000000) :
    Calls Tryz.prog 15 #[nodeV t pa ca pk ck] w fun e W' => e = .returned (.int .i64 (t.count : Int)) ∧ Below w.heap.size w W' := by
  refine (callsIn_wide (n := 4)).1 ?_
  refine callsIn_of_wp_marks Tryz.func15 rfl trivial ?_ rfl
  simp only [Tryz.ntmps15, List.size_toArray, List.length_cons, List.length_nil, Nat.reduceAdd, Nat.reduceSub, Array.replicate_succ, Array.replicate_zero, List.push_toArray, List.append_toArray, List.nil_append, List.cons_append]
  obtain ⟨w0, hw0⟩ : ∃ w0, w.alloc (.cells (nodeC t pa ca pk ck) 27) = w0 := ⟨_, rfl⟩
  have hT := nodes_at h hk 27
  rw [hw0] at hT
  have hz0 : w0.heap.size = w.heap.size + 1 := by rw [← hw0]; simp
  have hb0 : Below w.heap.size w w0 := by rw [← hw0]; exact (Below.refl _ _).alloc (Nat.le_refl _) _
  have hcnt := put_count t w.heap.size 0
  obtain ⟨root, hroot⟩ : ∃ root, t.put w.heap.size 0 = root := ⟨_, rfl⟩
  have hptr : root.ptr = .pointer (some ⟨w.heap.size, 0, none⟩) := by rw [← hroot]; unfold AT.ptr; rw [put_b, put_o]
  rw [hroot] at hT hcnt
  unfold nodeC at hw0
  unfold nodeV
  obtain ⟨W0, hW0⟩ : ∃ W0, (w0.alloc (.cells #[.int .i64 0] 3)).alloc (.cells #[.pointer (some ⟨w.heap.size, 0, none⟩)] 58) = W0 := ⟨_, rfl⟩
  have hz : W0.heap.size = w.heap.size + 3 := by rw [← hW0]; simp [hz0]
  have hbox : Boxed W0 (w.heap.size + 1) 3 (.int .i64 0) := by
    rw [← hW0, ← hz0]
    exact (Boxed.new w0 _ _).alloc _
  have hBn : W0.heap[w.heap.size + 2]? = some (.cells #[root.ptr] 58 (0, 0)) := by
    rw [← hW0, hptr]
    have := heap_alloc_new (w0.alloc (.cells #[.int .i64 0] 3)) (.cells #[.pointer (some ⟨w.heap.size, 0, none⟩)] 58)
    rwa [World.size_alloc, hz0] at this
  have hBW : Below w0.heap.size w0 W0 := by rw [← hW0]; exact ((Below.refl _ _).alloc (Nat.le_refl _) _).alloc (by simp) _
  have hB : Below w.heap.size w W0 := hb0.trans (hBW.mono (by omega))
  have HH := Lib.hid (And.intro hT (And.intro hBW (And.intro hcnt hc)))
  clear h hk hroot hT hBW hcnt hc hb0 hptr
  gi_wp2_with (refine ⟨trivial, ?_⟩; gi_at_call 30; refine (nodes_make Fence.wide _ trivial rfl _ _).mono ?_; rintro e w' ⟨rfl, rfl⟩)
  refine wpIn_rangeFunc_C rfl (by omega) (gf := 57) (lb := #[.pointer (some ⟨w.heap.size + 1 + 1, 0, none⟩)]) rfl trivial (enters_of Tryz.func57 (by kernel_rfl) rfl)
    (encs := fun x : Shown root => #[.slice x.q x.p.length x.c, x.t.ptr]) (Pre := Shown.pre (W0.heap.size + 2)) (X := fun k => k = w.heap.size + 1) (S := fun xs => xs.map Shown.item = AT.flat [] root) (Sp := fun pre => pre.map Shown.item <+: AT.flat [] root)
    (fun W hsz hb => by
      rw [← hsz]
      have hh := HH.out
      refine nodes_C Fence.wide _ trivial rfl (by omega) root w0 W (w.heap.size + 2) 58 _ hh.1 (Stay.below (hh.2.1.trans (hb.mono (by omega)))) ((hb.block _ (by omega)).trans hBn) (fun e => by have e' : w.heap.size + 2 = w.heap.size + 1 := e; omega) (fun b e => by have e' : b = w.heap.size + 1 := e; omega) (by omega) (fun x hx => ?_)
      have := AT.depth_lt root [] x hx
      rw [hh.2.2.1] at this
      have := hh.2.2.2
      simp at *
      omega)
    (fun x W l o o' _ hl ho hp => Shown.pre_put hl ho hp) (fun x => rfl)
    (fun pre W => Boxed W (w.heap.size + 1) 3 (.int .i64 (pre.length : Int)) ∧ Below w.heap.size w W) (fun _ _ _ => False)
    (fun s A C hs hb => ⟨boxed_low hs.1 hb (by omega), hs.2.trans (hb.mono (by omega))⟩)
    (fun _ _ _ _ h _ => h)
    ⟨hbox, hB⟩
    (fun x => { tmps := #[.agg #[.int .i64 t.kind, .string t.uri, .string t.loc, .slice pa t.attrs.length ca, .slice pk t.kids.length ck, .string t.text], .pointer (some ⟨w.heap.size, 0, none⟩), .int .i64 0, .pointer (some ⟨w.heap.size + 1, 0, none⟩), .func (.func 57) #[] #[.pointer (some ⟨w.heap.size + 1 + 1, 0, none⟩)], .slice x.q x.p.length x.c, x.t.ptr, undef, undef, undef], defers := [] }) ?assign ?body ?done ?stop
  case assign =>
    intro l x W K hK
    gi_wp2
    simpa using hK
  case body =>
    rintro l pre x W ⟨hx, hb⟩ _ hsp hW
    have hpl := shown_len hsp
    rw [List.length_append, List.length_singleton, HH.out.2.2.1] at hpl
    have hpc : pre.length + 1 ≤ 1000000000 := Nat.le_trans hpl HH.out.2.2.2
    have hcl := hx.cell
    have hfr := hx.frozen
    have HB := Lib.hid (And.intro hx hb)
    clear hx hb hpl hsp
    gi_wp2
    have hlen : (pre ++ [x]).length = pre.length + 1 := by simp
    refine ⟨(KeepsOthers.setCell _ _ _).from _, CKeep.setCell (X := fun k => k = w.heap.size + 1) (CKeep.refl _ _) (p := ⟨w.heap.size + 1, 0, none⟩) rfl _, ?_, HB.out.2.setCell (p := ⟨w.heap.size + 1, 0, none⟩) (Nat.le_succ _) _⟩
    rw [hlen]
    exact HB.out.1.set _
  case done =>
    rintro D xs W hD hS ⟨hx, hb⟩ hK
    have hlen : xs.length = t.count := by
      have := congrArg List.length hS
      rw [List.length_map, flat_length] at this
      rw [this, HH.out.2.2.1]
    rw [hlen] at hx
    have hcl := hx.cell
    have hB9 := Lib.hid hb
    clear hx hb hbox hBn hB hW0 hw0 hS hlen
    gi_wp2
    refine ⟨by simp, .inl ⟨_, _, rfl, run_takeDeferred hK, ?_⟩⟩
    exact ⟨_, results_tmp rfl _ _ _, rfl, hB9.out.grown (grownBy_putObj' _ D (.deferred none)) hB9.out.size (fun k e => by cases e; omega)⟩
  case stop =>
    rintro D c pre W hD hp h hK
    exact h.elim
end Go.Proofs.YtfmlmdfehaajbaaGreatDoor
