/- Proved here: a cache as a list of its entries, the one used longest ago first; New, Get, Len, and what a nil cache answers to Get, Put, Len. -/
import Derived.Test.YtaigbplidkakhaaCPlace
namespace Go.Proofs.Ytaigbplidkakhaa
open Go.RowKit Go.ChangeMaps

theorem map_split {α : Type} {L : List Nat} {B : Nat → EntV} {g : α → EntV} {p q : List α} {e : α} (h : L.map B = (p ++ e :: q).map g) : ∃ P a Q, L = P ++ a :: Q ∧ P.map B = p.map g ∧ B a = g e ∧ Q.map B = q.map g := by
  rw [List.map_append, List.map_cons] at h
  obtain ⟨P, R, rfl, h1, h2⟩ := List.map_eq_append_iff.1 h
  obtain ⟨a, Q, rfl, h3, h4⟩ := List.map_eq_cons_iff.1 h2
  exact ⟨P, a, Q, rfl, h1, h3, h4⟩
theorem Mine.of_mem {C r m : Nat} {L L' : List Nat} (h : ∀ x ∈ L', x ∈ L) : ∀ k, Mine C r m L' k → Mine C r m L k := fun k hk => by
  rcases hk with hk | hk | hk
  · exact .inl hk
  · exact .inr (.inl hk)
  · refine .inr (.inr ?_)
    rcases List.mem_cons.1 hk with hk | hk
    · rw [hk]; simp
    · exact List.mem_cons_of_mem _ (h k hk)
/-- What a step of a cache does to the heap: of what lay, only the cache's own is written; what is the cache's later was its own or is new. -/
def Step (M M' : Nat → Prop) (W W' : World) : Prop := Tch M W W' ∧ ∀ k, M' k → M k ∨ (W.heap.size ≤ k ∧ k < W'.heap.size)

/-! KEYS: string -/
structure EntS where
  k : ByteArray
  v : Int
  d : Bool
  p : Nat
def EntS.enc (e : EntS) : EntV := ⟨.string e.k, .int .i64 e.v, e.d, e.p⟩
def CSS (M : Nat → Prop) (W : World) (C : Nat) (places : Int) (nb : Nat) (l : List EntS) : Prop :=
  ∃ r m L B nx pv f, CAt Try.prog 98 95 9 W C r m places nb L B nx pv f ∧ L.map B = l.map EntS.enc ∧ (∀ k, Mine C r m L k → M k) ∧ l.length ≤ 65536
theorem CSS.tch {M F : Nat → Prop} {W W' : World} {C nb : Nat} {places : Int} {l : List EntS} (h : CSS M W C places nb l) (t : Tch F W W') (hF : ∀ k, M k → ¬ F k) : CSS M W' C places nb l := by
  obtain ⟨r, m, L, B, nx, pv, f, h1, h2, h3, h4⟩ := h
  exact ⟨r, m, L, B, nx, pv, f, h1.tch t (fun k hk => hF k (h3 k hk)), h2, h3, h4⟩
theorem look_someS {W : World} {C r m nb : Nat} {places : Int} {L : List Nat} {B : Nat → EntV} {nx pv : Nat → Nat} {f : Lit → Option Nat} (h : CAt Try.prog 98 95 9 W C r m places nb L B nx pv f) {a : Nat} {e : EntS} (ha : a ∈ L) (he : B a = e.enc) {k : ByteArray} {kl : Lit} (hk : keyOf Try.prog 9 (.string k) = some kl) (hek : e.k = k) : f kl = some a := by
  obtain ⟨kl', h1, h2⟩ := h.keyed a ha
  rw [he] at h1
  subst hek
  rw [show (EntS.enc e).k = .string e.k from rfl, hk] at h1
  cases h1
  exact h2
theorem look_noneS {W : World} {C r m nb : Nat} {places : Int} {L : List Nat} {B : Nat → EntV} {nx pv : Nat → Nat} {f : Lit → Option Nat} (h : CAt Try.prog 98 95 9 W C r m places nb L B nx pv f) {l : List EntS} (hl : L.map B = l.map EntS.enc) {k : ByteArray} {kl : Lit} (hk : keyOf Try.prog 9 (.string k) = some kl) (hn : ∀ e ∈ l, e.k ≠ k) : f kl = none := by
  cases hf : f kl with
  | none => rfl
  | some a =>
    obtain ⟨ha, h1⟩ := h.only kl a hf
    have hm : B a ∈ l.map EntS.enc := by rw [← hl]; exact List.mem_map_of_mem ha
    obtain ⟨e, he, hE⟩ := List.mem_map.1 hm
    rw [← hE] at h1
    have := (Maps.string_keyed Try.underlying9).inj h1 hk
    simp only [EntS.enc] at this
    exact absurd (by injection this) (hn e he)
theorem lenNilS (W : World) : Calls Try.prog 33 #[.pointer none] W fun x W' => x = .returned (.int .i64 0) ∧ W = W' := by
  go_enter Try.func33, Try.ntmps33
  go_wp2_with (fail)
  go_ret
  exact ⟨rfl, rfl⟩
theorem lenS {M : Nat → Prop} {W : World} {C nb : Nat} {places : Int} {l : List EntS} (h : CSS M W C places nb l) : Calls Try.prog 33 #[PV C] W fun x W' => x = .returned (.int .i64 (l.length : Int)) ∧ W = W' := by
  obtain ⟨r, m, L, B, nx, pv, f, h1, h2, _, _⟩ := h
  obtain ⟨_, c1, _, _, _⟩ := h1.cells
  have e1 : L.length = l.length := by simpa using congrArg List.length h2
  rw [e1] at c1
  clear h1 h2 e1
  go_enter Try.func33, Try.ntmps33
  go_wp2_with (fail)
  go_ret
  exact ⟨rfl, rfl⟩
theorem getNilS (k : ByteArray) (W : World) : Calls Try.prog 32 #[.pointer none, .string k] W fun x W' => x = .returned (.tuple #[.int .i64 0, .bool false]) ∧ W = W' := by
  go_enter Try.func32, Try.ntmps32
  go_wp2_with (fail)
  refine (find_nilS k W).mono ?_
  rintro x W1 ⟨rfl, rfl⟩
  go_wp2_with (fail)
  go_returns
  exact ⟨rfl, rfl⟩
theorem getNoneS {M : Nat → Prop} {W : World} {C nb : Nat} {places : Int} {l : List EntS} (h : CSS M W C places nb l) (k : ByteArray) {kl : Lit} (hk : keyOf Try.prog 9 (.string k) = some kl) (hn : ∀ e ∈ l, e.k ≠ k) :
    Calls Try.prog 32 #[PV C, .string k] W fun x W' => x = .returned (.tuple #[.int .i64 0, .bool false]) ∧ CSS M W' C places nb l ∧ Step M M W W' := by
  have HH := Lib.hid h
  obtain ⟨r, m, L, B, nx, pv, f, h1, h2, h3, h4⟩ := h
  have FI := find_anyS h1 k hk
  rw [look_noneS h1 h2 hk hn] at FI
  have HF := Lib.hid FI
  clear h1 h2 h3 h4 hk hn FI
  go_enter Try.func32, Try.ntmps32
  go_wp2_with (fail)
  refine HF.out.mono ?_
  rintro x W1 ⟨rfl, hb⟩
  have HB := Lib.hid hb
  clear hb
  simp only [slotV]
  go_wp2_with (fail)
  go_returns
  have t : Tch (fun _ => False) W W1 := Tch.of_below HB.out
  exact ⟨rfl, HH.out.tch t (fun _ _ => id), t.mono (fun _ h => h.elim), fun k hk => .inl hk⟩
theorem getSomeS {M : Nat → Prop} {W : World} {C nb : Nat} {places : Int} {p q : List EntS} {e : EntS} (h : CSS M W C places nb (p ++ e :: q)) (k : ByteArray) {kl : Lit} (hk : keyOf Try.prog 9 (.string k) = some kl) (hek : e.k = k) :
    Calls Try.prog 32 #[PV C, .string k] W fun x W' => x = .returned (.tuple #[.int .i64 e.v, .bool true]) ∧ CSS M W' C places nb (p ++ q ++ [e]) ∧ Step M M W W' := by
  obtain ⟨r, m, L, B, nx, pv, f, h1, h2, h3, h4⟩ := h
  obtain ⟨P, a, Q, hL, e1, e2, e3⟩ := map_split h2
  have haL : a ∈ L := by rw [hL]; simp
  have FI := find_anyS h1 k hk
  rw [look_someS h1 haL e2 hk hek] at FI
  have HF := Lib.hid FI
  have HH := Lib.hid (And.intro h1 (And.intro hL (And.intro e1 (And.intro e2 (And.intro e3 (And.intro h3 h4))))))
  clear h1 h2 h3 h4 hk hek FI hL e1 e2 e3
  go_enter Try.func32, Try.ntmps32
  go_wp2_with (fail)
  refine HF.out.mono ?_
  rintro x W1 ⟨rfl, hb⟩
  have hS := HH.out.1.below hb
  have HU := Lib.hid (use_anyS hS HH.out.2.1)
  have HB := Lib.hid hb
  clear hb hS
  simp only [slotV]
  go_wp2_with (fail)
  refine HU.out.mono ?_
  rintro x W2 ⟨rfl, ⟨nx', pv', hS2⟩, t2, z2⟩
  obtain ⟨_, c1, _⟩ := hS2.nodes.cells (a := a) (by simp)
  rw [HH.out.2.2.2.1] at c1
  have H2 := Lib.hid (And.intro hS2 t2)
  clear hS2 t2 z2 HU HF
  simp only [EntS.enc] at c1
  go_wp2_with (fail)
  go_returns
  obtain ⟨h1, hL, e1, e2, e3, h3, h4⟩ := HH.out
  refine ⟨rfl, ⟨r, m, _, B, nx', pv', f, H2.out.1, by simp [e1, e2, e3], fun k hk => h3 k (Mine.of_mem (fun x hx => ?_) k hk), by simpa using h4⟩, (Tch.of_below HB.out).trans (H2.out.2.mono h3), fun k hk => .inl hk⟩
  rw [hL]
  simp at hx ⊢
  rcases hx with h | h | h <;> simp [h]
theorem putNilS (k : ByteArray) (v : Int) (d : Bool) (W : World) : Calls Try.prog 31 #[.pointer none, .string k, .int .i64 v, .bool d] W fun x W' => x = .returned (.int .i64 2) ∧ W = W' := by
  go_enter Try.func31, Try.ntmps31
  go_wp2_with (fail)
  go_ret
  exact ⟨rfl, rfl⟩
theorem newS (n : Int) (h1 : 1 ≤ n) (h2 : n ≤ 65536) (W : World) : Calls Try.prog 30 #[.int .i64 n] W fun x W' => ∃ C, x = .returned (.tuple #[PV C, .int .i64 0]) ∧ CSS (fun k => W.heap.size ≤ k ∧ k < W'.heap.size) W' C n 0 [] ∧ Below W.heap.size W W' := by
  go_enter Try.func30, Try.ntmps30
  have hmk := run_makeMap (P := Try.prog) 91 W
  go_wp2_with (fail)
  refine (newRingS _).mono ?_
  rintro x W1 ⟨rfl, ⟨y, hy⟩, hb, hz⟩
  have HB := Lib.hid (And.intro hy (And.intro hb hz))
  clear hy hb hz
  go_wp2_with (fail)
  go_returns
  obtain ⟨hy, hb, hz⟩ := HB.out
  have hsz : W1.heap.size = W.heap.size + 2 := by rw [hz, World.size_alloc]
  have hy1 : W1.heap[W.heap.size + 1]? = some (.cells (entC y (PV (W.heap.size + 1)) (PV (W.heap.size + 1))) 98 (0, 0)) := by rw [World.size_alloc] at hy; exact hy
  have hbW : Below W.heap.size W W1 := ((Below.refl _ W).alloc (Nat.le_refl _) _).trans (hb.mono (by simp))
  refine ⟨W1.heap.size, rfl, ⟨W.heap.size + 1, W.heap.size, [], fun _ => y, fun _ => W.heap.size + 1, fun _ => W.heap.size + 1, fun _ => none, ⟨?_, ring_new _ _ _ rfl rfl, ?_, ?_, by simp, ?_, by simp; omega, by simp, by omega⟩, rfl, ?_, by simp⟩, hbW.alloc hbW.size _⟩
  · exact heap_alloc_new _ _
  · intro a ha
    obtain rfl : a = W.heap.size + 1 := by simpa using ha
    exact (Below.heap_alloc _ _ _ (by omega)).trans hy1
  · refine (MapAt.made Try.prog 9 W).keep ?_
    exact (Below.heap_alloc _ _ _ (by omega)).trans (hb.block _ (by simp))
  · intro kl a h
    cases h
  · intro k hk
    rw [World.size_alloc]
    rcases hk with rfl | rfl | hk
    · omega
    · omega
    · obtain rfl : k = W.heap.size + 1 := by simpa using hk
      omega

/-! KEYS: int -/
structure EntI where
  k : Int
  v : Int
  d : Bool
  p : Nat
def EntI.enc (e : EntI) : EntV := ⟨.int .i64 e.k, .int .i64 e.v, e.d, e.p⟩
def CSI (M : Nat → Prop) (W : World) (C : Nat) (places : Int) (nb : Nat) (l : List EntI) : Prop :=
  ∃ r m L B nx pv f, CAt Try.prog 74 67 3 W C r m places nb L B nx pv f ∧ L.map B = l.map EntI.enc ∧ (∀ k, Mine C r m L k → M k) ∧ l.length ≤ 65536
theorem CSI.tch {M F : Nat → Prop} {W W' : World} {C nb : Nat} {places : Int} {l : List EntI} (h : CSI M W C places nb l) (t : Tch F W W') (hF : ∀ k, M k → ¬ F k) : CSI M W' C places nb l := by
  obtain ⟨r, m, L, B, nx, pv, f, h1, h2, h3, h4⟩ := h
  exact ⟨r, m, L, B, nx, pv, f, h1.tch t (fun k hk => hF k (h3 k hk)), h2, h3, h4⟩
theorem look_someI {W : World} {C r m nb : Nat} {places : Int} {L : List Nat} {B : Nat → EntV} {nx pv : Nat → Nat} {f : Lit → Option Nat} (h : CAt Try.prog 74 67 3 W C r m places nb L B nx pv f) {a : Nat} {e : EntI} (ha : a ∈ L) (he : B a = e.enc) {k : Int} {kl : Lit} (hk : keyOf Try.prog 3 (.int .i64 k) = some kl) (hek : e.k = k) : f kl = some a := by
  obtain ⟨kl', h1, h2⟩ := h.keyed a ha
  rw [he] at h1
  subst hek
  rw [show (EntI.enc e).k = .int .i64 e.k from rfl, hk] at h1
  cases h1
  exact h2
theorem look_noneI {W : World} {C r m nb : Nat} {places : Int} {L : List Nat} {B : Nat → EntV} {nx pv : Nat → Nat} {f : Lit → Option Nat} (h : CAt Try.prog 74 67 3 W C r m places nb L B nx pv f) {l : List EntI} (hl : L.map B = l.map EntI.enc) {k : Int} {kl : Lit} (hk : keyOf Try.prog 3 (.int .i64 k) = some kl) (hn : ∀ e ∈ l, e.k ≠ k) : f kl = none := by
  cases hf : f kl with
  | none => rfl
  | some a =>
    obtain ⟨ha, h1⟩ := h.only kl a hf
    have hm : B a ∈ l.map EntI.enc := by rw [← hl]; exact List.mem_map_of_mem ha
    obtain ⟨e, he, hE⟩ := List.mem_map.1 hm
    rw [← hE] at h1
    have := (Maps.int_keyed Try.underlying3).inj h1 hk
    simp only [EntI.enc] at this
    exact absurd (by injection this) (hn e he)
theorem lenNilI (W : World) : Calls Try.prog 13 #[.pointer none] W fun x W' => x = .returned (.int .i64 0) ∧ W = W' := by
  go_enter Try.func13, Try.ntmps13
  go_wp2_with (fail)
  go_ret
  exact ⟨rfl, rfl⟩
theorem lenI {M : Nat → Prop} {W : World} {C nb : Nat} {places : Int} {l : List EntI} (h : CSI M W C places nb l) : Calls Try.prog 13 #[PV C] W fun x W' => x = .returned (.int .i64 (l.length : Int)) ∧ W = W' := by
  obtain ⟨r, m, L, B, nx, pv, f, h1, h2, _, _⟩ := h
  obtain ⟨_, c1, _, _, _⟩ := h1.cells
  have e1 : L.length = l.length := by simpa using congrArg List.length h2
  rw [e1] at c1
  clear h1 h2 e1
  go_enter Try.func13, Try.ntmps13
  go_wp2_with (fail)
  go_ret
  exact ⟨rfl, rfl⟩
theorem getNilI (k : Int) (W : World) : Calls Try.prog 14 #[.pointer none, .int .i64 k] W fun x W' => x = .returned (.tuple #[.int .i64 0, .bool false]) ∧ W = W' := by
  go_enter Try.func14, Try.ntmps14
  go_wp2_with (fail)
  refine (find_nilI k W).mono ?_
  rintro x W1 ⟨rfl, rfl⟩
  go_wp2_with (fail)
  go_returns
  exact ⟨rfl, rfl⟩
theorem getNoneI {M : Nat → Prop} {W : World} {C nb : Nat} {places : Int} {l : List EntI} (h : CSI M W C places nb l) (k : Int) {kl : Lit} (hk : keyOf Try.prog 3 (.int .i64 k) = some kl) (hn : ∀ e ∈ l, e.k ≠ k) :
    Calls Try.prog 14 #[PV C, .int .i64 k] W fun x W' => x = .returned (.tuple #[.int .i64 0, .bool false]) ∧ CSI M W' C places nb l ∧ Step M M W W' := by
  have HH := Lib.hid h
  obtain ⟨r, m, L, B, nx, pv, f, h1, h2, h3, h4⟩ := h
  have FI := find_anyI h1 k hk
  rw [look_noneI h1 h2 hk hn] at FI
  have HF := Lib.hid FI
  clear h1 h2 h3 h4 hk hn FI
  go_enter Try.func14, Try.ntmps14
  go_wp2_with (fail)
  refine HF.out.mono ?_
  rintro x W1 ⟨rfl, hb⟩
  have HB := Lib.hid hb
  clear hb
  simp only [slotV]
  go_wp2_with (fail)
  go_returns
  have t : Tch (fun _ => False) W W1 := Tch.of_below HB.out
  exact ⟨rfl, HH.out.tch t (fun _ _ => id), t.mono (fun _ h => h.elim), fun k hk => .inl hk⟩
theorem getSomeI {M : Nat → Prop} {W : World} {C nb : Nat} {places : Int} {p q : List EntI} {e : EntI} (h : CSI M W C places nb (p ++ e :: q)) (k : Int) {kl : Lit} (hk : keyOf Try.prog 3 (.int .i64 k) = some kl) (hek : e.k = k) :
    Calls Try.prog 14 #[PV C, .int .i64 k] W fun x W' => x = .returned (.tuple #[.int .i64 e.v, .bool true]) ∧ CSI M W' C places nb (p ++ q ++ [e]) ∧ Step M M W W' := by
  obtain ⟨r, m, L, B, nx, pv, f, h1, h2, h3, h4⟩ := h
  obtain ⟨P, a, Q, hL, e1, e2, e3⟩ := map_split h2
  have haL : a ∈ L := by rw [hL]; simp
  have FI := find_anyI h1 k hk
  rw [look_someI h1 haL e2 hk hek] at FI
  have HF := Lib.hid FI
  have HH := Lib.hid (And.intro h1 (And.intro hL (And.intro e1 (And.intro e2 (And.intro e3 (And.intro h3 h4))))))
  clear h1 h2 h3 h4 hk hek FI hL e1 e2 e3
  go_enter Try.func14, Try.ntmps14
  go_wp2_with (fail)
  refine HF.out.mono ?_
  rintro x W1 ⟨rfl, hb⟩
  have hS := HH.out.1.below hb
  have HU := Lib.hid (use_anyI hS HH.out.2.1)
  have HB := Lib.hid hb
  clear hb hS
  simp only [slotV]
  go_wp2_with (fail)
  refine HU.out.mono ?_
  rintro x W2 ⟨rfl, ⟨nx', pv', hS2⟩, t2, z2⟩
  obtain ⟨_, c1, _⟩ := hS2.nodes.cells (a := a) (by simp)
  rw [HH.out.2.2.2.1] at c1
  have H2 := Lib.hid (And.intro hS2 t2)
  clear hS2 t2 z2 HU HF
  simp only [EntI.enc] at c1
  go_wp2_with (fail)
  go_returns
  obtain ⟨h1, hL, e1, e2, e3, h3, h4⟩ := HH.out
  refine ⟨rfl, ⟨r, m, _, B, nx', pv', f, H2.out.1, by simp [e1, e2, e3], fun k hk => h3 k (Mine.of_mem (fun x hx => ?_) k hk), by simpa using h4⟩, (Tch.of_below HB.out).trans (H2.out.2.mono h3), fun k hk => .inl hk⟩
  rw [hL]
  simp at hx ⊢
  rcases hx with h | h | h <;> simp [h]
theorem putNilI (k : Int) (v : Int) (d : Bool) (W : World) : Calls Try.prog 15 #[.pointer none, .int .i64 k, .int .i64 v, .bool d] W fun x W' => x = .returned (.int .i64 2) ∧ W = W' := by
  go_enter Try.func15, Try.ntmps15
  go_wp2_with (fail)
  go_ret
  exact ⟨rfl, rfl⟩
theorem newI (n : Int) (h1 : 1 ≤ n) (h2 : n ≤ 65536) (W : World) : Calls Try.prog 7 #[.int .i64 n] W fun x W' => ∃ C, x = .returned (.tuple #[PV C, .int .i64 0]) ∧ CSI (fun k => W.heap.size ≤ k ∧ k < W'.heap.size) W' C n 0 [] ∧ Below W.heap.size W W' := by
  go_enter Try.func7, Try.ntmps7
  have hmk := run_makeMap (P := Try.prog) 63 W
  go_wp2_with (fail)
  refine (newRingI _).mono ?_
  rintro x W1 ⟨rfl, ⟨y, hy⟩, hb, hz⟩
  have HB := Lib.hid (And.intro hy (And.intro hb hz))
  clear hy hb hz
  go_wp2_with (fail)
  go_returns
  obtain ⟨hy, hb, hz⟩ := HB.out
  have hsz : W1.heap.size = W.heap.size + 2 := by rw [hz, World.size_alloc]
  have hy1 : W1.heap[W.heap.size + 1]? = some (.cells (entC y (PV (W.heap.size + 1)) (PV (W.heap.size + 1))) 74 (0, 0)) := by rw [World.size_alloc] at hy; exact hy
  have hbW : Below W.heap.size W W1 := ((Below.refl _ W).alloc (Nat.le_refl _) _).trans (hb.mono (by simp))
  refine ⟨W1.heap.size, rfl, ⟨W.heap.size + 1, W.heap.size, [], fun _ => y, fun _ => W.heap.size + 1, fun _ => W.heap.size + 1, fun _ => none, ⟨?_, ring_new _ _ _ rfl rfl, ?_, ?_, by simp, ?_, by simp; omega, by simp, by omega⟩, rfl, ?_, by simp⟩, hbW.alloc hbW.size _⟩
  · exact heap_alloc_new _ _
  · intro a ha
    obtain rfl : a = W.heap.size + 1 := by simpa using ha
    exact (Below.heap_alloc _ _ _ (by omega)).trans hy1
  · refine (MapAt.made Try.prog 3 W).keep ?_
    exact (Below.heap_alloc _ _ _ (by omega)).trans (hb.block _ (by simp))
  · intro kl a h
    cases h
  · intro k hk
    rw [World.size_alloc]
    rcases hk with rfl | rfl | hk
    · omega
    · omega
    · obtain rfl : k = W.heap.size + 1 := by simpa using hk
      omega
end Go.Proofs.Ytaigbplidkakhaa
