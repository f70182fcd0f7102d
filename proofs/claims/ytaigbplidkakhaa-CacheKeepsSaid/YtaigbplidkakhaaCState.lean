/- Proved here: a cache as it lies: its block, the ring of its entries, the map of its keys; what becomes of it where others are written. -/
import Derived.Test.YtaigbplidkakhaaCMap
namespace Go.Proofs.Ytaigbplidkakhaa
open Go.RowKit Go.ChangeMaps

def Mine (C r m : Nat) (L : List Nat) (k : Nat) : Prop := k = C ∨ k = m ∨ k ∈ r :: L
structure CAt (P : Program) (E T K : TypeId) (W : World) (C r m : Nat) (places : Int) (nb : Nat) (L : List Nat) (B : Nat → EntV) (nx pv : Nat → Nat) (f : Lit → Option Nat) : Prop where
  blk : W.heap[C]? = some (.cells #[.int .i64 places, .int .i64 (L.length : Int), .map (some m), PV r] T (0, 0))
  ring : Ring nx pv r L
  nodes : Nodes E W (fun a => a ∈ r :: L) B nx pv
  map : MapAt P K W m nb f
  keyed : ∀ a ∈ L, ∃ kl, keyOf P K (B a).k = some kl ∧ f kl = some a
  only : ∀ kl a, f kl = some a → a ∈ L ∧ keyOf P K (B a).k = some kl
  cr : C ∉ r :: L
  mr : m ∉ r :: L
  cm : C ≠ m
section
variable {P : Program} {E T K : TypeId} {W W' : World} {C r m nb : Nat} {places : Int} {L : List Nat} {B : Nat → EntV} {nx pv : Nat → Nat} {f : Lit → Option Nat}
theorem CAt.lt (h : CAt P E T K W C r m places nb L B nx pv f) : ∀ k, Mine C r m L k → k < W.heap.size := fun k hk => by
  rcases hk with rfl | rfl | hk
  · exact heap_lt h.blk
  · exact h.map.lt
  · exact heap_lt (h.nodes k hk)
theorem CAt.tch (h : CAt P E T K W C r m places nb L B nx pv f) {F : Nat → Prop} (t : Tch F W W') (hF : ∀ k, Mine C r m L k → ¬ F k) : CAt P E T K W' C r m places nb L B nx pv f :=
  ⟨(t.block C (h.lt C (.inl rfl)) (hF C (.inl rfl))).trans h.blk, h.ring, h.nodes.tch t (fun a ha => hF a (.inr (.inr ha))), h.map.keep (t.block m h.map.lt (hF m (.inr (.inl rfl)))), h.keyed, h.only, h.cr, h.mr, h.cm⟩
theorem CAt.below (h : CAt P E T K W C r m places nb L B nx pv f) (hb : Below W.heap.size W W') : CAt P E T K W' C r m places nb L B nx pv f := h.tch (Tch.of_below (F := fun _ => False) hb) (fun _ _ => id)
theorem CAt.cells (h : CAt P E T K W C r m places nb L B nx pv f) : W.cell? ⟨C, 0, none⟩ = some (.int .i64 places) ∧ W.cell? ⟨C, 1, none⟩ = some (.int .i64 (L.length : Int)) ∧ W.cell? ⟨C, 2, none⟩ = some (.map (some m)) ∧ W.cell? ⟨C, 3, none⟩ = some (PV r) ∧ ∀ j, W.frozen? ⟨C, j, none⟩ = false := by
  have hb := h.blk
  refine ⟨?_, ?_, ?_, ?_, fun j => frozen_of_row _ _ _ _ _ hb⟩ <;> (rw [cell_of_row _ _ _ _ _ _ hb]; rfl)
/-- An entry's neighbours, and what becomes of the rest where it goes. -/
theorem CAt.entry (h : CAt P E T K W C r m places nb L B nx pv f) {p q : List Nat} {a : Nat} (hL : L = p ++ a :: q) : a ∈ r :: L ∧ pv a ∈ r :: L ∧ nx a ∈ r :: L ∧ pv a ≠ a ∧ nx a ≠ a ∧ a ∉ r :: (p ++ q) := by
  have hr := h.ring
  subst hL
  obtain ⟨h1, h2, h3⟩ := hr.unlink
  have hn := hr.nodup
  rw [List.nodup_cons, List.nodup_append] at hn
  obtain ⟨n1, n2, n3, n4⟩ := hn
  rw [List.nodup_cons] at n3
  have hap : a ∉ p := fun hm => n4 a hm a List.mem_cons_self rfl
  have har : a ≠ r := fun e => n1 (by rw [← e]; simp)
  have haq : a ∉ q := n3.1
  refine ⟨by simp, ?_, ?_, ?_, ?_, ?_⟩
  · rcases List.mem_cons.1 h1 with e | e
    · rw [e]; simp
    · simp [e]
  · rcases List.mem_cons.1 h2 with e | e
    · rw [e]; simp
    · simp [e]
  · intro e
    rw [e] at h1
    rcases List.mem_cons.1 h1 with e1 | e1
    · exact har e1
    · exact hap e1
  · intro e
    rw [e] at h2
    rcases List.mem_cons.1 h2 with e1 | e1
    · exact har e1
    · exact haq e1
  · simp [har, hap, haq]
end
/-! INSTANCES -/
theorem find_nilS (k : ByteArray) (W : World) : Calls Try.prog 54 #[.pointer none, .string k] W fun x W' => x = .returned (.pointer none) ∧ W = W' := by
  go_enter Try.func54, Try.ntmps54
  go_wp2_with (fail)
  go_ret
  exact ⟨rfl, rfl⟩
set_option maxHeartbeats 1000000 in
theorem find_anyS {W : World} {C r m nb : Nat} {places : Int} {L : List Nat} {B : Nat → EntV} {nx pv : Nat → Nat} {f : Lit → Option Nat} (h : CAt Try.prog 98 95 9 W C r m places nb L B nx pv f) (k : ByteArray) {kl : Lit} (hk : keyOf Try.prog 9 (.string k) = some kl) :
    Calls Try.prog 54 #[PV C, .string k] W fun x W' => x = .returned (slotV (f kl)) ∧ Below W.heap.size W W' := by
  have HI := Lib.hid (findableS k W)
  have HH := Lib.hid h
  have HK := Lib.hid hk
  obtain ⟨o, ho⟩ : ∃ o, f kl = o := ⟨_, rfl⟩
  rw [ho]
  have HO := Lib.hid ho
  clear h hk ho
  go_enter Try.func54, Try.ntmps54
  go_wp2_with (fail)
  refine (HI.out).mono ?_
  rintro x W1 ⟨rfl, hb⟩
  have h1 := HH.out.below hb
  have hl := h1.map.look (Maps.string_keyed Try.underlying9) Try.underlying91 (Try.zeroValue92 W1) HK.out
  rw [HO.out] at hl
  obtain ⟨_, _, c2, _, _⟩ := h1.cells
  have HB := Lib.hid hb
  clear hb h1
  go_wp2_with (fail)
  go_ret
  exact ⟨rfl, HB.out⟩
theorem find_nilI (k : Int) (W : World) : Calls Try.prog 41 #[.pointer none, .int .i64 k] W fun x W' => x = .returned (.pointer none) ∧ W = W' := by
  go_enter Try.func41, Try.ntmps41
  go_wp2_with (fail)
  go_ret
  exact ⟨rfl, rfl⟩
set_option maxHeartbeats 1000000 in
theorem find_anyI {W : World} {C r m nb : Nat} {places : Int} {L : List Nat} {B : Nat → EntV} {nx pv : Nat → Nat} {f : Lit → Option Nat} (h : CAt Try.prog 74 67 3 W C r m places nb L B nx pv f) (k : Int) {kl : Lit} (hk : keyOf Try.prog 3 (.int .i64 k) = some kl) :
    Calls Try.prog 41 #[PV C, .int .i64 k] W fun x W' => x = .returned (slotV (f kl)) ∧ Below W.heap.size W W' := by
  have HI := Lib.hid (findableI k W)
  have HH := Lib.hid h
  have HK := Lib.hid hk
  obtain ⟨o, ho⟩ : ∃ o, f kl = o := ⟨_, rfl⟩
  rw [ho]
  have HO := Lib.hid ho
  clear h hk ho
  go_enter Try.func41, Try.ntmps41
  go_wp2_with (fail)
  refine (HI.out).mono ?_
  rintro x W1 ⟨rfl, hb⟩
  have h1 := HH.out.below hb
  have hl := h1.map.look (Maps.int_keyed Try.underlying3) Try.underlying63 (Try.zeroValue64 W1) HK.out
  rw [HO.out] at hl
  obtain ⟨_, _, c2, _, _⟩ := h1.cells
  have HB := Lib.hid hb
  clear hb h1
  go_wp2_with (fail)
  go_ret
  exact ⟨rfl, HB.out⟩
end Go.Proofs.Ytaigbplidkakhaa
