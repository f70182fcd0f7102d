/- Proved here: rows of bytes and lists of them that stay while a drum changes; whether two rows are the same; bools in new memory. -/
import Derived.Test.YtlkffignbjpfcaaDrumActs
import Derived.Test.YtlkffignbjpfcaaDrumOps
import Derived.Test.YtlkffignbjpfcaaBoolKit
import Derived.Lib.Strings
namespace Go.Proofs.Ytlkffignbjpfcaa
open Go.RowKit

theorem same_list (a b : ByteArray) : (a.toList == b.toList) = decide (a = b) := by
  rw [Bool.eq_iff_iff, decide_eq_true_eq, beq_iff_eq, Lib.toList_data, Lib.toList_data]
  constructor
  · intro e
    exact ByteArray.ext (Array.toList_inj.1 e)
  · rintro rfl
    rfl
set_option maxHeartbeats 1000000 in
theorem same_any (p q : Option Addr) (s t : ByteArray) (c d : Nat) (w : World) (hp : HoldsB w p s) (hq : HoldsB w q t) :
    Calls Try.prog 21 #[.slice p s.size c, .slice q t.size d] w fun e w' => e = .returned (.bool (decide (s = t))) ∧ w = w' := by
  have h1 := conv_str hp c (holds_none hp)
  have h2 := conv_str hq d (holds_none hq)
  clear hp hq
  obtain ⟨n, hn⟩ : ∃ n, s.size = n := ⟨_, rfl⟩
  obtain ⟨m, hm⟩ : ∃ m, t.size = m := ⟨_, rfl⟩
  rw [hn] at h1 ⊢
  rw [hm] at h2 ⊢
  clear hn hm
  go_enter Try.func21, Try.ntmps21
  go_wp2_with (fail)
  all_goals (go_ret; exact ⟨ret_bool (by first | exact same_list s t | simp [same_list]), rfl⟩)
/-- A row of 64 bytes out of a drum's way. -/
def RowOut (W : World) (F : Nat → Prop) (v : Value) (row : ByteArray) : Prop :=
  ∃ g c cur, v = .slice (some ⟨g, 0, none⟩) 64 c ∧ ¬ F g ∧ W.heap[g]? = some (.cells cur 5 (0, 0)) ∧ cur.toList.take 64 = bytesV row ∧ row.size = 64
theorem RowOut.of_owns {W : World} {F : Nat → Prop} {B g c : Nat} {row : ByteArray} (h : Owns W B g c row) (hs : row.size = 64) (hf : ¬ F g) : RowOut W F (.slice (some ⟨g, 0, none⟩) 64 c) row := by
  rcases h.1.2 with ⟨e, _⟩ | ⟨g', cap, cur, e, _, hh, _, _, _, h3⟩
  · cases e
  · injection e with e1 e2 e3
    injection e1 with e1
    injection e1 with e1
    subst e1
    rw [hs] at h3
    exact ⟨g, c, cur, rfl, hf, hh, h3, hs⟩
theorem RowOut.holds {W : World} {F : Nat → Prop} {v : Value} {row : ByteArray} (h : RowOut W F v row) : ∃ g c, v = .slice (some ⟨g, 0, none⟩) 64 c ∧ ¬ F g ∧ HoldsB W (some ⟨g, 0, none⟩) row ∧ row.size = 64 := by
  obtain ⟨g, c, cur, e, hf, hh, ht, hs⟩ := h
  refine ⟨g, c, e, hf, fun _ => ⟨g, 0, rfl, fun j hj => ?_⟩, hs⟩
  rw [Nat.zero_add, cell_of_row _ _ _ _ _ _ hh]
  have h1 := bytesV_get row j hj
  rw [← ht, List.getElem?_take, if_pos (by omega)] at h1
  simpa using h1
/-- What stays of a row out of the way where just some blocks changed. -/
theorem RowOut.keep {W W' : World} {F F' : Nat → Prop} {v : Value} {row : ByteArray} (h : RowOut W F v row) (hk : ∀ g cur, ¬ F g → W.heap[g]? = some (.cells cur 5 (0, 0)) → W'.heap[g]? = W.heap[g]? ∧ ¬ F' g) : RowOut W' F' v row := by
  obtain ⟨g, c, cur, e, hf, hh, ht, hs⟩ := h
  obtain ⟨h1, h2⟩ := hk g cur hf hh
  exact ⟨g, c, cur, e, h2, h1.trans hh, ht, hs⟩
theorem RowOut.touch {W W' : World} {F F' : Nat → Prop} {v : Value} {row : ByteArray} (h : RowOut W F v row) (ht : Touch F W W') (hg : ∀ k, F' k → Grow F W W' k) : RowOut W' F' v row :=
  h.keep fun g _ hf hh => ⟨ht.block g (block_lt hh) hf, fun hf' => by
    rcases hg g hf' with h1 | h1
    · exact hf h1
    · have := block_lt hh; omega⟩
theorem infoRow : (Try.prog.info? 33).map (fun i => (i.zero, i.size, i.bytes)) = some (some (.slice none 0 0), 1, 24) := by kernel_rfl
end Go.Proofs.Ytlkffignbjpfcaa
