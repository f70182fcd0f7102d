/- Proved here: what label.Bytes answers. -/
import Derived.Test.YtaiiigknlnhdgaaLabCheck
namespace Go.Proofs.Ytaiiigknlnhdgaa
open Go.RowKit

theorem go_below {B G : Nat} {w0 w W : World} (h : Below G w0 w) (hg : Goes B G w W) (hG : G ≤ B) : Below G w0 W := h.trans (hg.to_below hG)
set_option maxRecDepth 100000 in
set_option maxHeartbeats 2000000 in
theorem bytes_bad (p : Option Addr) (l : List Int) (c : Nat) (w : World) (hl : l.length ≤ 140737488355328) (hlc : l.length ≤ c) (h : HoldsI w p l) (hc : ¬ checkP l = 0) :
    Calls Try.prog 12 #[.slice p l.length c] w fun e w' => e = .returned (.tuple #[.slice none 0 0, .int .i64 (checkP l)]) ∧ w = w' := by
  have C := Lib.hid (check_any p l c w hl hlc h)
  have h1 : (checkP l == 0) = false := by rw [beq_eq_false_iff_ne]; exact hc
  generalize checkP l = x at *
  clear hl hlc h hc
  go_enter Try.func12, Try.ntmps12
  go_wp2_with (fail)
  refine (C.out).mono ?_
  rintro e w' ⟨rfl, rfl⟩
  go_wp2_with (fail)
  go_ret2
  exact ⟨rfl, rfl⟩
def BytRel (w W1 : World) (l : List Int) (v : Value) (wr : World) : Prop :=
  ∃ j : Nat, v = .int .i64 (j : Int) ∧ j ≤ l.length ∧ Hid ((∃ q c, WrS wr (w.heap.size + 1) w.heap.size (bitsL (l.take j)) q c) ∧ Below w.heap.size w wr ∧ W1.heap.size ≤ wr.heap.size)
def BytesOk (w : World) (l : List Int) (e : Ending) (w' : World) : Prop :=
  ∃ q c, e = .returned (.tuple #[.slice q (sizeP l) c, .int .i64 0]) ∧ OwnU w' w.heap.size q c (packB (bitsL l)) ∧ Below w.heap.size w w'
theorem OwnU.base {w : World} {B B' : Nat} {q : Option Addr} {c : Nat} {l : List Nat} (h : OwnU w B q c l) (hB : B' ≤ B) : OwnU w B' q c l := by
  refine ⟨⟨h.1.1, ?_⟩, h.2⟩
  rcases h.1.2 with hn | ⟨g, cap, cur, e, hb, rest⟩
  · exact .inl hn
  · exact .inr ⟨g, cap, cur, e, by omega, rest⟩
set_option maxRecDepth 100000 in
set_option maxHeartbeats 2000000 in
theorem bytes_ok (p : Option Addr) (l : List Int) (c : Nat) (w : World) (hl : l.length ≤ 140737488355328) (hlc : l.length ≤ c) (h : HoldsI w p l) (hc : checkP l = 0) :
    Calls Try.prog 12 #[.slice p l.length c] w (BytesOk w l) := by
  have C := Lib.hid (check_any p l c w hl hlc h)
  have hlen := checkP_len hc
  have HI := Lib.hid (checkP_ok hc).1
  have HB := Lib.hid (fun k => bitsL_length (l := l.take k) (fun v hv => HI.out v (List.mem_of_mem_take hv)))
  have H := Lib.hid h
  have hlen' : (l.length : Int) ≤ 480 := by omega
  rw [hc] at C
  clear hl hlc h hc
  obtain ⟨W1, hW1⟩ : ∃ W, w.alloc (.cells #[.slice none 0 0, .int .i64 0] 50) = W := ⟨_, rfl⟩
  have hb1 : Below w.heap.size w W1 := by rw [← hW1]; exact (Below.refl _ _).alloc (Nat.le_refl _) _
  have hs1 : W1.heap.size = w.heap.size + 1 := by rw [← hW1]; simp
  have hr1 : W1.heap[w.heap.size]? = some (.cells #[.slice none 0 0, .int .i64 0] 50) := by rw [← hW1]; exact heap_alloc_new w _
  have hw0 : WrS W1 (w.heap.size + 1) w.heap.size [] none 0 := ⟨hr1, OwnU.nil _ _, by omega, by omega⟩
  have H0 := Lib.hid (And.intro hb1 (And.intro hs1 hw0))
  clear hb1 hs1 hr1 hw0
  go_enter Try.func12, Try.ntmps12
  go_wp2_with (fail)
  refine (C.out).mono ?_
  rintro e w' ⟨rfl, rfl⟩
  clear C
  go_wp2_with (fail)
  go_loopw [15] (fun v wr => BytRel w W1 l v wr) (fun v _ => l.length - (intOf v).toNat)
  case atStart => exact ⟨0, rfl, Nat.zero_le _, Lib.hid ⟨⟨none, 0, H0.out.2.2⟩, H0.out.1, Nat.le_refl _⟩⟩
  case round =>
    obtain ⟨j, rfl, hj, HR⟩ := hrel
    by_cases hlt : j < l.length
    · obtain ⟨⟨q1, c1, hw⟩, hb, hsz⟩ := HR.out
      obtain ⟨b, off, rfl, hcell⟩ := (H.out.below hb) (by omega)
      have cc := hcell j hlt
      have hin := HI.out _ (getD_mem hlt)
      have hbt := bitsL_take l j hlt
      have hbl := (HB.out j).2
      have htk : (l.take j).length ≤ j := List.length_take_le _ _
      generalize l.getD j 0 = x at *
      have NB := Lib.hid (number_any wr (w.heap.size + 1) w.heap.size _ x q1 c1 hw hin (by omega))
      rw [← hbt] at NB
      have HG := Lib.hid (And.intro hb hsz)
      clear hw hb hsz hin hbt hbl htk hcell HR
      go_wp2_with (go_at_call 30; refine (NB.out).mono ?_; rintro e w' ⟨rfl, hw', hg'⟩)
      go_round
      case rel => exact ⟨j + 1, by go_num, by omega, Lib.hid ⟨hw', go_below HG.out.1 hg' (Nat.le_succ _), Nat.le_trans HG.out.2 hg'.2.2.2.1⟩⟩
      case measure => simp [intOf]; omega
    · obtain rfl : j = l.length := by omega
      obtain ⟨⟨q1, c1, hw⟩, hb, hsz⟩ := HR.out
      rw [List.take_of_length_le (Nat.le_refl _)] at hw
      obtain ⟨c0, _, _, _⟩ := hw.cells
      have HF := Lib.hid (And.intro hw hb)
      obtain ⟨m, hm⟩ : ∃ m, ((bitsL l).length + 7) / 8 = m := ⟨_, rfl⟩
      have HM := Lib.hid hm
      rw [hm] at c0
      clear hw hb hsz HR hm
      go_wp2_with (fail)
      go_ret2
      refine ⟨q1, c1, ?_, HF.out.1.own.base (Nat.le_succ _), HF.out.2⟩
      unfold sizeP
      rw [HM.out]
      rfl
end Go.Proofs.Ytaiiigknlnhdgaa
