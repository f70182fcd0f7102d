/- Proved here: what the document's Read needs: the row it grows by a character's bytes, and how it ends. -/
import Derived.Test.YtgfnfblekilheaaDoorRefReadPlain
import Derived.Test.YtgfnfblekilheaaDoorRefExp
import Derived.Test.YtgfnfblekilheaaDoorRead
import Derived.Test.YtgfnfblekilheaaDoorOwns2
import Derived.Test.YtgfnfblekilheaaDoorReadText
import Derived.BigGuardPart
namespace Go.Proofs.YtgfnfblekilheaaDoor
open Go.RowKit

/-- 'append(v, []byte(string(r))...)' at a row of the call's own. -/
theorem append_rune {w0 w : World} {g cap : Nat} {o : ByteArray} (r : Nat) (h : Owns w w0.heap.size g cap o) (hb : Below w0.heap.size w0 w) (hsz : o.size + (Utf8.encode (r : Int)).size ≤ 140737488355328) :
    ∃ kc w1 g' cap' w2, (convert 9 22 (.string (Utf8.encode (r : Int)))).run Tryd.prog w = .ok (.slice (some ⟨w.heap.size, 0, none⟩) (Utf8.encode (r : Int)).size kc) w1 ∧
      (∀ ty, (Builtin.append_ #[22, 22] ty #[.slice (some ⟨g, 0, none⟩) o.size cap, .slice (some ⟨w.heap.size, 0, none⟩) (Utf8.encode (r : Int)).size kc]).run Tryd.prog w1 = .ok (.slice (some ⟨g', 0, none⟩) (o.size + (Utf8.encode (r : Int)).size) cap') w2) ∧
      Owns w2 w0.heap.size g' cap' (o ++ Utf8.encode (r : Int)) ∧ Below w0.heap.size w0 w2 := by
  obtain ⟨kc, w1, h1, _, hb1, _, hc⟩ := bytes_of w (Utf8.encode (r : Int))
  obtain ⟨g', cap', w2, h2, ho, hb2⟩ := append_next (c := kc) (h.far hb1) (below_cat hb hb1) (fun _ => ⟨w.heap.size, 0, rfl, hc⟩) (fun e => by cases e) hsz
  exact ⟨kc, w1, g', cap', w2, h1, h2, ho, hb2⟩
def RrRel (step : Nat → Int × Int × Int) (s : ByteArray) (w : World) (ANS : List UInt8 × Nat × Int) (i v : Value) (wr : World) : Prop := ∃ (k pos g cap : Nat) (o : ByteArray), i = .int .i64 pos ∧ v = .slice (some ⟨g, 0, none⟩) o.size cap ∧ readGo step s.size k pos o.data.toList = ANS ∧ s.size ≤ pos + k ∧ pos ≤ s.size ∧ o.size ≤ pos ∧ Owns wr w.heap.size g cap o ∧ Below w.heap.size w wr
theorem list_append (o : ByteArray) (r : Nat) : (o ++ Utf8.encode (r : Int)).data.toList = o.data.toList ++ Lib.encodeRune r := by
  have h : ∀ a b : ByteArray, (a ++ b).data.toList = a.data.toList ++ b.data.toList := fun a b => by simp
  rw [h, encode_list]
theorem encode_size_list (r : Nat) : (Utf8.encode (r : Int)).size = (Lib.encodeRune r).length := by
  have h : ∀ a : ByteArray, a.size = a.data.toList.length := fun a => by simp
  rw [h, encode_list]
theorem step_right (s : ByteArray) (pos : Nat) (h0 : (rd s pos).2 ≠ 0) (hc : charB ((rd s pos).1 : Int) = true) (h60 : by_ s pos ≠ 60) (h38 : by_ s pos ≠ 38) :
    (closeB s pos = false → stepT s pos = (((rd s pos).1 : Int), ((pos + (rd s pos).2 : Nat) : Int), 0)) ∧ (by_ s pos ≠ 9 → by_ s pos ≠ 10 → by_ s pos ≠ 13 → stepV s pos = (((rd s pos).1 : Int), ((pos + (rd s pos).2 : Nat) : Int), 0)) := by
  have hn : nextF s pos = ((rd s pos).1, pos + (rd s pos).2, 0) := by unfold nextF; rw [if_neg h0, if_pos hc]
  have h := steps_next s pos h60 h38
  rw [hn] at h
  exact h
theorem rd_is {s : ByteArray} {pos n : Nat} (hn : n < 128) (h : by_ s pos = (n : Int)) : rd s pos = (n, 1) := by
  rw [rd_low s pos (by omega)]
  unfold by_ at h
  simp only [Prod.mk.injEq, and_true]
  omega
theorem rd_isnt {s : ByteArray} {pos n : Nat} (hn : n < 128) (h0 : (rd s pos).2 ≠ 0) (h : by_ s pos ≠ (n : Int)) : (((rd s pos).1 : Int) == (n : Int)) = false := by
  rw [beq_eq_false_iff_ne]
  intro e
  have := (rd_char s pos h0 (by omega)).1
  omega
end Go.Proofs.YtgfnfblekilheaaDoor
