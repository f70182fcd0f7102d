/- Proved here: a drum's sectors as one long row of bytes, and what a page's eight writes make of it. -/
import Derived.Test.YtlkffignbjpfcaaGetHead
import Derived.Test.YtlkffignbjpfcaaTakes1
namespace Go.Proofs.Ytlkffignbjpfcaa
open Go.RowKit

def nowL (M : DM) : List UInt8 := M.now.flatMap bl
def spliceL (L : List UInt8) (o : Nat) (l : List UInt8) : List UInt8 := L.take o ++ (l ++ L.drop (o + l.length))
theorem flat_length : ∀ {S : List ByteArray}, (∀ p ∈ S, p.size = 64) → (S.flatMap bl).length = 64 * S.length
  | [], _ => rfl
  | p :: S, h => by
    have h1 := flat_length (S := S) (fun q hq => h q (List.mem_cons_of_mem _ hq))
    have h2 := h p List.mem_cons_self
    rw [List.flatMap_cons, List.length_append, h1, bl_length, h2, List.length_cons]
    omega
theorem spliceL_length {L l : List UInt8} {o : Nat} (h : o + l.length ≤ L.length) : (spliceL L o l).length = L.length := by
  unfold spliceL
  rw [List.length_append, List.length_append, List.length_take, List.length_drop]
  omega
theorem flat_set : ∀ {S : List ByteArray} {n : Nat} {p : ByteArray}, (∀ q ∈ S, q.size = 64) → n < S.length → p.size = 64 → (S.set n p).flatMap bl = spliceL (S.flatMap bl) (64 * n) (bl p)
  | q :: S, 0, p, h, _, hp => by
    have h2 := h q List.mem_cons_self
    unfold spliceL
    rw [List.set_cons_zero, List.flatMap_cons, List.flatMap_cons, Nat.mul_zero, List.take_zero, List.nil_append, Nat.zero_add, bl_length, hp]
    congr 1
    rw [← h2, ← bl_length, List.drop_left]
  | q :: S, n + 1, p, h, hn, hp => by
    have h2 : (bl q).length = 64 := by rw [bl_length]; exact h q List.mem_cons_self
    have ih := flat_set (S := S) (n := n) (p := p) (fun r hr => h r (List.mem_cons_of_mem _ hr)) (by simpa using hn) hp
    rw [List.set_cons_succ, List.flatMap_cons, List.flatMap_cons, ih]
    unfold spliceL
    have e1 : 64 * (n + 1) = (bl q).length + 64 * n := by omega
    have e2 : 64 * (n + 1) + (bl p).length = (bl q).length + (64 * n + (bl p).length) := by omega
    rw [e2, e1, List.take_length_add_append, List.drop_length_add_append, List.append_assoc]
theorem flat_get : ∀ {S : List ByteArray} {n : Nat}, (∀ q ∈ S, q.size = 64) → (h : n < S.length) → ((S.flatMap bl).drop (64 * n)).take 64 = bl S[n]
  | q :: S, 0, h, _ => by
    have h2 : (bl q).length = 64 := by rw [bl_length]; exact h q List.mem_cons_self
    rw [Nat.mul_zero, List.drop_zero, List.flatMap_cons, ← h2, List.take_left]
    rfl
  | q :: S, n + 1, h, hn => by
    have h2 : (bl q).length = 64 := by rw [bl_length]; exact h q List.mem_cons_self
    have e1 : 64 * (n + 1) = (bl q).length + 64 * n := by omega
    rw [List.flatMap_cons, e1, List.drop_length_add_append]
    exact flat_get (S := S) (n := n) (fun r hr => h r (List.mem_cons_of_mem _ hr)) (by simpa using hn)
theorem splice_more (L a b : List UInt8) (o : Nat) (h : o + a.length + b.length ≤ L.length) : spliceL (spliceL L o a) (o + a.length) b = spliceL L o (a ++ b) := by
  have ho : (L.take o).length = o := by rw [List.length_take]; omega
  unfold spliceL
  have e1 : o + a.length = (L.take o ++ a).length := by rw [List.length_append, ho]
  rw [← List.append_assoc (L.take o) a, e1, List.take_left, List.drop_append, ← e1]
  rw [List.drop_eq_nil_of_le (by rw [List.length_append, ho]; omega), List.nil_append, List.drop_drop]
  rw [List.length_append, List.append_assoc, List.append_assoc]
  congr 4
  omega
/-- A page's writes, the first k of them. -/
def pieceB (l : List UInt8) (i : Nat) : ByteArray := ofL ((l.drop (64 * i)).take 64)
def putM (M : DM) (f : Nat) (l : List UInt8) : Nat → DM
  | 0 => M
  | k + 1 => (putM M f l k).write (f + k) (pieceB l k)
theorem pieceB_size {l : List UInt8} {i : Nat} (h : 64 * i + 64 ≤ l.length) : (pieceB l i).size = 64 := by
  unfold pieceB
  rw [ofL_size, List.length_take, List.length_drop]
  omega
theorem fullB_whole {p : ByteArray} (h : p.size = 64) : fullB p = p := by
  unfold fullB
  rw [h]
  apply bl_inj
  rw [bl_append, bl_zero]
  simp
theorem Calm.written {M : DM} (h : Calm M) (n : Nat) (s : ByteArray) (h1 : M.steps + 1 ≤ 1000000) (h2 : M.loose.length + 1 ≤ 1000000) : Calm (M.write n s) ∧ (M.write n s).steps = M.steps + 1 ∧ (M.write n s).loose.length = M.loose.length + 1 := by
  have hs := DM.step_steps _ h.off
  have e := DM.write_yes M h.off n s
  refine ⟨⟨?_, ?_, ?_, ?_⟩, ?_, ?_⟩
  · rw [e]; show M.step.fuse = none; rw [DM.step_fuse _ h.off, h.fuse]; rfl
  · rw [e]; show M.step.down = false; rw [DM.step_down _ h.off, h.down]
  · rw [e]; show M.step.steps ≤ _; rw [hs]; exact h1
  · rw [e]; show (M.loose ++ [(n, fullB s)]).length ≤ _; rw [List.length_append]; exact h2
  · rw [e]; exact hs
  · rw [e]; show (M.loose ++ [(n, fullB s)]).length = _; rw [List.length_append]; rfl
theorem putM_calm {M : DM} (h : Calm M) (f : Nat) (l : List UInt8) (h1 : M.steps + 8 ≤ 1000000) (h2 : M.loose.length + 8 ≤ 1000000) : ∀ k, k ≤ 8 → Calm (putM M f l k) ∧ (putM M f l k).steps = M.steps + k ∧ (putM M f l k).loose.length = M.loose.length + k
  | 0, _ => ⟨h, rfl, rfl⟩
  | k + 1, hk => by
    obtain ⟨c, e1, e2⟩ := putM_calm h f l h1 h2 k (by omega)
    obtain ⟨c', e1', e2'⟩ := c.written (f + k) (pieceB l k) (by omega) (by omega)
    exact ⟨c', by rw [putM, e1', e1, Nat.add_assoc], by rw [putM, e2', e2, Nat.add_assoc]⟩
theorem write_nowL {M : DM} {N n : Nat} {s : ByteArray} (ho : M.off = false) (hok : M.Ok N) (hn : n < N) (hs : s.size = 64) : nowL (M.write n s) = spliceL (nowL M) (64 * n) (bl s) := by
  have e : (M.write n s).now = M.now.set n (fullB s) := by
    rw [DM.write_yes M ho n s]
    show layM M.step.safe (M.loose ++ [(n, fullB s)]) = _
    rw [DM.step_safe, layM_snoc]
    rfl
  unfold nowL
  rw [e, flat_set hok.nowRow (by rw [hok.nowLen]; exact hn) (fullB_size (by omega)), fullB_whole hs]
theorem nowL_length {M : DM} {N : Nat} (hok : M.Ok N) : (nowL M).length = 64 * N := by
  unfold nowL
  rw [flat_length hok.nowRow, hok.nowLen]
theorem putM_now {M : DM} {N f : Nat} {l : List UInt8} (h : Calm M) (h1 : M.steps + 8 ≤ 1000000) (h2 : M.loose.length + 8 ≤ 1000000) (hok : M.Ok N) (hl : l.length = 512) (hf : f + 8 ≤ N) : ∀ k, k ≤ 8 → (putM M f l k).Ok N ∧ nowL (putM M f l k) = spliceL (nowL M) (64 * f) (l.take (64 * k))
  | 0, _ => ⟨hok, by unfold spliceL; simp [putM]⟩
  | k + 1, hk => by
    obtain ⟨o, e⟩ := putM_now h h1 h2 hok hl hf k (by omega)
    obtain ⟨c, _, _⟩ := putM_calm h f l h1 h2 k (by omega)
    have hz : (pieceB l k).size = 64 := pieceB_size (by omega)
    refine ⟨DM.Ok.write o (by omega) (by omega), ?_⟩
    have hL := nowL_length hok
    have ht : (l.take (64 * k)).length = 64 * k := by rw [List.length_take]; omega
    have hb : bl (pieceB l k) = (l.drop (64 * k)).take 64 := by unfold pieceB; rw [bl_ofL]
    rw [putM, write_nowL c.off o (by omega) hz, e, hb]
    have e1 : 64 * (f + k) = 64 * f + (l.take (64 * k)).length := by rw [ht]; omega
    rw [e1, splice_more _ _ _ _ (by rw [ht, hL, List.length_take, List.length_drop]; omega)]
    congr 1
    rw [Nat.mul_add 64 k 1, Nat.mul_one, List.take_add]
theorem putM_whole {M : DM} {N f : Nat} {l : List UInt8} (h : Calm M) (h1 : M.steps + 8 ≤ 1000000) (h2 : M.loose.length + 8 ≤ 1000000) (hok : M.Ok N) (hl : l.length = 512) (hf : f + 8 ≤ N) : (putM M f l 8).Ok N ∧ nowL (putM M f l 8) = spliceL (nowL M) (64 * f) l := by
  have h3 := putM_now h h1 h2 hok hl hf 8 (Nat.le_refl _)
  rw [List.take_of_length_le (by omega)] at h3
  exact h3
/-- A sector, out of the long row. -/
theorem now_sector {M : DM} {N n : Nat} (hok : M.Ok N) (hn : n < N) : bl (M.now.getD n ⟨#[]⟩) = ((nowL M).drop (64 * n)).take 64 := by
  have hl : n < M.now.length := by rw [hok.nowLen]; exact hn
  have e : M.now.getD n ⟨#[]⟩ = M.now[n] := by simp [List.getD, hl]
  rw [e]
  exact (flat_get hok.nowRow hl).symm
/-- The first k sectors of a page. -/
theorem now_page {M : DM} {N f : Nat} (k : Nat) (hok : M.Ok N) (hf : f + k < N) : ((nowL M).drop (64 * f)).take (64 * (k + 1)) = ((nowL M).drop (64 * f)).take (64 * k) ++ bl (M.now.getD (f + k) ⟨#[]⟩) := by
  rw [now_sector hok hf, Nat.mul_add 64 k 1, Nat.mul_one, List.take_add, List.drop_drop]
  congr 3
  omega
end Go.Proofs.Ytlkffignbjpfcaa
