/- Proved here: plain facts on pairs and tags that are written by either quote: what is written at a place is told there; no program is named. | Proved here: plain facts on tokens that are written: what is written at a place of a text is told there, but for the declaration; no program is named. | Proved here: plain facts on a declaration that is written by either quote: it is told; no program is named. | Proved here: plain facts on faults of what is written and of what is read: neither has one; no program is named. | Proved here: plain facts on what a told token is, by its kind: such that it can be written; no program is named. | Proved here: plain facts on one told token: it can be written, and what is written is told again; no program is named. | Proved here: plain facts on all tokens of a text, written one behind the other: they are told again; no program is named. | Proved here: plain facts on a value that is written byte by byte for single quotes: it is what XApart says, if it has no fault; no program is named. | Proved here: plain facts: what is told is no greater than the text; so what is written of it has a bound. | Proved here: plain facts for the statement ScanShows: where each token is written; which kinds there are. -/
import Derived.Test.YteipiaefamfleaaGreatDoorM25
import Derived.Test.YteipiaefamfleaaGreatDoorM26
import Derived.Test.YteipiaefamfleaaGreatDoorM19
namespace Go.Proofs.YteipiaefamfleaaGreatDoor
open Go.RowKit

/-- The quote, a value written between two of it. -/
def quoteW (s : Bool) : UInt8 := if s then 39 else 34
def valW (s : Bool) (v : ByteArray) : List UInt8 := if s then writtenL escA v.data.toList else writtenL escV v.data.toList
def pairW (s : Bool) (p : ByteArray × ByteArray) : List UInt8 := 32 :: (p.1.data.toList ++ 61 :: quoteW s :: (valW s p.2 ++ [quoteW s]))
def pairsW (s : Bool) : List (ByteArray × ByteArray) → List UInt8
  | [] => []
  | p :: ps => pairW s p ++ pairsW s ps
/-- A pair as a told token has it: its name is one, its value has no fault. -/
structure PairOk (p : ByteArray × ByteArray) : Prop where
  name : qualF p.1 0 = .ok (p.1, p.1.size)
  value : (faultF p.2).2 = 0
theorem quoted_shown {t : ByteArray} {k : Nat} {raw l : List UInt8} (s : Bool) (h : From t k (quoteW s :: (raw ++ quoteW s :: l))) (hr : quoteW s ∉ raw) : quotedF t k = some (⟨raw.toArray⟩, k + 1 + raw.length + 1) := by
  cases s with
  | true => exact quoted_here h hr
  | false =>
    change From t k (34 :: (raw ++ 34 :: l)) at h
    change (34 : UInt8) ∉ raw at hr
    have h2 := h.next
    unfold quotedF
    rw [h.sees, h.sees, show ([39] : List UInt8).isPrefixOf (34 :: (raw ++ 34 :: l)) = false by simp [List.isPrefixOf], show ([34] : List UInt8).isPrefixOf (34 :: (raw ++ 34 :: l)) = true by simp [List.isPrefixOf], if_neg (by simp), if_pos rfl, h2.find1 hr]
    simp only [Option.map_some]
    rw [h2.ext]
theorem val_not (s : Bool) (v : ByteArray) : quoteW s ∉ valW s v := by
  cases s with
  | true =>
    intro h
    have := writtenA_none _ _ h
    revert this
    decide
  | false =>
    intro h
    have := writtenV_none _ _ h
    revert this
    decide
theorem val_back (s : Bool) (v : ByteArray) (h : (faultF v).2 = 0) : (readF (stepV ⟨(valW s v).toArray⟩) (⟨(valW s v).toArray⟩ : ByteArray).size).1 = v.data.toList ∧ (readF (stepV ⟨(valW s v).toArray⟩) (⟨(valW s v).toArray⟩ : ByteArray).size).2.2 = 0 := by
  cases s with
  | true => exact apart_back v h
  | false => exact quote_back v h
theorem pair_shown {t : ByteArray} {k : Nat} {l : List UInt8} {p : ByteArray × ByteArray} (s : Bool) (hp : PairOk p) (h : From t k (p.1.data.toList ++ 61 :: quoteW s :: (valW s p.2 ++ quoteW s :: l))) :
    pairF t k = .ok (p, k + p.1.size + 1 + 1 + (valW s p.2).length + 1) := by
  have hal : p.1.data.toList.length = p.1.size := Array.length_toList
  have h2 := h.tail
  rw [hal] at h2
  have hq : isB (quoteW s) = false := by cases s <;> decide
  have he := equals_here (g := []) (g' := []) h2 (by simp) (by simp) hq
  have hm := quoted_shown s h2.next (val_not s p.2)
  obtain ⟨hb, hv⟩ := val_back s p.2 hp.value
  unfold pairF
  rw [qual_here hp.name h ⟨by decide, by decide, by decide⟩]
  simp only
  rw [he]
  simp only [List.length_nil, Nat.add_zero]
  rw [hm]
  simp only
  rw [if_pos hv, hb]
theorem pairW_length (s : Bool) (p : ByteArray × ByteArray) : (pairW s p).length = 1 + p.1.size + 1 + 1 + (valW s p.2).length + 1 := by
  have hal : p.1.data.toList.length = p.1.size := Array.length_toList
  unfold pairW
  simp only [List.length_cons, List.length_append, List.length_nil, hal]
  omega
theorem pairs_count (s : Bool) : ∀ ps, ps.length ≤ (pairsW s ps).length
  | [] => Nat.le_refl _
  | p :: ps => by
    have := pairs_count s ps
    rw [pairsW, List.length_append, pairW_length, List.length_cons]
    omega
/-- How a tag ends. -/
def tailW (lone : Bool) : List UInt8 := if lone then [47, 62] else [62]
def kindW (lone : Bool) : Nat := if lone then 4 else 2
theorem tag_shown {t n : ByteArray} (s lone : Bool) (l : List UInt8) : ∀ ps f k ps0, ps.length < f → (∀ p ∈ ps, PairOk p) → Apart (ps0 ++ ps) → From t k (pairsW s ps ++ (tailW lone ++ l)) →
    tagGo t n f k ps0 = .ok (⟨kindW lone, n, ps0 ++ ps, ⟨#[]⟩, 0⟩, k + (pairsW s ps).length + (tailW lone).length)
  | _, 0, _, _, hf, _, _, _ => by omega
  | [], f + 1, k, ps0, _, _, _, h => by
    rw [pairsW, List.nil_append] at h
    rw [pairsW, List.append_nil, List.length_nil, tagGo]
    cases lone with
    | false =>
      change From t k (62 :: l) at h
      rw [h.white0 (by decide), h.sees, if_pos (by simp [List.isPrefixOf])]
      rfl
    | true =>
      change From t k (47 :: 62 :: l) at h
      rw [h.white0 (by decide), h.sees, h.sees, if_neg (by simp [List.isPrefixOf]), if_pos (by simp [List.isPrefixOf])]
      rfl
  | p :: ps, f + 1, k, ps0, hf, hp, ha, h => by
    have hpo := hp p (List.mem_cons_self ..)
    have hal : p.1.data.toList.length = p.1.size := Array.length_toList
    obtain ⟨c, N, hN, hc⟩ := name_first (qual_ok hpo.name).1
    have b62 : ((62 : UInt8) == c) = false := by rw [beq_eq_false_iff_ne]; exact (first_not hc 62 (by decide) (by decide) (by decide)).symm
    have b47 : ((47 : UInt8) == c) = false := by rw [beq_eq_false_iff_ne]; exact (first_not hc 47 (by decide) (by decide) (by decide)).symm
    have h0 : From t k ([32] ++ (p.1.data.toList ++ 61 :: quoteW s :: (valW s p.2 ++ quoteW s :: (pairsW s ps ++ (tailW lone ++ l))))) := by
      rw [pairsW] at h
      unfold pairW at h
      simpa only [List.cons_append, List.append_assoc, List.nil_append] using h
    have hw : whiteTo t k = k + 1 := by
      rw [hN] at h0
      exact From.white (g := [32]) h0 (by decide) (first_blank hc)
    have h1 := h0.tail
    rw [show ([32] : List UInt8).length = 1 from rfl] at h1
    have h2 : From t (k + (pairW s p).length) (pairsW s ps ++ (tailW lone ++ l)) := by
      rw [pairsW, List.append_assoc] at h
      exact h.tail
    have hpa := pair_shown s hpo h1
    have hlen := pairW_length s p
    have hs : ∀ w, seesB t (k + 1) w = w.isPrefixOf (c :: (N ++ 61 :: quoteW s :: (valW s p.2 ++ quoteW s :: (pairsW s ps ++ (tailW lone ++ l))))) := by
      intro w
      rw [h1.sees, hN]
      rfl
    have hno : ps0.any (fun q => decide (q.1 = p.1)) = false := by
      rw [List.any_eq_false]
      intro q hq
      have := (List.pairwise_append.1 ha).2.2 q hq p (List.mem_cons_self ..)
      simpa using this
    have hrec := tag_shown (n := n) s lone l ps f (k + (pairW s p).length) (ps0 ++ [p]) (by rw [List.length_cons] at hf; omega) (fun q hq => hp q (List.mem_cons_of_mem _ hq)) (by rwa [List.append_assoc]) h2
    rw [tagGo, hw, hs, hs, if_neg (by simp [List.isPrefixOf, b62]), if_neg (by simp [List.isPrefixOf, b47]), if_neg (by omega), hpa]
    simp only
    rw [if_neg (by simp [hno]), show k + 1 + p.1.size + 1 + 1 + (valW s p.2).length + 1 = k + (pairW s p).length by omega, hrec, pairsW, List.length_append]
    simp only [List.append_assoc, List.cons_append, List.nil_append, Except.ok.injEq, Prod.mk.injEq, true_and]
    omega
end Go.Proofs.YteipiaefamfleaaGreatDoor
namespace Go.Proofs.YteipiaefamfleaaGreatDoor
open Go.RowKit

theorem pre_keep : ∀ (w A l : List UInt8), w.length ≤ A.length → w.isPrefixOf (A ++ l) = w.isPrefixOf A
  | [], _, _, _ => by simp
  | _ :: _, [], _, h => by simp at h
  | a :: w, b :: A, l, h => by
    simp only [List.cons_append, List.isPrefixOf]
    rw [pre_keep w A l (by simpa using h)]
theorem From.drop {t : ByteArray} {k j : Nat} {L : List UInt8} (h : From t k L) (hj : j ≤ L.length) : From t (k + j) (L.drop j) := by
  have := h.len
  exact ⟨by omega, by rw [← List.drop_drop, h.2]⟩
/-- A word stands nowhere in a text with it behind but at the end. -/
def Free (w v : List UInt8) : Prop := ∀ j, j < v.length → w.isPrefixOf ((v ++ w).drop j) = false
theorem Free.find {t : ByteArray} {k : Nat} {w v l : List UInt8} (h : Free w v) (g : From t k (v ++ (w ++ l))) : findF t k w = some (k + v.length) := by
  refine From.find g (by simp) (by rw [List.drop_left]; exact List.isPrefixOf_iff_prefix.2 (List.prefix_append ..)) (fun j hj => ?_)
  rw [← List.append_assoc, List.drop_append_of_le_length (by simp; omega), pre_keep _ _ _ (by simp; omega)]
  exact h j hj
theorem free_of {t : ByteArray} {k i : Nat} {w : List UInt8} (hk : k ≤ t.size) (h : findF t k w = some i) : Free w (t.extract k i).data.toList := by
  obtain ⟨h1, h2, h3, h4⟩ := (find_iff hk).1 h
  obtain ⟨l0, g1, g2, g3⟩ := from_at h2 h1 rfl
  rw [g2.sees] at h3
  obtain ⟨l, rfl⟩ : ∃ l, l0 = w ++ l := by
    obtain ⟨r, hr⟩ := List.isPrefixOf_iff_prefix.1 h3
    exact ⟨r, hr.symm⟩
  have hz : (t.extract k i).data.toList.length = (t.extract k i).size := Array.length_toList
  intro j hj
  have e := h4 (k + j) (by omega) (by omega)
  rw [(g1.drop (j := j) (by simp; omega)).sees, ← List.append_assoc, List.drop_append_of_le_length (by simp; omega), pre_keep _ _ _ (by simp; omega)] at e
  exact e
theorem opens_not {t : ByteArray} {k : Nat} {L : List UInt8} (h : From t k L) (hn : ([60, 63, 120, 109, 108] : List UInt8).isPrefixOf L = false) : opensB t k = false := by
  unfold opensB
  by_cases hk : k = 0
  · subst hk
    rw [h.sees, hn]
    simp
  · rw [decide_eq_false hk]
    simp
/-- A tag. -/
theorem tok_tag {t n : ByteArray} {k : Nat} {l : List UInt8} {ps : List (ByteArray × ByteArray)} (s lone : Bool) (hn : qualF n 0 = .ok (n, n.size)) (hp : ∀ p ∈ ps, PairOk p) (ha : Apart ps)
    (h : From t k (60 :: (n.data.toList ++ (pairsW s ps ++ (tailW lone ++ l))))) :
    tokF t k = .ok (⟨kindW lone, n, ps, ⟨#[]⟩, 0⟩, k + 1 + n.size + (pairsW s ps).length + (tailW lone).length) := by
  have hnl : n.data.toList.length = n.size := Array.length_toList
  obtain ⟨c, N, hN, hc⟩ := name_first (qual_ok hn).1
  have b33 : ((33 : UInt8) == c) = false := by rw [beq_eq_false_iff_ne]; exact (first_not hc 33 (by decide) (by decide) (by decide)).symm
  have b63 : ((63 : UInt8) == c) = false := by rw [beq_eq_false_iff_ne]; exact (first_not hc 63 (by decide) (by decide) (by decide)).symm
  have b47 : ((47 : UInt8) == c) = false := by rw [beq_eq_false_iff_ne]; exact (first_not hc 47 (by decide) (by decide) (by decide)).symm
  have hs : ∀ w, seesB t k w = w.isPrefixOf (60 :: c :: (N ++ (pairsW s ps ++ (tailW lone ++ l)))) := by
    intro w
    rw [h.sees, hN]
    rfl
  have ho : opensB t k = false := opens_not h (by rw [hN]; simp [List.isPrefixOf, b63])
  have h1 := h.next
  obtain ⟨d, m, hd, hsd⟩ : ∃ d m, pairsW s ps ++ (tailW lone ++ l) = d :: m ∧ StopB d := by
    cases ps with
    | nil => cases lone <;> exact ⟨_, _, rfl, ⟨by decide, by decide, by decide⟩⟩
    | cons p ps => exact ⟨32, _, rfl, ⟨by decide, by decide, by decide⟩⟩
  have hq : qualF t (k + 1) = .ok (n, k + 1 + n.size) := by
    rw [hd] at h1
    exact qual_here hn h1 hsd
  have h2 := h1.tail
  rw [hnl] at h2
  have hlen := h2.len
  have hcount := pairs_count s ps
  simp only [List.length_append] at hlen
  unfold tokF
  rw [ho]
  simp only [hs, List.isPrefixOf, b33, b63, b47, BEq.rfl, Bool.and_true, Bool.false_and, Bool.and_false]
  rw [if_neg (by simp), if_neg (by simp), if_neg (by simp), if_neg (by simp), if_neg (by simp), if_neg (by simp), if_neg (by simp), if_pos trivial]
  unfold tagF
  rw [hq]
  simp only
  rw [tag_shown (n := n) s lone l ps (t.size + 1) (k + 1 + n.size) [] (by omega) hp (by simpa using ha) h2, List.nil_append]
theorem tok_close {t n : ByteArray} {k : Nat} {l : List UInt8} (hn : qualF n 0 = .ok (n, n.size)) (h : From t k (60 :: 47 :: (n.data.toList ++ 62 :: l))) : tokF t k = .ok (⟨3, n, [], ⟨#[]⟩, 0⟩, k + 2 + n.size + 1) := by
  have hnl : n.data.toList.length = n.size := Array.length_toList
  have ho : opensB t k = false := opens_not h (by simp [List.isPrefixOf])
  have h1 := h.next.next
  have hq := qual_here hn h1 ⟨by decide, by decide, by decide⟩
  have h2 := h1.tail
  rw [hnl] at h2
  unfold tokF
  rw [ho]
  simp only [h.sees, List.isPrefixOf]
  rw [if_neg (by simp), if_neg (by simp), if_neg (by simp), if_neg (by simp), if_neg (by simp), if_neg (by simp), if_pos (by simp)]
  unfold closingF
  rw [show k + 2 = k + 1 + 1 from rfl, hq]
  simp only
  rw [h2.white0 (by decide), h2.sees, if_pos (by simp [List.isPrefixOf])]
theorem tok_data {t v : ByteArray} {k : Nat} {l : List UInt8} (hv : Free [93, 93, 62] v.data.toList) (h : From t k (60 :: 33 :: 91 :: 67 :: 68 :: 65 :: 84 :: 65 :: 91 :: (v.data.toList ++ ([93, 93, 62] ++ l)))) :
    tokF t k = .ok (⟨6, ⟨#[]⟩, [], v, 0⟩, k + 9 + v.size + 3) := by
  have hvl : v.data.toList.length = v.size := Array.length_toList
  have ho : opensB t k = false := opens_not h (by simp [List.isPrefixOf])
  have h1 : From t (k + 9) (v.data.toList ++ ([93, 93, 62] ++ l)) := h.next.next.next.next.next.next.next.next.next
  have hf := hv.find h1
  have he := h1.ext
  rw [hvl] at hf he
  unfold tokF
  rw [ho]
  simp only [h.sees, List.isPrefixOf]
  rw [if_neg (by simp), if_neg (by decide), if_pos (by decide)]
  unfold dataF
  rw [hf]
  simp only
  rw [he]
theorem tok_comment {t v : ByteArray} {k : Nat} {l : List UInt8} (hv : Free [45, 45] v.data.toList) (h : From t k (60 :: 33 :: 45 :: 45 :: (v.data.toList ++ ([45, 45] ++ 62 :: l)))) :
    tokF t k = .ok (⟨7, ⟨#[]⟩, [], v, 0⟩, k + 4 + v.size + 3) := by
  have hvl : v.data.toList.length = v.size := Array.length_toList
  have ho : opensB t k = false := opens_not h (by simp [List.isPrefixOf])
  have h1 : From t (k + 4) (v.data.toList ++ ([45, 45] ++ 62 :: l)) := h.next.next.next.next
  have hf := hv.find h1
  have he := h1.ext
  have h2 := h1.tail.tail
  rw [hvl] at hf he h2
  rw [show ([45, 45] : List UInt8).length = 2 from rfl] at h2
  unfold tokF
  rw [ho]
  simp only [h.sees, List.isPrefixOf]
  rw [if_neg (by simp), if_pos (by decide)]
  unfold commentF
  rw [hf]
  simp only
  rw [h2.sees, if_pos (by simp [List.isPrefixOf]), he]
theorem tok_text {t v : ByteArray} {k : Nat} {l : List UInt8} (hv : (faultF v).2 = 0) (h0 : 0 < v.size) (h : From t k (writtenL escT v.data.toList ++ l)) (hl : l = [] ∨ ∃ l', l = 60 :: l') :
    ∃ r, tokF t k = .ok (⟨5, ⟨#[]⟩, [], v, r⟩, k + (writtenL escT v.data.toList).length) := by
  have h60 : (60 : UInt8) ∉ writtenL escT v.data.toList := by
    intro q
    have := writtenT_none _ _ q
    revert this
    decide
  obtain ⟨c, W, hW⟩ : ∃ c W, writtenL escT v.data.toList = c :: W := by
    have hvl : v.data.toList.length = v.size := Array.length_toList
    cases hd : v.data.toList with
    | nil => rw [hd] at hvl; simp at hvl; omega
    | cons y z =>
      have := written_pos escT y z
      cases hw : writtenL escT (y :: z) with
      | nil => rw [hw] at this; simp at this
      | cons c W => exact ⟨c, W, rfl⟩
  have bc : ((60 : UInt8) == c) = false := by
    rw [beq_eq_false_iff_ne]
    rintro rfl
    exact h60 (by rw [hW]; exact List.mem_cons_self ..)
  have hs : ∀ w, seesB t k w = w.isPrefixOf (c :: (W ++ l)) := by
    intro w
    rw [h.sees, hW]
    rfl
  have ho : opensB t k = false := opens_not h (by rw [hW]; simp [List.isPrefixOf, bc])
  have hto : charsTo t k = k + (writtenL escT v.data.toList).length := by
    unfold charsTo
    rcases hl with rfl | ⟨l', rfl⟩
    · have hn : findF t k [60] = none := by
        rw [find_none_iff h.1]
        intro j h1 h2
        rw [List.append_nil] at h
        have hlen := h.len
        have := (h.drop (j := j - k) (by omega)).sees [60]
        rw [show k + (j - k) = j by omega] at this
        rw [this]
        cases hd : (writtenL escT v.data.toList).drop (j - k) with
        | nil => rfl
        | cons d D =>
          simp only [List.isPrefixOf, Bool.and_true]
          rw [beq_eq_false_iff_ne]
          rintro rfl
          exact h60 (List.mem_of_mem_drop (by rw [hd]; exact List.mem_cons_self ..))
      rw [hn]
      have := h.len
      simpa using this
    · rw [h.find1 h60]
      rfl
  obtain ⟨hb, hz⟩ := text_back v hv
  have he := h.ext
  refine ⟨(writtenL escT v.data.toList).count 38, ?_⟩
  unfold tokF
  rw [ho]
  simp only [hs, List.isPrefixOf, bc, Bool.false_and]
  rw [if_neg (by simp), if_neg (by simp), if_neg (by simp), if_neg (by simp), if_neg (by simp), if_neg (by simp), if_neg (by simp), if_neg (by simp)]
  unfold charsF
  simp only
  rw [hto, he]
  unfold writtenB at hb hz
  rw [if_pos hz, hb]
theorem name_not_xml {n : ByteArray} {e : UInt8} {N : List UInt8} (hn : nameF n 0 = .ok (n, n.size)) (h : n.data.toList = 120 :: 109 :: 108 :: e :: N) : isB e = false := by
  cases he : isB e with
  | false => rfl
  | true =>
    exfalso
    have h3 : nameF ⟨#[120, 109, 108]⟩ 0 = .ok (⟨#[120, 109, 108]⟩, 3) := by rfl
    have g : From n 0 ((⟨#[120, 109, 108]⟩ : ByteArray).data.toList ++ e :: N) := by
      rw [show (⟨#[120, 109, 108]⟩ : ByteArray).data.toList ++ e :: N = n.data.toList by rw [h]; rfl]
      exact from_zero n
    have q := name_here h3 g (stop_blank he)
    rw [hn] at q
    injection q with q
    injection q with q1 q2
    rw [q1] at h
    cases h
/-- A text's first byte is no white space. -/
def Tight (v : ByteArray) : Prop := ∀ c l, v.data.toList = c :: l → isB c = false
def gapW (v : ByteArray) : List UInt8 := if v.size = 0 then [] else [32]
theorem tok_instr {t n v : ByteArray} {k : Nat} {l : List UInt8} (hn : nameF n 0 = .ok (n, n.size)) (hb : nameB n = true) (hx : xmlB n = false) (hv : Free [63, 62] v.data.toList) (ht : Tight v)
    (h : From t k (60 :: 63 :: (n.data.toList ++ (gapW v ++ (v.data.toList ++ ([63, 62] ++ l)))))) :
    tokF t k = .ok (⟨8, n, [], v, 0⟩, k + 2 + n.size + (gapW v).length + v.size + 2) := by
  have hnl : n.data.toList.length = n.size := Array.length_toList
  have hvl : v.data.toList.length = v.size := Array.length_toList
  obtain ⟨c, m, hd, hc, hw⟩ : ∃ c m, gapW v ++ (v.data.toList ++ ([63, 62] ++ l)) = c :: m ∧ (c = 63 ∨ c = 32) ∧ (c = 63 → v.size = 0) := by
    unfold gapW
    by_cases hz : v.size = 0
    · rw [if_pos hz]
      have : v.data.toList = [] := List.eq_nil_of_length_eq_zero (by omega)
      rw [this]
      exact ⟨63, _, rfl, Or.inl rfl, fun _ => hz⟩
    · rw [if_neg hz]
      exact ⟨32, _, rfl, Or.inr rfl, fun q => by cases q⟩
  have hcs : StopB c := by rcases hc with rfl | rfl <;> exact ⟨by decide, by decide, by decide⟩
  have ho : opensB t k = false := by
    unfold opensB
    by_cases hk : k = 0
    rotate_left
    · rw [decide_eq_false hk]
      simp
    subst hk
    rw [h.sees]
    cases hp : ([60, 63, 120, 109, 108] : List UInt8).isPrefixOf (60 :: 63 :: (n.data.toList ++ (gapW v ++ (v.data.toList ++ ([63, 62] ++ l))))) with
    | false => simp
    | true =>
      rw [hd] at hp h
      match hN : n.data.toList with
      | [] =>
        rw [hN] at hp
        rcases hc with rfl | rfl <;> simp [List.isPrefixOf] at hp
      | [a] =>
        rw [hN] at hp
        rcases hc with rfl | rfl <;> simp [List.isPrefixOf] at hp
      | [a, b] =>
        rw [hN] at hp
        rcases hc with rfl | rfl <;> simp [List.isPrefixOf] at hp
      | [a, b, d] =>
        rw [hN] at hp
        simp [List.isPrefixOf] at hp
        obtain ⟨rfl, rfl, rfl⟩ := hp
        have : n = ⟨#[120, 109, 108]⟩ := eq_of_list hN
        rw [this] at hx
        exact absurd hx (by decide)
      | a :: b :: d :: e :: N =>
        rw [hN] at hp h
        simp [List.isPrefixOf] at hp
        obtain ⟨rfl, rfl, rfl⟩ := hp
        have he := name_not_xml hn hN
        have g : From t 5 (e :: (N ++ c :: m)) := h.next.next.next.next.next
        rw [g.get.2, he]
        simp
  have h1 : From t (k + 2) (n.data.toList ++ (gapW v ++ (v.data.toList ++ ([63, 62] ++ l)))) := h.next.next
  have hq : nameF t (k + 2) = .ok (n, k + 2 + n.size) := by
    rw [hd] at h1
    exact name_here hn h1 hcs
  have h2 := h1.tail
  rw [hnl] at h2
  obtain ⟨d, M, hD, hDb⟩ : ∃ d M, v.data.toList ++ ([63, 62] ++ l) = d :: M ∧ isB d = false := by
    cases hV : v.data.toList with
    | nil => exact ⟨63, _, rfl, by decide⟩
    | cons d V => exact ⟨d, _, rfl, ht d V hV⟩
  have hwh : whiteTo t (k + 2 + n.size) = k + 2 + n.size + (gapW v).length := by
    rw [hD] at h2
    refine h2.white (fun y hy => ?_) hDb
    unfold gapW at hy
    split at hy
    · cases hy
    · obtain rfl := List.mem_singleton.1 hy
      decide
  have h3 := h2.tail
  have hf := hv.find h3
  have he := h3.ext
  rw [hvl] at hf he
  have hno : ¬ (whiteTo t (k + 2 + n.size) = k + 2 + n.size ∧ seesB t (k + 2 + n.size) [63, 62] = false) := by
    rintro ⟨q1, q2⟩
    rw [hwh] at q1
    have hz : v.size = 0 := by
      unfold gapW at q1
      split at q1
      · assumption
      · simp at q1
    have hV : v.data.toList = [] := List.eq_nil_of_length_eq_zero (by omega)
    rw [h2.sees] at q2
    unfold gapW at q2
    rw [if_pos hz, hV] at q2
    simp [List.isPrefixOf] at q2
  unfold tokF
  rw [ho]
  simp only [h.sees, List.isPrefixOf]
  rw [if_neg (by simp), if_neg (by simp), if_neg (by simp), if_neg (by simp), if_neg (by simp), if_pos (by simp)]
  unfold instrF
  rw [hq]
  simp only
  rw [if_neg (by rw [hb]; simp), if_neg (by rw [hx]; simp), if_neg hno, hwh, hf]
  simp only
  rw [he]
end Go.Proofs.YteipiaefamfleaaGreatDoor
namespace Go.Proofs.YteipiaefamfleaaGreatDoor
open Go.RowKit

def versW : List UInt8 := [118, 101, 114, 115, 105, 111, 110]
def encW : List UInt8 := [101, 110, 99, 111, 100, 105, 110, 103]
def aloneW : List UInt8 := [115, 116, 97, 110, 100, 97, 108, 111, 110, 101]
def optP (w : List UInt8) : Option ByteArray → List (ByteArray × ByteArray)
  | none => []
  | some x => [(⟨w.toArray⟩, x)]
/-- The pairs of a declaration. -/
def declPs (v : ByteArray) (e a : Option ByteArray) : List (ByteArray × ByteArray) :=
  (⟨versW.toArray⟩, v) :: (optP encW e ++ optP aloneW a)
structure DeclIs (v : ByteArray) (e a : Option ByteArray) : Prop where
  vers : versionB v = true
  enc : ∀ x, e = some x → encodingB x = true ∧ utf8B x = true
  alone : ∀ x, a = some x → aloneB x = true
/-- No byte of it is written as something else. -/
def Clean (v : ByteArray) : Prop := ∀ y ∈ v.data.toList, y.toNat ≠ 38 ∧ y.toNat ≠ 60 ∧ y.toNat ≠ 39 ∧ y.toNat ≠ 34 ∧ 32 ≤ y.toNat ∧ y.toNat < 128
theorem written_same {esc : Int → ByteArray} : ∀ l : List UInt8, (∀ y ∈ l, esc y.toNat = ⟨#[]⟩) → writtenL esc l = l
  | [], _ => rfl
  | x :: l, h => by rw [written_self (h x (List.mem_cons_self ..)), written_same l (fun y hy => h y (List.mem_cons_of_mem _ hy))]
theorem clean_val (s : Bool) {v : ByteArray} (h : Clean v) : valW s v = v.data.toList := by
  unfold valW
  cases s with
  | true =>
    refine written_same _ (fun y hy => (escA_iff _).2 ?_)
    obtain ⟨h1, h2, h3, h4, h5, h6⟩ := h y hy
    exact ⟨by omega, by omega, by omega, by omega, by omega, by omega⟩
  | false =>
    refine written_same _ (fun y hy => (escV_iff _).2 ?_)
    obtain ⟨h1, h2, h3, h4, h5, h6⟩ := h y hy
    exact ⟨by omega, by omega, by omega, by omega, by omega, by omega⟩
theorem clean_vers {v : ByteArray} (h : versionB v = true) : Clean v := by
  unfold versionB at h
  simp only [Bool.and_eq_true, decide_eq_true_eq, List.all_eq_true] at h
  obtain ⟨⟨h1, h2⟩, h3⟩ := h
  obtain ⟨r, hr⟩ := List.isPrefixOf_iff_prefix.1 h1
  intro y hy
  rw [← hr] at hy h3
  rcases List.mem_append.1 hy with q | q
  · simp only [List.mem_cons, List.not_mem_nil, or_false] at q
    rcases q with rfl | rfl <;> decide
  · have := h3 y (by simpa using q)
    unfold digitB at this
    simp only [decide_eq_true_eq] at this
    omega
theorem clean_enc {v : ByteArray} (h : encodingB v = true) : Clean v := by
  unfold encodingB at h
  simp only [Bool.and_eq_true, decide_eq_true_eq, List.all_eq_true] at h
  intro y hy
  have := h.2 y hy
  unfold digitB letterB at this
  simp only [Bool.or_eq_true, decide_eq_true_eq, beq_iff_eq] at this
  rcases this with ((((q | q) | q) | q) | q)
  · omega
  · omega
  all_goals subst q; decide
theorem clean_alone {v : ByteArray} (h : aloneB v = true) : Clean v := by
  unfold aloneB at h
  simp only [Bool.or_eq_true, decide_eq_true_eq] at h
  unfold Clean
  rcases h with rfl | rfl <;> decide
theorem prop_here {t raw : ByteArray} {k : Nat} {w0 : UInt8} {ws l : List UInt8} {right : ByteArray → Bool} (s : Bool) (hw : isB w0 = false) (hc : Clean raw) (hr : right raw = true)
    (h : From t k (pairW s (⟨(w0 :: ws).toArray⟩, raw) ++ l)) : propF t k (w0 :: ws) right = some ((⟨(w0 :: ws).toArray⟩, raw), k + (pairW s (⟨(w0 :: ws).toArray⟩, raw)).length) := by
  have hq : isB (quoteW s) = false := by cases s <;> decide
  have hn := val_not s raw
  rw [clean_val s hc] at hn
  have h0 : From t k ([32] ++ w0 :: (ws ++ 61 :: quoteW s :: (raw.data.toList ++ quoteW s :: l))) := by
    unfold pairW at h
    simpa only [clean_val s hc, List.cons_append, List.append_assoc, List.nil_append] using h
  have hwh : whiteTo t k = k + 1 := h0.white (by decide) hw
  have h1 : From t (k + 1) ((w0 :: ws) ++ ([] ++ 61 :: ([] ++ quoteW s :: (raw.data.toList ++ quoteW s :: l)))) := h0.tail
  have h2 := h1.tail
  have he := equals_here h2 (by simp) (by simp) hq
  have h3 := h2.next
  have hm := quoted_shown s h3 hn
  have hlen := pairW_length s (⟨(w0 :: ws).toArray⟩, raw)
  rw [clean_val s hc] at hlen
  have hz : (⟨(w0 :: ws).toArray⟩ : ByteArray).size = (w0 :: ws).length := rfl
  simp only [hz] at hlen
  unfold propF
  rw [hwh, if_neg (by
    rintro (q | q)
    · omega
    · rw [h1.sees, show ∀ A B : List UInt8, A.isPrefixOf (A ++ B) = true from fun A B => List.isPrefixOf_iff_prefix.2 (List.prefix_append ..)] at q
      cases q), he]
  simp only [List.length_nil, Nat.add_zero]
  rw [hm]
  simp only
  rw [if_pos hr]
  congr 2
  omega
theorem prop_skip {t : ByteArray} {k : Nat} {w0 c : UInt8} {ws m : List UInt8} {right : ByteArray → Bool} (hc : isB c = false) (hne : c ≠ w0) (h : From t k (32 :: c :: m)) : propF t k (w0 :: ws) right = none := by
  have hwh : whiteTo t k = k + 1 := From.white (g := [32]) h (by decide) hc
  have h1 := h.next
  unfold propF
  rw [hwh, if_pos (Or.inr (by
    rw [h1.sees]
    simp only [List.isPrefixOf, Bool.and_eq_false_iff, beq_eq_false_iff_ne]
    exact Or.inl hne.symm))]
theorem prop_stop {t : ByteArray} {k : Nat} {c : UInt8} {w m : List UInt8} {right : ByteArray → Bool} (hc : isB c = false) (h : From t k (c :: m)) : propF t k w right = none := by
  unfold propF
  rw [if_pos (Or.inl (h.white0 hc))]
theorem end_here {t : ByteArray} {k : Nat} {l : List UInt8} (ps : List (ByteArray × ByteArray)) (h : From t k (63 :: 62 :: l)) : declEnd t k ps true = .ok (⟨1, ⟨#[]⟩, ps, ⟨#[]⟩, 0⟩, k + 2) := by
  unfold declEnd
  rw [h.white0 (by decide), h.sees, if_pos (by simp [List.isPrefixOf]), if_pos rfl]
theorem alone_here {t : ByteArray} {k : Nat} {l : List UInt8} (s : Bool) (ps : List (ByteArray × ByteArray)) (a : Option ByteArray) (ha : ∀ x, a = some x → aloneB x = true)
    (h : From t k (pairsW s (optP aloneW a) ++ 63 :: 62 :: l)) :
    declAlone t k ps true = .ok (⟨1, ⟨#[]⟩, ps ++ optP aloneW a, ⟨#[]⟩, 0⟩, k + (pairsW s (optP aloneW a)).length + 2) := by
  cases a with
  | none =>
    change From t k (63 :: 62 :: l) at h
    have hno : propF t k [115, 116, 97, 110, 100, 97, 108, 111, 110, 101] aloneB = none := prop_stop (by decide) h
    unfold declAlone
    rw [hno]
    simp only
    rw [end_here ps h, optP, List.append_nil]
    rfl
  | some x =>
    simp only [optP, pairsW, List.append_nil] at h ⊢
    have hx := ha x rfl
    have hp := prop_here (right := aloneB) s (by decide) (clean_alone hx) hx h
    have h2 := h.tail
    unfold declAlone
    rw [show ([115, 116, 97, 110, 100, 97, 108, 111, 110, 101] : List UInt8) = 115 :: [116, 97, 110, 100, 97, 108, 111, 110, 101] from rfl, hp]
    exact end_here _ h2
theorem tok_decl {t v : ByteArray} {l : List UInt8} {e a : Option ByteArray} (s : Bool) (hd : DeclIs v e a) (h : From t 0 (60 :: 63 :: 120 :: 109 :: 108 :: (pairsW s (declPs v e a) ++ 63 :: 62 :: l))) :
    tokF t 0 = .ok (⟨1, ⟨#[]⟩, declPs v e a, ⟨#[]⟩, 0⟩, 0 + 5 + (pairsW s (declPs v e a)).length + 2) := by
  have h5 : From t 5 (pairsW s (declPs v e a) ++ 63 :: 62 :: l) := h.next.next.next.next.next
  have ho : opensB t 0 = true := by
    have g := h5
    unfold declPs at g
    rw [pairsW] at g
    unfold pairW at g
    rw [List.cons_append, List.cons_append] at g
    have := g.get
    unfold opensB
    rw [h.sees, this.2, decide_eq_true this.1]
    simp [List.isPrefixOf, isB]
  have h5' := h5
  unfold declPs at h5'
  rw [pairsW, List.append_assoc] at h5'
  have hv := prop_here (right := versionB) s (by decide) (clean_vers hd.vers) hd.vers h5'
  have h6 := h5'.tail
  unfold tokF
  rw [if_pos ho]
  unfold declF
  rw [show ([118, 101, 114, 115, 105, 111, 110] : List UInt8) = 118 :: [101, 114, 115, 105, 111, 110] from rfl, show 0 + 5 = 5 from rfl, hv]
  simp only
  cases e with
  | none =>
    simp only [optP, List.nil_append] at h6
    have hno : propF t (5 + (pairW s (⟨versW.toArray⟩, v)).length) [101, 110, 99, 111, 100, 105, 110, 103] encodingB = none := by
      cases a with
      | none => exact prop_stop (by decide) h6
      | some x => exact prop_skip (c := 115) (by decide) (by decide) h6
    have ha := alone_here s [(⟨versW.toArray⟩, v)] a hd.alone h6
    rw [show (118 :: [101, 114, 115, 105, 111, 110] : List UInt8) = versW from rfl, hno]
    simp only
    rw [ha]
    unfold declPs
    simp only [optP, pairsW, List.length_append, List.nil_append, List.cons_append, Except.ok.injEq, Prod.mk.injEq, true_and]
    omega
  | some x =>
    have hx := hd.enc x rfl
    simp only [optP, List.cons_append, List.nil_append, pairsW, List.append_assoc] at h6
    have he := prop_here (right := encodingB) s (by decide) (clean_enc hx.1) hx.1 h6
    have h7 := h6.tail
    have ha := alone_here s [(⟨versW.toArray⟩, v), (⟨encW.toArray⟩, x)] a hd.alone h7
    rw [show (118 :: [101, 114, 115, 105, 111, 110] : List UInt8) = versW from rfl, show ([101, 110, 99, 111, 100, 105, 110, 103] : List UInt8) = 101 :: [110, 99, 111, 100, 105, 110, 103] from rfl, he]
    simp only
    rw [hx.2, show (101 :: [110, 99, 111, 100, 105, 110, 103] : List UInt8) = encW from rfl, ha]
    unfold declPs
    simp only [optP, pairsW, List.length_append, List.nil_append, List.cons_append, Except.ok.injEq, Prod.mk.injEq, true_and]
    omega
end Go.Proofs.YteipiaefamfleaaGreatDoor
namespace Go.Proofs.YteipiaefamfleaaGreatDoor
open Go.RowKit

/-- Bytes without a fault. -/
def FL (l : List UInt8) : Prop := (faultF ⟨l.toArray⟩).2 = 0
theorem fl_nil : FL [] := rfl
theorem cat_list (a b : List UInt8) : (⟨(a ++ b).toArray⟩ : ByteArray) = ⟨a.toArray⟩ ++ ⟨b.toArray⟩ := by
  apply eq_of_list
  simp
theorem list_bytes (s : ByteArray) : (⟨s.data.toList.toArray⟩ : ByteArray) = s := rfl
theorem fl_cat {a b : List UInt8} (ha : FL a) (hb : FL b) : FL (a ++ b) := by
  unfold FL
  rw [cat_list]
  exact fault_cat ha hb
theorem fl_tail {a b : List UInt8} (ha : FL a) (h : FL (a ++ b)) : FL b := by
  unfold FL at h
  rw [cat_list] at h
  exact fault_tail ha h
theorem fl_front {a r : List UInt8} {c : UInt8} (hc : c.toNat < 128) (h : FL (a ++ c :: r)) : FL a := by
  unfold FL at h
  rw [cat_list] at h
  exact fault_front hc ⟨r, rfl⟩ h
theorem fl_one {r : Int} (h : charB r = true) : FL (Lib.encodeRune r) := by
  obtain ⟨hv, h0⟩ := char_valid h
  obtain ⟨n, rfl⟩ : ∃ n : Nat, r = n := ⟨r.toNat, by omega⟩
  have e : (⟨(Lib.encodeRune (n : Int)).toArray⟩ : ByteArray) = Utf8.encode (n : Int) := by
    apply eq_of_list
    rw [encode_list]
  unfold FL
  rw [e]
  have hr := rd_encode (n : Int)
  have hz := encode_size (n : Int)
  have h1 := faultAt_step (Utf8.encode (n : Int)) 0 (by omega) (by rw [hr]; simp only; omega) (by rw [hr, hv]; simpa using h)
  rw [hr] at h1
  simp only [Nat.zero_add] at h1
  have h2 := faultAt_end (Utf8.encode (n : Int)) (Utf8.encode (n : Int)).size (by omega)
  change (faultAt _ 0).2 = 0
  rw [h1, h2]
theorem fl_low : ∀ l : List UInt8, (∀ y ∈ l, FL [y]) → FL l
  | [], _ => fl_nil
  | x :: l, h => fl_cat (a := [x]) (h x (List.mem_cons_self ..)) (fl_low l (fun y hy => h y (List.mem_cons_of_mem _ hy)))
theorem fl_blank {l : List UInt8} (h : ∀ y ∈ l, isB y = true) : FL l := by
  refine fl_low l (fun y hy => ?_)
  have := h y hy
  unfold isB at this
  simp only [Bool.or_eq_true, beq_iff_eq] at this
  rcases this with ((rfl | rfl) | rfl) | rfl <;> rfl
/-- The first character of bytes without a fault. -/
theorem fl_first {x : UInt8} {t : List UInt8} (h : FL (x :: t)) : ∃ a r, x :: t = a ++ r ∧ 0 < a.length ∧ FL a ∧ FL r ∧ (x.toNat < 128 → a = [x]) ∧ (128 ≤ x.toNat → ∀ y ∈ a, 128 ≤ y.toNat) := by
  have hrd : rd ⟨(x :: t).toArray⟩ 0 = rdL (x :: t) := rd_list _ 0
  have hs : 0 < (⟨(x :: t).toArray⟩ : ByteArray).size := by
    change 0 < (x :: t).length
    simp
  have hl := rd_le ⟨(x :: t).toArray⟩ 0 hs
  rw [hrd] at hl
  change 0 + (rdL (x :: t)).2 ≤ (x :: t).length at hl
  have h0 : (rdL (x :: t)).2 ≠ 0 := by
    intro q
    have := faultAt_bad ⟨(x :: t).toArray⟩ 0 hs (by rw [hrd]; exact q)
    change (faultAt _ 0).2 = 0 at h
    rw [this] at h
    cases h
  have hc : charB ((rdL (x :: t)).1 : Nat) = true := by
    cases hcc : charB ((rdL (x :: t)).1 : Nat) with
    | true => rfl
    | false =>
      have := faultAt_no ⟨(x :: t).toArray⟩ 0 hs (by rw [hrd]; exact h0) (by rw [hrd]; exact hcc)
      change (faultAt _ 0).2 = 0 at h
      rw [this] at h
      cases h
  have he := encode_rdL x t h0
  have h1 := fl_one hc
  rw [he] at h1
  refine ⟨(x :: t).take (rdL (x :: t)).2, (x :: t).drop (rdL (x :: t)).2, (List.take_append_drop ..).symm, ?_, h1, fl_tail h1 ?_, fun q => ?_, fun q => rdL_take_high x t q h0⟩
  · rw [List.length_take]
    omega
  · rw [List.take_append_drop]
    exact h
  · rw [rdL_low x t q]
    rfl
/-- What is written of bytes without a fault has none. -/
theorem fl_written {esc : Int → ByteArray} (he : EscOk esc) (h1 : ∀ c, FL (esc c).data.toList) : ∀ (n : Nat) (l : List UInt8), l.length ≤ n → FL l → FL (writtenL esc l)
  | _, [], _, _ => fl_nil
  | 0, _ :: _, hn, _ => by simp at hn
  | n + 1, x :: t, hn, h => by
    obtain ⟨a, r, e, ha, fa, fr, hlo, hhi⟩ := fl_first h
    have hlen : (x :: t).length = a.length + r.length := by rw [e, List.length_append]
    have ih := fl_written he h1 n r (by omega) fr
    rw [e, written_cat]
    refine fl_cat ?_ ih
    by_cases hx : x.toNat < 128
    · rw [hlo hx] at fa ⊢
      by_cases hz : esc x.toNat = ⟨#[]⟩
      · rw [written_self hz]
        exact fa
      · rw [written_esc hz]
        exact fl_cat (h1 _) fl_nil
    · rw [written_high he a (hhi (by omega))]
      exact fa
theorem flA (c : Int) : FL (escA c).data.toList := by
  unfold escA
  repeat' split
  all_goals rfl
theorem flV (c : Int) : FL (escV c).data.toList := by
  unfold escV
  repeat' split
  all_goals rfl
theorem flT (c : Int) : FL (escT c).data.toList := by
  unfold escT
  repeat' split
  all_goals rfl
theorem fl_val (s : Bool) {v : ByteArray} (h : (faultF v).2 = 0) : FL (valW s v) := by
  unfold valW
  cases s with
  | true => exact fl_written escA_ok flA _ _ (Nat.le_refl _) h
  | false => exact fl_written escV_ok flV _ _ (Nat.le_refl _) h
theorem fl_text {v : ByteArray} (h : (faultF v).2 = 0) : FL (writtenL escT v.data.toList) := fl_written escT_ok flT _ _ (Nat.le_refl _) h
/-- What is said at a place is a character. -/
theorem exp_char {s : ByteArray} {pos : Nat} (h : (expF s pos).2.2 = 0) : charB (expF s pos).1 = true := by
  have num : ∀ f r, (numOut s f r).2.2 = 0 → charB (numOut s f r).1 = true := by
    intro f r q
    obtain ⟨h1, h2, h3, h4⟩ := numOut_fit q
    unfold numOut at q ⊢
    rw [if_neg (by simp [h1, h2, h3]), if_pos h4]
    exact h4
  unfold expF at h ⊢
  split
  · rename_i hc
    rw [if_pos hc] at h
    unfold numF at h ⊢
    split
    · rename_i h2
      rw [if_pos h2] at h
      exact num _ _ h
    · rename_i h2
      rw [if_neg h2] at h
      exact num _ _ h
  · rename_i hc
    rw [if_neg hc] at h
    obtain ⟨k, hk, _, _, e⟩ := named_which s pos 5 (Nat.le_refl _) h
    rw [e]
    match k, hk with
    | 0, _ => exact (show charB (charOf 0) = true by decide)
    | 1, _ => exact (show charB (charOf 1) = true by decide)
    | 2, _ => exact (show charB (charOf 2) = true by decide)
    | 3, _ => exact (show charB (charOf 3) = true by decide)
    | 4, _ => exact (show charB (charOf 4) = true by decide)
theorem both_char {s : ByteArray} {pos : Nat} (h : (bothF s pos).2.2 = 0) : charB (bothF s pos).1 = true := by
  unfold bothF at h ⊢
  split
  · rename_i hc
    rw [if_pos hc] at h
    cases h
  · rename_i hc
    rw [if_neg hc] at h
    split
    · rename_i h2
      rw [if_pos h2] at h
      exact exp_char h
    · rename_i h2
      rw [if_neg h2] at h
      unfold nextF at h ⊢
      split
      · rename_i h3
        rw [if_pos h3] at h
        cases h
      · rename_i h3
        rw [if_neg h3] at h
        split
        · assumption
        · rename_i h4
          rw [if_neg h4] at h
          cases h
theorem stepV_char {s : ByteArray} {pos : Nat} (h : (stepV s pos).2.2 = 0) : charB (stepV s pos).1 = true := by
  unfold stepV at h ⊢
  split
  · exact (show charB 32 = true by decide)
  · rename_i hc
    rw [if_neg hc] at h
    exact both_char h
theorem stepT_char {s : ByteArray} {pos : Nat} (h : (stepT s pos).2.2 = 0) : charB (stepT s pos).1 = true := by
  unfold stepT at h ⊢
  split
  · rename_i hc
    rw [if_pos hc] at h
    cases h
  · rename_i hc
    rw [if_neg hc] at h
    exact both_char h
theorem read_fl {step : Nat → Int × Int × Int} {n : Nat} (hs : ∀ pos, (step pos).2.2 = 0 → charB (step pos).1 = true) : ∀ f pos out, FL out → FL (readGo step n f pos out).1
  | 0, _, _, h => h
  | f + 1, pos, out, h => by
    rw [readGo]
    split
    · split
      · rename_i h2
        exact read_fl hs f _ _ (fl_cat h (fl_one (hs pos h2)))
      · exact fl_nil
    · exact h
theorem readV_fl (raw : ByteArray) : FL (readF (stepV raw) raw.size).1 := read_fl (fun _ h => stepV_char h) _ _ _ fl_nil
theorem readT_fl (raw : ByteArray) : FL (readF (stepT raw) raw.size).1 := read_fl (fun _ h => stepT_char h) _ _ _ fl_nil
/-- A name has no fault. -/
theorem parts_fl (t : ByteArray) : ∀ f k, t.size ≤ k + f → partsGo t f k = t.size → (faultAt t k).2 = 0
  | 0, k, hf, _ => by rw [faultAt_end t k (by omega)]
  | f + 1, k, hf, h => by
    by_cases hg : goesB t k
    · rw [parts_step hg] at h
      obtain ⟨g1, g2, _⟩ := hg
      have h0 := next_nz g2
      have hc : charB (rd t k).1 = true := by
        unfold nextF at g2
        rw [if_neg h0] at g2
        split at g2
        · assumption
        · cases g2
      have e : (nextF t k).2.1 = k + (rd t k).2 := by
        unfold nextF
        rw [if_neg h0, if_pos hc]
      rw [e] at h
      rw [faultAt_step t k g1 h0 hc]
      exact parts_fl t f _ (by omega) h
    · rw [parts_stop hg] at h
      rw [faultAt_end t k (by omega)]
theorem name_fl {n : ByteArray} (h : nameF n 0 = .ok (n, n.size)) : FL n.data.toList := parts_fl n n.size 0 (by omega) (name_ok h).2.2.2.1
end Go.Proofs.YteipiaefamfleaaGreatDoor
namespace Go.Proofs.YteipiaefamfleaaGreatDoor
open Go.RowKit

/-- A told token, by its kind. -/
inductive Told : Tok → Prop
  | decl (v : ByteArray) (e a : Option ByteArray) : DeclIs v e a → Told ⟨1, ⟨#[]⟩, declPs v e a, ⟨#[]⟩, 0⟩
  | tag (lone : Bool) (n : ByteArray) (ps : List (ByteArray × ByteArray)) : qualF n 0 = .ok (n, n.size) → (13 : UInt8) ∉ n.data.toList → (∀ p ∈ ps, PairOk p) → Apart ps → (∀ p ∈ ps, (13 : UInt8) ∉ p.1.data.toList) → Told ⟨kindW lone, n, ps, ⟨#[]⟩, 0⟩
  | close (n : ByteArray) : qualF n 0 = .ok (n, n.size) → (13 : UInt8) ∉ n.data.toList → Told ⟨3, n, [], ⟨#[]⟩, 0⟩
  | text (v : ByteArray) (r : Nat) : (faultF v).2 = 0 → 0 < v.size → Told ⟨5, ⟨#[]⟩, [], v, r⟩
  | data (v : ByteArray) : Free [93, 93, 62] v.data.toList → FL v.data.toList → (13 : UInt8) ∉ v.data.toList → Told ⟨6, ⟨#[]⟩, [], v, 0⟩
  | comment (v : ByteArray) : Free [45, 45] v.data.toList → FL v.data.toList → (13 : UInt8) ∉ v.data.toList → Told ⟨7, ⟨#[]⟩, [], v, 0⟩
  | instr (n v : ByteArray) : nameF n 0 = .ok (n, n.size) → (13 : UInt8) ∉ n.data.toList → nameB n = true → xmlB n = false → Free [63, 62] v.data.toList → Tight v → FL v.data.toList → (13 : UInt8) ∉ v.data.toList → Told ⟨8, n, [], v, 0⟩
theorem ext_mem {t : ByteArray} {k i : Nat} {y : UInt8} (h : y ∈ (t.extract k i).data.toList) : y ∈ t.data.toList := by
  simp only [ByteArray.data_extract, Array.toList_extract, List.extract_eq_take_drop] at h
  exact List.mem_of_mem_drop (List.mem_of_mem_take h)
theorem name_no13 {t n : ByteArray} {k i : Nat} (h13 : (13 : UInt8) ∉ t.data.toList) (h : nameF t k = .ok (n, i)) : (13 : UInt8) ∉ n.data.toList := by
  rw [(name_ok h).2.2.1]
  exact fun q => h13 (ext_mem q)
theorem pair_told {t : ByteArray} {k m : Nat} {p : ByteArray × ByteArray} (h13 : (13 : UInt8) ∉ t.data.toList) (h : pairF t k = .ok (p, m)) : PairOk p ∧ (13 : UInt8) ∉ p.1.data.toList := by
  obtain ⟨i, j, raw, h1, _, _, _, h5⟩ := pair_ok h
  refine ⟨⟨(qual_alone h1).1, ?_⟩, name_no13 h13 (qual_ok h1).1⟩
  rw [h5]
  exact readV_fl raw
theorem tag_told {t n : ByteArray} (h13 : (13 : UInt8) ∉ t.data.toList) : ∀ f k ps x i, (∀ p ∈ ps, PairOk p) → Apart ps → (∀ p ∈ ps, (13 : UInt8) ∉ p.1.data.toList) → tagGo t n f k ps = .ok (x, i) →
    ∃ lone ps', x = ⟨kindW lone, n, ps', ⟨#[]⟩, 0⟩ ∧ (∀ p ∈ ps', PairOk p) ∧ Apart ps' ∧ (∀ p ∈ ps', (13 : UInt8) ∉ p.1.data.toList)
  | 0, _, _, _, _, _, _, _, h => by cases h
  | f + 1, k, ps, x, i, hp, ha, hn, h => by
    unfold tagGo at h
    split at h
    · injection h with h
      injection h with h1 h2
      exact ⟨false, ps, h1.symm, hp, ha, hn⟩
    split at h
    · injection h with h
      injection h with h1 h2
      exact ⟨true, ps, h1.symm, hp, ha, hn⟩
    split at h
    · cases h
    split at h
    · cases h
    rename_i p j hpj
    split at h
    · cases h
    rename_i hany
    obtain ⟨q1, q2⟩ := pair_told h13 hpj
    exact tag_told h13 f j (ps ++ [p]) x i
      (fun a g => (List.mem_append.1 g).elim (hp a) (fun g => by rw [List.mem_singleton.1 g]; exact q1))
      (apart_snoc ha (Bool.eq_false_iff.2 hany))
      (fun a g => (List.mem_append.1 g).elim (hn a) (fun g => by rw [List.mem_singleton.1 g]; exact q2)) h
theorem from_pre {t : ByteArray} {k : Nat} {s : List UInt8} (hk : k ≤ t.size) (h : seesB t k s = true) : ∃ l, From t k (s ++ l) := by
  obtain ⟨l, hl⟩ := pre_of h
  exact ⟨l, hk, hl⟩
theorem fl_from {t : ByteArray} {k : Nat} {c : UInt8} {l : List UInt8} (hf : FL t.data.toList) (h : From t k (c :: l)) (hc : c.toNat < 128) : FL (c :: l) := by
  rw [← List.take_append_drop k t.data.toList, h.2] at hf
  exact fl_tail (fl_front hc hf) hf
/-- What stands between two ASCII characters of a text without faults. -/
theorem fl_mid {t : ByteArray} {k : Nat} {c d : UInt8} {v l : List UInt8} (hf : FL t.data.toList) (h : From t k (c :: (v ++ d :: l))) (hc : c.toNat < 128) (h1 : FL [c]) (hd : d.toNat < 128) : FL v :=
  fl_front hd (fl_tail (a := [c]) h1 (fl_from hf h hc))
theorem cut_from {t : ByteArray} {k i : Nat} {w L : List UInt8} (h : From t k L) (hf : findF t k w = some i) : ∃ l, L = (t.extract k i).data.toList ++ (w ++ l) := by
  obtain ⟨h1, h2, h3, h4⟩ := (find_iff h.1).1 hf
  obtain ⟨l0, g1, g2, g3⟩ := from_at h2 h1 rfl
  rw [g2.sees] at h3
  obtain ⟨r, hr⟩ := List.isPrefixOf_iff_prefix.1 h3
  exact ⟨r, by rw [hr]; exact h.same g1⟩
theorem data_told {t : ByteArray} {k i : Nat} {x : Tok} (hf : FL t.data.toList) (h13 : (13 : UInt8) ∉ t.data.toList) (hk : k ≤ t.size) (hs : seesB t k [60, 33, 91, 67, 68, 65, 84, 65, 91] = true) (h : dataF t (k + 9) = .ok (x, i)) : Told x := by
  obtain ⟨l, hl⟩ := from_pre hk hs
  have h8 : From t (k + 8) (91 :: l) := hl.next.next.next.next.next.next.next.next
  have h9 : From t (k + 9) l := h8.next
  unfold dataF at h
  split at h
  · cases h
  rename_i m hm
  injection h with h
  injection h with h1 h2
  obtain ⟨l', rfl⟩ := cut_from h9 hm
  rw [← h1]
  exact .data _ (free_of h9.1 hm) (fl_mid hf h8 (by decide) (by rfl) (by decide)) (fun q => h13 (ext_mem q))
theorem comment_told {t : ByteArray} {k i : Nat} {x : Tok} (hf : FL t.data.toList) (h13 : (13 : UInt8) ∉ t.data.toList) (hk : k ≤ t.size) (hs : seesB t k [60, 33, 45, 45] = true) (h : commentF t (k + 4) = .ok (x, i)) : Told x := by
  obtain ⟨l, hl⟩ := from_pre hk hs
  have h8 : From t (k + 3) (45 :: l) := hl.next.next.next
  have h9 : From t (k + 4) l := h8.next
  unfold commentF at h
  split at h
  · cases h
  rename_i m hm
  split at h
  · injection h with h
    injection h with h1 h2
    obtain ⟨l', rfl⟩ := cut_from h9 hm
    rw [← h1]
    exact .comment _ (free_of h9.1 hm) (fl_mid hf h8 (by decide) (by rfl) (by decide)) (fun q => h13 (ext_mem q))
  · cases h
theorem drop_while_first {c : UInt8} {l : List UInt8} : ∀ L : List UInt8, L.dropWhile isB = c :: l → isB c = false
  | [], h => by cases h
  | y :: L, h => by
    rw [List.dropWhile_cons] at h
    split at h
    · exact drop_while_first L h
    · rename_i hy
      injection h with h1 h2
      rw [← h1]
      simpa using hy
theorem tw_all : ∀ (L : List UInt8) (y : UInt8), y ∈ L.takeWhile isB → isB y = true
  | [], _, h => by cases h
  | a :: L, y, h => by
    rw [List.takeWhile_cons] at h
    split at h
    · rename_i ha
      rcases List.mem_cons.1 h with rfl | g
      · exact ha
      · exact tw_all L y g
    · cases h
theorem white_from {t : ByteArray} {k : Nat} {L : List UInt8} (h : From t k L) : From t (whiteTo t k) (L.dropWhile isB) ∧ L = L.takeWhile isB ++ L.dropWhile isB ∧ (∀ y ∈ L.takeWhile isB, isB y = true) := by
  have e : L = L.takeWhile isB ++ L.dropWhile isB := (List.takeWhile_append_dropWhile).symm
  refine ⟨?_, e, fun y hy => ?_⟩
  · have : whiteTo t k = k + (L.takeWhile isB).length := by
      unfold whiteTo
      rw [h.2]
    rw [this]
    rw [e] at h
    exact h.tail
  · exact tw_all L y hy
theorem instr_told {t : ByteArray} {k i : Nat} {x : Tok} (hf : FL t.data.toList) (h13 : (13 : UInt8) ∉ t.data.toList) (hk : k ≤ t.size) (hs : seesB t k [60, 63] = true) (h : instrF t (k + 2) = .ok (x, i)) : Told x := by
  obtain ⟨l, hl⟩ := from_pre hk hs
  have h1 : From t (k + 1) ([63] ++ l) := hl.next
  have h2 : From t (k + 2) l := h1.tail
  have fl : FL l := fl_tail (a := [63]) (by rfl) (fl_from hf h1 (by decide))
  unfold instrF at h
  split at h
  · cases h
  rename_i n j hn
  split at h
  · cases h
  rename_i hnb
  split at h
  · cases h
  rename_i hx
  split at h
  · cases h
  split at h
  · cases h
  rename_i m hm
  injection h with h
  injection h with g1 g2
  obtain ⟨n1, n2, n3, _⟩ := name_ok hn
  obtain ⟨na, _⟩ := name_alone hn
  obtain ⟨l1, e1, e2, _⟩ := from_at n2 (by omega) n3
  have hl1 := h2.same e1
  rw [hl1] at fl
  have fl1 := fl_tail (name_fl na) fl
  obtain ⟨w1, w2, w3⟩ := white_from e2
  rw [w2] at fl1
  have fl2 := fl_tail (fl_blank w3) fl1
  obtain ⟨l2, c2⟩ := cut_from w1 hm
  rw [c2] at fl2
  rw [← g1]
  refine .instr n _ na (name_no13 h13 hn) (by simpa using hnb) (by simpa using hx) (free_of w1.1 hm) (fun c V hV => ?_) (fl_front (c := 63) (by decide) fl2) (fun q => h13 (ext_mem q))
  rw [hV] at c2
  exact drop_while_first _ c2
theorem close_told {t : ByteArray} {k i : Nat} {x : Tok} (h13 : (13 : UInt8) ∉ t.data.toList) (h : closingF t k = .ok (x, i)) : Told x := by
  unfold closingF at h
  split at h
  · cases h
  rename_i n j hn
  split at h
  · injection h with h
    injection h with g1 g2
    rw [← g1]
    exact .close n (qual_alone hn).1 (name_no13 h13 (qual_ok hn).1)
  · cases h
theorem tagF_told {t : ByteArray} {k i : Nat} {x : Tok} (h13 : (13 : UInt8) ∉ t.data.toList) (h : tagF t k = .ok (x, i)) : Told x := by
  unfold tagF at h
  split at h
  · cases h
  rename_i n j hn
  obtain ⟨lone, ps, rfl, h1, h2, h3⟩ := tag_told h13 _ _ _ _ _ (by simp) List.Pairwise.nil (by simp) h
  exact .tag lone n ps (qual_alone hn).1 (name_no13 h13 (qual_ok hn).1) h1 h2 h3
theorem read_grow {step : Nat → Int × Int × Int} {n : Nat} : ∀ f pos out, (readGo step n f pos out).2.2 = 0 → out.length ≤ (readGo step n f pos out).1.length
  | 0, _, _, _ => Nat.le_refl _
  | f + 1, pos, out, h => by
    rw [readGo] at h ⊢
    split
    · rename_i h1
      rw [if_pos h1] at h
      split
      · rename_i h2
        rw [if_pos h2] at h
        have := read_grow f _ _ h
        rw [List.length_append] at this
        omega
      · rename_i h2
        rw [if_neg h2] at h
        exact absurd h h2
    · exact Nat.le_refl _
theorem chars_told {t : ByteArray} {k i : Nat} {x : Tok} (hk : k < i) (hi : i ≤ t.size) (h : charsF t k = .ok (x, i)) : Told x := by
  unfold charsF at h
  simp only at h
  split at h
  · rename_i h0
    injection h with h
    injection h with g1 g2
    rw [g2] at g1 h0
    rw [← g1]
    refine .text _ _ (readT_fl _) ?_
    have hz : (t.extract k i).size = i - k := by simp; omega
    obtain ⟨m, hm⟩ : ∃ m, (t.extract k i).size = m + 1 := ⟨i - k - 1, by omega⟩
    change 0 < (readF (stepT (t.extract k i)) (t.extract k i).size).1.length
    unfold readF at h0 ⊢
    rw [hm] at h0 ⊢
    rw [readGo, if_pos (by omega)] at h0 ⊢
    split at h0
    · rename_i h2
      rw [if_pos h2]
      have := read_grow _ _ _ h0
      have hone : 0 < (Lib.encodeRune (stepT (t.extract k i) 0).1).length := by
        rw [encode_len]
        exact (Lib.encodeRuneZ_length _).1
      rw [List.length_append] at this
      omega
    · rename_i h2
      exact absurd h0 h2
  · cases h
end Go.Proofs.YteipiaefamfleaaGreatDoor
namespace Go.Proofs.YteipiaefamfleaaGreatDoor
open Go.RowKit

theorem end_told {t : ByteArray} {k i : Nat} {ps : List (ByteArray × ByteArray)} {q : Bool} {x : Tok} (h : declEnd t k ps q = .ok (x, i)) : q = true ∧ x = ⟨1, ⟨#[]⟩, ps, ⟨#[]⟩, 0⟩ := by
  unfold declEnd at h
  split at h
  · split at h
    · rename_i hq
      injection h with h
      injection h with h1 h2
      exact ⟨hq, h1.symm⟩
    · cases h
  · cases h
theorem alone_told {t : ByteArray} {k i : Nat} {ps : List (ByteArray × ByteArray)} {q : Bool} {x : Tok} (hk : k ≤ t.size) (h : declAlone t k ps q = .ok (x, i)) :
    q = true ∧ ∃ a : Option ByteArray, (∀ y, a = some y → aloneB y = true) ∧ x = ⟨1, ⟨#[]⟩, ps ++ optP aloneW a, ⟨#[]⟩, 0⟩ := by
  unfold declAlone at h
  split at h
  · obtain ⟨h1, h2⟩ := end_told h
    exact ⟨h1, none, (fun y e => by cases e), by rw [h2, optP, List.append_nil]⟩
  · rename_i p j hp
    obtain ⟨_, _, p1, p2, _⟩ := prop_ok hk hp
    obtain ⟨h1, h2⟩ := end_told h
    refine ⟨h1, some p.2, (fun y e => by injection e with e; rw [← e]; exact p2), ?_⟩
    rw [h2, optP]
    congr 2
    rw [← show (p.1, p.2) = p from rfl, p1]
    rfl
theorem decl_told {t : ByteArray} {k i : Nat} {x : Tok} (hk : k ≤ t.size) (h : declF t k = .ok (x, i)) : Told x := by
  unfold declF at h
  split at h
  · cases h
  rename_i v j hv
  obtain ⟨_, v2, v3, v4, _⟩ := prop_ok hk hv
  have hvp : v = (⟨versW.toArray⟩, v.2) := by rw [← show (v.1, v.2) = v from rfl, v3]; rfl
  split at h
  · obtain ⟨_, a, ha, rfl⟩ := alone_told v2 h
    rw [hvp]
    exact .decl v.2 none a ⟨v4, (fun y e => by cases e), ha⟩
  · rename_i c m hc
    obtain ⟨_, c2, c3, c4, _⟩ := prop_ok v2 hc
    have hcp : c = (⟨encW.toArray⟩, c.2) := by rw [← show (c.1, c.2) = c from rfl, c3]; rfl
    obtain ⟨hq, a, ha, rfl⟩ := alone_told c2 h
    rw [hvp, hcp]
    exact .decl v.2 (some c.2) a ⟨v4, (fun y e => by injection e with e; rw [← e]; exact ⟨c4, hq⟩), ha⟩
/-- WHAT IS TOLD OF A TEXT WITHOUT FAULTS AND WITHOUT RETURNS CAN BE WRITTEN. -/
theorem tok_told {t : ByteArray} {k i : Nat} {x : Tok} (hf : FL t.data.toList) (h13 : (13 : UInt8) ∉ t.data.toList) (hk : k < t.size) (h : tokF t k = .ok (x, i)) : Told x := by
  obtain ⟨k1, k2, _⟩ := tok_ok hk h
  have hle := Nat.le_of_lt hk
  unfold tokF at h
  split at h
  · rename_i ho
    unfold opensB at ho
    simp only [Bool.and_eq_true, decide_eq_true_eq] at ho
    exact decl_told (k := k + 5) (by omega) h
  split at h
  · rename_i hs
    exact comment_told hf h13 hle hs h
  split at h
  · rename_i hs
    exact data_told hf h13 hle hs h
  split at h
  · cases h
  split at h
  · cases h
  split at h
  · rename_i hs
    exact instr_told hf h13 hle hs h
  split at h
  · exact close_told h13 h
  split at h
  · exact tagF_told h13 h
  · exact chars_told k1 k2 h
/-- A token, written. -/
def shownL (s : Bool) (x : Tok) : List UInt8 :=
  if x.kind = 1 then 60 :: 63 :: 120 :: 109 :: 108 :: (pairsW s x.pairs ++ [63, 62])
  else if x.kind = 2 then 60 :: (x.name.data.toList ++ (pairsW s x.pairs ++ [62]))
  else if x.kind = 4 then 60 :: (x.name.data.toList ++ (pairsW s x.pairs ++ [47, 62]))
  else if x.kind = 3 then 60 :: 47 :: (x.name.data.toList ++ [62])
  else if x.kind = 5 then writtenL escT x.text.data.toList
  else if x.kind = 6 then 60 :: 33 :: 91 :: 67 :: 68 :: 65 :: 84 :: 65 :: 91 :: (x.text.data.toList ++ [93, 93, 62])
  else if x.kind = 7 then 60 :: 33 :: 45 :: 45 :: (x.text.data.toList ++ [45, 45, 62])
  else 60 :: 63 :: (x.name.data.toList ++ (gapW x.text ++ (x.text.data.toList ++ [63, 62])))
/-- Two tokens that say the same, but for how a text was written. -/
structure Like (x y : Tok) : Prop where
  kind : y.kind = x.kind
  name : y.name = x.name
  pairs : y.pairs = x.pairs
  text : y.text = x.text
theorem Like.rfl {x : Tok} : Like x x := ⟨Eq.refl _, Eq.refl _, Eq.refl _, Eq.refl _⟩
theorem size_list (s : ByteArray) : s.data.toList.length = s.size := Array.length_toList
/-- WHAT IS WRITTEN AT A PLACE IS TOLD THERE. -/
theorem told_shown {t : ByteArray} {k : Nat} {x : Tok} {l : List UInt8} (s : Bool) (hx : Told x) (h : From t k (shownL s x ++ l)) (h1 : x.kind = 1 → k = 0) (h5 : x.kind = 5 → l = [] ∨ ∃ l', l = 60 :: l') :
    ∃ y, tokF t k = .ok (y, k + (shownL s x).length) ∧ Like x y := by
  cases hx with
  | decl v e a hd =>
    obtain rfl := h1 rfl
    have g : From t 0 (60 :: 63 :: 120 :: 109 :: 108 :: (pairsW s (declPs v e a) ++ 63 :: 62 :: l)) := by
      simpa [shownL] using h
    refine ⟨_, (tok_decl s hd g).trans ?_, Like.rfl⟩
    congr 2
    simp [shownL]
    omega
  | tag lone n ps hn h13 hp ha _ =>
    have g : From t k (60 :: (n.data.toList ++ (pairsW s ps ++ (tailW lone ++ l)))) := by
      cases lone <;> simpa [shownL, kindW, tailW] using h
    refine ⟨_, (tok_tag s lone hn hp ha g).trans ?_, Like.rfl⟩
    congr 2
    cases lone <;> simp [shownL, kindW, tailW] <;> omega
  | close n hn _ =>
    have g : From t k (60 :: 47 :: (n.data.toList ++ 62 :: l)) := by
      simpa [shownL] using h
    refine ⟨_, (tok_close hn g).trans ?_, Like.rfl⟩
    congr 2
    simp [shownL]
    omega
  | text v r hv h0 =>
    obtain ⟨r', e⟩ := tok_text hv h0 h (h5 rfl)
    exact ⟨_, e, ⟨rfl, rfl, rfl, rfl⟩⟩
  | data v hv _ _ =>
    have g : From t k (60 :: 33 :: 91 :: 67 :: 68 :: 65 :: 84 :: 65 :: 91 :: (v.data.toList ++ ([93, 93, 62] ++ l))) := by
      simpa [shownL] using h
    refine ⟨_, (tok_data hv g).trans ?_, Like.rfl⟩
    congr 2
    simp [shownL]
    omega
  | comment v hv _ _ =>
    have g : From t k (60 :: 33 :: 45 :: 45 :: (v.data.toList ++ ([45, 45] ++ 62 :: l))) := by
      simpa [shownL] using h
    refine ⟨_, (tok_comment hv g).trans ?_, Like.rfl⟩
    congr 2
    simp [shownL]
    omega
  | instr n v hn _ hb hx hv ht _ _ =>
    have g : From t k (60 :: 63 :: (n.data.toList ++ (gapW v ++ (v.data.toList ++ ([63, 62] ++ l))))) := by
      simpa [shownL] using h
    refine ⟨_, (tok_instr hn hb hx hv ht g).trans ?_, Like.rfl⟩
    congr 2
    simp [shownL]
    omega
theorem shown_first (s : Bool) {x : Tok} (hx : Told x) : (x.kind ≠ 5 → ∃ l, shownL s x = 60 :: l) ∧ 0 < (shownL s x).length := by
  cases hx with
  | text v r hv h0 =>
    refine ⟨fun h => absurd rfl h, ?_⟩
    change 0 < (writtenL escT v.data.toList).length
    have hvl := size_list v
    cases hd : v.data.toList with
    | nil => rw [hd] at hvl; simp at hvl; omega
    | cons y z => exact written_pos escT y z
  | tag lone n ps _ _ _ _ _ => cases lone <;> exact ⟨fun _ => ⟨_, rfl⟩, by simp [shownL, kindW]⟩
  | _ => exact ⟨fun _ => ⟨_, rfl⟩, by simp [shownL]⟩
end Go.Proofs.YteipiaefamfleaaGreatDoor
namespace Go.Proofs.YteipiaefamfleaaGreatDoor
open Go.RowKit

theorem fl_ascii {y : UInt8} (h1 : 32 ≤ y.toNat) (h2 : y.toNat < 128) : FL [y] := by
  have hc : charB (y.toNat : Int) = true := by
    unfold charB
    rw [decide_eq_true]
    omega
  have he := encode_rdL y [] (by rw [rdL_low y [] h2]; simp)
  rw [rdL_low y [] h2] at he
  have := fl_one hc
  rw [he] at this
  exact this
theorem fl_clean {v : ByteArray} (h : Clean v) : FL v.data.toList := by
  refine fl_low _ (fun y hy => ?_)
  obtain ⟨_, _, _, _, h5, h6⟩ := h y hy
  exact fl_ascii h5 h6
theorem val_no13 (s : Bool) (v : ByteArray) : (13 : UInt8) ∉ valW s v := by
  unfold valW
  cases s with
  | true =>
    intro h
    exact absurd (writtenA_none _ _ h) (by decide)
  | false =>
    intro h
    exact absurd (writtenV_none _ _ h) (by decide)
theorem text_no13 (v : ByteArray) : (13 : UInt8) ∉ writtenL escT v.data.toList := fun h => absurd (writtenT_none _ _ h) (by decide)
/-- Bytes that may stand in a text: no fault, no return. -/
def Good (l : List UInt8) : Prop := FL l ∧ (13 : UInt8) ∉ l
theorem good_nil : Good [] := ⟨fl_nil, by simp⟩
theorem good_cat {a b : List UInt8} (ha : Good a) (hb : Good b) : Good (a ++ b) := ⟨fl_cat ha.1 hb.1, fun h => (List.mem_append.1 h).elim ha.2 hb.2⟩
theorem good_cons {c : UInt8} {l : List UInt8} (hc : Good [c]) (hl : Good l) : Good (c :: l) := good_cat (a := [c]) hc hl
theorem good_lit (l : List UInt8) (h : ∀ y ∈ l, 32 ≤ y.toNat ∧ y.toNat < 128) : Good l := by
  refine ⟨fl_low l (fun y hy => fl_ascii (h y hy).1 (h y hy).2), fun q => ?_⟩
  have := (h 13 q).1
  revert this
  decide
theorem good_pairs (s : Bool) : ∀ ps : List (ByteArray × ByteArray), (∀ p ∈ ps, Good p.1.data.toList ∧ (faultF p.2).2 = 0) → Good (pairsW s ps)
  | [], _ => good_nil
  | p :: ps, h => by
    have ih := good_pairs s ps (fun q hq => h q (List.mem_cons_of_mem _ hq))
    obtain ⟨h1, h2⟩ := h p (List.mem_cons_self ..)
    have hq : Good [quoteW s] := by cases s <;> exact good_lit _ (by decide)
    exact good_cat (good_cons (good_lit _ (by decide)) (good_cat h1 (good_cons (good_lit _ (by decide)) (good_cons hq (good_cat ⟨fl_val s h2, val_no13 s p.2⟩ hq))))) ih
theorem good_vers : Good versW := good_lit versW (by decide)
theorem good_enc : Good encW := good_lit encW (by decide)
theorem good_alone : Good aloneW := good_lit aloneW (by decide)
theorem good_decl {v : ByteArray} {e a : Option ByteArray} (h : DeclIs v e a) : ∀ p ∈ declPs v e a, Good p.1.data.toList ∧ (faultF p.2).2 = 0 := by
  intro p hp
  unfold declPs at hp
  rcases List.mem_cons.1 hp with rfl | hp
  · exact ⟨good_vers, fl_clean (clean_vers h.vers)⟩
  · rcases List.mem_append.1 hp with hp | hp
    · cases e with
      | none => cases hp
      | some x =>
        obtain rfl := List.mem_singleton.1 hp
        exact ⟨good_enc, fl_clean (clean_enc (h.enc x rfl).1)⟩
    · cases a with
      | none => cases hp
      | some x =>
        obtain rfl := List.mem_singleton.1 hp
        exact ⟨good_alone, fl_clean (clean_alone (h.alone x rfl))⟩
theorem good_at {a b c : List UInt8} (ha : ∀ y ∈ a, 32 ≤ y.toNat ∧ y.toNat < 128) (hb : Good b) (hc : ∀ y ∈ c, 32 ≤ y.toNat ∧ y.toNat < 128) : Good (a ++ (b ++ c)) := good_cat (good_lit a ha) (good_cat hb (good_lit c hc))
theorem good_shown (s : Bool) {x : Tok} (hx : Told x) : Good (shownL s x) := by
  cases hx with
  | decl v e a hd =>
    have q : shownL s ⟨1, ⟨#[]⟩, declPs v e a, ⟨#[]⟩, 0⟩ = [60, 63, 120, 109, 108] ++ (pairsW s (declPs v e a) ++ [63, 62]) := by simp [shownL]
    rw [q]
    exact good_at (by decide) (good_pairs s _ (good_decl hd)) (by decide)
  | tag lone n ps hn h13 hp ha hp13 =>
    have g1 : Good n.data.toList := ⟨name_fl (qual_ok hn).1, h13⟩
    have g2 := good_pairs s ps (fun p hq => ⟨⟨name_fl (qual_ok (hp p hq).name).1, hp13 p hq⟩, (hp p hq).value⟩)
    have q : shownL s ⟨kindW lone, n, ps, ⟨#[]⟩, 0⟩ = [60] ++ ((n.data.toList ++ pairsW s ps) ++ tailW lone) := by cases lone <;> simp [shownL, kindW, tailW]
    rw [q]
    exact good_at (by decide) (good_cat g1 g2) (by cases lone <;> decide)
  | close n hn h13 =>
    have q : shownL s ⟨3, n, [], ⟨#[]⟩, 0⟩ = [60, 47] ++ (n.data.toList ++ [62]) := by simp [shownL]
    rw [q]
    exact good_at (by decide) ⟨name_fl (qual_ok hn).1, h13⟩ (by decide)
  | text v r hv h0 =>
    have q : shownL s ⟨5, ⟨#[]⟩, [], v, r⟩ = writtenL escT v.data.toList := by simp [shownL]
    rw [q]
    exact ⟨fl_text hv, text_no13 v⟩
  | data v _ hf h13 =>
    have q : shownL s ⟨6, ⟨#[]⟩, [], v, 0⟩ = [60, 33, 91, 67, 68, 65, 84, 65, 91] ++ (v.data.toList ++ [93, 93, 62]) := by simp [shownL]
    rw [q]
    exact good_at (by decide) ⟨hf, h13⟩ (by decide)
  | comment v _ hf h13 =>
    have q : shownL s ⟨7, ⟨#[]⟩, [], v, 0⟩ = [60, 33, 45, 45] ++ (v.data.toList ++ [45, 45, 62]) := by simp [shownL]
    rw [q]
    exact good_at (by decide) ⟨hf, h13⟩ (by decide)
  | instr n v hn hn13 _ _ _ _ hf h13 =>
    have hg : Good (gapW v) := by
      unfold gapW
      split
      · exact good_nil
      · exact good_lit [32] (by decide)
    have q : shownL s ⟨8, n, [], v, 0⟩ = [60, 63] ++ ((n.data.toList ++ (gapW v ++ v.data.toList)) ++ [63, 62]) := by simp [shownL]
    rw [q]
    exact good_at (by decide) (good_cat ⟨name_fl hn, hn13⟩ (good_cat hg ⟨hf, h13⟩)) (by decide)
/-- All tokens, written one behind the other. -/
def shownAll (s : Bool) : List (Nat × Tok) → List UInt8
  | [] => []
  | x :: l => shownL s x.2 ++ shownAll s l
theorem shown_snoc (s : Bool) (x : Nat × Tok) : ∀ l, shownAll s (l ++ [x]) = shownAll s l ++ shownL s x.2
  | [] => by simp [shownAll]
  | y :: l => by rw [List.cons_append, shownAll, shownAll, shown_snoc s x l, List.append_assoc]
/-- Tokens told again: the same, each at the place where it was written. -/
inductive Again (s : Bool) : Nat → List (Nat × Tok) → List (Nat × Tok) → Prop
  | nil (k : Nat) : Again s k [] []
  | cons {k : Nat} {x : Nat × Tok} {y : Tok} {l m : List (Nat × Tok)} : Like x.2 y → Again s (k + (shownL s x.2).length) l m → Again s k (x :: l) ((k, y) :: m)
theorem Again.len {s : Bool} {k : Nat} {l m : List (Nat × Tok)} (h : Again s k l m) : m.length = l.length := by
  induction h with
  | nil => rfl
  | cons _ _ ih => simp [ih]
theorem Again.at {s : Bool} {k : Nat} {l m : List (Nat × Tok)} (h : Again s k l m) : ∀ (i : Nat) (x y : Nat × Tok), l[i]? = some x → m[i]? = some y → Like x.2 y.2 ∧ y.1 = k + (shownAll s (l.take i)).length := by
  induction h with
  | nil => intro i x y h; simp at h
  | cons hl _ ih =>
    intro i x y hx hy
    cases i with
    | zero =>
      simp only [List.getElem?_cons_zero, Option.some.injEq] at hx hy
      subst hx hy
      exact ⟨hl, by simp [shownAll]⟩
    | succ i =>
      simp only [List.getElem?_cons_succ] at hx hy
      obtain ⟨h1, h2⟩ := ih i x y hx hy
      refine ⟨h1, ?_⟩
      rw [h2, List.take_succ_cons, shownAll, List.length_append]
      omega
theorem chain_shown {t : ByteArray} (s : Bool) (hf : FL t.data.toList) (h13 : (13 : UInt8) ∉ t.data.toList) {kt : Nat} {l : List (Nat × Tok)} (hc : Chain t kt l) :
    Good (shownAll s l) ∧ ∀ (S : ByteArray) (k f : Nat) (l0 : List (Nat × Tok)), From S k (shownAll s l) → (kt = 0 → k = 0) → S.size ≤ k + f → ∃ m, toksGo S f k l0 = .ok (l0 ++ m) ∧ Again s k l m := by
  induction hc with
  | nil =>
    refine ⟨good_nil, fun S k f l0 h _ _ => ⟨[], ?_, .nil k⟩⟩
    have := h.len
    simp only [shownAll, List.length_nil] at this
    rw [List.append_nil]
    cases f with
    | zero => rfl
    | succ f => rw [toksGo, if_neg (by omega)]
  | @cons kt i x l hk hx hc ih =>
    have hT := tok_told hf h13 hk hx
    obtain ⟨t1, t2, _, t4, t5⟩ := tok_ok hk hx
    refine ⟨good_cat (good_shown s hT) ih.1, fun S k f l0 h h0 hfu => ?_⟩
    have hlen := h.len
    simp only [shownAll, List.length_append] at hlen
    obtain ⟨hfirst, hpos⟩ := shown_first s hT
    obtain ⟨f, rfl⟩ : ∃ g, f = g + 1 := ⟨f - 1, by omega⟩
    have h5 : x.kind = 5 → shownAll s l = [] ∨ ∃ l', shownAll s l = 60 :: l' := by
      intro hk5
      cases hc with
      | nil => exact Or.inl rfl
      | @cons _ j y l2 g1 g2 g3 =>
        right
        have hy := (shown_first s (tok_told hf h13 g1 g2)).1 (fun e => by
          have := ((tok_ok g1 g2).2.2.2.2 e).1
          rw [(t5 hk5).2 g1] at this
          cases this)
        obtain ⟨l', hl'⟩ := hy
        exact ⟨l' ++ shownAll s l2, by rw [shownAll, hl']; rfl⟩
    obtain ⟨y, hy, hL⟩ := told_shown s hT h (fun e => h0 (t4 e)) h5
    obtain ⟨m, hm, hA⟩ := ih.2 S (k + (shownL s x).length) f (l0 ++ [(k, y)]) h.tail (by omega) (by omega)
    refine ⟨(k, y) :: m, ?_, .cons hL hA⟩
    rw [toksGo, if_pos (by omega), hy]
    simp only
    rw [hm, List.append_assoc]
    rfl
/-- TOKENS THAT WERE TOLD, WRITTEN ONE BEHIND THE OTHER, ARE TOLD AGAIN. -/
theorem shows_plain {b u : ByteArray} {l : List (Nat × Tok)} (s : Bool) (h : allF b = .ok l) (hu : u.data.toList = shownAll s l) (hz : u.size ≤ 65533) : ∃ m, allF (markedB u) = .ok m ∧ Again s 0 l m := by
  obtain ⟨_, h2, h3⟩ := all_ok2 h
  have n13 : (13 : UInt8) ∉ (textF b).data.toList := by
    rw [text_bare, linesB_list]
    exact lines_no13 _
  obtain ⟨l1, e, hc⟩ := chain_of _ _ _ _ (Nat.zero_le _) (by omega) h3
  rw [List.nil_append] at e
  subst e
  obtain ⟨⟨g1, g2⟩, g3⟩ := chain_shown (t := textF b) s h2 n13 hc
  have hf : From u 0 (shownAll s l) := by
    rw [← hu]
    exact from_zero u
  obtain ⟨m, hm, hA⟩ := g3 u 0 u.size [] hf (fun _ => rfl) (by omega)
  rw [List.nil_append] at hm
  have ht : textF (markedB u) = u := text_marked (by rw [hu]; exact g2)
  have hms : (markedB u).size ≤ u.size + 3 := by
    unfold markedB
    split
    · rw [size_cat]
      change 3 + u.size ≤ u.size + 3
      omega
    · omega
  refine ⟨m, ?_, hA⟩
  unfold allF
  rw [ht, if_neg (by omega), if_neg (by rw [← list_bytes u, hu]; exact fun q => q g1)]
  exact hm
end Go.Proofs.YteipiaefamfleaaGreatDoor
namespace Go.Proofs.YteipiaefamfleaaGreatDoor
open Go.RowKit

/-- A byte as a number of three digits. -/
def threeL (y : UInt8) : List UInt8 := [38, 35, 48 + y / 100, 48 + y / 10 % 10, 48 + y % 10, 59]
def apartOne (y : UInt8) : List UInt8 := if y.toNat = 38 ∨ y.toNat = 60 ∨ y.toNat = 39 ∨ y.toNat < 32 then threeL y else [y]
theorem apart_one {y : UInt8} (h : y.toNat < 32 → y.toNat = 9 ∨ y.toNat = 10 ∨ y.toNat = 13) : apartOne y = oneL escA y := by
  by_cases hz : escA y.toNat = ⟨#[]⟩
  · obtain ⟨h1, h2, h3, h4, h5, h6⟩ := (escA_iff _).1 hz
    unfold apartOne oneL
    rw [if_pos hz, if_neg (by omega)]
  · have hc : y.toNat = 38 ∨ y.toNat = 60 ∨ y.toNat = 39 ∨ y.toNat = 9 ∨ y.toNat = 10 ∨ y.toNat = 13 := by
      have := mt (escA_iff (y.toNat : Int)).2 hz
      omega
    rcases hc with e | e | e | e | e | e <;> (have := u8_of y _ e; subst this; decide)
theorem low_of_fl : ∀ (n : Nat) (l : List UInt8), l.length ≤ n → FL l → ∀ y ∈ l, y.toNat < 32 → y.toNat = 9 ∨ y.toNat = 10 ∨ y.toNat = 13
  | _, [], _, _, _, h, _ => by cases h
  | 0, _ :: _, hn, _, _, _, _ => by simp at hn
  | n + 1, x :: t, hn, h, y, hy, h32 => by
    obtain ⟨a, r, e, ha, fa, fr, hlo, hhi⟩ := fl_first h
    have hlen : (x :: t).length = a.length + r.length := by rw [e, List.length_append]
    rw [e] at hy
    rcases List.mem_append.1 hy with g | g
    · by_cases hx : x.toNat < 128
      · rw [hlo hx] at fa g
        obtain rfl := List.mem_singleton.1 g
        have hrd : rd ⟨[y].toArray⟩ 0 = rdL [y] := rd_list _ 0
        rw [rdL_low y [] hx] at hrd
        have hs : 0 < (⟨[y].toArray⟩ : ByteArray).size := Nat.one_pos
        cases hc : charB (y.toNat : Int) with
        | true =>
          unfold charB at hc
          simp only [decide_eq_true_eq] at hc
          omega
        | false =>
          have := faultAt_no ⟨[y].toArray⟩ 0 hs (by rw [hrd]; exact Nat.one_ne_zero) (by rw [hrd]; exact hc)
          change (faultAt _ 0).2 = 0 at fa
          rw [this] at fa
          cases fa
      · have := hhi (by omega) y g
        omega
    · exact low_of_fl n r (by omega) fr y g h32
theorem apart_all : ∀ l : List UInt8, (∀ y ∈ l, y.toNat < 32 → y.toNat = 9 ∨ y.toNat = 10 ∨ y.toNat = 13) → l.flatMap apartOne = writtenL escA l
  | [], _ => rfl
  | x :: l, h => by
    rw [List.flatMap_cons, written_cons, apart_one (h x (List.mem_cons_self ..)), apart_all l (fun y hy => h y (List.mem_cons_of_mem _ hy))]
/-- THE LAW'S OWN WRITER SAYS WHAT THE PLAIN ONE SAYS. -/
theorem apart_fl {v : ByteArray} (h : (faultF v).2 = 0) : v.data.toList.flatMap apartOne = valW true v := apart_all _ (low_of_fl _ _ (Nat.le_refl _) h)
end Go.Proofs.YteipiaefamfleaaGreatDoor
namespace Go.Proofs.YteipiaefamfleaaGreatDoor
open Go.RowKit

theorem read4 {step : Nat → Int × Int × Int} {n : Nat} : ∀ f pos out, (readGo step n f pos out).1.length ≤ out.length + 4 * f
  | 0, _, out => by rw [readGo]; show out.length ≤ _; omega
  | f + 1, pos, out => by
    rw [readGo]
    split
    · split
      · have h := read4 (step := step) (n := n) f (step pos).2.1.toNat (out ++ Lib.encodeRune (step pos).1)
        have := encode_len4 (step pos).1
        rw [List.length_append] at h
        omega
      · show 0 ≤ _
        omega
    · show out.length ≤ _
      omega
theorem ext_le (t : ByteArray) (k i : Nat) : (t.extract k i).size ≤ t.size := by rw [ByteArray.size_extract]; omega
theorem read_le {step : Nat → Int × Int × Int} (raw t : ByteArray) (h : raw.size ≤ t.size) : (⟨(readF step raw.size).1.toArray⟩ : ByteArray).size ≤ 4 * t.size := by
  have h1 := read4 (step := step) (n := raw.size) raw.size 0 []
  show (readF step raw.size).1.toArray.size ≤ _
  rw [List.size_toArray]
  unfold readF
  simp at h1
  omega
/-- What is told is no greater than so much. -/
structure Fit (n : Nat) (x : Tok) : Prop where
  name : x.name.size ≤ n
  text : x.text.size ≤ 4 * n
  pairs : ∀ p ∈ x.pairs, p.1.size ≤ n + 16 ∧ p.2.size ≤ 4 * n
theorem quoted_le {t raw : ByteArray} {k m : Nat} (h : quotedF t k = some (raw, m)) : raw.size ≤ t.size := by
  unfold quotedF at h
  split at h
  · obtain ⟨i, _, e⟩ := Option.map_eq_some_iff.1 h
    injection e with e1 _
    rw [← e1]; exact ext_le _ _ _
  · split at h
    · obtain ⟨i, _, e⟩ := Option.map_eq_some_iff.1 h
      injection e with e1 _
      rw [← e1]; exact ext_le _ _ _
    · cases h
theorem name_le {t n : ByteArray} {k i : Nat} (h : nameF t k = .ok (n, i)) : n.size ≤ t.size := by
  unfold nameF at h
  split at h
  · injection h with h
    injection h with h1 _
    rw [← h1]; exact ext_le _ _ _
  · cases h
theorem qual_le {t n : ByteArray} {k i : Nat} (h : qualF t k = .ok (n, i)) : n.size ≤ t.size := name_le (qual_ok h).1
theorem pair_fit {t : ByteArray} {k m : Nat} {p : ByteArray × ByteArray} (h : pairF t k = .ok (p, m)) : p.1.size ≤ t.size + 16 ∧ p.2.size ≤ 4 * t.size := by
  unfold pairF at h
  split at h
  · cases h
  rename_i n i hn
  split at h
  · cases h
  split at h
  · cases h
  rename_i raw m' hq
  split at h
  · injection h with h
    injection h with h1 _
    subst h1
    exact ⟨Nat.le_trans (qual_le hn) (Nat.le_add_right _ _), read_le raw t (quoted_le hq)⟩
  · cases h
theorem tag_fit (t n : ByteArray) (hn : n.size ≤ t.size) : ∀ f k ps x i, (∀ p ∈ ps, p.1.size ≤ t.size + 16 ∧ p.2.size ≤ 4 * t.size) → tagGo t n f k ps = .ok (x, i) → Fit t.size x
  | 0, k, ps, x, i, _, h => by cases h
  | f + 1, k, ps, x, i, hp, h => by
    unfold tagGo at h
    split at h
    · injection h with h
      injection h with h1 h2
      subst h1
      exact ⟨hn, Nat.zero_le _, hp⟩
    split at h
    · injection h with h
      injection h with h1 h2
      subst h1
      exact ⟨hn, Nat.zero_le _, hp⟩
    split at h
    · cases h
    split at h
    · cases h
    · rename_i p m hpair
      split at h
      · cases h
      · refine tag_fit t n hn f m (ps ++ [p]) x i (fun q hq => ?_) h
        rcases List.mem_append.1 hq with hq | hq
        · exact hp q hq
        · obtain rfl := List.mem_singleton.1 hq
          exact pair_fit hpair
theorem prop_fit {t : ByteArray} {k m : Nat} {word : List UInt8} {right : ByteArray → Bool} {p : ByteArray × ByteArray} (hw : word.length ≤ 16) (h : propF t k word right = some (p, m)) : p.1.size ≤ t.size + 16 ∧ p.2.size ≤ 4 * t.size := by
  unfold propF at h
  split at h
  · cases h
  split at h
  · cases h
  split at h
  · cases h
  rename_i raw m' hq
  split at h
  · injection h with h
    injection h with h1 _
    subst h1
    refine ⟨?_, by have := quoted_le hq; show raw.size ≤ _; omega⟩
    show word.toArray.size ≤ _
    rw [List.size_toArray]; omega
  · cases h
theorem end_fit {t : ByteArray} {k i : Nat} {ps : List (ByteArray × ByteArray)} {q : Bool} {x : Tok} (hp : ∀ p ∈ ps, p.1.size ≤ t.size + 16 ∧ p.2.size ≤ 4 * t.size) (h : declEnd t k ps q = .ok (x, i)) : Fit t.size x := by
  obtain ⟨_, rfl⟩ := end_told h
  exact ⟨Nat.zero_le _, Nat.zero_le _, hp⟩
theorem two_fit {t : ByteArray} {a b : List (ByteArray × ByteArray)} (h1 : ∀ p ∈ a, p.1.size ≤ t.size + 16 ∧ p.2.size ≤ 4 * t.size) (h2 : ∀ p ∈ b, p.1.size ≤ t.size + 16 ∧ p.2.size ≤ 4 * t.size) : ∀ p ∈ a ++ b, p.1.size ≤ t.size + 16 ∧ p.2.size ≤ 4 * t.size := fun p hp => (List.mem_append.1 hp).elim (h1 p) (h2 p)
theorem one_fit {t : ByteArray} {a : ByteArray × ByteArray} (h : a.1.size ≤ t.size + 16 ∧ a.2.size ≤ 4 * t.size) : ∀ p ∈ [a], p.1.size ≤ t.size + 16 ∧ p.2.size ≤ 4 * t.size := fun p hp => by
  obtain rfl := List.mem_singleton.1 hp
  exact h
theorem alone_fit {t : ByteArray} {k i : Nat} {ps : List (ByteArray × ByteArray)} {q : Bool} {x : Tok} (hp : ∀ p ∈ ps, p.1.size ≤ t.size + 16 ∧ p.2.size ≤ 4 * t.size) (h : declAlone t k ps q = .ok (x, i)) : Fit t.size x := by
  unfold declAlone at h
  split at h
  · exact end_fit hp h
  · rename_i p j hj
    exact end_fit (two_fit hp (one_fit (prop_fit (by decide) hj))) h
theorem decl_fit {t : ByteArray} {k i : Nat} {x : Tok} (h : declF t k = .ok (x, i)) : Fit t.size x := by
  unfold declF at h
  split at h
  · cases h
  · rename_i v j hv
    split at h
    · exact alone_fit (one_fit (prop_fit (by decide) hv)) h
    · rename_i c m hc
      exact alone_fit (two_fit (a := [v]) (one_fit (prop_fit (by decide) hv)) (one_fit (prop_fit (by decide) hc))) h
theorem fit_text {t v : ByteArray} (kind refs : Nat) (n : ByteArray) (hn : n.size ≤ t.size) (h : v.size ≤ 4 * t.size) : Fit t.size ⟨kind, n, [], v, refs⟩ := ⟨hn, h, fun p hp => by cases hp⟩
theorem ext_four (t : ByteArray) (k i : Nat) : (t.extract k i).size ≤ 4 * t.size := by have := ext_le t k i; omega
theorem tok_fit {t : ByteArray} {k i : Nat} {x : Tok} (h : tokF t k = .ok (x, i)) : Fit t.size x := by
  unfold tokF at h
  split at h
  · exact decl_fit h
  split at h
  · unfold commentF at h
    repeat' split at h
    all_goals first
      | (cases h; done)
      | (injection h with h; injection h with h1 h2; subst h1; exact fit_text _ _ _ (Nat.zero_le _) (ext_four _ _ _))
  split at h
  · unfold dataF at h
    repeat' split at h
    all_goals first
      | (cases h; done)
      | (injection h with h; injection h with h1 h2; subst h1; exact fit_text _ _ _ (Nat.zero_le _) (ext_four _ _ _))
  split at h
  · cases h
  split at h
  · cases h
  split at h
  · unfold instrF at h
    split at h
    · cases h
    · rename_i n j hn
      repeat' split at h
      all_goals first
        | (cases h; done)
        | (injection h with h; injection h with h1 h2; subst h1; exact fit_text _ _ _ (name_le hn) (ext_four _ _ _))
  split at h
  · unfold closingF at h
    split at h
    · cases h
    · rename_i n j hn
      split at h
      · injection h with h
        injection h with h1 h2
        subst h1
        exact fit_text _ _ _ (qual_le hn) (Nat.zero_le _)
      · cases h
  split at h
  · unfold tagF at h
    split at h
    · cases h
    · rename_i n j hn
      exact tag_fit t n (qual_le hn) _ _ _ _ _ (fun p hp => by cases hp) h
  · unfold charsF at h
    simp only at h
    split at h
    · injection h with h
      injection h with h1 h2
      subst h1
      exact fit_text _ _ _ (Nat.zero_le _) (read_le _ t (ext_le _ _ _))
    · cases h
theorem toks_fit {t : ByteArray} (hf : FL t.data.toList) (h13 : (13 : UInt8) ∉ t.data.toList) : ∀ f k l l', (∀ x ∈ l, Told x.2 ∧ Fit t.size x.2) → toksGo t f k l = .ok l' → ∀ x ∈ l', Told x.2 ∧ Fit t.size x.2
  | 0, k, l, l', hl, h => by
    injection h with h
    subst h
    exact hl
  | f + 1, k, l, l', hl, h => by
    unfold toksGo at h
    split at h
    · rename_i hk
      split at h
      · cases h
      · rename_i x i hx
        refine toks_fit hf h13 f i _ l' (fun y hy => ?_) h
        rcases List.mem_append.1 hy with hy | hy
        · exact hl y hy
        · obtain rfl := List.mem_singleton.1 hy
          exact ⟨tok_told hf h13 hk hx, tok_fit hx⟩
    · injection h with h
      subst h
      exact hl
theorem all_fit {b : ByteArray} {l : List (Nat × Tok)} (h : allF b = .ok l) : ∀ x ∈ l, Told x.2 ∧ Fit 65536 x.2 := by
  obtain ⟨h1, h2, h3⟩ := all_ok2 h
  have n13 : (13 : UInt8) ∉ (textF b).data.toList := by
    rw [text_bare, linesB_list]
    exact lines_no13 _
  have hts := text_size b
  intro x hx
  obtain ⟨g1, g2⟩ := toks_fit (t := textF b) h2 n13 _ _ _ _ (fun y hy => by cases hy) h3 x hx
  exact ⟨g1, ⟨by have := g2.name; omega, by have := g2.text; omega, fun p hp => by have := g2.pairs p hp; omega⟩⟩
theorem val_len (s : Bool) (v : ByteArray) : (valW s v).length ≤ 6 * v.size := by
  unfold valW
  split
  · exact Nat.le_trans (written_size escA_size _) (by rw [size_list]; exact Nat.le_refl _)
  · exact Nat.le_trans (written_size escV_size _) (by rw [size_list]; exact Nat.le_refl _)
theorem pairs_bound (s : Bool) : ∀ ps : List (ByteArray × ByteArray), (∀ p ∈ ps, p.1.size ≤ 65536 + 16 ∧ p.2.size ≤ 4 * 65536) → (pairsW s ps).length ≤ 2000000 * ps.length
  | [], _ => Nat.zero_le _
  | p :: ps, h => by
    have ih := pairs_bound s ps (fun q hq => h q (List.mem_cons_of_mem _ hq))
    have h1 := h p (List.mem_cons_self ..)
    have h2 := val_len s p.2
    rw [pairsW, List.length_append, pairW_length, List.length_cons]
    omega
theorem shown_bound (s : Bool) {x : Tok} (h : Fit 65536 x) (hp : x.pairs.length ≤ 65539) : (shownL s x).length ≤ 200000000000 := by
  have h1 := pairs_bound s x.pairs h.pairs
  have h2 := h.name
  have h3 := h.text
  have h4 := written_size escT_size x.text.data.toList
  have h5 : (gapW x.text).length ≤ 1 := by unfold gapW; split <;> simp
  have e1 := size_list x.name
  have e2 := size_list x.text
  unfold shownL
  repeat' split
  all_goals try simp only [List.length_cons, List.length_append, List.length_nil]
  all_goals omega
end Go.Proofs.YteipiaefamfleaaGreatDoor
namespace Go.Proofs.YteipiaefamfleaaGreatDoor
open Go.RowKit

theorem told_kind {x : Tok} (h : Told x) : 1 ≤ x.kind ∧ x.kind ≤ 8 := by
  cases h with
  | tag lone => cases lone <;> exact ⟨by show 1 ≤ _; simp [kindW], by simp [kindW]⟩
  | _ => exact ⟨by simp, by simp⟩
theorem told_val {x : Tok} (h : Told x) : ∀ p ∈ x.pairs, (faultF p.2).2 = 0 := by
  cases h with
  | decl v e a hd => exact fun p hp => (good_decl hd p hp).2
  | tag lone n ps hn h13 hp ha hp13 => exact fun p hq => (hp p hq).value
  | _ => exact fun p hp => by cases hp
/-- Where the first n tokens are written. -/
def atsL (s : Bool) (l : List (Nat × Tok)) (n : Nat) : List Int := (List.range n).map fun j => ((shownAll s (l.take j)).length : Int)
theorem ats_length (s : Bool) (l : List (Nat × Tok)) (n : Nat) : (atsL s l n).length = n := by simp [atsL]
theorem ats_snoc (s : Bool) (l : List (Nat × Tok)) (n : Nat) : atsL s l (n + 1) = atsL s l n ++ [((shownAll s (l.take n)).length : Int)] := by simp [atsL, List.range_succ]
theorem ats_getD (s : Bool) (l : List (Nat × Tok)) (n i : Nat) (h : i < n) : (atsL s l n).getD i 0 = ((shownAll s (l.take i)).length : Int) := by
  simp [atsL, List.getD_eq_getElem?_getD, List.getElem?_range h]
theorem shown_take {s : Bool} {l : List (Nat × Tok)} {i : Nat} {x : Nat × Tok} (h : l[i]? = some x) : shownAll s (l.take (i + 1)) = shownAll s (l.take i) ++ shownL s x.2 := by
  rw [List.take_add_one, h, Option.toList_some, shown_snoc]
/-- All that the walk needs of the tokens that were told. -/
theorem shows_facts {b : ByteArray} {l : List (Nat × Tok)} (s : Bool) (h : allF b = .ok l) : l.length ≤ 65536 ∧ ∀ (i : Nat) x, l[i]? = some x → (1 ≤ x.2.kind ∧ x.2.kind ≤ 8) ∧ Fit 65536 x.2 ∧ x.2.pairs.length ≤ 65539 ∧ (∀ p ∈ x.2.pairs, (faultF p.2).2 = 0) ∧ (shownL s x.2).length ≤ 200000000000 := by
  obtain ⟨h1, h2⟩ := all_len h
  refine ⟨h1, fun i x hx => ?_⟩
  have hm := List.mem_of_getElem? hx
  obtain ⟨g1, g2⟩ := all_fit h x hm
  exact ⟨told_kind g1, g2, h2 x hm, told_val g1, shown_bound s g2 (h2 x hm)⟩
end Go.Proofs.YteipiaefamfleaaGreatDoor
