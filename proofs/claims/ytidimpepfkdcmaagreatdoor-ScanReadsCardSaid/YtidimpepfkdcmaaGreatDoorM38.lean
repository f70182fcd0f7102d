/- Proved here: what the document's One answers, given what its tag and declaration answer. | Proved here: the document's tokens as they lie in memory, one more of them, and where their cells are. | Proved here: the document's Fault answers faultF of every slice of bytes, and leaves the world as it was. | Proved here: the document's Text answers the text of every slice of bytes. | Proved here: what the document's All answers of every slice of bytes. | Proved here: what both scanners answer, in one form, and where their tokens' cells lie. | Proved here: what the document's helpers Same, Spare and Kept answer: two slices of the same bytes are the same; a copy with room behind it, and that it is as it was. What was there stays. | Proved here: what stays when the scanner's first answer is wiped out: all blocks outside those that its call made. -/
import Derived.Test.YtidimpepfkdcmaaGreatDoorM25
import Derived.Test.YtidimpepfkdcmaaGreatDoorM26
import Derived.Test.YtidimpepfkdcmaaGreatDoorM27
import Derived.Test.YtidimpepfkdcmaaGreatDoorM29
import Derived.Test.YtidimpepfkdcmaaGreatDoorM10
import Derived.Test.YtidimpepfkdcmaaGreatDoorM20
import Derived.Test.YtidimpepfkdcmaaGreatDoorM11
import Derived.Test.YtidimpepfkdcmaaGreatDoorM19
import Derived.Test.YtidimpepfkdcmaaGreatDoorM43
import Derived.BigGuardPart
import Derived.Test.YtidimpepfkdcmaaGreatDoorM36
import Derived.Test.YtidimpepfkdcmaaGreatDoorM37
import Derived.Test.YtidimpepfkdcmaaGreatDoorM35
import Derived.Test.YtidimpepfkdcmaaGreatDoorM0
import Derived.Test.YtidimpepfkdcmaaGreatDoorM1
namespace Go.Proofs.YtidimpepfkdcmaaGreatDoor
open Go.RowKit

theorem sees_prefix {t : ByteArray} {k : Nat} {s : List UInt8} (h : seesB t k s = true) : ∃ r, t.data.toList.drop k = s ++ r := by
  obtain ⟨r, hr⟩ := List.isPrefixOf_iff_prefix.1 h
  exact ⟨r, hr.symm⟩
theorem com_end {t : ByteArray} {m : Nat} (h : seesB t m [45, 45] = true) : seesB t m [45, 45, 62] = seesB t (m + 2) [62] := by
  obtain ⟨r, hr⟩ := sees_prefix h
  unfold seesB
  rw [← List.drop_drop, hr]
  simp [Lib.hasPrefix]
theorem opens_white (t : ByteArray) : 5 < whiteTo t 5 ↔ (5 < t.size ∧ isB (t.get! 5) = true) := by
  constructor
  · intro h
    apply Decidable.byContradiction
    intro q
    rw [ws_stop q] at h
    omega
  · rintro ⟨h1, h2⟩
    rw [← ws_step h1 h2]
    unfold whiteTo
    omega
theorem opens_yes {t : ByteArray} {k : Nat} (h : opensB t k = true) : k = 0 ∧ seesB t 0 [60, 63, 120, 109, 108] = true ∧ 5 < whiteTo t 5 := by
  unfold opensB at h
  simp only [Bool.and_eq_true, decide_eq_true_eq] at h
  exact ⟨h.1.1.1, h.1.1.2, (opens_white t).2 ⟨h.1.2, h.2⟩⟩
theorem opens_no {t : ByteArray} {k : Nat} (h : opensB t k = false) : ¬ k = 0 ∨ (k = 0 ∧ seesB t 0 [60, 63, 120, 109, 108] = false) ∨ (k = 0 ∧ seesB t 0 [60, 63, 120, 109, 108] = true ∧ whiteTo t 5 = 5) := by
  by_cases hk : k = 0
  · cases hx : seesB t 0 [60, 63, 120, 109, 108]
    · exact .inr (.inl ⟨hk, rfl⟩)
    · refine .inr (.inr ⟨hk, rfl, ws_stop fun q => ?_⟩)
      unfold opensB at h
      rw [hx, decide_eq_true hk, decide_eq_true q.1, q.2] at h
      cases h
  · exact .inl hk
abbrev Pre (t : ByteArray) (k : Nat) : Prop := ¬ k = 0 ∨ (k = 0 ∧ seesB t 0 [60, 63, 120, 109, 108] = false)
theorem sees_lt {t : ByteArray} {k : Nat} (h : k < t.size) : seesB t k [60] = true ↔ t.get! k = 60 := by
  unfold seesB
  rw [drop_at t k h]
  simp [Lib.hasPrefix]
  exact eq_comm
theorem one_chars (t : ByteArray) (k : Nat) (w : World) (ht : t.size ≤ 4000000) (hlt : k < t.size) (hP : Pre t k) (s0 : seesB t k [60, 33, 45, 45] = false) (s1 : seesB t k [60, 33, 91, 67, 68, 65, 84, 65, 91] = false) (s2 : seesB t k [60, 33, 68, 79, 67, 84, 89, 80, 69] = false) (s3 : seesB t k [60, 33] = false) (s4 : seesB t k [60, 63] = false) (s5 : seesB t k [60, 47] = false) (s9 : seesB t k [60] = false) :
    Calls Tryz.prog 17 #[.string t, .int .i64 (k : Int)] w (RtPost w (charsF t k)) := by
  have hk := Nat.le_of_lt hlt
  have hb : ¬ t.get! k = 60 := fun q => by
    rw [(sees_lt hlt).2 q] at s9
    cases s9
  have HR := fun (W : World) (b off cap : Nat) (h1 : (t.extract k (charsTo t k)).size ≤ cap) (h2 : ∀ j, j < (t.extract k (charsTo t k)).size → W.cell? ⟨b, off + j, none⟩ = some (.int .u8 (((t.extract k (charsTo t k)).get! j).toNat : Int))) => refread_text (t.extract k (charsTo t k)) b off cap W (by simp; omega) h1 h2
  have hE : k ≤ charsTo t k ∧ charsTo t k ≤ t.size := by
    unfold charsTo
    cases hf : findF t k [60] with
    | none => exact ⟨hk, Nat.le_refl _⟩
    | some m => obtain ⟨q1, q2, _⟩ := (find_iff hk).1 hf; exact ⟨q1, q2⟩
  by_cases he : (readF (stepT (t.extract k (charsTo t k))) (t.extract k (charsTo t k)).size).2.2 = 0
  · have hr : charsF t k = .ok (⟨5, ⟨#[]⟩, [], ⟨(readF (stepT (t.extract k (charsTo t k))) (t.extract k (charsTo t k)).size).1.toArray⟩, cntF t k (charsTo t k)⟩, charsTo t k) := by
      rw [cnt_all]
      unfold charsF
      rw [if_pos he]
    cases hf : findF t k [60] with
    | none =>
      have e : charsTo t k = t.size := by unfold charsTo; rw [hf]; rfl
      rw [e] at HR hr he
      rcases hP with h0 | ⟨h0, hX⟩
      · exact (rone_chars_eg_n t k w ht hk h0 s0 s1 s2 s3 s4 s5 hlt hb hf _ _ _ he HR).mono fun e w' z => rt_plain hr z
      · exact (rone_chars_eg_z t k w ht hk h0 hX s0 s1 s2 s3 s4 s5 hlt hb hf _ _ _ he HR).mono fun e w' z => rt_plain hr z
    | some m =>
      have e : charsTo t k = m := by unfold charsTo; rw [hf]; rfl
      rw [e] at HR hr he hE
      rcases hP with h0 | ⟨h0, hX⟩
      · exact (rone_chars_ig_n t k w ht hk h0 s0 s1 s2 s3 s4 s5 hlt hb m hE hf _ _ _ he HR).mono fun e w' z => rt_plain hr z
      · exact (rone_chars_ig_z t k w ht hk h0 hX s0 s1 s2 s3 s4 s5 hlt hb m hE hf _ _ _ he HR).mono fun e w' z => rt_plain hr z
  · have hr : charsF t k = .error (readF (stepT (t.extract k (charsTo t k))) (t.extract k (charsTo t k)).size).2.2.toNat := by
      unfold charsF
      rw [if_neg he]
    have hz : (((readF (stepT (t.extract k (charsTo t k))) (t.extract k (charsTo t k)).size).2.2.toNat : Nat) : Int) = (readF (stepT (t.extract k (charsTo t k))) (t.extract k (charsTo t k)).size).2.2 := Int.toNat_of_nonneg (readT_nn _)
    cases hf : findF t k [60] with
    | none =>
      have e : charsTo t k = t.size := by unfold charsTo; rw [hf]; rfl
      rw [e] at HR hr he hz
      rcases hP with h0 | ⟨h0, hX⟩
      · exact (rone_chars_eb_n t k w ht hk h0 s0 s1 s2 s3 s4 s5 hlt hb hf _ _ _ he HR).mono fun e w' z => rt_err hr (by rw [hz]; exact z)
      · exact (rone_chars_eb_z t k w ht hk h0 hX s0 s1 s2 s3 s4 s5 hlt hb hf _ _ _ he HR).mono fun e w' z => rt_err hr (by rw [hz]; exact z)
    | some m =>
      have e : charsTo t k = m := by unfold charsTo; rw [hf]; rfl
      rw [e] at HR hr he hz hE
      rcases hP with h0 | ⟨h0, hX⟩
      · exact (rone_chars_ib_n t k w ht hk h0 s0 s1 s2 s3 s4 s5 hlt hb m hE hf _ _ _ he HR).mono fun e w' z => rt_err hr (by rw [hz]; exact z)
      · exact (rone_chars_ib_z t k w ht hk h0 hX s0 s1 s2 s3 s4 s5 hlt hb m hE hf _ _ _ he HR).mono fun e w' z => rt_err hr (by rw [hz]; exact z)
theorem one_rest (t : ByteArray) (k : Nat) (w : World) (ht : t.size ≤ 4000000) (hlt : k < t.size) (hP : Pre t k) (hop : opensB t k = false)
    (HT : ∀ W, Calls Tryz.prog 33 #[.string t, .int .i64 ((k + 1 : Nat) : Int)] W (RtPost W (tagF t (k + 1)))) :
    Calls Tryz.prog 17 #[.string t, .int .i64 (k : Int)] w (RtPost w (tokF t k)) := by
  have hk := Nat.le_of_lt hlt
  unfold tokF
  rw [hop, if_neg (by decide)]
  cases s0 : seesB t k [60, 33, 45, 45]
  · rw [if_neg (by decide)]
    cases s1 : seesB t k [60, 33, 91, 67, 68, 65, 84, 65, 91]
    · rw [if_neg (by decide)]
      cases s2 : seesB t k [60, 33, 68, 79, 67, 84, 89, 80, 69]
      · rw [if_neg (by decide)]
        cases s3 : seesB t k [60, 33]
        · rw [if_neg (by decide)]
          cases s4 : seesB t k [60, 63]
          · rw [if_neg (by decide)]
            cases s5 : seesB t k [60, 47]
            · rw [if_neg (by decide)]
              cases s9 : seesB t k [60]
              · rw [if_neg (by decide)]
                exact one_chars t k w ht hlt hP s0 s1 s2 s3 s4 s5 s9
              · rw [if_pos rfl]
                rcases hP with h0 | ⟨h0, hX⟩
                · exact rone_tag_n t k w ht hk h0 s0 s1 s2 s3 s4 s5 hlt s9 _ HT
                · exact rone_tag_z t k w ht hk h0 hX s0 s1 s2 s3 s4 s5 hlt s9 _ HT
            · rw [if_pos rfl]
              have hk2 := sees_room hk s5
              simp only [List.length_cons, List.length_nil] at hk2
              cases hq : qualF t (k + 2) with
              | error e0 =>
                have he0 : e0 ≠ 0 := by rcases qual_err hq with q | q <;> omega
                have hr : closingF t (k + 2) = .error e0 := by unfold closingF; rw [hq]
                rcases hP with h0 | ⟨h0, hX⟩
                · exact (rone_sl_err_n t k w ht hk h0 s0 s1 s2 s3 s4 s5 e0 he0 (by omega) hq).mono fun e w' z => rt_err hr z
                · exact (rone_sl_err_z t k w ht hk h0 hX s0 s1 s2 s3 s4 s5 e0 he0 (by omega) hq).mono fun e w' z => rt_err hr z
              | ok r =>
                obtain ⟨n, i⟩ := r
                have hi : i ≤ t.size := (name_ok (qual_ok hq).1).2.1
                cases hs : seesB t (whiteTo t i) [62]
                · have hr : closingF t (k + 2) = .error 23 := by unfold closingF; rw [hq]; simp [hs]
                  rcases hP with h0 | ⟨h0, hX⟩
                  · exact (rone_sl_bad_n t k w ht hk h0 s0 s1 s2 s3 s4 s5 (by omega) n i hq hi hs).mono fun e w' z => rt_err hr z
                  · exact (rone_sl_bad_z t k w ht hk h0 hX s0 s1 s2 s3 s4 s5 (by omega) n i hq hi hs).mono fun e w' z => rt_err hr z
                · have hr : closingF t (k + 2) = .ok (⟨3, n, [], ⟨#[]⟩, 0⟩, whiteTo t i + 1) := by unfold closingF; rw [hq]; simp [hs]
                  rcases hP with h0 | ⟨h0, hX⟩
                  · exact (rone_sl_good_n t k w ht hk h0 s0 s1 s2 s3 s4 s5 (by omega) n i hq hi hs).mono fun e w' z => rt_plain hr z
                  · exact (rone_sl_good_z t k w ht hk h0 hX s0 s1 s2 s3 s4 s5 (by omega) n i hq hi hs).mono fun e w' z => rt_plain hr z
          · rw [if_pos rfl]
            have hk2 := sees_room hk s4
            simp only [List.length_cons, List.length_nil] at hk2
            have HI := fun W => refInstr_any t (k + 2) W ht (by omega)
            rcases hP with h0 | ⟨h0, hX⟩
            · exact rone_qm_n t k w ht hk h0 s0 s1 s2 s3 s4 _ HI
            · exact rone_qm_z t k w ht hk h0 hX s0 s1 s2 s3 s4 _ HI
        · rw [if_pos rfl]
          rcases hP with h0 | ⟨h0, hX⟩
          · exact (rone_bang_n t k w ht hk h0 s0 s1 s2 s3).mono fun e w' z => rt_err rfl z
          · exact (rone_bang_z t k w ht hk h0 hX s0 s1 s2 s3).mono fun e w' z => rt_err rfl z
      · rw [if_pos rfl]
        rcases hP with h0 | ⟨h0, hX⟩
        · exact (rone_doc_n t k w ht hk h0 s0 s1 s2).mono fun e w' z => rt_err rfl z
        · exact (rone_doc_z t k w ht hk h0 hX s0 s1 s2).mono fun e w' z => rt_err rfl z
    · rw [if_pos rfl]
      have hk2 := sees_room hk s1
      simp only [List.length_cons, List.length_nil] at hk2
      cases hf : findF t (k + 9) [93, 93, 62] with
      | none =>
        have hr : dataF t (k + 9) = .error 23 := by unfold dataF; rw [hf]
        rcases hP with h0 | ⟨h0, hX⟩
        · exact (rone_dat_open_n t k w ht hk h0 s0 s1 hf).mono fun e w' z => rt_err hr z
        · exact (rone_dat_open_z t k w ht hk h0 hX s0 s1 hf).mono fun e w' z => rt_err hr z
      | some m =>
        obtain ⟨q1, q2, _⟩ := (find_iff (by omega)).1 hf
        have hr : dataF t (k + 9) = .ok (⟨6, ⟨#[]⟩, [], t.extract (k + 9) m, 0⟩, m + 3) := by unfold dataF; rw [hf]
        rcases hP with h0 | ⟨h0, hX⟩
        · exact (rone_dat_good_n t k w ht hk h0 s0 s1 m hf ⟨q1, q2⟩).mono fun e w' z => rt_plain hr z
        · exact (rone_dat_good_z t k w ht hk h0 hX s0 s1 m hf ⟨q1, q2⟩).mono fun e w' z => rt_plain hr z
  · rw [if_pos rfl]
    have hk2 := sees_room hk s0
    simp only [List.length_cons, List.length_nil] at hk2
    cases hf : findF t (k + 4) [45, 45] with
    | none =>
      have hr : commentF t (k + 4) = .error 23 := by unfold commentF; rw [hf]
      rcases hP with h0 | ⟨h0, hX⟩
      · exact (rone_com_open_n t k w ht hk h0 s0 hf).mono fun e w' z => rt_err hr z
      · exact (rone_com_open_z t k w ht hk h0 hX s0 hf).mono fun e w' z => rt_err hr z
    | some m =>
      obtain ⟨q1, q2, q3, _⟩ := (find_iff (by omega)).1 hf
      have hce := com_end q3
      cases hs : seesB t m [45, 45, 62]
      · have hr : commentF t (k + 4) = .error 23 := by unfold commentF; rw [hf]; simp [← hce, hs]
        rcases hP with h0 | ⟨h0, hX⟩
        · exact (rone_com_bad_n t k w ht hk h0 s0 m hf ⟨q1, q2⟩ hs).mono fun e w' z => rt_err hr z
        · exact (rone_com_bad_z t k w ht hk h0 hX s0 m hf ⟨q1, q2⟩ hs).mono fun e w' z => rt_err hr z
      · have hr : commentF t (k + 4) = .ok (⟨7, ⟨#[]⟩, [], t.extract (k + 4) m, 0⟩, m + 3) := by unfold commentF; rw [hf]; simp [← hce, hs]
        rcases hP with h0 | ⟨h0, hX⟩
        · exact (rone_com_good_n t k w ht hk h0 s0 m hf ⟨q1, q2⟩ hs).mono fun e w' z => rt_plain hr z
        · exact (rone_com_good_z t k w ht hk h0 hX s0 m hf ⟨q1, q2⟩ hs).mono fun e w' z => rt_plain hr z
theorem refOne_any (t : ByteArray) (k : Nat) (w : World) (ht : t.size ≤ 4000000) (hlt : k < t.size)
    (HT : ∀ W, Calls Tryz.prog 33 #[.string t, .int .i64 ((k + 1 : Nat) : Int)] W (RtPost W (tagF t (k + 1))))
    (HD : opensB t k = true → ∀ W, Calls Tryz.prog 29 #[.string t] W (RtPost W (declF t 5))) :
    Calls Tryz.prog 17 #[.string t, .int .i64 (k : Int)] w (RtPost w (tokF t k)) := by
  cases hop : opensB t k
  · rcases opens_no hop with h0 | ⟨h0, hX⟩ | ⟨h0, hX, hV⟩
    · exact one_rest t k w ht hlt (.inl h0) hop HT
    · exact one_rest t k w ht hlt (.inr ⟨h0, hX⟩) hop HT
    · subst h0
      obtain ⟨r, hr⟩ := sees_prefix hX
      have s : ∀ l, seesB t 0 l = Lib.hasPrefix ([60, 63, 120, 109, 108] ++ r) l := fun l => by unfold seesB; rw [hr]
      have s0 : seesB t 0 [60, 33, 45, 45] = false := by rw [s]; rfl
      have s1 : seesB t 0 [60, 33, 91, 67, 68, 65, 84, 65, 91] = false := by rw [s]; rfl
      have s2 : seesB t 0 [60, 33, 68, 79, 67, 84, 89, 80, 69] = false := by rw [s]; rfl
      have s3 : seesB t 0 [60, 33] = false := by rw [s]; rfl
      have s4 : seesB t 0 [60, 63] = true := by rw [s]; simp [Lib.hasPrefix]
      have hk2 := sees_room (Nat.zero_le _) s4
      simp only [List.length_cons, List.length_nil] at hk2
      unfold tokF
      rw [hop, s0, s1, s2, s3, s4]
      exact rone_qm_x t 0 w ht (Nat.zero_le _) rfl hX hV s0 s1 s2 s3 s4 _ fun W => refInstr_any t (0 + 2) W ht (by omega)
  · obtain ⟨h0, hX, hV⟩ := opens_yes hop
    subst h0
    unfold tokF
    rw [hop, if_pos rfl]
    exact rone_decl_d t 0 w ht (Nat.zero_le _) rfl hX hV _ (HD hop)
end Go.Proofs.YtidimpepfkdcmaaGreatDoor
namespace Go.Proofs.YtidimpepfkdcmaaGreatDoor
open Go.RowKit

theorem RPairsAt.neo {w : World} {B g : Nat} {v : Value} {l : List (ByteArray × ByteArray)} {o : Obj} (h : RPairsAt w B v l) (hg : w.heap[g]? = some o) (ho : ∀ cs, o ≠ .cells cs 52 (0, 0)) : v.ownBlock ≠ some g := by
  rcases h.2 with ⟨rfl, _⟩ | ⟨g', c, cur, rfl, _, hh, _⟩
  · simp [Value.ownBlock]
  · intro e
    have e2 : g' = g := by simpa [Value.ownBlock] using e
    subst e2
    rw [hh] at hg
    injection hg with hg
    exact ho cur hg.symm
/-- Tokens as they lie in rows of the call's own. -/
def RTokL (w : World) (B : Nat) (v : Value) (l : List (Nat × Tok)) : Prop := ∃ pvs : List Value, pvs.length = l.length ∧ w.ownsRow B 37 6 v l.length (tokCs l pvs) ∧ ∀ z ∈ l.zip pvs, RPairsAt w B z.2 z.1.2.pairs
theorem RTokL.nil (w : World) (B : Nat) : RTokL w B (.slice none 0 0) [] := ⟨[], rfl, World.ownsRow_nil w B _ 6, fun z h => by cases h⟩
theorem RTokL.form {w : World} {B : Nat} {v : Value} {l : List (Nat × Tok)} (h : RTokL w B v l) : ∃ q m c, v = .slice q m c := by
  obtain ⟨pvs, _, h2, _⟩ := h
  rcases h2.2 with ⟨rfl, _⟩ | ⟨g, c, cur, rfl, _⟩
  · exact ⟨_, _, _, rfl⟩
  · exact ⟨_, _, _, rfl⟩
theorem RTokL.keep2 {w w' : World} {B : Nat} {v : Value} {l : List (Nat × Tok)} {row : Option Nat} (h : RTokL w B v l) (g : w.grownBy w' row) (hv : v.ownBlock = none ∨ v.ownBlock ≠ row) (hr : ∀ k, row = some k → ∃ o, w.heap[k]? = some o ∧ (∀ cs, o ≠ .cells cs 52 (0, 0))) : RTokL w' B v l := by
  obtain ⟨pvs, h1, h2, h3⟩ := h
  refine ⟨pvs, h1, h2.kept g hv, fun z hz => World.ownsRow.kept (h3 z hz) g ?_⟩
  cases hz2 : z.2.ownBlock with
  | none => exact .inl rfl
  | some k =>
    refine .inr fun e => ?_
    obtain ⟨o, ho, hn⟩ := hr k e.symm
    exact (h3 z hz).neo ho hn hz2
theorem RTokL.blk {w : World} {B : Nat} {v : Value} {l : List (Nat × Tok)} (h : RTokL w B v l) : ∀ k, v.ownBlock = some k → ∃ cs, w.heap[k]? = some (.cells cs 37) ∧ B ≤ k := by
  obtain ⟨pvs, h1, h2, h3⟩ := h
  intro k hk
  rcases h2.2 with ⟨rfl, _⟩ | ⟨g', c', cur, rfl, hb, hh, _⟩
  · simp [Value.ownBlock] at hk
  · have e2 : g' = k := by simpa [Value.ownBlock] using hk
    subst e2
    exact ⟨cur, hh, hb⟩
theorem RTokL.keep {w w' : World} {B : Nat} {v : Value} {l : List (Nat × Tok)} {row : Option Nat} (h : RTokL w B v l) (g : w.grownBy w' row) (hr : ∀ k, row = some k → ∃ o, w.heap[k]? = some o ∧ (∀ cs, o ≠ .cells cs 52 (0, 0)) ∧ (∀ cs, o ≠ .cells cs 37 (0, 0))) : RTokL w' B v l := by
  refine h.keep2 g ?_ (fun k e => (hr k e).imp fun o ho => ⟨ho.1, ho.2.1⟩)
  cases hv : v.ownBlock with
  | none => exact .inl rfl
  | some k =>
    refine .inr fun e => ?_
    obtain ⟨o, ho, _, hn⟩ := hr k e.symm
    obtain ⟨cs, hc, _⟩ := h.blk k hv
    rw [hc] at ho
    injection ho with ho
    exact hn cs ho.symm
theorem infoRTok : (Tryz.prog.info? 37).map (fun i => (i.zero, i.size, i.bytes)) = some (some (.agg #[.int .i64 0, .int .i64 0, .string ⟨#[]⟩, .slice none 0 0, .string ⟨#[]⟩, .int .i64 0]), 6, 80) := by kernel_rfl
/-- One token more. -/
theorem append_rtok {w : World} {B g : Nat} {v : Value} {l : List (Nat × Tok)} {x : Nat × Tok} {q : Option Addr} {m c : Nat} (h : RTokL w B v l) (hp : RPairsAt w B (.slice q m c) x.2.pairs) (hg : w.heap[g]? = some (.cells #[.int .i64 (x.2.kind : Int), .int .i64 (x.1 : Int), .string x.2.name, .slice q m c, .string x.2.text, .int .i64 (x.2.refs : Int)] 37)) (hB : B ≤ w.heap.size) (hl : l.length ≤ 4194304) :
    ∃ v' w', (∀ ty, (Builtin.append_ #[29, 29] ty #[v, .slice (some ⟨g, 0, none⟩) 1 1]).run Tryz.prog w = .ok v' w') ∧ RTokL w' B v' (l ++ [x]) ∧ w.grownBy w' v.ownBlock ∧ (∀ k, v.ownBlock = some k → ∃ cs, w.heap[k]? = some (.cells cs 37) ∧ B ≤ k) := by
  obtain ⟨i0, hi, hz0, hz1, hz2⟩ := info_parts infoRTok
  obtain ⟨pvs, h1, h2, h3⟩ := h
  have hcells : ∀ j u, (tokC x (.slice q m c))[j]? = some u → w.cell? ((⟨g, 0, none⟩ : Addr).add j) = some u := by
    intro j u hu
    have ha : (⟨g, 0, none⟩ : Addr).add j = ⟨g, j, none⟩ := by unfold Addr.add; split <;> simp_all
    rw [ha, cell_of_row _ _ _ _ _ _ hg, ← hu]
    unfold tokC
    simp
  have hone : ∀ u ∈ tokC x (.slice q m c), u.oneCell' = true := by
    intro u hu
    simp only [tokC, List.mem_cons, List.mem_nil_iff, or_false] at hu
    rcases hu with rfl | rfl | rfl | rfl | rfl | rfl <;> rfl
  obtain ⟨v', w', hrun, hown, hgrow, _⟩ := run_append_own (P := Tryz.prog) (w := w) B 29 29 37 i0 (.agg #[.int .i64 0, .int .i64 0, .string ⟨#[]⟩, .slice none 0 0, .string ⟨#[]⟩, .int .i64 0]) 6 80 Tryz.underlying29 hi hz0 hz1 hz2 rfl (by decide) v l.length (tokCs l pvs) h2 ⟨g, 0, none⟩ 1 1 (tokC x (.slice q m c)) rfl hcells hone (by unfold maxLen; omega) (by omega) hB
  have hblk : ∀ k, v.ownBlock = some k → ∃ cs, w.heap[k]? = some (.cells cs 37) ∧ B ≤ k := by
    intro k hk
    rcases h2.2 with ⟨rfl, _⟩ | ⟨g', c', cur, rfl, hb, hh, _⟩
    · simp [Value.ownBlock] at hk
    · have e2 : g' = k := by simpa [Value.ownBlock] using hk
      subst e2
      exact ⟨cur, hh, hb⟩
  have hzip : (l ++ [x]).zip (pvs ++ [.slice q m c]) = l.zip pvs ++ [(x, .slice q m c)] := by
    rw [List.zip_append h1.symm]
    rfl
  have hpk : ∀ b' l', RPairsAt w B b' l' → RPairsAt w' B b' l' := fun b' l' hh => World.ownsRow.kept hh hgrow (by
    cases hv : v.ownBlock with
    | none => cases b'.ownBlock <;> simp
    | some k =>
      obtain ⟨cs, hk, _⟩ := hblk k hv
      exact .inr (hh.neo hk (fun cs e => by injection e with _ e2 _; cases e2)))
  refine ⟨v', w', fun ty => ?_, ⟨pvs ++ [.slice q m c], by simp [h1], ?_, ?_⟩, hgrow, hblk⟩
  · rw [← hrun]
    rfl
  · unfold tokCs
    rw [hzip, List.flatMap_append, List.length_append]
    simpa [tokCs] using hown
  · intro z hz
    rw [hzip] at hz
    rcases List.mem_append.1 hz with hz | hz
    · exact hpk _ _ (h3 z hz)
    · obtain rfl := List.mem_singleton.1 hz
      exact hpk _ _ hp
theorem RTokL.less {w : World} {B B' : Nat} {v : Value} {l : List (Nat × Tok)} (h : RTokL w B v l) (hB : B' ≤ B) : RTokL w B' v l := by
  obtain ⟨pvs, h1, h2, h3⟩ := h
  refine ⟨pvs, h1, ⟨h2.1, ?_⟩, fun z hz => (h3 z hz).less hB⟩
  rcases h2.2 with g | ⟨g, c, cur, e, h4, r⟩
  · exact .inl g
  · exact .inr ⟨g, c, cur, e, Nat.le_trans hB h4, r⟩
/-- Where the cells of tokens lie. -/
theorem RTokL.cell {w : World} {B : Nat} {v : Value} {l : List (Nat × Tok)} (h : RTokL w B v l) (hl : 0 < l.length) : ∃ g c, v = .slice (some ⟨g, 0, none⟩) l.length c ∧ l.length ≤ c ∧ c ≤ maxLen ∧ g < w.heap.size ∧ B ≤ g ∧ ∃ pv : Nat → Value, ∀ i x, l[i]? = some x →
    RPairsAt w B (pv i) x.2.pairs ∧ (w.cell? ⟨g, 6 * i, none⟩ = some (.int .i64 (x.2.kind : Int)) ∧ w.cell? ⟨g, 6 * i + 1, none⟩ = some (.int .i64 (x.1 : Int)) ∧ w.cell? ⟨g, 6 * i + 2, none⟩ = some (.string x.2.name) ∧ w.cell? ⟨g, 6 * i + 3, none⟩ = some (pv i) ∧ w.cell? ⟨g, 6 * i + 4, none⟩ = some (.string x.2.text) ∧ w.cell? ⟨g, 6 * i + 5, none⟩ = some (.int .i64 (x.2.refs : Int))) := by
  obtain ⟨pvs, h1, h2, h3⟩ := h
  have hcells := fun g (hv : v.ownBlock = some g) => World.ownsRow.cells h2 hv
  rcases h2.2 with ⟨_, h0⟩ | ⟨g, c, cur, rfl, hb, hg, hlc, hcm, _, _⟩
  · omega
  refine ⟨g, c, rfl, hlc, hcm, (Array.getElem?_eq_some_iff.1 hg).1, hb, fun i => pvs.getD i (.bool false), fun i x hx => ?_⟩
  have hil : i < l.length := (List.getElem?_eq_some_iff.1 hx).1
  have hpi : pvs[i]? = some (pvs.getD i (.bool false)) := by
    rw [List.getElem?_eq_getElem (by omega)]
    simp [List.getD, List.getElem?_eq_getElem (show i < pvs.length by omega)]
  have hz : (l.zip pvs)[i]? = some (x, pvs.getD i (.bool false)) := by
    rw [List.getElem?_zip_eq_some]
    exact ⟨hx, hpi⟩
  refine ⟨h3 _ (List.mem_of_getElem? hz), ?_⟩
  have go : ∀ k u, k < 6 → (tokC x (pvs.getD i (.bool false)))[k]? = some u → w.cell? ⟨g, 6 * i + k, none⟩ = some u := by
    intro k u hk hu
    have hc := hcells g rfl (6 * i + k) u (by
      unfold tokCs
      rw [flat_at 6 (fun z : (Nat × Tok) × Value => tokC z.1 z.2) (fun _ => rfl) _ i k hk, hz]
      exact hu)
    have ha : (⟨g, 0, none⟩ : Addr).add (6 * i + k) = ⟨g, 6 * i + k, none⟩ := by unfold Addr.add; split <;> simp_all
    rw [ha] at hc
    exact hc
  exact ⟨go 0 _ (by omega) rfl, go 1 _ (by omega) rfl, go 2 _ (by omega) rfl, go 3 _ (by omega) rfl, go 4 _ (by omega) rfl, go 5 _ (by omega) rfl⟩
theorem RTokL.form2 {w : World} {B : Nat} {v : Value} {l : List (Nat × Tok)} (h : RTokL w B v l) : ∃ q c, v = .slice q l.length c := by
  obtain ⟨pvs, _, h2, _⟩ := h
  rcases h2.2 with ⟨rfl, h0⟩ | ⟨g, c, cur, rfl, _⟩
  · exact ⟨none, 0, by rw [h0]⟩
  · exact ⟨_, _, rfl⟩
/-- An empty row that was made. -/
theorem RTokL.made (w : World) (B : Nat) (hb : B ≤ w.heap.size) : RTokL (w.alloc (.cells #[] 37)) B (.slice (some ⟨w.heap.size, 0, none⟩) 0 0) [] :=
  ⟨[], rfl, World.ownsRow_made w #[] 0 hb (by unfold maxLen; omega) rfl, fun z h => by cases h⟩
end Go.Proofs.YtidimpepfkdcmaaGreatDoor
namespace Go.Proofs.YtidimpepfkdcmaaGreatDoor
open Go.RowKit

def FaultRel0 (s : ByteArray) (ANS : Nat × Nat) (i : Value) : Prop := ∃ pos b : Nat, i = .int .i64 pos ∧ faultGo s b pos = ANS ∧ s.size ≤ pos + b ∧ pos ≤ s.size

set_option maxHeartbeats 2000000 in
theorem refFault_some (s : ByteArray) (b off cap : Nat) (w : World) (hs : s.size ≤ 140737488355328) (hp : ∀ j, j < s.size → w.cell? ⟨b, off + j, none⟩ = some (.int .u8 (s.get! j).toNat)) :
    Calls Tryz.prog 16 #[.slice (some ⟨b, off, none⟩) s.size cap] w fun e w' => e = .returned (.tuple #[.int .i64 ((faultF s).1 : Int), .int .i64 ((faultF s).2 : Int)]) ∧ w = w' := by
  obtain ⟨ANS, hA⟩ : ∃ ANS, faultF s = ANS := ⟨_, rfl⟩
  rw [hA]
  have HA := Lib.hid hA
  have HP := Lib.hid hp
  clear hA hp
  go_enter Tryz.func16, Tryz.ntmps16
  go_wp2_with (fail)
  go_loop [4] (fun i => FaultRel0 s ANS i) (fun i => s.size - (intOf i).toNat)
  case atStart => exact ⟨0, s.size, rfl, HA.out, by omega, by omega⟩
  case round =>
    obtain ⟨pos, k, rfl, hgo, hb1, hb2⟩ := hrel
    by_cases hpos : pos < s.size
    · obtain ⟨k, rfl⟩ : ∃ k', k = k' + 1 := ⟨k - 1, by omega⟩
      have R := Lib.hid (refRead s b off cap pos w hs hpos HP.out)
      have K := Lib.hid (refChar ((rd s pos).1 : Int))
      have hle := rd_le s pos hpos
      have hbd := rd_bd s pos
      have G := Lib.hid hgo
      clear hgo
      by_cases h0 : (rd s pos).2 = 0
      · rw [faultGo_bad s k pos hpos h0] at G
        have h01 : (((rd s pos).2 : Int) == 0) = true := by simp [h0]
        clear h0 hle hbd
        generalize rd s pos = d at *
        go_wp2_with (fail)
        refine R.out.mono ?_
        rintro e w1 ⟨rfl, rfl⟩
        go_wp2_with (fail)
        go_ret2
        exact ⟨ret_ff G.out, rfl⟩
      · have h01 : (((rd s pos).2 : Int) == 0) = false := by simp [h0]
        cases hc : charB ((rd s pos).1 : Int)
        · rw [faultGo_no s k pos hpos h0 hc] at G
          rw [hc] at K
          clear h0 hle hbd hc
          generalize rd s pos = d at *
          go_wp2_with (fail)
          refine R.out.mono ?_
          rintro e w1 ⟨rfl, rfl⟩
          go_wp2_with (fail)
          refine (K.out _).mono ?_
          rintro e w2 ⟨rfl, rfl⟩
          go_wp2_with (fail)
          go_ret2
          exact ⟨ret_ff G.out, rfl⟩
        · rw [faultGo_step s k pos hpos h0 hc] at G
          rw [hc] at K
          clear hc
          generalize rd s pos = d at *
          go_wp2_with (fail)
          refine R.out.mono ?_
          rintro e w1 ⟨rfl, rfl⟩
          go_wp2_with (fail)
          refine (K.out _).mono ?_
          rintro e w2 ⟨rfl, rfl⟩
          go_wp2_with (fail)
          go_round
          case rel =>
            go_light
            exact ⟨pos + d.2, k, by go_num, G.out, by omega, hle⟩
          case measure => simp [intOf]; omega
    · have G := Lib.hid ((faultGo_end s k pos hpos).symm.trans hgo)
      clear hgo
      go_wp2_with (fail)
      go_ret2
      exact ⟨ret_ff G.out, rfl⟩

theorem refFault_any (p : Option Addr) (s : ByteArray) (cap : Nat) (w : World) (hs : s.size ≤ 140737488355328) (hp : HoldsB w p s) :
    Calls Tryz.prog 16 #[.slice p s.size cap] w fun e w' => e = .returned (.tuple #[.int .i64 ((faultF s).1 : Int), .int .i64 ((faultF s).2 : Int)]) ∧ w = w' := by
  by_cases h0 : 0 < s.size
  · obtain ⟨b, off, rfl, hc⟩ := hp h0
    exact refFault_some s b off cap w hs hc
  · have hf : faultF s = (0, 0) := by unfold faultF; rw [faultGo_end s _ 0 h0]
    have hz : s.size = 0 := by omega
    rw [hf, hz]
    clear hf hp
    go_enter Tryz.func16, Tryz.ntmps16
    go_wp2_with (fail)
    go_loop [4] (fun i => i = .int .i64 0) (fun _ => 0)
    case atStart => rfl
    case round =>
      subst hrel
      go_wp2_with (fail)
      go_ret2
      exact ⟨rfl, rfl⟩
end Go.Proofs.YtidimpepfkdcmaaGreatDoor
namespace Go.Proofs.YtidimpepfkdcmaaGreatDoor
open Go.RowKit

theorem pre3_yes {s : ByteArray} (h : Lib.hasPrefix s.data.toList [239, 187, 191] = true) : 3 ≤ s.size ∧ s.get! 0 = 239 ∧ s.get! 1 = 187 ∧ s.get! 2 = 191 := by
  obtain ⟨r, hr⟩ := List.isPrefixOf_iff_prefix.1 h
  have hl := congrArg List.length hr
  simp only [List.length_append, List.length_cons, List.length_nil, Array.length_toList] at hl
  have hs : s.size = s.data.size := rfl
  have g : ∀ k, k < 3 → s.data.toList[k]? = ([239, 187, 191] : List UInt8)[k]? := by
    intro k hk
    rw [← hr, List.getElem?_append_left (by simpa using hk)]
  have h0 := get!_of s 0 (by omega)
  have h1 := get!_of s 1 (by omega)
  have h2 := get!_of s 2 (by omega)
  rw [g 0 (by omega)] at h0
  rw [g 1 (by omega)] at h1
  rw [g 2 (by omega)] at h2
  exact ⟨by omega, (Option.some.inj h0).symm, (Option.some.inj h1).symm, (Option.some.inj h2).symm⟩
theorem pre3_no {s : ByteArray} (h : Lib.hasPrefix s.data.toList [239, 187, 191] = false) (h3 : 3 ≤ s.size) : ¬ (s.get! 0 = 239 ∧ s.get! 1 = 187 ∧ s.get! 2 = 191) := by
  rintro ⟨a, b, c⟩
  have e : s.data.toList = 239 :: 187 :: 191 :: s.data.toList.drop 3 := by
    have h0 := drop_cons s 0 (by omega)
    have h1 := drop_cons s 1 (by omega)
    have h2 := drop_cons s 2 (by omega)
    rw [List.drop_zero, h1, h2, a, b, c] at h0
    exact h0
  rw [e] at h
  simp [Lib.hasPrefix] at h
theorem byte_ne {x : UInt8} {n : Nat} (_hn : n < 256) (h : ¬ x = UInt8.ofNat n) : ¬ (x.toNat : Int) = (n : Int) := by
  intro e
  apply h
  have e2 : x.toNat = n := by omega
  rw [← e2]
  simp
set_option maxRecDepth 100000 in
set_option maxHeartbeats 1000000 in
theorem text_few (p : Option Addr) (s : ByteArray) (c : Nat) (w : World) (hs : s.size ≤ 140737488355000) (_hc : s.size ≤ c) (hp : HoldsB w p s) (h3 : ¬ 3 ≤ s.size) :
    Calls Tryz.prog 10 #[.slice p s.size c] w fun e w' => e = .returned (.string (linesB s)) ∧ Below w.heap.size w w' := by
  have LH := Lib.hid (refLines_any p s c w (by omega) hp)
  have g1 : ¬ (3 : Int) ≤ (s.size : Int) := by omega
  have g2 : decide ((3 : Int) ≤ (s.size : Int)) = false := decide_eq_false g1
  have g3 : (s.size : Int) < 3 := by omega
  clear hp hs _hc
  go_enter Tryz.func10, Tryz.ntmps10
  go_wp2_with (fail)
  refine LH.out.mono ?_
  rintro e w2 ⟨g, cap, rfl, ho, hb⟩
  have hcv := conv_str ho.holds cap (fun e => by cases e)
  have HB := Lib.hid hb
  clear ho hb
  go_wp2_with (fail)
  go_ret
  exact ⟨rfl, HB.out⟩
set_option maxRecDepth 100000 in
set_option maxHeartbeats 1000000 in
theorem text_not0 (p : Option Addr) (s : ByteArray) (c : Nat) (w : World) (hs : s.size ≤ 140737488355000) (_hc : s.size ≤ c) (hp : HoldsB w p s) (h3 : 3 ≤ s.size)  (b0 : ¬ s.get! 0 = UInt8.ofNat 239) :
    Calls Tryz.prog 10 #[.slice p s.size c] w fun e w' => e = .returned (.string (linesB s)) ∧ Below w.heap.size w w' := by
  have LH := Lib.hid (refLines_any p s c w (by omega) hp)
  obtain ⟨b, off, rfl, hcell⟩ := hp (by omega)
  have g1 : (3 : Int) ≤ (s.size : Int) := by omega
  have g2 : decide ((3 : Int) ≤ (s.size : Int)) = true := decide_eq_true g1
  have i0 : (0 : Int) < (s.size : Int) := by omega
  have i1 : (1 : Int) < (s.size : Int) := by omega
  have i2 : (2 : Int) < (s.size : Int) := by omega
  have c0 := hcell 0 (by omega)
  have c1 := hcell 1 (by omega)
  have c2 := hcell 2 (by omega)
  rw [Nat.add_zero] at c0
  clear hcell
  have n0 := byte_ne (n := 239) (by decide) b0
  have m0 : ((((s.get! 0).toNat : Nat) : Int) == 239) = false := by rw [beq_eq_false_iff_ne]; exact n0
  obtain ⟨x0, hx0⟩ : ∃ x : Int, (((s.get! 0).toNat : Nat) : Int) = x := ⟨_, rfl⟩
  rw [hx0] at c0 n0 m0
  clear hx0
  clear c1
  clear c2
  clear h3 b0
  clear hs _hc
  go_enter Tryz.func10, Tryz.ntmps10
  go_wp2_with (fail)
  refine LH.out.mono ?_
  rintro e w2 ⟨g, cap, rfl, ho, hb⟩
  have hcv := conv_str ho.holds cap (fun e => by cases e)
  have HB := Lib.hid hb
  clear ho hb
  go_wp2_with (fail)
  go_ret
  exact ⟨rfl, HB.out⟩
set_option maxRecDepth 100000 in
set_option maxHeartbeats 1000000 in
theorem text_not1 (p : Option Addr) (s : ByteArray) (c : Nat) (w : World) (hs : s.size ≤ 140737488355000) (_hc : s.size ≤ c) (hp : HoldsB w p s) (h3 : 3 ≤ s.size) (b0 : s.get! 0 = 239) (b1 : ¬ s.get! 1 = UInt8.ofNat 187) :
    Calls Tryz.prog 10 #[.slice p s.size c] w fun e w' => e = .returned (.string (linesB s)) ∧ Below w.heap.size w w' := by
  have LH := Lib.hid (refLines_any p s c w (by omega) hp)
  obtain ⟨b, off, rfl, hcell⟩ := hp (by omega)
  have g1 : (3 : Int) ≤ (s.size : Int) := by omega
  have g2 : decide ((3 : Int) ≤ (s.size : Int)) = true := decide_eq_true g1
  have i0 : (0 : Int) < (s.size : Int) := by omega
  have i1 : (1 : Int) < (s.size : Int) := by omega
  have i2 : (2 : Int) < (s.size : Int) := by omega
  have c0 := hcell 0 (by omega)
  have c1 := hcell 1 (by omega)
  have c2 := hcell 2 (by omega)
  rw [Nat.add_zero] at c0
  clear hcell
  rw [b0, show (((239 : UInt8).toNat : Nat) : Int) = 239 from rfl] at c0
  have n1 := byte_ne (n := 187) (by decide) b1
  have m1 : ((((s.get! 1).toNat : Nat) : Int) == 187) = false := by rw [beq_eq_false_iff_ne]; exact n1
  obtain ⟨x1, hx1⟩ : ∃ x : Int, (((s.get! 1).toNat : Nat) : Int) = x := ⟨_, rfl⟩
  rw [hx1] at c1 n1 m1
  clear hx1
  clear c2
  clear h3 b0 b1
  clear hs _hc
  go_enter Tryz.func10, Tryz.ntmps10
  go_wp2_with (fail)
  refine LH.out.mono ?_
  rintro e w2 ⟨g, cap, rfl, ho, hb⟩
  have hcv := conv_str ho.holds cap (fun e => by cases e)
  have HB := Lib.hid hb
  clear ho hb
  go_wp2_with (fail)
  go_ret
  exact ⟨rfl, HB.out⟩
set_option maxRecDepth 100000 in
set_option maxHeartbeats 1000000 in
theorem text_not2 (p : Option Addr) (s : ByteArray) (c : Nat) (w : World) (hs : s.size ≤ 140737488355000) (_hc : s.size ≤ c) (hp : HoldsB w p s) (h3 : 3 ≤ s.size) (b0 : s.get! 0 = 239) (b1 : s.get! 1 = 187) (b2 : ¬ s.get! 2 = UInt8.ofNat 191) :
    Calls Tryz.prog 10 #[.slice p s.size c] w fun e w' => e = .returned (.string (linesB s)) ∧ Below w.heap.size w w' := by
  have LH := Lib.hid (refLines_any p s c w (by omega) hp)
  obtain ⟨b, off, rfl, hcell⟩ := hp (by omega)
  have g1 : (3 : Int) ≤ (s.size : Int) := by omega
  have g2 : decide ((3 : Int) ≤ (s.size : Int)) = true := decide_eq_true g1
  have i0 : (0 : Int) < (s.size : Int) := by omega
  have i1 : (1 : Int) < (s.size : Int) := by omega
  have i2 : (2 : Int) < (s.size : Int) := by omega
  have c0 := hcell 0 (by omega)
  have c1 := hcell 1 (by omega)
  have c2 := hcell 2 (by omega)
  rw [Nat.add_zero] at c0
  clear hcell
  rw [b0, show (((239 : UInt8).toNat : Nat) : Int) = 239 from rfl] at c0
  rw [b1, show (((187 : UInt8).toNat : Nat) : Int) = 187 from rfl] at c1
  have n2 := byte_ne (n := 191) (by decide) b2
  have m2 : ((((s.get! 2).toNat : Nat) : Int) == 191) = false := by rw [beq_eq_false_iff_ne]; exact n2
  obtain ⟨x2, hx2⟩ : ∃ x : Int, (((s.get! 2).toNat : Nat) : Int) = x := ⟨_, rfl⟩
  rw [hx2] at c2 n2 m2
  clear hx2
  clear h3 b0 b1 b2
  clear hs _hc
  go_enter Tryz.func10, Tryz.ntmps10
  go_wp2_with (fail)
  refine LH.out.mono ?_
  rintro e w2 ⟨g, cap, rfl, ho, hb⟩
  have hcv := conv_str ho.holds cap (fun e => by cases e)
  have HB := Lib.hid hb
  clear ho hb
  go_wp2_with (fail)
  go_ret
  exact ⟨rfl, HB.out⟩
set_option maxRecDepth 100000 in
set_option maxHeartbeats 1000000 in
theorem text_mark (p : Option Addr) (s : ByteArray) (c : Nat) (w : World) (hs : s.size ≤ 140737488355000) (hc : s.size ≤ c) (hp : HoldsB w p s) (h3 : 3 ≤ s.size) (b0 : s.get! 0 = 239) (b1 : s.get! 1 = 187) (b2 : s.get! 2 = 191) :
    Calls Tryz.prog 10 #[.slice p s.size c] w fun e w' => e = .returned (.string (linesB (s.extract 3 s.size))) ∧ Below w.heap.size w w' := by
  obtain ⟨b, off, rfl, hcell⟩ := hp (by omega)
  have g1 : (3 : Int) ≤ (s.size : Int) := by omega
  have g2 : decide ((3 : Int) ≤ (s.size : Int)) = true := decide_eq_true g1
  have i0 : (0 : Int) < (s.size : Int) := by omega
  have i1 : (1 : Int) < (s.size : Int) := by omega
  have i2 : (2 : Int) < (s.size : Int) := by omega
  have c0 := hcell 0 (by omega)
  have c1 := hcell 1 (by omega)
  have c2 := hcell 2 (by omega)
  rw [Nat.add_zero] at c0
  have HP := holds_part (p := some ⟨b, off + 3, none⟩) (k := 3) hcell (Nat.le_refl _) h3 (fun _ => rfl)
  have hsz : (s.extract 3 s.size).size = s.size - 3 := by simp
  clear hcell
  rw [b0, show (((239 : UInt8).toNat : Nat) : Int) = 239 from rfl] at c0
  rw [b1, show (((187 : UInt8).toNat : Nat) : Int) = 187 from rfl] at c1
  rw [b2, show (((191 : UInt8).toNat : Nat) : Int) = 191 from rfl] at c2
  by_cases hcap : c = 3
  · subst hcap
    have hz : s.size = 3 := by omega
    have L := refLines_any (some ⟨b, off, none⟩) (s.extract 3 s.size) 0 w (by omega) (fun h0 => by omega)
    rw [hsz] at L
    clear hz
    have LH := Lib.hid L
    clear L
    clear hs hc h3 hsz HP b0 b1 b2
    go_enter Tryz.func10, Tryz.ntmps10
    go_wp2_with (fail)
    refine LH.out.mono ?_
    rintro e w2 ⟨g, cap, rfl, ho, hb⟩
    have hcv := conv_str ho.holds cap (fun e => by cases e)
    have HB := Lib.hid hb
    clear ho hb
    go_wp2_with (fail)
    go_ret
    exact ⟨rfl, HB.out⟩
  · have g4 : (3 : Int) ≤ (c : Int) := by omega
    have L := refLines_any (some ⟨b, off + 3, none⟩) (s.extract 3 s.size) (c - 3) w (by omega) HP
    rw [hsz] at L
    have LH := Lib.hid L
    clear L
    clear hs hc h3 hsz HP b0 b1 b2
    go_enter Tryz.func10, Tryz.ntmps10
    go_wp2_with (fail)
    refine LH.out.mono ?_
    rintro e w2 ⟨g, cap, rfl, ho, hb⟩
    have hcv := conv_str ho.holds cap (fun e => by cases e)
    have HB := Lib.hid hb
    clear ho hb
    go_wp2_with (fail)
    go_ret
    exact ⟨rfl, HB.out⟩
theorem refText_any (p : Option Addr) (s : ByteArray) (c : Nat) (w : World) (hs : s.size ≤ 140737488355000) (hc : s.size ≤ c) (hp : HoldsB w p s) :
    Calls Tryz.prog 10 #[.slice p s.size c] w fun e w' => e = .returned (.string (textF s)) ∧ Below w.heap.size w w' := by
  rw [text_bare]
  unfold bareB
  cases hpre : Lib.hasPrefix s.data.toList [239, 187, 191]
  · rw [if_neg (by simp)]
    by_cases h3 : 3 ≤ s.size
    · have hno := pre3_no hpre h3
      by_cases b0 : s.get! 0 = 239
      · by_cases b1 : s.get! 1 = 187
        · exact text_not2 p s c w hs hc hp h3 b0 b1 (fun e => hno ⟨b0, b1, e⟩)
        · exact text_not1 p s c w hs hc hp h3 b0 b1
      · exact text_not0 p s c w hs hc hp h3 b0
    · exact text_few p s c w hs hc hp h3
  · rw [if_pos rfl]
    obtain ⟨h3, b0, b1, b2⟩ := pre3_yes hpre
    exact text_mark p s c w hs hc hp h3 b0 b1 b2
end Go.Proofs.YtidimpepfkdcmaaGreatDoor
namespace Go.Proofs.YtidimpepfkdcmaaGreatDoor
open Go.RowKit

theorem below_grown0 {B : Nat} {w W : World} (h : Below B w W) (hB : B = w.heap.size) : w.grownBy W none := ⟨h.os, h.tape, h.output, h.size, fun k hk _ => h.block k (by omega)⟩
theorem RTokL.below {w W : World} {B : Nat} {v : Value} {l : List (Nat × Tok)} (h : RTokL w B v l) (hb : Below w.heap.size w W) : RTokL W B v l :=
  h.keep (row := none) (below_grown0 hb rfl) (fun k e => by cases e)
theorem RPairsAt.below {w W : World} {B : Nat} {v : Value} {l : List (ByteArray × ByteArray)} (h : RPairsAt w B v l) (hb : Below w.heap.size w W) : RPairsAt W B v l :=
  World.ownsRow.kept (row := none) h (below_grown0 hb rfl) (by cases v.ownBlock <;> simp)
/-- One token more. -/
theorem rall_step {w wr w3 W5 : World} {v q0 : Value} {l : List (Nat × Tok)} {j : Nat} {x : Tok} (HL : RTokL wr w.heap.size v l) (HB : Below w.heap.size w wr) (hb : Below wr.heap.size wr w3) (hq : ∃ q m c, q0 = .slice q m c) (hp : RPairsAt w3 wr.heap.size q0 x.pairs) (hl : l.length ≤ 4000000) (hW : w3.alloc (.cells #[.int .i64 (x.kind : Int), .int .i64 (j : Int), .string x.name, q0, .string x.text, .int .i64 (x.refs : Int)] 37) = W5) :
    W5.heap[w3.heap.size]? = some (.cells #[.int .i64 (x.kind : Int), .int .i64 (j : Int), .string x.name, q0, .string x.text, .int .i64 (x.refs : Int)] 37) ∧
    ∃ v' w10, (∀ ty, (Builtin.append_ #[29, 29] ty #[v, .slice (some ⟨W5.heap.size, 0, none⟩) 1 1]).run Tryz.prog (W5.alloc (.cells #[.int .i64 (x.kind : Int), .int .i64 (j : Int), .string x.name, q0, .string x.text, .int .i64 (x.refs : Int)] 37)) = .ok v' w10) ∧
      RTokL w10 w.heap.size v' (l ++ [(j, x)]) ∧ Below w.heap.size w w10 := by
  obtain ⟨q, m, c, rfl⟩ := hq
  have r4 := heap_alloc_new w3 (.cells #[.int .i64 (x.kind : Int), .int .i64 (j : Int), .string x.name, .slice q m c, .string x.text, .int .i64 (x.refs : Int)] 37)
  have bb4 : Below w3.heap.size w3 (w3.alloc (.cells #[.int .i64 (x.kind : Int), .int .i64 (j : Int), .string x.name, .slice q m c, .string x.text, .int .i64 (x.refs : Int)] 37)) := (Below.refl _ _).alloc (Nat.le_refl _) _
  rw [hW] at r4 bb4
  refine ⟨r4, ?_⟩
  have hs := HB.size
  have l4 := (HL.below hb).below bb4
  have p4 := (hp.less hs).below bb4
  have b4 := below_cat (below_cat HB hb) bb4
  have bb6 : Below W5.heap.size W5 (W5.alloc (.cells #[.int .i64 (x.kind : Int), .int .i64 (j : Int), .string x.name, .slice q m c, .string x.text, .int .i64 (x.refs : Int)] 37)) := (Below.refl _ _).alloc (Nat.le_refl _) _
  have b6 := below_cat b4 bb6
  obtain ⟨v', w10, hrun, l10, g10, hblk⟩ := append_rtok (x := (j, x)) (l4.below bb6) (p4.below bb6) (heap_alloc_new W5 (.cells #[.int .i64 (x.kind : Int), .int .i64 (j : Int), .string x.name, .slice q m c, .string x.text, .int .i64 (x.refs : Int)] 37)) b6.size (by omega)
  exact ⟨v', w10, hrun, l10, b6.grown g10 b6.size (fun k e => by obtain ⟨cs, hc, hB⟩ := hblk _ e; omega)⟩
theorem faultGo_zero (s : ByteArray) : ∀ b pos, (faultGo s b pos).2 = 0 → (faultGo s b pos).1 = 0
  | 0, _, _ => rfl
  | b + 1, pos, h => by
    unfold faultGo at h ⊢
    by_cases h1 : pos < s.size
    · rw [if_pos h1] at h ⊢
      by_cases h2 : (rd s pos).2 = 0
      · rw [if_pos h2] at h
        cases h
      · rw [if_neg h2] at h ⊢
        by_cases h3 : charB (rd s pos).1 = false
        · rw [if_pos h3] at h
          cases h
        · rw [if_neg h3] at h ⊢
          exact faultGo_zero s b _ h
    · rw [if_neg h1]
theorem fault_zero {s : ByteArray} (h : (faultF s).2 = 0) : (faultF s).1 = 0 := faultGo_zero s _ _ h
/-- What the document's All answers, as it lies in memory. -/
def RAllPost (w : World) (r : Except (Nat × Nat) (List (Nat × Tok))) (e : Ending) (w' : World) : Prop := match r with
  | .ok l => ∃ v, e = .returned (.tuple #[v, .int .i64 0, .int .i64 0]) ∧ RTokL w' w.heap.size v l
  | .error (k, e0) => e = .returned (.tuple #[.slice none 0 0, .int .i64 (k : Int), .int .i64 (e0 : Int)])
set_option maxRecDepth 100000 in
set_option maxHeartbeats 2000000 in
theorem rall_long (p : Option Addr) (s : ByteArray) (c : Nat) (w : World) (hs : 65536 < s.size) :
    Calls Tryz.prog 8 #[.slice p s.size c] w fun e w' => e = .returned (.tuple #[.slice none 0 0, .int .i64 0, .int .i64 6]) ∧ w = w' := by
  have g : (65536 : Int) < (s.size : Int) := by omega
  go_enter Tryz.func8, Tryz.ntmps8
  go_wp2_with (fail)
  go_ret3
  exact ⟨rfl, rfl⟩
set_option maxRecDepth 100000 in
set_option maxHeartbeats 2000000 in
theorem rall_fault (p : Option Addr) (s : ByteArray) (c : Nat) (w : World) (hs : s.size ≤ 65536) (hc : s.size ≤ c) (hp : HoldsB w p s) (hf : (faultF (textF s)).2 ≠ 0) :
    Calls Tryz.prog 8 #[.slice p s.size c] w fun e w' => e = .returned (.tuple #[.slice none 0 0, .int .i64 ((faultF (textF s)).1 : Int), .int .i64 ((faultF (textF s)).2 : Int)]) ∧ Below w.heap.size w w' := by
  have g : ¬ (65536 : Int) < (s.size : Int) := by omega
  have g2 : decide ((65536 : Int) < (s.size : Int)) = false := decide_eq_false g
  have TX := Lib.hid (refText_any p s c w (by omega) hc hp)
  have hts := text_size s
  obtain ⟨t, ht⟩ : ∃ t, textF s = t := ⟨_, rfl⟩
  rw [ht] at TX hts hf ⊢
  have FL := fun (W : World) (q : Option Addr) (k : Nat) (h : HoldsB W q t) => refFault_any q t k W (by omega) h
  obtain ⟨f1, hf1⟩ : ∃ z : Nat, (faultF t).1 = z := ⟨_, rfl⟩
  obtain ⟨f2, hf2⟩ : ∃ z : Nat, (faultF t).2 = z := ⟨_, rfl⟩
  rw [hf1, hf2] at FL ⊢
  rw [hf2] at hf
  have FLH := Lib.hid FL
  have g3 : ¬ (f2 : Int) = 0 := by omega
  have g4 : ((f2 : Int) == 0) = false := by rw [beq_eq_false_iff_ne]; exact g3
  have g5 : ((f2 : Int) != 0) = true := by rw [bne_iff_ne]; exact g3
  have htz : t.size ≤ 65536 := by omega
  clear FL hf1 hf2 hf hp hc hs hts ht
  go_enter Tryz.func8, Tryz.ntmps8
  go_wp2_with (fail)
  refine TX.out.mono ?_
  rintro e w2 ⟨rfl, hb⟩
  obtain ⟨cap, W3, hcv, hcap, hb3, -, hp3⟩ := bytes_of w2 t
  have HB3 := Lib.hid (below_cat hb hb3)
  have FL2 := Lib.hid (FLH.out W3 (some ⟨w2.heap.size, 0, none⟩) cap (fun _ => ⟨_, _, rfl, hp3⟩))
  clear hb hb3 hcap hp3
  go_wp2_with (fail)
  refine FL2.out.mono ?_
  rintro e w4 ⟨rfl, rfl⟩
  clear hcv
  go_wp2_with (fail)
  go_ret3
  exact ⟨rfl, HB3.out⟩
set_option maxRecDepth 100000 in
set_option maxHeartbeats 4000000 in
theorem rall_go (p : Option Addr) (s : ByteArray) (c : Nat) (w : World) (hs : s.size ≤ 65536) (hc : s.size ≤ c) (hp : HoldsB w p s) (hf : (faultF (textF s)).2 = 0) (hf0 : (faultF (textF s)).1 = 0) (res : Except (Nat × Nat) (List (Nat × Tok))) (hres : toksF (textF s) = res) :
    Calls Tryz.prog 8 #[.slice p s.size c] w fun e w' => RAllPost w res e w' ∧ Below w.heap.size w w' := by
  have g : ¬ (65536 : Int) < (s.size : Int) := by omega
  have g2 : decide ((65536 : Int) < (s.size : Int)) = false := decide_eq_false g
  have TX := Lib.hid (refText_any p s c w (by omega) hc hp)
  have hts := text_size s
  obtain ⟨t, ht⟩ : ∃ t, textF s = t := ⟨_, rfl⟩
  rw [ht] at TX hts hf hf0 hres
  have htz : t.size ≤ 65536 := by omega
  have HTZ := Lib.hid htz
  have FL := fun (W : World) (q : Option Addr) (k : Nat) (h : HoldsB W q t) => refFault_any q t k W (by omega) h
  rw [hf, hf0] at FL
  have FLH := Lib.hid FL
  have HRES := Lib.hid hres
  clear FL hf hf0 hp hc hs hts ht hres htz
  go_enter Tryz.func8, Tryz.ntmps8
  go_wp2_with (fail)
  refine TX.out.mono ?_
  rintro e w2 ⟨rfl, hb⟩
  obtain ⟨cap, W3, hcv, hcap, hb3, -, hp3⟩ := bytes_of w2 t
  have HB3 := Lib.hid (below_cat hb hb3)
  have FL2 := Lib.hid (FLH.out W3 (some ⟨w2.heap.size, 0, none⟩) cap (fun _ => ⟨_, _, rfl, hp3⟩))
  clear hb hb3 hcap hp3
  go_wp2_with (fail)
  refine FL2.out.mono ?_
  rintro e w4 ⟨rfl, rfl⟩
  clear hcv
  go_wp2_with (fail)
  go_loopw [6, 8] (fun v6 v8 wr => ∃ (j f : Nat) (l : List (Nat × Tok)), v6 = .int .i64 (j : Int) ∧ j ≤ t.size ∧ t.size ≤ j + f ∧ l.length ≤ j ∧ Hid (RTokL wr w.heap.size v8 l ∧ Below w.heap.size w wr ∧ toksGo t f j l = res)) (fun v6 _ _ => t.size - (intOf v6).toNat)
  case atStart => exact ⟨0, t.size, [], rfl, Nat.zero_le _, by omega, Nat.zero_le _, Lib.hid ⟨RTokL.made W3 _ HB3.out.size, HB3.out.alloc HB3.out.size _, HRES.out⟩⟩
  case round =>
    obtain ⟨j, f, l, rfl, hj, hf, hl, HD⟩ := hrel
    obtain ⟨q, m, cc, rfl⟩ := HD.out.1.form
    have htz := HTZ.out
    by_cases hlt : j < t.size
    · obtain ⟨f, rfl⟩ : ∃ f', f = f' + 1 := ⟨f - 1, by omega⟩
      have hlt2 : (j : Int) < (t.size : Int) := by omega
      have hgo := HD.out.2.2
      unfold toksGo at hgo
      rw [if_pos hlt] at hgo
      have ONE := Lib.hid (fun W => refOne_any t j W (by omega) hlt (fun W => refTag_any t (j + 1) W (by omega) (by omega)) (fun hop W => refDecl_any t W (by omega) (by
        obtain ⟨_, _, hV⟩ := opens_yes hop
        have := ((opens_white t).1 hV).1
        omega)))
      cases hr : tokF t j with
      | error e0 =>
        rw [hr] at ONE hgo
        have he0 := tok_err_ne hlt hr
        have z1 : ((e0 : Int) == 0) = false := by rw [beq_eq_false_iff_ne]; omega
        have z2 : ((e0 : Int) != 0) = true := by rw [bne_iff_ne]; omega
        have z3 : ¬ (e0 : Int) = 0 := by omega
        have HGO := Lib.hid hgo
        clear hgo hr he0
        go_wp2_with (fail)
        refine (ONE.out wr).mono ?_
        rintro e w5 ⟨rfl, hb5⟩
        have HB5 := Lib.hid (below_cat HD.out.2.1 hb5)
        clear hb5
        go_wp2_with (fail)
        go_ret3
        rw [← HGO.out]
        exact ⟨rfl, below_cat HB5.out ((Below.refl _ _).alloc (Nat.le_refl _) _)⟩
      | ok xi =>
        obtain ⟨x, i⟩ := xi
        rw [hr] at ONE hgo
        have hok := tok_ok hlt hr
        have HOK := Lib.hid (And.intro hok.1 hok.2.1)
        have HGO := Lib.hid hgo
        clear hgo hr hok
        go_wp2_with (fail)
        refine (ONE.out wr).mono ?_
        rintro e w5 ⟨⟨pv, rfl, hpv⟩, hb5⟩
        obtain ⟨qp, cp, hpf⟩ := hpv.form
        subst hpf
        have HPV := Lib.hid hpv
        have HB5 := Lib.hid hb5
        clear hb5 hpv
        go_upto_region 14 with fail
        obtain ⟨W5, hW5⟩ : ∃ W, w5.alloc (.cells #[.int .i64 (x.kind : Int), .int .i64 (j : Int), .string x.name, .slice qp x.pairs.length cp, .string x.text, .int .i64 (x.refs : Int)] 37) = W := ⟨_, rfl⟩
        obtain ⟨r5, v', w10, hrun, l10, b10⟩ := rall_step HD.out.1 HD.out.2.1 HB5.out ⟨_, _, _, rfl⟩ HPV.out (by omega) hW5
        rw [hW5]
        clear hW5
        obtain ⟨q9, m9, c9, rfl⟩ := l10.form
        have RUN := Lib.hid hrun
        have HN := Lib.hid (And.intro l10 b10)
        obtain ⟨⟨d0, d1, d2, d3, d4, d5⟩, ⟨g0, g1, g2, g3, g4, g5⟩⟩ := six_cells r5
        clear r5 hrun l10 b10
        go_wp2_with (at_builtin; refine wpList_append_eq rfl (.tmp 45) (.tmp 47) 29 rfl _ _ _ _ rfl rfl RUN.out ?_)
        go_roundw
        case rel =>
          have h1 : t.size ≤ i + f := by have := HOK.out; omega
          have h2 : (l ++ [(j, x)]).length ≤ i := by have := HOK.out; rw [List.length_append]; simp only [List.length_cons, List.length_nil]; omega
          exact ⟨i, f, l ++ [(j, x)], rfl, HOK.out.2, h1, h2, Lib.hid ⟨HN.out.1, HN.out.2, HGO.out⟩⟩
        case measure => have := HOK.out; simp [intOf]; omega
    · obtain rfl : j = t.size := by omega
      have hn : ¬ (t.size : Int) < (t.size : Int) := by omega
      have hgo : toksGo t f t.size l = .ok l := by
        cases f with
        | zero => rfl
        | succ f => unfold toksGo; rw [if_neg (by omega)]
      have HGO := Lib.hid (hgo.symm.trans HD.out.2.2)
      clear hgo
      go_wp2_with (fail)
      go_ret3
      rw [← HGO.out]
      exact ⟨⟨_, rfl, HD.out.1⟩, HD.out.2.1⟩
theorem refAll_any (p : Option Addr) (s : ByteArray) (c : Nat) (w : World) (hc : s.size ≤ c) (hp : HoldsB w p s) :
    Calls Tryz.prog 8 #[.slice p s.size c] w fun e w' => RAllPost w (allF s) e w' ∧ Below w.heap.size w w' := by
  unfold allF
  by_cases hs : 65536 < s.size
  · rw [if_pos hs]
    refine (rall_long p s c w hs).mono ?_
    rintro e w' ⟨rfl, rfl⟩
    exact ⟨rfl, Below.refl _ _⟩
  · rw [if_neg hs]
    by_cases hf : (faultF (textF s)).2 = 0
    · rw [if_neg (by simpa using hf)]
      exact rall_go p s c w (by omega) hc hp hf (fault_zero hf) _ rfl
    · rw [if_pos hf]
      refine (rall_fault p s c w (by omega) hc hp hf).mono ?_
      rintro e w' ⟨rfl, hb⟩
      exact ⟨rfl, hb⟩
end Go.Proofs.YtidimpepfkdcmaaGreatDoor
namespace Go.Proofs.YtidimpepfkdcmaaGreatDoor
open Go.RowKit

theorem PairsAt.pcells {w : World} {B : Nat} {v : Value} {l : List (ByteArray × ByteArray)} (h : PairsAt w B v l) : PCells w v l := by
  refine ⟨by obtain ⟨q, c, hv, _⟩ := h.form2; exact ⟨q, c, hv⟩, fun i x hx => ?_⟩
  have hl : 0 < l.length := by have := (List.getElem?_eq_some_iff.1 hx).1; omega
  obtain ⟨g, c, hv, _, _, hg, _, hc⟩ := h.cell hl
  obtain ⟨h0, h1⟩ := hc i x hx
  rw [Nat.mul_comm] at h0 h1
  exact ⟨g, c, hv, hg, h0, h1⟩
def lOf : Except (Nat × Nat) (List (Nat × Tok)) → List (Nat × Tok)
  | .ok l => l
  | .error _ => []
def kOf : Except (Nat × Nat) (List (Nat × Tok)) → Nat
  | .ok _ => 0
  | .error (k, _) => k
def eOf : Except (Nat × Nat) (List (Nat × Tok)) → Nat
  | .ok _ => 0
  | .error (_, e) => e
theorem all_form {w w' : World} {r : Except (Nat × Nat) (List (Nat × Tok))} {e : Ending} (h : AllPost w r e w') : ∃ q c, e = .returned (.tuple #[.slice q (lOf r).length c, .int .i64 (kOf r : Int), .int .i64 (eOf r : Int)]) ∧ TokL w' w.heap.size (.slice q (lOf r).length c) (lOf r) := by
  cases r with
  | ok l =>
    obtain ⟨v, he, hl⟩ := h
    obtain ⟨q, c, hv⟩ := hl.form2
    subst hv
    exact ⟨q, c, he, hl⟩
  | error ke =>
    obtain ⟨k, e0⟩ := ke
    exact ⟨none, 0, h, TokL.nil _ _⟩
theorem rall_form {w w' : World} {r : Except (Nat × Nat) (List (Nat × Tok))} {e : Ending} (h : RAllPost w r e w') : ∃ q c, e = .returned (.tuple #[.slice q (lOf r).length c, .int .i64 (kOf r : Int), .int .i64 (eOf r : Int)]) ∧ RTokL w' w.heap.size (.slice q (lOf r).length c) (lOf r) := by
  cases r with
  | ok l =>
    obtain ⟨v, he, hl⟩ := h
    obtain ⟨q, c, hv⟩ := hl.form2
    subst hv
    exact ⟨q, c, he, hl⟩
  | error ke =>
    obtain ⟨k, e0⟩ := ke
    exact ⟨none, 0, h, RTokL.nil _ _⟩
theorem lof_len (s : ByteArray) : (lOf (allF s)).length ≤ 65536 ∧ ∀ (i : Nat) (x : Nat × Tok), (lOf (allF s))[i]? = some x → x.2.pairs.length ≤ 65539 := by
  cases hr : allF s with
  | ok l =>
    obtain ⟨h1, h2⟩ := all_len hr
    exact ⟨h1, fun i x hx => h2 x (List.mem_of_getElem? hx)⟩
  | error ke => exact ⟨Nat.zero_le _, fun i x hx => by cases hx⟩
theorem TokL.below {w W : World} {B : Nat} {v : Value} {l : List (Nat × Tok)} (h : TokL w B v l) (hb : Below w.heap.size w W) : TokL W B v l :=
  h.keep (row := none) (below_grown0 hb rfl) (fun k e => by cases e)
end Go.Proofs.YtidimpepfkdcmaaGreatDoor
namespace Go.Proofs.YtidimpepfkdcmaaGreatDoor
open Go.RowKit

set_option maxHeartbeats 1000000 in
theorem same_yes (p q : Option Addr) (s : ByteArray) (c d : Nat) (w : World) (hp : HoldsB w p s) (hq : HoldsB w q s) :
    Calls Tryz.prog 21 #[.slice p s.size c, .slice q s.size d] w fun e w' => e = .returned (.bool true) ∧ w = w' := by
  have h1 := conv_str hp c (holds_none hp)
  have h2 := conv_str hq d (holds_none hq)
  clear hp hq
  generalize hn : s.size = n at *
  clear hn
  go_enter Tryz.func21, Tryz.ntmps21
  go_wp2_with (fail)
  all_goals (go_ret; exact ⟨ret_bool (by simp), rfl⟩)

/-- It ends with a copy that has room behind it, in which 165 stands. -/
def SparedB (s : ByteArray) (w : World) (e : Ending) (w' : World) : Prop := ∃ g cap, e = .returned (.slice (some ⟨g, 0, none⟩) s.size cap) ∧ Owns w' w.heap.size g cap (s ++ ⟨#[165]⟩) ∧ Below w.heap.size w w'

set_option maxRecDepth 100000 in
set_option maxHeartbeats 2000000 in
theorem spare_any (p : Option Addr) (s : ByteArray) (c : Nat) (w : World) (hs : s.size ≤ 140737488355000) (hp : HoldsB w p s) (hnil : p = none → c = 0) :
    Calls Tryz.prog 6 #[.slice p s.size c] w (SparedB s w) := by
  obtain ⟨w1, hmk, ho0, hb0⟩ := make_own w (s.size + 3) (by omega)
  have hz : (⟨#[]⟩ : ByteArray).size = 0 := rfl
  obtain ⟨g1, k1, w2, hr1, ho1, hb1⟩ := append_next (t := s) ho0 hb0 (hp.below hb0) hnil (by rw [hz]; omega)
  rw [empty_append] at ho1
  simp only [hz, Nat.zero_add] at hr1
  obtain ⟨g2, k2, w3, hr2, ho2, hb2⟩ := append_one 165 ho1 hb1 (by omega)
  have hcap := ho2.2.2.2
  rw [size_push] at hcap
  have HO := Lib.hid ho2
  have HB := Lib.hid hb2
  have R1 := Lib.hid hr1
  have R2 := Lib.hid hr2
  have hmk' : (Instr.makeSlice 22 (.int .i64 0) (.int .i64 ((s.size : Int) + 3))).run Tryz.prog w = .ok (.slice (some ⟨w.heap.size, 0, none⟩) 0 (s.size + 3)) w1 := by
    rw [← hmk]; congr 2
  have hc1 : (s.size : Int) ≤ (k2 : Int) := by omega
  clear hmk ho0 hb0 hr1 ho1 hb1 hr2 ho2 hb2 hp hz
  go_enter Tryz.func6, Tryz.ntmps6
  go_wp2_with (first | (at_builtin; refine wpList_append_eq rfl (.tmp 6) (.tmp 7) 22 rfl _ _ _ _ rfl rfl R1.out ?_) | (at_builtin; refine wpList_append_eq rfl (.tmp 8) (.tmp 9) 22 rfl _ _ _ _ rfl rfl R2.out ?_))
  go_ret
  exact ⟨g2, k2, rfl, HO.out, HB.out⟩

theorem owns_front {w : World} {B g cap : Nat} {s t : ByteArray} (h : Owns w B g cap (s ++ t)) : HoldsB w (some ⟨g, 0, none⟩) s := fun h0 => by
  obtain ⟨b, off, e, hc⟩ := h.holds (by rw [ByteArray.size_append]; omega)
  cases e
  refine ⟨g, 0, rfl, fun j hj => ?_⟩
  rw [hc j (by rw [ByteArray.size_append]; omega), get!_left s t j hj]
theorem owns_behind {w : World} {B g cap : Nat} {s : ByteArray} (h : Owns w B g cap (s ++ ⟨#[165]⟩)) : w.cell? ⟨g, s.size, none⟩ = some (.int .u8 165) := by
  obtain ⟨b, off, e, hc⟩ := h.holds (by rw [size_push]; omega)
  cases e
  have h1 := hc s.size (by rw [size_push]; omega)
  rw [Nat.zero_add] at h1
  have h2 := get!_right s ⟨#[165]⟩ 0
  rw [Nat.add_zero] at h2
  rw [h1, h2]
  rfl

set_option maxRecDepth 100000 in
set_option maxHeartbeats 2000000 in
theorem kept_yes (B g cap : Nat) (q : Option Addr) (s : ByteArray) (d : Nat) (w : World) (hs : s.size ≤ 140737488355000) (ho : Owns w B g cap (s ++ ⟨#[165]⟩)) (hq : HoldsB w q s) :
    Calls Tryz.prog 11 #[.slice (some ⟨g, 0, none⟩) s.size cap, .slice q s.size d] w fun e w' => e = .returned (.bool true) ∧ w = w' := by
  have S := Lib.hid (same_yes (some ⟨g, 0, none⟩) q s cap d w (owns_front ho) hq)
  have hc := owns_behind ho
  have hcap := ho.2.2.2
  rw [size_push] at hcap
  have c1 : (s.size : Int) < (cap : Int) := by omega
  have c2 : (s.size : Int) + 1 ≤ (cap : Int) := by omega
  have c3 : (0 : Int) ≤ (s.size : Int) + 1 := by omega
  have c4 : (s.size : Int) < (s.size : Int) + 1 := by omega
  clear ho hq
  go_enter Tryz.func11, Tryz.ntmps11
  go_wp2_with (fail)
  refine S.out.mono ?_
  rintro e w1 ⟨rfl, rfl⟩
  go_wp2_with (fail)
  all_goals first | (exfalso; omega) | (go_ret; exact ⟨ret_bool (by simp), rfl⟩)
end Go.Proofs.YtidimpepfkdcmaaGreatDoor
namespace Go.Proofs.YtidimpepfkdcmaaGreatDoor
open Go.RowKit

/-- W is w, but for cells of the blocks from a on and below b; of the row at g the cells from 6 i on stand. -/
structure Wiped (a b g i : Nat) (w W : World) : Prop where
  os : W.os = w.os
  tape : W.tape = w.tape
  output : W.output = w.output
  size : W.heap.size = w.heap.size
  same : ∀ k, k < a ∨ b ≤ k → W.heap[k]? = w.heap[k]?
  shape : ∀ (k : Nat) (cs : Array Value) (T : TypeId), w.heap[k]? = some (.cells cs T) → ∃ cs' : Array Value, W.heap[k]? = some (.cells cs' T) ∧ cs'.size = cs.size
  rest : ∀ j, i * 6 ≤ j → W.cell? ⟨g, j, none⟩ = w.cell? ⟨g, j, none⟩
theorem Wiped.refl (a b g i : Nat) (w : World) : Wiped a b g i w w := ⟨rfl, rfl, rfl, rfl, fun _ _ => rfl, fun _ cs _ h => ⟨cs, h, rfl⟩, fun _ _ => rfl⟩
theorem Wiped.set {a b g i : Nat} {w W : World} (h : Wiped a b g i w W) {k n : Nat} (v : Value) (ha : a ≤ k) (hb : k < b) (hr : k ≠ g ∨ n < i * 6) : Wiped a b g i w (W.setCell ⟨k, n, none⟩ v) := by
  refine ⟨h.os, h.tape, h.output, ?_, fun j hj => ?_, fun j cs T hj => ?_, fun j hj => ?_⟩
  · rw [← h.size]
    simp [World.setCell]
  · rw [Below.heap_setCell _ _ _ _ (by show j ≠ k; omega)]
    exact h.same j hj
  · obtain ⟨cs', h1, h2⟩ := h.shape j cs T hj
    by_cases hjk : j = k
    · subst hjk
      exact ⟨cs'.setIfInBounds n v, (setCell_row v h1).1, by simp [h2]⟩
    · exact ⟨cs', by rw [Below.heap_setCell _ _ _ _ hjk]; exact h1, h2⟩
  · refine (World.cell?_setCell_other _ _ _ _ (fun e => ?_)).trans (h.rest j hj)
    injection e with e1 e2 _
    rcases hr with q | q <;> omega
theorem Wiped.less {a b g i j : Nat} {w W : World} (h : Wiped a b g i w W) (hij : i ≤ j) : Wiped a b g j w W := ⟨h.os, h.tape, h.output, h.size, h.same, h.shape, fun k hk => h.rest k (by omega)⟩
theorem Wiped.below {a b g i B : Nat} {u w W : World} (h : Wiped a b g i w W) (hb : Below B u w) (hB : B ≤ a) : Below B u W := ⟨h.os.trans hb.os, h.tape.trans hb.tape, h.output.trans hb.output, by rw [h.size]; exact hb.size, fun k hk => (h.same k (.inl (by omega))).trans (hb.block k hk)⟩
/-- A cell of a row whose shape stands is there and may be written. -/
theorem Wiped.there {a b g i k n : Nat} {w W : World} {cs : Array Value} {T : TypeId} (h : Wiped a b g i w W) (hk : w.heap[k]? = some (.cells cs T)) (hn : n < cs.size) : (∃ v, W.cell? ⟨k, n, none⟩ = some v) ∧ W.frozen? ⟨k, n, none⟩ = false := by
  obtain ⟨cs', h1, h2⟩ := h.shape k cs T hk
  refine ⟨⟨cs'[n], ?_⟩, by simp [World.frozen?, h1]⟩
  rw [cell_of_row _ _ _ _ _ _ h1]
  exact Array.getElem?_eq_getElem (by omega)
theorem row_same {w W : World} {B n k : Nat} {T : TypeId} {v : Value} {xs : List Value} (h : w.ownsRow B T k v n xs) (hs : ∀ g, B ≤ g → W.heap[g]? = w.heap[g]?) : W.ownsRow B T k v n xs := by
  refine ⟨h.1, ?_⟩
  rcases h.2 with g | ⟨g, c, cur, e, h1, h2, r⟩
  · exact .inl g
  · exact .inr ⟨g, c, cur, e, h1, (hs g h1).trans h2, r⟩
theorem TokL.same {w W : World} {B : Nat} {v : Value} {l : List (Nat × Tok)} (h : TokL w B v l) (hs : ∀ g, B ≤ g → W.heap[g]? = w.heap[g]?) : TokL W B v l := by
  obtain ⟨pvs, h1, h2, h3⟩ := h
  exact ⟨pvs, h1, row_same h2 hs, fun z hz => row_same (h3 z hz) hs⟩
theorem Owns.same {w W : World} {B g cap : Nat} {s : ByteArray} (h : Owns w B g cap s) (hs : W.heap[g]? = w.heap[g]?) (hz : W.heap.size = w.heap.size) : Owns W B g cap s := by
  obtain ⟨h1, h2, h3, h4⟩ := h
  refine ⟨⟨h1.1, ?_⟩, h2, by rw [hz]; exact h3, h4⟩
  rcases h1.2 with q | ⟨g', c, cur, e, h5, h6, r⟩
  · exact .inl q
  · refine .inr ⟨g', c, cur, e, h5, ?_, r⟩
    injection e with e
    injection e with e
    injection e with e
    subst e
    exact hs.trans h6
/-- The row of the tokens, and those of their pairs. -/
theorem TokL.rows {w : World} {B : Nat} {v : Value} {l : List (Nat × Tok)} (h : TokL w B v l) (hl : 0 < l.length) : ∃ g c cs, v = .slice (some ⟨g, 0, none⟩) l.length c ∧ B ≤ g ∧ g < w.heap.size ∧ l.length ≤ c ∧ c ≤ maxLen ∧ w.heap[g]? = some (.cells cs 41) ∧ cs.size = c * 6 := by
  obtain ⟨pvs, h1, h2, h3⟩ := h
  rcases h2.2 with ⟨_, h0⟩ | ⟨g, c, cur, e, hb, hg, hc, hm, hz, _⟩
  · omega
  · exact ⟨g, c, cur, e, hb, (Array.getElem?_eq_some_iff.1 hg).1, hc, hm, hg, hz⟩
theorem PairsAt.rows {w : World} {B : Nat} {v : Value} {l : List (ByteArray × ByteArray)} (h : PairsAt w B v l) (hl : 0 < l.length) : ∃ g c cs, v = .slice (some ⟨g, 0, none⟩) l.length c ∧ B ≤ g ∧ g < w.heap.size ∧ l.length ≤ c ∧ c ≤ maxLen ∧ w.heap[g]? = some (.cells cs 44) ∧ cs.size = c * 2 := by
  rcases h.2 with ⟨_, h0⟩ | ⟨g, c, cur, e, hb, hg, hc, hm, hz, _⟩
  · omega
  · exact ⟨g, c, cur, e, hb, (Array.getElem?_eq_some_iff.1 hg).1, hc, hm, hg, hz⟩
end Go.Proofs.YtidimpepfkdcmaaGreatDoor
