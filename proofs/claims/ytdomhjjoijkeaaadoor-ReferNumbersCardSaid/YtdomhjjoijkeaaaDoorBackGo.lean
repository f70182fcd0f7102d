/- Proved here: plain facts: what is written of a text or a value is read as it was; of one with a fault the reader tells that one; no program is named. -/
import Derived.Test.YtdomhjjoijkeaaaDoorBackPlain
namespace Go.Proofs.YtdomhjjoijkeaaaDoor
open Go.RowKit

theorem by_list {s : ByteArray} {pos : Nat} {x : UInt8} {r : List UInt8} (h : s.data.toList.drop pos = x :: r) : pos < s.size ∧ by_ s pos = (x.toNat : Int) ∧ s.data.toList.drop (pos + 1) = r := by
  have hp : pos < s.size := by
    by_cases g : pos < s.size
    · exact g
    · rw [List.drop_eq_nil_of_le (by simp; omega)] at h
      cases h
  rw [drop_at s pos hp] at h
  injection h with h1 h2
  exact ⟨hp, by unfold by_; rw [h1], h2⟩
theorem encode_high (r : Int) (h : 128 ≤ r) : ∀ y ∈ Lib.encodeRune r, 128 ≤ y.toNat := by
  have go : ∀ z ∈ Lib.encodeRuneZ r, 128 ≤ z ∧ z < 256 := by
    by_cases c2 : r ≤ 2047
    · rw [Lib.encodeRuneZ_two h c2]
      simp only [List.mem_cons, List.mem_nil_iff, or_false]
      rintro z (rfl | rfl) <;> omega
    by_cases c3 : 1114111 < r ∨ (55296 ≤ r ∧ r ≤ 57343)
    · rw [Lib.encodeRuneZ_bad (by omega)]
      simp only [List.mem_cons, List.mem_nil_iff, or_false]
      rintro z (rfl | rfl | rfl) <;> omega
    by_cases c4 : r ≤ 65535
    · rw [Lib.encodeRuneZ_three (by omega)]
      simp only [List.mem_cons, List.mem_nil_iff, or_false]
      rintro z (rfl | rfl | rfl) <;> omega
    · rw [Lib.encodeRuneZ_four (by omega) (by omega)]
      simp only [List.mem_cons, List.mem_nil_iff, or_false]
      rintro z (rfl | rfl | rfl | rfl) <;> omega
  intro y hy
  unfold Lib.encodeRune at hy
  obtain ⟨z, hz, rfl⟩ := List.mem_map.1 hy
  have := go z hz
  show 128 ≤ (UInt8.ofNat z.toNat).toNat
  rw [UInt8.toNat_ofNat']
  omega
theorem rdL_take_high (x : UInt8) (t : List UInt8) (hx : 128 ≤ x.toNat) (h : (rdL (x :: t)).2 ≠ 0) : ∀ y ∈ (x :: t).take (rdL (x :: t)).2, 128 ≤ y.toNat := by
  have h1 : 128 ≤ (rdL (x :: t)).1 := by
    unfold rdL at h ⊢
    rw [gN_zero] at h ⊢
    exact rd_high _ _ _ _ _ hx x.toNat_lt h
  rw [← encode_rdL x t h]
  exact encode_high _ (by omega)
theorem written_high {esc : Int → ByteArray} (he : EscOk esc) : ∀ l : List UInt8, (∀ y ∈ l, 128 ≤ y.toNat) → writtenL esc l = l
  | [], _ => rfl
  | x :: l, h => by
    rw [written_self (he.high _ (by have := h x (by simp); omega)), written_high he l (fun y hy => h y (by simp [hy]))]
theorem written_cat (esc : Int → ByteArray) (a b : List UInt8) : writtenL esc (a ++ b) = writtenL esc a ++ writtenL esc b := by
  unfold writtenL
  rw [List.flatMap_append]
theorem list_eq_bytes {a b : ByteArray} (h : a.data.toList = b.data.toList) : a = b := by
  apply ByteArray.ext
  exact Array.toList_inj.1 h
theorem list_some {t : ByteArray} (h : ¬ t = ⟨#[]⟩) : 0 < t.data.toList.length := by
  cases he : t.data.toList with
  | nil => exact absurd (list_eq_bytes (by rw [he])) h
  | cons _ _ => simp
theorem written_pos (esc : Int → ByteArray) (x : UInt8) (t : List UInt8) : 0 < (writtenL esc (x :: t)).length := by
  by_cases h : esc x.toNat = ⟨#[]⟩
  · rw [written_self h]; simp
  · rw [written_esc h]
    have := list_some h
    simp only [List.length_append]
    omega
theorem rdL_low (x : UInt8) (t : List UInt8) (h : x.toNat < 128) : rdL (x :: t) = (x.toNat, 1) := by
  unfold rdL
  rw [gN_zero]
  exact rd_ascii h

/-- What is asked of a way of writing and a way of reading: what stands for itself is read as the character there; what doesn't, as itself, whole. -/
structure BackOk (esc : Int → ByteArray) (step : ByteArray → Nat → Int × Int × Int) : Prop where
  plain : ∀ (t : ByteArray) (pos : Nat) (x : UInt8) (l : List UInt8), t.data.toList.drop pos = x :: writtenL esc l → esc x.toNat = ⟨#[]⟩ → step t pos = (((nextF t pos).1 : Int), ((nextF t pos).2.1 : Int), ((nextF t pos).2.2 : Int))
  ref : ∀ (t : ByteArray) (pos : Nat) (x : UInt8) (r : List UInt8), t.data.toList.drop pos = (esc x.toNat).data.toList ++ r → esc x.toNat ≠ ⟨#[]⟩ → step t pos = ((x.toNat : Int), (pos : Int) + ((esc x.toNat).size : Int), 0)
  low : ∀ x : UInt8, esc x.toNat ≠ ⟨#[]⟩ → x.toNat < 128 ∧ charB (x.toNat : Int) = true

def BackIs (f : Nat) (l out : List UInt8) (r : List UInt8 × Nat × Int) : Prop := (f = 0 → r.1 = out ++ l ∧ r.2.2 = 0) ∧ (f ≠ 0 → r.1 = [] ∧ r.2.2 = (f : Int))
theorem back_go {esc : Int → ByteArray} {step : ByteArray → Nat → Int × Int × Int} (he : EscOk esc) (hb : BackOk esc step) (s : ByteArray) : ∀ (b pos : Nat), s.size ≤ pos + b → pos ≤ s.size → ∀ (a : List UInt8) (t : ByteArray), t.data.toList = a ++ writtenL esc (s.data.toList.drop pos) → ∀ (k : Nat) (out : List UInt8), t.size ≤ a.length + k → BackIs (faultGo s b pos).2 (s.data.toList.drop pos) out (readGo (step t) t.size k a.length out) := by
  intro b
  induction b with
  | zero =>
    intro pos h1 h2 a t ht k out hk
    have e : s.data.toList.drop pos = [] := List.drop_eq_nil_of_le (by simp; omega)
    rw [e] at ht ⊢
    have hl : t.size = a.length := by
      have := congrArg List.length ht
      simpa [writtenL] using this
    rw [readGo_end _ _ _ _ _ (by omega)]
    exact ⟨fun _ => ⟨by simp, rfl⟩, fun h => absurd rfl h⟩
  | succ b ih =>
    intro pos h1 h2 a t ht k out hk
    by_cases hlt : pos < s.size
    · have hd := drop_at s pos hlt
      obtain ⟨x, hx⟩ : ∃ x, s.get! pos = x := ⟨_, rfl⟩
      obtain ⟨l, hl⟩ : ∃ l, s.data.toList.drop (pos + 1) = l := ⟨_, rfl⟩
      rw [hx, hl] at hd
      rw [hd] at ht
      have hts : t.data.toList.drop a.length = writtenL esc (x :: l) := by rw [ht]; simp
      have hlen : t.size = a.length + (writtenL esc (x :: l)).length := by
        have := congrArg List.length ht
        simpa using this
      have hpos := written_pos esc x l
      obtain ⟨k, rfl⟩ : ∃ k', k = k' + 1 := ⟨k - 1, by omega⟩
      have hat : a.length < t.size := by omega
      have hrs : rd s pos = rdL (x :: l) := by rw [rd_list, hd]
      by_cases hesc : esc x.toNat = ⟨#[]⟩
      · have hts' := hts
        rw [written_self hesc] at hts'
        have hst := hb.plain t a.length x l hts' hesc
        have hrt : rd t a.length = rd s pos := by
          rw [rd_list, hts', hrs]
          by_cases g : 128 ≤ x.toNat
          · exact rd_written he x l g
          · rw [rdL_low _ _ (by omega), rdL_low _ _ (by omega)]
        by_cases h0 : (rd s pos).2 = 0
        · rw [faultGo_bad s b pos hlt h0]
          have hn : nextF t a.length = (0, 0, 20) := by unfold nextF; rw [hrt, if_pos h0]
          rw [hn] at hst
          rw [readGo_bad _ _ _ _ _ hat (by rw [hst]; decide), hst]
          exact ⟨fun h => absurd (show (20 : Nat) = 0 from h) (by decide), fun _ => ⟨rfl, rfl⟩⟩
        cases hc : charB ((rd s pos).1 : Int)
        · rw [faultGo_no s b pos hlt h0 hc]
          have hn : nextF t a.length = (0, 0, 21) := by unfold nextF; rw [hrt, if_neg h0, hc]; rfl
          rw [hn] at hst
          rw [readGo_bad _ _ _ _ _ hat (by rw [hst]; decide), hst]
          exact ⟨fun h => absurd (show (21 : Nat) = 0 from h) (by decide), fun _ => ⟨rfl, rfl⟩⟩
        · rw [faultGo_step s b pos hlt h0 hc]
          have hn : nextF t a.length = ((rd s pos).1, a.length + (rd s pos).2, 0) := by unfold nextF; rw [hrt, if_neg h0, hc]; rfl
          rw [hn] at hst
          rw [readGo_step _ _ _ _ _ hat (by rw [hst]; rfl), hst]
          simp only [Int.toNat_natCast]
          have hle := rd_le s pos hlt
          rw [hrs] at h0 hle ⊢
          obtain ⟨n, hn⟩ : ∃ n, (rdL (x :: l)).2 = n := ⟨_, rfl⟩
          have henc := encode_rdL x l h0
          have hkeep : writtenL esc ((x :: l).take n) = (x :: l).take n := by
            by_cases g : 128 ≤ x.toNat
            · exact written_high he _ (by rw [← hn]; exact rdL_take_high x l g h0)
            · have : n = 1 := by rw [← hn, rdL_low _ _ (by omega)]
              subst this
              show writtenL esc [x] = [x]
              rw [written_self hesc]
              rfl
          rw [hn] at h0 hle henc ⊢
          rw [henc]
          have hsplit : writtenL esc (x :: l) = (x :: l).take n ++ writtenL esc (s.data.toList.drop (pos + n)) := by
            conv => lhs; rw [← List.take_append_drop n (x :: l)]
            rw [written_cat, hkeep, ← hd, List.drop_drop]
          have hll : (x :: l).length = s.size - pos := by rw [← hd]; simp
          have htl : ((x :: l).take n).length = n := by rw [List.length_take]; omega
          have := ih (pos + n) (by omega) (by omega) (a ++ (x :: l).take n) t (by rw [ht, hsplit]; simp) k (out ++ (x :: l).take n) (by simp only [List.length_append, htl]; omega)
          rw [List.length_append, htl] at this
          obtain ⟨p1, p2⟩ := this
          refine ⟨fun h => ⟨?_, (p1 h).2⟩, p2⟩
          rw [(p1 h).1, List.append_assoc, hd]
          congr 1
          conv => rhs; rw [← List.take_append_drop n (x :: l)]
          rw [← hd, List.drop_drop]
      · have hts' := hts
        rw [written_esc hesc] at hts'
        have hst := hb.ref t a.length x _ hts' hesc
        obtain ⟨hlow, hch⟩ := hb.low x hesc
        have hr : rd s pos = (x.toNat, 1) := by rw [hrs, rdL_low _ _ hlow]
        rw [faultGo_step s b pos hlt (by rw [hr]; exact Nat.one_ne_zero) (by rw [hr]; exact hch), hr]
        rw [readGo_step _ _ _ _ _ hat (by rw [hst]), hst]
        have e1 : ((a.length : Int) + ((esc x.toNat).size : Int)).toNat = a.length + (esc x.toNat).size := by omega
        have e2 : Lib.encodeRune (x.toNat : Int) = [x] := by
          unfold Lib.encodeRune
          rw [Lib.encodeRuneZ_one (by omega) (by omega)]
          simp
        simp only [e1, e2]
        have hsz : (esc x.toNat).data.toList.length = (esc x.toNat).size := by simp
        have := ih (pos + 1) (by omega) (by omega) (a ++ (esc x.toNat).data.toList) t (by rw [ht, written_esc hesc, hl]; simp) k (out ++ [x]) (by
          rw [written_esc hesc] at hlen
          have hne := list_some hesc
          simp only [List.length_append, hsz] at hlen hne ⊢
          omega)
        rw [List.length_append, hsz] at this
        obtain ⟨p1, p2⟩ := this
        refine ⟨fun h => ⟨?_, (p1 h).2⟩, p2⟩
        rw [(p1 h).1, hd, hl]
        simp
    · have e : s.data.toList.drop pos = [] := List.drop_eq_nil_of_le (by simp; omega)
      rw [e] at ht ⊢
      have hl : t.size = a.length := by
        have := congrArg List.length ht
        simpa [writtenL] using this
      rw [readGo_end _ _ _ _ _ (by omega), faultGo_end _ _ _ hlt]
      exact ⟨fun _ => ⟨by simp, rfl⟩, fun h => absurd rfl h⟩
theorem back_all {esc : Int → ByteArray} {step : ByteArray → Nat → Int × Int × Int} (he : EscOk esc) (hb : BackOk esc step) (s : ByteArray) : BackIs (faultF s).2 s.data.toList [] (readF (step (writtenB esc s)) (writtenB esc s).size) := by
  have h := back_go he hb s s.size 0 (by omega) (by omega) [] (writtenB esc s) (by simp [writtenB]) (writtenB esc s).size [] (by simp)
  unfold faultF readF
  exact h

/-- None of these bytes stands in what is written. -/
theorem written_none {esc : Int → ByteArray} (p : UInt8 → Bool) (hp : ∀ x : UInt8, esc x.toNat = ⟨#[]⟩ → p x = false) (he : ∀ c, ∀ y ∈ (esc c).data.toList, p y = false) : ∀ l : List UInt8, ∀ y ∈ writtenL esc l, p y = false
  | [], y, hy => by cases hy
  | x :: l, y, hy => by
    rw [written_cons] at hy
    rcases List.mem_append.1 hy with h | h
    · unfold oneL at h
      split at h
      · rename_i g
        simp only [List.mem_cons, List.mem_nil_iff, or_false] at h
        subst h
        exact hp _ g
      · exact he _ y h
    · exact written_none p hp he l y h
def oddT (y : UInt8) : Bool := y == 60 || y == 62 || y == 13
def oddV (y : UInt8) : Bool := y == 60 || y == 34 || y == 9 || y == 10 || y == 13
theorem u8_of (y : UInt8) (n : Nat) (h : y.toNat = n) : y = UInt8.ofNat n := by rw [← h]; simp
theorem escT_iff (c : Int) : escT c = ⟨#[]⟩ ↔ (c ≠ 38 ∧ c ≠ 60 ∧ c ≠ 62 ∧ c ≠ 13) := by
  unfold escT
  by_cases h0 : c = 38
  · subst h0; simp
  by_cases h1 : c = 60
  · subst h1; simp
  by_cases h2 : c = 62
  · subst h2; simp
  by_cases h3 : c = 13
  · subst h3; simp
  simp [h0, h1, h2, h3]
theorem escV_iff (c : Int) : escV c = ⟨#[]⟩ ↔ (c ≠ 38 ∧ c ≠ 60 ∧ c ≠ 34 ∧ c ≠ 9 ∧ c ≠ 10 ∧ c ≠ 13) := by
  unfold escV
  by_cases h0 : c = 38
  · subst h0; simp
  by_cases h1 : c = 60
  · subst h1; simp
  by_cases h2 : c = 34
  · subst h2; simp
  by_cases h3 : c = 9
  · subst h3; simp
  by_cases h4 : c = 10
  · subst h4; simp
  by_cases h5 : c = 13
  · subst h5; simp
  simp [h0, h1, h2, h3, h4, h5]
theorem beq_u8 (y : UInt8) (n : Nat) (hn : n < 256) : (y == UInt8.ofNat n) = decide ((y.toNat : Int) = n) := by
  rw [Bool.eq_iff_iff, beq_iff_eq, decide_eq_true_iff]
  constructor
  · rintro rfl
    rw [UInt8.toNat_ofNat']
    omega
  · intro h
    exact u8_of y n (by omega)
theorem oddT_self (x : UInt8) (h : escT x.toNat = ⟨#[]⟩) : oddT x = false := by
  have := (escT_iff _).1 h
  unfold oddT
  rw [show (60 : UInt8) = UInt8.ofNat 60 from rfl, show (62 : UInt8) = UInt8.ofNat 62 from rfl, show (13 : UInt8) = UInt8.ofNat 13 from rfl, beq_u8 _ _ (by decide), beq_u8 _ _ (by decide), beq_u8 _ _ (by decide)]
  simp
  omega
theorem oddV_self (x : UInt8) (h : escV x.toNat = ⟨#[]⟩) : oddV x = false := by
  have := (escV_iff _).1 h
  unfold oddV
  rw [show (60 : UInt8) = UInt8.ofNat 60 from rfl, show (34 : UInt8) = UInt8.ofNat 34 from rfl, show (9 : UInt8) = UInt8.ofNat 9 from rfl, show (10 : UInt8) = UInt8.ofNat 10 from rfl, show (13 : UInt8) = UInt8.ofNat 13 from rfl, beq_u8 _ _ (by decide), beq_u8 _ _ (by decide), beq_u8 _ _ (by decide), beq_u8 _ _ (by decide), beq_u8 _ _ (by decide)]
  simp
  omega
theorem oddT_esc (c : Int) : ∀ y ∈ (escT c).data.toList, oddT y = false := by
  unfold escT
  repeat' split
  all_goals decide
theorem oddV_esc (c : Int) : ∀ y ∈ (escV c).data.toList, oddV y = false := by
  unfold escV
  repeat' split
  all_goals decide
theorem writtenT_none (l : List UInt8) : ∀ y ∈ writtenL escT l, oddT y = false := written_none oddT oddT_self oddT_esc l
theorem writtenV_none (l : List UInt8) : ∀ y ∈ writtenL escV l, oddV y = false := written_none oddV oddV_self oddV_esc l

theorem written_size {esc : Int → ByteArray} (h6 : ∀ c, (esc c).size ≤ 6) : ∀ l : List UInt8, (writtenL esc l).length ≤ 6 * l.length
  | [] => by simp [writtenL]
  | x :: l => by
    have := written_size h6 l
    have h := h6 x.toNat
    rw [written_cons]
    unfold oneL
    split
    · simp; omega
    · have e : (esc x.toNat).data.toList.length = (esc x.toNat).size := by simp
      simp only [List.length_append, e, List.length_cons]
      omega
theorem writtenB_size {esc : Int → ByteArray} (h6 : ∀ c, (esc c).size ≤ 6) (s : ByteArray) : (writtenB esc s).size ≤ 6 * s.size := by
  have := written_size h6 s.data.toList
  have e : s.data.toList.length = s.size := by simp
  rw [e] at this
  show (writtenL esc s.data.toList).toArray.size ≤ 6 * s.size
  rw [List.size_toArray]
  exact this
theorem ng_yes (s : ByteArray) (at_ m : Nat) (h : pfxB s at_ (4 - m) = true) : namedGo s at_ (m + 1) = (charOf (4 - m), (at_ : Int) + ((wordOf (4 - m)).size : Int), 0) := by rw [namedGo, if_pos h]
theorem ng_no (s : ByteArray) (at_ m : Nat) (h : pfxB s at_ (4 - m) = false) : namedGo s at_ (m + 1) = namedGo s at_ m := by rw [namedGo, if_neg (by rw [h]; simp)]
theorem exp_named {t : ByteArray} {pos k : Nat} {r : List UInt8} (hk : k < 5) (h : t.data.toList.drop pos = (wordOf k).data.toList ++ r) : expF t pos = (charOf k, (pos : Int) + ((wordOf k).size : Int), 0) := by
  have h35 : by_ t (pos + 1) ≠ 35 := by
    obtain rfl | rfl | rfl | rfl | rfl : k = 0 ∨ k = 1 ∨ k = 2 ∨ k = 3 ∨ k = 4 := by omega
    all_goals
      obtain ⟨_, _, e⟩ := by_list h
      obtain ⟨_, e2, _⟩ := by_list e
      rw [e2]
      decide
  unfold expF
  rw [if_neg (by rintro ⟨_, e⟩; exact h35 e)]
  obtain rfl | rfl | rfl | rfl | rfl : k = 0 ∨ k = 1 ∨ k = 2 ∨ k = 3 ∨ k = 4 := by omega
  · rw [ng_yes t pos 4 (by unfold pfxB; rw [h]; rfl)]
  · rw [ng_no t pos 4 (by unfold pfxB; rw [h]; rfl), ng_yes t pos 3 (by unfold pfxB; rw [h]; rfl)]
  · rw [ng_no t pos 4 (by unfold pfxB; rw [h]; rfl), ng_no t pos 3 (by unfold pfxB; rw [h]; rfl), ng_yes t pos 2 (by unfold pfxB; rw [h]; rfl)]
  · rw [ng_no t pos 4 (by unfold pfxB; rw [h]; rfl), ng_no t pos 3 (by unfold pfxB; rw [h]; rfl), ng_no t pos 2 (by unfold pfxB; rw [h]; rfl), ng_yes t pos 1 (by unfold pfxB; rw [h]; rfl)]
  · rw [ng_no t pos 4 (by unfold pfxB; rw [h]; rfl), ng_no t pos 3 (by unfold pfxB; rw [h]; rfl), ng_no t pos 2 (by unfold pfxB; rw [h]; rfl), ng_no t pos 1 (by unfold pfxB; rw [h]; rfl), ng_yes t pos 0 (by unfold pfxB; rw [h]; rfl)]
theorem exp_one {t : ByteArray} {pos : Nat} {a : UInt8} {r : List UInt8} (v : Nat) (h : t.data.toList.drop pos = 38 :: 35 :: a :: 59 :: r) (ha : a.toNat = 48 + v) (hv : v ≤ 9) (hc : charB (v : Int) = true) : expF t pos = ((v : Int), (pos : Int) + 4, 0) := by
  obtain ⟨l0, b0, h1⟩ := by_list h
  obtain ⟨l1, b1, h2⟩ := by_list h1
  obtain ⟨l2, b2, h3⟩ := by_list h2
  obtain ⟨l3, b3, _⟩ := by_list h3
  rw [show ((35 : UInt8).toNat : Int) = 35 from rfl] at b1
  rw [show ((59 : UInt8).toNat : Int) = 59 from rfl] at b3
  simp only [Nat.add_assoc, Nat.reduceAdd] at b2 b3 l2 l3
  have d2 : digZ (by_ t (pos + 2)) = v := by rw [b2, ha]; unfold digZ; rw [if_pos (by omega)]; omega
  have d3 : ¬ (pos + 3 < t.size ∧ digZ (by_ t (pos + 3)) < ((10 : Nat) : Int)) := by
    rintro ⟨_, e⟩
    rw [b3] at e
    revert e
    decide
  obtain ⟨m, hm⟩ : ∃ m, t.size = m + 1 := ⟨t.size - 1, by omega⟩
  unfold expF
  rw [if_pos ⟨l1, b1⟩]
  unfold numF
  rw [if_neg (by rintro ⟨_, e⟩; rw [b2] at e; omega)]
  have e1 : numGo t 10 t.size (pos + 2) 0 = (v, pos + 3) := by
    have : numGo t 10 (m + 1) (pos + 2) 0 = (v, pos + 3) := by
      rw [numGo_step t 10 m (pos + 2) 0 l2 (by rw [d2]; omega), d2, numGo_end _ _ _ _ _ d3]
      simp
      omega
    rw [hm]
    exact this
  rw [e1]
  unfold numOut
  simp only
  rw [if_neg (by rw [b3]; simp; omega), if_pos hc]
  simp only [Prod.mk.injEq, and_true, true_and]
  omega
theorem exp_two {t : ByteArray} {pos : Nat} {a b : UInt8} {r : List UInt8} (u v : Nat) (h : t.data.toList.drop pos = 38 :: 35 :: a :: b :: 59 :: r) (ha : a.toNat = 48 + u) (hu : u ≤ 9) (hb : b.toNat = 48 + v) (hv : v ≤ 9) (hc : charB ((10 * u + v : Nat) : Int) = true) : expF t pos = (((10 * u + v : Nat) : Int), (pos : Int) + 5, 0) := by
  obtain ⟨l0, b0, h1⟩ := by_list h
  obtain ⟨l1, b1, h2⟩ := by_list h1
  obtain ⟨l2, b2, h3⟩ := by_list h2
  obtain ⟨l3, b3, h4⟩ := by_list h3
  obtain ⟨l4, b4, _⟩ := by_list h4
  rw [show ((35 : UInt8).toNat : Int) = 35 from rfl] at b1
  rw [show ((59 : UInt8).toNat : Int) = 59 from rfl] at b4
  simp only [Nat.add_assoc, Nat.reduceAdd] at b2 b3 b4 l2 l3 l4
  have d2 : digZ (by_ t (pos + 2)) = u := by rw [b2, ha]; unfold digZ; rw [if_pos (by omega)]; omega
  have d3 : digZ (by_ t (pos + 3)) = v := by rw [b3, hb]; unfold digZ; rw [if_pos (by omega)]; omega
  have d4 : ¬ (pos + 4 < t.size ∧ digZ (by_ t (pos + 4)) < ((10 : Nat) : Int)) := by
    rintro ⟨_, e⟩
    rw [b4] at e
    revert e
    decide
  obtain ⟨m, hm⟩ : ∃ m, t.size = m + 2 := ⟨t.size - 2, by omega⟩
  unfold expF
  rw [if_pos ⟨l1, b1⟩]
  unfold numF
  rw [if_neg (by rintro ⟨_, e⟩; rw [b2] at e; omega)]
  have e1 : numGo t 10 t.size (pos + 2) 0 = (10 * u + v, pos + 4) := by
    have : numGo t 10 (m + 1 + 1) (pos + 2) 0 = (10 * u + v, pos + 4) := by
      rw [numGo_step t 10 (m + 1) (pos + 2) 0 l2 (by rw [d2]; omega), d2, numGo_step t 10 m (pos + 2 + 1) _ l3 (by rw [show pos + 2 + 1 = pos + 3 from rfl, d3]; omega), show pos + 2 + 1 = pos + 3 from rfl, d3, numGo_end _ _ _ _ _ d4]
      simp
      omega
    rw [hm]
    exact this
  rw [e1]
  unfold numOut
  simp only
  rw [if_neg (by rw [b4]; simp; omega), if_pos hc]
  simp only [Prod.mk.injEq, and_true, true_and]
  omega
theorem expT_ref (t : ByteArray) (pos : Nat) (x : UInt8) (r : List UInt8) (h : t.data.toList.drop pos = (escT x.toNat).data.toList ++ r) (hx : escT x.toNat ≠ ⟨#[]⟩) : expF t pos = ((x.toNat : Int), (pos : Int) + ((escT x.toNat).size : Int), 0) := by
  have hc := fun e => hx ((escT_iff (x.toNat : Int)).2 e)
  by_cases h0 : x.toNat = 38
  · obtain rfl : x = 38 := u8_of x 38 h0
    exact exp_named (k := 2) (by decide) h
  by_cases h1 : x.toNat = 60
  · obtain rfl : x = 60 := u8_of x 60 h1
    exact exp_named (k := 0) (by decide) h
  by_cases h2 : x.toNat = 62
  · obtain rfl : x = 62 := u8_of x 62 h2
    exact exp_named (k := 1) (by decide) h
  by_cases h3 : x.toNat = 13
  · obtain rfl : x = 13 := u8_of x 13 h3
    exact exp_two (a := 49) (b := 51) (r := r) 1 3 h rfl (by decide) rfl (by decide) (by decide)
  · exact absurd (by omega) hc
theorem expV_ref (t : ByteArray) (pos : Nat) (x : UInt8) (r : List UInt8) (h : t.data.toList.drop pos = (escV x.toNat).data.toList ++ r) (hx : escV x.toNat ≠ ⟨#[]⟩) : expF t pos = ((x.toNat : Int), (pos : Int) + ((escV x.toNat).size : Int), 0) := by
  have hc := fun e => hx ((escV_iff (x.toNat : Int)).2 e)
  by_cases h0 : x.toNat = 38
  · obtain rfl : x = 38 := u8_of x 38 h0
    exact exp_named (k := 2) (by decide) h
  by_cases h1 : x.toNat = 60
  · obtain rfl : x = 60 := u8_of x 60 h1
    exact exp_named (k := 0) (by decide) h
  by_cases h2 : x.toNat = 34
  · obtain rfl : x = 34 := u8_of x 34 h2
    exact exp_named (k := 4) (by decide) h
  by_cases h4 : x.toNat = 9
  · obtain rfl : x = 9 := u8_of x 9 h4
    exact exp_one (a := 57) (r := r) 9 h rfl (by decide) (by decide)
  by_cases h5 : x.toNat = 10
  · obtain rfl : x = 10 := u8_of x 10 h5
    exact exp_two (a := 49) (b := 48) (r := r) 1 0 h rfl (by decide) rfl (by decide) (by decide)
  by_cases h3 : x.toNat = 13
  · obtain rfl : x = 13 := u8_of x 13 h3
    exact exp_two (a := 49) (b := 51) (r := r) 1 3 h rfl (by decide) rfl (by decide) (by decide)
  · exact absurd (by omega) hc
theorem esc_amp {esc : Int → ByteArray} (he : EscOk esc) {t : ByteArray} {pos : Nat} {x : UInt8} {r : List UInt8} (h : t.data.toList.drop pos = (esc x.toNat).data.toList ++ r) (hx : esc x.toNat ≠ ⟨#[]⟩) : pos < t.size ∧ by_ t pos = 38 := by
  obtain ⟨q, hq⟩ := he.amp _ hx
  rw [hq] at h
  obtain ⟨l, b, _⟩ := by_list h
  exact ⟨l, b⟩
theorem no_close (t : ByteArray) (pos : Nat) (x : UInt8) (l : List UInt8) (h : t.data.toList.drop pos = x :: writtenL escT l) : closeB t pos = false := by
  obtain ⟨hp, _, h1⟩ := by_list h
  rw [Bool.eq_false_iff]
  intro e
  obtain ⟨_, h2, _, h62⟩ := (close_iff t pos hp).1 e
  have d1 := drop_at t (pos + 1) (by omega)
  have d2 := drop_at t (pos + 1 + 1) h2
  have hm : t.get! (pos + 2) ∈ writtenL escT l := by rw [← h1, d1, d2]; simp
  have := writtenT_none l _ hm
  have hy : t.get! (pos + 2) = 62 := u8_of _ 62 (by unfold by_ at h62; omega)
  rw [hy] at this
  cases this
theorem backT : BackOk escT stepT where
  plain t pos x l h hx := by
    obtain ⟨hp, hb, _⟩ := by_list h
    have hn := (escT_iff _).1 hx
    exact (steps_next t pos (by omega) (by omega)).1 (no_close t pos x l h)
  ref t pos x r h hx := by
    obtain ⟨hp, hb⟩ := esc_amp escT_ok h hx
    rw [(step_amp t pos hp hb).1]
    exact expT_ref t pos x r h hx
  low x hx := by
    have hc := mt (escT_iff (x.toNat : Int)).2 hx
    have : x.toNat = 38 ∨ x.toNat = 60 ∨ x.toNat = 62 ∨ x.toNat = 13 := by omega
    rcases this with h | h | h | h <;> rw [h] <;> decide
theorem backV : BackOk escV stepV where
  plain t pos x l h hx := by
    obtain ⟨hp, hb, _⟩ := by_list h
    have hn := (escV_iff _).1 hx
    exact (steps_next t pos (by omega) (by omega)).2 (by omega) (by omega) (by omega)
  ref t pos x r h hx := by
    obtain ⟨hp, hb⟩ := esc_amp escV_ok h hx
    rw [(step_amp t pos hp hb).2]
    exact expV_ref t pos x r h hx
  low x hx := by
    have hc := mt (escV_iff (x.toNat : Int)).2 hx
    have : x.toNat = 38 ∨ x.toNat = 60 ∨ x.toNat = 34 ∨ x.toNat = 9 ∨ x.toNat = 10 ∨ x.toNat = 13 := by omega
    rcases this with h | h | h | h | h | h <;> rw [h] <;> decide
end Go.Proofs.YtdomhjjoijkeaaaDoor
