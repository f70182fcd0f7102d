/- Proved here: plain facts on the document's way of reading a trail: it takes just the texts that are shown of right trails; no program is named. -/
import Derived.Test.YtpcdcndniibalaaDoorTrailPlain
namespace Go.Proofs.YtpcdcndniibalaaDoor
open Go.RowKit

def isDig (c : UInt8) : Bool := decide (48 ≤ c.toNat) && decide (c.toNat ≤ 57)
/-- The number that digits say, k of them at most, and what is behind them. -/
def digR : Nat → Nat → List UInt8 → Nat × List UInt8
  | 0, acc, l => (acc, l)
  | _ + 1, acc, [] => (acc, [])
  | k + 1, acc, c :: l => if isDig c then digR k (10 * acc + (c.toNat - 48)) l else (acc, c :: l)
def valR (acc : Nat) : List UInt8 → Nat
  | [] => acc
  | c :: l => valR (10 * acc + (c.toNat - 48)) l
theorem valR_app : ∀ (l m : List UInt8) (acc : Nat), valR acc (l ++ m) = valR (valR acc l) m
  | [], _, _ => rfl
  | c :: l, m, acc => valR_app l m _
theorem digR_is : ∀ (k acc : Nat) (l : List UInt8), ∃ ds, l = ds ++ (digR k acc l).2 ∧ ds.all isDig = true ∧ ds.length ≤ k ∧ (digR k acc l).1 = valR acc ds
  | 0, acc, l => ⟨[], rfl, rfl, Nat.le_refl _, rfl⟩
  | k + 1, acc, [] => ⟨[], rfl, rfl, Nat.zero_le _, rfl⟩
  | k + 1, acc, c :: l => by
    unfold digR
    by_cases h : isDig c = true
    · rw [if_pos h]
      obtain ⟨ds, h1, h2, h3, h4⟩ := digR_is k (10 * acc + (c.toNat - 48)) l
      refine ⟨c :: ds, ?_, by simp [h, h2], by simp; omega, h4⟩
      rw [List.cons_append, ← h1]
    · rw [if_neg h]
      exact ⟨[], rfl, rfl, Nat.zero_le _, rfl⟩
theorem digR_on : ∀ (k acc : Nat) (ds r : List UInt8), ds.all isDig = true → ds.length ≤ k → (∀ c m, r = c :: m → isDig c = false) → digR k acc (ds ++ r) = (valR acc ds, r)
  | 0, acc, [], r, _, _, _ => rfl
  | k + 1, acc, [], r, _, _, h => by
    cases r with
    | nil => rfl
    | cons c m =>
      rw [List.nil_append]; unfold digR
      rw [if_neg (by rw [h c m rfl]; decide)]; rfl
  | 0, acc, _ :: _, r, _, h, _ => by simp at h
  | k + 1, acc, c :: ds, r, h1, h2, h3 => by
    simp only [List.all_cons, Bool.and_eq_true] at h1
    rw [List.cons_append]; unfold digR
    rw [if_pos h1.1]
    exact digR_on k _ ds r h1.2 (by simpa using h2) h3
theorem val_lt : ∀ (k acc : Nat) (ds : List UInt8), ds.all isDig = true → ds.length ≤ k → acc < 10 ^ (9 - k) → k ≤ 9 → valR acc ds < 10 ^ 9
  | k, acc, [], _, _, h, hk => by
    have : 10 ^ (9 - k) ≤ 10 ^ 9 := Nat.pow_le_pow_right (by decide) (by omega)
    show acc < _; omega
  | 0, acc, _ :: _, _, h, _, _ => by simp at h
  | k + 1, acc, c :: ds, h1, h2, h3, hk => by
    simp only [List.all_cons, Bool.and_eq_true, isDig, decide_eq_true_eq] at h1
    have e : 10 ^ (9 - k) = 10 * 10 ^ (9 - (k + 1)) := by rw [show 9 - k = (9 - (k + 1)) + 1 by omega, Nat.pow_succ]; omega
    exact val_lt k _ ds h1.2 (by simpa using h2) (by rw [e]; omega) (by omega)
/-- Digits without noughts ahead are those of their number. -/
theorem dec_val : ∀ (k : Nat) (ds : List UInt8), ds.length = k + 1 → ds.all isDig = true → (ds.head? = some 48 → k = 0) → Lib.decDigits (valR 0 ds) = ds ∧ (k ≠ 0 → 1 ≤ valR 0 ds) ∧ (ds.head? ≠ some 48 → 1 ≤ valR 0 ds)
  | 0, ds, h1, h2, _ => by
    match ds, h1 with
    | [c], _ =>
      simp only [List.all_cons, List.all_nil, Bool.and_true, isDig, Bool.and_eq_true, decide_eq_true_eq] at h2
      have e : valR 0 [c] = c.toNat - 48 := by show 10 * 0 + (c.toNat - 48) = _; omega
      rw [e]
      refine ⟨?_, fun h => absurd rfl h, fun h => ?_⟩
      · rw [Lib.decDigits, dif_pos (by omega)]
        have e2 : UInt8.ofNat (48 + (c.toNat - 48)) = c := by rw [show 48 + (c.toNat - 48) = c.toNat by omega]; simp
        rw [e2]
      · have : c.toNat ≠ 48 := fun q => h (by
          have e3 : c = 48 := by rw [← UInt8.toNat_inj]; exact q
          rw [e3]; rfl)
        omega
  | k + 1, ds, h1, h2, h3 => by
    rcases List.eq_nil_or_concat ds with q | ⟨i, d, q⟩
    · rw [q] at h1; simp at h1
    · rw [List.concat_eq_append] at q
      subst q
      have hi : i.length = k + 1 := by simpa using h1
      simp only [List.all_append, List.all_cons, List.all_nil, Bool.and_true, Bool.and_eq_true] at h2
      have hh : (i ++ [d]).head? = i.head? := by
        cases i with
        | nil => simp at hi
        | cons a b => rfl
      have hn : i.head? ≠ some 48 := fun e => by have := h3 (by rw [hh]; exact e); omega
      obtain ⟨g1, _, g3⟩ := dec_val k i hi h2.1 (fun e => absurd e hn)
      have hd := h2.2
      simp only [isDig, Bool.and_eq_true, decide_eq_true_eq] at hd
      have e : valR 0 (i ++ [d]) = 10 * valR 0 i + (d.toNat - 48) := by rw [valR_app]; rfl
      have hv := g3 hn
      rw [e]
      refine ⟨?_, fun _ => by omega, fun _ => by omega⟩
      rw [Lib.decDigits, dif_neg (by omega)]
      rw [show (10 * valR 0 i + (d.toNat - 48)) / 10 = valR 0 i by omega, g1, show (10 * valR 0 i + (d.toNat - 48)) % 10 = d.toNat - 48 by omega]
      have e2 : UInt8.ofNat (48 + (d.toNat - 48)) = d := by rw [show 48 + (d.toNat - 48) = d.toNat by omega]; simp
      rw [e2]
theorem val_dec : ∀ (k u : Nat), u < k → valR 0 (Lib.decDigits u) = u ∧ (Lib.decDigits u).all isDig = true ∧ ((Lib.decDigits u).head? = some 48 → (Lib.decDigits u).length = 1)
  | 0, _, h => by omega
  | k + 1, u, h => by
    rw [Lib.decDigits]
    split
    · rename_i h1
      have e : (UInt8.ofNat (48 + u)).toNat = 48 + u := by rw [UInt8.toNat_ofNat']; omega
      refine ⟨?_, ?_, fun _ => rfl⟩
      · show 10 * 0 + ((UInt8.ofNat (48 + u)).toNat - 48) = u
        rw [e]; omega
      · simp only [List.all_cons, List.all_nil, Bool.and_true, isDig, e, Bool.and_eq_true, decide_eq_true_eq]; omega
    · rename_i h1
      obtain ⟨g1, g2, g3⟩ := val_dec k (u / 10) (by omega)
      have e : (UInt8.ofNat (48 + u % 10)).toNat = 48 + u % 10 := by rw [UInt8.toNat_ofNat']; omega
      refine ⟨?_, ?_, fun q => ?_⟩
      · rw [valR_app, g1]
        show 10 * (u / 10) + ((UInt8.ofNat (48 + u % 10)).toNat - 48) = u
        rw [e]; omega
      · simp only [List.all_append, g2, List.all_cons, List.all_nil, Bool.and_true, isDig, e, Bool.true_and, Bool.and_eq_true, decide_eq_true_eq]; omega
      · have hne := dig_ne (u / 10)
        have hh : (Lib.decDigits (u / 10) ++ [UInt8.ofNat (48 + u % 10)]).head? = (Lib.decDigits (u / 10)).head? := by
          cases hd : Lib.decDigits (u / 10) with
          | nil => exact absurd hd hne
          | cons a b => rfl
        rw [hh] at q
        have h5 := g3 q
        have h6 : u / 10 = 0 := by
          match hd : Lib.decDigits (u / 10), h5 with
          | [c], _ =>
            rw [hd] at q g1
            have e5 : c = 48 := by simpa using q
            rw [e5] at g1
            have e6 : valR 0 [48] = 0 := rfl
            rw [← g1, e6]
        omega

/-- The steps of a text: those read so far, and what is left; nothing: it is no trail's. -/
def stepsR : Nat → List Int → List UInt8 → Option (List Int × List UInt8)
  | 0, acc, l => some (acc, l)
  | f + 1, acc, l => match l with
    | a :: c :: r => if a = 47 ∧ c ≠ 64 then
        (if (digR 9 0 (c :: r)).2.length = (c :: r).length ∨ (c = 48 ∧ (digR 9 0 (c :: r)).2.length + 1 < (c :: r).length) ∨ acc.length = 64 then none
         else stepsR f (acc ++ [((digR 9 0 (c :: r)).1 : Int)]) (digR 9 0 (c :: r)).2)
        else some (acc, l)
    | _ => some (acc, l)
/-- What stands ahead of the first {, and behind it, if there is one. -/
def nameR : List UInt8 → List UInt8 × Option (List UInt8)
  | [] => ([], none)
  | c :: l => if c = 123 then ([], some l) else (c :: (nameR l).1, (nameR l).2)
/-- What is read behind the steps. -/
def tailR (acc : List Int) (n : Nat) (l : List UInt8) : Option Tr :=
  match l with
  | [] => if n = 0 then none else some ⟨acc, false, ⟨#[]⟩, ⟨#[]⟩⟩
  | a :: c :: r => if a = 47 ∧ c = 64 then
      (match nameR r with
        | (nm, none) => some ⟨acc, true, ⟨#[]⟩, ⟨nm.toArray⟩⟩
        | (nm, some sp) => if sp.length < 2 ∨ sp.getLast? ≠ some 125 then none else some ⟨acc, true, ⟨sp.dropLast.toArray⟩, ⟨nm.toArray⟩⟩)
      else none
  | _ => none
def readR (s : List UInt8) : Option Tr :=
  if s = [47] then some ⟨[], false, ⟨#[]⟩, ⟨#[]⟩⟩
  else match stepsR s.length [] s with
    | none => none
    | some (acc, l) => match tailR acc s.length l with
      | none => none
      | some t => if t.attr = false then some t else if rightT t then some t else none

theorem stepsR_is : ∀ (f : Nat) (acc : List Int) (l : List UInt8) (acc2 : List Int) (l2 : List UInt8), acc.all stepOk = true → acc.length ≤ 64 → stepsR f acc l = some (acc2, l2) →
    acc2.all stepOk = true ∧ acc2.length ≤ 64 ∧ stepsL acc ++ l = stepsL acc2 ++ l2
  | 0, acc, l, acc2, l2, h1, h2, h => by
    simp only [stepsR, Option.some.injEq, Prod.mk.injEq] at h
    obtain ⟨rfl, rfl⟩ := h
    exact ⟨h1, h2, rfl⟩
  | f + 1, acc, [], acc2, l2, h1, h2, h => by
    simp only [stepsR, Option.some.injEq, Prod.mk.injEq] at h
    obtain ⟨rfl, rfl⟩ := h
    exact ⟨h1, h2, rfl⟩
  | f + 1, acc, [a], acc2, l2, h1, h2, h => by
    simp only [stepsR, Option.some.injEq, Prod.mk.injEq] at h
    obtain ⟨rfl, rfl⟩ := h
    exact ⟨h1, h2, rfl⟩
  | f + 1, acc, a :: c :: r, acc2, l2, h1, h2, h => by
    simp only [stepsR] at h
    split at h
    · rename_i hac
      split at h
      · cases h
      · rename_i hbad
        obtain ⟨ds, g1, g2, g3, g4⟩ := digR_is 9 0 (c :: r)
        have hlen := congrArg List.length g1
        rw [List.length_append] at hlen
        have hd1 : ds.length = (ds.length - 1) + 1 := by
          have : ds.length ≠ 0 := fun q => hbad (.inl (by omega))
          omega
        have hhead : ds.head? = some 48 → ds.length - 1 = 0 := fun q => by
          cases ds with
          | nil => simp at q
          | cons x y =>
            have e1 : x = 48 := by simpa using q
            have e2 : c = x := by rw [List.cons_append] at g1; injection g1
            have e3 : ¬ ((digR 9 0 (c :: r)).2.length + 1 < (c :: r).length) := fun z => hbad (.inr (.inl ⟨by rw [e2, e1], z⟩))
            simp only [List.length_cons] at hlen e3 ⊢; omega
        obtain ⟨v1, _, _⟩ := dec_val (ds.length - 1) ds hd1 g2 hhead
        have v2 := val_lt 9 0 ds g2 g3 (by decide) (Nat.le_refl _)
        have hok : stepOk ((digR 9 0 (c :: r)).1 : Int) = true := by
          rw [g4]; simp only [stepOk, Bool.and_eq_true, decide_eq_true_eq]; omega
        obtain ⟨r1, r2, r3⟩ := stepsR_is f (acc ++ [((digR 9 0 (c :: r)).1 : Int)]) (digR 9 0 (c :: r)).2 acc2 l2 (by simp [h1, hok]) (by
          have : acc.length ≠ 64 := fun q => hbad (.inr (.inr q))
          simp; omega) h
        refine ⟨r1, r2, ?_⟩
        rw [← r3]
        have e1 : stepsL (acc ++ [((digR 9 0 (c :: r)).1 : Int)]) = stepsL acc ++ 47 :: Lib.itoa ((digR 9 0 (c :: r)).1 : Int) := by simp [stepsL]
        rw [e1, itoa_dig hok, Int.toNat_natCast, g4, v1, List.append_assoc, List.cons_append, ← g1, hac.1]
    · simp only [Option.some.injEq, Prod.mk.injEq] at h
      obtain ⟨rfl, rfl⟩ := h
      exact ⟨h1, h2, rfl⟩
theorem nameR_none : ∀ (l nm : List UInt8), nameR l = (nm, none) → nm = l
  | [], nm, h => by simp only [nameR, Prod.mk.injEq] at h; exact h.1.symm
  | c :: l, nm, h => by
    unfold nameR at h
    split at h
    · simp at h
    · simp only [Prod.mk.injEq] at h
      rw [← h.1, nameR_none l (nameR l).1 (by rw [← h.2])]
theorem nameR_some : ∀ (l nm sp : List UInt8), nameR l = (nm, some sp) → l = nm ++ 123 :: sp
  | [], nm, sp, h => by simp [nameR] at h
  | c :: l, nm, sp, h => by
    unfold nameR at h
    split at h
    · rename_i hc
      simp only [Prod.mk.injEq, Option.some.injEq] at h
      rw [← h.1, ← h.2, hc]; rfl
    · simp only [Prod.mk.injEq] at h
      have := nameR_some l (nameR l).1 sp (by rw [← h.2])
      rw [← h.1, List.cons_append, ← this]
theorem nameR_on : ∀ (nm r : List UInt8), (123 : UInt8) ∉ nm → nameR (nm ++ 123 :: r) = (nm, some r)
  | [], r, _ => by unfold nameR; simp
  | c :: nm, r, h => by
    have hc : ¬ c = 123 := fun q => h (by rw [q]; exact List.mem_cons_self ..)
    have ih := nameR_on nm r (fun q => h (List.mem_cons_of_mem _ q))
    rw [List.cons_append]; unfold nameR
    rw [if_neg hc, ih]
theorem nameR_whole : ∀ (nm : List UInt8), (123 : UInt8) ∉ nm → nameR nm = (nm, none)
  | [], _ => rfl
  | c :: nm, h => by
    have hc : ¬ c = 123 := fun q => h (by rw [q]; exact List.mem_cons_self ..)
    have ih := nameR_whole nm (fun q => h (List.mem_cons_of_mem _ q))
    unfold nameR
    rw [if_neg hc, ih]
/-- What is read is right, and its text is what was read. -/
theorem readR_sound {s : List UInt8} {t : Tr} (h : readR s = some t) : rightT t = true ∧ showL t = s := by
  unfold readR at h
  split at h
  · rename_i h0
    obtain rfl := Option.some.inj h
    subst h0
    exact ⟨by kernel_rfl, rfl⟩
  · rename_i h0
    split at h
    · cases h
    · rename_i acc l hst
      obtain ⟨a1, a2, a3⟩ := stepsR_is s.length [] s acc l rfl (by simp) hst
      rw [show stepsL [] = [] from rfl, List.nil_append] at a3
      split at h
      · cases h
      · rename_i t' htl
        have ht : t' = t ∧ (t'.attr = true → rightT t' = true) := by
          split at h
          · rename_i ha
            exact ⟨Option.some.inj h, fun q => by rw [ha] at q; cases q⟩
          · split at h
            · rename_i hr
              exact ⟨Option.some.inj h, fun _ => hr⟩
            · cases h
        obtain ⟨rfl, hrt⟩ := ht
        unfold tailR at htl
        split at htl
        · split at htl
          · cases htl
          · rename_i hn
            obtain rfl := Option.some.inj htl
            rw [List.append_nil] at a3
            have hne : acc ≠ [] := fun q => by rw [q] at a3; rw [a3] at hn; exact hn rfl
            refine ⟨?_, ?_⟩
            · unfold rightT; simp [a1, a2]; rfl
            · unfold showL
              rw [if_neg (fun q => hne q.1)]
              simp [a3]
        · split at htl
          · rename_i a c r hac
            split at htl
            · rename_i nm hnm
              obtain rfl := Option.some.inj htl
              have e := nameR_none _ _ hnm
              refine ⟨hrt rfl, ?_⟩
              unfold showL
              rw [if_neg (fun q => by cases q.2)]
              rw [a3, hac.1, hac.2, e]
              simp [nameL, spaceL]; rfl
            · rename_i nm sp hnm
              split at htl
              · cases htl
              · rename_i hsp
                obtain rfl := Option.some.inj htl
                have e := nameR_some _ _ _ hnm
                have hlast : sp.getLast? = some 125 := Classical.byContradiction fun q => hsp (.inr q)
                have hlen : 2 ≤ sp.length := by
                  have : ¬ sp.length < 2 := fun q => hsp (.inl q)
                  omega
                have hsp2 : sp = sp.dropLast ++ [125] := by
                  rcases List.eq_nil_or_concat sp with q | ⟨i, d, q⟩
                  · rw [q] at hlen; simp at hlen
                  · rw [List.concat_eq_append] at q
                    subst q
                    rw [List.getLast?_append] at hlast
                    have : d = 125 := by simpa using hlast
                    rw [List.dropLast_concat, this]
                refine ⟨hrt rfl, ?_⟩
                unfold showL
                rw [if_neg (fun q => by cases q.2)]
                have hsz : ¬ (⟨sp.dropLast.toArray⟩ : ByteArray).size = 0 := by
                  show ¬ sp.dropLast.toArray.size = 0
                  simp; omega
                rw [a3, hac.1, hac.2, e]
                simp only [if_true, nameL, spaceL, if_neg hsz]
                show stepsL acc ++ 47 :: 64 :: (nm ++ 123 :: (sp.dropLast ++ [125])) = _
                rw [← hsp2]
          · cases htl
        · cases htl
theorem stepsR_on : ∀ (l : List Int) (acc : List Int) (f : Nat) (r : List UInt8), l.all stepOk = true → acc.length + l.length ≤ 64 → l.length < f → (r = [] ∨ ∃ m, r = 47 :: 64 :: m) → stepsR f acc (stepsL l ++ r) = some (acc ++ l, r)
  | [], acc, f + 1, r, _, _, _, hr => by
    rw [List.append_nil]
    rcases hr with rfl | ⟨m, rfl⟩
    · rfl
    · show stepsR (f + 1) acc (47 :: 64 :: m) = _
      simp only [stepsR]
      rw [if_neg (fun q => q.2 rfl)]
  | n :: l, acc, f + 1, r, h1, h2, h3, hr => by
    simp only [List.all_cons, Bool.and_eq_true] at h1
    have hi := itoa_dig h1.1
    have hb := h1.1
    simp only [stepOk, Bool.and_eq_true, decide_eq_true_eq] at hb
    obtain ⟨g1, g2, g3⟩ := val_dec (n.toNat + 1) n.toNat (by omega)
    have hln : (Lib.decDigits n.toNat).length ≤ 9 := by
      have hd : ∀ (k u : Nat), u < 10 ^ (k + 1) → (Lib.decDigits u).length ≤ k + 1 := by
        intro k
        induction k with
        | zero => intro u h; rw [Lib.decDigits, dif_pos (by omega)]; simp
        | succ k ih =>
          intro u h
          rw [Lib.decDigits]
          split
          · simp
          · have h2 : u / 10 < 10 ^ (k + 1) := by rw [Nat.div_lt_iff_lt_mul (by omega)]; rw [Nat.pow_succ] at h; exact h
            have := ih (u / 10) h2
            simp; omega
      exact hd 8 n.toNat (by omega)
    have hne := dig_ne n.toNat
    have e0 : stepsL (n :: l) ++ r = 47 :: (Lib.decDigits n.toNat ++ (stepsL l ++ r)) := by
      show (47 :: Lib.itoa n ++ stepsL l) ++ r = _
      rw [hi]; simp
    have hq : ∀ c m, stepsL l ++ r = c :: m → isDig c = false := by
      intro c m e
      cases l with
      | nil =>
        rcases hr with rfl | ⟨m2, rfl⟩
        · simp [stepsL] at e
        · have : c = 47 := by
            have e' : (47 : UInt8) :: 64 :: m2 = c :: m := e
            injection e' with e1; exact e1.symm
          rw [this]; rfl
      | cons x y =>
        have : c = 47 := by
          have e' : (47 : UInt8) :: (Lib.itoa x ++ stepsL y ++ r) = c :: m := e
          injection e' with e1; exact e1.symm
        rw [this]; rfl
    have hdr := digR_on 9 0 (Lib.decDigits n.toNat) (stepsL l ++ r) g2 hln hq
    rw [g1] at hdr
    cases hd : Lib.decDigits n.toNat with
    | nil => exact absurd hd hne
    | cons c ds =>
      rw [hd] at e0 hdr g2 g3 hln
      rw [e0]
      rw [List.cons_append] at hdr ⊢
      simp only [stepsR]
      have hc64 : c ≠ 64 := fun q => by
        rw [q] at g2; simp [isDig] at g2
      rw [if_pos ⟨trivial, hc64⟩, hdr]
      have hlen : (c :: (ds ++ (stepsL l ++ r))).length = ds.length + 1 + (stepsL l ++ r).length := by simp only [List.length_cons, List.length_append]; omega
      rw [if_neg]
      · have ih := stepsR_on l (acc ++ [n]) f r h1.2 (by simp only [List.length_append, List.length_cons, List.length_nil] at h2 ⊢; omega) (by simpa using h3) hr
        have en : ((n.toNat : Nat) : Int) = n := by omega
        show stepsR f (acc ++ [((n.toNat : Nat) : Int)]) (stepsL l ++ r) = _
        rw [en, ih, List.append_assoc]; rfl
      · rintro (q | ⟨q1, q2⟩ | q)
        · rw [hlen] at q; simp only at q; omega
        · have := g3 (by rw [q1]; rfl)
          rw [hlen] at q2
          simp only [List.length_cons] at this q2; omega
        · simp only [List.length_cons] at h2; omega
theorem stepsL_ge : ∀ l : List Int, l.length ≤ (stepsL l).length
  | [] => Nat.le_refl _
  | n :: l => by
    have := stepsL_ge l
    show l.length + 1 ≤ (47 :: Lib.itoa n ++ stepsL l).length
    simp only [List.length_append, List.length_cons]; omega
/-- A right trail is read from its text. -/
theorem readR_show {t : Tr} (h : rightT t = true) : readR (showL t) = some t := by
  obtain ⟨l, a, u, n⟩ := t
  have hr := h
  unfold rightT at h
  simp only [Bool.and_eq_true, decide_eq_true_eq] at h
  obtain ⟨⟨h1, h2⟩, h3⟩ := h
  cases a
  · simp only [Bool.false_eq_true, if_false, Bool.and_eq_true, decide_eq_true_eq] at h3
    obtain rfl := ba_empty h3.1
    obtain rfl := ba_empty h3.2
    by_cases h0 : l = []
    · subst h0; rfl
    · have hsh : showL ⟨l, false, ⟨#[]⟩, ⟨#[]⟩⟩ = stepsL l := by
        unfold showL; rw [if_neg (fun q => h0 q.1)]; simp
      rw [hsh]
      have hlen := stepsL_ge l
      have hl0 : 0 < l.length := List.length_pos_iff.2 h0
      have hst := stepsR_on l [] ((stepsL l).length) [] h2 (by simpa using h1) (by
        cases l with
        | nil => exact absurd rfl h0
        | cons x y =>
          have := stepsL_ge y
          have hx := dig_ne x.toNat
          have hpos : 0 < (Lib.decDigits x.toNat).length := List.length_pos_iff.2 hx
          simp only [List.all_cons, Bool.and_eq_true] at h2
          show y.length + 1 < (47 :: Lib.itoa x ++ stepsL y).length
          rw [itoa_dig h2.1]
          simp only [List.length_append, List.length_cons]; omega) (.inl rfl)
      rw [List.append_nil, List.nil_append] at hst
      unfold readR
      have hne : ¬ stepsL l = [47] := fun q => by
        cases l with
        | nil => exact h0 rfl
        | cons x y =>
          have hx := dig_ne x.toNat
          simp only [List.all_cons, Bool.and_eq_true] at h2
          have q2 : (47 : UInt8) :: (Lib.itoa x ++ stepsL y) = [47] := q
          rw [itoa_dig h2.1] at q2
          injection q2 with _ q3
          exact hx (List.append_eq_nil_iff.1 q3).1
      rw [if_neg hne, hst]
      simp only [tailR]
      rw [if_neg (by omega)]
      simp
  · simp only [if_true, nameOk, Bool.and_eq_true, decide_eq_true_eq] at h3
    have h123 : (123 : UInt8) ∉ n.data.toList := fun q => name_without 123 (by decide) (by decide) n h3.1.1 123 q (by decide)
    have hsh : showL ⟨l, true, u, n⟩ = stepsL l ++ 47 :: 64 :: (n.data.toList ++ spaceL u) := by
      unfold showL; rw [if_neg (fun q => by cases q.2)]; simp [nameL]
    rw [hsh]
    have hlen := stepsL_ge l
    have hst := stepsR_on l [] ((stepsL l ++ 47 :: 64 :: (n.data.toList ++ spaceL u)).length) (47 :: 64 :: (n.data.toList ++ spaceL u)) h2 (by simpa using h1) (by simp only [List.length_append, List.length_cons]; omega) (.inr ⟨_, rfl⟩)
    rw [List.nil_append] at hst
    unfold readR
    have hne : ¬ stepsL l ++ 47 :: 64 :: (n.data.toList ++ spaceL u) = [47] := fun q => by
      have := congrArg List.length q
      simp only [List.length_append, List.length_cons, List.length_nil] at this; omega
    rw [if_neg hne, hst]
    simp only [tailR]
    rw [if_pos (by simp)]
    unfold spaceL
    by_cases hu : u.size = 0
    · obtain rfl := ba_empty hu
      rw [if_pos (show (⟨#[]⟩ : ByteArray).size = 0 from rfl), List.append_nil, nameR_whole _ h123]
      simp only
      rw [if_neg (by decide), if_pos hr]
    · rw [if_neg hu, nameR_on _ _ h123]
      simp only
      have hul : u.data.toList.length = u.size := by rw [Array.length_toList]; rfl
      rw [if_neg (by
        rintro (q | q)
        · simp only [List.length_append, List.length_cons, List.length_nil] at q; omega
        · exact q (by simp)), List.dropLast_concat]
      simp only
      rw [if_neg (by decide), if_pos hr]
/-- Both ways of reading are one. -/
theorem readR_is (s : List UInt8) : readR s = readT s := by
  cases h : readR s with
  | some t =>
    obtain ⟨h1, h2⟩ := readR_sound h
    rw [← h2, read_show h1]
  | none =>
    cases h2 : readT s with
    | none => rfl
    | some t =>
      obtain ⟨h3, h4⟩ := read_back h2
      rw [← h4, readR_show h3] at h
      cases h
end Go.Proofs.YtpcdcndniibalaaDoor
