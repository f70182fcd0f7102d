/- Proved here: plain facts on the texts of trails: what is shown of a right trail is read as it; no program is named. -/
import Derived.Test.YtpcdcndniibalaaDoorOrdPlain
import Derived.Test.YtpcdcndniibalaaDoorFaultPlain
import Derived.Test.YtpcdcndniibalaaDoorColonPlain
import Derived.Lib.Split
import Derived.Lib.AtoiAll
import Derived.Lib.ItoaNum
namespace Go.Proofs.YtpcdcndniibalaaDoor
open Go.RowKit

theorem name_go_without (c : Nat) (hc : c < 128) (hp : partB (c : Int) = false) (s : ByteArray) : ∀ (b pos : Nat), s.size ≤ pos + b → nameGo s b pos = true → ∀ j, pos ≤ j → j < s.size → (s.get! j).toNat ≠ c
  | 0, pos, hb, _, j, h1, h2 => by omega
  | b + 1, pos, hb, h, j, h1, h2 => by
    have hpos : pos < s.size := by omega
    unfold nameGo at h
    rw [if_pos hpos] at h
    split at h
    · cases h
    rename_i hr
    split at h
    · cases h
    rename_i hpart
    split at h
    · cases h
    by_cases hj : pos + (rd s pos).2 ≤ j
    · exact name_go_without c hc hp s b _ (by omega) h j hj h2
    · have hx := rdN_bytes (s.size - pos) (s.get! pos).toNat (s.get! (pos + 1)).toNat (s.get! (pos + 2)).toNat (s.get! (pos + 3)).toNat (s.get! pos).toNat_lt (s.get! (pos + 1)).toNat_lt (s.get! (pos + 2)).toNat_lt (s.get! (pos + 3)).toNat_lt hr
      have ed : rdN (s.size - pos) (s.get! pos).toNat (s.get! (pos + 1)).toNat (s.get! (pos + 2)).toNat (s.get! (pos + 3)).toNat = rd s pos := rfl
      rw [ed] at hx
      rcases hx with ⟨hx, ha⟩ | ⟨k1, k2, k3, k4, k5, k6⟩
      · rw [hx] at hj hpart
        have : j = pos := by simp only at hj; omega
        subst this
        intro e
        rw [e] at hpart
        exact hpart hp
      · have : j = pos ∨ j = pos + 1 ∨ (j = pos + 2 ∧ 3 ≤ (rd s pos).2) ∨ (j = pos + 3 ∧ 4 ≤ (rd s pos).2) := by omega
        rcases this with rfl | rfl | ⟨rfl, g⟩ | ⟨rfl, g⟩
        · omega
        · omega
        · have := k5 g; omega
        · have := k6 g; omega
theorem name_without (c : Nat) (hc : c < 128) (hp : partB (c : Int) = false) (s : ByteArray) (h : nameB s = true) : ∀ x ∈ s.data.toList, x.toNat ≠ c := by
  unfold nameB at h
  split at h
  · cases h
  · intro x hx
    obtain ⟨j, hj⟩ := List.mem_iff_getElem?.1 hx
    have hl : j < s.size := by have := (List.getElem?_eq_some_iff.1 hj).1; simpa using this
    rw [get!_of s j hl] at hj
    rw [← Option.some.inj hj]
    exact name_go_without c hc hp s s.size 0 (by omega) h j (Nat.zero_le _) hl

/-! ## numbers in digits -/
theorem dig_mem : ∀ (k u : Nat), u < k → ∀ x ∈ Lib.decDigits u, 48 ≤ x.toNat ∧ x.toNat ≤ 57
  | 0, _, h, _, _ => by omega
  | k + 1, u, h, x, hx => by
    rw [Lib.decDigits] at hx
    split at hx
    · rw [List.mem_singleton] at hx
      rw [hx, UInt8.toNat_ofNat']; omega
    · rcases List.mem_append.1 hx with hx | hx
      · exact dig_mem k (u / 10) (by omega) x hx
      · rw [List.mem_singleton] at hx
        rw [hx, UInt8.toNat_ofNat']; omega
theorem dig_ne (u : Nat) : Lib.decDigits u ≠ [] := by
  rw [Lib.decDigits]
  split <;> simp
theorem parse_app : ∀ (l r : List UInt8) (acc v : Nat), Lib.parseUint10 acc l = .ok v → Lib.parseUint10 acc (l ++ r) = Lib.parseUint10 v r
  | [], r, acc, v, h => by
    rw [Lib.parseUint10] at h
    obtain rfl : acc = v := by injection h
    rfl
  | c :: l, r, acc, v, h => by
    rw [List.cons_append, Lib.parseUint10]
    rw [Lib.parseUint10] at h
    split at h
    · rename_i hc
      rw [if_pos hc]
      split at h
      · cases h
      · rename_i h1
        rw [if_neg h1]
        split at h
        · cases h
        · rename_i h2
          rw [if_neg h2]
          exact parse_app l r _ v h
    · cases h
theorem parse_one (acc d : Nat) (hd : d < 10) (h : acc * 10 + d ≤ 999999999) : Lib.parseUint10 acc [UInt8.ofNat (48 + d)] = .ok (acc * 10 + d) := by
  have e : (UInt8.ofNat (48 + d)).toNat = 48 + d := by rw [UInt8.toNat_ofNat']; omega
  rw [Lib.parseUint10, e, if_pos (by omega), if_neg (by omega), if_neg (by omega), Lib.parseUint10]
  congr 1; omega
theorem parse_dig : ∀ (k u : Nat), u < k → u ≤ 999999999 → Lib.parseUint10 0 (Lib.decDigits u) = .ok u
  | 0, _, h, _ => by omega
  | k + 1, u, h, hu => by
    rw [Lib.decDigits]
    split
    · rename_i h1
      have := parse_one 0 u h1 (by omega)
      simpa using this
    · rename_i h1
      rw [parse_app _ _ _ _ (parse_dig k (u / 10) (by omega) (by omega)), parse_one _ _ (by omega) (by omega)]
      congr 1; omega
/-- What strconv.Atoi tells beside any error. -/
def atoiV (l : List UInt8) : Int := match Lib.atoiAll l with
  | .ok v => v
  | .range => Lib.atoiSat l
  | _ => 0
def stepOk (n : Int) : Bool := decide (0 ≤ n) && decide (n ≤ 999999999)
theorem itoa_dig {n : Int} (h : stepOk n = true) : Lib.itoa n = Lib.decDigits n.toNat := by
  simp only [stepOk, Bool.and_eq_true, decide_eq_true_eq] at h
  unfold Lib.itoa
  rw [if_neg (by omega)]
theorem atoi_itoa {n : Int} (h : stepOk n = true) : atoiV (Lib.itoa n) = n := by
  have hn := h
  simp only [stepOk, Bool.and_eq_true, decide_eq_true_eq] at hn
  rw [itoa_dig h]
  have hp := parse_dig (n.toNat + 1) n.toNat (by omega) (by omega)
  have hm := dig_mem (n.toNat + 1) n.toNat (by omega)
  have hne := dig_ne n.toNat
  cases hd : Lib.decDigits n.toNat with
  | nil => exact absurd hd hne
  | cons c r =>
    rw [hd] at hp hm
    have hc := hm c (List.mem_cons_self ..)
    have hmag : Lib.parseMag (c :: r) = .ok n.toNat := by
      unfold Lib.parseMag
      rw [if_neg (by simp)]
      exact hp
    have e : Lib.atoiAll (c :: r) = .ok n := by
      unfold Lib.atoiAll
      simp only
      rw [if_neg (by omega), hmag]
      simp only
      rw [if_neg (by omega), if_neg (by omega), if_neg (by omega)]
      congr 1; omega
    unfold atoiV
    rw [e]

/-! ## what is shown -/
def stepsL (l : List Int) : List UInt8 := l.flatMap fun n => 47 :: Lib.itoa n
def spaceL (u : ByteArray) : List UInt8 := if u.size = 0 then [] else 123 :: (u.data.toList ++ [125])
def nameL (t : Tr) : List UInt8 := 47 :: 64 :: (t.loc.data.toList ++ spaceL t.uri)
def showL (t : Tr) : List UInt8 := if t.steps = [] ∧ t.attr = false then [47] else stepsL t.steps ++ (if t.attr then nameL t else [])
/-- The trail whose text it is, if there is one. -/
def guessL (s : List UInt8) : Tr :=
  { steps := ((Lib.split (Lib.trimSuffix (Lib.cut s [47, 64]).1 [47]) [47]).drop 1).map atoiV
    attr := (Lib.cut s [47, 64]).2.2
    uri := if (Lib.cut s [47, 64]).2.2 then ⟨(Lib.trimSuffix (Lib.cut (Lib.cut s [47, 64]).2.1 [123]).2.1 [125]).toArray⟩ else ⟨#[]⟩
    loc := if (Lib.cut s [47, 64]).2.2 then ⟨(Lib.cut (Lib.cut s [47, 64]).2.1 [123]).1.toArray⟩ else ⟨#[]⟩ }
def nameOk (t : Tr) : Bool := nameB t.loc && decide (t.uri.size ≤ 100) && decide ((faultF t.uri).2 = 0)
def rightT (t : Tr) : Bool := decide (t.steps.length ≤ 64) && t.steps.all stepOk && (if t.attr then nameOk t else decide (t.uri.size = 0) && decide (t.loc.size = 0))
def readT (s : List UInt8) : Option Tr := if rightT (guessL s) && decide (showL (guessL s) = s) then some (guessL s) else none

theorem pre_one (c : UInt8) (l : List UInt8) : [c].isPrefixOf l = (l.head? == some c) := by
  cases l with
  | nil => rfl
  | cons a l =>
    by_cases h : c = a
    · subst h; simp [List.isPrefixOf]
    · have h2 : (a == c) = false := by rw [beq_eq_false_iff_ne]; exact fun e => h e.symm
      have h3 : (c == a) = false := by rw [beq_eq_false_iff_ne]; exact h
      simp [List.isPrefixOf, h3, h2]
theorem index_one_none (c : UInt8) : ∀ l : List UInt8, c ∉ l → Lib.index l [c] = -1
  | [], _ => rfl
  | a :: l, h => by
    have h1 : ¬ c = a := fun e => h (by rw [e]; exact List.mem_cons_self ..)
    have h2 := index_one_none c l (fun e => h (List.mem_cons_of_mem _ e))
    rw [Lib.index, h2]
    have h3 : (a == c) = false := by rw [beq_eq_false_iff_ne]; exact fun e => h1 e.symm
    have h4 : [c].isPrefixOf (a :: l) = false := by rw [pre_one]; simp [h3]
    rw [h4]; rfl
theorem index_one (c : UInt8) (r : List UInt8) : ∀ l : List UInt8, c ∉ l → Lib.index (l ++ c :: r) [c] = l.length
  | [], _ => by
    have h4 : [c].isPrefixOf (c :: r) = true := by rw [pre_one]; simp
    rw [List.nil_append, Lib.index, h4]; rfl
  | a :: l, h => by
    have h1 : ¬ c = a := fun e => h (by rw [e]; exact List.mem_cons_self ..)
    have h2 := index_one c r l (fun e => h (List.mem_cons_of_mem _ e))
    have h3 : (a == c) = false := by rw [beq_eq_false_iff_ne]; exact fun e => h1 e.symm
    have h4 : [c].isPrefixOf (a :: (l ++ c :: r)) = false := by rw [pre_one]; simp [h3]
    rw [List.cons_append, Lib.index, h2, h4]
    have h5 : ((l.length : Int) == -1) = false := by rw [beq_eq_false_iff_ne]; omega
    simp [h5]
theorem cut_one (c : UInt8) (l r : List UInt8) (h : c ∉ l) : Lib.cut (l ++ c :: r) [c] = (l, r, true) := by
  unfold Lib.cut
  rw [index_one c r l h, if_pos (by omega)]
  simp [List.drop_append]
theorem cut_one_none (c : UInt8) (l : List UInt8) (h : c ∉ l) : Lib.cut l [c] = (l, [], false) := by
  unfold Lib.cut
  rw [index_one_none c l h, if_neg (by omega)]

theorem splitK_none (c : UInt8) (k : Nat) (p : List UInt8) (h : c ∉ p) : Lib.splitK [c] 0 k p = [p] := by
  cases k with
  | zero => rfl
  | succ k => rw [Lib.splitK, index_one_none c p h]; rfl
theorem split_none (c : UInt8) (p : List UInt8) (h : c ∉ p) : Lib.split p [c] = [p] := splitK_none c _ p h
theorem split_one (c : UInt8) (p r : List UInt8) (h : c ∉ p) : Lib.split (p ++ c :: r) [c] = p :: Lib.split r [c] := by
  have hi := index_one c r p h
  have hd : (p ++ c :: r).drop (p.length + 1) = r := by simp [List.drop_append]
  unfold Lib.split
  have e1 : Lib.count (p ++ c :: r) [c] = Lib.count r [c] + 1 := by
    rw [Lib.count_hit (by simp) hi]
    show 1 + Lib.count ((p ++ c :: r).drop (p.length + 1)) [c] = _
    rw [hd]; omega
  have h5 : ((p.length : Int) == -1) = false := by rw [beq_eq_false_iff_ne]; omega
  rw [e1, Lib.splitK, hi]
  simp only [h5, Bool.false_eq_true, if_false, Int.toNat_natCast, Nat.add_zero]
  have e2 : (p ++ c :: r).take p.length = p := by simp
  show (p ++ c :: r).take p.length :: Lib.splitK [c] 0 _ ((p ++ c :: r).drop (p.length + 1)) = _
  rw [e2, hd]
theorem itoa_no {n : Int} (h : stepOk n = true) {c : UInt8} (hc : c.toNat < 48 ∨ 57 < c.toNat) : c ∉ Lib.itoa n := by
  rw [itoa_dig h]
  intro q
  have := dig_mem (n.toNat + 1) n.toNat (by omega) c q
  omega
theorem split_steps : ∀ (l : List Int) (p : List UInt8), l.all stepOk = true → (47 : UInt8) ∉ p → Lib.split (p ++ stepsL l) [47] = p :: l.map Lib.itoa
  | [], p, _, h => by
    show Lib.split (p ++ []) [47] = _
    rw [List.append_nil, split_none 47 p h]; rfl
  | n :: l, p, ha, h => by
    simp only [List.all_cons, Bool.and_eq_true] at ha
    show Lib.split (p ++ (47 :: Lib.itoa n ++ stepsL l)) [47] = _
    rw [List.cons_append, split_one 47 p _ h, split_steps l (Lib.itoa n) ha.2 (itoa_no ha.1 (by decide))]
    rfl
/-- Every stroke has something else than an @ behind it. -/
def quiet : List UInt8 → Prop
  | [] => True
  | a :: l => (a = 47 → ∃ d, l.head? = some d ∧ d ≠ 64) ∧ quiet l
theorem quiet_app : ∀ (p l : List UInt8), (47 : UInt8) ∉ p → quiet l → quiet (p ++ l)
  | [], _, _, h => h
  | a :: p, l, hp, h => ⟨fun e => absurd (by rw [e]; exact List.mem_cons_self ..) hp, quiet_app p l (fun q => hp (List.mem_cons_of_mem _ q)) h⟩
theorem quiet_steps : ∀ (l : List Int), l.all stepOk = true → quiet (stepsL l)
  | [], _ => trivial
  | n :: l, ha => by
    simp only [List.all_cons, Bool.and_eq_true] at ha
    show quiet (47 :: (Lib.itoa n ++ stepsL l))
    refine ⟨fun _ => ?_, quiet_app _ _ (itoa_no ha.1 (by decide)) (quiet_steps l ha.2)⟩
    rw [itoa_dig ha.1]
    have hm := dig_mem (n.toNat + 1) n.toNat (by omega)
    cases hd : Lib.decDigits n.toNat with
    | nil => exact absurd hd (dig_ne _)
    | cons c r =>
      rw [hd] at hm
      have hc := hm c (List.mem_cons_self ..)
      exact ⟨c, rfl, fun e => by rw [e] at hc; exact absurd hc.2 (by decide)⟩
theorem pre_two (a : UInt8) (l r : List UInt8) (h : a = 47 → ∃ d, l.head? = some d ∧ d ≠ 64) : ([47, 64] : List UInt8).isPrefixOf (a :: (l ++ r)) = false := by
  by_cases e : a = 47
  · obtain ⟨d, hd, hn⟩ := h e
    cases l with
    | nil => cases hd
    | cons x l =>
      obtain rfl : x = d := Option.some.inj hd
      have h2 : ((64 : UInt8) == x) = false := by rw [beq_eq_false_iff_ne]; exact fun q => hn q.symm
      simp [List.isPrefixOf, h2]
  · have h3 : ((47 : UInt8) == a) = false := by rw [beq_eq_false_iff_ne]; exact fun q => e q.symm
    simp [List.isPrefixOf, h3]
theorem index_two (r : List UInt8) : ∀ l : List UInt8, quiet l → Lib.index (l ++ 47 :: 64 :: r) [47, 64] = l.length
  | [], _ => by rw [List.nil_append, Lib.index]; simp [List.isPrefixOf]
  | a :: l, h => by
    have h2 := index_two r l h.2
    rw [List.cons_append, Lib.index, h2, pre_two a l _ h.1]
    have h5 : ((l.length : Int) == -1) = false := by rw [beq_eq_false_iff_ne]; omega
    simp [h5]
theorem index_two_none : ∀ l : List UInt8, quiet l → Lib.index l [47, 64] = -1
  | [], _ => rfl
  | a :: l, h => by
    have h2 := index_two_none l h.2
    have h3 := pre_two a l [] h.1
    rw [List.append_nil] at h3
    rw [Lib.index, h2, h3]; rfl
theorem cut_two (l r : List UInt8) (h : quiet l) : Lib.cut (l ++ 47 :: 64 :: r) [47, 64] = (l, r, true) := by
  unfold Lib.cut
  rw [index_two r l h, if_pos (by omega)]
  simp [List.drop_append]
theorem cut_two_none (l : List UInt8) (h : quiet l) : Lib.cut l [47, 64] = (l, [], false) := by
  unfold Lib.cut
  rw [index_two_none l h, if_neg (by omega)]
theorem trim_yes (p : List UInt8) (c : UInt8) : Lib.trimSuffix (p ++ [c]) [c] = p := by
  unfold Lib.trimSuffix Lib.hasSuffix
  rw [if_pos (by rw [List.isSuffixOf_iff_suffix]; exact List.suffix_append _ _)]
  simp
theorem trim_no (p : List UInt8) (c d : UInt8) (h : d ≠ c) : Lib.trimSuffix (p ++ [d]) [c] = p ++ [d] := by
  unfold Lib.trimSuffix Lib.hasSuffix
  rw [if_neg]
  intro q
  rw [List.isSuffixOf_iff_suffix] at q
  obtain ⟨r, hr⟩ := q
  have := congrArg List.getLast? hr
  simp at this
  exact h this.symm
theorem trim_nil (c : UInt8) : Lib.trimSuffix [] [c] = [] := by
  unfold Lib.trimSuffix
  split <;> simp
theorem trim_steps (l : List Int) (ha : l.all stepOk = true) : Lib.trimSuffix (stepsL l) [47] = stepsL l := by
  rcases List.eq_nil_or_concat l with rfl | ⟨l, n, rfl⟩
  · exact trim_nil 47
  · rw [List.concat_eq_append] at ha ⊢
    simp only [List.all_append, List.all_cons, List.all_nil, Bool.and_true, Bool.and_eq_true] at ha
    have e : stepsL (l ++ [n]) = stepsL l ++ (47 :: Lib.itoa n) := by simp [stepsL]
    have hne : Lib.itoa n ≠ [] := by rw [itoa_dig ha.2]; exact dig_ne _
    rcases List.eq_nil_or_concat (Lib.itoa n) with q | ⟨i, d, q⟩
    · exact absurd q hne
    · rw [List.concat_eq_append] at q
      have hd : d ≠ 47 := fun e2 => itoa_no ha.2 (c := 47) (by decide) (by rw [q, ← e2]; simp)
      have e3 : stepsL (l ++ [n]) = (stepsL l ++ 47 :: i) ++ [d] := by rw [e, q]; simp
      rw [e3, trim_no _ _ _ hd]
theorem ba_ext {a b : ByteArray} (h : a.data.toList = b.data.toList) : a = b := by
  apply ByteArray.ext
  exact Array.toList_inj.1 h
theorem ba_empty {a : ByteArray} (h : a.size = 0) : a = ⟨#[]⟩ := by
  apply ByteArray.ext
  exact Array.eq_empty_of_size_eq_zero h
theorem map_back : ∀ l : List Int, l.all stepOk = true → (l.map Lib.itoa).map atoiV = l
  | [], _ => rfl
  | n :: l, ha => by
    simp only [List.all_cons, Bool.and_eq_true] at ha
    show atoiV (Lib.itoa n) :: (l.map Lib.itoa).map atoiV = _
    rw [atoi_itoa ha.1, map_back l ha.2]
theorem guess_name (l : List Int) (ha : l.all stepOk = true) (u n : ByteArray) (hn : nameB n = true) (s : List UInt8) (hs : s = stepsL l ++ 47 :: 64 :: (n.data.toList ++ spaceL u)) : guessL s = ⟨l, true, u, n⟩ := by
  have hc : Lib.cut s [47, 64] = (stepsL l, n.data.toList ++ spaceL u, true) := by rw [hs]; exact cut_two _ _ (quiet_steps l ha)
  have h123 : (123 : UInt8) ∉ n.data.toList := fun q => name_without 123 (by decide) (by decide) n hn 123 q (by decide)
  have hst := split_steps l [] ha (by simp)
  rw [List.nil_append] at hst
  have hd : Lib.cut (n.data.toList ++ spaceL u) [123] = (n.data.toList, (if u.size = 0 then [] else u.data.toList ++ [125]), !decide (u.size = 0)) := by
    unfold spaceL
    by_cases h0 : u.size = 0
    · rw [if_pos h0, if_pos h0, List.append_nil, cut_one_none 123 _ h123]; simp [h0]
    · rw [if_neg h0, if_neg h0, cut_one 123 _ _ h123]; simp [h0]
  have hu : Lib.trimSuffix (if u.size = 0 then [] else u.data.toList ++ [125]) [125] = u.data.toList := by
    by_cases h0 : u.size = 0
    · rw [if_pos h0, trim_nil, ba_empty h0]
    · rw [if_neg h0, trim_yes]
  unfold guessL
  rw [hc]
  simp only [if_true]
  rw [hd]
  simp only
  rw [hu, trim_steps l ha, hst, List.drop_one, List.tail_cons, map_back l ha]
theorem guess_bare (l : List Int) (ha : l.all stepOk = true) (s : List UInt8) (hs : s = if l = [] then [47] else stepsL l) : guessL s = ⟨l, false, ⟨#[]⟩, ⟨#[]⟩⟩ := by
  by_cases h0 : l = []
  · subst h0
    rw [if_pos rfl] at hs
    subst hs
    have hc : Lib.cut ([47] : List UInt8) [47, 64] = ([47], [], false) := by decide
    have ht : Lib.trimSuffix ([47] : List UInt8) [47] = [] := trim_yes [] 47
    unfold guessL
    rw [hc]
    simp only [Bool.false_eq_true, if_false]
    rw [ht, split_none 47 [] (by simp)]
    rfl
  · rw [if_neg h0] at hs
    subst hs
    have hc := cut_two_none _ (quiet_steps l ha)
    have hst := split_steps l [] ha (by simp)
    rw [List.nil_append] at hst
    unfold guessL
    rw [hc]
    simp only [Bool.false_eq_true, if_false]
    rw [trim_steps l ha, hst, List.drop_one, List.tail_cons, map_back l ha]
/-- What is shown of a right trail is taken for it. -/
theorem guess_show {t : Tr} (h : rightT t = true) : guessL (showL t) = t := by
  obtain ⟨l, a, u, n⟩ := t
  unfold rightT at h
  simp only [Bool.and_eq_true, decide_eq_true_eq] at h
  obtain ⟨⟨h1, h2⟩, h3⟩ := h
  cases a
  · simp only [Bool.false_eq_true, if_false, Bool.and_eq_true, decide_eq_true_eq] at h3
    rw [ba_empty h3.1, ba_empty h3.2]
    refine guess_bare l h2 _ ?_
    unfold showL
    by_cases h0 : l = []
    · rw [if_pos ⟨h0, rfl⟩, if_pos h0]
    · rw [if_neg (fun q => h0 q.1), if_neg h0]; simp
  · simp only [if_true, nameOk, Bool.and_eq_true] at h3
    refine guess_name l h2 u n h3.1.1 _ ?_
    unfold showL
    rw [if_neg (fun q => by cases q.2)]
    simp [nameL]
theorem read_show {t : Tr} (h : rightT t = true) : readT (showL t) = some t := by
  unfold readT
  rw [guess_show h, h]; simp
theorem read_back {s : List UInt8} {t : Tr} (h : readT s = some t) : rightT t = true ∧ showL t = s := by
  unfold readT at h
  split at h
  · rename_i h1
    obtain rfl := Option.some.inj h
    simpa using h1
  · cases h
end Go.Proofs.YtpcdcndniibalaaDoor
