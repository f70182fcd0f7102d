/- Proved here: what pages' bytes are, of any arguments, by the program and by the document; they are one. -/
import Derived.Test.YtbbfbgccikeciaaRefTake
import Derived.Test.YtbbfbgccikeciaaByteSame
namespace Go.Proofs.Ytbbfbgccikeciaa
open Go.RowKit

def outN (n : Int) : Prop := n < 0 ∨ 4294967295 < n
instance (n : Int) : Decidable (outN n) := by unfold outN; exact inferInstance
def takeI (n : Int) (l : List UInt8) : List UInt8 × Nat × Nat := if outN n then ([], 0, 1) else takeR n.toNat l
def layI (n : Int) (st : Nat) (l : List UInt8) : List UInt8 × Nat := if outN n then ([], 1) else if 496 < l.length then ([], 6) else (pageL n.toNat st l, 0)
theorem takeR_len (n : Nat) (l : List UInt8) (h : l.length ≠ 512) : takeR n l = ([], 0, 6) := by unfold takeR; rw [if_pos h]
theorem takeI_small (n : Int) (l : List UInt8) : (takeI n l).1.length ≤ 496 := by
  unfold takeI
  by_cases h : outN n
  · rw [if_pos h]; exact Nat.zero_le _
  · rw [if_neg h]
    unfold takeR
    by_cases h1 : l.length ≠ 512
    · rw [if_pos h1]; exact Nat.zero_le _
    · rw [if_neg h1]
      cases blankL l
      · rw [if_neg (by simp)]
        cases sealed l
        · rw [if_pos rfl]; exact Nat.zero_le _
        · rw [if_neg (by simp)]
          by_cases h2 : valN ((l.drop 4).take 4) ≠ n.toNat
          · rw [if_pos h2]; exact Nat.zero_le _
          · rw [if_neg h2]
            show (l.drop 16).length ≤ 496
            rw [List.length_drop]; omega
      · rw [if_pos rfl]
        show (zL 496).length ≤ 496
        unfold zL
        rw [List.length_replicate]
        exact Nat.le_refl _
theorem Told.room {l : List UInt8} {w W : World} {r : Value} (h : Told l w r W) : ∃ p c, r = .slice p l.length c ∧ HoldsB W p (ofL l) ∧ (p = none → c = 0) ∧ l.length ≤ c := by
  rcases h with ⟨rfl, rfl, h⟩ | ⟨g, c, rfl, ho, _⟩
  · exact ⟨none, 0, rfl, fun h0 => by rw [ofL_size] at h0; exact absurd h0 (by decide), fun _ => rfl, Nat.le_refl _⟩
  · exact ⟨_, _, rfl, ho.holds, fun e => (by cases e), by have := ho.2.2.2; rwa [ofL_size] at this⟩
theorem take_any (n : Int) (p : Option Addr) (s : ByteArray) (m c : Nat) (w : World) (hm : s.size = m) (hc : m ≤ c) (hp : HoldsB w p s) :
    Calls Try.prog 20 #[.int .i64 n, .slice p m c] w (TakePost (takeI n (bl s)) w) := by
  by_cases h : outN n
  · refine (take_arg n h p m c w).mono fun e w' ⟨h1, h2⟩ => ⟨_, ?_, .inl ⟨?_, rfl, ?_⟩⟩
    · rw [h1]; unfold takeI; rw [if_pos h]; rfl
    · unfold takeI; rw [if_pos h]
    · rw [← h2]; exact Below.refl _ _
  · obtain ⟨k, rfl⟩ : ∃ k : Nat, n = (k : Int) := ⟨n.toNat, by unfold outN at h; omega⟩
    have hk : k ≤ 4294967295 := by unfold outN at h; omega
    have e : takeI (k : Int) (bl s) = takeR k (bl s) := by unfold takeI; rw [if_neg h, Int.toNat_natCast]
    rw [e]
    by_cases h5 : m = 512
    · subst h5
      obtain ⟨b, off, rfl, _⟩ := hp (by omega)
      exact take_512 k hk b off s c w hm hc hp
    · have e2 := takeR_len k (bl s) (by rw [bl_length, hm]; exact h5)
      rw [e2]
      exact (take_len k hk p m c h5 w).mono fun e w' ⟨h1, h2⟩ => ⟨_, h1, .inl ⟨rfl, rfl, by rw [← h2]; exact Below.refl _ _⟩⟩
theorem rtake_any (n : Int) (p : Option Addr) (s : ByteArray) (m c : Nat) (w : World) (hm : s.size = m) (hc : m ≤ c) (hp : HoldsB w p s) :
    Calls Try.prog 28 #[.int .i64 n, .slice p m c] w (TakePost (takeI n (bl s)) w) := by
  by_cases h : outN n
  · refine (rtake_arg n h p m c w).mono fun e w' ⟨h1, h2⟩ => ⟨_, ?_, .inl ⟨?_, rfl, ?_⟩⟩
    · rw [h1]; unfold takeI; rw [if_pos h]; rfl
    · unfold takeI; rw [if_pos h]
    · rw [← h2]; exact Below.refl _ _
  · obtain ⟨k, rfl⟩ : ∃ k : Nat, n = (k : Int) := ⟨n.toNat, by unfold outN at h; omega⟩
    have hk : k ≤ 4294967295 := by unfold outN at h; omega
    have e : takeI (k : Int) (bl s) = takeR k (bl s) := by unfold takeI; rw [if_neg h, Int.toNat_natCast]
    rw [e]
    by_cases h5 : m = 512
    · subst h5
      obtain ⟨b, off, rfl, _⟩ := hp (by omega)
      exact rtake_512 k hk b off s c w hm hc hp
    · have e2 := takeR_len k (bl s) (by rw [bl_length, hm]; exact h5)
      rw [e2]
      exact (rtake_len k hk p m c h5 w).mono fun e w' ⟨h1, h2⟩ => ⟨_, h1, .inl ⟨rfl, rfl, by rw [← h2]; exact Below.refl _ _⟩⟩
def LayPost (x : List UInt8 × Nat) (w : World) (e : Ending) (w' : World) : Prop := ∃ r, e = .returned (.tuple #[r, .int .i64 (x.2 : Int)]) ∧ Told x.1 w r w'
theorem lay_any (n : Int) (st : Nat) (p : Option Addr) (s : ByteArray) (m c : Nat) (w : World) (hst : st < 18446744073709551616) (hm : s.size = m) (hp : HoldsB w p s) (hnil : p = none → c = 0) :
    Calls Try.prog 11 #[.int .i64 n, .int .u64 (st : Int), .slice p m c] w (LayPost (layI n st (bl s)) w) := by
  have hl : (bl s).length = m := by rw [bl_length, hm]
  unfold layI
  by_cases h : outN n
  · rw [if_pos h]
    exact (lay_arg n h _ p m c w).mono fun e w' ⟨h1, h2⟩ => ⟨_, h1, .inl ⟨rfl, rfl, by rw [← h2]; exact Below.refl _ _⟩⟩
  · rw [if_neg h]
    obtain ⟨k, rfl⟩ : ∃ k : Nat, n = (k : Int) := ⟨n.toNat, by unfold outN at h; omega⟩
    have hk : k ≤ 4294967295 := by unfold outN at h; omega
    rw [Int.toNat_natCast, hl]
    by_cases h5 : 496 < m
    · rw [if_pos h5]
      exact (lay_long k hk _ p m c h5 w).mono fun e w' ⟨h1, h2⟩ => ⟨_, h1, .inl ⟨rfl, rfl, by rw [← h2]; exact Below.refl _ _⟩⟩
    · rw [if_neg h5]
      exact (lay_ok k st p s m c w hk hst hm (by omega) hp hnil).mono fun e w' ⟨r, h1, h2⟩ => ⟨r, h1, .inr h2⟩
theorem rlay_any (n : Int) (st : Nat) (p : Option Addr) (s : ByteArray) (m c : Nat) (w : World) (hst : st < 18446744073709551616) (hm : s.size = m) (hp : HoldsB w p s) :
    Calls Try.prog 12 #[.int .i64 n, .int .u64 (st : Int), .slice p m c] w (LayPost (layI n st (bl s)) w) := by
  have hl : (bl s).length = m := by rw [bl_length, hm]
  unfold layI
  by_cases h : outN n
  · rw [if_pos h]
    exact (rlay_arg n h _ p m c w).mono fun e w' ⟨h1, h2⟩ => ⟨_, h1, .inl ⟨rfl, rfl, by rw [← h2]; exact Below.refl _ _⟩⟩
  · rw [if_neg h]
    obtain ⟨k, rfl⟩ : ∃ k : Nat, n = (k : Int) := ⟨n.toNat, by unfold outN at h; omega⟩
    have hk : k ≤ 4294967295 := by unfold outN at h; omega
    rw [Int.toNat_natCast, hl]
    by_cases h5 : 496 < m
    · rw [if_pos h5]
      exact (rlay_long k hk _ p m c h5 w).mono fun e w' ⟨h1, h2⟩ => ⟨_, h1, .inl ⟨rfl, rfl, by rw [← h2]; exact Below.refl _ _⟩⟩
    · rw [if_neg h5]
      exact (rlay_ok k st p s m c w hk hst hm (by omega) hp).mono fun e w' ⟨r, h1, h2⟩ => ⟨r, h1, .inr h2⟩
/-- Two tellings of the same bytes. -/
theorem same_told {x : List UInt8} {W : World} {p q : Option Addr} {c d : Nat} (hp : HoldsB W p (ofL x)) (hq : HoldsB W q (ofL x)) :
    Calls Try.prog 13 #[.slice p x.length c, .slice q x.length d] W fun e w' => e = .returned (.bool true) ∧ W = w' := by
  have := same_yes p q (ofL x) c d W hp hq
  rwa [ofL_size] at this
/-- A loop's state: what was answered is wiped out. -/
def WipeRel (w W1 : World) (g c n : Nat) (v : Value) (wr : World) : Prop := ∃ k : Nat, v = .int .i64 (k : Int) ∧ k ≤ n ∧ Hid ((∃ l : List UInt8, l.length = n ∧ Owns wr W1.heap.size g c (ofL l)) ∧ Below W1.heap.size W1 wr)
set_option maxRecDepth 100000 in
set_option maxHeartbeats 8000000 in
theorem takes_any (n : Int) (p : Option Addr) (s : ByteArray) (m c : Nat) (w : World) (hm : s.size = m) (hmx : m ≤ 140737488355000) (hc : m ≤ c) (hp : HoldsB w p s) (hnil : p = none → c = 0) :
    Calls Try.prog 15 #[.int .i64 n, .slice p m c] w fun e w' => e = .returned (.bool true) ∧ Below w.heap.size w w' := by
  subst hm
  have SP := Lib.hid (spare_any p s c w hmx hp hnil)
  have HH := Lib.hid (And.intro hp (And.intro hmx hc))
  obtain ⟨m, hm⟩ : ∃ m, s.size = m := ⟨_, rfl⟩
  have HM := Lib.hid hm
  rw [hm] at SP ⊢
  clear hp hmx hc hm hnil
  obtain ⟨X, hX⟩ : ∃ X, takeI n (bl s) = X := ⟨_, rfl⟩
  have HX := Lib.hid hX
  clear hX
  go_enter Try.func15, Try.ntmps15
  go_wp2_with (fail)
  refine SP.out.mono ?_
  rintro e W1 ⟨g, cap, rfl, ho, hb⟩
  have hcap := ho.2.2.2
  rw [size_push] at hcap
  have TK := take_any n (some ⟨g, 0, none⟩) s s.size cap W1 rfl (by omega) (owns_front ho)
  rw [HX.out, HM.out] at TK
  have T1 := Lib.hid TK
  have H1 := Lib.hid (And.intro ho hb)
  rw [HM.out]
  clear ho hb hcap TK SP
  go_wp2_with (fail)
  refine T1.out.mono ?_
  rintro e W2 ⟨r, rfl, hr⟩
  have hb2 := hr.below
  have TR := rtake_any n p s s.size c W2 rfl HH.out.2.2 (HH.out.1.below (below_cat H1.out.2 hb2))
  rw [HX.out, HM.out] at TR
  have T2 := Lib.hid TR
  clear TR T1
  rcases hr with ⟨hx0, rfl, _⟩ | ⟨g2, c2, rfl, ho2, _⟩
  · have HB2 := Lib.hid hb2
    have HX0 := Lib.hid hx0
    clear hx0 hb2
    go_wp2_with (fail)
    refine T2.out.mono ?_
    rintro e W3 ⟨r, rfl, hr⟩
    obtain ⟨q, d, rfl, hq, _⟩ := hr.holds
    have hb3 := below_cat HB2.out hr.below
    have SM := same_told (p := none) (q := q) (c := 0) (d := d) (x := X.1) (W := W3) (by rw [HX0.out]; exact fun h => absurd h (by decide)) hq
    have hl0 : X.1.length = 0 := by rw [HX0.out]; rfl
    rw [hl0] at SM ⊢
    have KP := kept_yes w.heap.size g cap p s c W3 HH.out.2.1 (H1.out.1.far hb3) (HH.out.1.below (below_cat H1.out.2 hb3))
    rw [HM.out] at KP
    have S3 := Lib.hid SM
    have K3 := Lib.hid KP
    have B3 := Lib.hid (below_cat H1.out.2 hb3)
    clear hr hq hb3 SM KP hl0 T2
    go_wp2_with (fail)
    refine S3.out.mono ?_
    rintro e w' ⟨rfl, rfl⟩
    go_wp2_with (fail)
    refine K3.out.mono ?_
    rintro e w' ⟨rfl, rfl⟩
    go_wp2_with (fail)
    go_loop [51] (fun x => x = .int .i64 0) (fun _ => 0)
    case atStart => rfl
    case round =>
      obtain rfl := hrel
      go_wp2_with (fail)
      refine K3.out.mono ?_
      rintro e w' ⟨rfl, rfl⟩
      go_wp2_with (fail)
      go_ret
      exact ⟨rfl, B3.out⟩
  · have HB2 := Lib.hid (And.intro hb2 ho2)
    obtain ⟨L, hL⟩ : ∃ L, X.1.length = L := ⟨_, rfl⟩
    have HL := Lib.hid hL
    rw [hL]
    clear hb2 ho2 hL
    go_wp2_with (fail)
    refine T2.out.mono ?_
    rintro e W3 ⟨r, rfl, hr⟩
    obtain ⟨q, d, rfl, hq, _⟩ := hr.holds
    have hb23 := hr.below
    have hb3 := below_cat HB2.out.1 hb23
    have SM := same_told (p := some ⟨g2, 0, none⟩) (q := q) (c := c2) (d := d) (x := X.1) (W := W3) (HB2.out.2.holds.below hb23) hq
    rw [HL.out] at SM ⊢
    have KP := kept_yes w.heap.size g cap p s c W3 HH.out.2.1 (H1.out.1.far hb3) (HH.out.1.below (below_cat H1.out.2 hb3))
    rw [HM.out] at KP
    have S3 := Lib.hid SM
    have K3 := Lib.hid KP
    have B3 := Lib.hid (And.intro hb3 (HB2.out.2.far hb23))
    have hL9 : (L : Int) ≤ 496 := by
      have h1 := takeI_small n (bl s)
      rw [HX.out, HL.out] at h1
      omega
    clear hr hq hb3 hb23 SM KP T2
    go_wp2_with (fail)
    refine S3.out.mono ?_
    rintro e w' ⟨rfl, rfl⟩
    go_wp2_with (fail)
    refine K3.out.mono ?_
    rintro e w' ⟨rfl, rfl⟩
    go_wp2_with (fail)
    go_loopw [51] (fun v wr => WipeRel w W1 g2 c2 L v wr) (fun v _ => L - (intOf v).toNat)
    case atStart => exact ⟨0, rfl, Nat.zero_le _, Lib.hid ⟨⟨X.1, HL.out, B3.out.2⟩, B3.out.1⟩⟩
    case round =>
      obtain ⟨k, rfl, hk, HR⟩ := hrel
      obtain ⟨⟨l, hl, hol⟩, hbl⟩ := HR.out
      by_cases hlt : k < L
      · have hf : wr.frozen? ⟨g2, k, none⟩ = false := by
          have := hol.1
          rw [ofL_size, hl] at this
          exact World.ownsRow.frozenAt this _
        have hcl : ∃ u, wr.cell? ⟨g2, k, none⟩ = some u := by
          obtain ⟨b, off, e, hc⟩ := hol.holds (by rw [ofL_size, hl]; omega)
          cases e
          exact ⟨_, by have := hc k (by rw [ofL_size, hl]; omega); rwa [Nat.zero_add] at this⟩
        obtain ⟨u, hcl⟩ := hcl
        have hput := hol.put (t := ofL (l.set k 4)) k 4 (by rw [bl_ofL, bl_ofL])
        have HP := Lib.hid (And.intro hput (And.intro (below_put hbl hol.2.1 k (.int .u8 4)) (show (l.set k 4).length = L by rw [List.length_set, hl])))
        clear hput hbl hol hl
        go_wp2_with (fail)
        go_roundw
        case rel => exact ⟨k + 1, by go_num, by omega, Lib.hid ⟨⟨_, HP.out.2.2, HP.out.1⟩, HP.out.2.1⟩⟩
        case measure => simp [intOf]; omega
      · obtain rfl : k = L := by omega
        have KW := kept_yes w.heap.size g cap p s c wr HH.out.2.1 (H1.out.1.far hbl) (HH.out.1.below (below_cat H1.out.2 hbl))
        rw [HM.out] at KW
        have K4 := Lib.hid KW
        have B4 := Lib.hid (below_cat H1.out.2 hbl)
        clear hbl hol hl KW
        go_wp2_with (fail)
        refine K4.out.mono ?_
        rintro e w' ⟨rfl, rfl⟩
        go_wp2_with (fail)
        go_ret
        exact ⟨rfl, B4.out⟩
end Go.Proofs.Ytbbfbgccikeciaa
