/- Proved here: what label.Read answers. -/
import Derived.Test.YtaiiigknlnhdgaaLabRead2
namespace Go.Proofs.Ytaiiigknlnhdgaa
open Go.RowKit

theorem numB_size (D : List Bool) : (numB D).2 ≤ D.length := by
  unfold numB
  simp only
  split
  · exact Nat.zero_le _
  · rename_i h; show 2 * _ ≤ _; omega
def numsP (l : List Nat) : List Int := numsB (8 * l.length + 1) (unpackB l)
def NmsRel (w : World) (U : List Bool) (L : List Int) (n : Nat) (a b : Value) (wr : World) : Prop :=
  ∃ (t : Nat) (acc : List Int) (q : Option Addr) (c : Nat), a = .slice q acc.length c ∧ b = .int .i64 (t : Int) ∧ t ≤ 8 * n ∧ Hid (OwnI wr w.heap.size q c acc ∧ Below w.heap.size w wr ∧ (∃ f, L = acc ++ numsB f (U.drop t) ∧ 8 * n + 1 ≤ f + t) ∧ acc.length ≤ t)
def NumsPost (w : World) (L : List Int) (e : Ending) (w' : World) : Prop := ∃ q c, e = .returned (.slice q L.length c) ∧ OwnI w' w.heap.size q c L ∧ Below w.heap.size w w'
set_option maxRecDepth 100000 in
set_option maxHeartbeats 4000000 in
theorem numbers_any (p : Option Addr) (l : List Nat) (c : Nat) (w : World) (hl : l.length ≤ 1048576) (hlc : l.length ≤ c) (h : HoldsU w p l) (hx : ∀ x ∈ l, x < 256) :
    Calls Try.prog 34 #[.slice p l.length c] w (NumsPost w (numsP l)) := by
  have NB := Lib.hid (fun W (hb : Below w.heap.size w W) i (hi : i < 8 * l.length) => number2_any p l c W hl hlc (h.below hb) hx i hi)
  obtain ⟨L, hL⟩ : ∃ L, numsP l = L := ⟨_, rfl⟩
  have hL2 : numsB (8 * l.length + 1) (unpackB l) = L := hL
  rw [hL]
  obtain ⟨U, hU⟩ : ∃ U, unpackB l = U := ⟨_, rfl⟩
  have hUl : U.length = 8 * l.length := by rw [← hU, unpackB_length]
  rw [hU] at NB hL2
  obtain ⟨n, hn⟩ : ∃ n, l.length = n := ⟨_, rfl⟩
  rw [hn] at NB hUl hL2 hl ⊢
  have hnn : (n : Int) ≤ 1048576 := by omega
  have HU := Lib.hid (And.intro hUl hL2)
  clear h hx hU hn hlc hUl hL hL2
  go_enter Try.func34, Try.ntmps34
  go_wp2_with (fail)
  go_loopw [3, 4] (fun a b wr => NmsRel w U L n a b wr) (fun _ b _ => 8 * n - (intOf b).toNat)
  case atStart => exact ⟨0, [], none, 0, rfl, rfl, Nat.zero_le _, Lib.hid ⟨OwnI.nil _ _, Below.refl _ _, ⟨8 * n + 1, by simp [HU.out.2], by omega⟩, Nat.le_refl _⟩⟩
  case round =>
    obtain ⟨t, acc, q, d, rfl, rfl, ht, HR⟩ := hrel
    have htt : (t : Int) ≤ 8388608 := by omega
    by_cases hlt : t < 8 * n
    · have N1 := Lib.hid (NB.out wr HR.out.2.1 t hlt)
      have hsz := numB_size (U.drop t)
      rw [List.length_drop, HU.out.1] at hsz
      obtain ⟨v, s, hvs⟩ : ∃ v s, numB (U.drop t) = (v, s) := ⟨_, _, rfl⟩
      have HV := Lib.hid hvs
      rw [hvs] at N1 hsz
      have hlt' : (t : Int) < 8 * (n : Int) := by omega
      have hdl : 0 < (U.drop t).length := by rw [List.length_drop, HU.out.1]; omega
      have HD := Lib.hid (And.intro hdl hsz)
      simp only at hsz N1
      by_cases hs : s = 0
      · have hq : ((s : Int) == 0) = true := by rw [hs]; rfl
        have HS := Lib.hid hs
        clear hs hsz hdl hvs ht hlt
        go_wp2_with (fail)
        refine (N1.out).mono ?_
        rintro e w' ⟨rfl, rfl⟩
        go_wp2_with (fail)
        go_ret
        obtain ⟨ho, hb, ⟨f, hf, hf2⟩, _⟩ := HR.out
        have he : numsB f (U.drop t) = [] := by
          cases f with
          | zero => rfl
          | succ f => unfold numsB; rw [if_neg (by have := HD.out.1; omega), HV.out, if_pos HS.out]
        rw [he, List.append_nil] at hf
        rw [hf]
        exact ⟨q, d, rfl, ho, hb⟩
      · have hq : ((s : Int) == 0) = false := by rw [beq_eq_false_iff_ne]; omega
        have HS := Lib.hid hs
        obtain ⟨g, cap, w1, hrun, hown, hgr⟩ := appendI_one (x := v) HR.out.1 HR.out.2.1.size (by have := HR.out.2.2.2; omega)
        have HA := Lib.hid hrun
        have HG := Lib.hid (And.intro hown hgr)
        have hss : (s : Int) ≤ 8388608 := by omega
        have hts : (t : Int) + (s : Int) ≤ 8388608 := by omega
        clear hs hsz hdl hvs ht hlt hrun hown hgr
        go_wp2_with (fail)
        refine (N1.out).mono ?_
        rintro e w' ⟨rfl, rfl⟩
        go_wp2_with (at_builtin; refine t_append_eq rfl _ _ _ rfl _ _ _ _ rfl rfl HA.out ?_)
        go_round
        case rel =>
          obtain ⟨ho, hb, ⟨f, hf, hf2⟩, hal⟩ := HR.out
          have hsz := HD.out.2
          have hs := HS.out
          refine ⟨t + s, acc ++ [v], some ⟨g, 0, none⟩, cap, by rw [List.length_append]; rfl, by go_num, by omega, Lib.hid ⟨HG.out.1, hb.grown HG.out.2 hb.size (fun k e => (World.ownsRow.lt ho.1 k e).1), ⟨f - 1, ?_, by omega⟩, by rw [List.length_append]; simp; omega⟩⟩
          rw [hf, List.append_assoc]
          congr 1
          obtain ⟨f', rfl⟩ : ∃ f', f = f' + 1 := ⟨f - 1, by omega⟩
          rw [numsB, if_neg (by have := HD.out.1; omega), HV.out, if_neg hs, List.drop_drop]
          rfl
        case measure => have := HS.out; simp [intOf]; omega
    · obtain rfl : t = 8 * n := by omega
      go_wp2_with (fail)
      go_ret
      obtain ⟨ho, hb, ⟨f, hf, hf2⟩, _⟩ := HR.out
      have he : numsB f (U.drop (8 * n)) = [] := by
        rw [List.drop_eq_nil_of_le (by rw [HU.out.1]; exact Nat.le_refl _)]
        cases f with
        | zero => rfl
        | succ f => rfl
      rw [he, List.append_nil] at hf
      rw [hf]
      exact ⟨q, d, rfl, ho, hb⟩
def natI (l : List Nat) : List Int := l.map (fun x : Nat => (x : Int))
theorem HoldsU.in_ {w : World} {p : Option Addr} {l : List Nat} (h : HoldsU w p l) : Lib.BytesIn w p l.length (natI l) := fun h0 => by
  obtain ⟨b, off, e, hc⟩ := h h0
  refine ⟨b, off, e, fun i hi => ?_⟩
  rw [hc i hi]
  have e2 : (natI l).getD i 0 = ((l.getD i 0 : Nat) : Int) := by
    simp [natI, List.getD_eq_getElem?_getD, List.getElem?_eq_getElem hi]
  rw [e2]
theorem bytes_beq {a b : List Nat} (ha : ∀ x ∈ a, x < 256) (hb : ∀ x ∈ b, x < 256) : (Lib.bytesOf (natI a) == Lib.bytesOf (natI b)) = decide (a = b) := by
  have inj : ∀ (a b : List Nat), (∀ x ∈ a, x < 256) → (∀ x ∈ b, x < 256) → Lib.bytesOf (natI a) = Lib.bytesOf (natI b) → a = b := by
    intro a
    induction a with
    | nil => intro b _ _ h; cases b with
      | nil => rfl
      | cons y m => simp [Lib.bytesOf, natI] at h
    | cons x l ih =>
      intro b h1 h2 h
      cases b with
      | nil => simp [Lib.bytesOf, natI] at h
      | cons y m =>
        have e : UInt8.ofNat x = UInt8.ofNat y ∧ Lib.bytesOf (natI l) = Lib.bytesOf (natI m) := by simpa [Lib.bytesOf, natI] using h
        have e1 : x = y := by
          have := congrArg UInt8.toNat e.1
          have hx := h1 x (by simp)
          have hy := h2 y (by simp)
          simp only [UInt8.toNat_ofNat'] at this
          omega
        rw [e1, ih m (fun z hz => h1 z (by simp [hz])) (fun z hz => h2 z (by simp [hz])) e.2]
  by_cases q : a = b
  · rw [decide_eq_true q, q]; simp
  · rw [decide_eq_false q, beq_eq_false_iff_ne]
    exact fun e => q (inj a b ha hb e)
/-- The label that bytes are. -/
def readP (l : List Nat) : Option (List Int) := if 120 < l.length then none else if checkP (numsP l) = 0 ∧ packB (bitsL (numsP l)) = l then some (numsP l) else none
def ReadPost (w : World) (r : Option (List Int)) (e : Ending) (w' : World) : Prop :=
  ∃ q c, e = .returned (.tuple #[.slice q (r.getD []).length c, .int .i64 (if r.isSome then 0 else 11)]) ∧ OwnI w' w.heap.size q c (r.getD []) ∧ Below w.heap.size w w'
theorem OwnI.base {w : World} {B B' : Nat} {q : Option Addr} {c : Nat} {l : List Int} (h : OwnI w B q c l) (hB : B' ≤ B) : OwnI w B' q c l := by
  refine ⟨⟨h.1.1, ?_⟩, h.2⟩
  rcases h.1.2 with hn | ⟨g, cap, cur, e, hb, rest⟩
  · exact .inl hn
  · exact .inr ⟨g, cap, cur, e, by omega, rest⟩
theorem numsB_length : ∀ (f : Nat) (D : List Bool), (numsB f D).length ≤ D.length
  | 0, _ => Nat.zero_le _
  | f + 1, D => by
    unfold numsB
    split
    · exact Nat.zero_le _
    · split
      · exact Nat.zero_le _
      · rename_i h1 h2
        have := numsB_length f (D.drop (numB D).2)
        rw [List.length_drop] at this
        rw [List.length_cons]; omega
theorem read_none {w w' : World} (hb : Below w.heap.size w w') : ReadPost w none (.returned (.tuple #[.slice none 0 0, .int .i64 11])) w' := ⟨none, 0, rfl, OwnI.nil _ _, hb⟩
set_option maxRecDepth 100000 in
set_option maxHeartbeats 4000000 in
theorem read_far (p : Option Addr) (l : List Nat) (c : Nat) (w : World) (hl : l.length ≤ 140737488355328) (h : 120 < l.length) :
    Calls Try.prog 14 #[.slice p l.length c] w (ReadPost w none) := by
  obtain ⟨n, hn⟩ : ∃ n, l.length = n := ⟨_, rfl⟩
  rw [hn] at hl h ⊢
  have h1 : (120 : Int) < (n : Int) := by omega
  clear hl h hn
  go_enter Try.func14, Try.ntmps14
  go_wp2_with (fail)
  go_ret2
  exact read_none (Below.refl _ _)
set_option maxRecDepth 100000 in
set_option maxHeartbeats 4000000 in
theorem read_near (p : Option Addr) (l : List Nat) (c : Nat) (w : World) (hl : l.length ≤ 120) (hlc : l.length ≤ c) (h : HoldsU w p l) (hx : ∀ x ∈ l, x < 256) :
    Calls Try.prog 14 #[.slice p l.length c] w (ReadPost w (readP l)) := by
  have NM := Lib.hid (numbers_any p l c w (by omega) hlc h hx)
  unfold readP
  rw [if_neg (by omega)]
  have hnl : (numsP l).length ≤ 960 := by
    have := numsB_length (8 * l.length + 1) (unpackB l)
    rw [unpackB_length] at this
    show (numsB _ _).length ≤ _
    omega
  obtain ⟨L, hL⟩ : ∃ L, numsP l = L := ⟨_, rfl⟩
  rw [hL] at NM hnl ⊢
  have H := Lib.hid (And.intro h hx)
  have h1 : ¬ (120 : Int) < (l.length : Int) := by omega
  clear h hx hL hlc
  by_cases hc : checkP L = 0
  · by_cases hp : packB (bitsL L) = l
    · rw [if_pos ⟨hc, hp⟩]
      have HC := Lib.hid (And.intro hc hp)
      clear hc hp
      go_enter Try.func14, Try.ntmps14
      go_wp2_with (fail)
      refine (NM.out).mono ?_
      rintro e w1 ⟨q, d, rfl, ho, hb⟩
      have HO := Lib.hid (And.intro ho hb)
      have BY := Lib.hid (bytes_ok q L d w1 (by omega) ho.2.2 ho.holds HC.out.1)
      clear ho hb
      go_wp2_with (fail)
      refine (BY.out).mono ?_
      rintro e w2 ⟨q2, d2, rfl, ho2, hb2⟩
      have hpk : (packB (bitsL L)).length = sizeP L := by rw [packB_length]; rfl
      have HE := Lib.hid (Try.bytes_Equal_all q2 p (packB (bitsL L)).length d2 l.length c _ _ w2 (by simp [natI]) (by simp [natI]) ho2.holds.in_ ((H.out.1.below (t_cat HO.out.2 hb2)).in_))
      rw [bytes_beq (packB_lt _) H.out.2, hpk, decide_eq_true HC.out.2] at HE
      have HO2 := Lib.hid (And.intro (HO.out.1.far hb2) (t_cat HO.out.2 hb2))
      clear ho2 hb2 hpk
      go_wp2_with (fail)
      refine (HE.out).mono ?_
      rintro e w3 ⟨rfl, rfl⟩
      go_wp2_with (fail)
      go_ret2
      exact ⟨q, d, rfl, HO2.out.1, HO2.out.2⟩
    · rw [if_neg (fun e => hp e.2)]
      have HC := Lib.hid (And.intro hc hp)
      clear hc hp
      go_enter Try.func14, Try.ntmps14
      go_wp2_with (fail)
      refine (NM.out).mono ?_
      rintro e w1 ⟨q, d, rfl, ho, hb⟩
      have HO := Lib.hid (And.intro ho hb)
      have BY := Lib.hid (bytes_ok q L d w1 (by omega) ho.2.2 ho.holds HC.out.1)
      clear ho hb
      go_wp2_with (fail)
      refine (BY.out).mono ?_
      rintro e w2 ⟨q2, d2, rfl, ho2, hb2⟩
      have hpk : (packB (bitsL L)).length = sizeP L := by rw [packB_length]; rfl
      have HE := Lib.hid (Try.bytes_Equal_all q2 p (packB (bitsL L)).length d2 l.length c _ _ w2 (by simp [natI]) (by simp [natI]) ho2.holds.in_ ((H.out.1.below (t_cat HO.out.2 hb2)).in_))
      rw [bytes_beq (packB_lt _) H.out.2, hpk, decide_eq_false HC.out.2] at HE
      have HO2 := Lib.hid (t_cat HO.out.2 hb2)
      clear ho2 hb2 hpk
      go_wp2_with (fail)
      refine (HE.out).mono ?_
      rintro e w3 ⟨rfl, rfl⟩
      go_wp2_with (fail)
      go_ret2
      exact read_none HO2.out
  · rw [if_neg (fun e => hc e.1)]
    have hq : (checkP L != 0) = true := by rw [bne_iff_ne]; exact hc
    have HC := Lib.hid hc
    clear hc
    go_enter Try.func14, Try.ntmps14
    go_wp2_with (fail)
    refine (NM.out).mono ?_
    rintro e w1 ⟨q, d, rfl, ho, hb⟩
    have HO := Lib.hid hb
    have BY := Lib.hid (bytes_bad q L d w1 (by omega) ho.2.2 ho.holds HC.out)
    generalize checkP L = x at *
    clear ho hb
    go_wp2_with (fail)
    refine (BY.out).mono ?_
    rintro e w2 ⟨rfl, rfl⟩
    go_wp2_with (fail)
    go_ret2
    exact read_none HO.out
theorem read_any (p : Option Addr) (l : List Nat) (c : Nat) (w : World) (hl : l.length ≤ 140737488355328) (hlc : l.length ≤ c) (h : HoldsU w p l) (hx : ∀ x ∈ l, x < 256) :
    Calls Try.prog 14 #[.slice p l.length c] w (ReadPost w (readP l)) := by
  by_cases h1 : 120 < l.length
  · have e : readP l = none := by unfold readP; rw [if_pos h1]
    rw [e]
    exact read_far p l c w hl h1
  · exact read_near p l c w (by omega) hlc h hx
end Go.Proofs.Ytaiiigknlnhdgaa
