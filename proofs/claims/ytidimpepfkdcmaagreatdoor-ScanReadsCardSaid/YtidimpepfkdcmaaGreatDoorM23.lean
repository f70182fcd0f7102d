/- Proved here: the document's Name answers nameB of every string; what was there stays. | Proved here: the document's Split answers splitF of every string; what was there stays. | Proved here: what the document's written answers: a written name, or why there is none. -/
import Derived.Test.YtidimpepfkdcmaaGreatDoorM4
import Derived.Test.YtidimpepfkdcmaaGreatDoorM0
import Derived.Lib.ConvBytes
import Derived.Lib.SmallJoins
import Derived.Laws.AppendOwn
import Derived.RegionTactic
import Derived.Test.YtidimpepfkdcmaaGreatDoorM22
import Derived.Test.YtidimpepfkdcmaaGreatDoorM43
import Derived.Lib.MinMax
namespace Go.Proofs.YtidimpepfkdcmaaGreatDoor
open Go.RowKit

set_option maxHeartbeats 2000000 in
theorem refName_any (s : ByteArray) (w : World) (hs : s.size ≤ 140737488355328) :
    Calls Tryz.prog 50 #[.string s] w fun e w' => e = .returned (.bool (nameB s)) ∧ Below w.heap.size w w' := by
  obtain ⟨cap, W, hcv, hcap, hb, hsz, hp⟩ := bytes_of w s
  obtain ⟨ANS, hA⟩ : ∃ ANS, nameB s = ANS := ⟨_, rfl⟩
  rw [hA]
  by_cases h0 : s.size = 0
  · have hf : nameB s = false := by unfold nameB; rw [if_pos (.inl h0)]
    have HF := Lib.hid (hf.symm.trans hA)
    have h0' : (s.size == 0) = true := by simp [h0]
    have h0'' : ((s.size : Int) == 0) = true := by simp [h0]
    clear hA hf hp h0
    go_enter Tryz.func50, Tryz.ntmps50
    go_wp2_with (fail)
    go_ret
    exact ⟨ret_bool HF.out, hb⟩
  · have h0' : ((s.size : Int) == 0) = false := by simp [h0]
    by_cases h1 : 100 < s.size
    · have hf : nameB s = false := by unfold nameB; rw [if_pos (.inr h1)]
      have HF := Lib.hid (hf.symm.trans hA)
      have h1' : (100 : Int) < (s.size : Int) := by omega
      clear hA hf hp
      go_enter Tryz.func50, Tryz.ntmps50
      go_wp2_with (fail)
      go_ret
      exact ⟨ret_bool HF.out, hb⟩
    · have hf : nameB s = nameGo s s.size 0 := by unfold nameB; rw [if_neg (by omega)]
      have HA := Lib.hid (hf.symm.trans hA)
      have h1' : (s.size : Int) ≤ 100 := by omega
      have hd100 : decide ((100 : Int) < (s.size : Int)) = false := by simp; omega
      clear hA hf
      go_enter Tryz.func50, Tryz.ntmps50
      go_wp2_with (fail)
      go_loop [4] (fun i => ∃ pos b : Nat, i = .int .i64 pos ∧ nameGo s b pos = ANS ∧ s.size ≤ pos + b ∧ pos ≤ s.size) (fun i => (s.size - (intOf i).toNat))
      case atStart => exact ⟨0, s.size, rfl, HA.out, by omega, by omega⟩
      case round =>
        obtain ⟨pos, b, rfl, hgo, hb1, hb2⟩ := hrel
        by_cases hpos : pos < s.size
        · obtain ⟨b, rfl⟩ : ∃ b', b = b' + 1 := ⟨b - 1, by omega⟩
          have hstep := nameGo_step s b pos hpos
          have hbad := nameGo_bad s b pos hpos
          have hle := rd_le s pos hpos
          have hbd := rd_bd s pos
          have cR := fun W' (h : ∀ j, j < s.size → W'.cell? ⟨w.heap.size, 0 + j, none⟩ = some (.int .u8 (s.get! j).toNat)) => refRead s w.heap.size 0 cap pos W' hs hpos h
          obtain ⟨d, hd⟩ : ∃ d, rd s pos = d := ⟨_, rfl⟩
          rw [hd] at hstep hbad hle hbd
          simp only [hd] at cR
          clear hd
          have cR := cR W hp
          have cS := refStart (d.1 : Int)
          have cP := refPart (d.1 : Int)
          generalize startB (d.1 : Int) = sb at *
          generalize partB (d.1 : Int) = pb at *
          have HG := Lib.hid hgo
          have HS := Lib.hid hstep
          have HB := Lib.hid hbad
          have CR := Lib.hid cR
          have CS := Lib.hid cS
          have CP := Lib.hid cP
          clear hgo hstep hbad cS cP cR hp
          by_cases hz : d.2 = 0
          · have hz1 : ((d.2 : Int) == 0) = true := by simp [hz]
            have HW := Lib.hid (HB.out (.inl hz))
            clear HB HS hz
            go_wp2_with (first | (go_at_call 25; refine CR.out.mono ?_; rintro e w1 ⟨rfl, rfl⟩) | (go_at_call 52; refine (CS.out _).mono ?_; rintro e w1 ⟨rfl, rfl⟩) | (go_at_call 51; refine (CP.out _).mono ?_; rintro e w1 ⟨rfl, rfl⟩))
            go_ret
            exact ⟨ret_bool (HW.out.symm.trans HG.out), hb⟩
          · have hz1 : ((d.2 : Int) == 0) = false := by simp [hz]
            cases pb
            · go_wp2_with (first | (go_at_call 25; refine CR.out.mono ?_; rintro e w1 ⟨rfl, rfl⟩) | (go_at_call 52; refine (CS.out _).mono ?_; rintro e w1 ⟨rfl, rfl⟩) | (go_at_call 51; refine (CP.out _).mono ?_; rintro e w1 ⟨rfl, rfl⟩))
              go_ret
              exact ⟨ret_bool ((HB.out (.inr (.inl (by simp)))).symm.trans HG.out), hb⟩
            · by_cases hpz : pos = 0
              · subst hpz
                cases sb
                · go_wp2_with (first | (go_at_call 25; refine CR.out.mono ?_; rintro e w1 ⟨rfl, rfl⟩) | (go_at_call 52; refine (CS.out _).mono ?_; rintro e w1 ⟨rfl, rfl⟩) | (go_at_call 51; refine (CP.out _).mono ?_; rintro e w1 ⟨rfl, rfl⟩))
                  go_ret
                  exact ⟨ret_bool ((HB.out (.inr (.inr ⟨by simp, by simp⟩))).symm.trans HG.out), hb⟩
                · go_wp2_with (first | (go_at_call 25; refine CR.out.mono ?_; rintro e w1 ⟨rfl, rfl⟩) | (go_at_call 52; refine (CS.out _).mono ?_; rintro e w1 ⟨rfl, rfl⟩) | (go_at_call 51; refine (CP.out _).mono ?_; rintro e w1 ⟨rfl, rfl⟩))
                  go_round
                  case rel =>
                    go_light
                    exact ⟨0 + d.2, b, by simp, by rw [← HG.out]; exact (HS.out hz (by simp) (by simp)).symm, by omega, hle⟩
                  case measure => simp [intOf]; omega
              · have hpz1 : ((pos : Int) == 0) = false := by simp; omega
                go_wp2_with (first | (go_at_call 25; refine CR.out.mono ?_; rintro e w1 ⟨rfl, rfl⟩) | (go_at_call 52; refine (CS.out _).mono ?_; rintro e w1 ⟨rfl, rfl⟩) | (go_at_call 51; refine (CP.out _).mono ?_; rintro e w1 ⟨rfl, rfl⟩))
                go_round
                case rel =>
                  go_light
                  exact ⟨pos + d.2, b, by simp, by rw [← HG.out]; exact (HS.out hz (by simp) (fun h => absurd h hpz)).symm, by omega, hle⟩
                case measure => simp [intOf]; omega
        · have HG := Lib.hid ((nameGo_end s b pos hpos).symm.trans hgo)
          clear hgo
          go_wp2_with (fail)
          go_ret
          exact ⟨ret_bool HG.out, hb⟩
end Go.Proofs.YtidimpepfkdcmaaGreatDoor
namespace Go.Proofs.YtidimpepfkdcmaaGreatDoor
open Go.RowKit

theorem splitF_name (q : ByteArray) (h : nameB q = true) : splitF q = (sEmpty, q, true) := by
  rw [splitF_none q (name_index q h), h]; rfl
theorem ret_ssb {a b c d : ByteArray} {x y : Bool} (h : (a, b, x) = (c, d, y)) : Ending.returned (.tuple #[.string a, .string b, .bool x]) = .returned (.tuple #[.string c, .string d, .bool y]) := by
  injection h with h1 h2
  injection h2 with h2 h3
  rw [h1, h2, h3]

theorem get!_idx (q : ByteArray) (k : Nat) (h : k < q.size) : q.get! k = q[k] := by
  show q.data[k]! = _
  rw [getElem!_pos q.data k h]; rfl
theorem splitF_false (q : ByteArray) (h : ¬ (splitF q).2.2 = true) : splitF q = (sEmpty, sEmpty, false) := by
  rcases index_lt q with g | ⟨i, g, _⟩
  · rw [splitF_none q g] at h ⊢
    split
    · rename_i e; rw [if_pos e] at h; exact absurd rfl h
    · rfl
  · rw [splitF_at q i g] at h ⊢
    split
    · rename_i e; rw [if_pos e] at h; exact absurd rfl h
    · rfl
/-- How far the search may have come: to the first colon, if the parts there are names. -/
def Far (q : ByteArray) (k : Nat) : Prop := (splitF q).2.2 = true → ∃ i0 : Nat, Lib.indexByte q.data.toList 58 = i0 ∧ k ≤ i0
theorem far_zero (q : ByteArray) (h : nameB q = false) : Far q 0 := by
  intro g
  rcases index_lt q with e | ⟨i, e, _⟩
  · rw [splitF_none q e, h] at g; cases g
  · exact ⟨i, e, Nat.zero_le _⟩
theorem far_other (q : ByteArray) (k : Nat) (h : k < q.size) (hc : q[k].toNat ≠ 58) (hf : Far q k) : Far q (k + 1) := by
  intro g
  obtain ⟨i, e, hi⟩ := hf g
  obtain ⟨h1, h2, _⟩ := first_colon q i e
  refine ⟨i, e, ?_⟩
  rcases Nat.lt_or_ge k i with h' | h'
  · omega
  · obtain rfl : i = k := by omega
    rw [get!_idx q i h] at h2
    exact absurd h2 hc
theorem far_no (q : ByteArray) (k : Nat) (hn : nameB (q.extract 0 k) = false ∨ nameB (q.extract (k + 1) q.size) = false) (hf : Far q k) : Far q (k + 1) := by
  intro g
  obtain ⟨i, e, hi⟩ := hf g
  refine ⟨i, e, ?_⟩
  rcases Nat.lt_or_ge k i with h' | h'
  · omega
  · obtain rfl : i = k := by omega
    rw [splitF_at q i e] at g
    rcases hn with hn | hn
    · rw [hn] at g; simp at g
    · rw [hn] at g; simp at g
theorem far_end (q : ByteArray) (k : Nat) (h : ¬ k < q.size) (hf : Far q k) : splitF q = (sEmpty, sEmpty, false) := by
  apply splitF_false
  intro g
  obtain ⟨i, e, hi⟩ := hf g
  have := (first_colon q i e).1
  omega
theorem split_here (q : ByteArray) (k : Nat) (h : k < q.size) (hc : q[k].toNat = 58) (h1 : nameB (q.extract 0 k) = true) (h2 : nameB (q.extract (k + 1) q.size) = true) : splitF q = (q.extract 0 k, q.extract (k + 1) q.size, true) := by
  rcases index_lt q with e | ⟨i, e, hi⟩
  · exact absurd (by rw [get!_idx q k h]; exact hc) (no_colon q e k h)
  · obtain ⟨g1, g2, g3⟩ := first_colon q i e
    rcases Nat.lt_trichotomy i k with h' | h' | h'
    · rw [later_colon q i k g2 h' h] at h1; cases h1
    · subst h'
      rw [splitF_at q i e, h1, h2]; rfl
    · exact absurd (by rw [get!_idx q k h]; exact hc) (g3 k h')
def SplitRel (q : ByteArray) (w : World) (i : Value) (wr : World) : Prop := ∃ k : Nat, i = .int .i64 k ∧ Below w.heap.size w wr ∧ k ≤ q.size ∧ Far q k

set_option maxHeartbeats 2000000 in
theorem refSplit_any (q : ByteArray) (w : World) (hs : q.size ≤ 140737488355328) :
    Calls Tryz.prog 53 #[.string q] w fun e w' => e = .returned (.tuple #[.string (splitF q).1, .string (splitF q).2.1, .bool (splitF q).2.2]) ∧ Below w.heap.size w w' := by
  have N := Lib.hid (fun W => refName_any q W hs)
  cases hn : nameB q
  · rw [hn] at N
    obtain ⟨ANS, hA⟩ : ∃ ANS, splitF q = ANS := ⟨_, rfl⟩
    rw [hA]
    have HA := Lib.hid hA
    have HN := Lib.hid hn
    clear hA hn
    go_enter Tryz.func53, Tryz.ntmps53
    go_wp2_with (fail)
    refine (N.out _).mono ?_
    rintro e w1 ⟨rfl, hb1⟩
    go_wp2_with (fail)
    go_loopw [5] (fun i wr => SplitRel q w i wr) (fun i _ => q.size - (intOf i).toNat)
    case atStart => exact ⟨0, rfl, hb1, Nat.zero_le _, far_zero q HN.out⟩
    case round =>
      obtain ⟨k, rfl, hb, hk, hfar⟩ := hrel
      have F := Lib.hid hfar
      clear hfar
      by_cases hlt : k < q.size
      · have hgz : (k : Int) < (q.size : Int) := by omega
        by_cases hc : q[k].toNat = 58
        · have hc1 : ((q[k].toNat : Int) == 58) = true := by simp [hc]
          have N1 := Lib.hid (fun W => refName_any (q.extract 0 k) W (by simp; omega))
          have N2 := Lib.hid (fun W => refName_any (q.extract (k + 1) q.size) W (by simp; omega))
          have HC := Lib.hid hc
          clear hc
          cases h1 : nameB (q.extract 0 k)
          · rw [h1] at N1
            have FN := Lib.hid (far_no q k (.inl h1) F.out)
            clear h1
            go_wp2_with (fail)
            refine (N1.out _).mono ?_
            rintro e w2 ⟨rfl, hb2⟩
            have hB := below_cat hb hb2
            clear hb2
            go_wp2_with (fail)
            go_roundw
            case rel =>
              go_light
              exact ⟨k + 1, by go_num, hB, by omega, FN.out⟩
            case measure => simp [intOf]; omega
          · cases h2 : nameB (q.extract (k + 1) q.size)
            · rw [h1] at N1
              rw [h2] at N2
              have FN := Lib.hid (far_no q k (.inr h2) F.out)
              clear h1 h2
              go_wp2_with (fail)
              refine (N1.out _).mono ?_
              rintro e w2 ⟨rfl, hb2⟩
              have hB := below_cat hb hb2
              clear hb2
              go_wp2_with (fail)
              refine (N2.out _).mono ?_
              rintro e w3 ⟨rfl, hb3⟩
              have hB3 := below_cat hB hb3
              clear hb3
              go_wp2_with (fail)
              go_roundw
              case rel =>
                go_light
                exact ⟨k + 1, by go_num, hB3, by omega, FN.out⟩
              case measure => simp [intOf]; omega
            · have HS := Lib.hid ((split_here q k hlt HC.out h1 h2).symm.trans HA.out)
              rw [h1] at N1
              rw [h2] at N2
              clear h1 h2
              go_wp2_with (fail)
              refine (N1.out _).mono ?_
              rintro e w2 ⟨rfl, hb2⟩
              have hB := below_cat hb hb2
              clear hb2
              go_wp2_with (fail)
              refine (N2.out _).mono ?_
              rintro e w3 ⟨rfl, hb3⟩
              have hB3 := below_cat hB hb3
              clear hb3
              have hw : IntKind.i64.wrap ((k : Int) + 1) = (k : Int) + 1 := IntWalk.i64_in _ (by omega)
              have hw2 : ((k : Int) + 1).toNat = k + 1 := by omega
              have c1 : (0 : Int) ≤ (k : Int) := by omega
              have c2 : (k : Int) ≤ (q.size : Int) := by omega
              have c3 : (0 : Int) ≤ (k : Int) + 1 := by omega
              have c4 : (k : Int) + 1 ≤ (q.size : Int) := by omega
              go_wp2_with (fail)
              go_region
              go_wp2_with (fail)
              go_ret3
              exact ⟨by rw [← HS.out]; rfl, hB3.drew⟩
        · have hc1 : ((q[k].toNat : Int) == 58) = false := by simp; omega
          have FN := Lib.hid (far_other q k hlt hc F.out)
          clear hc
          go_wp2_with (fail)
          go_roundw
          case rel =>
            go_light
            exact ⟨k + 1, by go_num, hb, by omega, FN.out⟩
          case measure => simp [intOf]; omega
      · have HE := Lib.hid ((far_end q k hlt F.out).symm.trans HA.out)
        go_wp2_with (fail)
        go_ret3
        exact ⟨by rw [← HE.out]; rfl, hb⟩
  · rw [hn] at N
    rw [splitF_name q hn]
    clear hn
    go_enter Tryz.func53, Tryz.ntmps53
    go_wp2_with (fail)
    refine (N.out _).mono ?_
    rintro e w1 ⟨rfl, hb1⟩
    go_wp2_with (fail)
    go_ret3
    exact ⟨rfl, hb1⟩
end Go.Proofs.YtidimpepfkdcmaaGreatDoor
namespace Go.Proofs.YtidimpepfkdcmaaGreatDoor
open Go.RowKit

theorem parts_fuelW (t : ByteArray) : ∀ f g k, k ≤ t.size → t.size ≤ k + f → t.size ≤ k + g → partsGo t f k = partsGo t g k
  | 0, g, k, hk, hf, hg => by
    have h : ¬ goesB t k := fun q => by have := q.1; omega
    rw [parts_stop h, parts_stop h]
  | f + 1, g, k, hk, hf, hg => by
    by_cases h : goesB t k
    · have hlt := h.1
      obtain ⟨g', rfl⟩ : ∃ g', g = g' + 1 := ⟨g - 1, by omega⟩
      have hn := next_step h.1 h.2.1
      rw [parts_step h, parts_step h]
      exact parts_fuelW t f g' _ hn.2 (by omega) (by omega)
    · rw [parts_stop h, parts_stop h]

theorem rdN_four {n a b c d : Nat} (h : 4 ≤ n) : rdN n a b c d = rdN 4 a b c d := by
  have e1 : (1 < n) = (1 < 4) := by rw [eq_iff_iff]; omega
  have e2 : (2 < n) = (2 < 4) := by rw [eq_iff_iff]; omega
  have e3 : (3 < n) = (3 < 4) := by rw [eq_iff_iff]; omega
  unfold rdN Lib.decodeN
  simp only [e1, e2, e3]
theorem ext_get (t : ByteArray) (j m i : Nat) (hi : j + i < m) (hm : m ≤ t.size) : (t.extract j m).get! i = t.get! (j + i) := by
  have h1 : i < (t.extract j m).size := by simp; omega
  have e1 : (t.extract j m).get! i = (t.extract j m)[i] := by
    show (t.extract j m).data[i]! = _
    rw [getElem!_pos _ _ (by simpa using h1)]; rfl
  have e2 : t.get! (j + i) = t[j + i] := by
    show t.data[j + i]! = _
    rw [getElem!_pos _ _ (by show j + i < t.size; omega)]; rfl
  rw [e1, e2, ByteArray.getElem_extract]
/-- What is read of four bytes is what is read there. -/
theorem rd_window {t : ByteArray} {j m : Nat} (hj : j < t.size) (hm : m = min t.size (j + 4)) : rd (t.extract j m) 0 = rd t j := by
  by_cases h : t.size ≤ j + 4
  · have e : m = t.size := by omega
    subst e
    have hz : (t.extract j t.size).size = t.size - j := by simp
    unfold rd
    rw [hz, get!_extract _ _ _ (by omega), get!_extract _ _ _ (by omega), get!_extract _ _ _ (by omega), get!_extract _ _ _ (by omega)]
    rfl
  · have e : m = j + 4 := by omega
    subst e
    have hz : (t.extract j (j + 4)).size = 4 := by simp; omega
    unfold rd
    rw [hz, ext_get _ _ _ _ (by omega) (by omega), ext_get _ _ _ _ (by omega) (by omega), ext_get _ _ _ _ (by omega) (by omega), ext_get _ _ _ _ (by omega) (by omega), rdN_four (n := t.size - j) (by omega)]
    rfl
theorem part_char {c : Nat} (h : c = 58 ∨ partB (c : Int) = true) : charB (c : Int) = true := by
  unfold charB
  rw [decide_eq_true_eq]
  rcases h with h | h
  · omega
  · unfold partB startB at h
    simp only [Bool.or_eq_true, decide_eq_true_eq] at h
    omega
theorem goes_iff (t : ByteArray) (j : Nat) : goesB t j ↔ j < t.size ∧ (rd t j).2 ≠ 0 ∧ ((rd t j).1 = 58 ∨ partB ((rd t j).1 : Int) = true) := by
  unfold goesB nextF
  by_cases h : (rd t j).2 = 0
  · rw [if_pos h]
    constructor
    · rintro ⟨_, h2, _⟩
      cases h2
    · rintro ⟨_, h2, _⟩
      exact absurd h h2
  · rw [if_neg h]
    cases hc : charB ((rd t j).1 : Int)
    · constructor
      · rintro ⟨_, h2, _⟩
        cases h2
      · rintro ⟨_, _, h3⟩
        rw [part_char h3] at hc
        cases hc
    · constructor
      · rintro ⟨h1, _, h3⟩
        exact ⟨h1, h, h3⟩
      · rintro ⟨h1, _, h3⟩
        exact ⟨h1, rfl, h3⟩
theorem goes_next {t : ByteArray} {j : Nat} (h : goesB t j) : (nextF t j).2.1 = j + (rd t j).2 := by
  obtain ⟨_, h2, h3⟩ := (goes_iff t j).1 h
  unfold nextF
  rw [if_neg h2, if_pos (part_char h3)]
/-- The window that the document reads at a place: its conversion, and what is read of it. -/
theorem window (t : ByteArray) (j : Nat) (w : World) (_ht : t.size ≤ 4000000) (hj : j < t.size) : ∃ (m : Nat) (x : ByteArray) (cap : Nat) (W : World),
    min (t.size : Int) ((j : Int) + 4) = (m : Int) ∧ t.extract j m = x ∧ j < m ∧ m ≤ t.size ∧
    (convert 9 22 (.string x)).run Tryz.prog w = .ok (.slice (some ⟨w.heap.size, 0, none⟩) x.size cap) W ∧ Below w.heap.size w W ∧
    Calls Tryz.prog 25 #[.slice (some ⟨w.heap.size, 0, none⟩) x.size cap, .int .i64 0] W fun e w' => e = .returned (.tuple #[.int .i64 ((rd t j).1 : Int), .int .i64 ((rd t j).2 : Int)]) ∧ W = w' := by
  obtain ⟨cap, W, h1, h2, h3, _, h5⟩ := bytes_of w (t.extract j (min t.size (j + 4)))
  have hz : (t.extract j (min t.size (j + 4))).size = min t.size (j + 4) - j := by first | (simp; done) | (simp; omega)
  have hr := refRead (t.extract j (min t.size (j + 4))) w.heap.size 0 cap 0 W (by omega) (by omega) h5
  rw [rd_window hj rfl] at hr
  exact ⟨min t.size (j + 4), _, cap, W, by omega, rfl, by omega, by omega, h1, h3, hr⟩
/-- What written answers. -/
def WrPost (w : World) (r : Except Nat (ByteArray × Nat)) (e : Ending) (w' : World) : Prop := (match r with
  | .ok (n, i) => e = .returned (.tuple #[.string n, .int .i64 (i : Int), .int .i64 0])
  | .error e0 => e = .returned (.tuple #[.string ⟨#[]⟩, .int .i64 0, .int .i64 (e0 : Int)])) ∧ Below w.heap.size w w'
theorem parts_next {t : ByteArray} {j E : Nat} (h : goesB t j) (hE : partsGo t t.size j = E) : partsGo t t.size (j + (rd t j).2) = E ∧ j + (rd t j).2 ≤ t.size := by
  have hn := next_step h.1 h.2.1
  rw [goes_next h] at hn
  obtain ⟨f, hf⟩ : ∃ f, t.size = f + 1 := ⟨t.size - 1, by have := h.1; omega⟩
  have h2 := hE
  rw [hf, parts_step h, goes_next h] at h2
  exact ⟨(parts_fuelW t t.size f _ hn.2 (by omega) (by omega)).trans h2, hn.2⟩
set_option maxRecDepth 100000 in
set_option maxHeartbeats 4000000 in
theorem written_a (t : ByteArray) (k : Nat) (w : World) (ht : t.size ≤ 4000000) (hk : k ≤ t.size) (hg : ¬ (goesB t k ∧ ((rd t k).1 = 58 ∨ startB ((rd t k).1 : Int) = true))) :
    Calls Tryz.prog 32 #[.string t, .int .i64 (k : Int)] w fun e w' => e = .returned (.tuple #[.string ⟨#[]⟩, .int .i64 0, .int .i64 23]) ∧ Below w.heap.size w w' := by
  by_cases hlt : k < t.size
  · obtain ⟨m, x, cap, W, hm, hx, hm1, hm2, hcv, hb, R⟩ := window t k w ht hlt
    have RH := Lib.hid R
    have HB := Lib.hid hb
    have hng : ¬ ((rd t k).2 ≠ 0 ∧ ((rd t k).1 = 58 ∨ (partB ((rd t k).1 : Int) = true ∧ startB ((rd t k).1 : Int) = true))) := by
      rintro ⟨q1, q2⟩
      exact hg ⟨(goes_iff t k).2 ⟨hlt, q1, q2.imp id And.left⟩, q2.imp id And.right⟩
    obtain ⟨c, hc⟩ : ∃ c, (rd t k).1 = c := ⟨_, rfl⟩
    obtain ⟨n, hn⟩ : ∃ n, (rd t k).2 = n := ⟨_, rfl⟩
    rw [hc, hn] at RH hng
    have g1 : (k : Int) < (t.size : Int) := by omega
    have g2 : (k : Int) ≤ (m : Int) := by omega
    have g3 : (m : Int) ≤ (t.size : Int) := by omega
    have P := Lib.hid (fun W => refPart (c : Int) W)
    have S := Lib.hid (fun W => refStart (c : Int) W)
    by_cases hn0 : n = 0
    · have b0 : ((n : Int) == 0) = true := by rw [beq_iff_eq]; omega
      clear hg hng hc hn hn0 R hb hk hlt hm1 hm2
      go_enter Tryz.func32, Tryz.ntmps32
      go_wp2_with (fail)
      go_loopw [7] (fun v wr => v = .int .i64 (k : Int) ∧ wr = w) (fun _ _ => 0)
      case atStart => exact ⟨rfl, rfl⟩
      case round =>
        obtain ⟨rfl, rfl⟩ := hrel
        go_wp2_with (fail)
        refine RH.out.mono ?_
        rintro e w' ⟨rfl, rfl⟩
        go_wp2_with (fail)
        go_ret3
        exact ⟨rfl, HB.out⟩
    · have b0 : ((n : Int) == 0) = false := by rw [beq_eq_false_iff_ne]; omega
      have b0n : ¬ (n : Int) = 0 := by omega
      have hc58 : ¬ c = 58 := fun q => hng ⟨hn0, .inl q⟩
      have b1 : ((c : Int) == 58) = false := by rw [beq_eq_false_iff_ne]; omega
      have b1n : ((c : Int) != 58) = true := by rw [bne_iff_ne]; omega
      have b2n : ¬ (c : Int) = 58 := by omega
      cases hp : partB (c : Int)
      · rw [hp] at P
        clear hg hng hc hn hn0 R hb hk hlt hm1 hm2 hp hc58
        go_enter Tryz.func32, Tryz.ntmps32
        go_wp2_with (fail)
        go_loopw [7] (fun v wr => v = .int .i64 (k : Int) ∧ wr = w) (fun _ _ => 0)
        case atStart => exact ⟨rfl, rfl⟩
        case round =>
          obtain ⟨rfl, rfl⟩ := hrel
          go_wp2_with (fail)
          refine RH.out.mono ?_
          rintro e w' ⟨rfl, rfl⟩
          go_wp2_with (fail)
          refine (P.out _).mono ?_
          rintro e w' ⟨rfl, rfl⟩
          go_wp2_with (fail)
          go_ret3
          exact ⟨rfl, HB.out⟩
      · have hst : startB (c : Int) = false := by
          rw [← Bool.not_eq_true]
          exact fun q => hng ⟨hn0, .inr ⟨hp, q⟩⟩
        rw [hp] at P
        rw [hst] at S
        clear hg hng hc hn hn0 R hb hk hlt hm1 hm2 hp hc58 hst
        go_enter Tryz.func32, Tryz.ntmps32
        go_wp2_with (fail)
        go_loopw [7] (fun v wr => v = .int .i64 (k : Int) ∧ wr = w) (fun _ _ => 0)
        case atStart => exact ⟨rfl, rfl⟩
        case round =>
          obtain ⟨rfl, rfl⟩ := hrel
          go_wp2_with (fail)
          refine RH.out.mono ?_
          rintro e w' ⟨rfl, rfl⟩
          go_wp2_with (fail)
          refine (P.out _).mono ?_
          rintro e w' ⟨rfl, rfl⟩
          go_wp2_with (fail)
          refine (S.out _).mono ?_
          rintro e w' ⟨rfl, rfl⟩
          go_wp2_with (fail)
          go_ret3
          exact ⟨rfl, HB.out⟩
  · have g1 : ¬ (k : Int) < (t.size : Int) := by omega
    clear hg hlt hk
    go_enter Tryz.func32, Tryz.ntmps32
    go_wp2_with (fail)
    go_loopw [7] (fun v wr => v = .int .i64 (k : Int) ∧ wr = w) (fun _ _ => 0)
    case atStart => exact ⟨rfl, rfl⟩
    case round =>
      obtain ⟨rfl, rfl⟩ := hrel
      go_wp2_with (fail)
      go_ret3
      exact ⟨rfl, Below.refl _ _⟩
set_option maxRecDepth 100000 in
set_option maxHeartbeats 4000000 in
theorem written_c (t q : ByteArray) (k E : Nat) (w : World) (ht : t.size ≤ 4000000) (_hk : k < t.size) (h0 : goesB t k) (hst : (rd t k).1 = 58 ∨ startB ((rd t k).1 : Int) = true) (hE : partsGo t t.size k = E) (hkE : k < E) (hEz : E ≤ t.size) (hq : t.extract k E = q) (hsp : (splitF q).2.2 = true) :
    Calls Tryz.prog 32 #[.string t, .int .i64 (k : Int)] w fun e w' => e = .returned (.tuple #[.string q, .int .i64 (E : Int), .int .i64 0]) ∧ Below w.heap.size w w' := by
  have hqz : q.size ≤ 140737488355328 := by
    rw [← hq]
    simp
    omega
  have SP := Lib.hid (fun W => refSplit_any q W hqz)
  rw [hsp] at SP
  have HST := Lib.hid hst
  have HH := Lib.hid (And.intro h0 hE)
  have e1 : (k : Int) < (E : Int) := by omega
  have e2 : (E : Int) ≤ (t.size : Int) := by omega
  have e3 : ((E : Int) == (k : Int)) = false := by rw [beq_eq_false_iff_ne]; omega
  have e4 : ¬ (E : Int) = (k : Int) := by omega
  have e5 : (k : Int) ≤ (E : Int) := by omega
  have HEZ := Lib.hid (And.intro hkE hEz)
  clear hqz hsp hst h0 hE hkE hEz _hk
  go_enter Tryz.func32, Tryz.ntmps32
  go_wp2_with (fail)
  go_loopw [7] (fun v wr => ∃ j : Nat, v = .int .i64 (j : Int) ∧ Hid (k ≤ j ∧ j ≤ t.size ∧ partsGo t t.size j = E) ∧ Below w.heap.size w wr) (fun v _ => t.size - (intOf v).toNat)
  case atStart => exact ⟨k, rfl, Lib.hid ⟨Nat.le_refl _, by have := HEZ.out; omega, HH.out.2⟩, Below.refl _ _⟩
  case round =>
    obtain ⟨j, rfl, HJ, hbr⟩ := hrel
    have HBR := Lib.hid hbr
    clear hbr
    by_cases hlt : j < t.size
    · have g1 : (j : Int) < (t.size : Int) := by omega
      obtain ⟨m, x, cap, W, hm, hx, hm1, hm2, hcv, hb, R⟩ := window t j wr ht hlt
      have RH := Lib.hid R
      have HB := Lib.hid (below_cat HBR.out hb)
      have hgi := goes_iff t j
      have HPN := Lib.hid (fun h => parts_next (E := E) h HJ.out.2.2)
      have hsj : j = k → (rd t j).1 = 58 ∨ startB ((rd t j).1 : Int) = true := by
        intro e
        rw [e]
        exact HST.out
      have hrl := rd_le t j hlt
      obtain ⟨c, hc⟩ : ∃ c, (rd t j).1 = c := ⟨_, rfl⟩
      obtain ⟨n, hn⟩ : ∃ n, (rd t j).2 = n := ⟨_, rfl⟩
      rw [hc, hn] at RH hgi
      rw [hc] at hsj
      rw [hn] at HPN hrl
      have g2 : (j : Int) ≤ (m : Int) := by omega
      have g3 : (m : Int) ≤ (t.size : Int) := by omega
      have P := Lib.hid (fun W => refPart (c : Int) W)
      have S := Lib.hid (fun W => refStart (c : Int) W)
      clear hc hn R hb hm1 hm2
      by_cases hg : goesB t j
      · obtain ⟨_, hn0, hcp⟩ := hgi.1 hg
        have HN := Lib.hid (HPN.out hg)
        have b0 : ((n : Int) == 0) = false := by rw [beq_eq_false_iff_ne]; omega
        have b0n : ¬ (n : Int) = 0 := by omega
        have hjn : (j : Int) + (n : Int) ≤ 4000000 := by omega
        have HNZ := Lib.hid hn0
        by_cases hc58 : c = 58
        · have b1 : ((c : Int) == 58) = true := by rw [beq_iff_eq]; omega
          have b1n : ((c : Int) != 58) = false := by rw [bne_eq_false_iff_eq]; omega
          have b2 : (c : Int) = 58 := by omega
          by_cases hjk : j = k
          · have d1 : ((j : Int) == (k : Int)) = true := by rw [beq_iff_eq]; omega
            clear hgi hcp hsj hg hn0 hc58 hjk b2 hlt hrl
            go_wp2_with (fail)
            refine RH.out.mono ?_
            rintro e w' ⟨rfl, rfl⟩
            go_wp2_with (fail)
            go_roundw
            case rel =>
              go_light
              exact ⟨j + n, by go_num, Lib.hid ⟨by have := HJ.out; omega, HN.out.2, HN.out.1⟩, HB.out⟩
            case measure => simp [intOf]; have := HNZ.out; omega
          · have d1 : ((j : Int) == (k : Int)) = false := by rw [beq_eq_false_iff_ne]; omega
            have d2 : ¬ (j : Int) = (k : Int) := by omega
            clear hgi hcp hsj hg hn0 hc58 hjk b2 hlt hrl
            go_wp2_with (fail)
            refine RH.out.mono ?_
            rintro e w' ⟨rfl, rfl⟩
            go_wp2_with (fail)
            go_roundw
            case rel =>
              go_light
              exact ⟨j + n, by go_num, Lib.hid ⟨by have := HJ.out; omega, HN.out.2, HN.out.1⟩, HB.out⟩
            case measure => simp [intOf]; have := HNZ.out; omega
        · have b1 : ((c : Int) == 58) = false := by rw [beq_eq_false_iff_ne]; omega
          have b1n : ((c : Int) != 58) = true := by rw [bne_iff_ne]; omega
          have b2n : ¬ (c : Int) = 58 := by omega
          have hp : partB (c : Int) = true := by
            rcases hcp with q | q
            · exact absurd q hc58
            · exact q
          rw [hp] at P
          by_cases hjk : j = k
          · have d1 : ((j : Int) == (k : Int)) = true := by rw [beq_iff_eq]; omega
            have hss : startB (c : Int) = true := by
              rcases hsj hjk with q | q
              · exact absurd q hc58
              · exact q
            rw [hss] at S
            clear hgi hcp hsj hg hn0 hc58 hjk hp hss hlt hrl
            go_wp2_with (fail)
            refine RH.out.mono ?_
            rintro e w' ⟨rfl, rfl⟩
            go_wp2_with (fail)
            refine (P.out _).mono ?_
            rintro e w' ⟨rfl, rfl⟩
            go_wp2_with (fail)
            refine (S.out _).mono ?_
            rintro e w' ⟨rfl, rfl⟩
            go_wp2_with (fail)
            go_roundw
            case rel =>
              go_light
              exact ⟨j + n, by go_num, Lib.hid ⟨by have := HJ.out; omega, HN.out.2, HN.out.1⟩, HB.out⟩
            case measure => simp [intOf]; have := HNZ.out; omega
          · have d1 : ((j : Int) == (k : Int)) = false := by rw [beq_eq_false_iff_ne]; omega
            have d2 : ¬ (j : Int) = (k : Int) := by omega
            clear hgi hcp hsj hg hn0 hc58 hjk hp hlt hrl
            go_wp2_with (fail)
            refine RH.out.mono ?_
            rintro e w' ⟨rfl, rfl⟩
            go_wp2_with (fail)
            refine (P.out _).mono ?_
            rintro e w' ⟨rfl, rfl⟩
            go_wp2_with (fail)
            go_roundw
            case rel =>
              go_light
              exact ⟨j + n, by go_num, Lib.hid ⟨by have := HJ.out; omega, HN.out.2, HN.out.1⟩, HB.out⟩
            case measure => simp [intOf]; have := HNZ.out; omega
      · have hjE : j = E := by
          have := HJ.out.2.2
          rw [parts_stop hg] at this
          exact this
        subst hjE
        by_cases hn0 : n = 0
        · have b0 : ((n : Int) == 0) = true := by rw [beq_iff_eq]; omega
          clear hgi hsj hg hn0 hlt hrl
          go_wp2_with (fail)
          refine RH.out.mono ?_
          rintro e w' ⟨rfl, rfl⟩
          go_wp2_with (fail)
          refine (SP.out _).mono ?_
          rintro e w9 ⟨rfl, hb9⟩
          go_wp2_with (fail)
          go_ret3
          exact ⟨rfl, below_cat (HB.out) hb9⟩
        · have b0 : ((n : Int) == 0) = false := by rw [beq_eq_false_iff_ne]; omega
          have b0n : ¬ (n : Int) = 0 := by omega
          have hno := fun q => hg (hgi.2 ⟨hlt, hn0, q⟩)
          have b1 : ((c : Int) == 58) = false := by rw [beq_eq_false_iff_ne]; intro q; exact hno (.inl (by omega))
          have b1n : ((c : Int) != 58) = true := by rw [bne, b1]; rfl
          have b2n : ¬ (c : Int) = 58 := by intro q; exact hno (.inl (by omega))
          have hp : partB (c : Int) = false := by
            rw [← Bool.not_eq_true]
            exact fun q => hno (.inr q)
          rw [hp] at P
          clear hgi hsj hg hn0 hlt hrl hno hp
          go_wp2_with (fail)
          refine RH.out.mono ?_
          rintro e w' ⟨rfl, rfl⟩
          go_wp2_with (fail)
          refine (P.out _).mono ?_
          rintro e w' ⟨rfl, rfl⟩
          go_wp2_with (fail)
          refine (SP.out _).mono ?_
          rintro e w9 ⟨rfl, hb9⟩
          go_wp2_with (fail)
          go_ret3
          exact ⟨rfl, below_cat (HB.out) hb9⟩
    · have hjE : j = E := by
        have := HJ.out.2.2
        rw [parts_stop (fun q => hlt q.1)] at this
        exact this
      subst hjE
      have g1 : ¬ (j : Int) < (t.size : Int) := by omega
      clear hlt
      go_wp2_with (fail)
      refine (SP.out _).mono ?_
      rintro e w9 ⟨rfl, hb9⟩
      go_wp2_with (fail)
      go_ret3
      exact ⟨rfl, below_cat (HBR.out) hb9⟩
set_option maxRecDepth 100000 in
set_option maxHeartbeats 4000000 in
theorem written_d (t q : ByteArray) (k E : Nat) (w : World) (ht : t.size ≤ 4000000) (_hk : k < t.size) (h0 : goesB t k) (hst : (rd t k).1 = 58 ∨ startB ((rd t k).1 : Int) = true) (hE : partsGo t t.size k = E) (hkE : k < E) (hEz : E ≤ t.size) (hq : t.extract k E = q) (hsp : (splitF q).2.2 = false) :
    Calls Tryz.prog 32 #[.string t, .int .i64 (k : Int)] w fun e w' => e = .returned (.tuple #[.string ⟨#[]⟩, .int .i64 0, .int .i64 24]) ∧ Below w.heap.size w w' := by
  have hqz : q.size ≤ 140737488355328 := by
    rw [← hq]
    simp
    omega
  have SP := Lib.hid (fun W => refSplit_any q W hqz)
  rw [hsp] at SP
  have HST := Lib.hid hst
  have HH := Lib.hid (And.intro h0 hE)
  have e1 : (k : Int) < (E : Int) := by omega
  have e2 : (E : Int) ≤ (t.size : Int) := by omega
  have e3 : ((E : Int) == (k : Int)) = false := by rw [beq_eq_false_iff_ne]; omega
  have e4 : ¬ (E : Int) = (k : Int) := by omega
  have e5 : (k : Int) ≤ (E : Int) := by omega
  have HEZ := Lib.hid (And.intro hkE hEz)
  clear hqz hsp hst h0 hE hkE hEz _hk
  go_enter Tryz.func32, Tryz.ntmps32
  go_wp2_with (fail)
  go_loopw [7] (fun v wr => ∃ j : Nat, v = .int .i64 (j : Int) ∧ Hid (k ≤ j ∧ j ≤ t.size ∧ partsGo t t.size j = E) ∧ Below w.heap.size w wr) (fun v _ => t.size - (intOf v).toNat)
  case atStart => exact ⟨k, rfl, Lib.hid ⟨Nat.le_refl _, by have := HEZ.out; omega, HH.out.2⟩, Below.refl _ _⟩
  case round =>
    obtain ⟨j, rfl, HJ, hbr⟩ := hrel
    have HBR := Lib.hid hbr
    clear hbr
    by_cases hlt : j < t.size
    · have g1 : (j : Int) < (t.size : Int) := by omega
      obtain ⟨m, x, cap, W, hm, hx, hm1, hm2, hcv, hb, R⟩ := window t j wr ht hlt
      have RH := Lib.hid R
      have HB := Lib.hid (below_cat HBR.out hb)
      have hgi := goes_iff t j
      have HPN := Lib.hid (fun h => parts_next (E := E) h HJ.out.2.2)
      have hsj : j = k → (rd t j).1 = 58 ∨ startB ((rd t j).1 : Int) = true := by
        intro e
        rw [e]
        exact HST.out
      have hrl := rd_le t j hlt
      obtain ⟨c, hc⟩ : ∃ c, (rd t j).1 = c := ⟨_, rfl⟩
      obtain ⟨n, hn⟩ : ∃ n, (rd t j).2 = n := ⟨_, rfl⟩
      rw [hc, hn] at RH hgi
      rw [hc] at hsj
      rw [hn] at HPN hrl
      have g2 : (j : Int) ≤ (m : Int) := by omega
      have g3 : (m : Int) ≤ (t.size : Int) := by omega
      have P := Lib.hid (fun W => refPart (c : Int) W)
      have S := Lib.hid (fun W => refStart (c : Int) W)
      clear hc hn R hb hm1 hm2
      by_cases hg : goesB t j
      · obtain ⟨_, hn0, hcp⟩ := hgi.1 hg
        have HN := Lib.hid (HPN.out hg)
        have b0 : ((n : Int) == 0) = false := by rw [beq_eq_false_iff_ne]; omega
        have b0n : ¬ (n : Int) = 0 := by omega
        have hjn : (j : Int) + (n : Int) ≤ 4000000 := by omega
        have HNZ := Lib.hid hn0
        by_cases hc58 : c = 58
        · have b1 : ((c : Int) == 58) = true := by rw [beq_iff_eq]; omega
          have b1n : ((c : Int) != 58) = false := by rw [bne_eq_false_iff_eq]; omega
          have b2 : (c : Int) = 58 := by omega
          by_cases hjk : j = k
          · have d1 : ((j : Int) == (k : Int)) = true := by rw [beq_iff_eq]; omega
            clear hgi hcp hsj hg hn0 hc58 hjk b2 hlt hrl
            go_wp2_with (fail)
            refine RH.out.mono ?_
            rintro e w' ⟨rfl, rfl⟩
            go_wp2_with (fail)
            go_roundw
            case rel =>
              go_light
              exact ⟨j + n, by go_num, Lib.hid ⟨by have := HJ.out; omega, HN.out.2, HN.out.1⟩, HB.out⟩
            case measure => simp [intOf]; have := HNZ.out; omega
          · have d1 : ((j : Int) == (k : Int)) = false := by rw [beq_eq_false_iff_ne]; omega
            have d2 : ¬ (j : Int) = (k : Int) := by omega
            clear hgi hcp hsj hg hn0 hc58 hjk b2 hlt hrl
            go_wp2_with (fail)
            refine RH.out.mono ?_
            rintro e w' ⟨rfl, rfl⟩
            go_wp2_with (fail)
            go_roundw
            case rel =>
              go_light
              exact ⟨j + n, by go_num, Lib.hid ⟨by have := HJ.out; omega, HN.out.2, HN.out.1⟩, HB.out⟩
            case measure => simp [intOf]; have := HNZ.out; omega
        · have b1 : ((c : Int) == 58) = false := by rw [beq_eq_false_iff_ne]; omega
          have b1n : ((c : Int) != 58) = true := by rw [bne_iff_ne]; omega
          have b2n : ¬ (c : Int) = 58 := by omega
          have hp : partB (c : Int) = true := by
            rcases hcp with q | q
            · exact absurd q hc58
            · exact q
          rw [hp] at P
          by_cases hjk : j = k
          · have d1 : ((j : Int) == (k : Int)) = true := by rw [beq_iff_eq]; omega
            have hss : startB (c : Int) = true := by
              rcases hsj hjk with q | q
              · exact absurd q hc58
              · exact q
            rw [hss] at S
            clear hgi hcp hsj hg hn0 hc58 hjk hp hss hlt hrl
            go_wp2_with (fail)
            refine RH.out.mono ?_
            rintro e w' ⟨rfl, rfl⟩
            go_wp2_with (fail)
            refine (P.out _).mono ?_
            rintro e w' ⟨rfl, rfl⟩
            go_wp2_with (fail)
            refine (S.out _).mono ?_
            rintro e w' ⟨rfl, rfl⟩
            go_wp2_with (fail)
            go_roundw
            case rel =>
              go_light
              exact ⟨j + n, by go_num, Lib.hid ⟨by have := HJ.out; omega, HN.out.2, HN.out.1⟩, HB.out⟩
            case measure => simp [intOf]; have := HNZ.out; omega
          · have d1 : ((j : Int) == (k : Int)) = false := by rw [beq_eq_false_iff_ne]; omega
            have d2 : ¬ (j : Int) = (k : Int) := by omega
            clear hgi hcp hsj hg hn0 hc58 hjk hp hlt hrl
            go_wp2_with (fail)
            refine RH.out.mono ?_
            rintro e w' ⟨rfl, rfl⟩
            go_wp2_with (fail)
            refine (P.out _).mono ?_
            rintro e w' ⟨rfl, rfl⟩
            go_wp2_with (fail)
            go_roundw
            case rel =>
              go_light
              exact ⟨j + n, by go_num, Lib.hid ⟨by have := HJ.out; omega, HN.out.2, HN.out.1⟩, HB.out⟩
            case measure => simp [intOf]; have := HNZ.out; omega
      · have hjE : j = E := by
          have := HJ.out.2.2
          rw [parts_stop hg] at this
          exact this
        subst hjE
        by_cases hn0 : n = 0
        · have b0 : ((n : Int) == 0) = true := by rw [beq_iff_eq]; omega
          clear hgi hsj hg hn0 hlt hrl
          go_wp2_with (fail)
          refine RH.out.mono ?_
          rintro e w' ⟨rfl, rfl⟩
          go_wp2_with (fail)
          refine (SP.out _).mono ?_
          rintro e w9 ⟨rfl, hb9⟩
          go_wp2_with (fail)
          go_ret3
          exact ⟨rfl, below_cat (HB.out) hb9⟩
        · have b0 : ((n : Int) == 0) = false := by rw [beq_eq_false_iff_ne]; omega
          have b0n : ¬ (n : Int) = 0 := by omega
          have hno := fun q => hg (hgi.2 ⟨hlt, hn0, q⟩)
          have b1 : ((c : Int) == 58) = false := by rw [beq_eq_false_iff_ne]; intro q; exact hno (.inl (by omega))
          have b1n : ((c : Int) != 58) = true := by rw [bne, b1]; rfl
          have b2n : ¬ (c : Int) = 58 := by intro q; exact hno (.inl (by omega))
          have hp : partB (c : Int) = false := by
            rw [← Bool.not_eq_true]
            exact fun q => hno (.inr q)
          rw [hp] at P
          clear hgi hsj hg hn0 hlt hrl hno hp
          go_wp2_with (fail)
          refine RH.out.mono ?_
          rintro e w' ⟨rfl, rfl⟩
          go_wp2_with (fail)
          refine (P.out _).mono ?_
          rintro e w' ⟨rfl, rfl⟩
          go_wp2_with (fail)
          refine (SP.out _).mono ?_
          rintro e w9 ⟨rfl, hb9⟩
          go_wp2_with (fail)
          go_ret3
          exact ⟨rfl, below_cat (HB.out) hb9⟩
    · have hjE : j = E := by
        have := HJ.out.2.2
        rw [parts_stop (fun q => hlt q.1)] at this
        exact this
      subst hjE
      have g1 : ¬ (j : Int) < (t.size : Int) := by omega
      clear hlt
      go_wp2_with (fail)
      refine (SP.out _).mono ?_
      rintro e w9 ⟨rfl, hb9⟩
      go_wp2_with (fail)
      go_ret3
      exact ⟨rfl, below_cat (HBR.out) hb9⟩
theorem refWritten_any (t : ByteArray) (k : Nat) (w : World) (ht : t.size ≤ 4000000) (hk : k ≤ t.size) :
    Calls Tryz.prog 32 #[.string t, .int .i64 (k : Int)] w (WrPost w (qualF t k)) := by
  by_cases hg : goesB t k ∧ ((rd t k).1 = 58 ∨ startB ((rd t k).1 : Int) = true)
  · obtain ⟨h0, hst⟩ := hg
    have hn1 : (nextF t k).1 = (rd t k).1 := by
      obtain ⟨_, h2, h3⟩ := (goes_iff t k).1 h0
      unfold nextF
      rw [if_neg h2, if_pos (part_char h3)]
    have hname : nameF t k = .ok (t.extract k (partsGo t t.size k), partsGo t t.size k) := by
      unfold nameF
      rw [if_pos ⟨h0.1, h0.2.1, by rw [hn1]; exact hst⟩]
    obtain ⟨a1, a2, _⟩ := name_ok hname
    cases hs : (splitF (t.extract k (partsGo t t.size k))).2.2
    · have hqf : qualF t k = .error 24 := by unfold qualF; rw [hname]; simp [hs]
      rw [hqf]
      exact written_d t _ k _ w ht h0.1 h0 hst rfl a1 a2 rfl hs
    · have hqf : qualF t k = .ok (t.extract k (partsGo t t.size k), partsGo t t.size k) := by unfold qualF; rw [hname]; simp [hs]
      rw [hqf]
      exact written_c t _ k _ w ht h0.1 h0 hst rfl a1 a2 rfl hs
  · have hqf : qualF t k = .error 23 := by
      unfold qualF nameF
      rw [if_neg]
      rintro ⟨q1, q2, q3⟩
      have hgo : goesB t k := ⟨q1, q2, q3.imp id start_part⟩
      have hn1 : (nextF t k).1 = (rd t k).1 := by
        obtain ⟨_, h2, h3⟩ := (goes_iff t k).1 hgo
        unfold nextF
        rw [if_neg h2, if_pos (part_char h3)]
      rw [hn1] at q3
      exact hg ⟨hgo, q3⟩
    rw [hqf]
    exact written_a t k w ht hk hg
end Go.Proofs.YtidimpepfkdcmaaGreatDoor
