/- Proved here: the law ReferBack answers true at every string of at most 2^20 bytes, in every world that holds the library's two tables and refer's table of names; what was there stays. -/
import Derived.Test.YtdomhjjoijkeaaaDoorAwake2
import Derived.Test.YtdomhjjoijkeaaaDoorQuote
import Derived.Test.YtdomhjjoijkeaaaDoorReadValue
import Derived.Test.YtdomhjjoijkeaaaDoorBackGo
import Derived.Test.YtdomhjjoijkeaaaDoorFault
namespace Go.Proofs.YtdomhjjoijkeaaaDoor
open Go.RowKit

theorem written_size {esc : Int → ByteArray} (h6 : ∀ c, (esc c).size ≤ 6) : ∀ l : List UInt8, (writtenL esc l).length ≤ 6 * l.length
  | [] => by simp [writtenL]
  | x :: l => by
    have := written_size h6 l
    have h := h6 x.toNat
    rw [written_cons]
    unfold oneL
    split
    · simp; omega
    · have e : (esc x.toNat).data.toList.length = (esc x.toNat).size := by simp
      simp only [List.length_append, e, List.length_cons]
      omega
theorem writtenB_size {esc : Int → ByteArray} (h6 : ∀ c, (esc c).size ≤ 6) (s : ByteArray) : (writtenB esc s).size ≤ 6 * s.size := by
  have := written_size h6 s.data.toList
  have e : s.data.toList.length = s.size := by simp
  rw [e] at this
  show (writtenL esc s.data.toList).toArray.size ≤ 6 * s.size
  rw [List.size_toArray]
  exact this
theorem holdsB_of {W : World} {b : Nat} {s : ByteArray} (h : ∀ j, j < s.size → W.cell? ⟨b, 0 + j, none⟩ = some (.int .u8 (s.get! j).toNat)) : HoldsB W (some ⟨b, 0, none⟩) s := fun _ => ⟨b, 0, rfl, h⟩
theorem back_ok {f : Nat} {s : ByteArray} {r : List UInt8 × Nat × Int} (h : BackIs f s.data.toList [] r) (h0 : f = 0) : ∃ p, r = (s.data.toList, p, 0) := by
  obtain ⟨a, b⟩ := h.1 h0
  obtain ⟨x, y, z⟩ := r
  exact ⟨y, by simp only at a b; rw [a, b]; rfl⟩
theorem back_bad {f : Nat} {s : ByteArray} {r : List UInt8 × Nat × Int} (h : BackIs f s.data.toList [] r) (h0 : f ≠ 0) : ∃ p, r = ([], p, (f : Int)) := by
  obtain ⟨a, b⟩ := h.2 h0
  obtain ⟨x, y, z⟩ := r
  exact ⟨y, by simp only at a b; rw [a, b]⟩
theorem bytes_id (s : ByteArray) : (⟨s.data.toList.toArray⟩ : ByteArray) = s := rfl

set_option maxHeartbeats 4000000 in
set_option maxRecDepth 100000 in
theorem referBack_walk (s : ByteArray) (w : World) (hT : Tabs w) (hN : NamedAt w) (hs : s.size ≤ 1048576) :
    Calls Tryd.prog 6 #[.string s] w fun e w' => e = .returned (.bool true) ∧ Below w.heap.size w w' := by
  have A := Lib.hid (awake2_any w hT hN)
  have HT := Lib.hid hT
  have HN := Lib.hid hN
  have zT := writtenB_size escT_size s
  have zV := writtenB_size escV_size s
  have BT := back_all escT_ok backT s
  have BV := back_all escV_ok backV s
  have FA := Lib.hid (fun g cap W (h : Below w.heap.size w W) (hc : s.size ≤ cap) (hh : HoldsB W (some ⟨g, 0, none⟩) s) => fault_any (some ⟨g, 0, none⟩) s cap W (HT.out.below h) (by omega) hc hh)
  have TA := Lib.hid (fun W => text_any s W (by omega))
  have QA := Lib.hid (fun W => quote_any s W (by omega))
  have RT := Lib.hid (fun g cap W (h : Below w.heap.size w W) (hc : (writtenB escT s).size ≤ cap) (hh : HoldsB W (some ⟨g, 0, none⟩) (writtenB escT s)) => text_read (some ⟨g, 0, none⟩) (writtenB escT s) cap W (by omega) hc (HT.out.below h) (HN.out.below h) hh)
  have RV := Lib.hid (fun g cap W (h : Below w.heap.size w W) (hc : (writtenB escV s).size ≤ cap) (hh : HoldsB W (some ⟨g, 0, none⟩) (writtenB escV s)) => value_read (some ⟨g, 0, none⟩) (writtenB escV s) cap W (by omega) hc (HT.out.below h) (HN.out.below h) hh)
  obtain ⟨⟨fp, fe⟩, hF⟩ : ∃ A, faultF s = A := ⟨_, rfl⟩
  rw [hF] at BT BV
  simp only [hF] at FA
  simp only at BT BV
  clear hF hT hN
  by_cases h0 : fe = 0
  · obtain ⟨tp, hTT⟩ := back_ok BT h0
    obtain ⟨vp, hVV⟩ := back_ok BV h0
    simp only [hTT, bytes_id] at RT
    simp only [hVV, bytes_id] at RV
    generalize writtenB escT s = t at *
    generalize writtenB escV s = q at *
    subst h0
    clear BT BV hTT hVV
    go_enter Tryd.func6, Tryd.ntmps6
    go_wp2_with (fail)
    refine A.out.mono ?_
    rintro e w1 ⟨rfl, hB1⟩
    obtain ⟨cap1, W1, hcv1, hcap1, hb1, hsz1, hp1⟩ := bytes_of w1 s
    go_wp2_with (fail)
    refine (FA.out w1.heap.size cap1 W1 (below_cat hB1 hb1) hcap1 (holdsB_of hp1)).mono ?_
    rintro e w2 ⟨rfl, hb2⟩
    have hB2 := below_cat (below_cat hB1 hb1) hb2
    clear hb1 hb2 hB1 hp1 hcv1 hcap1 hsz1
    go_wp2_with (fail)
    refine (TA.out _).mono ?_
    rintro e w3 ⟨rfl, hb3⟩
    have hB3 := below_cat hB2 hb3
    obtain ⟨cap2, W2, hcv2, hcap2, hb4, hsz2, hp2⟩ := bytes_of w3 t
    go_wp2_with (fail)
    refine (RT.out w3.heap.size cap2 W2 (below_cat hB3 hb4) hcap2 (holdsB_of hp2)).mono ?_
    rintro e w4 ⟨rfl, hb5⟩
    have hB4 := below_cat (below_cat hB3 hb4) hb5
    clear hB2 hB3 hb3 hb4 hb5 hcv2 hcap2 hsz2 hp2
    go_wp2_with (fail)
    refine (QA.out _).mono ?_
    rintro e w5 ⟨rfl, hb5⟩
    have hB5 := below_cat hB4 hb5
    obtain ⟨cap3, W3, hcv3, hcap3, hb6, hsz3, hp3⟩ := bytes_of w5 q
    go_wp2_with (fail)
    refine (RV.out w5.heap.size cap3 W3 (below_cat hB5 hb6) hcap3 (holdsB_of hp3)).mono ?_
    rintro e w6 ⟨rfl, hb7⟩
    have hB6 := below_cat (below_cat hB5 hb6) hb7
    clear hB4 hB5 hb5 hb6 hb7 hcv3 hcap3 hsz3 hp3
    go_wp2_with (fail)
    all_goals (go_ret; exact ⟨ret_bool (by simp), hB6⟩)
  · obtain ⟨tp, hTT⟩ := back_bad BT h0
    obtain ⟨vp, hVV⟩ := back_bad BV h0
    simp only [hTT] at RT
    simp only [hVV] at RV
    generalize writtenB escT s = t at *
    generalize writtenB escV s = q at *
    have hz : (((fe : Nat) : Int) == 0) = false := by rw [beq_eq_false_iff_ne]; omega
    clear BT BV hTT hVV h0
    go_enter Tryd.func6, Tryd.ntmps6
    go_wp2_with (fail)
    refine A.out.mono ?_
    rintro e w1 ⟨rfl, hB1⟩
    obtain ⟨cap1, W1, hcv1, hcap1, hb1, hsz1, hp1⟩ := bytes_of w1 s
    go_wp2_with (fail)
    refine (FA.out w1.heap.size cap1 W1 (below_cat hB1 hb1) hcap1 (holdsB_of hp1)).mono ?_
    rintro e w2 ⟨rfl, hb2⟩
    have hB2 := below_cat (below_cat hB1 hb1) hb2
    clear hb1 hb2 hB1 hp1 hcv1 hcap1 hsz1
    go_wp2_with (fail)
    refine (TA.out _).mono ?_
    rintro e w3 ⟨rfl, hb3⟩
    have hB3 := below_cat hB2 hb3
    obtain ⟨cap2, W2, hcv2, hcap2, hb4, hsz2, hp2⟩ := bytes_of w3 t
    go_wp2_with (fail)
    refine (RT.out w3.heap.size cap2 W2 (below_cat hB3 hb4) hcap2 (holdsB_of hp2)).mono ?_
    rintro e w4 ⟨rfl, hb5⟩
    have hB4 := below_cat (below_cat hB3 hb4) hb5
    clear hB2 hB3 hb3 hb4 hb5 hcv2 hcap2 hsz2 hp2
    go_wp2_with (fail)
    refine (QA.out _).mono ?_
    rintro e w5 ⟨rfl, hb5⟩
    have hB5 := below_cat hB4 hb5
    obtain ⟨cap3, W3, hcv3, hcap3, hb6, hsz3, hp3⟩ := bytes_of w5 q
    go_wp2_with (fail)
    refine (RV.out w5.heap.size cap3 W3 (below_cat hB5 hb6) hcap3 (holdsB_of hp3)).mono ?_
    rintro e w6 ⟨rfl, hb7⟩
    have hB6 := below_cat (below_cat hB5 hb6) hb7
    clear hB4 hB5 hb5 hb6 hb7 hcv3 hcap3 hsz3 hp3
    go_wp2_with (fail)
    all_goals (go_ret; exact ⟨ret_bool (by simp), hB6⟩)
end Go.Proofs.YtdomhjjoijkeaaaDoor
