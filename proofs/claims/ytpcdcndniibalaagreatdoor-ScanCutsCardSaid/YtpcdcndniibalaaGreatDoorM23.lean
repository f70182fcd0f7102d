/- Proved here: the document's Text answers the text of every slice of bytes. -/
import Derived.Test.YtpcdcndniibalaaGreatDoorM19
namespace Go.Proofs.YtpcdcndniibalaaGreatDoor
open Go.RowKit

theorem pre3_yes {s : ByteArray} (h : Lib.hasPrefix s.data.toList [239, 187, 191] = true) : 3 ≤ s.size ∧ s.get! 0 = 239 ∧ s.get! 1 = 187 ∧ s.get! 2 = 191 := by
  obtain ⟨r, hr⟩ := List.isPrefixOf_iff_prefix.1 h
  have hl := congrArg List.length hr
  simp only [List.length_append, List.length_cons, List.length_nil, Array.length_toList] at hl
  have hs : s.size = s.data.size := rfl
  have g : ∀ k, k < 3 → s.data.toList[k]? = ([239, 187, 191] : List UInt8)[k]? := by
    intro k hk
    rw [← hr, List.getElem?_append_left (by simpa using hk)]
  have h0 := get!_of s 0 (by omega)
  have h1 := get!_of s 1 (by omega)
  have h2 := get!_of s 2 (by omega)
  rw [g 0 (by omega)] at h0
  rw [g 1 (by omega)] at h1
  rw [g 2 (by omega)] at h2
  exact ⟨by omega, (Option.some.inj h0).symm, (Option.some.inj h1).symm, (Option.some.inj h2).symm⟩
theorem pre3_no {s : ByteArray} (h : Lib.hasPrefix s.data.toList [239, 187, 191] = false) (h3 : 3 ≤ s.size) : ¬ (s.get! 0 = 239 ∧ s.get! 1 = 187 ∧ s.get! 2 = 191) := by
  rintro ⟨a, b, c⟩
  have e : s.data.toList = 239 :: 187 :: 191 :: s.data.toList.drop 3 := by
    have h0 := drop_cons s 0 (by omega)
    have h1 := drop_cons s 1 (by omega)
    have h2 := drop_cons s 2 (by omega)
    rw [List.drop_zero, h1, h2, a, b, c] at h0
    exact h0
  rw [e] at h
  simp [Lib.hasPrefix] at h
theorem byte_ne {x : UInt8} {n : Nat} (_hn : n < 256) (h : ¬ x = UInt8.ofNat n) : ¬ (x.toNat : Int) = (n : Int) := by
  intro e
  apply h
  have e2 : x.toNat = n := by omega
  rw [← e2]
  simp
set_option maxRecDepth 100000 in
set_option maxHeartbeats 1000000 in
theorem text_few (p : Option Addr) (s : ByteArray) (c : Nat) (w : World) (hs : s.size ≤ 140737488355000) (_hc : s.size ≤ c) (hp : HoldsB w p s) (h3 : ¬ 3 ≤ s.size) :
    Calls Tryz.prog 6 #[.slice p s.size c] w fun e w' => e = .returned (.string (linesB s)) ∧ Below w.heap.size w w' := by
  have LH := Lib.hid (refLines_any p s c w (by omega) hp)
  have g1 : ¬ (3 : Int) ≤ (s.size : Int) := by omega
  have g2 : decide ((3 : Int) ≤ (s.size : Int)) = false := decide_eq_false g1
  have g3 : (s.size : Int) < 3 := by omega
  clear hp hs _hc
  go_enter Tryz.func6, Tryz.ntmps6
  go_wp2_with (fail)
  refine LH.out.mono ?_
  rintro e w2 ⟨g, cap, rfl, ho, hb⟩
  have hcv := conv_str ho.holds cap (fun e => by cases e)
  have HB := Lib.hid hb
  clear ho hb
  go_wp2_with (fail)
  go_ret
  exact ⟨rfl, HB.out⟩
set_option maxRecDepth 100000 in
set_option maxHeartbeats 1000000 in
theorem text_not0 (p : Option Addr) (s : ByteArray) (c : Nat) (w : World) (hs : s.size ≤ 140737488355000) (_hc : s.size ≤ c) (hp : HoldsB w p s) (h3 : 3 ≤ s.size)  (b0 : ¬ s.get! 0 = UInt8.ofNat 239) :
    Calls Tryz.prog 6 #[.slice p s.size c] w fun e w' => e = .returned (.string (linesB s)) ∧ Below w.heap.size w w' := by
  have LH := Lib.hid (refLines_any p s c w (by omega) hp)
  obtain ⟨b, off, rfl, hcell⟩ := hp (by omega)
  have g1 : (3 : Int) ≤ (s.size : Int) := by omega
  have g2 : decide ((3 : Int) ≤ (s.size : Int)) = true := decide_eq_true g1
  have i0 : (0 : Int) < (s.size : Int) := by omega
  have i1 : (1 : Int) < (s.size : Int) := by omega
  have i2 : (2 : Int) < (s.size : Int) := by omega
  have c0 := hcell 0 (by omega)
  have c1 := hcell 1 (by omega)
  have c2 := hcell 2 (by omega)
  rw [Nat.add_zero] at c0
  clear hcell
  have n0 := byte_ne (n := 239) (by decide) b0
  have m0 : ((((s.get! 0).toNat : Nat) : Int) == 239) = false := by rw [beq_eq_false_iff_ne]; exact n0
  obtain ⟨x0, hx0⟩ : ∃ x : Int, (((s.get! 0).toNat : Nat) : Int) = x := ⟨_, rfl⟩
  rw [hx0] at c0 n0 m0
  clear hx0
  clear c1
  clear c2
  clear h3 b0
  clear hs _hc
  go_enter Tryz.func6, Tryz.ntmps6
  go_wp2_with (fail)
  refine LH.out.mono ?_
  rintro e w2 ⟨g, cap, rfl, ho, hb⟩
  have hcv := conv_str ho.holds cap (fun e => by cases e)
  have HB := Lib.hid hb
  clear ho hb
  go_wp2_with (fail)
  go_ret
  exact ⟨rfl, HB.out⟩
set_option maxRecDepth 100000 in
set_option maxHeartbeats 1000000 in
theorem text_not1 (p : Option Addr) (s : ByteArray) (c : Nat) (w : World) (hs : s.size ≤ 140737488355000) (_hc : s.size ≤ c) (hp : HoldsB w p s) (h3 : 3 ≤ s.size) (b0 : s.get! 0 = 239) (b1 : ¬ s.get! 1 = UInt8.ofNat 187) :
    Calls Tryz.prog 6 #[.slice p s.size c] w fun e w' => e = .returned (.string (linesB s)) ∧ Below w.heap.size w w' := by
  have LH := Lib.hid (refLines_any p s c w (by omega) hp)
  obtain ⟨b, off, rfl, hcell⟩ := hp (by omega)
  have g1 : (3 : Int) ≤ (s.size : Int) := by omega
  have g2 : decide ((3 : Int) ≤ (s.size : Int)) = true := decide_eq_true g1
  have i0 : (0 : Int) < (s.size : Int) := by omega
  have i1 : (1 : Int) < (s.size : Int) := by omega
  have i2 : (2 : Int) < (s.size : Int) := by omega
  have c0 := hcell 0 (by omega)
  have c1 := hcell 1 (by omega)
  have c2 := hcell 2 (by omega)
  rw [Nat.add_zero] at c0
  clear hcell
  rw [b0, show (((239 : UInt8).toNat : Nat) : Int) = 239 from rfl] at c0
  have n1 := byte_ne (n := 187) (by decide) b1
  have m1 : ((((s.get! 1).toNat : Nat) : Int) == 187) = false := by rw [beq_eq_false_iff_ne]; exact n1
  obtain ⟨x1, hx1⟩ : ∃ x : Int, (((s.get! 1).toNat : Nat) : Int) = x := ⟨_, rfl⟩
  rw [hx1] at c1 n1 m1
  clear hx1
  clear c2
  clear h3 b0 b1
  clear hs _hc
  go_enter Tryz.func6, Tryz.ntmps6
  go_wp2_with (fail)
  refine LH.out.mono ?_
  rintro e w2 ⟨g, cap, rfl, ho, hb⟩
  have hcv := conv_str ho.holds cap (fun e => by cases e)
  have HB := Lib.hid hb
  clear ho hb
  go_wp2_with (fail)
  go_ret
  exact ⟨rfl, HB.out⟩
set_option maxRecDepth 100000 in
set_option maxHeartbeats 1000000 in
theorem text_not2 (p : Option Addr) (s : ByteArray) (c : Nat) (w : World) (hs : s.size ≤ 140737488355000) (_hc : s.size ≤ c) (hp : HoldsB w p s) (h3 : 3 ≤ s.size) (b0 : s.get! 0 = 239) (b1 : s.get! 1 = 187) (b2 : ¬ s.get! 2 = UInt8.ofNat 191) :
    Calls Tryz.prog 6 #[.slice p s.size c] w fun e w' => e = .returned (.string (linesB s)) ∧ Below w.heap.size w w' := by
  have LH := Lib.hid (refLines_any p s c w (by omega) hp)
  obtain ⟨b, off, rfl, hcell⟩ := hp (by omega)
  have g1 : (3 : Int) ≤ (s.size : Int) := by omega
  have g2 : decide ((3 : Int) ≤ (s.size : Int)) = true := decide_eq_true g1
  have i0 : (0 : Int) < (s.size : Int) := by omega
  have i1 : (1 : Int) < (s.size : Int) := by omega
  have i2 : (2 : Int) < (s.size : Int) := by omega
  have c0 := hcell 0 (by omega)
  have c1 := hcell 1 (by omega)
  have c2 := hcell 2 (by omega)
  rw [Nat.add_zero] at c0
  clear hcell
  rw [b0, show (((239 : UInt8).toNat : Nat) : Int) = 239 from rfl] at c0
  rw [b1, show (((187 : UInt8).toNat : Nat) : Int) = 187 from rfl] at c1
  have n2 := byte_ne (n := 191) (by decide) b2
  have m2 : ((((s.get! 2).toNat : Nat) : Int) == 191) = false := by rw [beq_eq_false_iff_ne]; exact n2
  obtain ⟨x2, hx2⟩ : ∃ x : Int, (((s.get! 2).toNat : Nat) : Int) = x := ⟨_, rfl⟩
  rw [hx2] at c2 n2 m2
  clear hx2
  clear h3 b0 b1 b2
  clear hs _hc
  go_enter Tryz.func6, Tryz.ntmps6
  go_wp2_with (fail)
  refine LH.out.mono ?_
  rintro e w2 ⟨g, cap, rfl, ho, hb⟩
  have hcv := conv_str ho.holds cap (fun e => by cases e)
  have HB := Lib.hid hb
  clear ho hb
  go_wp2_with (fail)
  go_ret
  exact ⟨rfl, HB.out⟩
set_option maxRecDepth 100000 in
set_option maxHeartbeats 1000000 in
theorem text_mark (p : Option Addr) (s : ByteArray) (c : Nat) (w : World) (hs : s.size ≤ 140737488355000) (hc : s.size ≤ c) (hp : HoldsB w p s) (h3 : 3 ≤ s.size) (b0 : s.get! 0 = 239) (b1 : s.get! 1 = 187) (b2 : s.get! 2 = 191) :
    Calls Tryz.prog 6 #[.slice p s.size c] w fun e w' => e = .returned (.string (linesB (s.extract 3 s.size))) ∧ Below w.heap.size w w' := by
  obtain ⟨b, off, rfl, hcell⟩ := hp (by omega)
  have g1 : (3 : Int) ≤ (s.size : Int) := by omega
  have g2 : decide ((3 : Int) ≤ (s.size : Int)) = true := decide_eq_true g1
  have i0 : (0 : Int) < (s.size : Int) := by omega
  have i1 : (1 : Int) < (s.size : Int) := by omega
  have i2 : (2 : Int) < (s.size : Int) := by omega
  have c0 := hcell 0 (by omega)
  have c1 := hcell 1 (by omega)
  have c2 := hcell 2 (by omega)
  rw [Nat.add_zero] at c0
  have HP := holds_part (p := some ⟨b, off + 3, none⟩) (k := 3) hcell (Nat.le_refl _) h3 (fun _ => rfl)
  have hsz : (s.extract 3 s.size).size = s.size - 3 := by simp
  clear hcell
  rw [b0, show (((239 : UInt8).toNat : Nat) : Int) = 239 from rfl] at c0
  rw [b1, show (((187 : UInt8).toNat : Nat) : Int) = 187 from rfl] at c1
  rw [b2, show (((191 : UInt8).toNat : Nat) : Int) = 191 from rfl] at c2
  by_cases hcap : c = 3
  · subst hcap
    have hz : s.size = 3 := by omega
    have L := refLines_any (some ⟨b, off, none⟩) (s.extract 3 s.size) 0 w (by omega) (fun h0 => by omega)
    rw [hsz] at L
    clear hz
    have LH := Lib.hid L
    clear L
    clear hs hc h3 hsz HP b0 b1 b2
    go_enter Tryz.func6, Tryz.ntmps6
    go_wp2_with (fail)
    refine LH.out.mono ?_
    rintro e w2 ⟨g, cap, rfl, ho, hb⟩
    have hcv := conv_str ho.holds cap (fun e => by cases e)
    have HB := Lib.hid hb
    clear ho hb
    go_wp2_with (fail)
    go_ret
    exact ⟨rfl, HB.out⟩
  · have g4 : (3 : Int) ≤ (c : Int) := by omega
    have L := refLines_any (some ⟨b, off + 3, none⟩) (s.extract 3 s.size) (c - 3) w (by omega) HP
    rw [hsz] at L
    have LH := Lib.hid L
    clear L
    clear hs hc h3 hsz HP b0 b1 b2
    go_enter Tryz.func6, Tryz.ntmps6
    go_wp2_with (fail)
    refine LH.out.mono ?_
    rintro e w2 ⟨g, cap, rfl, ho, hb⟩
    have hcv := conv_str ho.holds cap (fun e => by cases e)
    have HB := Lib.hid hb
    clear ho hb
    go_wp2_with (fail)
    go_ret
    exact ⟨rfl, HB.out⟩
theorem refText_any (p : Option Addr) (s : ByteArray) (c : Nat) (w : World) (hs : s.size ≤ 140737488355000) (hc : s.size ≤ c) (hp : HoldsB w p s) :
    Calls Tryz.prog 6 #[.slice p s.size c] w fun e w' => e = .returned (.string (textF s)) ∧ Below w.heap.size w w' := by
  rw [text_bare]
  unfold bareB
  cases hpre : Lib.hasPrefix s.data.toList [239, 187, 191]
  · rw [if_neg (by simp)]
    by_cases h3 : 3 ≤ s.size
    · have hno := pre3_no hpre h3
      by_cases b0 : s.get! 0 = 239
      · by_cases b1 : s.get! 1 = 187
        · exact text_not2 p s c w hs hc hp h3 b0 b1 (fun e => hno ⟨b0, b1, e⟩)
        · exact text_not1 p s c w hs hc hp h3 b0 b1
      · exact text_not0 p s c w hs hc hp h3 b0
    · exact text_few p s c w hs hc hp h3
  · rw [if_pos rfl]
    obtain ⟨h3, b0, b1, b2⟩ := pre3_yes hpre
    exact text_mark p s c w hs hc hp h3 b0 b1 b2
end Go.Proofs.YtpcdcndniibalaaGreatDoor
