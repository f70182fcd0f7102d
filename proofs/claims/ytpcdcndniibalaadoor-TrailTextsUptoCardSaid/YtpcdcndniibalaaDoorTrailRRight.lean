/- Proved here: what the document's Right answers of every trail. -/
import Derived.Test.YtpcdcndniibalaaDoorTrailDoc
import Derived.Test.YtpcdcndniibalaaDoorRefFault
import Derived.Test.YtpcdcndniibalaaDoorRefName
import Derived.BigGuardPart
namespace Go.Proofs.YtpcdcndniibalaaDoor
open Go.RowKit

theorem all_drop_step {l : List Int} {k : Nat} (h : k < l.length) : (l.drop k).all stepOk = (stepOk (l.getD k 0) && (l.drop (k + 1)).all stepOk) := by
  rw [drop_getD h]; rfl
set_option maxRecDepth 100000 in
set_option maxHeartbeats 4000000 in
theorem rright_long (p : Option Addr) (c : Nat) (l : List Int) (a : Bool) (u : ByteArray) (n : ByteArray) (w : World) (hat : TrAt w p c ⟨l, a, u, n⟩) (h : 64 < l.length) :
    Calls Tryd.prog 10 #[TrV p c ⟨l, a, u, n⟩] w fun e w' => e = .returned (.bool false) ∧ Below w.heap.size w w' := by
  have AT := Lib.hid (fun W (y : Below w.heap.size w W) => (hat.below y).1)
  have HB0 := Lib.hid ((Below.refl w.heap.size w).alloc (Nat.le_refl _) (.cells #[.slice p l.length c, .bool a, .string u, .string n] 34))
  have hlc : l.length ≤ 140737488355328 := hat.2.2
  obtain ⟨⟨b0, b1, b2, b3⟩, -⟩ := t_cells (t_one w (.cells #[.slice p l.length c, .bool a, .string u, .string n] 34))
  have g0 : (64 : Int) < (l.length : Int) := by omega
  clear hat h
  unfold TrV
  go_enter Tryd.func10, Tryd.ntmps10
  go_wp2_with (fail)
  go_ret
  exact ⟨rfl, HB0.out⟩
set_option maxRecDepth 100000 in
set_option maxHeartbeats 4000000 in
theorem rright_bad (p : Option Addr) (c : Nat) (l : List Int) (a : Bool) (u : ByteArray) (n : ByteArray) (w : World) (hat : TrAt w p c ⟨l, a, u, n⟩) (h : ¬ 64 < l.length) (hb : l.all stepOk = false) :
    Calls Tryd.prog 10 #[TrV p c ⟨l, a, u, n⟩] w fun e w' => e = .returned (.bool false) ∧ Below w.heap.size w w' := by
  have AT := Lib.hid (fun W (y : Below w.heap.size w W) => (hat.below y).1)
  have HB0 := Lib.hid ((Below.refl w.heap.size w).alloc (Nat.le_refl _) (.cells #[.slice p l.length c, .bool a, .string u, .string n] 34))
  have hlc : l.length ≤ 140737488355328 := hat.2.2
  obtain ⟨⟨b0, b1, b2, b3⟩, -⟩ := t_cells (t_one w (.cells #[.slice p l.length c, .bool a, .string u, .string n] 34))
  have g0 : ¬ (64 : Int) < (l.length : Int) := by omega
  have HBAD := Lib.hid (show (l.drop 0).all stepOk = false from hb)
  clear hat h hb
  unfold TrV
  go_enter Tryd.func10, Tryd.ntmps10
  go_wp2_with (fail)
  go_loop [14] (fun v => ∃ k : Nat, v = .int .i64 (k : Int) ∧ k ≤ l.length ∧ Hid ((l.drop k).all stepOk = false)) (fun v => l.length - (intOf v).toNat)
  case atStart => exact ⟨0, rfl, Nat.zero_le _, HBAD⟩
  case round =>
    obtain ⟨k, rfl, hk, HK⟩ := hrel
    by_cases hlt : k < l.length
    · obtain ⟨g, off, rfl, hc⟩ := AT.out _ HB0.out (by omega)
      have y1 := hc k hlt
      clear hc
      rw [all_drop_step hlt] at HK
      have g1 : (k : Int) < (l.length : Int) := by omega
      generalize l.getD k 0 = x at *
      cases hx : stepOk x
      · by_cases h1 : x < 0
        · clear hx
          go_wp2_with (fail)
          all_goals try (exfalso; omega)
          all_goals
            go_ret
            exact ⟨rfl, HB0.out⟩
        · have h2 : (999999999 : Int) < x := by
            simp only [stepOk, Bool.and_eq_false_iff, decide_eq_false_iff_not] at hx
            omega
          clear hx
          go_wp2_with (fail)
          all_goals try (exfalso; omega)
          all_goals
            go_ret
            exact ⟨rfl, HB0.out⟩
      · rw [hx, Bool.true_and] at HK
        have h1 : ¬ x < 0 := by simp only [stepOk, Bool.and_eq_true, decide_eq_true_eq] at hx; omega
        have h2 : ¬ (999999999 : Int) < x := by simp only [stepOk, Bool.and_eq_true, decide_eq_true_eq] at hx; omega
        clear hx
        go_wp2_with (fail)
        all_goals try (exfalso; omega)
        all_goals
          go_round
          case rel => exact ⟨k + 1, by go_num, by omega, HK⟩
          case measure => simp [intOf]; omega
    · exfalso
      have e := HK.out
      rw [List.drop_eq_nil_of_le (by omega)] at e
      cases e
set_option maxRecDepth 100000 in
set_option maxHeartbeats 4000000 in
theorem rright_b0 (p : Option Addr) (c : Nat) (l : List Int) (w : World) (hat : TrAt w p c ⟨l, false, ⟨#[]⟩, ⟨#[]⟩⟩) (h : ¬ 64 < l.length) (hb : l.all stepOk = true) :
    Calls Tryd.prog 10 #[TrV p c ⟨l, false, ⟨#[]⟩, ⟨#[]⟩⟩] w fun e w' => e = .returned (.bool true) ∧ Below w.heap.size w w' := by
  have AT := Lib.hid (fun W (y : Below w.heap.size w W) => (hat.below y).1)
  have HB0 := Lib.hid ((Below.refl w.heap.size w).alloc (Nat.le_refl _) (.cells #[.slice p l.length c, .bool false, .string ⟨#[]⟩, .string ⟨#[]⟩] 34))
  have hlc : l.length ≤ 140737488355328 := hat.2.2
  obtain ⟨⟨b0, b1, b2, b3⟩, -⟩ := t_cells (t_one w (.cells #[.slice p l.length c, .bool false, .string ⟨#[]⟩, .string ⟨#[]⟩] 34))
  have g0 : ¬ (64 : Int) < (l.length : Int) := by omega
  have SO := Lib.hid hb
  clear hat h hb
  unfold TrV
  go_enter Tryd.func10, Tryd.ntmps10
  go_wp2_with (fail)
  go_loop [14] (fun v => ∃ k : Nat, v = .int .i64 (k : Int) ∧ k ≤ l.length) (fun v => l.length - (intOf v).toNat)
  case atStart => exact ⟨0, rfl, Nat.zero_le _⟩
  case round =>
    obtain ⟨k, rfl, hk⟩ := hrel
    by_cases hlt : k < l.length
    · obtain ⟨g, off, rfl, hc⟩ := AT.out _ HB0.out (by omega)
      have y1 := hc k hlt
      clear hc
      have hx := all_at SO.out hlt
      have g1 : (k : Int) < (l.length : Int) := by omega
      generalize l.getD k 0 = x at *
      have h1 : ¬ x < 0 := by simp only [stepOk, Bool.and_eq_true, decide_eq_true_eq] at hx; omega
      have h2 : ¬ (999999999 : Int) < x := by simp only [stepOk, Bool.and_eq_true, decide_eq_true_eq] at hx; omega
      clear hx
      go_wp2_with (fail)
      all_goals try (exfalso; omega)
      all_goals
        go_round
        case rel => exact ⟨k + 1, by go_num, by omega⟩
        case measure => simp [intOf]; omega
    · obtain rfl : k = l.length := by omega
      go_wp2_with (fail)
      all_goals
        go_ret
        exact ⟨rfl, HB0.out⟩
set_option maxRecDepth 100000 in
set_option maxHeartbeats 4000000 in
theorem rright_b1 (p : Option Addr) (c : Nat) (l : List Int) (n : ByteArray) (w : World) (hat : TrAt w p c ⟨l, false, ⟨#[]⟩, n⟩) (h : ¬ 64 < l.length) (hb : l.all stepOk = true) (hz : ¬ n.size = 0) :
    Calls Tryd.prog 10 #[TrV p c ⟨l, false, ⟨#[]⟩, n⟩] w fun e w' => e = .returned (.bool false) ∧ Below w.heap.size w w' := by
  have AT := Lib.hid (fun W (y : Below w.heap.size w W) => (hat.below y).1)
  have HB0 := Lib.hid ((Below.refl w.heap.size w).alloc (Nat.le_refl _) (.cells #[.slice p l.length c, .bool false, .string ⟨#[]⟩, .string n] 34))
  have hlc : l.length ≤ 140737488355328 := hat.2.2
  obtain ⟨⟨b0, b1, b2, b3⟩, -⟩ := t_cells (t_one w (.cells #[.slice p l.length c, .bool false, .string ⟨#[]⟩, .string n] 34))
  have z0 := str_ne (s := n) (Nat.pos_of_ne_zero hz)
  have z1 : ¬ n.toList = [] := fun e => by rw [e] at z0; cases z0
  clear hz
  have g0 : ¬ (64 : Int) < (l.length : Int) := by omega
  have SO := Lib.hid hb
  clear hat h hb
  unfold TrV
  go_enter Tryd.func10, Tryd.ntmps10
  go_wp2_with (fail)
  go_loop [14] (fun v => ∃ k : Nat, v = .int .i64 (k : Int) ∧ k ≤ l.length) (fun v => l.length - (intOf v).toNat)
  case atStart => exact ⟨0, rfl, Nat.zero_le _⟩
  case round =>
    obtain ⟨k, rfl, hk⟩ := hrel
    by_cases hlt : k < l.length
    · obtain ⟨g, off, rfl, hc⟩ := AT.out _ HB0.out (by omega)
      have y1 := hc k hlt
      clear hc
      have hx := all_at SO.out hlt
      have g1 : (k : Int) < (l.length : Int) := by omega
      generalize l.getD k 0 = x at *
      have h1 : ¬ x < 0 := by simp only [stepOk, Bool.and_eq_true, decide_eq_true_eq] at hx; omega
      have h2 : ¬ (999999999 : Int) < x := by simp only [stepOk, Bool.and_eq_true, decide_eq_true_eq] at hx; omega
      clear hx
      go_wp2_with (fail)
      all_goals try (exfalso; omega)
      all_goals
        go_round
        case rel => exact ⟨k + 1, by go_num, by omega⟩
        case measure => simp [intOf]; omega
    · obtain rfl : k = l.length := by omega
      go_wp2_with (fail)
      all_goals
        go_ret
        exact ⟨rfl, HB0.out⟩
set_option maxRecDepth 100000 in
set_option maxHeartbeats 4000000 in
theorem rright_b2 (p : Option Addr) (c : Nat) (l : List Int) (u : ByteArray) (n : ByteArray) (w : World) (hat : TrAt w p c ⟨l, false, u, n⟩) (h : ¬ 64 < l.length) (hb : l.all stepOk = true) (hz : ¬ u.size = 0) :
    Calls Tryd.prog 10 #[TrV p c ⟨l, false, u, n⟩] w fun e w' => e = .returned (.bool false) ∧ Below w.heap.size w w' := by
  have AT := Lib.hid (fun W (y : Below w.heap.size w W) => (hat.below y).1)
  have HB0 := Lib.hid ((Below.refl w.heap.size w).alloc (Nat.le_refl _) (.cells #[.slice p l.length c, .bool false, .string u, .string n] 34))
  have hlc : l.length ≤ 140737488355328 := hat.2.2
  obtain ⟨⟨b0, b1, b2, b3⟩, -⟩ := t_cells (t_one w (.cells #[.slice p l.length c, .bool false, .string u, .string n] 34))
  have z0 := str_ne (s := u) (Nat.pos_of_ne_zero hz)
  have z1 : ¬ u.toList = [] := fun e => by rw [e] at z0; cases z0
  clear hz
  have g0 : ¬ (64 : Int) < (l.length : Int) := by omega
  have SO := Lib.hid hb
  clear hat h hb
  unfold TrV
  go_enter Tryd.func10, Tryd.ntmps10
  go_wp2_with (fail)
  go_loop [14] (fun v => ∃ k : Nat, v = .int .i64 (k : Int) ∧ k ≤ l.length) (fun v => l.length - (intOf v).toNat)
  case atStart => exact ⟨0, rfl, Nat.zero_le _⟩
  case round =>
    obtain ⟨k, rfl, hk⟩ := hrel
    by_cases hlt : k < l.length
    · obtain ⟨g, off, rfl, hc⟩ := AT.out _ HB0.out (by omega)
      have y1 := hc k hlt
      clear hc
      have hx := all_at SO.out hlt
      have g1 : (k : Int) < (l.length : Int) := by omega
      generalize l.getD k 0 = x at *
      have h1 : ¬ x < 0 := by simp only [stepOk, Bool.and_eq_true, decide_eq_true_eq] at hx; omega
      have h2 : ¬ (999999999 : Int) < x := by simp only [stepOk, Bool.and_eq_true, decide_eq_true_eq] at hx; omega
      clear hx
      go_wp2_with (fail)
      all_goals try (exfalso; omega)
      all_goals
        go_round
        case rel => exact ⟨k + 1, by go_num, by omega⟩
        case measure => simp [intOf]; omega
    · obtain rfl : k = l.length := by omega
      go_wp2_with (fail)
      all_goals
        go_ret
        exact ⟨rfl, HB0.out⟩
set_option maxRecDepth 100000 in
set_option maxHeartbeats 4000000 in
theorem rright_a (p : Option Addr) (c : Nat) (l : List Int) (u : ByteArray) (n : ByteArray) (w : World) (hat : TrAt w p c ⟨l, true, u, n⟩) (hT : Tabs w) (hu : u.size ≤ 140737488355328) (hn : n.size ≤ 140737488355328) (h : ¬ 64 < l.length) (hb : l.all stepOk = true) (nm f : Bool) (hnm : nameB n = nm) (hf : decide ((faultF u).2 = 0) = f) :
    Calls Tryd.prog 10 #[TrV p c ⟨l, true, u, n⟩] w fun e w' => e = .returned (.bool (nm && decide (u.size ≤ 100) && f)) ∧ Below w.heap.size w w' := by
  have AT := Lib.hid (fun W (y : Below w.heap.size w W) => (hat.below y).1)
  have HB0 := Lib.hid ((Below.refl w.heap.size w).alloc (Nat.le_refl _) (.cells #[.slice p l.length c, .bool true, .string u, .string n] 34))
  have hlc : l.length ≤ 140737488355328 := hat.2.2
  obtain ⟨⟨b0, b1, b2, b3⟩, -⟩ := t_cells (t_one w (.cells #[.slice p l.length c, .bool true, .string u, .string n] 34))
  obtain ⟨cap, W3, hcv, hcap, hb3, -, hp3⟩ := bytes_of (w.alloc (.cells #[.slice p l.length c, .bool true, .string u, .string n] 34)) u
  have hz : (w.alloc (.cells #[.slice p l.length c, .bool true, .string u, .string n] 34)).heap.size = w.heap.size + 1 := by simp
  have hB3 := t_cat HB0.out hb3
  rw [hz] at hcv hp3
  have F := Lib.hid (refFault_any (some ⟨w.heap.size + 1, 0, none⟩) u cap W3 hu (fun _ => ⟨_, _, rfl, hp3⟩))
  have NM := Lib.hid (fun W => refName_any n W hn)
  rw [hnm] at NM
  obtain ⟨fe, hfe⟩ : ∃ fe : Nat, (faultF u).2 = fe := ⟨_, rfl⟩
  rw [hfe] at F hf
  generalize (faultF u).1 = fp at *
  have c2 := t_cell hb3 b2
  have c3 := t_cell hb3 b3
  have HB3 := Lib.hid hB3
  clear hcap hb3 hp3 hB3 hz hu hn hnm hT hfe
  have g0 : ¬ (64 : Int) < (l.length : Int) := by omega
  have SO := Lib.hid hb
  clear hat h hb
  unfold TrV
  go_enter Tryd.func10, Tryd.ntmps10
  go_wp2_with (fail)
  go_loop [14] (fun v => ∃ k : Nat, v = .int .i64 (k : Int) ∧ k ≤ l.length) (fun v => l.length - (intOf v).toNat)
  case atStart => exact ⟨0, rfl, Nat.zero_le _⟩
  case round =>
    obtain ⟨k, rfl, hk⟩ := hrel
    by_cases hlt : k < l.length
    · obtain ⟨g, off, rfl, hc⟩ := AT.out _ HB0.out (by omega)
      have y1 := hc k hlt
      clear hc
      have hx := all_at SO.out hlt
      have g1 : (k : Int) < (l.length : Int) := by omega
      generalize l.getD k 0 = x at *
      have h1 : ¬ x < 0 := by simp only [stepOk, Bool.and_eq_true, decide_eq_true_eq] at hx; omega
      have h2 : ¬ (999999999 : Int) < x := by simp only [stepOk, Bool.and_eq_true, decide_eq_true_eq] at hx; omega
      clear hx
      go_wp2_with (fail)
      all_goals try (exfalso; omega)
      all_goals
        go_round
        case rel => exact ⟨k + 1, by go_num, by omega⟩
        case measure => simp [intOf]; omega
    · obtain rfl : k = l.length := by omega
      go_wp2_with (fail)
      refine F.out.mono ?_
      rintro e w4 ⟨rfl, rfl⟩
      go_wp2_with (fail)
      refine (NM.out _).mono ?_
      rintro e w5 ⟨rfl, hb5⟩
      have HB5 := Lib.hid (t_cat HB3.out hb5)
      have d2 := t_cell hb5 c2
      have d3 := t_cell hb5 c3
      clear hb5
      cases nm
      · go_wp2_with (fail)
        go_ret
        exact ⟨rfl, HB5.out⟩
      · by_cases hs : u.size ≤ 100
        · have g1 : (u.size : Int) ≤ 100 := by omega
          have HD := Lib.hid (show decide (u.size ≤ 100) = true from decide_eq_true hs)
          clear hs
          by_cases h0 : fe = 0
          · have e0 : ((fe : Int) == 0) = true := by rw [h0]; rfl
            have hff : f = true := by rw [← hf]; exact decide_eq_true h0
            have HFF := Lib.hid hff
            clear h0 hff hf
            go_wp2_with (fail)
            go_ret
            exact ⟨by rw [HD.out, HFF.out]; rfl, HB5.out⟩
          · have e0 : ((fe : Int) == 0) = false := by rw [beq_eq_false_iff_ne]; omega
            have hff : f = false := by rw [← hf]; exact decide_eq_false h0
            have HFF := Lib.hid hff
            clear h0 hff hf
            go_wp2_with (fail)
            go_ret
            exact ⟨by rw [HD.out, HFF.out]; rfl, HB5.out⟩
        · have g1 : ¬ (u.size : Int) ≤ 100 := by omega
          have g2 : decide ((u.size : Int) ≤ 100) = false := decide_eq_false g1
          have HD := Lib.hid (show decide (u.size ≤ 100) = false from decide_eq_false hs)
          clear hs
          go_wp2_with (fail)
          go_ret
          exact ⟨by rw [HD.out]; rfl, HB5.out⟩
theorem rright_any (p : Option Addr) (c : Nat) (t : Tr) (w : World) (hat : TrAt w p c t) (hT : Tabs w) (hu : t.uri.size ≤ 140737488355328) (hn : t.loc.size ≤ 140737488355328) :
    Calls Tryd.prog 10 #[TrV p c t] w fun e w' => e = .returned (.bool (rightT t)) ∧ Below w.heap.size w w' := by
  obtain ⟨l, a, u, n⟩ := t
  by_cases h : 64 < l.length
  · rw [show rightT ⟨l, a, u, n⟩ = false by unfold rightT; rw [decide_eq_false (show ¬ l.length ≤ 64 by omega)]; rfl]
    exact rright_long p c l a u n w hat h
  · have hd : decide (l.length ≤ 64) = true := decide_eq_true (by omega)
    cases hb : l.all stepOk
    · rw [show rightT ⟨l, a, u, n⟩ = false by unfold rightT; simp only [hb, hd]; rfl]
      exact rright_bad p c l a u n w hat h hb
    · cases a
      · by_cases hu0 : u.size = 0
        · obtain rfl := ba_empty hu0
          by_cases hn0 : n.size = 0
          · obtain rfl := ba_empty hn0
            rw [show rightT ⟨l, false, ⟨#[]⟩, ⟨#[]⟩⟩ = true by unfold rightT; simp only [hb, hd]; rfl]
            exact rright_b0 p c l w hat h hb
          · rw [show rightT ⟨l, false, ⟨#[]⟩, n⟩ = false by unfold rightT; simp [hb, hd, hn0]]
            exact rright_b1 p c l n w hat h hb hn0
        · rw [show rightT ⟨l, false, u, n⟩ = false by unfold rightT; simp [hb, hd, hu0]]
          exact rright_b2 p c l u n w hat h hb hu0
      · rw [show rightT ⟨l, true, u, n⟩ = (nameB n && decide (u.size ≤ 100) && decide ((faultF u).2 = 0)) by unfold rightT; simp only [hb, hd, nameOk, if_true, Bool.true_and]]
        exact rright_a p c l u n w hat hT hu hn h hb _ _ rfl rfl
end Go.Proofs.YtpcdcndniibalaaDoor
