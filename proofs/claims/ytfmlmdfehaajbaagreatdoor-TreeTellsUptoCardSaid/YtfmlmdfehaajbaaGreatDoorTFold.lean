/- Proved here: strings.EqualFold of a name and xml: whether it is that, in capitals or not. -/
import Derived.Test.YtfmlmdfehaajbaaGreatDoorAsks4
import Derived.Test.YtfmlmdfehaajbaaGreatDoorShelfR
import Derived.Test.YtfmlmdfehaajbaaGreatDoorFault
import Derived.Test.YtfmlmdfehaajbaaGreatDoorName
import Derived.Laws.BitsAllLaws
import Derived.ScopeJumps
import Derived.WalkMore
import Derived.Deep.LoopGhost
import Derived.Deep.DeepCutAuto
namespace Go.Proofs.YtfmlmdfehaajbaaGreatDoor
open Go.RowKit

/-- Six cells of the library's table of capitals and small letters: those of x, m, l. -/
def FoldAt (w : World) : Prop := ∀ k v : Nat, (k, v) ∈ [(120, 88), (88, 120), (109, 77), (77, 109), (108, 76), (76, 108)] → w.cell? ⟨2, k, none⟩ = some (.int .u16 (v : Int))
theorem FoldAt.below {w W : World} (h : FoldAt w) (hb : Below w.heap.size w W) : FoldAt W := fun k v hk => hb_cell hb (h k v hk)
def xmlB (n : ByteArray) : Bool := Lib.equalFold n.data.toList [120, 109, 108]
theorem extract_list5 (s : ByteArray) (a n : Nat) : (s.extract a (a + n)).toList = (s.data.toList.drop a).take n := by
  rw [Lib.toList_data, ByteArray.data_extract, Array.toList_extract]
  simp [List.extract, Nat.add_sub_cancel_left]
theorem get!_of5 (s : ByteArray) (j : Nat) (hj : j < s.size) : s.data.toList[j]? = some (s.get! j) := by
  have e : s.get! j = s.data[j]'hj := by
    show s.data[j]! = _
    rw [getElem!_pos s.data j hj]
  rw [e]
  simp [Array.getElem?_eq_getElem (show j < s.data.size from hj)]
abbrev XML : ByteArray := ⟨#[120, 109, 108]⟩
def xmlAt : Nat → Nat
  | 0 => 120
  | 1 => 109
  | _ => 108
theorem ascii_xml : ∀ (j : Nat) (b : UInt8), XML.data.toList[j]? = some b → b.toNat < 128 := by
  intro j b h
  have hm : b ∈ [(120 : UInt8), 109, 108] := List.mem_of_getElem? h
  simp only [List.mem_cons, List.mem_nil_iff, or_false] at hm
  rcases hm with rfl | rfl | rfl <;> decide
theorem decodeN_hi (n x0 x1 x2 x3 : Nat) (h : 128 ≤ x0) : 128 ≤ (Lib.decodeN n x0 x1 x2 x3).1 := by
  unfold Lib.decodeN
  repeat' split
  all_goals (simp only; omega)
theorem decode_hi (s : ByteArray) (i : Nat) (h : 128 ≤ (s.get! i).toNat) : 128 ≤ (Utf8.decode s i).1 := by
  rw [Lib.decode_at]
  exact decodeN_hi _ _ _ _ _ h
theorem fold_no (n : List UInt8) : ∀ (t : List UInt8), (∀ b ∈ t, b.toNat < 128) → (∃ b ∈ n, 128 ≤ b.toNat) → Lib.equalFold n t = false := by
  induction n with
  | nil =>
    rintro t _ ⟨b, hb, _⟩
    cases hb
  | cons x n ih =>
    rintro t ht ⟨b, hb, hge⟩
    cases t with
    | nil => rfl
    | cons y t =>
      rw [Lib.equalFold]
      rcases List.mem_cons.1 hb with rfl | hb
      · have hy := ht y List.mem_cons_self
        rw [show Lib.foldEq b y = false by unfold Lib.foldEq; rw [decide_eq_false_iff_not]; omega]
        rfl
      · rw [ih t (fun c hc => ht c (List.mem_cons_of_mem _ hc)) ⟨b, hb, hge⟩, Bool.and_false]
theorem dec_ascii (t : ByteArray) (c : Nat) (W : World) (h0 : 0 < t.size) (hc : (t.get! 0).toNat = c) (h128 : c < 128) :
    Calls Tryz.prog 87 #[.string t] W fun e w' => e = .returned (.tuple #[.int .i32 (c : Int), .int .i64 1]) ∧ W = w' := by
  have ht := str_ne h0
  have hnb : (!t.toList.isEmpty) = true := by rw [ht]; rfl
  have hz : ¬ t.toList = [] := by
    intro e
    rw [e] at ht
    cases ht
  have hb := get!_of5 t 0 h0
  have hx : ((t[0]'h0).toNat : Int) = (c : Int) := by
    have h2 : t.data.toList[0]? = some (t[0]'h0) := by rw [List.getElem?_eq_getElem (by simpa using h0)]; simp; rfl
    rw [h2] at hb
    rw [Option.some.inj hb, hc]
  have hc1 : (c : Int) < 128 := by omega
  have hc0 : (0 : Int) ≤ (c : Int) := by omega
  have hc2 : ((t[0]'h0).toNat : Int) < 128 := by omega
  clear hb hc h128
  go_enter Tryz.func87, Tryz.ntmps87
  go_wp2_with (fail)
  go_ret2
  exact ⟨by rw [← hx]; rfl, rfl⟩
set_option maxRecDepth 100000 in
theorem fold_sf (r v : Nat) (W : World) (hA : FoldAt W) (hm : (r, v) ∈ [(120, 88), (88, 120), (109, 77), (77, 109), (108, 76), (76, 108)]) :
    Calls Tryz.prog 88 #[.int .i32 (r : Int)] W fun e w' => e = .returned (.int .i32 (v : Int)) ∧ W = w' := by
  have hc := hA r v hm
  have hr : r ≤ 120 ∧ v ≤ 120 := by
    simp only [List.mem_cons, List.mem_nil_iff, or_false, Prod.mk.injEq] at hm
    omega
  have h1 : (r : Int) ≤ 120 := by omega
  have h0 : (0 : Int) ≤ (r : Int) := by omega
  have h2 : (v : Int) ≤ 120 := by omega
  have h3 : (0 : Int) ≤ (v : Int) := by omega
  have h4 : (r : Int) < 128 := by omega
  clear hm hA hr
  go_enter Tryz.func88, Tryz.ntmps88
  go_wp2_with (fail)
  go_ret
  exact ⟨rfl, rfl⟩
/-- What holds where the first byte beyond ASCII is met. -/
def FoldJ (s : ByteArray) (W : World) (a' : Act) (w' : World) : Prop := ∃ (u4 u6 u7 u8 u9 u10 u11 u12 u13 u14 u15 u16 u17 u18 u19 u20 u21 u22 u23 u24 u25 u26 u27 u28 u29 u30 u31 u32 u33 u34 u35 u36 u37 u38 u39 u40 u41 u42 u43 u44 u45 u46 u47 u48 u49 u50 u51 u52 u53 u54 : Value) (k : Nat), a' = { tmps := #[.string s, .string XML, undef, undef, u4, .int .i64 (k : Int), u6, u7, u8, u9, u10, u11, u12, u13, u14, u15, u16, u17, u18, u19, u20, u21, u22, u23, u24, u25, u26, u27, u28, u29, u30, u31, u32, u33, u34, u35, u36, u37, u38, u39, u40, u41, u42, u43, u44, u45, u46, u47, u48, u49, u50, u51, u52, u53, u54, undef, undef, undef, undef, undef, undef, undef, undef, undef, undef, undef, undef, undef, undef, undef, undef, undef, undef, undef, undef, undef, undef, undef, undef, undef, undef, undef, undef, undef, undef, undef, undef, undef, undef, undef, undef, undef, undef, undef, undef, undef, undef, undef, undef, undef, undef, undef, undef, undef, undef, undef, undef, undef, undef, undef, undef, undef, undef, undef, undef, undef, undef, undef, undef, undef, undef, undef, undef], defers := [] } ∧ w' = W ∧ k < 3 ∧ k < s.size ∧ 128 ≤ (s.get! k).toNat
set_option maxHeartbeats 4000000 in
set_option maxRecDepth 100000 in
theorem fold_high (s : ByteArray) (W : World) (hA : FoldAt W) (hs : s.size ≤ 4194304) (hna : ∃ j, j < s.size ∧ 128 ≤ (s.get! j).toNat) :
    Calls Tryz.prog 67 #[.string s, .string XML] W fun e w' => e = .returned (.bool false) ∧ Below W.heap.size W w' := by
  go_enter Tryz.func67, Tryz.ntmps67
  go_wp2_with (fail)
  refine wp_scope_jumps 0 (FoldJ s W) (fun _ _ => 0) rfl ?_ ?_
  · go_wp2_with (fail)
    obtain ⟨m, hm⟩ : ∃ m : Int, min (s.size : Int) 3 = m := ⟨_, rfl⟩
    rw [hm]
    have hm3 : m ≤ 3 := by omega
    have hms : m ≤ (s.size : Int) := by omega
    have HM := Lib.hid (show m = (s.size : Int) ∨ m = 3 by omega)
    clear hm
    go_loopg [5] 3 (fun g v5 wr => ∃ k : Nat, v5 = .int .i64 (k : Int) ∧ wr = W ∧ k + g = 3 ∧ (k : Int) ≤ m ∧ (0 : Int) ≤ m ∧ ∀ j, j < k → (s.get! j).toNat < 128)
    case atStart => exact ⟨0, rfl, rfl, rfl, by rcases HM.out with h | h <;> omega, by rcases HM.out with h | h <;> omega, fun j hj => absurd hj (Nat.not_lt_zero _)⟩
    case round =>
      obtain ⟨k, rfl, rfl, hkg, hkm, _, hlow⟩ := hrel
      have HLOW := Lib.hid hlow
      have HKG := Lib.hid hkg
      clear hlow hkg
      by_cases hlt : (k : Int) < m
      · have hks : k < s.size := by omega
        have hk3 : k < XML.size := by show k < 3; omega
        have hb := get!_of5 s k hks
        have hx : s[k]'hks = s.get! k := by
          have h2 : s.data.toList[k]? = some (s[k]'hks) := by rw [List.getElem?_eq_getElem (by simpa using hks)]; simp; rfl
          rw [h2] at hb
          exact Option.some.inj hb
        have hlx : (XML[k]'hk3).toNat < 128 := by
          have : k = 0 ∨ k = 1 ∨ k = 2 := by omega
          rcases this with rfl | rfl | rfl
          · exact (by omega : (120 : Nat) < 128)
          · exact (by omega : (109 : Nat) < 128)
          · exact (by omega : (108 : Nat) < 128)
        have hor : bits .or .u8 ((s[k]'hks).toNat : Int) ((XML[k]'hk3).toNat : Int) = (((s[k]'hks).toNat ||| (XML[k]'hk3).toNat : Nat) : Int) := u8_or_nat _ _ (UInt8.toNat_lt _) (UInt8.toNat_lt _)
        obtain ⟨y, hy⟩ : ∃ y : Nat, ((s[k]'hks).toNat ||| (XML[k]'hk3).toNat : Nat) = y := ⟨_, rfl⟩
        rw [hy] at hor
        obtain ⟨g, rfl⟩ : ∃ g, gk = g + 1 := ⟨gk - 1, by have := HKG.out; omega⟩
        by_cases hc : 128 ≤ (s.get! k).toNat
        · have hyb : (128 : Int) ≤ (y : Int) := by
            have := @Nat.left_le_or (s[k]'hks).toNat (XML[k]'hk3).toNat
            rw [hy, hx] at this
            omega
          have HX := Lib.hid (And.intro hks (And.intro hc hlt))
          clear hb hx hlx hy hc
          go_wp2_with (fail)
          go_step3
          refine ⟨rfl, _, _, _, _, _, _, _, _, _, _, _, _, _, _, _, _, _, _, _, _, _, _, _, _, _, _, _, _, _, _, _, _, _, _, _, _, _, _, _, _, _, _, _, _, _, _, _, _, _, _, k, rfl, rfl, by have := HX.out; omega, HX.out.1, HX.out.2.1⟩
        · have hyb : (y : Int) < 128 := by
            have h1 : (s[k]'hks).toNat < 2 ^ 7 := by rw [hx]; omega
            have := Nat.or_lt_two_pow h1 (show (XML[k]'hk3).toNat < 2 ^ 7 from hlx)
            rw [hy] at this
            omega
          have HX := Lib.hid (And.intro hks (And.intro hc hlt))
          clear hb hx hlx hy hc
          go_wp2_with (fail)
          all_goals first
            | (simp only [Exit.jump]; go_ret; exact ⟨rfl, Below.refl _ _⟩)
            | (go_roundg g
               case measure => omega
               case rel =>
                 go_light
                 exact ⟨k + 1, by go_num, rfl, by have := HKG.out; omega, by have := HX.out; omega, by have := HX.out; omega, fun j hj => (by
                   rcases Nat.lt_succ_iff_lt_or_eq.1 hj with g | rfl
                   · exact HLOW.out j g
                   · have := HX.out; omega)⟩)
      · have h3 : ((s.size : Int) == 3) = false := by
          rw [beq_eq_false_iff_ne]
          intro e
          obtain ⟨j, hj, hge⟩ := hna
          have := HLOW.out j (by rcases HM.out with h | h <;> omega)
          omega
        have h3n : ¬ (s.size : Int) = 3 := by
          intro e
          rw [e] at h3
          cases h3
        clear hna
        go_wp2_with (fail)
        simp only [Exit.jump]
        go_ret
        exact ⟨rfl, Below.refl _ _⟩
  · rintro a9 w9 ⟨u4, u6, u7, u8, u9, u10, u11, u12, u13, u14, u15, u16, u17, u18, u19, u20, u21, u22, u23, u24, u25, u26, u27, u28, u29, u30, u31, u32, u33, u34, u35, u36, u37, u38, u39, u40, u41, u42, u43, u44, u45, u46, u47, u48, u49, u50, u51, u52, u53, u54, k, rfl, rfl, hk3, hks, hge⟩
    have hss : (s.extract k s.size).size = s.size - k := by simp
    have hp0 : 0 < (s.extract k s.size).size := by omega
    have hg0 : ((s.extract k s.size).get! 0) = s.get! k := by
      have h1 := get!_of5 (s.extract k s.size) 0 hp0
      have h2 := get!_of5 s k hks
      have e1 := extract_list5 s k (s.size - k)
      rw [Lib.toList_data, show k + (s.size - k) = s.size by omega] at e1
      rw [e1, List.getElem?_take_of_lt (by omega), List.getElem?_drop, Nat.add_zero, h2] at h1
      exact (Option.some.inj h1).symm
    have hd := decode_hi (s.extract k s.size) 0 (by rw [hg0]; exact hge)
    obtain ⟨c, hc, hcl, hcu, hxe⟩ : ∃ c : Nat, (c = 120 ∨ c = 109 ∨ c = 108) ∧ (c, c - 32) ∈ [(120, 88), (88, 120), (109, 77), (77, 109), (108, 76), (76, 108)] ∧ (c - 32, c) ∈ [(120, 88), (88, 120), (109, 77), (77, 109), (108, 76), (76, 108)] ∧ 0 < (XML.extract k 3).size ∧ ((XML.extract k 3).get! 0).toNat = c := by
      have : k = 0 ∨ k = 1 ∨ k = 2 := by omega
      rcases this with rfl | rfl | rfl
      · exact ⟨120, by decide, by decide, by decide, by decide, by decide⟩
      · exact ⟨109, by decide, by decide, by decide, by decide, by decide⟩
      · exact ⟨108, by decide, by decide, by decide, by decide, by decide⟩
    have hnx : ∀ ty, (Instr.next (.pointer (some ⟨w9.heap.size, 0, none⟩)) true ty).run Tryz.prog (w9.iter (s.extract k s.size) 0) = _ := fun ty => run_next_any w9 (s.extract k s.size) 0 ty hp0
    generalize Utf8.decode (s.extract k s.size) 0 = d at *
    obtain ⟨d1, d2⟩ := d
    simp only at hd hnx
    go_wp2_with (fail)
    generalize XML.extract k 3 = t at *
    obtain ⟨ht0, htc⟩ := hxe
    have DC := Lib.hid (fun W' => dec_ascii t c W' ht0 htc (by rcases hc with rfl | rfl | rfl <;> omega))
    have SL := Lib.hid (fun W' (y : FoldAt W') => fold_sf c (c - 32) W' y hcl)
    have SU := Lib.hid (fun W' (y : FoldAt W') => fold_sf (c - 32) c W' y hcu)
    have htz : ((t.size : Int) == 0) = false := by rw [beq_eq_false_iff_ne]; omega
    have htn : ¬ (t.size : Int) = 0 := by omega
    have ht1 : (1 : Int) ≤ (t.size : Int) := by omega
    have HAA := Lib.hid hA
    have c1 : ((c : Int) == (d1 : Int)) = false := by rw [beq_eq_false_iff_ne]; rcases hc with rfl | rfl | rfl <;> omega
    have c1n : ¬ (c : Int) = (d1 : Int) := by rcases hc with rfl | rfl | rfl <;> omega
    have c2 : (c : Int) < (d1 : Int) := by rcases hc with rfl | rfl | rfl <;> omega
    have c3 : ¬ (d1 : Int) < 128 := by omega
    have c4 : (((c - 32 : Nat) : Int) == (c : Int)) = false := by rw [beq_eq_false_iff_ne]; rcases hc with rfl | rfl | rfl <;> omega
    have c5 : ((c - 32 : Nat) : Int) < (d1 : Int) := by rcases hc with rfl | rfl | rfl <;> omega
    have c6 : ¬ ((c - 32 : Nat) : Int) = (c : Int) := by rcases hc with rfl | rfl | rfl <;> omega
    have HC := Lib.hid hc
    clear hA hcl hcu htc ht0 hc hd hg0 hp0 hss hge hna
    refine wp_loop_rounds 1 ?_
    rw [rounds_succ]
    go_wp2_with (fail)
    refine (DC.out _).mono ?_
    rintro e w2 ⟨rfl, hw2⟩
    subst hw2
    go_wp2_with (fail)
    refine (SL.out _ (HAA.out.below (Below.alloc (Below.refl _ _) (Nat.le_refl _) _))).mono ?_
    rintro e w3 ⟨rfl, hw3⟩
    subst hw3
    go_wp2_with (fail)
    refine wp_loop_rounds 2 ?_
    rw [rounds_succ]
    go_wp2_with (fail)
    refine (SU.out _ (HAA.out.below (Below.alloc (Below.refl _ _) (Nat.le_refl _) _))).mono ?_
    rintro e w4 ⟨rfl, hw4⟩
    subst hw4
    go_wp2_with (fail)
    rw [rounds_succ]
    go_wp2_with (fail)
    simp only [Exit.jump]
    go_ret
    exact ⟨rfl, (Below.refl _ _).alloc (Nat.le_refl _) _⟩
theorem fold_any (n : ByteArray) (W : World) (hT : Tabs W) (hA : FoldAt W) (_hn : nameB n = true) (hs : n.size ≤ 4194304) :
    Calls Tryz.prog 67 #[.string n, .string ⟨#[120, 109, 108]⟩] W fun e w' => e = .returned (.bool (xmlB n)) ∧ Below W.heap.size W w' := by
  by_cases ha : ∀ (j : Nat) (b : UInt8), n.data.toList[j]? = some b → b.toNat < 128
  · refine (Tryz.strings_EqualFold n ⟨#[120, 109, 108]⟩ W (by omega) ha ascii_xml).mono ?_
    rintro e w' ⟨rfl, rfl⟩
    exact ⟨rfl, Below.refl _ _⟩
  · have hex : ∃ j, j < n.size ∧ 128 ≤ (n.get! j).toNat := by
      apply Classical.byContradiction
      intro hno
      apply ha
      intro j b hb
      have hj : j < n.size := by
        have := (List.getElem?_eq_some_iff.1 hb).1
        simpa using this
      have h1 := get!_of5 n j hj
      rw [hb] at h1
      rw [Option.some.inj h1]
      exact Nat.lt_of_not_le fun hle => hno ⟨j, hj, hle⟩
    have hx : xmlB n = false := by
      obtain ⟨j, hj, hge⟩ := hex
      have h1 := get!_of5 n j hj
      refine fold_no _ _ ?_ ⟨n.get! j, List.mem_of_getElem? h1, hge⟩
      intro b hb
      obtain ⟨i, hi⟩ := List.mem_iff_getElem?.1 hb
      exact ascii_xml i b hi
    rw [hx]
    exact fold_high n W hA hs hex
end Go.Proofs.YtfmlmdfehaajbaaGreatDoor
