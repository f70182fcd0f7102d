/- Proved here: the document's reader of groups, walked. -/
import Derived.Test.YtggchfmglaijgaaTapeRefP
import Derived.Test.YtggchfmglaijgaaTapeGroup
namespace Go.Proofs.Ytggchfmglaijgaa
open Go.RowKit

/-- Rows of 64 bytes, as an argument. -/
def RowsG (W : World) (b off : Nat) (L : List (List UInt8)) : Prop := ∀ j (h : j < L.length), ∃ gr cp, W.cell? ⟨b, off + j, none⟩ = some (.slice (some ⟨gr, 0, none⟩) 64 cp) ∧ 64 ≤ cp ∧ HoldsB W (some ⟨gr, 0, none⟩) (ofL L[j])
theorem RowsG.below {W W' : World} {b off : Nat} {L : List (List UInt8)} (h : RowsG W b off L) (hb : Below W.heap.size W W') : RowsG W' b off L := fun j hj => by
  obtain ⟨gr, cp, h1, h2, h3⟩ := h j hj
  exact ⟨gr, cp, hb_cell hb h1, h2, h3.below hb⟩
theorem row_two {W : World} {gr : Nat} {x : List UInt8} (h : HoldsB W (some ⟨gr, 0, none⟩) (ofL x)) (hx : x.length = 64) (i : Nat) (hi : i + 2 ≤ 64) (c : Nat) :
    Calls Try.prog 39 #[.slice (some ⟨gr, 0 + i, none⟩) 2 c] W fun e w' => e = .returned (.int .i64 (valN ((x.drop i).take 2) : Nat)) ∧ W = w' := by
  have VA := value_any (some ⟨gr, 0 + i, none⟩) ((ofL x).extract i (i + 2)) 2 c W (by rw [ByteArray.size_extract, ofL_size, hx]; omega) (by decide) (h.part i (i + 2) (by rw [ofL_size, hx]; exact hi))
  rw [bl_extract, bl_ofL, Nat.add_sub_cancel_left] at VA
  exact VA
theorem val2_lt (x : List UInt8) (i : Nat) : valN ((x.drop i).take 2) < 65536 := by
  have h1 := valG_lt ((x.drop i).take 2)
  have h2 : ((x.drop i).take 2).length ≤ 2 := by rw [List.length_take]; omega
  exact Nat.lt_of_lt_of_le h1 (Nat.le_trans (Nat.pow_le_pow_right (by decide) h2) (by decide))
theorem bytes_lit (w : World) : Owns (w.alloc (.cells #[] 5)) w.heap.size w.heap.size 0 (ofL []) :=
  ⟨by
    have h := World.ownsRow_lit (base := w.heap.size) (e := 5) (size := 1) w #[] 0 (Nat.le_refl _) (by unfold maxLen; omega) rfl
    exact h, Nat.le_refl _, by simp, Nat.le_refl _⟩
theorem app_gath {w0 w : World} {g cap m c gr : Nat} {a x : List UInt8} (ha : a.length = m) (hx : x.length = 64) (hm : m ≤ 100000) (h : Owns w w0.heap.size g cap (ofL a)) (hbl : Below w0.heap.size w0 w) (h2 : HoldsB w (some ⟨gr, 0, none⟩) (ofL x)) :
    ∃ g' cap' w', (∀ ty, (Builtin.append_ #[33, 33] ty #[.slice (some ⟨g, 0, none⟩) m cap, .slice (some ⟨gr, 0 + 16, none⟩) (min 48 (sizL x)) c]).run Try.prog w = .ok (.slice (some ⟨g', 0, none⟩) (m + min 48 (sizL x)) cap') w') ∧ Owns w' w0.heap.size g' cap' (ofL (a ++ gathL x)) ∧ Below w0.heap.size w0 w' := by
  have hp := h2.part 16 (16 + min 48 (sizL x)) (by rw [ofL_size, hx]; omega)
  have hs : ((ofL x).extract 16 (16 + min 48 (sizL x))).size = min 48 (sizL x) := by rw [ByteArray.size_extract, ofL_size, hx]; omega
  obtain ⟨g', cap', w', hr, ho, hb'⟩ := append_next (c := c) h hbl hp (fun e => by cases e) (by rw [ofL_size, hs, ha]; omega)
  rw [ofL_size, ha, hs] at hr
  have e : ofL a ++ (ofL x).extract 16 (16 + min 48 (sizL x)) = ofL (a ++ gathL x) := by
    apply bl_inj
    rw [bl_append, bl_ofL, bl_ofL, bl_extract, bl_ofL, Nat.add_sub_cancel_left]
    rfl
  rw [e] at ho
  exact ⟨g', cap', w', hr, ho, hb'⟩
theorem take_step {A B : List (List UInt8)} {i : Nat} (hA : i < A.length) (hB : i < B.length) : A.take (i + 1) = B.take (i + 1) ↔ A.take i = B.take i ∧ A[i] = B[i] := by
  rw [List.take_succ_eq_append_getElem hA, List.take_succ_eq_append_getElem hB]
  refine ⟨fun h => ?_, fun h => by rw [h.1, h.2]⟩
  obtain ⟨h1, h2⟩ := List.append_inj h (by rw [List.length_take, List.length_take]; omega)
  exact ⟨h1, by simpa using h2⟩
/-- What it answers. -/
def RefPost (w : World) (gen : Nat) (L : List (List UInt8)) (e : Ending) (w' : World) : Prop :=
  ∃ q m k, e = .returned (.tuple #[.slice q m k, .int .i64 ((readsM gen newR L).used : Int)]) ∧ m = (readsM gen newR L).groups.length ∧ GroupsIn w' (Since w) (.slice q m k) (readsM gen newR L).groups ∧ Below w.heap.size w w'
set_option maxRecDepth 100000 in
set_option maxHeartbeats 16000000 in
theorem rgroups_any (gen b off n c : Nat) (L : List (List UInt8)) (w : World) (hL : L.length = n) (hn : n ≤ 100) (h64 : ∀ x ∈ L, x.length = 64) (hgen : gen ≤ 4294967295) (hr : RowsG w b off L) (hnc : n ≤ c) :
    Calls Try.prog 25 #[.slice (some ⟨b, off, none⟩) n c, .int .i64 (gen : Int)] w (RefPost w gen L) := by
  have HH := Lib.hid (And.intro hL (And.intro hn (And.intro h64 (And.intro hgen (And.intro hr hnc)))))
  have hnI : (n : Int) ≤ 100 := by omega
  obtain ⟨W1, hW1⟩ : ∃ W1, w.alloc (.cells #[] 33) = W1 := ⟨_, rfl⟩
  clear hL hn h64 hgen hr hnc
  go_enter Try.func25, Try.ntmps25
  go_wp2_with (fail)
  have gl : GroupsIn W1 (Since w) (.slice (some ⟨w.heap.size, 0, none⟩) 0 0) [] := by rw [← hW1]; exact groups_lit w
  have bl1 : Below w.heap.size w W1 := by rw [← hW1]; exact (Below.refl _ _).alloc (Nat.le_refl _) _
  have H1 := Lib.hid (And.intro gl bl1)
  clear gl bl1 hW1
  go_loopw [6, 7] (fun v x wr => ∃ (place : Nat) (out : List (List UInt8)) (q : Option Addr) (m k : Nat), x = .int .i64 (place : Int) ∧ v = .slice q m k ∧ place ≤ n ∧ m ≤ 100 ∧ Hid (RefSt gen L place out ∧ m = out.length ∧ GroupsIn wr (Since w) (.slice q m k) (out.map ofL) ∧ Below w.heap.size w wr)) (fun _ x _ => n - (intOf x).toNat)
  case atStart => exact ⟨0, [], some ⟨w.heap.size, 0, none⟩, 0, 0, rfl, rfl, Nat.zero_le _, Nat.zero_le _, Lib.hid ⟨RefSt.start gen L, rfl, H1.out.1, H1.out.2⟩⟩
  case round =>
    obtain ⟨place, out, q, m, k, rfl, rfl, hp, hm, HR⟩ := hrel
    obtain ⟨WA, rfl⟩ : ∃ WA, WA = wr := ⟨wr, rfl⟩
    have hp0 : (0 : Int) ≤ (place : Int) := by omega
    have HM := Lib.hid (And.intro hp hm)
    have hmI : (m : Int) ≤ 100 := by omega
    by_cases hlt : place < n
    · have hltI : (place : Int) < (n : Int) := by omega
      have hpl : place < L.length := by rw [HH.out.1]; exact hlt
      have HRW := Lib.hid (HH.out.2.2.2.2.1.below HR.out.2.2.2)
      obtain ⟨gr, cp, hc1, hc2, hc3⟩ := HRW.out place hpl
      have hx64 : L[place].length = 64 := HH.out.2.2.1 _ (List.getElem_mem hpl)
      have HV1 := Lib.hid (row_two hc3 hx64 12 (by decide) (cp - 12))
      obtain ⟨B, hB⟩ : ∃ B, valN ((L[place].drop 12).take 2) = B := ⟨_, rfl⟩
      have hB9 : B < 65536 := by rw [← hB]; exact val2_lt _ _
      rw [hB] at HV1
      have HB := Lib.hid (show ∀ h : place < L.length, behL (L[place]'h) = B from fun _ => hB)
      have hBI : (B : Int) < 65536 := by omega
      have hcpI : (64 : Int) ≤ (cp : Int) := by omega
      have hcp12 : ¬ cp = 12 := by omega
      have HL := Lib.hid hlt
      have HT := Lib.hid (show ∀ i (h : i < (L.drop place).length) (h2 : place + i < L.length), (L.drop place)[i]'h = L[place + i]'h2 from fun i h h2 => List.getElem_drop)
      clear hB hc2 hc3 hx64 hp hm hlt
      go_wp2_with (fail)
      all_goals try (exfalso; omega; done)
      with_reducible (refine HV1.out.mono ?_)
      rintro e W' ⟨rfl, rfl⟩
      by_cases hA : n < place + B + 1
      · have hAI : (n : Int) < (place : Int) + (1 + (B : Int)) := by omega
        have HS := Lib.hid (HR.out.1.stop (fun l rest e => by
          have h1 := group_first e (by rw [List.length_drop, HH.out.1]; have := HH.out.2.1; omega) (by rw [List.length_drop, HH.out.1]; have := HL.out; omega)
          have h2 := group_len e
          rw [HT.out 0 _ (by rw [Nat.add_zero]; exact hpl)] at h1
          simp only [Nat.add_zero] at h1
          rw [HB.out hpl] at h1
          rw [List.length_drop, HH.out.1] at h2
          omega))
        go_wp2_with (fail)
        all_goals try (exfalso; omega; done)
        go_ret2
        exact ⟨q, m, k, by rw [HS.out.2]; rfl, by rw [HS.out.1, List.length_map]; exact HR.out.2.1, by rw [HS.out.1]; exact HR.out.2.2.1, HR.out.2.2.2⟩
      · obtain ⟨P1, hP1⟩ : ∃ P1 : Nat, P1 = place + B + 1 := ⟨_, rfl⟩
        have hP1I : (place : Int) + (1 + (B : Int)) = (P1 : Int) := by omega
        have hAI : ¬ (n : Int) < (P1 : Int) := by omega
        have hP1n : (P1 : Int) ≤ (n : Int) := by omega
        have hP1p : (1 : Int) ≤ (P1 : Int) := by omega
        obtain ⟨X, hX⟩ : ∃ X, place + B = X := ⟨_, rfl⟩
        have hXI : (P1 : Int) - 1 = (X : Int) := by omega
        have hXn : X < n := by omega
        have hXnI : (X : Int) < (n : Int) := by omega
        have hXL : X < L.length := by rw [HH.out.1]; exact hXn
        obtain ⟨gs, cs, hd1, hd2, hd3⟩ := HRW.out X hXL
        have hy64 : L[X].length = 64 := HH.out.2.2.1 _ (List.getElem_mem hXL)
        have HV2 := Lib.hid (row_two hd3 hy64 14 (by decide) (cs - 14))
        obtain ⟨S, hS⟩ : ∃ S, valN ((L[X].drop 14).take 2) = S := ⟨_, rfl⟩
        have hS9 : S < 65536 := by rw [← hS]; exact val2_lt _ _
        rw [hS] at HV2
        have HSZ := Lib.hid (show ∀ h : X < L.length, sizL (L[X]'h) = S from fun _ => hS)
        have hBn : (B : Int) ≤ 100 := by omega
        have hcsI : (64 : Int) ≤ (cs : Int) := by omega
        have hcs14 : ¬ cs = 14 := by omega
        have HX := Lib.hid (And.intro hX hXn)
        clear hS hd2 hd3 hy64 hX hP1 hA hBI hS9 hB9
        by_cases h48 : 48 < S
        · have h48I : (48 : Int) < (S : Int) := by omega
          have HS := Lib.hid (HR.out.1.stop (fun l rest e => by
            have h1 := group_first e (by rw [List.length_drop, HH.out.1]; have := HH.out.2.1; omega) (by rw [List.length_drop, HH.out.1]; have := HL.out; omega)
            have h2 := group_len e
            rw [HT.out 0 _ (by rw [Nat.add_zero]; exact hpl)] at h1
            simp only [Nat.add_zero] at h1
            rw [HB.out hpl] at h1
            have hBT : B < (L.drop place).length := by omega
            have h3 := group_siz e B (by omega) hBT
            rw [HT.out B hBT (by have := HX.out.1; omega)] at h3
            have h4 := HSZ.out hXL
            simp only [HX.out.1] at h3
            omega))
          go_wp2_with (fail)
          all_goals try (exfalso; omega; done)
          with_reducible (refine HV2.out.mono ?_)
          rintro e W' ⟨rfl, rfl⟩
          go_wp2_with (fail)
          all_goals try (exfalso; omega; done)
          go_ret2
          exact ⟨q, m, k, by rw [HS.out.2]; rfl, by rw [HS.out.1, List.length_map]; exact HR.out.2.1, by rw [HS.out.1]; exact HR.out.2.2.1, HR.out.2.2.2⟩
        · have h48I : ¬ (48 : Int) < (S : Int) := by omega
          obtain ⟨W5, hW5⟩ : ∃ W5, WA.alloc (.cells #[] 5) = W5 := ⟨_, rfl⟩
          have hbl5 : Owns W5 WA.heap.size WA.heap.size 0 (ofL []) := by rw [← hW5]; exact bytes_lit WA
          have hb5 : Below WA.heap.size WA W5 := by rw [← hW5]; exact (Below.refl _ _).alloc (Nat.le_refl _) _
          have H5 := Lib.hid (And.intro hbl5 hb5)
          clear hbl5 hb5
          go_wp2_with (fail)
          all_goals try (exfalso; omega; done)
          with_reducible (refine HV2.out.mono ?_)
          rintro e W' ⟨rfl, rfl⟩
          go_wp2_with (fail)
          all_goals try (exfalso; omega; done)
          go_loopw [9, 10] (fun v x wr => ∃ (i g9 m9 k9 : Nat), x = .int .i64 (i : Int) ∧ v = .slice (some ⟨g9, 0, none⟩) m9 k9 ∧ i ≤ B + 1 ∧ m9 ≤ 48 * i ∧ Hid ((refP (L.drop place) i).length = m9 ∧ Owns wr WA.heap.size g9 k9 (ofL (refP (L.drop place) i)) ∧ Below WA.heap.size WA wr)) (fun _ x _ => B + 1 - (intOf x).toNat)
          case atStart => exact ⟨0, WA.heap.size, 0, 0, rfl, rfl, Nat.zero_le _, Nat.zero_le _, Lib.hid ⟨rfl, H5.out.1, H5.out.2⟩⟩
          case round =>
            obtain ⟨i, g9, m9, k9, rfl, rfl, hi, hm9, HI⟩ := hrel
            have hi0 : (0 : Int) ≤ (i : Int) := by omega
            by_cases hil : i < B + 1
            · have hilI : (i : Int) < 1 + (B : Int) := by omega
              obtain ⟨WB, rfl⟩ : ∃ WB, WB = wr := ⟨wr, rfl⟩
              obtain ⟨Y, hY⟩ : ∃ Y, place + i = Y := ⟨_, rfl⟩
              have hYI : (place : Int) + (i : Int) = (Y : Int) := by omega
              have hYw : IntKind.i64.wrap (Y : Int) = (Y : Int) := by rw [IntKind.wrap_i64]; omega
              have hYn : Y < n := by have := HX.out; omega
              have hYnI : (Y : Int) < (n : Int) := by omega
              have hYL : Y < L.length := by rw [HH.out.1]; exact hYn
              have hTL : i < (L.drop place).length := by rw [List.length_drop, HH.out.1]; omega
              obtain ⟨gy, cy, he0, he2, he4⟩ := HRW.out Y hYL
              have he1 := hb_cell HI.out.2.2 he0
              have he3 := he4.below HI.out.2.2
              have hx := HT.out i hTL (by omega)
              have hx2 : (L.drop place)[i] = L[Y] := by
                rw [hx]
                congr 1
              have hy64 : L[Y].length = 64 := HH.out.2.2.1 _ (List.getElem_mem hYL)
              have hsuc := refP_succ hTL
              rw [hx2] at hsuc
              generalize L[Y] = xr at *
              have hb9 : Below WB.heap.size WB WB.drew := (Below.refl _ _).drew
              have HV3 := Lib.hid (row_two (he3.below hb9) hy64 14 (by decide) (cy - 14))
              obtain ⟨g', k', W8, hrun, ow8, bl8⟩ := app_gath (w0 := WA) (c := cy - 16) HI.out.1 hy64 (by have := HX.out; have := HH.out.2.1; omega) (HI.out.2.1.far hb9) (HI.out.2.2.drew) (he3.below hb9)
              rw [← hsuc] at ow8
              obtain ⟨Z, hZ⟩ : ∃ Z, valN ((xr.drop 14).take 2) = Z := ⟨_, rfl⟩
              have hZs : sizL xr = Z := hZ
              rw [hZ] at HV3
              rw [hZs] at hrun
              obtain ⟨MM, hMM⟩ : ∃ MM, min 48 Z = MM := ⟨_, rfl⟩
              rw [hMM] at hrun
              have hlen8 : (refP (L.drop place) (i + 1)).length = m9 + MM := by
                rw [hsuc, List.length_append, HI.out.1]
                unfold gathL
                rw [List.length_take, List.length_drop, hy64, hZs]
                omega
              have HN8 := Lib.hid (And.intro hlen8 (And.intro ow8 bl8))
              have HRUN := Lib.hid hrun
              have HMM := Lib.hid (show min 48 Z = MM from hMM)
              have HC1 := Lib.hid (And.intro he1 (hb_cell bl8 he0))
              have HIL := Lib.hid (And.intro hil hm9)
              have hmin : min (48 : Int) (Z : Int) = (MM : Int) := by omega
              have hM48 : (MM : Int) ≤ 48 := by omega
              have hcyI : (64 : Int) ≤ (cy : Int) := by omega
              have hcy16I : (16 : Int) ≤ (cy : Int) := by omega
              have hcy14 : ¬ cy = 14 := by omega
              have hcy16 : ¬ cy = 16 := by omega
              obtain ⟨NM, hNM⟩ : ∃ NM, 16 + MM = NM := ⟨_, rfl⟩
              have hMw : IntKind.i64.wrap (16 + (MM : Int)) = (NM : Int) := by rw [IntKind.wrap_i64]; omega
              have hMt : NM - 16 = MM := by omega
              have hMle : (NM : Int) ≤ (cy : Int) := by omega
              have hM16 : (16 : Int) ≤ (NM : Int) := by omega
              have hMmx : max (NM : Int) 0 = (NM : Int) := by omega
              clear hNM
              clear hY hYn hYL hTL he0 he4 he1 he2 he3 hx hx2 hy64 hsuc ow8 bl8 hrun hZ hZs hlen8 hi hm9 hil hMM
              go_wp2_with (fail)
              all_goals try (exfalso; omega; done)
              refine wp_region_held_drew (S := fun W => W.cell? ⟨b, off + Y, none⟩ = some (.slice (some ⟨gy, 0, none⟩) 64 cy)) (by kernel_rfl) HC1.out.1 (fun hHeld => ?_)
              refine wpAnyH_take (i := 0) (oi := _) (v := ?vg0) rfl (by kernel_rfl) (by kernel_rfl) (by kernel_rfl) (fun _ _ _ h => h) (Or.inl ⟨by rfl, ?hyg0⟩) (by assumption) ?restg0
              case hyg0 =>
                intro W hSw
                clear hSw
                go_simp
                try (with_reducible rfl)
              try simp only [Act.put, List.getElem_toArray, List.getElem_cons_zero, List.getElem_cons_succ, List.setIfInBounds_toArray, List.set_cons_zero, List.set_cons_succ]
              refine wpAnyH_take (i := 1) (oi := _) (v := ?vg1) rfl (by kernel_rfl) (by kernel_rfl) (by kernel_rfl) (fun _ _ _ h => h) (Or.inl ⟨by rfl, ?hyg1⟩) (by assumption) ?restg1
              case hyg1 =>
                intro W hSw
                clear hSw
                go_simp
                try (with_reducible rfl)
              try simp only [Act.put, List.getElem_toArray, List.getElem_cons_zero, List.getElem_cons_succ, List.setIfInBounds_toArray, List.set_cons_zero, List.set_cons_succ]
              refine wpAnyH_take (i := 2) (oi := _) (v := ?vg2) rfl (by kernel_rfl) (by kernel_rfl) (by kernel_rfl) (fun _ _ _ h => h) (Or.inl ⟨by rfl, ?hyg2⟩) (by assumption) ?restg2
              case hyg2 =>
                intro W hSw
                clear hSw
                go_simp
                try (with_reducible rfl)
              try simp only [Act.put, List.getElem_toArray, List.getElem_cons_zero, List.getElem_cons_succ, List.setIfInBounds_toArray, List.set_cons_zero, List.set_cons_succ]
              refine wpAnyH_take (i := 3) (oi := _) (v := ?vg3) rfl (by kernel_rfl) (by kernel_rfl) (by kernel_rfl) (fun _ _ _ h => h) (Or.inl ⟨by rfl, ?hyg3⟩) (by assumption) ?restg3
              case hyg3 =>
                intro W hSw
                clear hSw
                go_simp
                try (with_reducible rfl)
              try simp only [Act.put, List.getElem_toArray, List.getElem_cons_zero, List.getElem_cons_succ, List.setIfInBounds_toArray, List.set_cons_zero, List.set_cons_succ]
              refine wpAnyH_take (i := 4) (oi := _) (v := ?vg4) rfl (by kernel_rfl) (by kernel_rfl) (by kernel_rfl) (fun _ _ _ h => h) (Or.inl ⟨by rfl, ?hyg4⟩) (by assumption) ?restg4
              case hyg4 =>
                intro W hSw
                clear hSw
                go_simp
                try (with_reducible rfl)
              try simp only [Act.put, List.getElem_toArray, List.getElem_cons_zero, List.getElem_cons_succ, List.setIfInBounds_toArray, List.set_cons_zero, List.set_cons_succ]
              refine wpAnyH_take (i := 5) (oi := _) (v := ?vg5) rfl (by kernel_rfl) (by kernel_rfl) (by kernel_rfl) (fun _ _ _ h => h) (Or.inl ⟨by rfl, ?hyg5⟩) (by assumption) ?restg5
              case hyg5 =>
                intro W hSw
                clear hSw
                go_simp
                try (with_reducible rfl)
              try simp only [Act.put, List.getElem_toArray, List.getElem_cons_zero, List.getElem_cons_succ, List.setIfInBounds_toArray, List.set_cons_zero, List.set_cons_succ]
              refine wpAnyH_take (i := 6) (oi := _) (v := ?vg6) rfl (by kernel_rfl) (by kernel_rfl) (by kernel_rfl) (fun _ _ _ h => h) (Or.inl ⟨by rfl, ?hyg6⟩) (by assumption) ?restg6
              case hyg6 =>
                intro W hSw
                have e1 := hSw
                clear hSw
                go_simp
                try (with_reducible rfl)
              try simp only [Act.put, List.getElem_toArray, List.getElem_cons_zero, List.getElem_cons_succ, List.setIfInBounds_toArray, List.set_cons_zero, List.set_cons_succ]
              refine wpAnyH_take (i := 7) (oi := _) (v := ?vg7) rfl (by kernel_rfl) (by kernel_rfl) (by kernel_rfl) (fun _ _ _ h => h) (Or.inl ⟨by rfl, ?hyg7⟩) (by assumption) ?restg7
              case hyg7 =>
                intro W hSw
                clear hSw
                go_simp
                try (with_reducible rfl)
              try simp only [Act.put, List.getElem_toArray, List.getElem_cons_zero, List.getElem_cons_succ, List.setIfInBounds_toArray, List.set_cons_zero, List.set_cons_succ]
              refine wpAnyH_take (i := 8) (oi := _) (v := ?vg8) rfl (by kernel_rfl) (by kernel_rfl) (by kernel_rfl) (fun _ _ _ h => h) (Or.inl ⟨by rfl, ?hyg8⟩) (by assumption) ?restg8
              case hyg8 =>
                intro W hSw
                clear hSw
                go_simp
                try (with_reducible rfl)
              try simp only [Act.put, List.getElem_toArray, List.getElem_cons_zero, List.getElem_cons_succ, List.setIfInBounds_toArray, List.set_cons_zero, List.set_cons_succ]
              refine wpAnyH_take (i := 9) (oi := _) (v := ?vg9) rfl (by kernel_rfl) (by kernel_rfl) (by kernel_rfl) (fun _ _ _ h => h) (Or.inl ⟨by rfl, ?hyg9⟩) (by assumption) ?restg9
              case hyg9 =>
                intro W hSw
                clear hSw
                go_simp
                try (with_reducible rfl)
              try simp only [Act.put, List.getElem_toArray, List.getElem_cons_zero, List.getElem_cons_succ, List.setIfInBounds_toArray, List.set_cons_zero, List.set_cons_succ]
              refine wpAnyH_take (i := 10) (oi := _) (v := ?vg10) rfl (by kernel_rfl) (by kernel_rfl) (by kernel_rfl) (fun _ _ _ h => h) (Or.inl ⟨by rfl, ?hyg10⟩) (by assumption) ?restg10
              case hyg10 =>
                intro W hSw
                clear hSw
                go_simp
                try (with_reducible rfl)
              try simp only [Act.put, List.getElem_toArray, List.getElem_cons_zero, List.getElem_cons_succ, List.setIfInBounds_toArray, List.set_cons_zero, List.set_cons_succ]
              refine wpAnyH_take (i := 11) (oi := _) (v := ?vg11) rfl (by kernel_rfl) (by kernel_rfl) (by kernel_rfl) (fun _ _ _ h => h) (Or.inl ⟨by rfl, ?hyg11⟩) (by assumption) ?restg11
              case hyg11 =>
                intro W hSw
                clear hSw
                go_simp
                try (with_reducible rfl)
              try simp only [Act.put, List.getElem_toArray, List.getElem_cons_zero, List.getElem_cons_succ, List.setIfInBounds_toArray, List.set_cons_zero, List.set_cons_succ]
              refine wpAnyH_take (i := 12) (oi := _) (v := ?vg12) rfl (by kernel_rfl) (by kernel_rfl) (by kernel_rfl) (fun _ _ _ h => h) (Or.inl ⟨by rfl, ?hyg12⟩) (by assumption) ?restg12
              case hyg12 =>
                intro W hSw
                have e1 := hSw
                clear hSw
                go_simp
                try (with_reducible rfl)
              try simp only [Act.put, List.getElem_toArray, List.getElem_cons_zero, List.getElem_cons_succ, List.setIfInBounds_toArray, List.set_cons_zero, List.set_cons_succ]
              refine wpAnyH_take (i := 13) (oi := _) (v := .slice (some ⟨gy, 0 + 14, none⟩) 2 (cy - 14)) rfl (by kernel_rfl) (by kernel_rfl) (by kernel_rfl) (fun _ _ _ h => h) (Or.inl ⟨by rfl, ?hyg13⟩) (by assumption) ?restg13
              case hyg13 =>
                intro W hSw
                clear hSw
                go_simp
                try (with_reducible rfl)
              try simp only [Act.put, List.getElem_toArray, List.getElem_cons_zero, List.getElem_cons_succ, List.setIfInBounds_toArray, List.set_cons_zero, List.set_cons_succ]
              refine wpAnyH_ready (rs := [14]) (by kernel_rfl) (by simp) ?_
              refine AllReadyH.cons (o := _) rfl (fun K hK => ?_) AllReadyH.nil
              go_simp
              with_reducible (refine HV3.out.mono ?_)
              rintro e w5 ⟨rfl, rfl⟩
              refine hK.out _ _ hHeld (fun _ => ?_)
              clear hK K
              try simp only [Act.put, List.getElem_toArray, List.getElem_cons_zero, List.getElem_cons_succ, List.setIfInBounds_toArray, List.set_cons_zero, List.set_cons_succ]
              refine wpAnyH_take (i := 15) (oi := _) (v := .int .i64 (MM : Int)) rfl (by kernel_rfl) (by kernel_rfl) (by kernel_rfl) (fun _ _ _ h => h) (Or.inl ⟨by rfl, ?hyg15⟩) (by assumption) ?restg15
              case hyg15 =>
                intro W hSw
                clear hSw
                go_simp
                split <;> omega
              try simp only [Act.put, List.getElem_toArray, List.getElem_cons_zero, List.getElem_cons_succ, List.setIfInBounds_toArray, List.set_cons_zero, List.set_cons_succ]
              refine wpAnyH_take (i := 16) (oi := _) (v := .int .i64 (NM : Int)) rfl (by kernel_rfl) (by kernel_rfl) (by kernel_rfl) (fun _ _ _ h => h) (Or.inl ⟨by rfl, ?hyg16⟩) (by assumption) ?restg16
              case hyg16 =>
                intro W hSw
                clear hSw
                go_simp
                try (with_reducible rfl)
              try simp only [Act.put, List.getElem_toArray, List.getElem_cons_zero, List.getElem_cons_succ, List.setIfInBounds_toArray, List.set_cons_zero, List.set_cons_succ]
              refine wpAnyH_take (i := 17) (oi := _) (v := .slice (some ⟨gy, 0 + 16, none⟩) MM (cy - 16)) rfl (by kernel_rfl) (by kernel_rfl) (by kernel_rfl) (fun _ _ _ h => h) (Or.inl ⟨by rfl, ?hyg17⟩) (by assumption) ?restg17
              case hyg17 =>
                intro W hSw
                clear hSw
                go_simp
                try (with_reducible rfl)
              try simp only [Act.put, List.getElem_toArray, List.getElem_cons_zero, List.getElem_cons_succ, List.setIfInBounds_toArray, List.set_cons_zero, List.set_cons_succ]
              refine wpAnyH_ready (rs := [18]) (by kernel_rfl) (by simp) ?_
              refine AllReadyH.cons (o := _) rfl (fun K hK => ?_) AllReadyH.nil
              refine step_of rfl (wp_append_eq (.tmp 50) (.tmp 67) 33 rfl (.slice (some ⟨g9, 0, none⟩) m9 k9) (.slice (some ⟨gy, 0 + 16, none⟩) MM (cy - 16)) (.slice (some ⟨g', 0, none⟩) (m9 + MM) k') W8 (by rfl) (by rfl) HRUN.out ?_)
              refine hK.out _ _ HC1.out.2 (fun _ => ?_)
              clear hK K hHeld
              have hHeld := HC1.out.2
              try simp only [Act.put, List.getElem_toArray, List.getElem_cons_zero, List.getElem_cons_succ, List.setIfInBounds_toArray, List.set_cons_zero, List.set_cons_succ]
              refine wpAnyH_take (i := 19) (oi := _) (v := ?vg19) rfl (by kernel_rfl) (by kernel_rfl) (by kernel_rfl) (fun _ _ _ h => h) (Or.inl ⟨by rfl, ?hyg19⟩) (by assumption) ?restg19
              case hyg19 =>
                intro W hSw
                clear hSw
                go_simp
                try (with_reducible rfl)
              try simp only [Act.put, List.getElem_toArray, List.getElem_cons_zero, List.getElem_cons_succ, List.setIfInBounds_toArray, List.set_cons_zero, List.set_cons_succ]
              refine wpAnyH_done (by kernel_rfl) ?_ _
              clear hHeld
              go_wp2_with (fail)
              all_goals try (exfalso; omega; done)
              go_roundw
              case rel => exact ⟨i + 1, g', m9 + MM, k', by go_num, rfl, by have := HIL.out; omega, by have := HIL.out; omega, HN8⟩
              case measure => simp [intOf]; have := HIL.out; omega
            · have hiB : i = B + 1 := by omega
              subst hiB
              obtain ⟨WC, rfl⟩ : ∃ WC, WC = wr := ⟨wr, rfl⟩
              obtain ⟨P, hP⟩ : ∃ P, refP (L.drop place) (B + 1) = P := ⟨_, rfl⟩
              have hrp := HI.out
              rw [hP] at hrp
              have hm9' : m9 ≤ 4848 := by have := HX.out; have := HH.out.2.1; omega
              have HRS := Lib.hid (rsectors_any m9 (by omega) WC)
              obtain ⟨C, hC⟩ : ∃ C, countS m9 = C := ⟨_, rfl⟩
              rw [hC] at HRS
              have HCC := Lib.hid hC
              have HP := Lib.hid (And.intro hrp hP)
              have hC9 : (C : Int) ≤ 1000 := by have : C ≤ 200 := by rw [← hC]; unfold countS; omega
                                                omega
              have hm9I : (m9 : Int) ≤ 4848 := by omega
              have HM9 := Lib.hid hm9'
              clear hi hm9 hil hm9' hC hrp hP
              by_cases hCB : C = B + 1
              · subst hCB
                have hCBI : ((B + 1 : Nat) : Int) = 1 + (B : Int) := by omega
                rw [hCBI] at HRS hC9
                have RG := rgroup_any gen place m (some ⟨g9, 0, none⟩) (ofL P) m9 k9 WC HH.out.2.2.2.1 (by have := HM.out; have := HH.out.2.1; omega) (by have := HM.out; omega) (by rw [ofL_size]; exact HP.out.1.1) (by have := HM9.out; omega) (by have h1 := HP.out.1.2.1.2.2.2; rw [ofL_size, HP.out.1.1] at h1; exact h1) HP.out.1.2.1.holds (fun e => by cases e)
                have HRG := Lib.hid RG
                clear RG
                go_wp2_with (fail)
                all_goals try (exfalso; omega; done)
                with_reducible (refine HRS.out.mono ?_)
                rintro e W' ⟨rfl, rfl⟩
                go_wp2_with (fail)
                all_goals try (exfalso; omega; done)
                refine HRG.out.mono ?_
                rintro e WG ⟨gq, gk, rfl, giG, bG⟩
                have hcl : countS (bl (ofL P)).length = B + 1 := by rw [bl_ofL, HP.out.1.1, HCC.out]
                rw [hcl] at giG ⊢
                rw [bl_ofL] at giG
                obtain ⟨GL, hGL⟩ : ∃ GL, groupL gen place m P = GL := ⟨_, rfl⟩
                rw [hGL] at giG
                have hGLl : GL.length = B + 1 := by rw [← hGL, groupL_length, HP.out.1.1, HCC.out]
                have HG := Lib.hid (And.intro giG (And.intro bG (And.intro hGL hGLl)))
                clear giG bG hGL hGLl hcl HRG
                go_wp2_with (fail)
                all_goals try (exfalso; omega; done)
                go_loopw [11, 82] (fun v x wr => ∃ (i : Nat) (sm : Bool), x = .int .i64 (i : Int) ∧ v = .bool sm ∧ i ≤ B + 1 ∧ Hid (wr.heap = WG.heap ∧ Below WG.heap.size WG wr ∧ (sm = true ↔ GL.take i = (L.drop place).take i))) (fun _ x _ => B + 1 - (intOf x).toNat)
                case atStart => exact ⟨0, true, rfl, rfl, Nat.zero_le _, Lib.hid ⟨rfl, Below.refl _ _, ⟨fun _ => rfl, fun _ => rfl⟩⟩⟩
                case round =>
                  obtain ⟨i, sm, rfl, rfl, hi, HJ⟩ := hrel
                  have hi0 : (0 : Int) ≤ (i : Int) := by omega
                  by_cases hil : i < B + 1
                  · have hilI : (i : Int) < ((B + 1 : Nat) : Int) := by omega
                    obtain ⟨WE, rfl⟩ : ∃ WE, WE = wr := ⟨wr, rfl⟩
                    obtain ⟨Y, hY⟩ : ∃ Y, place + i = Y := ⟨_, rfl⟩
                    have hYI : (place : Int) + (i : Int) = (Y : Int) := by omega
                    have hYw : IntKind.i64.wrap (Y : Int) = (Y : Int) := by rw [IntKind.wrap_i64]; have := HH.out.2.1; have := HX.out; omega
                    have hYn : Y < n := by have := HX.out; omega
                    have hYnI : (Y : Int) < (n : Int) := by omega
                    have hYL : Y < L.length := by rw [HH.out.1]; exact hYn
                    have hTL : i < (L.drop place).length := by rw [List.length_drop, HH.out.1]; omega
                    have hGi : i < GL.length := by rw [HG.out.2.2.2]; exact hil
                    obtain ⟨gy, cy, he0, he2, he4⟩ := HRW.out Y hYL
                    have bAG : Below WA.heap.size WA WG := HP.out.1.2.2.trans (HG.out.2.1.mono HP.out.1.2.2.size)
                    have he1 := hb_cell bAG he0
                    have he3 := he4.below bAG
                    have hx := HT.out i hTL (by omega)
                    have hx2 : (L.drop place)[i] = L[Y] := by
                      rw [hx]
                      congr 1
                    have hy64 : L[Y].length = 64 := HH.out.2.2.1 _ (List.getElem_mem hYL)
                    obtain ⟨Vs, a1, a2, a3⟩ := HG.out.1
                    obtain ⟨v, b1, b2, b3⟩ := a3 i (by rw [List.length_map]; exact hGi)
                    obtain ⟨pa, pc, hv, hvh, hvn⟩ := rowv_holds b2
                    have hGml : (GL.map ofL).length = B + 1 := by rw [List.length_map, HG.out.2.2.2]
                    rw [hGml] at a1
                    obtain ⟨gg, gc, hq, _⟩ := a1.form (by omega)
                    injection hq with hq1 hq2 hq3
                    subst hq1
                    have hcv := a1.cellAt i (by rw [Nat.mul_one]; exact hil)
                    rw [b1, hv] at hcv
                    have hst := take_step (A := GL) (B := L.drop place) hGi hTL
                    rw [hx2] at hst
                    have hgm : (GL.map ofL)[i]'(by rw [List.length_map]; exact hGi) = ofL GL[i] := List.getElem_map ..
                    rw [hgm] at hcv hvh
                    have hof : (ofL GL[i] = ofL L[Y]) ↔ GL[i] = L[Y] := ⟨fun e => by have := congrArg bl e; rwa [bl_ofL, bl_ofL] at this, fun e => by rw [e]⟩
                    rw [← hof] at hst
                    obtain ⟨s1, hs1⟩ : ∃ s1, ofL GL[i] = s1 := ⟨_, rfl⟩
                    obtain ⟨s2, hs2⟩ : ∃ s2, ofL L[Y] = s2 := ⟨_, rfl⟩
                    have hz2 : s2.size = 64 := by rw [← hs2, ofL_size, hy64]
                    rw [hs1] at hcv hvh
                    rw [hs1, hs2] at hst
                    rw [hs2] at he3
                    rw [← hz2] at he1
                    have HC1 := Lib.hid (And.intro ((World.cell?_of_heap HJ.out.1 _).trans hcv) (And.intro ((World.cell?_of_heap HJ.out.1 _).trans he1) (And.intro (hvh.of_heap HJ.out.1) (he3.of_heap HJ.out.1))))
                    have HST := Lib.hid hst
                    have HIL := Lib.hid hil
                    have c1 := HC1.out.1
                    have hz2n := hz2
                    have hBd : Below WG.heap.size WG WE.drew := HJ.out.2.1.drew
                    have HBd := Lib.hid (And.intro (show WE.drew.heap = WG.heap from HJ.out.1) hBd)
                    clear hY hYn hYL hTL hGi he0 he2 he4 bAG he1 he3 hx hx2 hy64 a1 a2 a3 b1 b2 b3 hv hvh hvn hGml hq2 hq3 hcv hst hgm hof hs1 hs2 hz2 hz2n hil hi hBd
                    cases sm with
                    | true =>
                      go_wp2_with (fail)
                      all_goals try (exfalso; omega; done)
                      refine wp_region_held_drew (S := fun W => W.heap = WE.heap) (by kernel_rfl) rfl (fun hHeld => ?_)
                      refine wpAnyH_take (i := 0) (oi := _) (v := ?vt0) rfl (by kernel_rfl) (by kernel_rfl) (by kernel_rfl) (fun _ _ _ h => h) (Or.inl ⟨by rfl, ?hyt0⟩) (by assumption) ?restt0
                      case hyt0 =>
                        intro W hSw
                        clear hSw
                        go_simp
                        try (with_reducible rfl)
                      try simp only [Act.put, List.getElem_toArray, List.getElem_cons_zero, List.getElem_cons_succ, List.setIfInBounds_toArray, List.set_cons_zero, List.set_cons_succ]
                      refine wpAnyH_take (i := 1) (oi := _) (v := ?vt1) rfl (by kernel_rfl) (by kernel_rfl) (by kernel_rfl) (fun _ _ _ h => h) (Or.inl ⟨by rfl, ?hyt1⟩) (by assumption) ?restt1
                      case hyt1 =>
                        intro W hSw
                        clear hSw
                        go_simp
                        try (with_reducible rfl)
                      try simp only [Act.put, List.getElem_toArray, List.getElem_cons_zero, List.getElem_cons_succ, List.setIfInBounds_toArray, List.set_cons_zero, List.set_cons_succ]
                      refine wpAnyH_take (i := 2) (oi := _) (v := ?vt2) rfl (by kernel_rfl) (by kernel_rfl) (by kernel_rfl) (fun _ _ _ h => h) (Or.inl ⟨by rfl, ?hyt2⟩) (by assumption) ?restt2
                      case hyt2 =>
                        intro W hSw
                        clear hSw
                        go_simp
                        try (with_reducible rfl)
                      try simp only [Act.put, List.getElem_toArray, List.getElem_cons_zero, List.getElem_cons_succ, List.setIfInBounds_toArray, List.set_cons_zero, List.set_cons_succ]
                      refine wpAnyH_take (i := 3) (oi := _) (v := .string s1) rfl (by kernel_rfl) (by kernel_rfl) (by kernel_rfl) (fun _ _ _ h => h) (Or.inl ⟨by rfl, ?hyt3⟩) (by assumption) ?restt3
                      case hyt3 =>
                        intro W hSw
                        have hSk := hSw
                        clear hSw
                        exact exec_conv_str (HC1.out.2.2.1.of_heap hSk) pc (holds_none (HC1.out.2.2.1.of_heap hSk)) rfl rfl
                      try simp only [Act.put, List.getElem_toArray, List.getElem_cons_zero, List.getElem_cons_succ, List.setIfInBounds_toArray, List.set_cons_zero, List.set_cons_succ]
                      refine wpAnyH_take (i := 4) (oi := _) (v := ?vt4) rfl (by kernel_rfl) (by kernel_rfl) (by kernel_rfl) (fun _ _ _ h => h) (Or.inl ⟨by rfl, ?hyt4⟩) (by assumption) ?restt4
                      case hyt4 =>
                        intro W hSw
                        clear hSw
                        go_simp
                        try (with_reducible rfl)
                      try simp only [Act.put, List.getElem_toArray, List.getElem_cons_zero, List.getElem_cons_succ, List.setIfInBounds_toArray, List.set_cons_zero, List.set_cons_succ]
                      refine wpAnyH_take (i := 5) (oi := _) (v := ?vt5) rfl (by kernel_rfl) (by kernel_rfl) (by kernel_rfl) (fun _ _ _ h => h) (Or.inl ⟨by rfl, ?hyt5⟩) (by assumption) ?restt5
                      case hyt5 =>
                        intro W hSw
                        clear hSw
                        go_simp
                        try (with_reducible rfl)
                      try simp only [Act.put, List.getElem_toArray, List.getElem_cons_zero, List.getElem_cons_succ, List.setIfInBounds_toArray, List.set_cons_zero, List.set_cons_succ]
                      refine wpAnyH_take (i := 6) (oi := _) (v := ?vt6) rfl (by kernel_rfl) (by kernel_rfl) (by kernel_rfl) (fun _ _ _ h => h) (Or.inl ⟨by rfl, ?hyt6⟩) (by assumption) ?restt6
                      case hyt6 =>
                        intro W hSw
                        clear hSw
                        go_simp
                        try (with_reducible rfl)
                      try simp only [Act.put, List.getElem_toArray, List.getElem_cons_zero, List.getElem_cons_succ, List.setIfInBounds_toArray, List.set_cons_zero, List.set_cons_succ]
                      refine wpAnyH_take (i := 7) (oi := _) (v := ?vt7) rfl (by kernel_rfl) (by kernel_rfl) (by kernel_rfl) (fun _ _ _ h => h) (Or.inl ⟨by rfl, ?hyt7⟩) (by assumption) ?restt7
                      case hyt7 =>
                        intro W hSw
                        clear hSw
                        go_simp
                        try (with_reducible rfl)
                      try simp only [Act.put, List.getElem_toArray, List.getElem_cons_zero, List.getElem_cons_succ, List.setIfInBounds_toArray, List.set_cons_zero, List.set_cons_succ]
                      refine wpAnyH_take (i := 8) (oi := _) (v := ?vt8) rfl (by kernel_rfl) (by kernel_rfl) (by kernel_rfl) (fun _ _ _ h => h) (Or.inl ⟨by rfl, ?hyt8⟩) (by assumption) ?restt8
                      case hyt8 =>
                        intro W hSw
                        clear hSw
                        go_simp
                        try (with_reducible rfl)
                      try simp only [Act.put, List.getElem_toArray, List.getElem_cons_zero, List.getElem_cons_succ, List.setIfInBounds_toArray, List.set_cons_zero, List.set_cons_succ]
                      refine wpAnyH_take (i := 9) (oi := _) (v := ?vt9) rfl (by kernel_rfl) (by kernel_rfl) (by kernel_rfl) (fun _ _ _ h => h) (Or.inl ⟨by rfl, ?hyt9⟩) (by assumption) ?restt9
                      case hyt9 =>
                        intro W hSw
                        have e1 := (World.cell?_of_heap hSw _).trans HC1.out.1
                        have e2 := (World.cell?_of_heap hSw _).trans HC1.out.2.1
                        clear hSw
                        go_simp
                        try (with_reducible rfl)
                      try simp only [Act.put, List.getElem_toArray, List.getElem_cons_zero, List.getElem_cons_succ, List.setIfInBounds_toArray, List.set_cons_zero, List.set_cons_succ]
                      refine wpAnyH_take (i := 10) (oi := _) (v := .string s2) rfl (by kernel_rfl) (by kernel_rfl) (by kernel_rfl) (fun _ _ _ h => h) (Or.inl ⟨by rfl, ?hyt10⟩) (by assumption) ?restt10
                      case hyt10 =>
                        intro W hSw
                        have hSk := hSw
                        clear hSw
                        exact exec_conv_str (HC1.out.2.2.2.of_heap hSk) cy (holds_none (HC1.out.2.2.2.of_heap hSk)) rfl rfl
                      try simp only [Act.put, List.getElem_toArray, List.getElem_cons_zero, List.getElem_cons_succ, List.setIfInBounds_toArray, List.set_cons_zero, List.set_cons_succ]
                      refine wpAnyH_take (i := 11) (oi := _) (v := ?vt11) rfl (by kernel_rfl) (by kernel_rfl) (by kernel_rfl) (fun _ _ _ h => h) (Or.inl ⟨by rfl, ?hyt11⟩) (by assumption) ?restt11
                      case hyt11 =>
                        intro W hSw
                        clear hSw
                        go_simp
                        try (with_reducible rfl)
                      try simp only [Act.put, List.getElem_toArray, List.getElem_cons_zero, List.getElem_cons_succ, List.setIfInBounds_toArray, List.set_cons_zero, List.set_cons_succ]
                      refine wpAnyH_take (i := 12) (oi := _) (v := ?vt12) rfl (by kernel_rfl) (by kernel_rfl) (by kernel_rfl) (fun _ _ _ h => h) (Or.inl ⟨by rfl, ?hyt12⟩) (by assumption) ?restt12
                      case hyt12 =>
                        intro W hSw
                        clear hSw
                        go_simp
                        try (with_reducible rfl)
                      try simp only [Act.put, List.getElem_toArray, List.getElem_cons_zero, List.getElem_cons_succ, List.setIfInBounds_toArray, List.set_cons_zero, List.set_cons_succ]
                      refine wpAnyH_take (i := 13) (oi := _) (v := ?vt13) rfl (by kernel_rfl) (by kernel_rfl) (by kernel_rfl) (fun _ _ _ h => h) (Or.inl ⟨by rfl, ?hyt13⟩) (by assumption) ?restt13
                      case hyt13 =>
                        intro W hSw
                        clear hSw
                        go_simp
                        try (with_reducible rfl)
                      try simp only [Act.put, List.getElem_toArray, List.getElem_cons_zero, List.getElem_cons_succ, List.setIfInBounds_toArray, List.set_cons_zero, List.set_cons_succ]
                      refine wpAnyH_done (by kernel_rfl) ?_ _
                      clear hHeld
                      by_cases he : s1 = s2
                      · subst he
                        have HN := Lib.hid (show (true = true ↔ GL.take (i + 1) = (L.drop place).take (i + 1)) from ⟨fun _ => HST.out.2 ⟨HJ.out.2.2.1 (by first | rfl | trivial), by first | rfl | trivial⟩, fun _ => by first | rfl | trivial⟩)
                        rw [show (s1.toList == s1.toList) = true by simp]
                        go_wp2_with (fail)
                        all_goals try (exfalso; omega; done)
                        go_roundw
                        case rel => exact ⟨i + 1, true, by go_num, rfl, by have := HIL.out; omega, Lib.hid ⟨HBd.out.1, HBd.out.2, HN.out⟩⟩
                        case measure => simp [intOf]; have := HIL.out; omega
                      · have HE := Lib.hid he
                        have HN := Lib.hid (show (false = true ↔ GL.take (i + 1) = (L.drop place).take (i + 1)) from ⟨fun h => (by cases h), fun h => absurd (HST.out.1 h).2 HE.out⟩)
                        rw [show (s1.toList == s2.toList) = false from toList_same he]
                        clear he
                        go_wp2_with (fail)
                        all_goals try (exfalso; omega; done)
                        go_roundw
                        case rel => exact ⟨i + 1, false, by go_num, rfl, by have := HIL.out; omega, Lib.hid ⟨HBd.out.1, HBd.out.2, HN.out⟩⟩
                        case measure => simp [intOf]; have := HIL.out; omega
                    | false =>
                      have HN := Lib.hid (show (false = true ↔ GL.take (i + 1) = (L.drop place).take (i + 1)) from ⟨fun h => (by cases h), fun h => by
                        have h1 := HJ.out.2.2.2 (HST.out.1 h).1
                        cases h1⟩)
                      go_wp2_with (fail)
                      all_goals try (exfalso; omega; done)
                      refine wp_region_held_drew (S := fun W => W.heap = WE.heap) (by kernel_rfl) rfl (fun hHeld => ?_)
                      refine wpAnyH_take (i := 0) (oi := _) (v := ?vf0) rfl (by kernel_rfl) (by kernel_rfl) (by kernel_rfl) (fun _ _ _ h => h) (Or.inl ⟨by rfl, ?hyf0⟩) (by assumption) ?restf0
                      case hyf0 =>
                        intro W hSw
                        clear hSw
                        go_simp
                        try (with_reducible rfl)
                      try simp only [Act.put, List.getElem_toArray, List.getElem_cons_zero, List.getElem_cons_succ, List.setIfInBounds_toArray, List.set_cons_zero, List.set_cons_succ]
                      refine wpAnyH_take (i := 1) (oi := _) (v := ?vf1) rfl (by kernel_rfl) (by kernel_rfl) (by kernel_rfl) (fun _ _ _ h => h) (Or.inl ⟨by rfl, ?hyf1⟩) (by assumption) ?restf1
                      case hyf1 =>
                        intro W hSw
                        clear hSw
                        go_simp
                        try (with_reducible rfl)
                      try simp only [Act.put, List.getElem_toArray, List.getElem_cons_zero, List.getElem_cons_succ, List.setIfInBounds_toArray, List.set_cons_zero, List.set_cons_succ]
                      refine wpAnyH_take (i := 2) (oi := _) (v := _) rfl (by kernel_rfl) (by kernel_rfl) (by kernel_rfl) (fun _ _ _ h => h) (Or.inr ⟨by rfl, rfl⟩) (by assumption) ?resto2
                      try simp only [Act.put, List.getElem_toArray, List.getElem_cons_zero, List.getElem_cons_succ, List.setIfInBounds_toArray, List.set_cons_zero, List.set_cons_succ]
                      refine wpAnyH_take (i := 3) (oi := _) (v := _) rfl (by kernel_rfl) (by kernel_rfl) (by kernel_rfl) (fun _ _ _ h => h) (Or.inr ⟨by rfl, rfl⟩) (by assumption) ?resto3
                      try simp only [Act.put, List.getElem_toArray, List.getElem_cons_zero, List.getElem_cons_succ, List.setIfInBounds_toArray, List.set_cons_zero, List.set_cons_succ]
                      refine wpAnyH_take (i := 4) (oi := _) (v := _) rfl (by kernel_rfl) (by kernel_rfl) (by kernel_rfl) (fun _ _ _ h => h) (Or.inr ⟨by rfl, rfl⟩) (by assumption) ?resto4
                      try simp only [Act.put, List.getElem_toArray, List.getElem_cons_zero, List.getElem_cons_succ, List.setIfInBounds_toArray, List.set_cons_zero, List.set_cons_succ]
                      refine wpAnyH_take (i := 5) (oi := _) (v := _) rfl (by kernel_rfl) (by kernel_rfl) (by kernel_rfl) (fun _ _ _ h => h) (Or.inr ⟨by rfl, rfl⟩) (by assumption) ?resto5
                      try simp only [Act.put, List.getElem_toArray, List.getElem_cons_zero, List.getElem_cons_succ, List.setIfInBounds_toArray, List.set_cons_zero, List.set_cons_succ]
                      refine wpAnyH_take (i := 6) (oi := _) (v := _) rfl (by kernel_rfl) (by kernel_rfl) (by kernel_rfl) (fun _ _ _ h => h) (Or.inr ⟨by rfl, rfl⟩) (by assumption) ?resto6
                      try simp only [Act.put, List.getElem_toArray, List.getElem_cons_zero, List.getElem_cons_succ, List.setIfInBounds_toArray, List.set_cons_zero, List.set_cons_succ]
                      refine wpAnyH_take (i := 7) (oi := _) (v := _) rfl (by kernel_rfl) (by kernel_rfl) (by kernel_rfl) (fun _ _ _ h => h) (Or.inr ⟨by rfl, rfl⟩) (by assumption) ?resto7
                      try simp only [Act.put, List.getElem_toArray, List.getElem_cons_zero, List.getElem_cons_succ, List.setIfInBounds_toArray, List.set_cons_zero, List.set_cons_succ]
                      refine wpAnyH_take (i := 8) (oi := _) (v := _) rfl (by kernel_rfl) (by kernel_rfl) (by kernel_rfl) (fun _ _ _ h => h) (Or.inr ⟨by rfl, rfl⟩) (by assumption) ?resto8
                      try simp only [Act.put, List.getElem_toArray, List.getElem_cons_zero, List.getElem_cons_succ, List.setIfInBounds_toArray, List.set_cons_zero, List.set_cons_succ]
                      refine wpAnyH_take (i := 9) (oi := _) (v := _) rfl (by kernel_rfl) (by kernel_rfl) (by kernel_rfl) (fun _ _ _ h => h) (Or.inr ⟨by rfl, rfl⟩) (by assumption) ?resto9
                      try simp only [Act.put, List.getElem_toArray, List.getElem_cons_zero, List.getElem_cons_succ, List.setIfInBounds_toArray, List.set_cons_zero, List.set_cons_succ]
                      refine wpAnyH_take (i := 10) (oi := _) (v := _) rfl (by kernel_rfl) (by kernel_rfl) (by kernel_rfl) (fun _ _ _ h => h) (Or.inr ⟨by rfl, rfl⟩) (by assumption) ?resto10
                      try simp only [Act.put, List.getElem_toArray, List.getElem_cons_zero, List.getElem_cons_succ, List.setIfInBounds_toArray, List.set_cons_zero, List.set_cons_succ]
                      refine wpAnyH_take (i := 11) (oi := _) (v := _) rfl (by kernel_rfl) (by kernel_rfl) (by kernel_rfl) (fun _ _ _ h => h) (Or.inr ⟨by rfl, rfl⟩) (by assumption) ?resto11
                      try simp only [Act.put, List.getElem_toArray, List.getElem_cons_zero, List.getElem_cons_succ, List.setIfInBounds_toArray, List.set_cons_zero, List.set_cons_succ]
                      refine wpAnyH_take (i := 12) (oi := _) (v := ?vf12) rfl (by kernel_rfl) (by kernel_rfl) (by kernel_rfl) (fun _ _ _ h => h) (Or.inl ⟨by rfl, ?hyf12⟩) (by assumption) ?restf12
                      case hyf12 =>
                        intro W hSw
                        clear hSw
                        go_simp
                        try (with_reducible rfl)
                      try simp only [Act.put, List.getElem_toArray, List.getElem_cons_zero, List.getElem_cons_succ, List.setIfInBounds_toArray, List.set_cons_zero, List.set_cons_succ]
                      refine wpAnyH_take (i := 13) (oi := _) (v := ?vf13) rfl (by kernel_rfl) (by kernel_rfl) (by kernel_rfl) (fun _ _ _ h => h) (Or.inl ⟨by rfl, ?hyf13⟩) (by assumption) ?restf13
                      case hyf13 =>
                        intro W hSw
                        clear hSw
                        go_simp
                        try (with_reducible rfl)
                      try simp only [Act.put, List.getElem_toArray, List.getElem_cons_zero, List.getElem_cons_succ, List.setIfInBounds_toArray, List.set_cons_zero, List.set_cons_succ]
                      refine wpAnyH_done (by kernel_rfl) ?_ _
                      clear hHeld
                      go_wp2_with (fail)
                      all_goals try (exfalso; omega; done)
                      go_roundw
                      case rel => exact ⟨i + 1, false, by go_num, rfl, by have := HIL.out; omega, Lib.hid ⟨HBd.out.1, HBd.out.2, HN.out⟩⟩
                      case measure => simp [intOf]; have := HIL.out; omega
                  · have hiB2 : i = B + 1 := by omega
                    subst hiB2
                    obtain ⟨WD, rfl⟩ : ∃ WD, WD = wr := ⟨wr, rfl⟩
                    have hTl : B + 1 ≤ (L.drop place).length := by rw [List.length_drop, HH.out.1]; have := HX.out; omega
                    have hsm : sm = true ↔ GL = (L.drop place).take (B + 1) := by
                      have h1 := HJ.out.2.2
                      rwa [List.take_of_length_le (by rw [HG.out.2.2.2]; exact Nat.le_refl _)] at h1
                    have HSM := Lib.hid hsm
                    have bWD : Below WA.heap.size WA WD := HP.out.1.2.2.trans ((HG.out.2.1.trans (HJ.out.2.1.mono HG.out.2.1.size)).mono HP.out.1.2.2.size)
                    have HBD := Lib.hid bWD
                    clear hsm hTl bWD hi hil
                    cases sm with
                    | false =>
                      have HS := Lib.hid (HR.out.1.stop (fun l rest e => by
                        have h1 := group_first e (by rw [List.length_drop, HH.out.1]; have := HH.out.2.1; omega) (by rw [List.length_drop, HH.out.1]; have := HL.out; omega)
                        have h2 := group_len e
                        rw [HT.out 0 _ (by rw [Nat.add_zero]; exact hpl)] at h1
                        simp only [Nat.add_zero] at h1
                        rw [HB.out hpl] at h1
                        have h3 := group_all e
                        rw [← h1, HP.out.2] at h3
                        have h4 : GL = (L.drop place).take (B + 1) := by
                          rw [← HG.out.2.2.1, HR.out.2.1, h3, e, h1, List.take_left' (groupL_length _ _ _ _)]
                        have h5 := HSM.out.2 h4
                        cases h5))
                      go_wp2_with (fail)
                      all_goals try (exfalso; omega; done)
                      go_ret2
                      exact ⟨q, m, k, by rw [HS.out.2]; rfl, by rw [HS.out.1, List.length_map]; exact HR.out.2.1, by rw [HS.out.1]; exact HR.out.2.2.1.far HBD.out, HR.out.2.2.2.trans (HBD.out.mono HR.out.2.2.2.size)⟩
                    | true =>
                      have hC2 : countS P.length = B + 1 := by rw [HP.out.1.1, HCC.out]
                      have hsm2 := HSM.out.1 (by first | rfl | trivial)
                      have RN := HR.out.1.next (p := P) (by rw [HH.out.1]; have := HH.out.2.1; omega) (by rw [hC2, ← hsm2, ← HG.out.2.2.1, HR.out.2.1]) (by rw [hC2, HH.out.1]; have := HX.out; omega)
                      rw [hC2] at RN
                      obtain ⟨U, hU⟩ : ∃ U, WD.alloc (.cells #[.slice (some ⟨g9, 0, none⟩) m9 k9] 33) = U := ⟨_, rfl⟩
                      have bU : Below WD.heap.size WD U := by rw [← hU]; exact (Below.refl _ _).alloc (Nat.le_refl _) _
                      have nU : U.heap[WD.heap.size]? = some (.cells #[.slice (some ⟨g9, 0, none⟩) m9 k9] 33 (0, 0)) := by rw [← hU]; exact heap_alloc_new _ _
                      have bCD : Below WC.heap.size WC WD := HG.out.2.1.trans (HJ.out.2.1.mono HG.out.2.1.size)
                      have oP := ((HP.out.1.2.1.far bCD).far bU).1
                      have oP2 : U.ownsRow 0 5 1 (.slice (some ⟨g9, 0, none⟩) m9 k9) (ofL P).size (bytesV (ofL P)) := by
                        have e : (ofL P).size = m9 := by rw [ofL_size, HP.out.1.1]
                        have h0 := oP
                        rw [e] at h0 ⊢
                        rcases h0.2 with ⟨e0, h00⟩ | ⟨g', cap', cur', e0, _, h1, h2⟩
                        · cases e0
                        · exact ⟨h0.1, .inr ⟨g', cap', cur', e0, Nat.zero_le _, h1, h2⟩⟩
                      have hol : (out.map ofL).length = m := by rw [List.length_map, HR.out.2.1]
                      have bAU : Below WA.heap.size WA U := HBD.out.trans (bU.mono HBD.out.size)
                      obtain ⟨q', c', W8, hrun, gin, hgrow, hgY⟩ := (HR.out.2.2.1.far bAU).push oP2 (by rw [cell_of_row _ _ _ _ _ _ nU]; rfl) (by rw [hol]; have := HM.out; omega)
                      rw [hol] at hrun gin
                      have bwU : Below w.heap.size w U := HR.out.2.2.2.trans (bAU.mono HR.out.2.2.2.size)
                      have hb8 : Below w.heap.size w W8 := bwU.grown hgrow bwU.size (fun j hj => hgY j hj)
                      have gin2 := gin.mono (Y' := Since w) (fun j hj => by
                        rcases hj with h | h | h
                        · exact h
                        · have e : g9 = j := by injection h
                          have h1 := HP.out.1.2.1.2.1
                          have h2 := HR.out.2.2.2.size
                          show w.heap.size ≤ j
                          omega
                        · have h2 := bwU.size
                          show w.heap.size ≤ j
                          omega)
                      rw [show out.map ofL ++ [ofL P] = (out ++ [P]).map ofL by rw [List.map_append]; rfl] at gin2
                      have HN5 := Lib.hid (show RefSt gen L (place + (B + 1)) (out ++ [P]) ∧ m + 1 = (out ++ [P]).length ∧ GroupsIn W8 (Since w) (.slice q' (m + 1) c') ((out ++ [P]).map ofL) ∧ Below w.heap.size w W8 from ⟨RN, by rw [List.length_append, HR.out.2.1]; rfl, gin2, hb8⟩)
                      have HRUN := Lib.hid hrun
                      have HU := Lib.hid hU
                      have hpb : ((place + (B + 1) : Nat) : Int) = (place : Int) + (1 + (B : Int)) := by omega
                      have HPB := Lib.hid hpb
                      clear hC2 hsm2 RN hU bU nU bCD oP oP2 hol bAU hrun gin hgrow hgY bwU hb8 gin2 hpb
                      go_wp2_with (at_builtin; refine wpList_append_eq rfl (.tmp 103) (.tmp 105) 28 rfl _ _ _ _ rfl rfl (by rw [HU.out]; exact HRUN.out) ?_)
                      all_goals try (exfalso; omega; done)
                      go_roundw
                      case rel => exact ⟨place + (B + 1), out ++ [P], q', m + 1, c', by first | (rw [HPB.out]; go_num; done) | go_num, rfl, by have := HX.out; omega, by
                        have h1 : RefSt gen L (place + (B + 1)) (out ++ [P]) := HN5.out.1
                        obtain ⟨_, _, _, _, _, _, h5, h6⟩ := h1
                        have h7 := HN5.out.2.1
                        have := HH.out.1
                        have := HH.out.2.1
                        omega, HN5⟩
                      case measure => simp [intOf]; have := HX.out; omega
              · have HS := Lib.hid (HR.out.1.stop (fun l rest e => by
                  have h1 := group_first e (by rw [List.length_drop, HH.out.1]; have := HH.out.2.1; omega) (by rw [List.length_drop, HH.out.1]; have := HL.out; omega)
                  rw [HT.out 0 _ (by rw [Nat.add_zero]; exact hpl)] at h1
                  simp only [Nat.add_zero] at h1
                  rw [HB.out hpl] at h1
                  have h3 := group_all e
                  rw [← h1, HP.out.2] at h3
                  have h4 := HCC.out
                  rw [← HP.out.1.1, h3] at h4
                  exact hCB (by rw [← h4, ← h1])))
                have hCBI : ¬ (C : Int) = 1 + (B : Int) := by omega
                go_wp2_with (fail)
                all_goals try (exfalso; omega; done)
                with_reducible (refine HRS.out.mono ?_)
                rintro e W' ⟨rfl, rfl⟩
                go_wp2_with (fail)
                all_goals try (exfalso; omega; done)
                go_ret2
                exact ⟨q, m, k, by rw [HS.out.2]; rfl, by rw [HS.out.1, List.length_map]; exact HR.out.2.1, by rw [HS.out.1]; exact HR.out.2.2.1.far HP.out.1.2.2, HR.out.2.2.2.trans (HP.out.1.2.2.mono HR.out.2.2.2.size)⟩
    · have hpn : place = n := by omega
      have hall : RefSt gen L L.length out := by rw [HH.out.1, ← hpn]; exact HR.out.1
      have HS := Lib.hid (show (readsM gen newR L).groups = out.map ofL ∧ (readsM gen newR L).used = place from ⟨hall.all.1, by rw [hall.all.2, HH.out.1, hpn]⟩)
      clear hall
      clear hp hm hlt
      go_wp2_with (fail)
      all_goals try (exfalso; omega; done)
      go_ret2
      exact ⟨q, m, k, by rw [HS.out.2]; rfl, by rw [HS.out.1, List.length_map]; exact HR.out.2.1, by rw [HS.out.1]; exact HR.out.2.2.1, HR.out.2.2.2⟩
end Go.Proofs.Ytggchfmglaijgaa
