/- Proved here: what Append does to a tape with room, whatever the bytes, and wherever the power goes. -/
import Derived.Test.YtggchfmglaijgaaTapeRest
import Derived.Test.YtggchfmglaijgaaTapeReads
import Derived.Deep.CutRange
namespace Go.Proofs.Ytggchfmglaijgaa
open Go.RowKit

theorem told_nine (t : Nat) (W : World) (G lo hi gen groups used : Nat) (h : W.heap[t]? = some (.cells (tapeV G lo hi gen groups used false) 118 (0, 0))) :
    Calls Try.prog 67 #[.pointer (some ⟨t, 0, none⟩), .int .i64 9] W fun e W' => e = .returned (.int .i64 9) ∧ W' = W.setCell ⟨t, 6, none⟩ (.bool true) := by
  have c6 : W.cell? ⟨t, 6, none⟩ = some (.bool false) := by rw [cell_of_row _ _ _ _ _ _ h]; rfl
  have f6 : W.frozen? ⟨t, 6, none⟩ = false := frozen_of_row _ _ _ _ _ h
  clear h
  go_enter Try.func67, Try.ntmps67
  go_wp2_with (fail)
  go_ret
  exact ⟨rfl, rfl⟩
theorem laid_bounds (M : DM) (lo used gen groups count : Nat) (l : List UInt8) : ∀ k, (laidM M lo used gen groups count l k).steps ≤ M.steps + k ∧ (laidM M lo used gen groups count l k).fuse.getD 0 ≤ M.fuse.getD 0 ∧ (laidM M lo used gen groups count l k).loose.length ≤ M.loose.length + k
  | 0 => ⟨Nat.le_refl _, Nat.le_refl _, Nat.le_refl _⟩
  | k + 1 => by
    obtain ⟨a, b, c⟩ := laid_bounds M lo used gen groups count l k
    rw [laidM]
    generalize laidM M lo used gen groups count l k = X at *
    cases ho : X.off with
    | true =>
      have e : X.write (lo + used + k) (ofL (sectorL gen (used + k) groups (count - 1 - k) ((l.drop (48 * k)).take 48))) = X.step := by unfold DM.write; rw [if_pos ho]
      rw [e, X.step_no ho]
      exact ⟨by show X.steps ≤ _; omega, b, by show X.loose.length ≤ _; omega⟩
    | false =>
      rw [X.write_yes ho]
      refine ⟨by show X.step.steps ≤ _; rw [X.step_steps ho]; omega, ?_, by show (X.loose ++ [_]).length ≤ _; rw [List.length_append]; show X.loose.length + 1 ≤ _; omega⟩
      show X.step.fuse.getD 0 ≤ _
      rw [X.step_fuse ho]
      cases hf : X.fuse with
      | none => exact Nat.zero_le _
      | some q =>
        rw [hf, Option.getD_some] at b
        rw [Option.map_some, Option.getD_some]
        omega
def WithT (F : Nat → Prop) (t k : Nat) : Prop := F k ∨ k = t
/-- What is asked. -/
structure AppIn (w W : World) (F : Nat → Prop) (G N : Nat) (M : DM) (t lo hi gen groups used : Nat) (p : Option Addr) (n c : Nat) (s : ByteArray) : Prop where
  d : DW w W F G N M
  m1 : M.steps ≤ 1000000000
  m2 : M.loose.length ≤ 1000000000
  m3 : M.fuse.getD 0 ≤ 9223372036854775807
  tp : W.heap[t]? = some (.cells (tapeV G lo hi gen groups used false) 118 (0, 0))
  ft : ¬ F t
  wt : w.heap.size ≤ t
  hiN : hi ≤ N
  N9 : N ≤ 16384
  gen9 : gen ≤ 4294967295
  gr9 : groups ≤ 1000000
  sz : s.size = n
  n9 : n ≤ 1048576
  nc : n ≤ c
  hp : HoldsB W p s
  hnil : p = none → c = 0
  fp : ∀ a, p = some a → ¬ F a.block ∧ a.block < W.heap.size
  room : lo + used + countS n ≤ hi
/-- The loop's state. -/
structure AppSt (w W wr : World) (F Fk : Nat → Prop) (G N t lo hi gen groups used count : Nat) (M : DM) (p : Option Addr) (s : ByteArray) (k : Nat) : Prop where
  d : DW w wr Fk G N (laidM M lo used gen groups count (bl s) k)
  tp : wr.heap[t]? = some (.cells (tapeV G lo hi gen groups used false) 118 (0, 0))
  ft : ¬ Fk t
  tt : Touch F W wr
  gr : ∀ j, Fk j → Grow F W wr j
  on : ∀ j, j < k → (laidM M lo used gen groups count (bl s) j).off = false
theorem AppSt.next {w W wr Y0 Y1 : World} {F Fk F1 : Nat → Prop} {G N t lo hi gen groups used count : Nat} {M : DM} {p : Option Addr} {s : ByteArray} {k : Nat} (h : AppSt w W wr F Fk G N t lo hi gen groups used count M p s k)
    (hoff : (laidM M lo used gen groups count (bl s) k).off = false) (d1 : DW w Y1 F1 G N (laidM M lo used gen groups count (bl s) (k + 1))) (tY : Y1.heap[t]? = some (.cells (tapeV G lo hi gen groups used false) 118 (0, 0)))
    (b : Below wr.heap.size wr Y0) (t1 : Touch Fk Y0 Y1) (g1 : ∀ j, F1 j → Grow Fk Y0 Y1 j) : AppSt w W Y1 F F1 G N t lo hi gen groups used count M p s (k + 1) := by
  have hz := h.tt.size
  refine ⟨d1, tY, fun f => ?_, (h.tt.trans (Touch.of_below (F := F) b) (fun j hj => .inl hj)).trans t1 (fun j hj => ?_), fun j hj => ?_, fun j hj => ?_⟩
  · rcases g1 t f with h1 | h1
    · exact h.ft h1
    · have := obj_lt h.tp; have := b.size; omega
  · rcases h.gr j hj with q | q
    · exact .inl q
    · exact .inr ⟨q.1, by have := b.size; omega⟩
  · rcases g1 j hj with q | q
    · rcases h.gr j q with q | q
      · exact .inl q
      · exact .inr ⟨q.1, by have := b.size; have := t1.size; omega⟩
    · exact .inr ⟨by have := b.size; omega, q.2⟩
  · by_cases e : j = k
    · rw [e]; exact hoff
    · exact h.on j (by omega)
theorem AppSt.cut {w W wr Y0 Y1 : World} {F Fk : Nat → Prop} {G N t lo hi gen groups used count : Nat} {M : DM} {p : Option Addr} {s : ByteArray} {k : Nat} (h : AppSt w W wr F Fk G N t lo hi gen groups used count M p s k)
    (d1 : DW w Y1 Fk G N (laidM M lo used gen groups count (bl s) k).step) (tY : Y1.heap[t]? = some (.cells (tapeV G lo hi gen groups used false) 118 (0, 0)))
    (b : Below wr.heap.size wr Y0) (t1 : Touch (Only G) Y0 Y1) (hwt : w.heap.size ≤ t) : ¬ Fk t ∧ Touch (WithT F t) W (Y1.setCell ⟨t, 6, none⟩ (.bool true)) ∧ (∀ j, Fk j → Grow F W (Y1.setCell ⟨t, 6, none⟩ (.bool true)) j) ∧
      DW w (Y1.setCell ⟨t, 6, none⟩ (.bool true)) Fk G N (laidM M lo used gen groups count (bl s) k).step ∧ (Y1.setCell ⟨t, 6, none⟩ (.bool true)).heap[t]? = some (.cells (tapeV G lo hi gen groups used true) 118 (0, 0)) := by
  have hz := h.tt.size
  have hG : Grow F W wr G := h.gr G h.d.drum.fG
  refine ⟨h.ft, ?_, fun j hj => ?_, ⟨d1.drum.kept (fun j hj => set_other j (fun e => h.ft (e ▸ hj))) (by rw [set_size]; exact Nat.le_refl _), d1.below.setCell hwt _, d1.since⟩, u_row (k := 6) (.bool true) tY⟩
  · have h1 := (h.tt.trans (Touch.of_below (F := F) b) (fun j hj => .inl hj)).trans (F' := Only G) t1 (fun j hj => by
      have e : j = G := hj
      rw [e]
      rcases hG with q | q
      · exact .inl q
      · exact .inr ⟨q.1, by have := b.size; omega⟩)
    exact (h1.mono (fun j hj => .inl hj)).set (F := WithT F t) (p := ⟨t, 6, none⟩) (.inr rfl) (.bool true)
  · rcases h.gr j hj with q | q
    · exact .inl q
    · exact .inr ⟨q.1, by rw [set_size]; have := b.size; have := t1.size; omega⟩
/-- What Append leaves. -/
def AppPost (w W : World) (F : Nat → Prop) (G N : Nat) (M : DM) (t lo hi gen groups used count : Nat) (l : List UInt8) (e : Ending) (W' : World) : Prop :=
  ∃ (F' : Nat → Prop) (k : Nat), k ≤ count ∧ (∀ j, j < k → (laidM M lo used gen groups count l j).off = false) ∧ ¬ F' t ∧ Touch (WithT F t) W W' ∧ (∀ j, F' j → Grow F W W' j) ∧
    ((k = count ∧ e = .returned (.int .i64 0) ∧ DW w W' F' G N (laidM M lo used gen groups count l count) ∧ W'.heap[t]? = some (.cells (tapeV G lo hi gen (groups + 1) (used + count) false) 118 (0, 0))) ∨
     (k < count ∧ (laidM M lo used gen groups count l k).off = true ∧ e = .returned (.int .i64 9) ∧ DW w W' F' G N (laidM M lo used gen groups count l k).step ∧ W'.heap[t]? = some (.cells (tapeV G lo hi gen groups used true) 118 (0, 0))))
set_option maxRecDepth 100000 in
set_option maxHeartbeats 16000000 in
theorem append_any {w W : World} {F : Nat → Prop} {G N : Nat} {M : DM} {t lo hi gen groups used : Nat} {p : Option Addr} {n c : Nat} {s : ByteArray} (h : AppIn w W F G N M t lo hi gen groups used p n c s) :
    Calls Try.prog 33 #[.pointer (some ⟨t, 0, none⟩), .slice p n c] W (AppPost w W F G N M t lo hi gen groups used (countS n) (bl s)) := by
  have HH := Lib.hid h
  have ht := h.tp
  have hroom := h.room
  have hhi := h.hiN
  have hN := h.N9
  have hn := h.n9
  have SO := Lib.hid (sectorsOf_any n (by omega) W)
  have hroomI : (countS n : Int) ≤ ((hi - lo - used : Nat) : Int) := by omega
  have FR := Lib.hid (free_any W t G lo hi gen groups used false ht (by omega) (by omega))
  have c6 : W.cell? ⟨t, 6, none⟩ = some (.bool false) := by rw [cell_of_row _ _ _ _ _ _ ht]; rfl
  have hroomN : ¬ hi - lo - used < countS n := by omega
  have hdr : decide (hi - lo - used < countS n) = false := decide_eq_false hroomN
  have hcb : countS n ≤ 21846 := by unfold countS; omega
  have hnI : (n : Int) ≤ 1048576 := by omega
  clear h ht hroom hhi hN hn
  generalize hcount : countS n = count at *
  have HC := Lib.hid hcount
  clear hcount
  go_enter Try.func33, Try.ntmps33
  go_wp2_with (fail)
  refine SO.out.mono ?_
  rintro e W' ⟨rfl, rfl⟩
  go_wp2_with (fail)
  refine FR.out.mono ?_
  rintro e W1 ⟨rfl, m, rfl⟩
  go_wp2_with (fail)
  clear c6
  go_loopw [26] (fun x wr => ∃ (k : Nat) (Fk : Nat → Prop), x = .int .i64 (k : Int) ∧ k ≤ count ∧ Hid (AppSt w W wr F Fk G N t lo hi gen groups used count M p s k)) (fun x _ => count - (intOf x).toNat)
  case atStart =>
    have bm := below_drewN (Below.refl W.heap.size W) m
    exact ⟨0, F, rfl, Nat.zero_le _, Lib.hid ⟨HH.out.d.on bm, (bm.block _ (obj_lt HH.out.tp)).trans HH.out.tp, HH.out.ft, Touch.of_below bm, fun j hj => .inl hj, fun j hj => absurd hj (Nat.not_lt_zero j)⟩⟩
  case round =>
    obtain ⟨k, Fk, rfl, hk, HR⟩ := hrel
    by_cases hlt : k < count
    · have hltI : (k : Int) < (count : Int) := by omega
      have hkn : k * 48 ≤ n := by have := HC.out; unfold countS at this; omega
      have hkc : (k : Int) ≤ 21846 := by omega
      have e3 : (0 : Int) ≤ (k : Int) * 48 := by omega
      have e4 : (k : Int) * 48 ≤ (n : Int) := by omega
      have e5 : (n : Int) ≤ (c : Int) := by have := HH.out.nc; omega
      have hu1 : ((used + k : Nat) : Int) = (used : Int) + (k : Int) := by omega
      have hu2 : ((count - 1 - k : Nat) : Int) = (count : Int) - 1 - (k : Int) := by omega
      have q1 : (used : Int) ≤ 16384 := by have := HH.out.hiN; have := HH.out.N9; have := HH.out.room; omega
      have q2 : (count : Int) ≤ 21846 := by omega
      have q3 : (lo : Int) ≤ 16384 := by have := HH.out.hiN; have := HH.out.N9; have := HH.out.room; omega
      have q4 : (0 : Int) ≤ (used : Int) := by omega
      have q5 : (0 : Int) ≤ (lo : Int) := by omega
      have w1 : IntKind.i64.wrap ((used : Int) + (k : Int)) = (used : Int) + (k : Int) := by rw [IntKind.wrap_i64]; omega
      have w2 : IntKind.i64.wrap ((count : Int) - 1) = (count : Int) - 1 := by rw [IntKind.wrap_i64]; omega
      have w3 : IntKind.i64.wrap ((count : Int) - 1 - (k : Int)) = (count : Int) - 1 - (k : Int) := by rw [IntKind.wrap_i64]; omega
      have w4 : IntKind.i64.wrap ((lo : Int) + (used : Int)) = (lo : Int) + (used : Int) := by rw [IntKind.wrap_i64]; omega
      have w5 : IntKind.i64.wrap ((lo : Int) + (used : Int) + (k : Int)) = (lo : Int) + (used : Int) + (k : Int) := by rw [IntKind.wrap_i64]; omega
      have HB := Lib.hid (show gen < 9223372036854775808 ∧ used + k < 9223372036854775808 ∧ groups < 9223372036854775808 ∧ count - 1 - k < 9223372036854775808 from ⟨by have := HH.out.gen9; omega, by omega, by have := HH.out.gr9; omega, by omega⟩)
      have SX : ∀ V, Below wr.heap.size wr V → V.cell? ⟨t, 3, none⟩ = some (.int .i64 (gen : Int)) ∧ V.cell? ⟨t, 5, none⟩ = some (.int .i64 (used : Int)) ∧ V.cell? ⟨t, 4, none⟩ = some (.int .i64 (groups : Int)) := fun V hb => by
        have h2 := (hb.block _ (obj_lt HR.out.tp)).trans HR.out.tp
        exact ⟨by rw [cell_of_row _ _ _ _ _ _ h2]; rfl, by rw [cell_of_row _ _ _ _ _ _ h2]; rfl, by rw [cell_of_row _ _ _ _ _ _ h2]; rfl⟩
      have HSX := Lib.hid (And.intro (SX wr (Below.refl _ _)) SX)
      obtain ⟨hz, hzs⟩ := zero_of_info infoSec
      have HZS := Lib.hid hzs
      have HRF := HR
      have hu3 : ((lo + used + k : Nat) : Int) = (lo : Int) + (used : Int) + (k : Int) := by omega
      obtain ⟨L, hL⟩ : ∃ L, min 48 (n - k * 48) = L := ⟨_, rfl⟩
      have hLs : k * 48 + L ≤ s.size := by rw [HH.out.sz]; omega
      obtain ⟨PT, hPT⟩ : ∃ PT, s.extract (k * 48) (k * 48 + L) = PT := ⟨_, rfl⟩
      have HPT := Lib.hid (show PT.size = L ∧ L ≤ 48 ∧ bl PT = ((bl s).drop (48 * k)).take 48 from ⟨by rw [← hPT]; exact ext_size' _ _ _ hLs, by omega, by rw [← hPT]; exact part_eq s k L hLs (by rw [HH.out.sz]; omega)⟩)
      have hpr : HoldsB wr p s := HH.out.hp.touch HR.out.tt (fun a e => (HH.out.fp a e).1)
      have HPR := Lib.hid hpr
      have HLS := Lib.hid (And.intro hLs (And.intro hL hPT))
      clear SX hzs hLs hPT hpr hL
      go_upto_region 11 with (fail)
      go_cut [7] from 27 to 82 (fun v7 wx => ∃ Q cc, v7 = .slice Q L cc ∧ Hid (HoldsB wr Q PT ∧ (Q = none → cc = 0)) ∧ wx = wr)
      case first =>
        rcases Nat.eq_zero_or_pos n with hn0 | hn0
        · obtain rfl : k = 0 := by omega
          have hL0 : L = 0 := by have := HLS.out.2.1; omega
          subst hn0 hL0
          have hPE : HoldsB wr none PT := fun h0 => by have := HPT.out.1; omega
          have HPE := Lib.hid (show ∀ Q, HoldsB wr Q PT from fun Q h0 => by have := HPT.out.1; omega)
          rcases p with _ | ⟨b, off, sp⟩
          · have hc0 := HH.out.hnil rfl
            subst hc0
            go_wp2_with (fail)
            all_goals try (exfalso; omega; done)
            go_meet
            exact ⟨none, 0, rfl, Lib.hid ⟨HPE.out none, fun _ => rfl⟩, rfl⟩
          · by_cases hc : c = 0
            · subst hc
              go_wp2_with (fail)
              all_goals try (exfalso; omega; done)
              go_meet
              exact ⟨_, _, rfl, Lib.hid ⟨HPE.out _, fun e => (by cases e)⟩, rfl⟩
            · have hc' : ¬ (c : Int) = 0 := by omega
              go_wp2_with (fail)
              all_goals try (exfalso; omega; done)
              go_meet
              exact ⟨_, _, rfl, Lib.hid ⟨HPE.out _, fun e => (by cases e)⟩, rfl⟩
        · obtain ⟨b, off, rfl, hcells⟩ := HPR.out (by rw [HH.out.sz]; exact hn0)
          have hPTh : HoldsB wr (some ⟨b, off + k * 48, none⟩) PT := by
            have := HPR.out.part (k * 48) (k * 48 + L) HLS.out.1
            rwa [HLS.out.2.2] at this
          have HPE := Lib.hid hPTh
          have hck : ¬ c = k * 48 := by have h1 := HC.out; have h2 := HH.out.nc; unfold countS at h1; omega
          have hck2 : ¬ k * 48 = c := fun e => hck e.symm
          clear hcells hPTh
          by_cases hfull : k * 48 + 48 ≤ n
          · have hL8 : L = 48 := by have := HLS.out.2.1; omega
            have f1 : (k : Int) * 48 + 48 ≤ (n : Int) := by omega
            have f2 : ¬ (n : Int) < (k : Int) * 48 + 48 := by omega
            have hL : ((k : Int) * 48 + 48).toNat - k * 48 = 48 := by omega
            subst hL8
            go_wp2_with (fail)
            all_goals try (exfalso; omega; done)
            go_meet
            exact ⟨_, _, rfl, Lib.hid ⟨HPE.out, fun e => (by cases e)⟩, rfl⟩
          · have hL8 : L = n - k * 48 := by have := HLS.out.2.1; omega
            have f1 : ¬ (k : Int) * 48 + 48 ≤ (n : Int) := by omega
            have f2 : (n : Int) < (k : Int) * 48 + 48 := by omega
            subst hL8
            go_wp2_with (fail)
            all_goals try (exfalso; omega; done)
            go_meet
            exact ⟨_, _, rfl, Lib.hid ⟨HPE.out, fun e => (by cases e)⟩, rfl⟩
      case rest =>
        obtain ⟨Q, cc, rfl, hq, hwc⟩ := hcut
        obtain rfl : wr = wc := hwc.symm
        have HQ := hq
        clear HPR HLS HR hq
        go_wp2_with (fail)
        refine wp_region_held_drew (S := fun W => W.cell? ⟨t, 3, none⟩ = some (.int .i64 (gen : Int)) ∧ W.cell? ⟨t, 5, none⟩ = some (.int .i64 (used : Int)) ∧ W.cell? ⟨t, 4, none⟩ = some (.int .i64 (groups : Int))) (by kernel_rfl) HSX.out.1 (fun hHeld => ?_)
        have b0 : Below wr.heap.size wr wr.drew := (Below.refl _ _).drew
        refine wpAnyH_take (i := 0) (oi := _) (v := ?va0) rfl (by kernel_rfl) (by kernel_rfl) (by kernel_rfl) (fun _ _ _ h => h) (Or.inl ⟨by rfl, ?hya0⟩) (by assumption) ?resta0
        case hya0 =>
          intro W hSw
          clear hSw
          go_simp
          try (with_reducible rfl)
        try simp only [Act.put, List.getElem_toArray, List.getElem_cons_zero, List.getElem_cons_succ, List.setIfInBounds_toArray, List.set_cons_zero, List.set_cons_succ]
        refine wpAnyH_take (i := 1) (oi := _) (v := ?va1) rfl (by kernel_rfl) (by kernel_rfl) (by kernel_rfl) (fun _ _ _ h => h) (Or.inl ⟨by rfl, ?hya1⟩) (by assumption) ?resta1
        case hya1 =>
          intro W hSw
          clear hSw
          go_simp
          try (with_reducible rfl)
        try simp only [Act.put, List.getElem_toArray, List.getElem_cons_zero, List.getElem_cons_succ, List.setIfInBounds_toArray, List.set_cons_zero, List.set_cons_succ]
        refine wpAnyH_take (i := 2) (oi := _) (v := ?va2) rfl (by kernel_rfl) (by kernel_rfl) (by kernel_rfl) (fun _ _ _ h => h) (Or.inl ⟨by rfl, ?hya2⟩) (by assumption) ?resta2
        case hya2 =>
          intro W hSw
          clear hSw
          go_simp
          try (with_reducible rfl)
        try simp only [Act.put, List.getElem_toArray, List.getElem_cons_zero, List.getElem_cons_succ, List.setIfInBounds_toArray, List.set_cons_zero, List.set_cons_succ]
        refine wpAnyH_take (i := 3) (oi := _) (v := ?va3) rfl (by kernel_rfl) (by kernel_rfl) (by kernel_rfl) (fun _ _ _ h => h) (Or.inl ⟨by rfl, ?hya3⟩) (by assumption) ?resta3
        case hya3 =>
          intro W hSw
          obtain ⟨e0, e1, e2⟩ := hSw
          go_simp
          try (with_reducible rfl)
        try simp only [Act.put, List.getElem_toArray, List.getElem_cons_zero, List.getElem_cons_succ, List.setIfInBounds_toArray, List.set_cons_zero, List.set_cons_succ]
        refine wpAnyH_take (i := 4) (oi := _) (v := ?va4) rfl (by kernel_rfl) (by kernel_rfl) (by kernel_rfl) (fun _ _ _ h => h) (Or.inl ⟨by rfl, ?hya4⟩) (by assumption) ?resta4
        case hya4 =>
          intro W hSw
          clear hSw
          go_simp
          try (with_reducible rfl)
        try simp only [Act.put, List.getElem_toArray, List.getElem_cons_zero, List.getElem_cons_succ, List.setIfInBounds_toArray, List.set_cons_zero, List.set_cons_succ]
        refine wpAnyH_take (i := 5) (oi := _) (v := ?va5) rfl (by kernel_rfl) (by kernel_rfl) (by kernel_rfl) (fun _ _ _ h => h) (Or.inl ⟨by rfl, ?hya5⟩) (by assumption) ?resta5
        case hya5 =>
          intro W hSw
          clear hSw
          go_simp
          try (with_reducible rfl)
        try simp only [Act.put, List.getElem_toArray, List.getElem_cons_zero, List.getElem_cons_succ, List.setIfInBounds_toArray, List.set_cons_zero, List.set_cons_succ]
        refine wpAnyH_take (i := 6) (oi := _) (v := ?va6) rfl (by kernel_rfl) (by kernel_rfl) (by kernel_rfl) (fun _ _ _ h => h) (Or.inl ⟨by rfl, ?hya6⟩) (by assumption) ?resta6
        case hya6 =>
          intro W hSw
          clear hSw
          go_simp
          try (with_reducible rfl)
        try simp only [Act.put, List.getElem_toArray, List.getElem_cons_zero, List.getElem_cons_succ, List.setIfInBounds_toArray, List.set_cons_zero, List.set_cons_succ]
        refine wpAnyH_take (i := 7) (oi := _) (v := ?va7) rfl (by kernel_rfl) (by kernel_rfl) (by kernel_rfl) (fun _ _ _ h => h) (Or.inl ⟨by rfl, ?hya7⟩) (by assumption) ?resta7
        case hya7 =>
          intro W hSw
          obtain ⟨e0, e1, e2⟩ := hSw
          go_simp
          try (with_reducible rfl)
        try simp only [Act.put, List.getElem_toArray, List.getElem_cons_zero, List.getElem_cons_succ, List.setIfInBounds_toArray, List.set_cons_zero, List.set_cons_succ]
        refine wpAnyH_take (i := 8) (oi := _) (v := ?va8) rfl (by kernel_rfl) (by kernel_rfl) (by kernel_rfl) (fun _ _ _ h => h) (Or.inl ⟨by rfl, ?hya8⟩) (by assumption) ?resta8
        case hya8 =>
          intro W hSw
          clear hSw
          go_simp
          try (with_reducible rfl)
        try simp only [Act.put, List.getElem_toArray, List.getElem_cons_zero, List.getElem_cons_succ, List.setIfInBounds_toArray, List.set_cons_zero, List.set_cons_succ]
        refine wpAnyH_take (i := 9) (oi := _) (v := ?va9) rfl (by kernel_rfl) (by kernel_rfl) (by kernel_rfl) (fun _ _ _ h => h) (Or.inl ⟨by rfl, ?hya9⟩) (by assumption) ?resta9
        case hya9 =>
          intro W hSw
          clear hSw
          go_simp
          try (with_reducible rfl)
        try simp only [Act.put, List.getElem_toArray, List.getElem_cons_zero, List.getElem_cons_succ, List.setIfInBounds_toArray, List.set_cons_zero, List.set_cons_succ]
        refine wpAnyH_take (i := 10) (oi := _) (v := ?va10) rfl (by kernel_rfl) (by kernel_rfl) (by kernel_rfl) (fun _ _ _ h => h) (Or.inl ⟨by rfl, ?hya10⟩) (by assumption) ?resta10
        case hya10 =>
          intro W hSw
          clear hSw
          go_simp
          try (with_reducible rfl)
        try simp only [Act.put, List.getElem_toArray, List.getElem_cons_zero, List.getElem_cons_succ, List.setIfInBounds_toArray, List.set_cons_zero, List.set_cons_succ]
        refine wpAnyH_take (i := 11) (oi := _) (v := ?va11) rfl (by kernel_rfl) (by kernel_rfl) (by kernel_rfl) (fun _ _ _ h => h) (Or.inl ⟨by rfl, ?hya11⟩) (by assumption) ?resta11
        case hya11 =>
          intro W hSw
          clear hSw
          go_simp
          try (with_reducible rfl)
        try simp only [Act.put, List.getElem_toArray, List.getElem_cons_zero, List.getElem_cons_succ, List.setIfInBounds_toArray, List.set_cons_zero, List.set_cons_succ]
        refine wpAnyH_take (i := 12) (oi := _) (v := ?va12) rfl (by kernel_rfl) (by kernel_rfl) (by kernel_rfl) (fun _ _ _ h => h) (Or.inl ⟨by rfl, ?hya12⟩) (by assumption) ?resta12
        case hya12 =>
          intro W hSw
          clear hSw
          go_simp
          try (with_reducible rfl)
        try simp only [Act.put, List.getElem_toArray, List.getElem_cons_zero, List.getElem_cons_succ, List.setIfInBounds_toArray, List.set_cons_zero, List.set_cons_succ]
        refine wpAnyH_take (i := 13) (oi := _) (v := ?va13) rfl (by kernel_rfl) (by kernel_rfl) (by kernel_rfl) (fun _ _ _ h => h) (Or.inl ⟨by rfl, ?hya13⟩) (by assumption) ?resta13
        case hya13 =>
          intro W hSw
          obtain ⟨e0, e1, e2⟩ := hSw
          go_simp
          try (with_reducible rfl)
        try simp only [Act.put, List.getElem_toArray, List.getElem_cons_zero, List.getElem_cons_succ, List.setIfInBounds_toArray, List.set_cons_zero, List.set_cons_succ]
        refine wpAnyH_take (i := 14) (oi := _) (v := ?va14) rfl (by kernel_rfl) (by kernel_rfl) (by kernel_rfl) (fun _ _ _ h => h) (Or.inl ⟨by rfl, ?hya14⟩) (by assumption) ?resta14
        case hya14 =>
          intro W hSw
          clear hSw
          go_simp
          try (with_reducible rfl)
        try simp only [Act.put, List.getElem_toArray, List.getElem_cons_zero, List.getElem_cons_succ, List.setIfInBounds_toArray, List.set_cons_zero, List.set_cons_succ]
        refine wpAnyH_take (i := 15) (oi := _) (v := ?va15) rfl (by kernel_rfl) (by kernel_rfl) (by kernel_rfl) (fun _ _ _ h => h) (Or.inl ⟨by rfl, ?hya15⟩) (by assumption) ?resta15
        case hya15 =>
          intro W hSw
          clear hSw
          go_simp
          try (with_reducible rfl)
        try simp only [Act.put, List.getElem_toArray, List.getElem_cons_zero, List.getElem_cons_succ, List.setIfInBounds_toArray, List.set_cons_zero, List.set_cons_succ]
        refine wpAnyH_take (i := 16) (oi := _) (v := ?va16) rfl (by kernel_rfl) (by kernel_rfl) (by kernel_rfl) (fun _ _ _ h => h) (Or.inl ⟨by rfl, ?hya16⟩) (by assumption) ?resta16
        case hya16 =>
          intro W hSw
          clear hSw
          go_simp
          try (with_reducible rfl)
        try simp only [Act.put, List.getElem_toArray, List.getElem_cons_zero, List.getElem_cons_succ, List.setIfInBounds_toArray, List.set_cons_zero, List.set_cons_succ]
        refine wpAnyH_take (i := 17) (oi := _) (v := ?va17) rfl (by kernel_rfl) (by kernel_rfl) (by kernel_rfl) (fun _ _ _ h => h) (Or.inl ⟨by rfl, ?hya17⟩) (by assumption) ?resta17
        case hya17 =>
          intro W hSw
          clear hSw
          go_simp
          try (with_reducible rfl)
        try simp only [Act.put, List.getElem_toArray, List.getElem_cons_zero, List.getElem_cons_succ, List.setIfInBounds_toArray, List.set_cons_zero, List.set_cons_succ]
        refine wpAnyH_take (i := 18) (oi := _) (v := ?va18) rfl (by kernel_rfl) (by kernel_rfl) (by kernel_rfl) (fun _ _ _ h => h) (Or.inl ⟨by rfl, ?hya18⟩) (by assumption) ?resta18
        case hya18 =>
          intro W hSw
          clear hSw
          go_simp
          try (with_reducible rfl)
        try simp only [Act.put, List.getElem_toArray, List.getElem_cons_zero, List.getElem_cons_succ, List.setIfInBounds_toArray, List.set_cons_zero, List.set_cons_succ]
        refine wpAnyH_take (i := 19) (oi := _) (v := ?va19) rfl (by kernel_rfl) (by kernel_rfl) (by kernel_rfl) (fun _ _ _ h => h) (Or.inl ⟨by rfl, ?hya19⟩) (by assumption) ?resta19
        case hya19 =>
          intro W hSw
          clear hSw
          go_simp
          try (with_reducible rfl)
        try simp only [Act.put, List.getElem_toArray, List.getElem_cons_zero, List.getElem_cons_succ, List.setIfInBounds_toArray, List.set_cons_zero, List.set_cons_succ]
        obtain ⟨X0, hX0⟩ : ∃ X, X = wr.drew := ⟨_, rfl⟩
        rw [← hX0] at b0 hHeld ⊢
        clear hX0
        refine wpAnyH_ready (rs := [20, 21]) (by kernel_rfl) (by simp) ?_
        refine AllReadyH.cons (o := _) rfl (fun K hK => ?_) (AllReadyH.cons (o := _) rfl (fun K hK => ?_) AllReadyH.nil)
        · go_simp
          go_at_call 66
          have LY := tlay_ok gen (used + k) groups (count - 1 - k) HB.out.1 HB.out.2.1 HB.out.2.2.1 HB.out.2.2.2 Q PT L cc HPT.out.1 HPT.out.2.1 HQ.out.2 X0 (HQ.out.1.below (b0))
          rw [hu1, hu2] at LY
          refine LY.mono ?_
          rintro e X1 ⟨rfl, hb2⟩
          clear LY
          have b1 := below_cat b0 hb2
          refine hK.out _ _ (HSX.out.2 _ b1) (fun hHeld1 => ?_)
          clear hK K
          try simp only [Act.put, List.getElem_toArray, List.getElem_cons_zero, List.getElem_cons_succ, List.setIfInBounds_toArray, List.set_cons_zero, List.set_cons_succ]
          refine wpAnyH_ready (rs := [21]) (by kernel_rfl) (by simp) ?_
          refine AllReadyH.cons (o := _) rfl (fun K hK => ?_) AllReadyH.nil
          go_simp
          have b2 := b1.alloc b1.size (.cells zSec 120)
          have n2 : (X1.alloc (.cells zSec 120)).heap[X1.heap.size]? = some (.cells zSec 120 (0, 0)) := heap_alloc_new _ _
          have ha : wr.heap.size ≤ X1.heap.size := b1.size
          obtain ⟨A, hA⟩ : ∃ A, X1.heap.size = A := ⟨_, rfl⟩
          rw [hA] at n2 ha
          try rw [hA]
          obtain ⟨X2, hX2⟩ : ∃ X2, X1.alloc (.cells zSec 120) = X2 := ⟨_, rfl⟩
          rw [hX2] at n2 b2
          try rw [hX2]
          refine hK.out _ _ (HSX.out.2 _ b2) (fun hHeld2 => ?_)
          clear hK K hX2 hA hb2
          try simp only [Act.put, List.getElem_toArray, List.getElem_cons_zero, List.getElem_cons_succ, List.setIfInBounds_toArray, List.set_cons_zero, List.set_cons_succ]
          refine wpAnyH_ready (rs := [22]) (by kernel_rfl) (by simp) ?_
          refine AllReadyH.cons (o := _) rfl (fun K hK => ?_) AllReadyH.nil
          obtain ⟨SL, hSL⟩ : ∃ SL, sectorL gen (used + k) groups (count - 1 - k) (bl PT) = SL := ⟨_, rfl⟩
          rw [hSL]
          have hl64 : SL.length = 64 := by rw [← hSL]; exact sectorL_length _ _ _ _ _ (by rw [bl_length, HPT.out.1]; exact HPT.out.2.1)
          have hsz : (bytesV (ofL SL)).toArray.size = 64 := by rw [List.size_toArray, bytesV_length, ofL_size, hl64]
          have hi9 : (Try.prog.info? 120).map (·.size) = some (bytesV (ofL SL)).toArray.size := by rw [hsz]; exact info64
          have hone : (bytesV (ofL SL)).toArray.all (·.oneCell') = true := by
            rw [List.all_toArray, List.all_eq_true]
            exact bytesV_one _
          refine step_is rfl (wp_store_row 120 _ _ rfl A (bytesV (ofL SL)).toArray (by rfl) (by rfl) 120 zSec n2 hi9 (by rw [hsz]; rfl) hone ?_)
          have b3 := below_setRow b2 ha (bytesV (ofL SL)).toArray
          have n3 := setRow_heap _ _ _ (bytesV (ofL SL)).toArray _ _ n2
          refine hK.out _ _ (HSX.out.2 _ b3) (fun hHeld3 => ?_)
          clear hK K hHeld hHeld1 hHeld2 hHeld3
          obtain ⟨Z, hZ⟩ : ∃ Z, X2.setRow A (bytesV (ofL SL)).toArray = Z := ⟨_, rfl⟩
          rw [hZ] at b3 n3
          try rw [hZ]
          have HZ := Lib.hid (And.intro b3 (And.intro n3 (And.intro ha (And.intro hl64 hSL))))
          refine wpAnyH_done (by kernel_rfl) ?_ _
          clear b3 n3 ha hl64 hSL hsz hi9 hone hZ n2 b2 b1 b0
          go_wp2_with (fail)
          by_cases hoff : (laidM M lo used gen groups count (bl s) k).off = true
          · have HOFF := Lib.hid hoff
            clear hoff
            have D := HRF.out.d.on HZ.out.1
            have tZ := (HZ.out.1.block _ (obj_lt HRF.out.tp)).trans HRF.out.tp
            have HD := Lib.hid (And.intro D tZ)
            have zz : Z.cell? ⟨t, 0, none⟩ = some (.pointer (some ⟨G, 0, none⟩)) ∧ Z.cell? ⟨t, 1, none⟩ = some (.int .i64 (lo : Int)) ∧ Z.cell? ⟨t, 5, none⟩ = some (.int .i64 (used : Int)) := ⟨by rw [cell_of_row _ _ _ _ _ _ tZ]; rfl, by rw [cell_of_row _ _ _ _ _ _ tZ]; rfl, by rw [cell_of_row _ _ _ _ _ _ tZ]; rfl⟩
            refine wp_region_held_drew (S := fun W => W.cell? ⟨t, 0, none⟩ = some (.pointer (some ⟨G, 0, none⟩)) ∧ W.cell? ⟨t, 1, none⟩ = some (.int .i64 (lo : Int)) ∧ W.cell? ⟨t, 5, none⟩ = some (.int .i64 (used : Int))) (by kernel_rfl) zz (fun hHeld => ?_)
            clear D tZ zz
            have b0 : Below Z.heap.size Z Z.drew := (Below.refl _ _).drew
            refine wpAnyH_take (i := 0) (oi := _) (v := ?ve0) rfl (by kernel_rfl) (by kernel_rfl) (by kernel_rfl) (fun _ _ _ h => h) (Or.inl ⟨by rfl, ?hye0⟩) (by assumption) ?reste0
            case hye0 =>
              intro W hSw
              clear hSw
              go_simp
              try (with_reducible rfl)
            try simp only [Act.put, List.getElem_toArray, List.getElem_cons_zero, List.getElem_cons_succ, List.setIfInBounds_toArray, List.set_cons_zero, List.set_cons_succ]
            refine wpAnyH_take (i := 1) (oi := _) (v := ?ve1) rfl (by kernel_rfl) (by kernel_rfl) (by kernel_rfl) (fun _ _ _ h => h) (Or.inl ⟨by rfl, ?hye1⟩) (by assumption) ?reste1
            case hye1 =>
              intro W hSw
              clear hSw
              go_simp
              try (with_reducible rfl)
            try simp only [Act.put, List.getElem_toArray, List.getElem_cons_zero, List.getElem_cons_succ, List.setIfInBounds_toArray, List.set_cons_zero, List.set_cons_succ]
            refine wpAnyH_take (i := 2) (oi := _) (v := ?ve2) rfl (by kernel_rfl) (by kernel_rfl) (by kernel_rfl) (fun _ _ _ h => h) (Or.inl ⟨by rfl, ?hye2⟩) (by assumption) ?reste2
            case hye2 =>
              intro W hSw
              clear hSw
              go_simp
              try (with_reducible rfl)
            try simp only [Act.put, List.getElem_toArray, List.getElem_cons_zero, List.getElem_cons_succ, List.setIfInBounds_toArray, List.set_cons_zero, List.set_cons_succ]
            refine wpAnyH_take (i := 3) (oi := _) (v := ?ve3) rfl (by kernel_rfl) (by kernel_rfl) (by kernel_rfl) (fun _ _ _ h => h) (Or.inl ⟨by rfl, ?hye3⟩) (by assumption) ?reste3
            case hye3 =>
              intro W hSw
              clear hSw
              go_simp
              try (with_reducible rfl)
            try simp only [Act.put, List.getElem_toArray, List.getElem_cons_zero, List.getElem_cons_succ, List.setIfInBounds_toArray, List.set_cons_zero, List.set_cons_succ]
            refine wpAnyH_take (i := 4) (oi := _) (v := ?ve4) rfl (by kernel_rfl) (by kernel_rfl) (by kernel_rfl) (fun _ _ _ h => h) (Or.inl ⟨by rfl, ?hye4⟩) (by assumption) ?reste4
            case hye4 =>
              intro W hSw
              obtain ⟨e0, e1, e2⟩ := hSw
              go_simp
              try (with_reducible rfl)
            try simp only [Act.put, List.getElem_toArray, List.getElem_cons_zero, List.getElem_cons_succ, List.setIfInBounds_toArray, List.set_cons_zero, List.set_cons_succ]
            refine wpAnyH_take (i := 5) (oi := _) (v := ?ve5) rfl (by kernel_rfl) (by kernel_rfl) (by kernel_rfl) (fun _ _ _ h => h) (Or.inl ⟨by rfl, ?hye5⟩) (by assumption) ?reste5
            case hye5 =>
              intro W hSw
              clear hSw
              go_simp
              try (with_reducible rfl)
            try simp only [Act.put, List.getElem_toArray, List.getElem_cons_zero, List.getElem_cons_succ, List.setIfInBounds_toArray, List.set_cons_zero, List.set_cons_succ]
            refine wpAnyH_take (i := 6) (oi := _) (v := ?ve6) rfl (by kernel_rfl) (by kernel_rfl) (by kernel_rfl) (fun _ _ _ h => h) (Or.inl ⟨by rfl, ?hye6⟩) (by assumption) ?reste6
            case hye6 =>
              intro W hSw
              clear hSw
              go_simp
              try (with_reducible rfl)
            try simp only [Act.put, List.getElem_toArray, List.getElem_cons_zero, List.getElem_cons_succ, List.setIfInBounds_toArray, List.set_cons_zero, List.set_cons_succ]
            refine wpAnyH_take (i := 7) (oi := _) (v := ?ve7) rfl (by kernel_rfl) (by kernel_rfl) (by kernel_rfl) (fun _ _ _ h => h) (Or.inl ⟨by rfl, ?hye7⟩) (by assumption) ?reste7
            case hye7 =>
              intro W hSw
              clear hSw
              go_simp
              try (with_reducible rfl)
            try simp only [Act.put, List.getElem_toArray, List.getElem_cons_zero, List.getElem_cons_succ, List.setIfInBounds_toArray, List.set_cons_zero, List.set_cons_succ]
            refine wpAnyH_take (i := 8) (oi := _) (v := ?ve8) rfl (by kernel_rfl) (by kernel_rfl) (by kernel_rfl) (fun _ _ _ h => h) (Or.inl ⟨by rfl, ?hye8⟩) (by assumption) ?reste8
            case hye8 =>
              intro W hSw
              obtain ⟨e0, e1, e2⟩ := hSw
              go_simp
              try (with_reducible rfl)
            try simp only [Act.put, List.getElem_toArray, List.getElem_cons_zero, List.getElem_cons_succ, List.setIfInBounds_toArray, List.set_cons_zero, List.set_cons_succ]
            refine wpAnyH_take (i := 9) (oi := _) (v := ?ve9) rfl (by kernel_rfl) (by kernel_rfl) (by kernel_rfl) (fun _ _ _ h => h) (Or.inl ⟨by rfl, ?hye9⟩) (by assumption) ?reste9
            case hye9 =>
              intro W hSw
              clear hSw
              go_simp
              try (with_reducible rfl)
            try simp only [Act.put, List.getElem_toArray, List.getElem_cons_zero, List.getElem_cons_succ, List.setIfInBounds_toArray, List.set_cons_zero, List.set_cons_succ]
            refine wpAnyH_take (i := 10) (oi := _) (v := ?ve10) rfl (by kernel_rfl) (by kernel_rfl) (by kernel_rfl) (fun _ _ _ h => h) (Or.inl ⟨by rfl, ?hye10⟩) (by assumption) ?reste10
            case hye10 =>
              intro W hSw
              clear hSw
              go_simp
              try (with_reducible rfl)
            try simp only [Act.put, List.getElem_toArray, List.getElem_cons_zero, List.getElem_cons_succ, List.setIfInBounds_toArray, List.set_cons_zero, List.set_cons_succ]
            refine wpAnyH_take (i := 11) (oi := _) (v := ?ve11) rfl (by kernel_rfl) (by kernel_rfl) (by kernel_rfl) (fun _ _ _ h => h) (Or.inl ⟨by rfl, ?hye11⟩) (by assumption) ?reste11
            case hye11 =>
              intro W hSw
              clear hSw
              go_simp
              try (with_reducible rfl)
            try simp only [Act.put, List.getElem_toArray, List.getElem_cons_zero, List.getElem_cons_succ, List.setIfInBounds_toArray, List.set_cons_zero, List.set_cons_succ]
            refine wpAnyH_take (i := 12) (oi := _) (v := ?ve12) rfl (by kernel_rfl) (by kernel_rfl) (by kernel_rfl) (fun _ _ _ h => h) (Or.inl ⟨by rfl, ?hye12⟩) (by assumption) ?reste12
            case hye12 =>
              intro W hSw
              obtain ⟨e0, e1, e2⟩ := hSw
              go_simp
              try (with_reducible rfl)
            try simp only [Act.put, List.getElem_toArray, List.getElem_cons_zero, List.getElem_cons_succ, List.setIfInBounds_toArray, List.set_cons_zero, List.set_cons_succ]
            refine wpAnyH_take (i := 13) (oi := _) (v := ?ve13) rfl (by kernel_rfl) (by kernel_rfl) (by kernel_rfl) (fun _ _ _ h => h) (Or.inl ⟨by rfl, ?hye13⟩) (by assumption) ?reste13
            case hye13 =>
              intro W hSw
              clear hSw
              go_simp
              try (with_reducible rfl)
            try simp only [Act.put, List.getElem_toArray, List.getElem_cons_zero, List.getElem_cons_succ, List.setIfInBounds_toArray, List.set_cons_zero, List.set_cons_succ]
            refine wpAnyH_take (i := 14) (oi := _) (v := ?ve14) rfl (by kernel_rfl) (by kernel_rfl) (by kernel_rfl) (fun _ _ _ h => h) (Or.inl ⟨by rfl, ?hye14⟩) (by assumption) ?reste14
            case hye14 =>
              intro W hSw
              clear hSw
              go_simp
              try (with_reducible rfl)
            try simp only [Act.put, List.getElem_toArray, List.getElem_cons_zero, List.getElem_cons_succ, List.setIfInBounds_toArray, List.set_cons_zero, List.set_cons_succ]
            refine wpAnyH_take (i := 15) (oi := _) (v := ?ve15) rfl (by kernel_rfl) (by kernel_rfl) (by kernel_rfl) (fun _ _ _ h => h) (Or.inl ⟨by rfl, ?hye15⟩) (by assumption) ?reste15
            case hye15 =>
              intro W hSw
              clear hSw
              go_simp
              try (with_reducible rfl)
            try simp only [Act.put, List.getElem_toArray, List.getElem_cons_zero, List.getElem_cons_succ, List.setIfInBounds_toArray, List.set_cons_zero, List.set_cons_succ]
            refine wpAnyH_take (i := 16) (oi := _) (v := ?ve16) rfl (by kernel_rfl) (by kernel_rfl) (by kernel_rfl) (fun _ _ _ h => h) (Or.inl ⟨by rfl, ?hye16⟩) (by assumption) ?reste16
            case hye16 =>
              intro W hSw
              clear hSw
              go_simp
              try (with_reducible rfl)
            try simp only [Act.put, List.getElem_toArray, List.getElem_cons_zero, List.getElem_cons_succ, List.setIfInBounds_toArray, List.set_cons_zero, List.set_cons_succ]
            obtain ⟨Y0, hY0⟩ : ∃ X, X = Z.drew := ⟨_, rfl⟩
            rw [← hY0] at b0 hHeld ⊢
            clear hY0
            refine wpAnyH_ready (rs := [17]) (by kernel_rfl) (by simp) ?_
            refine AllReadyH.cons (o := _) rfl (fun K hK => ?_) AllReadyH.nil
            go_simp
            go_at_call 42
            have LT := laid_bounds M lo used gen groups count (bl s) k
            have nA := (b0.block _ (obj_lt HZ.out.2.1)).trans HZ.out.2.1
            have tm : Tame (laidM M lo used gen groups count (bl s) k) := ⟨by have := HH.out.m1; omega, Nat.le_trans LT.2.1 HH.out.m3, by have := HH.out.m2; omega⟩
            have hNk : lo + used + k < N := by have := HH.out.hiN; have := HH.out.room; omega
            have tY0 := (b0.block _ (obj_lt HD.out.2)).trans HD.out.2
            have WR := dwrite_off (HD.out.1.on b0) tm HOFF.out (lo + used + k) hNk (some ⟨A, 0, none⟩) 64 64 (Nat.le_refl _)
            rw [hu3] at WR
            refine WR.mono ?_
            rintro e Y1 ⟨rfl, d1, t1⟩
            clear WR nA tm LT
            have tY1 := (t1.block _ (obj_lt tY0) (fun e => HRF.out.ft (by have e : t = G := e; rw [e]; exact HRF.out.d.drum.fG))).trans tY0
            have HY := Lib.hid (HRF.out.cut d1 tY1 (below_cat HZ.out.1 b0) t1 HH.out.wt)
            have HS1 := Lib.hid (show Y1.cell? ⟨t, 0, none⟩ = some (.pointer (some ⟨G, 0, none⟩)) ∧ Y1.cell? ⟨t, 1, none⟩ = some (.int .i64 (lo : Int)) ∧ Y1.cell? ⟨t, 5, none⟩ = some (.int .i64 (used : Int)) from ⟨by rw [cell_of_row _ _ _ _ _ _ tY1]; rfl, by rw [cell_of_row _ _ _ _ _ _ tY1]; rfl, by rw [cell_of_row _ _ _ _ _ _ tY1]; rfl⟩)
            have hY2 := u_row (k := 6) (.bool true) tY1
            have HS2 := Lib.hid (show (Y1.setCell ⟨t, 6, none⟩ (.bool true)).cell? ⟨t, 0, none⟩ = some (.pointer (some ⟨G, 0, none⟩)) ∧ (Y1.setCell ⟨t, 6, none⟩ (.bool true)).cell? ⟨t, 1, none⟩ = some (.int .i64 (lo : Int)) ∧ (Y1.setCell ⟨t, 6, none⟩ (.bool true)).cell? ⟨t, 5, none⟩ = some (.int .i64 (used : Int)) from ⟨by rw [cell_of_row _ _ _ _ _ _ hY2]; rfl, by rw [cell_of_row _ _ _ _ _ _ hY2]; rfl, by rw [cell_of_row _ _ _ _ _ _ hY2]; rfl⟩)
            have TN := told_nine t Y1 G lo hi gen groups used tY1
            have HTN := Lib.hid TN
            clear d1 t1 tY0 tY1 hNk hY2 TN
            refine hK.out _ _ HS1.out (fun hHeld9 => ?_)
            clear hK K
            try simp only [Act.put, List.getElem_toArray, List.getElem_cons_zero, List.getElem_cons_succ, List.setIfInBounds_toArray, List.set_cons_zero, List.set_cons_succ]
            refine wpAnyH_ready (rs := [18]) (by kernel_rfl) (by simp) ?_
            refine AllReadyH.cons (o := _) rfl (fun K hK => ?_) AllReadyH.nil
            go_simp
            go_at_call 67
            refine HTN.out.mono ?_
            rintro e Y2 ⟨rfl, rfl⟩
            refine hK.out _ _ HS2.out (fun hHeld8 => ?_)
            clear hK K
            try simp only [Act.put, List.getElem_toArray, List.getElem_cons_zero, List.getElem_cons_succ, List.setIfInBounds_toArray, List.set_cons_zero, List.set_cons_succ]
            refine wpAnyH_take (i := 19) (oi := _) (v := ?ve19) rfl (by kernel_rfl) (by kernel_rfl) (by kernel_rfl) (fun _ _ _ h => h) (Or.inl ⟨by rfl, ?hye19⟩) HS2.out ?reste19
            case hye19 =>
              intro W hSw
              clear hSw
              go_simp
              try (with_reducible rfl)
            try simp only [Act.put, List.getElem_toArray, List.getElem_cons_zero, List.getElem_cons_succ, List.setIfInBounds_toArray, List.set_cons_zero, List.set_cons_succ]
            refine wpAnyH_done (by kernel_rfl) ?_ _
            clear hHeld hHeld8 hHeld9 b0
            go_wp2_with (fail)
            go_ret
            exact ⟨_, k, by omega, HRF.out.on, HY.out.1, HY.out.2.1, HY.out.2.2.1, .inr ⟨by omega, HOFF.out, rfl, HY.out.2.2.2⟩⟩
          · have HOFF := Lib.hid (show (laidM M lo used gen groups count (bl s) k).off = false from by simpa using hoff)
            clear hoff
            have D := HRF.out.d.on HZ.out.1
            have tZ := (HZ.out.1.block _ (obj_lt HRF.out.tp)).trans HRF.out.tp
            have HD := Lib.hid (And.intro D tZ)
            have zz : Z.cell? ⟨t, 0, none⟩ = some (.pointer (some ⟨G, 0, none⟩)) ∧ Z.cell? ⟨t, 1, none⟩ = some (.int .i64 (lo : Int)) ∧ Z.cell? ⟨t, 5, none⟩ = some (.int .i64 (used : Int)) := ⟨by rw [cell_of_row _ _ _ _ _ _ tZ]; rfl, by rw [cell_of_row _ _ _ _ _ _ tZ]; rfl, by rw [cell_of_row _ _ _ _ _ _ tZ]; rfl⟩
            refine wp_region_held_drew (S := fun W => W.cell? ⟨t, 0, none⟩ = some (.pointer (some ⟨G, 0, none⟩)) ∧ W.cell? ⟨t, 1, none⟩ = some (.int .i64 (lo : Int)) ∧ W.cell? ⟨t, 5, none⟩ = some (.int .i64 (used : Int))) (by kernel_rfl) zz (fun hHeld => ?_)
            clear D tZ zz
            have b0 : Below Z.heap.size Z Z.drew := (Below.refl _ _).drew
            refine wpAnyH_take (i := 0) (oi := _) (v := ?vf0) rfl (by kernel_rfl) (by kernel_rfl) (by kernel_rfl) (fun _ _ _ h => h) (Or.inl ⟨by rfl, ?hyf0⟩) (by assumption) ?restf0
            case hyf0 =>
              intro W hSw
              clear hSw
              go_simp
              try (with_reducible rfl)
            try simp only [Act.put, List.getElem_toArray, List.getElem_cons_zero, List.getElem_cons_succ, List.setIfInBounds_toArray, List.set_cons_zero, List.set_cons_succ]
            refine wpAnyH_take (i := 1) (oi := _) (v := ?vf1) rfl (by kernel_rfl) (by kernel_rfl) (by kernel_rfl) (fun _ _ _ h => h) (Or.inl ⟨by rfl, ?hyf1⟩) (by assumption) ?restf1
            case hyf1 =>
              intro W hSw
              clear hSw
              go_simp
              try (with_reducible rfl)
            try simp only [Act.put, List.getElem_toArray, List.getElem_cons_zero, List.getElem_cons_succ, List.setIfInBounds_toArray, List.set_cons_zero, List.set_cons_succ]
            refine wpAnyH_take (i := 2) (oi := _) (v := ?vf2) rfl (by kernel_rfl) (by kernel_rfl) (by kernel_rfl) (fun _ _ _ h => h) (Or.inl ⟨by rfl, ?hyf2⟩) (by assumption) ?restf2
            case hyf2 =>
              intro W hSw
              clear hSw
              go_simp
              try (with_reducible rfl)
            try simp only [Act.put, List.getElem_toArray, List.getElem_cons_zero, List.getElem_cons_succ, List.setIfInBounds_toArray, List.set_cons_zero, List.set_cons_succ]
            refine wpAnyH_take (i := 3) (oi := _) (v := ?vf3) rfl (by kernel_rfl) (by kernel_rfl) (by kernel_rfl) (fun _ _ _ h => h) (Or.inl ⟨by rfl, ?hyf3⟩) (by assumption) ?restf3
            case hyf3 =>
              intro W hSw
              clear hSw
              go_simp
              try (with_reducible rfl)
            try simp only [Act.put, List.getElem_toArray, List.getElem_cons_zero, List.getElem_cons_succ, List.setIfInBounds_toArray, List.set_cons_zero, List.set_cons_succ]
            refine wpAnyH_take (i := 4) (oi := _) (v := ?vf4) rfl (by kernel_rfl) (by kernel_rfl) (by kernel_rfl) (fun _ _ _ h => h) (Or.inl ⟨by rfl, ?hyf4⟩) (by assumption) ?restf4
            case hyf4 =>
              intro W hSw
              obtain ⟨e0, e1, e2⟩ := hSw
              go_simp
              try (with_reducible rfl)
            try simp only [Act.put, List.getElem_toArray, List.getElem_cons_zero, List.getElem_cons_succ, List.setIfInBounds_toArray, List.set_cons_zero, List.set_cons_succ]
            refine wpAnyH_take (i := 5) (oi := _) (v := ?vf5) rfl (by kernel_rfl) (by kernel_rfl) (by kernel_rfl) (fun _ _ _ h => h) (Or.inl ⟨by rfl, ?hyf5⟩) (by assumption) ?restf5
            case hyf5 =>
              intro W hSw
              clear hSw
              go_simp
              try (with_reducible rfl)
            try simp only [Act.put, List.getElem_toArray, List.getElem_cons_zero, List.getElem_cons_succ, List.setIfInBounds_toArray, List.set_cons_zero, List.set_cons_succ]
            refine wpAnyH_take (i := 6) (oi := _) (v := ?vf6) rfl (by kernel_rfl) (by kernel_rfl) (by kernel_rfl) (fun _ _ _ h => h) (Or.inl ⟨by rfl, ?hyf6⟩) (by assumption) ?restf6
            case hyf6 =>
              intro W hSw
              clear hSw
              go_simp
              try (with_reducible rfl)
            try simp only [Act.put, List.getElem_toArray, List.getElem_cons_zero, List.getElem_cons_succ, List.setIfInBounds_toArray, List.set_cons_zero, List.set_cons_succ]
            refine wpAnyH_take (i := 7) (oi := _) (v := ?vf7) rfl (by kernel_rfl) (by kernel_rfl) (by kernel_rfl) (fun _ _ _ h => h) (Or.inl ⟨by rfl, ?hyf7⟩) (by assumption) ?restf7
            case hyf7 =>
              intro W hSw
              clear hSw
              go_simp
              try (with_reducible rfl)
            try simp only [Act.put, List.getElem_toArray, List.getElem_cons_zero, List.getElem_cons_succ, List.setIfInBounds_toArray, List.set_cons_zero, List.set_cons_succ]
            refine wpAnyH_take (i := 8) (oi := _) (v := ?vf8) rfl (by kernel_rfl) (by kernel_rfl) (by kernel_rfl) (fun _ _ _ h => h) (Or.inl ⟨by rfl, ?hyf8⟩) (by assumption) ?restf8
            case hyf8 =>
              intro W hSw
              obtain ⟨e0, e1, e2⟩ := hSw
              go_simp
              try (with_reducible rfl)
            try simp only [Act.put, List.getElem_toArray, List.getElem_cons_zero, List.getElem_cons_succ, List.setIfInBounds_toArray, List.set_cons_zero, List.set_cons_succ]
            refine wpAnyH_take (i := 9) (oi := _) (v := ?vf9) rfl (by kernel_rfl) (by kernel_rfl) (by kernel_rfl) (fun _ _ _ h => h) (Or.inl ⟨by rfl, ?hyf9⟩) (by assumption) ?restf9
            case hyf9 =>
              intro W hSw
              clear hSw
              go_simp
              try (with_reducible rfl)
            try simp only [Act.put, List.getElem_toArray, List.getElem_cons_zero, List.getElem_cons_succ, List.setIfInBounds_toArray, List.set_cons_zero, List.set_cons_succ]
            refine wpAnyH_take (i := 10) (oi := _) (v := ?vf10) rfl (by kernel_rfl) (by kernel_rfl) (by kernel_rfl) (fun _ _ _ h => h) (Or.inl ⟨by rfl, ?hyf10⟩) (by assumption) ?restf10
            case hyf10 =>
              intro W hSw
              clear hSw
              go_simp
              try (with_reducible rfl)
            try simp only [Act.put, List.getElem_toArray, List.getElem_cons_zero, List.getElem_cons_succ, List.setIfInBounds_toArray, List.set_cons_zero, List.set_cons_succ]
            refine wpAnyH_take (i := 11) (oi := _) (v := ?vf11) rfl (by kernel_rfl) (by kernel_rfl) (by kernel_rfl) (fun _ _ _ h => h) (Or.inl ⟨by rfl, ?hyf11⟩) (by assumption) ?restf11
            case hyf11 =>
              intro W hSw
              clear hSw
              go_simp
              try (with_reducible rfl)
            try simp only [Act.put, List.getElem_toArray, List.getElem_cons_zero, List.getElem_cons_succ, List.setIfInBounds_toArray, List.set_cons_zero, List.set_cons_succ]
            refine wpAnyH_take (i := 12) (oi := _) (v := ?vf12) rfl (by kernel_rfl) (by kernel_rfl) (by kernel_rfl) (fun _ _ _ h => h) (Or.inl ⟨by rfl, ?hyf12⟩) (by assumption) ?restf12
            case hyf12 =>
              intro W hSw
              obtain ⟨e0, e1, e2⟩ := hSw
              go_simp
              try (with_reducible rfl)
            try simp only [Act.put, List.getElem_toArray, List.getElem_cons_zero, List.getElem_cons_succ, List.setIfInBounds_toArray, List.set_cons_zero, List.set_cons_succ]
            refine wpAnyH_take (i := 13) (oi := _) (v := ?vf13) rfl (by kernel_rfl) (by kernel_rfl) (by kernel_rfl) (fun _ _ _ h => h) (Or.inl ⟨by rfl, ?hyf13⟩) (by assumption) ?restf13
            case hyf13 =>
              intro W hSw
              clear hSw
              go_simp
              try (with_reducible rfl)
            try simp only [Act.put, List.getElem_toArray, List.getElem_cons_zero, List.getElem_cons_succ, List.setIfInBounds_toArray, List.set_cons_zero, List.set_cons_succ]
            refine wpAnyH_take (i := 14) (oi := _) (v := ?vf14) rfl (by kernel_rfl) (by kernel_rfl) (by kernel_rfl) (fun _ _ _ h => h) (Or.inl ⟨by rfl, ?hyf14⟩) (by assumption) ?restf14
            case hyf14 =>
              intro W hSw
              clear hSw
              go_simp
              try (with_reducible rfl)
            try simp only [Act.put, List.getElem_toArray, List.getElem_cons_zero, List.getElem_cons_succ, List.setIfInBounds_toArray, List.set_cons_zero, List.set_cons_succ]
            refine wpAnyH_take (i := 15) (oi := _) (v := ?vf15) rfl (by kernel_rfl) (by kernel_rfl) (by kernel_rfl) (fun _ _ _ h => h) (Or.inl ⟨by rfl, ?hyf15⟩) (by assumption) ?restf15
            case hyf15 =>
              intro W hSw
              clear hSw
              go_simp
              try (with_reducible rfl)
            try simp only [Act.put, List.getElem_toArray, List.getElem_cons_zero, List.getElem_cons_succ, List.setIfInBounds_toArray, List.set_cons_zero, List.set_cons_succ]
            refine wpAnyH_take (i := 16) (oi := _) (v := ?vf16) rfl (by kernel_rfl) (by kernel_rfl) (by kernel_rfl) (fun _ _ _ h => h) (Or.inl ⟨by rfl, ?hyf16⟩) (by assumption) ?restf16
            case hyf16 =>
              intro W hSw
              clear hSw
              go_simp
              try (with_reducible rfl)
            try simp only [Act.put, List.getElem_toArray, List.getElem_cons_zero, List.getElem_cons_succ, List.setIfInBounds_toArray, List.set_cons_zero, List.set_cons_succ]
            obtain ⟨Y0, hY0⟩ : ∃ X, X = Z.drew := ⟨_, rfl⟩
            rw [← hY0] at b0 hHeld ⊢
            clear hY0
            refine wpAnyH_ready (rs := [17]) (by kernel_rfl) (by simp) ?_
            refine AllReadyH.cons (o := _) rfl (fun K hK => ?_) AllReadyH.nil
            go_simp
            go_at_call 42
            have LT := laid_bounds M lo used gen groups count (bl s) k
            have nA := (b0.block _ (obj_lt HZ.out.2.1)).trans HZ.out.2.1
            have tm : Tame (laidM M lo used gen groups count (bl s) k) := ⟨by have := HH.out.m1; omega, Nat.le_trans LT.2.1 HH.out.m3, by have := HH.out.m2; omega⟩
            have hNk : lo + used + k < N := by have := HH.out.hiN; have := HH.out.room; omega
            have tY0 := (b0.block _ (obj_lt HD.out.2)).trans HD.out.2
            have WR := dwrite_ok (HD.out.1.on b0) tm HOFF.out (lo + used + k) hNk A (ofL SL) 64 (rowT_holds nA) (by rw [ofL_size, HZ.out.2.2.2.1]; exact Nat.le_refl _) (fun f => by have := HRF.out.d.drum.lt _ f; have := HZ.out.2.2.1; omega)
            rw [ofL_size, HZ.out.2.2.2.1, hu3] at WR
            refine WR.mono ?_
            rintro e Y1 ⟨rfl, F1, d1, t1, g1⟩
            clear WR nA tm LT
            have tY1 := (t1.block _ (obj_lt tY0) HRF.out.ft).trans tY0
            have hp9 := HPT.out.2.2
            have HY := Lib.hid (HRF.out.next (F1 := F1) HOFF.out (by rw [laidM, ← hp9, HZ.out.2.2.2.2]; exact d1) tY1 (below_cat HZ.out.1 b0) t1 g1)
            have HS1 := Lib.hid (show Y1.cell? ⟨t, 0, none⟩ = some (.pointer (some ⟨G, 0, none⟩)) ∧ Y1.cell? ⟨t, 1, none⟩ = some (.int .i64 (lo : Int)) ∧ Y1.cell? ⟨t, 5, none⟩ = some (.int .i64 (used : Int)) from ⟨by rw [cell_of_row _ _ _ _ _ _ tY1]; rfl, by rw [cell_of_row _ _ _ _ _ _ tY1]; rfl, by rw [cell_of_row _ _ _ _ _ _ tY1]; rfl⟩)
            clear d1 t1 g1 tY0 tY1 hp9 hNk
            refine hK.out _ _ HS1.out (fun hHeld9 => ?_)
            clear hK K
            try simp only [Act.put, List.getElem_toArray, List.getElem_cons_zero, List.getElem_cons_succ, List.setIfInBounds_toArray, List.set_cons_zero, List.set_cons_succ]
            refine wpAnyH_ready (rs := [18]) (by kernel_rfl) (by simp) ?_
            refine AllReadyH.cons (o := _) rfl (fun K hK => ?_) AllReadyH.nil
            go_simp
            go_at_call 67
            refine (told_zero t Y1).mono ?_
            rintro e Y2 ⟨rfl, rfl⟩
            refine hK.out _ _ HS1.out (fun hHeld8 => ?_)
            clear hK K
            try simp only [Act.put, List.getElem_toArray, List.getElem_cons_zero, List.getElem_cons_succ, List.setIfInBounds_toArray, List.set_cons_zero, List.set_cons_succ]
            refine wpAnyH_take (i := 19) (oi := _) (v := ?vf19) rfl (by kernel_rfl) (by kernel_rfl) (by kernel_rfl) (fun _ _ _ h => h) (Or.inl ⟨by rfl, ?hyf19⟩) HS1.out ?restf19
            case hyf19 =>
              intro W hSw
              clear hSw
              go_simp
              try (with_reducible rfl)
            try simp only [Act.put, List.getElem_toArray, List.getElem_cons_zero, List.getElem_cons_succ, List.setIfInBounds_toArray, List.set_cons_zero, List.set_cons_succ]
            refine wpAnyH_done (by kernel_rfl) ?_ _
            clear hHeld hHeld8 hHeld9 b0
            go_wp2_with (fail)
            go_roundw
            case rel => exact ⟨k + 1, F1, by go_num, by omega, HY⟩
            case measure => simp [intOf]; omega
        · go_simp
          have b1 := b0.alloc b0.size (.cells zSec 120)
          have n1 : (X0.alloc (.cells zSec 120)).heap[X0.heap.size]? = some (.cells zSec 120 (0, 0)) := heap_alloc_new _ _
          have ha : wr.heap.size ≤ X0.heap.size := b0.size
          obtain ⟨A, hA⟩ : ∃ A, X0.heap.size = A := ⟨_, rfl⟩
          rw [hA] at n1 ha
          try rw [hA]
          obtain ⟨X1, hX1⟩ : ∃ X1, X0.alloc (.cells zSec 120) = X1 := ⟨_, rfl⟩
          rw [hX1] at n1 b1
          try rw [hX1]
          refine hK.out _ _ (HSX.out.2 _ b1) (fun hHeld1 => ?_)
          clear hK K hX1 hA
          try simp only [Act.put, List.getElem_toArray, List.getElem_cons_zero, List.getElem_cons_succ, List.setIfInBounds_toArray, List.set_cons_zero, List.set_cons_succ]
          refine wpAnyH_ready (rs := [20]) (by kernel_rfl) (by simp) ?_
          refine AllReadyH.cons (o := _) rfl (fun K hK => ?_) AllReadyH.nil
          go_simp
          go_at_call 66
          have LY := tlay_ok gen (used + k) groups (count - 1 - k) HB.out.1 HB.out.2.1 HB.out.2.2.1 HB.out.2.2.2 Q PT L cc HPT.out.1 HPT.out.2.1 HQ.out.2 X1 (HQ.out.1.below (b1))
          rw [hu1, hu2] at LY
          refine LY.mono ?_
          rintro e X2 ⟨rfl, hb2⟩
          clear LY
          have n2 := (hb2.block _ (obj_lt n1)).trans n1
          have b2 := below_cat b1 hb2
          refine hK.out _ _ (HSX.out.2 _ b2) (fun hHeld2 => ?_)
          clear hK K hb2 n1
          try simp only [Act.put, List.getElem_toArray, List.getElem_cons_zero, List.getElem_cons_succ, List.setIfInBounds_toArray, List.set_cons_zero, List.set_cons_succ]
          refine wpAnyH_ready (rs := [22]) (by kernel_rfl) (by simp) ?_
          refine AllReadyH.cons (o := _) rfl (fun K hK => ?_) AllReadyH.nil
          obtain ⟨SL, hSL⟩ : ∃ SL, sectorL gen (used + k) groups (count - 1 - k) (bl PT) = SL := ⟨_, rfl⟩
          rw [hSL]
          have hl64 : SL.length = 64 := by rw [← hSL]; exact sectorL_length _ _ _ _ _ (by rw [bl_length, HPT.out.1]; exact HPT.out.2.1)
          have hsz : (bytesV (ofL SL)).toArray.size = 64 := by rw [List.size_toArray, bytesV_length, ofL_size, hl64]
          have hi9 : (Try.prog.info? 120).map (·.size) = some (bytesV (ofL SL)).toArray.size := by rw [hsz]; exact info64
          have hone : (bytesV (ofL SL)).toArray.all (·.oneCell') = true := by
            rw [List.all_toArray, List.all_eq_true]
            exact bytesV_one _
          refine step_is rfl (wp_store_row 120 _ _ rfl A (bytesV (ofL SL)).toArray (by rfl) (by rfl) 120 zSec n2 hi9 (by rw [hsz]; rfl) hone ?_)
          have b3 := below_setRow b2 ha (bytesV (ofL SL)).toArray
          have n3 := setRow_heap _ _ _ (bytesV (ofL SL)).toArray _ _ n2
          refine hK.out _ _ (HSX.out.2 _ b3) (fun hHeld3 => ?_)
          clear hK K hHeld hHeld1 hHeld2 hHeld3
          obtain ⟨Z, hZ⟩ : ∃ Z, X2.setRow A (bytesV (ofL SL)).toArray = Z := ⟨_, rfl⟩
          rw [hZ] at b3 n3
          try rw [hZ]
          have HZ := Lib.hid (And.intro b3 (And.intro n3 (And.intro ha (And.intro hl64 hSL))))
          refine wpAnyH_done (by kernel_rfl) ?_ _
          clear b3 n3 ha hl64 hSL hsz hi9 hone hZ n2 b2 b1 b0
          go_wp2_with (fail)
          by_cases hoff : (laidM M lo used gen groups count (bl s) k).off = true
          · have HOFF := Lib.hid hoff
            clear hoff
            have D := HRF.out.d.on HZ.out.1
            have tZ := (HZ.out.1.block _ (obj_lt HRF.out.tp)).trans HRF.out.tp
            have HD := Lib.hid (And.intro D tZ)
            have zz : Z.cell? ⟨t, 0, none⟩ = some (.pointer (some ⟨G, 0, none⟩)) ∧ Z.cell? ⟨t, 1, none⟩ = some (.int .i64 (lo : Int)) ∧ Z.cell? ⟨t, 5, none⟩ = some (.int .i64 (used : Int)) := ⟨by rw [cell_of_row _ _ _ _ _ _ tZ]; rfl, by rw [cell_of_row _ _ _ _ _ _ tZ]; rfl, by rw [cell_of_row _ _ _ _ _ _ tZ]; rfl⟩
            refine wp_region_held_drew (S := fun W => W.cell? ⟨t, 0, none⟩ = some (.pointer (some ⟨G, 0, none⟩)) ∧ W.cell? ⟨t, 1, none⟩ = some (.int .i64 (lo : Int)) ∧ W.cell? ⟨t, 5, none⟩ = some (.int .i64 (used : Int))) (by kernel_rfl) zz (fun hHeld => ?_)
            clear D tZ zz
            have b0 : Below Z.heap.size Z Z.drew := (Below.refl _ _).drew
            refine wpAnyH_take (i := 0) (oi := _) (v := ?vg0) rfl (by kernel_rfl) (by kernel_rfl) (by kernel_rfl) (fun _ _ _ h => h) (Or.inl ⟨by rfl, ?hyg0⟩) (by assumption) ?restg0
            case hyg0 =>
              intro W hSw
              clear hSw
              go_simp
              try (with_reducible rfl)
            try simp only [Act.put, List.getElem_toArray, List.getElem_cons_zero, List.getElem_cons_succ, List.setIfInBounds_toArray, List.set_cons_zero, List.set_cons_succ]
            refine wpAnyH_take (i := 1) (oi := _) (v := ?vg1) rfl (by kernel_rfl) (by kernel_rfl) (by kernel_rfl) (fun _ _ _ h => h) (Or.inl ⟨by rfl, ?hyg1⟩) (by assumption) ?restg1
            case hyg1 =>
              intro W hSw
              clear hSw
              go_simp
              try (with_reducible rfl)
            try simp only [Act.put, List.getElem_toArray, List.getElem_cons_zero, List.getElem_cons_succ, List.setIfInBounds_toArray, List.set_cons_zero, List.set_cons_succ]
            refine wpAnyH_take (i := 2) (oi := _) (v := ?vg2) rfl (by kernel_rfl) (by kernel_rfl) (by kernel_rfl) (fun _ _ _ h => h) (Or.inl ⟨by rfl, ?hyg2⟩) (by assumption) ?restg2
            case hyg2 =>
              intro W hSw
              clear hSw
              go_simp
              try (with_reducible rfl)
            try simp only [Act.put, List.getElem_toArray, List.getElem_cons_zero, List.getElem_cons_succ, List.setIfInBounds_toArray, List.set_cons_zero, List.set_cons_succ]
            refine wpAnyH_take (i := 3) (oi := _) (v := ?vg3) rfl (by kernel_rfl) (by kernel_rfl) (by kernel_rfl) (fun _ _ _ h => h) (Or.inl ⟨by rfl, ?hyg3⟩) (by assumption) ?restg3
            case hyg3 =>
              intro W hSw
              clear hSw
              go_simp
              try (with_reducible rfl)
            try simp only [Act.put, List.getElem_toArray, List.getElem_cons_zero, List.getElem_cons_succ, List.setIfInBounds_toArray, List.set_cons_zero, List.set_cons_succ]
            refine wpAnyH_take (i := 4) (oi := _) (v := ?vg4) rfl (by kernel_rfl) (by kernel_rfl) (by kernel_rfl) (fun _ _ _ h => h) (Or.inl ⟨by rfl, ?hyg4⟩) (by assumption) ?restg4
            case hyg4 =>
              intro W hSw
              obtain ⟨e0, e1, e2⟩ := hSw
              go_simp
              try (with_reducible rfl)
            try simp only [Act.put, List.getElem_toArray, List.getElem_cons_zero, List.getElem_cons_succ, List.setIfInBounds_toArray, List.set_cons_zero, List.set_cons_succ]
            refine wpAnyH_take (i := 5) (oi := _) (v := ?vg5) rfl (by kernel_rfl) (by kernel_rfl) (by kernel_rfl) (fun _ _ _ h => h) (Or.inl ⟨by rfl, ?hyg5⟩) (by assumption) ?restg5
            case hyg5 =>
              intro W hSw
              clear hSw
              go_simp
              try (with_reducible rfl)
            try simp only [Act.put, List.getElem_toArray, List.getElem_cons_zero, List.getElem_cons_succ, List.setIfInBounds_toArray, List.set_cons_zero, List.set_cons_succ]
            refine wpAnyH_take (i := 6) (oi := _) (v := ?vg6) rfl (by kernel_rfl) (by kernel_rfl) (by kernel_rfl) (fun _ _ _ h => h) (Or.inl ⟨by rfl, ?hyg6⟩) (by assumption) ?restg6
            case hyg6 =>
              intro W hSw
              clear hSw
              go_simp
              try (with_reducible rfl)
            try simp only [Act.put, List.getElem_toArray, List.getElem_cons_zero, List.getElem_cons_succ, List.setIfInBounds_toArray, List.set_cons_zero, List.set_cons_succ]
            refine wpAnyH_take (i := 7) (oi := _) (v := ?vg7) rfl (by kernel_rfl) (by kernel_rfl) (by kernel_rfl) (fun _ _ _ h => h) (Or.inl ⟨by rfl, ?hyg7⟩) (by assumption) ?restg7
            case hyg7 =>
              intro W hSw
              clear hSw
              go_simp
              try (with_reducible rfl)
            try simp only [Act.put, List.getElem_toArray, List.getElem_cons_zero, List.getElem_cons_succ, List.setIfInBounds_toArray, List.set_cons_zero, List.set_cons_succ]
            refine wpAnyH_take (i := 8) (oi := _) (v := ?vg8) rfl (by kernel_rfl) (by kernel_rfl) (by kernel_rfl) (fun _ _ _ h => h) (Or.inl ⟨by rfl, ?hyg8⟩) (by assumption) ?restg8
            case hyg8 =>
              intro W hSw
              obtain ⟨e0, e1, e2⟩ := hSw
              go_simp
              try (with_reducible rfl)
            try simp only [Act.put, List.getElem_toArray, List.getElem_cons_zero, List.getElem_cons_succ, List.setIfInBounds_toArray, List.set_cons_zero, List.set_cons_succ]
            refine wpAnyH_take (i := 9) (oi := _) (v := ?vg9) rfl (by kernel_rfl) (by kernel_rfl) (by kernel_rfl) (fun _ _ _ h => h) (Or.inl ⟨by rfl, ?hyg9⟩) (by assumption) ?restg9
            case hyg9 =>
              intro W hSw
              clear hSw
              go_simp
              try (with_reducible rfl)
            try simp only [Act.put, List.getElem_toArray, List.getElem_cons_zero, List.getElem_cons_succ, List.setIfInBounds_toArray, List.set_cons_zero, List.set_cons_succ]
            refine wpAnyH_take (i := 10) (oi := _) (v := ?vg10) rfl (by kernel_rfl) (by kernel_rfl) (by kernel_rfl) (fun _ _ _ h => h) (Or.inl ⟨by rfl, ?hyg10⟩) (by assumption) ?restg10
            case hyg10 =>
              intro W hSw
              clear hSw
              go_simp
              try (with_reducible rfl)
            try simp only [Act.put, List.getElem_toArray, List.getElem_cons_zero, List.getElem_cons_succ, List.setIfInBounds_toArray, List.set_cons_zero, List.set_cons_succ]
            refine wpAnyH_take (i := 11) (oi := _) (v := ?vg11) rfl (by kernel_rfl) (by kernel_rfl) (by kernel_rfl) (fun _ _ _ h => h) (Or.inl ⟨by rfl, ?hyg11⟩) (by assumption) ?restg11
            case hyg11 =>
              intro W hSw
              clear hSw
              go_simp
              try (with_reducible rfl)
            try simp only [Act.put, List.getElem_toArray, List.getElem_cons_zero, List.getElem_cons_succ, List.setIfInBounds_toArray, List.set_cons_zero, List.set_cons_succ]
            refine wpAnyH_take (i := 12) (oi := _) (v := ?vg12) rfl (by kernel_rfl) (by kernel_rfl) (by kernel_rfl) (fun _ _ _ h => h) (Or.inl ⟨by rfl, ?hyg12⟩) (by assumption) ?restg12
            case hyg12 =>
              intro W hSw
              obtain ⟨e0, e1, e2⟩ := hSw
              go_simp
              try (with_reducible rfl)
            try simp only [Act.put, List.getElem_toArray, List.getElem_cons_zero, List.getElem_cons_succ, List.setIfInBounds_toArray, List.set_cons_zero, List.set_cons_succ]
            refine wpAnyH_take (i := 13) (oi := _) (v := ?vg13) rfl (by kernel_rfl) (by kernel_rfl) (by kernel_rfl) (fun _ _ _ h => h) (Or.inl ⟨by rfl, ?hyg13⟩) (by assumption) ?restg13
            case hyg13 =>
              intro W hSw
              clear hSw
              go_simp
              try (with_reducible rfl)
            try simp only [Act.put, List.getElem_toArray, List.getElem_cons_zero, List.getElem_cons_succ, List.setIfInBounds_toArray, List.set_cons_zero, List.set_cons_succ]
            refine wpAnyH_take (i := 14) (oi := _) (v := ?vg14) rfl (by kernel_rfl) (by kernel_rfl) (by kernel_rfl) (fun _ _ _ h => h) (Or.inl ⟨by rfl, ?hyg14⟩) (by assumption) ?restg14
            case hyg14 =>
              intro W hSw
              clear hSw
              go_simp
              try (with_reducible rfl)
            try simp only [Act.put, List.getElem_toArray, List.getElem_cons_zero, List.getElem_cons_succ, List.setIfInBounds_toArray, List.set_cons_zero, List.set_cons_succ]
            refine wpAnyH_take (i := 15) (oi := _) (v := ?vg15) rfl (by kernel_rfl) (by kernel_rfl) (by kernel_rfl) (fun _ _ _ h => h) (Or.inl ⟨by rfl, ?hyg15⟩) (by assumption) ?restg15
            case hyg15 =>
              intro W hSw
              clear hSw
              go_simp
              try (with_reducible rfl)
            try simp only [Act.put, List.getElem_toArray, List.getElem_cons_zero, List.getElem_cons_succ, List.setIfInBounds_toArray, List.set_cons_zero, List.set_cons_succ]
            refine wpAnyH_take (i := 16) (oi := _) (v := ?vg16) rfl (by kernel_rfl) (by kernel_rfl) (by kernel_rfl) (fun _ _ _ h => h) (Or.inl ⟨by rfl, ?hyg16⟩) (by assumption) ?restg16
            case hyg16 =>
              intro W hSw
              clear hSw
              go_simp
              try (with_reducible rfl)
            try simp only [Act.put, List.getElem_toArray, List.getElem_cons_zero, List.getElem_cons_succ, List.setIfInBounds_toArray, List.set_cons_zero, List.set_cons_succ]
            obtain ⟨Y0, hY0⟩ : ∃ X, X = Z.drew := ⟨_, rfl⟩
            rw [← hY0] at b0 hHeld ⊢
            clear hY0
            refine wpAnyH_ready (rs := [17]) (by kernel_rfl) (by simp) ?_
            refine AllReadyH.cons (o := _) rfl (fun K hK => ?_) AllReadyH.nil
            go_simp
            go_at_call 42
            have LT := laid_bounds M lo used gen groups count (bl s) k
            have nA := (b0.block _ (obj_lt HZ.out.2.1)).trans HZ.out.2.1
            have tm : Tame (laidM M lo used gen groups count (bl s) k) := ⟨by have := HH.out.m1; omega, Nat.le_trans LT.2.1 HH.out.m3, by have := HH.out.m2; omega⟩
            have hNk : lo + used + k < N := by have := HH.out.hiN; have := HH.out.room; omega
            have tY0 := (b0.block _ (obj_lt HD.out.2)).trans HD.out.2
            have WR := dwrite_off (HD.out.1.on b0) tm HOFF.out (lo + used + k) hNk (some ⟨A, 0, none⟩) 64 64 (Nat.le_refl _)
            rw [hu3] at WR
            refine WR.mono ?_
            rintro e Y1 ⟨rfl, d1, t1⟩
            clear WR nA tm LT
            have tY1 := (t1.block _ (obj_lt tY0) (fun e => HRF.out.ft (by have e : t = G := e; rw [e]; exact HRF.out.d.drum.fG))).trans tY0
            have HY := Lib.hid (HRF.out.cut d1 tY1 (below_cat HZ.out.1 b0) t1 HH.out.wt)
            have HS1 := Lib.hid (show Y1.cell? ⟨t, 0, none⟩ = some (.pointer (some ⟨G, 0, none⟩)) ∧ Y1.cell? ⟨t, 1, none⟩ = some (.int .i64 (lo : Int)) ∧ Y1.cell? ⟨t, 5, none⟩ = some (.int .i64 (used : Int)) from ⟨by rw [cell_of_row _ _ _ _ _ _ tY1]; rfl, by rw [cell_of_row _ _ _ _ _ _ tY1]; rfl, by rw [cell_of_row _ _ _ _ _ _ tY1]; rfl⟩)
            have hY2 := u_row (k := 6) (.bool true) tY1
            have HS2 := Lib.hid (show (Y1.setCell ⟨t, 6, none⟩ (.bool true)).cell? ⟨t, 0, none⟩ = some (.pointer (some ⟨G, 0, none⟩)) ∧ (Y1.setCell ⟨t, 6, none⟩ (.bool true)).cell? ⟨t, 1, none⟩ = some (.int .i64 (lo : Int)) ∧ (Y1.setCell ⟨t, 6, none⟩ (.bool true)).cell? ⟨t, 5, none⟩ = some (.int .i64 (used : Int)) from ⟨by rw [cell_of_row _ _ _ _ _ _ hY2]; rfl, by rw [cell_of_row _ _ _ _ _ _ hY2]; rfl, by rw [cell_of_row _ _ _ _ _ _ hY2]; rfl⟩)
            have TN := told_nine t Y1 G lo hi gen groups used tY1
            have HTN := Lib.hid TN
            clear d1 t1 tY0 tY1 hNk hY2 TN
            refine hK.out _ _ HS1.out (fun hHeld9 => ?_)
            clear hK K
            try simp only [Act.put, List.getElem_toArray, List.getElem_cons_zero, List.getElem_cons_succ, List.setIfInBounds_toArray, List.set_cons_zero, List.set_cons_succ]
            refine wpAnyH_ready (rs := [18]) (by kernel_rfl) (by simp) ?_
            refine AllReadyH.cons (o := _) rfl (fun K hK => ?_) AllReadyH.nil
            go_simp
            go_at_call 67
            refine HTN.out.mono ?_
            rintro e Y2 ⟨rfl, rfl⟩
            refine hK.out _ _ HS2.out (fun hHeld8 => ?_)
            clear hK K
            try simp only [Act.put, List.getElem_toArray, List.getElem_cons_zero, List.getElem_cons_succ, List.setIfInBounds_toArray, List.set_cons_zero, List.set_cons_succ]
            refine wpAnyH_take (i := 19) (oi := _) (v := ?vg19) rfl (by kernel_rfl) (by kernel_rfl) (by kernel_rfl) (fun _ _ _ h => h) (Or.inl ⟨by rfl, ?hyg19⟩) HS2.out ?restg19
            case hyg19 =>
              intro W hSw
              clear hSw
              go_simp
              try (with_reducible rfl)
            try simp only [Act.put, List.getElem_toArray, List.getElem_cons_zero, List.getElem_cons_succ, List.setIfInBounds_toArray, List.set_cons_zero, List.set_cons_succ]
            refine wpAnyH_done (by kernel_rfl) ?_ _
            clear hHeld hHeld8 hHeld9 b0
            go_wp2_with (fail)
            go_ret
            exact ⟨_, k, by omega, HRF.out.on, HY.out.1, HY.out.2.1, HY.out.2.2.1, .inr ⟨by omega, HOFF.out, rfl, HY.out.2.2.2⟩⟩
          · have HOFF := Lib.hid (show (laidM M lo used gen groups count (bl s) k).off = false from by simpa using hoff)
            clear hoff
            have D := HRF.out.d.on HZ.out.1
            have tZ := (HZ.out.1.block _ (obj_lt HRF.out.tp)).trans HRF.out.tp
            have HD := Lib.hid (And.intro D tZ)
            have zz : Z.cell? ⟨t, 0, none⟩ = some (.pointer (some ⟨G, 0, none⟩)) ∧ Z.cell? ⟨t, 1, none⟩ = some (.int .i64 (lo : Int)) ∧ Z.cell? ⟨t, 5, none⟩ = some (.int .i64 (used : Int)) := ⟨by rw [cell_of_row _ _ _ _ _ _ tZ]; rfl, by rw [cell_of_row _ _ _ _ _ _ tZ]; rfl, by rw [cell_of_row _ _ _ _ _ _ tZ]; rfl⟩
            refine wp_region_held_drew (S := fun W => W.cell? ⟨t, 0, none⟩ = some (.pointer (some ⟨G, 0, none⟩)) ∧ W.cell? ⟨t, 1, none⟩ = some (.int .i64 (lo : Int)) ∧ W.cell? ⟨t, 5, none⟩ = some (.int .i64 (used : Int))) (by kernel_rfl) zz (fun hHeld => ?_)
            clear D tZ zz
            have b0 : Below Z.heap.size Z Z.drew := (Below.refl _ _).drew
            refine wpAnyH_take (i := 0) (oi := _) (v := ?vh0) rfl (by kernel_rfl) (by kernel_rfl) (by kernel_rfl) (fun _ _ _ h => h) (Or.inl ⟨by rfl, ?hyh0⟩) (by assumption) ?resth0
            case hyh0 =>
              intro W hSw
              clear hSw
              go_simp
              try (with_reducible rfl)
            try simp only [Act.put, List.getElem_toArray, List.getElem_cons_zero, List.getElem_cons_succ, List.setIfInBounds_toArray, List.set_cons_zero, List.set_cons_succ]
            refine wpAnyH_take (i := 1) (oi := _) (v := ?vh1) rfl (by kernel_rfl) (by kernel_rfl) (by kernel_rfl) (fun _ _ _ h => h) (Or.inl ⟨by rfl, ?hyh1⟩) (by assumption) ?resth1
            case hyh1 =>
              intro W hSw
              clear hSw
              go_simp
              try (with_reducible rfl)
            try simp only [Act.put, List.getElem_toArray, List.getElem_cons_zero, List.getElem_cons_succ, List.setIfInBounds_toArray, List.set_cons_zero, List.set_cons_succ]
            refine wpAnyH_take (i := 2) (oi := _) (v := ?vh2) rfl (by kernel_rfl) (by kernel_rfl) (by kernel_rfl) (fun _ _ _ h => h) (Or.inl ⟨by rfl, ?hyh2⟩) (by assumption) ?resth2
            case hyh2 =>
              intro W hSw
              clear hSw
              go_simp
              try (with_reducible rfl)
            try simp only [Act.put, List.getElem_toArray, List.getElem_cons_zero, List.getElem_cons_succ, List.setIfInBounds_toArray, List.set_cons_zero, List.set_cons_succ]
            refine wpAnyH_take (i := 3) (oi := _) (v := ?vh3) rfl (by kernel_rfl) (by kernel_rfl) (by kernel_rfl) (fun _ _ _ h => h) (Or.inl ⟨by rfl, ?hyh3⟩) (by assumption) ?resth3
            case hyh3 =>
              intro W hSw
              clear hSw
              go_simp
              try (with_reducible rfl)
            try simp only [Act.put, List.getElem_toArray, List.getElem_cons_zero, List.getElem_cons_succ, List.setIfInBounds_toArray, List.set_cons_zero, List.set_cons_succ]
            refine wpAnyH_take (i := 4) (oi := _) (v := ?vh4) rfl (by kernel_rfl) (by kernel_rfl) (by kernel_rfl) (fun _ _ _ h => h) (Or.inl ⟨by rfl, ?hyh4⟩) (by assumption) ?resth4
            case hyh4 =>
              intro W hSw
              obtain ⟨e0, e1, e2⟩ := hSw
              go_simp
              try (with_reducible rfl)
            try simp only [Act.put, List.getElem_toArray, List.getElem_cons_zero, List.getElem_cons_succ, List.setIfInBounds_toArray, List.set_cons_zero, List.set_cons_succ]
            refine wpAnyH_take (i := 5) (oi := _) (v := ?vh5) rfl (by kernel_rfl) (by kernel_rfl) (by kernel_rfl) (fun _ _ _ h => h) (Or.inl ⟨by rfl, ?hyh5⟩) (by assumption) ?resth5
            case hyh5 =>
              intro W hSw
              clear hSw
              go_simp
              try (with_reducible rfl)
            try simp only [Act.put, List.getElem_toArray, List.getElem_cons_zero, List.getElem_cons_succ, List.setIfInBounds_toArray, List.set_cons_zero, List.set_cons_succ]
            refine wpAnyH_take (i := 6) (oi := _) (v := ?vh6) rfl (by kernel_rfl) (by kernel_rfl) (by kernel_rfl) (fun _ _ _ h => h) (Or.inl ⟨by rfl, ?hyh6⟩) (by assumption) ?resth6
            case hyh6 =>
              intro W hSw
              clear hSw
              go_simp
              try (with_reducible rfl)
            try simp only [Act.put, List.getElem_toArray, List.getElem_cons_zero, List.getElem_cons_succ, List.setIfInBounds_toArray, List.set_cons_zero, List.set_cons_succ]
            refine wpAnyH_take (i := 7) (oi := _) (v := ?vh7) rfl (by kernel_rfl) (by kernel_rfl) (by kernel_rfl) (fun _ _ _ h => h) (Or.inl ⟨by rfl, ?hyh7⟩) (by assumption) ?resth7
            case hyh7 =>
              intro W hSw
              clear hSw
              go_simp
              try (with_reducible rfl)
            try simp only [Act.put, List.getElem_toArray, List.getElem_cons_zero, List.getElem_cons_succ, List.setIfInBounds_toArray, List.set_cons_zero, List.set_cons_succ]
            refine wpAnyH_take (i := 8) (oi := _) (v := ?vh8) rfl (by kernel_rfl) (by kernel_rfl) (by kernel_rfl) (fun _ _ _ h => h) (Or.inl ⟨by rfl, ?hyh8⟩) (by assumption) ?resth8
            case hyh8 =>
              intro W hSw
              obtain ⟨e0, e1, e2⟩ := hSw
              go_simp
              try (with_reducible rfl)
            try simp only [Act.put, List.getElem_toArray, List.getElem_cons_zero, List.getElem_cons_succ, List.setIfInBounds_toArray, List.set_cons_zero, List.set_cons_succ]
            refine wpAnyH_take (i := 9) (oi := _) (v := ?vh9) rfl (by kernel_rfl) (by kernel_rfl) (by kernel_rfl) (fun _ _ _ h => h) (Or.inl ⟨by rfl, ?hyh9⟩) (by assumption) ?resth9
            case hyh9 =>
              intro W hSw
              clear hSw
              go_simp
              try (with_reducible rfl)
            try simp only [Act.put, List.getElem_toArray, List.getElem_cons_zero, List.getElem_cons_succ, List.setIfInBounds_toArray, List.set_cons_zero, List.set_cons_succ]
            refine wpAnyH_take (i := 10) (oi := _) (v := ?vh10) rfl (by kernel_rfl) (by kernel_rfl) (by kernel_rfl) (fun _ _ _ h => h) (Or.inl ⟨by rfl, ?hyh10⟩) (by assumption) ?resth10
            case hyh10 =>
              intro W hSw
              clear hSw
              go_simp
              try (with_reducible rfl)
            try simp only [Act.put, List.getElem_toArray, List.getElem_cons_zero, List.getElem_cons_succ, List.setIfInBounds_toArray, List.set_cons_zero, List.set_cons_succ]
            refine wpAnyH_take (i := 11) (oi := _) (v := ?vh11) rfl (by kernel_rfl) (by kernel_rfl) (by kernel_rfl) (fun _ _ _ h => h) (Or.inl ⟨by rfl, ?hyh11⟩) (by assumption) ?resth11
            case hyh11 =>
              intro W hSw
              clear hSw
              go_simp
              try (with_reducible rfl)
            try simp only [Act.put, List.getElem_toArray, List.getElem_cons_zero, List.getElem_cons_succ, List.setIfInBounds_toArray, List.set_cons_zero, List.set_cons_succ]
            refine wpAnyH_take (i := 12) (oi := _) (v := ?vh12) rfl (by kernel_rfl) (by kernel_rfl) (by kernel_rfl) (fun _ _ _ h => h) (Or.inl ⟨by rfl, ?hyh12⟩) (by assumption) ?resth12
            case hyh12 =>
              intro W hSw
              obtain ⟨e0, e1, e2⟩ := hSw
              go_simp
              try (with_reducible rfl)
            try simp only [Act.put, List.getElem_toArray, List.getElem_cons_zero, List.getElem_cons_succ, List.setIfInBounds_toArray, List.set_cons_zero, List.set_cons_succ]
            refine wpAnyH_take (i := 13) (oi := _) (v := ?vh13) rfl (by kernel_rfl) (by kernel_rfl) (by kernel_rfl) (fun _ _ _ h => h) (Or.inl ⟨by rfl, ?hyh13⟩) (by assumption) ?resth13
            case hyh13 =>
              intro W hSw
              clear hSw
              go_simp
              try (with_reducible rfl)
            try simp only [Act.put, List.getElem_toArray, List.getElem_cons_zero, List.getElem_cons_succ, List.setIfInBounds_toArray, List.set_cons_zero, List.set_cons_succ]
            refine wpAnyH_take (i := 14) (oi := _) (v := ?vh14) rfl (by kernel_rfl) (by kernel_rfl) (by kernel_rfl) (fun _ _ _ h => h) (Or.inl ⟨by rfl, ?hyh14⟩) (by assumption) ?resth14
            case hyh14 =>
              intro W hSw
              clear hSw
              go_simp
              try (with_reducible rfl)
            try simp only [Act.put, List.getElem_toArray, List.getElem_cons_zero, List.getElem_cons_succ, List.setIfInBounds_toArray, List.set_cons_zero, List.set_cons_succ]
            refine wpAnyH_take (i := 15) (oi := _) (v := ?vh15) rfl (by kernel_rfl) (by kernel_rfl) (by kernel_rfl) (fun _ _ _ h => h) (Or.inl ⟨by rfl, ?hyh15⟩) (by assumption) ?resth15
            case hyh15 =>
              intro W hSw
              clear hSw
              go_simp
              try (with_reducible rfl)
            try simp only [Act.put, List.getElem_toArray, List.getElem_cons_zero, List.getElem_cons_succ, List.setIfInBounds_toArray, List.set_cons_zero, List.set_cons_succ]
            refine wpAnyH_take (i := 16) (oi := _) (v := ?vh16) rfl (by kernel_rfl) (by kernel_rfl) (by kernel_rfl) (fun _ _ _ h => h) (Or.inl ⟨by rfl, ?hyh16⟩) (by assumption) ?resth16
            case hyh16 =>
              intro W hSw
              clear hSw
              go_simp
              try (with_reducible rfl)
            try simp only [Act.put, List.getElem_toArray, List.getElem_cons_zero, List.getElem_cons_succ, List.setIfInBounds_toArray, List.set_cons_zero, List.set_cons_succ]
            obtain ⟨Y0, hY0⟩ : ∃ X, X = Z.drew := ⟨_, rfl⟩
            rw [← hY0] at b0 hHeld ⊢
            clear hY0
            refine wpAnyH_ready (rs := [17]) (by kernel_rfl) (by simp) ?_
            refine AllReadyH.cons (o := _) rfl (fun K hK => ?_) AllReadyH.nil
            go_simp
            go_at_call 42
            have LT := laid_bounds M lo used gen groups count (bl s) k
            have nA := (b0.block _ (obj_lt HZ.out.2.1)).trans HZ.out.2.1
            have tm : Tame (laidM M lo used gen groups count (bl s) k) := ⟨by have := HH.out.m1; omega, Nat.le_trans LT.2.1 HH.out.m3, by have := HH.out.m2; omega⟩
            have hNk : lo + used + k < N := by have := HH.out.hiN; have := HH.out.room; omega
            have tY0 := (b0.block _ (obj_lt HD.out.2)).trans HD.out.2
            have WR := dwrite_ok (HD.out.1.on b0) tm HOFF.out (lo + used + k) hNk A (ofL SL) 64 (rowT_holds nA) (by rw [ofL_size, HZ.out.2.2.2.1]; exact Nat.le_refl _) (fun f => by have := HRF.out.d.drum.lt _ f; have := HZ.out.2.2.1; omega)
            rw [ofL_size, HZ.out.2.2.2.1, hu3] at WR
            refine WR.mono ?_
            rintro e Y1 ⟨rfl, F1, d1, t1, g1⟩
            clear WR nA tm LT
            have tY1 := (t1.block _ (obj_lt tY0) HRF.out.ft).trans tY0
            have hp9 := HPT.out.2.2
            have HY := Lib.hid (HRF.out.next (F1 := F1) HOFF.out (by rw [laidM, ← hp9, HZ.out.2.2.2.2]; exact d1) tY1 (below_cat HZ.out.1 b0) t1 g1)
            have HS1 := Lib.hid (show Y1.cell? ⟨t, 0, none⟩ = some (.pointer (some ⟨G, 0, none⟩)) ∧ Y1.cell? ⟨t, 1, none⟩ = some (.int .i64 (lo : Int)) ∧ Y1.cell? ⟨t, 5, none⟩ = some (.int .i64 (used : Int)) from ⟨by rw [cell_of_row _ _ _ _ _ _ tY1]; rfl, by rw [cell_of_row _ _ _ _ _ _ tY1]; rfl, by rw [cell_of_row _ _ _ _ _ _ tY1]; rfl⟩)
            clear d1 t1 g1 tY0 tY1 hp9 hNk
            refine hK.out _ _ HS1.out (fun hHeld9 => ?_)
            clear hK K
            try simp only [Act.put, List.getElem_toArray, List.getElem_cons_zero, List.getElem_cons_succ, List.setIfInBounds_toArray, List.set_cons_zero, List.set_cons_succ]
            refine wpAnyH_ready (rs := [18]) (by kernel_rfl) (by simp) ?_
            refine AllReadyH.cons (o := _) rfl (fun K hK => ?_) AllReadyH.nil
            go_simp
            go_at_call 67
            refine (told_zero t Y1).mono ?_
            rintro e Y2 ⟨rfl, rfl⟩
            refine hK.out _ _ HS1.out (fun hHeld8 => ?_)
            clear hK K
            try simp only [Act.put, List.getElem_toArray, List.getElem_cons_zero, List.getElem_cons_succ, List.setIfInBounds_toArray, List.set_cons_zero, List.set_cons_succ]
            refine wpAnyH_take (i := 19) (oi := _) (v := ?vh19) rfl (by kernel_rfl) (by kernel_rfl) (by kernel_rfl) (fun _ _ _ h => h) (Or.inl ⟨by rfl, ?hyh19⟩) HS1.out ?resth19
            case hyh19 =>
              intro W hSw
              clear hSw
              go_simp
              try (with_reducible rfl)
            try simp only [Act.put, List.getElem_toArray, List.getElem_cons_zero, List.getElem_cons_succ, List.setIfInBounds_toArray, List.set_cons_zero, List.set_cons_succ]
            refine wpAnyH_done (by kernel_rfl) ?_ _
            clear hHeld hHeld8 hHeld9 b0
            go_wp2_with (fail)
            go_roundw
            case rel => exact ⟨k + 1, F1, by go_num, by omega, HY⟩
            case measure => simp [intOf]; omega
    · obtain rfl : k = count := by omega
      have r2 := HR.out.tp
      have x4 : wr.cell? ⟨t, 4, none⟩ = some (.int .i64 (groups : Int)) := by rw [cell_of_row _ _ _ _ _ _ r2]; rfl
      have x5 : wr.cell? ⟨t, 5, none⟩ = some (.int .i64 (used : Int)) := by rw [cell_of_row _ _ _ _ _ _ r2]; rfl
      have f4 : wr.frozen? ⟨t, 4, none⟩ = false := frozen_of_row _ _ _ _ _ r2
      have f5 : wr.frozen? ⟨t, 5, none⟩ = false := frozen_of_row _ _ _ _ _ r2
      have w1 : IntKind.i64.wrap ((groups : Int) + 1) = (groups : Int) + 1 := by rw [IntKind.wrap_i64]; have := HH.out.gr9; omega
      have w2 : IntKind.i64.wrap ((used : Int) + (k : Int)) = (used : Int) + (k : Int) := by rw [IntKind.wrap_i64]; have := HH.out.hiN; have := HH.out.N9; have := HH.out.room; omega
      have q1 : (groups : Int) ≤ 1000000 := by have := HH.out.gr9; omega
      have q2 : (used : Int) ≤ 16384 := by have := HH.out.hiN; have := HH.out.N9; have := HH.out.room; omega
      have q3 : (k : Int) ≤ 21846 := by omega
      have q4 : (0 : Int) ≤ (used : Int) := by omega
      have q5 : (0 : Int) ≤ (groups : Int) := by omega
      clear r2
      go_wp2_with (fail)
      go_ret
      have hr := u_row (k := 5) (.int .i64 ((used : Int) + (k : Int))) (u_row (k := 4) (.int .i64 ((groups : Int) + 1)) HR.out.tp)
      have hs : ∀ j, Fk j → ((wr.setCell ⟨t, 4, none⟩ (.int .i64 ((groups : Int) + 1))).setCell ⟨t, 5, none⟩ (.int .i64 ((used : Int) + (k : Int)))).heap[j]? = wr.heap[j]? := fun j hj => by
        have hjt : j ≠ t := fun e => HR.out.ft (e ▸ hj)
        exact (set_other j hjt).trans (set_other j hjt)
      have hz : ((wr.setCell ⟨t, 4, none⟩ (.int .i64 ((groups : Int) + 1))).setCell ⟨t, 5, none⟩ (.int .i64 ((used : Int) + (k : Int)))).heap.size = wr.heap.size := by rw [set_size, set_size]
      refine ⟨Fk, k, Nat.le_refl _, HR.out.on, HR.out.ft, ((HR.out.tt.mono (fun j hj => .inl hj)).set (F := WithT F t) (p := ⟨t, 4, none⟩) (.inr rfl) _).set (F := WithT F t) (p := ⟨t, 5, none⟩) (.inr rfl) _, fun j hj => ?_, .inl ⟨rfl, rfl, ⟨HR.out.d.drum.kept hs (by rw [hz]; exact Nat.le_refl _), (HR.out.d.below.setCell HH.out.wt _).setCell HH.out.wt _, HR.out.d.since⟩, hr⟩⟩
      rcases HR.out.gr j hj with q | q
      · exact .inl q
      · exact .inr ⟨q.1, by rw [hz]; exact q.2⟩
end Go.Proofs.Ytggchfmglaijgaa
