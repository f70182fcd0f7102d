/- Proved here: what Crash makes of a drum. -/
import Derived.Test.YtlkffignbjpfcaaDrumWrite
namespace Go.Proofs.Ytlkffignbjpfcaa
open Go.RowKit

/-- These bools stand behind this address. -/
def HoldsT (w : World) (p : Option Addr) (l : List Bool) : Prop := 0 < l.length → ∃ b off, p = some ⟨b, off, none⟩ ∧ ∀ j, j < l.length → w.cell? ⟨b, off + j, none⟩ = some (.bool (l.getD j false))
theorem HoldsT.touch {W W' : World} {F : Nat → Prop} {p : Option Addr} {s : List Bool} (h : HoldsT W p s) (ht : Touch F W W') (hsep : ∀ a, p = some a → ¬ F a.block) : HoldsT W' p s := fun h0 => by
  obtain ⟨b, off, e, hc⟩ := h h0
  refine ⟨b, off, e, fun j hj => ?_⟩
  have h1 := hc j hj
  rw [World.cell?_of_block (w := W) (ht.block b (World.block_lt_of_cell? W _ h1) (hsep _ e))]
  exact h1
def CrashRel (W1 : World) (G N : Nat) (M : DM) (keep : List Bool) (x3 x4 x5 x6 : Value) (gn gs cn cs : Nat) (q : Option Addr) (c m : Nat) (v : Value) (wr : World) : Prop :=
  ∃ j : Nat, v = .int .i64 (j : Int) ∧ j ≤ m ∧ Hid (HalfAt wr G N M.now (layM M.safe (keptTo keep M.loose j)) M.loose x3 x4 x5 x6 gn gs cn cs q c ∧ Touch (Only gs) W1 wr)
def BackRel (W1 : World) (G N : Nat) (sf nw : List ByteArray) (lo : List (Nat × ByteArray)) (x3 x4 x5 x6 : Value) (gn gs cn cs : Nat) (q : Option Addr) (c m : Nat) (v : Value) (wr : World) : Prop :=
  ∃ j : Nat, v = .int .i64 (j : Int) ∧ j ≤ m ∧ Hid (HalfAt wr G N (backM sf nw (lo.take j)) sf lo x3 x4 x5 x6 gn gs cn cs q c ∧ Touch (Only gn) W1 wr)
set_option maxRecDepth 100000 in
set_option maxHeartbeats 8000000 in
theorem crash_any (W : World) (F : Nat → Prop) (G N : Nat) (M : DM) (h : Drum W F G N M) (hlo : M.loose.length ≤ 4611686018427387904) (p : Option Addr) (keep : List Bool) (cap : Nat) (hk : HoldsT W p keep) (hkl : keep.length ≤ 4611686018427387904) (hsep : ∀ a, p = some a → ¬ F a.block) :
    Calls Try.prog 25 #[.pointer (some ⟨G, 0, none⟩), .slice p keep.length cap] W fun e W' => e = .returned (.int .i64 0) ∧ Drum W' F G N (M.crash keep) ∧ Touch F W W' := by
  obtain ⟨gn, gs, cn, cs, q, c, hd⟩ := h
  have hh := hd.half
  have hb := hh.blk
  have c2 : W.cell? ⟨G, 2, none⟩ = some (.slice q M.loose.length c) := by rw [cell_of_row _ _ _ _ _ _ hb]; rfl
  have HH := Lib.hid hh
  have HD := Lib.hid hd
  have HK := Lib.hid (And.intro hk hsep)
  obtain ⟨L, hL⟩ : ∃ L, M.loose.length = L := ⟨_, rfl⟩
  obtain ⟨kl, hKL⟩ : ∃ kl, keep.length = kl := ⟨_, rfl⟩
  rw [hL] at c2 hlo
  rw [hKL] at hkl ⊢
  have hlo' : (L : Int) ≤ 4611686018427387904 := by omega
  have hkl' : (kl : Int) ≤ 4611686018427387904 := by omega
  have HL := Lib.hid (And.intro hL hKL)
  obtain ⟨m, hm⟩ : ∃ m, min L kl = m := ⟨_, rfl⟩
  have hmi : min (L : Int) (kl : Int) = (m : Int) := by omega
  have hmL : m ≤ L ∧ m ≤ kl := by omega
  have HM := Lib.hid (And.intro hm hmL)
  clear hh hb hd hk hsep hL hKL hm hmL
  go_enter Try.func25, Try.ntmps25
  go_wp2_with (fail)
  all_goals
    try rw [show ((kl : Nat) : Int) = (m : Int) by have := HM.out; omega]
    try rw [show ((L : Nat) : Int) = (m : Int) by have := HM.out; omega]
    go_loopw [18] (fun v wr => CrashRel W G N M keep (.int .i64 (M.steps : Int)) (.bool M.fuse.isSome) (.int .i64 ((M.fuse.getD 0 : Nat) : Int)) (.bool M.down) gn gs cn cs q c m v wr) (fun v _ => m - (intOf v).toNat)
    case atStart => exact ⟨0, rfl, Nat.zero_le _, Lib.hid ⟨HH.out, Touch.refl _ _⟩⟩
    case round =>
      obtain ⟨j, rfl, hj, HR⟩ := hrel
      have hmL := HM.out.2
      by_cases hlt : j < m
      · have hk1 := HK.out.1.touch HR.out.2 (fun a ha hf => HK.out.2 a ha (only_F HD.out.fs _ hf))
        obtain ⟨b, off, e, hc⟩ := hk1 (by rw [HL.out.2]; omega)
        have c1 := hc j (by rw [HL.out.2]; omega)
        have hjk : j < kl := by omega
        have HJ := Lib.hid hlt
        subst e
        clear hc hk1
        cases hkj : keep.getD j false
        · rw [hkj] at c1
          have HN := Lib.hid hkj
          clear hkj
          go_wp2_with (fail)
          go_round
          case rel =>
            refine ⟨j + 1, by go_num, by omega, Lib.hid ⟨?_, HR.out.2⟩⟩
            have h3 := HR.out.1
            have e1 : j < keep.length := by rw [HL.out.2]; omega
            have e2 : keep[j] = false := by have := HN.out; rw [List.getD_eq_getElem?_getD, List.getElem?_eq_getElem e1] at this; exact this
            rw [keptTo_no e1 (by rw [HL.out.1]; omega) e2]
            exact h3
          case measure => simp [intOf]; omega
        · rw [hkj] at c1
          have HN := Lib.hid hkj
          have SD := Lib.hid (stand_any HR.out.1 (k := j) (by rw [HL.out.1]; omega))
          clear hkj
          go_wp2_with (fail)
          refine (SD.out).mono ?_
          rintro e w3 ⟨rfl, h3, t3⟩
          have H3 := Lib.hid (And.intro h3 t3)
          clear h3 t3 SD
          go_wp2_with (fail)
          go_round
          case rel =>
            refine ⟨j + 1, by go_num, by omega, Lib.hid ⟨?_, HR.out.2.trans H3.out.2 (fun k hk => .inl hk)⟩⟩
            have h3 := H3.out.1
            have e1 : j < keep.length := by rw [HL.out.2]; omega
            have e3 : j < M.loose.length := by rw [HL.out.1]; omega
            have e2 : keep[j] = true := by have := HN.out; rw [List.getD_eq_getElem?_getD, List.getElem?_eq_getElem e1] at this; exact this
            rw [keptTo_yes e1 e3 e2, layM_snoc]
            exact h3
          case measure => simp [intOf]; omega
      · obtain rfl : j = m := by omega
        have hr := HR.out
        rw [keptTo_all (by have := HM.out.1; rw [HL.out.1, HL.out.2]; omega)] at hr
        have hb := hr.1.blk
        have d2 : wr.cell? ⟨G, 2, none⟩ = some (.slice q L c) := by rw [cell_of_row _ _ _ _ _ _ hb, ← HL.out.1]; rfl
        obtain ⟨W1, hW1⟩ : ∃ W1, wr = W1 := ⟨_, rfl⟩
        rw [hW1] at hr d2 ⊢
        have HR1 := Lib.hid hr
        obtain ⟨sf, hsf⟩ : ∃ sf, layM M.safe (keptM keep M.loose) = sf := ⟨_, rfl⟩
        rw [hsf] at HR1
        have HSF := Lib.hid hsf
        clear hb hr HR hW1 hsf hmL hlt hj
        go_wp2_with (fail)
        go_loopw [34] (fun v wr => BackRel W1 G N sf M.now M.loose (.int .i64 (M.steps : Int)) (.bool M.fuse.isSome) (.int .i64 ((M.fuse.getD 0 : Nat) : Int)) (.bool M.down) gn gs cn cs q c L v wr) (fun v _ => L - (intOf v).toNat)
        case atStart => exact ⟨0, rfl, Nat.zero_le _, Lib.hid ⟨HR1.out.1, Touch.refl _ _⟩⟩
        case round =>
          obtain ⟨j, rfl, hj, HR⟩ := hrel
          by_cases hlt : j < L
          · have h1 := HR.out.1
            obtain ⟨gl, eq, hgl, hrg, hc0, hlc⟩ := h1.write (k := j) (by rw [HL.out.1]; exact hlt)
            obtain ⟨hn, hp⟩ := h1.at_ (M.loose[j]'(by rw [HL.out.1]; exact hlt)) (List.getElem_mem _)
            obtain ⟨x, hx⟩ : ∃ x, M.loose[j]'(by rw [HL.out.1]; exact hlt) = x := ⟨_, rfl⟩
            have HXJ := Lib.hid hx
            rw [hx] at hc0 hn hp
            have hb := h1.blk
            have e0 : wr.cell? ⟨G, 0, none⟩ = some (.slice (some ⟨gn, 0, none⟩) N cn) := by rw [cell_of_row _ _ _ _ _ _ hb]; rfl
            have e1 : wr.cell? ⟨G, 1, none⟩ = some (.slice (some ⟨gs, 0, none⟩) N cs) := by rw [cell_of_row _ _ _ _ _ _ hb]; rfl
            have e2 : wr.cell? ⟨G, 2, none⟩ = some (.slice q L c) := by rw [cell_of_row _ _ _ _ _ _ hb, ← HL.out.1]; rfl
            have hsl := h1.safe.len
            obtain ⟨hps, hr1⟩ := h1.safe.row x.1 (by rw [hsl]; exact hn)
            obtain ⟨row, hrow⟩ : ∃ row, sf[x.1]'(by rw [hsl]; exact hn) = row := ⟨_, rfl⟩
            rw [hrow] at hps hr1
            have hrD : sf.getD x.1 ⟨#[]⟩ = row := by rw [List.getD_eq_getElem?_getD, List.getElem?_eq_getElem (by rw [hsl]; exact hn)]; exact hrow
            have ht := h1.now.there hn
            obtain ⟨P1, hP1⟩ : ∃ P1, bytesV row = P1 := ⟨_, rfl⟩
            have hpl : P1.length = 64 := by rw [← hP1, bytesV_len hps]
            have hp1 : ∀ v ∈ P1, v.oneCell' = true := by rw [← hP1]; exact bytesV_one _
            rw [hP1] at hr1
            obtain ⟨n, hn'⟩ : ∃ n, x.1 = n := ⟨_, rfl⟩
            rw [hn'] at hc0 hn hr1 ht hrD
            have hn0 : (0 : Int) ≤ (n : Int) := by omega
            have hn1 : (n : Int) < (N : Int) := by omega
            have hgsn : gs ≠ gn := fun e => h1.apart.2.2.1 e.symm
            have KX := Lib.hid (fun (w' : World) (hs : w'.cell? ⟨G, 0, none⟩ = some (.slice (some ⟨gn, 0, none⟩) N cn) ∧ w'.cell? ⟨G, 1, none⟩ = some (.slice (some ⟨gs, 0, none⟩) N cs) ∧ w'.rangeAt gs (n * 64) P1 ∧ w'.there gn (n * 64) 64) =>
              (show (w'.setCells gn (n * 64) P1).cell? ⟨G, 0, none⟩ = some (.slice (some ⟨gn, 0, none⟩) N cn) ∧ (w'.setCells gn (n * 64) P1).cell? ⟨G, 1, none⟩ = some (.slice (some ⟨gs, 0, none⟩) N cs) ∧ (w'.setCells gn (n * 64) P1).rangeAt gs (n * 64) P1 ∧ (w'.setCells gn (n * 64) P1).there gn (n * 64) 64 from
              ⟨by rw [World.cell?_of_block (w := w') (heap_setCells gn P1 (n * 64) w' G h1.apart.1)]; exact hs.1, by rw [World.cell?_of_block (w := w') (heap_setCells gn P1 (n * 64) w' G h1.apart.1)]; exact hs.2.1, World.rangeAt_setCells_apart hs.2.2.1 _ _ _ (.inl hgsn), World.there_setCells hs.2.2.2 _ _ _⟩))
            have hu := Try.underlying84
            have hi : (Try.prog.info? 84).map (·.size) = some P1.length := by rw [sizeSector, hpl]
            have hN1 : (N : Int) ≤ 16384 := by have := h1.big.1; omega
            have hlt' : (j : Int) < (L : Int) := by omega
            have HX := Lib.hid (And.intro hn (And.intro hps (And.intro hP1 (And.intro hn' (And.intro hrD hlt)))))
            subst eq
            clear h1 hrg hp hx hb hsl hps hrow hP1 hn' hrD hn hlc
            go_wp2_with (fail)
            go_region_held3 (fun w' => w'.cell? ⟨G, 0, none⟩ = some (.slice (some ⟨gn, 0, none⟩) N cn) ∧ w'.cell? ⟨G, 1, none⟩ = some (.slice (some ⟨gs, 0, none⟩) N cs) ∧ w'.rangeAt gs (n * 64) P1 ∧ w'.there gn (n * 64) 64)
              (first | assumption | exact KX.out _ (by assumption) | (refine KX.out _ ?_; assumption) | go_keep_ranges | go_keep | ((go_split_ands; refine ⟨?_, ?_, ?_, ?_⟩ <;> first | go_keep_ranges | go_keep))) (fail)
            go_wp2_with (fail)
            go_round
            case rel =>
              have hw := HR.out.1.wrote (Below.refl _ _) HX.out.1 HX.out.2.1
              rw [HX.out.2.2.1] at hw
              refine ⟨j + 1, by go_num, by have := HX.out.2.2.2.2.2; omega, Lib.hid ⟨?_, HR.out.2.trans hw.2 (fun k hk => .inl hk)⟩⟩
              rw [take_snoc' M.loose j (by rw [HL.out.1]; exact HX.out.2.2.2.2.2), backM_snoc, HXJ.out, HX.out.2.2.2.1, HX.out.2.2.2.2.1]
              exact hw.1
            case measure => have := HX.out.2.2.2.2.2; simp [intOf]; omega
          · obtain rfl : j = L := by omega
            have hr := HR.out
            rw [List.take_of_length_le (by rw [HL.out.1]; exact Nat.le_refl _), ← HSF.out] at hr
            have e : backM (layM M.safe (keptM keep M.loose)) M.now M.loose = layM M.safe (keptM keep M.loose) := back_all _ _ _
            rw [e] at hr
            have hb := hr.1.blk
            have fr := fun j => frozen_of_row wr G j _ _ hb
            have f2 := fr 2
            have f4 := fr 4
            have f5 := fr 5
            have f6 := fr 6
            have d2 : wr.cell? ⟨G, 2, none⟩ = some (.slice q M.loose.length c) := by rw [cell_of_row _ _ _ _ _ _ hb]; rfl
            have d4 : wr.cell? ⟨G, 4, none⟩ = some (.bool M.fuse.isSome) := by rw [cell_of_row _ _ _ _ _ _ hb]; rfl
            have d5 : wr.cell? ⟨G, 5, none⟩ = some (.int .i64 ((M.fuse.getD 0 : Nat) : Int)) := by rw [cell_of_row _ _ _ _ _ _ hb]; rfl
            have d6 : wr.cell? ⟨G, 6, none⟩ = some (.bool M.down) := by rw [cell_of_row _ _ _ _ _ _ hb]; rfl
            have HRR := Lib.hid hr
            clear e hr hb fr HR hj hlt
            go_wp2_with (fail)
            go_ret
            have hr := HRR.out
            have t1 : Touch F W wr := (HR1.out.2.mono (only_F HD.out.fs)).trans (hr.2.mono (only_F HD.out.fn)) (fun k hk => .inl hk)
            refine ⟨rfl, ?_, ((((t1.set (p := ⟨G, 2, none⟩) HD.out.fG _).set (p := ⟨G, 4, none⟩) HD.out.fG _).set (p := ⟨G, 5, none⟩) HD.out.fG _).set (p := ⟨G, 6, none⟩) HD.out.fG _)⟩
            refine hr.1.done (M.crash keep) (HD.out.ok.crash keep) rfl rfl rfl HD.out.fG HD.out.fn HD.out.fs (fun k hk => Nat.lt_of_lt_of_le (HD.out.lt k hk) t1.size) (fun k hk => (((set_other k hk).trans (set_other k hk)).trans (set_other k hk)).trans (set_other k hk)) (((set_size.trans set_size).trans set_size).trans set_size) ?_
            exact u_row (k := 6) (.bool false) (u_row (k := 5) (.int .i64 0) (u_row (k := 4) (.bool false) (u_row (k := 2) (.slice none 0 0) hr.1.blk)))
end Go.Proofs.Ytlkffignbjpfcaa
