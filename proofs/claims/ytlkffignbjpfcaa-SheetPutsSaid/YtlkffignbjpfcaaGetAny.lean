/- Proved here: Get of the program on a calm drum: a page's bytes and stamp, or what is wrong with them. -/
import Derived.Test.YtlkffignbjpfcaaPutAny
import Derived.Deep.AppendLies
namespace Go.Proofs.Ytlkffignbjpfcaa
open Go.RowKit

theorem app_own {w : World} {B g cap : Nat} {v : Value} {l : List UInt8} {s : ByteArray} (ho : w.ownsRow B 5 1 v l.length (bytesV (ofL l))) (hB : B ≤ w.heap.size) (hs : HoldsB w (some ⟨g, 0, none⟩) s) (h0 : 0 < s.size) (hz : l.length + s.size ≤ 140737488355328) :
    ∃ g' cap' w', (∀ ty, (Builtin.append_ #[33, 33] ty #[v, .slice (some ⟨g, 0, none⟩) s.size cap]).run Try.prog w = .ok (.slice (some ⟨g', 0, none⟩) (l.length + s.size) cap') w') ∧ w'.ownsRow B 5 1 (.slice (some ⟨g', 0, none⟩) (l.length + s.size) cap') (l.length + s.size) (bytesV (ofL (l ++ bl s))) ∧ w.grownBy w' v.ownBlock := by
  obtain ⟨i0, hi, hz0, hz1, hz2⟩ := info_parts infoByte
  obtain ⟨b, off, e, hc⟩ := hs h0
  injection e with e
  injection e with e1 e2
  subst e1 e2
  obtain ⟨g', cap', w', hr, h1, h2, _, _⟩ := run_append_lies (P := Try.prog) w 33 33 B 5 i0 (.int .u8 0) 1 1 Try.underlying33 hi hz0 hz1 hz2 rfl (by decide) v l.length _ ho ⟨g, 0, none⟩ s.size cap (bytesV s) (by rw [bytesV_length, Nat.mul_one]) (fun j u hu => by
    have hj : j < s.size := by have := (List.getElem?_eq_some_iff.1 hu).1; rwa [bytesV_length] at this
    rw [Addr.add_mid, hc j hj, ← hu, bytesV_get s j hj]) (bytesV_one s) h0 (by unfold maxLen; omega) (by omega) hB _ rfl
  refine ⟨g', cap', w', fun ty => by rw [← hr]; rfl, ?_, h2⟩
  rw [ofL_append, ofL_bl, bytesV_append]
  exact h1
theorem DW.grown {w W W' : World} {F : Nat → Prop} {G N : Nat} {M : DM} {row : Option Nat} (h : DW w W F G N M) (hg : W.grownBy W' row) (hr : ∀ k, row = some k → ¬ F k ∧ w.heap.size ≤ k) : DW w W' F G N M :=
  ⟨h.drum.kept (fun k hk => hg.block k (h.drum.lt k hk) (fun e => (hr k e.symm).1 hk)) hg.size, h.below.grown hg h.below.size (fun k e => (hr k e).2), h.since⟩
theorem calm_stepsN {M : DM} (h : Calm M) (hs : M.steps ≤ 990000) : ∀ k, k ≤ 100 → Calm (stepsM M k) ∧ (stepsM M k).steps = M.steps + k ∧ (stepsM M k).loose = M.loose
  | 0, _ => ⟨h, rfl, rfl⟩
  | k + 1, hk => by
    obtain ⟨c, e, e2⟩ := calm_stepsN h hs k (by omega)
    have hs' := DM.step_steps _ c.off
    refine ⟨⟨?_, ?_, ?_, ?_⟩, ?_, ?_⟩
    · rw [stepsM, DM.step_fuse _ c.off, c.fuse]; rfl
    · rw [stepsM, DM.step_down _ c.off, c.down]
    · rw [stepsM, hs', e]; omega
    · rw [stepsM, DM.step_loose]; exact c.loose
    · rw [stepsM, hs', e, Nat.add_assoc]
    · rw [stepsM, DM.step_loose]; exact e2
theorem Seen.steps_more {w W : World} {F : Nat → Prop} {G N b k : Nat} {L : List UInt8} {M : DM} (h : Calm M) (hs : M.steps ≤ b) (hl : M.loose.length ≤ b) (hrow : nowL M = L) (hb : b ≤ 990000) (hk : k ≤ 100) (hd : DW w W F G N (stepsM M k)) : Seen w W F G N (b + k) L (stepsM M k) := by
  obtain ⟨c, e, e2⟩ := calm_stepsN h (by omega) k hk
  exact ⟨hd, c, by omega, by rw [e2]; omega, by unfold nowL; rw [stepsM_now]; exact hrow⟩
def partL (L : List UInt8) (f k : Nat) : List UInt8 := (L.drop (64 * f)).take (64 * k)
theorem partL_length {L : List UInt8} {f k : Nat} (h : 64 * f + 64 * k ≤ L.length) : (partL L f k).length = 64 * k := by
  unfold partL
  rw [List.length_take, List.length_drop]
  omega
def ReadRel (w W : World) (F : Nat → Prop) (G N f : Nat) (M : DM) (v x : Value) (wr : World) : Prop :=
  ∃ k : Nat, x = .int .i64 (k : Int) ∧ k ≤ 8 ∧ ∃ p c, v = .slice p (64 * k) c ∧ Hid (DW w wr F G N (stepsM M k) ∧ Touch (Only G) W wr ∧ wr.ownsRow W.heap.size 5 1 (.slice p (64 * k) c) (64 * k) (bytesV (ofL (partL (nowL M) f k))))
set_option maxRecDepth 100000 in
set_option maxHeartbeats 8000000 in
theorem read_page {w W : World} {F : Nat → Prop} {G N bs pg : Nat} {ok : Bool} {M : DM} (h : DW w W F G N M) (hl : Lies N bs pg ok) (hc : Calm M) (h1 : M.steps ≤ 990000) (n : Nat) (hn : n < pg) :
    Calls Try.prog 52 #[.pointer (some ⟨G, 0, none⟩), .int .i64 (n : Int)] W fun e W' => ∃ g c, e = .returned (.tuple #[.slice (some ⟨g, 0, none⟩) 512 c, .int .i64 0]) ∧ DW w W' F G N (stepsM M 8) ∧ Touch (Only G) W W' ∧ HoldsB W' (some ⟨g, 0, none⟩) (ofL (partL (nowL M) (bs + 8 * n) 8)) ∧ 512 ≤ c := by
  obtain ⟨hok, hb2, hfit⟩ := hl.fits hn
  have FO := Lib.hid (first_ok h.drum hl n hn)
  have HH := Lib.hid (And.intro h (And.intro hc h1))
  have hf4 : bs + 8 * n + 8 ≤ 400 := by have := hl.top; omega
  have HLN := Lib.hid (nowL_length h.drum.ok)
  have HFI := Lib.hid hfit
  have hG0 := Lib.hid (h.drum.lt G h.drum.fG)
  generalize hf : bs + 8 * n = f at *
  clear h hl hc h1 hok hb2 hfit hf hn
  go_enter Try.func52, Try.ntmps52
  go_wp2_with (fail)
  refine FO.out.mono ?_
  rintro e W1 ⟨rfl, hb1⟩
  have H1 := Lib.hid (show DW w W1 F G N M ∧ Touch (Only G) W W1 from ⟨HH.out.1.on hb1, Touch.of_below hb1⟩)
  clear hb1 FO
  go_wp2_with (fail)
  go_loopw [8, 21] (fun v x wr => ReadRel w W F G N f M v x wr) (fun _ x _ => 8 - (intOf x).toNat)
  case atStart => exact ⟨0, rfl, Nat.zero_le _, none, 0, rfl, Lib.hid ⟨H1.out.1, H1.out.2, World.ownsRow_nil _ _ _ _⟩⟩
  case round =>
    clear H1
    obtain ⟨k, rfl, hk, p, c, rfl, HR⟩ := hrel
    by_cases hlt : k < 8
    · have hlt' : (k : Int) < 8 := by omega
      obtain ⟨ck, _, _⟩ := calm_stepsN HH.out.2.1 HH.out.2.2 k (by omega)
      have RD := dread_ok HR.out.1 ck.tame ck.off (f + k) (by have := HFI.out; omega)
      rw [stepsM_now] at RD
      have hrow : partL (nowL M) f (k + 1) = partL (nowL M) f k ++ bl (M.now.getD (f + k) ⟨#[]⟩) := now_page k HH.out.1.drum.ok (by have := HFI.out; omega)
      obtain ⟨row, hr⟩ : ∃ row, M.now.getD (f + k) ⟨#[]⟩ = row := ⟨_, rfl⟩
      rw [hr] at RD hrow
      obtain ⟨l, hpl⟩ : ∃ l, partL (nowL M) f k = l := ⟨_, rfl⟩
      have hll : l.length = 64 * k := by rw [← hpl]; exact partL_length (by rw [HLN.out]; have := HFI.out; omega)
      rw [hpl] at hrow
      have efk : ((f + k : Nat) : Int) = (f : Int) + (k : Int) := by omega
      rw [efk] at RD
      have HRD := Lib.hid RD
      have hR2 : wr.ownsRow W.heap.size 5 1 (.slice p (64 * k) c) (64 * k) (bytesV (ofL l)) := by rw [← hpl]; exact HR.out.2.2
      have HS := Lib.hid (And.intro HR.out.1 (And.intro HR.out.2.1 (And.intro hR2 (And.intro hrow hll))))
      have hfb : (f : Int) ≤ 400 := by omega
      clear RD ck hr hpl hll hrow hR2 HR efk
      go_wp2_with (fail)
      refine HRD.out.mono ?_
      rintro e W4 ⟨g4, rfl, d4, o4, z4, nf4, t4⟩
      have hlt3 := HS.out.2.2.1.lt
      have ow : W4.ownsRow W.heap.size 5 1 (.slice p (64 * k) c) l.length (bytesV (ofL l)) := by
        rw [HS.out.2.2.2.2]
        exact owns_block HS.out.2.2.1 (fun j hj => t4.block j (hlt3 j hj).2 (fun e => by have e' : j = G := e; have := (hlt3 j hj).1; have := hG0.out; omega))
      obtain ⟨g5, c5, W5, hrun, ow5, hgr⟩ := app_own (g := g4) (cap := 64) (s := row) ow (Nat.le_trans HS.out.2.1.size t4.size) o4.holds (by omega) (by rw [HS.out.2.2.2.2, z4]; omega)
      rw [z4, HS.out.2.2.2.2, ← HS.out.2.2.2.1] at ow5
      rw [z4, HS.out.2.2.2.2] at hrun
      have hrw : ∀ j, (Value.slice p (64 * k) c).ownBlock = some j → W.heap.size ≤ j := fun j hj => (hlt3 j hj).1
      have d5 : DW w W5 F G N (stepsM M (k + 1)) := DW.grown d4 hgr (fun j hj => ⟨fun hf => by have := HH.out.1.drum.lt j hf; have := hrw j hj; omega, Nat.le_trans HH.out.1.below.size (hrw j hj)⟩)
      have t5 : Touch (Only G) W W5 := (HS.out.2.1.trans t4 (fun j hj => .inl hj)).grown hgr (fun j hj => .inr (hrw j hj))
      have e64 : 64 * k + 64 = 64 * (k + 1) := by omega
      rw [e64] at hrun ow5
      have HN := Lib.hid (And.intro d5 (And.intro t5 ow5))
      have HRUN := Lib.hid hrun
      clear d4 o4 z4 nf4 t4 hlt3 ow hrun ow5 hgr hrw d5 t5 HRD HS e64
      go_wp2_with (at_builtin; refine wpList_append_eq rfl _ _ _ rfl _ _ _ _ rfl rfl HRUN.out ?_)
      go_roundw
      case rel => exact ⟨k + 1, by go_num, by omega, _, _, rfl, HN⟩
      case measure => simp [intOf]; omega
    · obtain rfl : k = 8 := by omega
      have hq := HR.out.2.2
      obtain ⟨g, cur, hp, hcap⟩ : ∃ g cur, p = some ⟨g, 0, none⟩ ∧ cur = c ∧ 512 ≤ c := by
        rcases hq.2 with ⟨_, e0⟩ | ⟨g, cap, cur, e, _, _, hle, _⟩
        · cases e0
        · injection e with e1 e2 e3
          exact ⟨g, c, e1, rfl, by omega⟩
      subst hp
      have HQ := Lib.hid hcap.2
      clear hq hcap
      go_wp2_with (fail)
      go_ret2
      refine ⟨g, c, rfl, HR.out.1, HR.out.2.1, fun h0 => ⟨g, 0, rfl, fun j hj => ?_⟩, HQ.out⟩
      have hl8 : (partL (nowL M) f 8).length = 64 * 8 := partL_length (by rw [HLN.out]; have := HFI.out; omega)
      rw [Nat.zero_add, HR.out.2.2.cellAt j (by rw [ofL_size, hl8] at hj; omega), bytesV_get _ j hj]
/-- A row of bytes that was answered: it holds these. -/
def Gives (l : List UInt8) (W : World) (r : Value) : Prop := ∃ p c, r = .slice p l.length c ∧ HoldsB W p (ofL l) ∧ (p = none → c = 0)
def GetPostP (w W : World) (F : Nat → Prop) (G N b : Nat) (L : List UInt8) (x : List UInt8 × Nat × Nat) (e : Ending) (W' : World) : Prop := ∃ r M', e = .returned (.tuple #[r, .int .u64 (x.2.1 : Int), .int .i64 (x.2.2 : Int)]) ∧ Gives x.1 W' r ∧ Seen w W' F G N (b + 8) L M' ∧ Touch (Only G) W W'
set_option maxRecDepth 100000 in
set_option maxHeartbeats 4000000 in
theorem get_any {w W : World} {F : Nat → Prop} {G N bs pg b : Nat} {ok : Bool} {L : List UInt8} {M : DM} (h : Seen w W F G N b L M) (hl : Lies N bs pg ok) (hb : b ≤ 900000) (n : Nat) (hn : n < pg) :
    Calls Try.prog 19 #[.pointer (some ⟨G, 0, none⟩), .int .i64 (n : Int)] W (GetPostP w W F G N b L (takeI n (partL L (bs + 8 * n) 8))) := by
  have hs := h.steps
  have RP := Lib.hid (read_page h.d hl h.calm (by omega) n hn)
  have HH := Lib.hid (And.intro h hb)
  have HLN := Lib.hid (nowL_length h.d.drum.ok)
  have HFI := Lib.hid (hl.fits hn).2.2
  have HROW := Lib.hid h.row
  obtain ⟨pl, hpl⟩ : ∃ pl, partL L (bs + 8 * n) 8 = pl := ⟨_, rfl⟩
  have hpz : pl.length = 512 := by rw [← hpl, ← h.row]; exact partL_length (by rw [HLN.out]; have := HFI.out; omega)
  rw [h.row, hpl] at RP
  rw [hpl]
  have HPZ := Lib.hid hpz
  obtain ⟨PO, hPO⟩ : ∃ PO, GetPostP w W F G N b L (takeI n pl) = PO := ⟨_, rfl⟩
  have HPO := Lib.hid hPO
  rw [hPO]
  clear h hl hb hn hs hpl hpz hPO
  go_enter Try.func19, Try.ntmps19
  go_wp2_with (fail)
  refine RP.out.mono ?_
  rintro e W1 ⟨g, c, rfl, d1, t1, hB1, hc1⟩
  have TK := take_any (n : Int) (some ⟨g, 0, none⟩) (ofL pl) 512 c W1 (by rw [ofL_size, HPZ.out]) hc1 hB1
  rw [bl_ofL] at TK
  have HT := Lib.hid TK
  have H1 := Lib.hid (And.intro d1 t1)
  clear d1 t1 hB1 hc1 TK RP
  go_wp2_with (fail)
  refine HT.out.mono ?_
  rintro e W2 ⟨r, rfl, htold⟩
  have hb2 := htold.below
  obtain ⟨pp, cc, hr, hh, hnn⟩ := htold.holds
  have HF := Lib.hid (show Gives (takeI n pl).1 W2 r ∧ Seen w W2 F G N (b + 8) L (stepsM M 8) ∧ Touch (Only G) W W2 from
    ⟨⟨pp, cc, hr, hh, hnn⟩, Seen.steps_more HH.out.1.calm HH.out.1.steps HH.out.1.loose HH.out.1.row (by have := HH.out.2; omega) (by omega) (H1.out.1.on hb2), H1.out.2.trans (Touch.of_below (F := Only G) hb2) (fun j hj => .inl hj)⟩)
  clear htold hb2 hr hh hnn HT
  go_wp2_with (fail)
  go_ret3
  rw [← HPO.out]
  exact ⟨r, _, rfl, HF.out.1, HF.out.2.1, HF.out.2.2⟩
end Go.Proofs.Ytlkffignbjpfcaa
