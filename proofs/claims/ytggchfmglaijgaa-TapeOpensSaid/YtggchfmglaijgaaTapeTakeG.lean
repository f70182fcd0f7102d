/- Proved here: what take makes of any sector, in any reader. -/
import Derived.Test.YtggchfmglaijgaaTapeRM
import Derived.Test.YtggchfmglaijgaaDrumWrite
namespace Go.Proofs.Ytggchfmglaijgaa
open Go.RowKit

theorem owns_form {w : World} {B : Nat} {e : TypeId} {size : Nat} {v : Value} {n : Nat} {xs : List Value} (h : w.ownsRow B e size v n xs) : ∃ p c, v = .slice p n c ∧ (p = none → n = 0 ∧ c = 0) := by
  rcases h.2 with ⟨rfl, rfl⟩ | ⟨g, cap, cur, rfl, _⟩
  · exact ⟨none, 0, rfl, fun _ => ⟨rfl, rfl⟩⟩
  · exact ⟨some ⟨g, 0, none⟩, cap, rfl, fun h => by cases h⟩
theorem slice_sector (A S : Nat) (hS : S ≤ 48) (W : World) : (Instr.sliceAt 120 (.pointer (some ⟨A, 0, none⟩)) (some (.int .i64 16)) (some (.int .i64 (16 + (S : Int)))) none).run Try.prog W = .ok (.slice (some ⟨A, 16, none⟩) S 48) W := by
  have ha : Try.prog.arrayLen 120 = 64 := by kernel_rfl
  have he : Try.prog.elem 120 = 5 := by kernel_rfl
  have hu : Try.prog.underlying 120 = some (.array (Try.prog.arrayLen 120) (Try.prog.elem 120)) := by rw [ha, he]; exact Try.underlying120
  rw [run_sliceAt_array_lh W 120 ⟨A, 0, none⟩ hu .i64 .i64 16 (16 + (S : Int)) (by omega) (by omega) (by rw [ha]; omega), he, size_byte]
  show Result.ok (slicedAt ⟨A, 0, none⟩ (16 : Int).toNat (16 + (S : Int)).toNat (Try.prog.arrayLen 120) 1) W = _
  rw [ha]
  unfold slicedAt
  rw [show (16 : Int).toNat = 16 from rfl, show (16 + (S : Int)).toNat = 16 + S by omega, if_neg (by decide), show 16 + S - 16 = S by omega]
  rfl
def readV (gen : Nat) (gv : Value) (used : Nat) (bv : Value) (taken missing : Nat) : Array Value := #[.int .i64 (gen : Int), gv, .int .i64 (used : Int), bv, .int .i64 (taken : Int), .int .i64 (missing : Int)]
/-- A group goes on. -/
theorem took_more {Y2 w8 W : World} {Y : Nat → Prop} {R gen : Nat} {M : RM} {l : List UInt8} {gv bv nv : Value} {Vs : List Value} {L B : Nat} (h : ReadIn Y2 Y R gen M gv bv Vs) (hown : w8.ownsRow 0 5 1 nv L (bytesV (M.grown l))) (hL : (M.grown l).size = L)
    (hg : Y2.grownBy w8 bv.ownBlock) (hat : nv.ownBlock = bv.ownBlock ∨ nv.ownBlock = some Y2.heap.size) (ho : ∀ k, k < w8.heap.size → k ≠ R → W.heap[k]? = w8.heap[k]?) (hz : w8.heap.size ≤ W.heap.size)
    (hb : W.heap[R]? = some (.cells (readV gen gv M.used nv (M.taken + 1) B) 115 (0, 0))) (hB : behL l = B) (hB0 : B ≠ 0) : ReadIn W (fun k => Y k ∨ nv.ownBlock = some k) R gen (M.next l) gv nv Vs := by
  have e : M.next l = ⟨M.groups, M.used, M.grown l, M.taken + 1, B⟩ := by
    unfold RM.next
    rw [hB, if_neg hB0]
  rw [e]
  have hRlt : R < Y2.heap.size := obj_lt h.blk
  have h2 : ∀ k, Y k → k ≠ R → bv.ownBlock ≠ some k → W.heap[k]? = Y2.heap[k]? := fun k hk hr hbk =>
    (ho k (Nat.lt_of_lt_of_le (h.lt k hk) hg.size) hr).trans (hg.block k (h.lt k hk) (fun q => hbk q.symm))
  have hnR : ∀ k, nv.ownBlock = some k → k ≠ R := fun k hk e => by
    rcases hat with q | q
    · exact (h.yb k (q ▸ hk)).2.1 e
    · rw [q] at hk; injection hk with hk; omega
  refine ⟨hb, owns_block h.groups (fun k hk => h2 k (h.yg k hk).1 (h.yg k hk).2 (fun q => (h.yb k q).2.2 hk)), fun i hi => ?_, ?_, .inl h.yR, fun k hk => ⟨.inl (h.yg k hk).1, (h.yg k hk).2⟩, fun k hk => ⟨.inr hk, hnR k hk, fun q => ?_⟩, fun k hk => ?_⟩
  · obtain ⟨v, a1, a2, a3⟩ := h.rows i hi
    refine ⟨v, a1, owns_block a2 (fun k hk => h2 k (a3 k hk).1 (a3 k hk).2.1 (a3 k hk).2.2.2), fun k hk => ⟨.inl (a3 k hk).1, (a3 k hk).2.1, (a3 k hk).2.2.1, fun q => ?_⟩⟩
    rcases hat with q2 | q2
    · exact (a3 k hk).2.2.2 (q2 ▸ q)
    · rw [q2] at q; injection q with q; have := h.lt k (a3 k hk).1; omega
  · show W.ownsRow 0 5 1 nv (M.grown l).size (bytesV (M.grown l))
    rw [hL]
    exact owns_block hown (fun k hk => ho k (hown.lt k hk).2 (hnR k hk))
  · rcases hat with q2 | q2
    · exact (h.yb k (q2 ▸ hk)).2.2 q
    · rw [q2] at hk; injection hk with hk; have := h.lt k (h.yg k q).1; omega
  · rcases hk with hk | hk
    · exact Nat.lt_of_lt_of_le (Nat.lt_of_lt_of_le (h.lt k hk) hg.size) hz
    · exact Nat.lt_of_lt_of_le (hown.lt k hk).2 hz
/-- A group is whole. -/
theorem took_last {Y2 w8 V U w12 W : World} {Y : Nat → Prop} {R gen : Nat} {M : RM} {l : List UInt8} {gv bv nv gv' : Value} {Vs : List Value} {L : Nat} (h : ReadIn Y2 Y R gen M gv bv Vs) (hown : w8.ownsRow 0 5 1 nv L (bytesV (M.grown l))) (hL : (M.grown l).size = L)
    (hg : Y2.grownBy w8 bv.ownBlock) (hat : nv.ownBlock = bv.ownBlock ∨ nv.ownBlock = some Y2.heap.size) (hoV : ∀ k, k < w8.heap.size → k ≠ R → V.heap[k]? = w8.heap[k]?) (hzV : w8.heap.size ≤ V.heap.size)
    (hoU : ∀ k, k < V.heap.size → U.heap[k]? = V.heap[k]?) (hzU : V.heap.size < U.heap.size)
    (hown2 : w12.ownsRow 0 33 1 gv' (M.groups.length + 1) (Vs ++ [nv])) (hg2 : U.grownBy w12 gv.ownBlock) (hat2 : gv'.ownBlock = gv.ownBlock ∨ gv'.ownBlock = some U.heap.size)
    (hoW : ∀ k, k ≠ R → W.heap[k]? = w12.heap[k]?) (hzW : W.heap.size = w12.heap.size)
    (hb : W.heap[R]? = some (.cells (readV gen gv' (M.taken + 1) (.slice none 0 0) (M.taken + 1) 0) 115 (0, 0))) (hB : behL l = 0) :
    ReadIn W (fun k => Y k ∨ nv.ownBlock = some k ∨ gv'.ownBlock = some k) R gen (M.next l) gv' (.slice none 0 0) (Vs ++ [nv]) := by
  have e : M.next l = ⟨M.groups ++ [M.grown l], M.taken + 1, ⟨#[]⟩, M.taken + 1, 0⟩ := by
    unfold RM.next
    rw [if_pos hB]
  rw [e]
  have hRlt : R < Y2.heap.size := obj_lt h.blk
  have hz8 := hg.size
  have hz12 := hg2.size
  -- what stands of the old blocks
  have h8 : ∀ k, k < w8.heap.size → k ≠ R → gv.ownBlock ≠ some k → W.heap[k]? = w8.heap[k]? := fun k hk hr hgk =>
    (hoW k hr).trans ((hg2.block k (by omega) (fun q => hgk q.symm)).trans ((hoU k (by omega)).trans (hoV k hk hr)))
  have h2 : ∀ k, Y k → k ≠ R → gv.ownBlock ≠ some k → bv.ownBlock ≠ some k → W.heap[k]? = Y2.heap[k]? := fun k hk hr hgk hbk =>
    (h8 k (Nat.lt_of_lt_of_le (h.lt k hk) hg.size) hr hgk).trans (hg.block k (h.lt k hk) (fun q => hbk q.symm))
  have hnR : ∀ k, nv.ownBlock = some k → k ≠ R := fun k hk e => by
    rcases hat with q | q
    · exact (h.yb k (q ▸ hk)).2.1 e
    · rw [q] at hk; injection hk with hk; omega
  have hng : ∀ k, nv.ownBlock = some k → gv.ownBlock ≠ some k := fun k hk q => by
    rcases hat with q2 | q2
    · exact (h.yb k (q2 ▸ hk)).2.2 q
    · rw [q2] at hk; injection hk with hk; have := h.lt k (h.yg k q).1; omega
  have hgR : ∀ k, gv'.ownBlock = some k → k ≠ R := fun k hk e => by
    rcases hat2 with q | q
    · exact (h.yg k (q ▸ hk)).2 e
    · rw [q] at hk; injection hk with hk; omega
  have hold : ∀ k, k < w8.heap.size → gv.ownBlock ≠ some k → gv'.ownBlock ≠ some k := fun k hk hgk q => by
    rcases hat2 with q2 | q2
    · exact hgk (q2 ▸ q)
    · rw [q2] at q; injection q with q; omega
  refine ⟨hb, ?_, fun i hi => ?_, World.ownsRow_nil _ _ _ _, .inl h.yR, fun k hk => ⟨.inr (.inr hk), hgR k hk⟩, fun k hk => (by cases hk), fun k hk => ?_⟩
  · show W.ownsRow 0 33 1 gv' (M.groups ++ [M.grown l]).length (Vs ++ [nv])
    rw [List.length_append]
    exact owns_block hown2 (fun k hk => hoW k (hgR k hk))
  · have hVl : Vs.length = M.groups.length := by have := h.groups.1; omega
    have hi' : i < (M.groups ++ [M.grown l]).length := hi
    rw [List.length_append, List.length_singleton] at hi'
    by_cases hil : i < M.groups.length
    · obtain ⟨v, a1, a2, a3⟩ := h.rows i hil
      refine ⟨v, by rw [List.getElem?_append_left (by omega)]; exact a1, ?_, fun k hk => ⟨.inl (a3 k hk).1, (a3 k hk).2.1, hold k (Nat.lt_of_lt_of_le (h.lt k (a3 k hk).1) hg.size) (a3 k hk).2.2.1, fun q => by cases q⟩⟩
      have e2 : (M.groups ++ [M.grown l])[i]'hi = M.groups[i] := List.getElem_append_left hil
      show W.ownsRow 0 5 1 v ((M.groups ++ [M.grown l])[i]'hi).size (bytesV ((M.groups ++ [M.grown l])[i]'hi))
      rw [e2]
      exact owns_block a2 (fun k hk => h2 k (a3 k hk).1 (a3 k hk).2.1 (a3 k hk).2.2.1 (a3 k hk).2.2.2)
    · obtain rfl : i = M.groups.length := by omega
      have e2 : (M.groups ++ [M.grown l])[M.groups.length]'hi = M.grown l := by simp
      refine ⟨nv, by rw [← hVl]; simp, ?_, fun k hk => ⟨.inr (.inl hk), hnR k hk, hold k (hown.lt k hk).2 (hng k hk), fun q => by cases q⟩⟩
      show W.ownsRow 0 5 1 nv ((M.groups ++ [M.grown l])[M.groups.length]'hi).size (bytesV ((M.groups ++ [M.grown l])[M.groups.length]'hi))
      rw [e2, hL]
      exact owns_block hown (fun k hk => h8 k (hown.lt k hk).2 (hnR k hk) (hng k hk))
  · rcases hk with hk | hk | hk
    · have := h.lt k hk; omega
    · have := (hown.lt k hk).2; omega
    · have := (hown2.lt k hk).2; omega
/-- What take leaves. -/
def TookPost (W : World) (Y : Nat → Prop) (R gen : Nat) (M : RM) (l : List UInt8) (e : Ending) (W' : World) : Prop :=
  e = .returned (.bool (M.fit gen l)) ∧ Touch Y W W' ∧ ∃ Y', (∀ k, Y' k → Grow Y W W' k) ∧ ReadAt W' Y' R gen (if M.fit gen l = true then M.next l else M)
set_option maxRecDepth 100000 in
set_option maxHeartbeats 16000000 in
theorem take_ok (Y : Nat → Prop) (R gen : Nat) (M : RM) (l : List UInt8) (hl : l.length = 64) (b off c : Nat) (w : World) (h : ReadAt w Y R gen M) (hp : HoldsB w (some ⟨b, off, none⟩) (ofL l))
    (hgen : gen ≤ 4294967295) (htk : M.taken ≤ 65536) (hms : M.missing ≤ 65536) (hgr : M.groups.length ≤ 65536) (hbg : M.begun.size ≤ 1073741824) :
    Calls Try.prog 63 #[.pointer (some ⟨R, 0, none⟩), .slice (some ⟨b, off, none⟩) 64 c] w (TookPost w Y R gen M l) := by
  obtain ⟨gv, bv, Vs, hr⟩ := h
  obtain ⟨ga, gc, rfl, hga⟩ := owns_form hr.groups
  obtain ⟨ba, bc, rfl, hba⟩ := owns_form hr.begun
  obtain ⟨hz, hzs⟩ := zero_of_info infoSec
  obtain ⟨C, hC⟩ : ∃ C, (bytesV (ofL l)).toArray = C := ⟨_, rfl⟩
  have hsz : C.size = 64 := by rw [← hC, List.size_toArray, bytesV_length, ofL_size]; exact hl
  have hi : (Try.prog.info? 120).map (·.size) = some C.size := by rw [hsz]; exact info64
  have HHC := Lib.hid hC
  have HI := Lib.hid hi
  have BH := fun W => behind_any l hl W
  have SZ := fun W => size_any l hl W
  have FT := fun W h => fits_any R M.missing hms l hl W h
  unfold secV at BH SZ FT
  rw [hC] at BH SZ FT
  have hB16 : behL l < 65536 := val_two l 12
  have eB : valN ((l.drop 12).take 2) = behL l := rfl
  have eS : valN ((l.drop 14).take 2) = sizL l := rfl
  simp only [eB] at BH
  simp only [eS] at SZ
  obtain ⟨B, hB⟩ : ∃ B, behL l = B := ⟨_, rfl⟩
  obtain ⟨S, hS⟩ : ∃ S, sizL l = S := ⟨_, rfl⟩
  have HBS := Lib.hid (And.intro hB hS)
  rw [hB] at BH FT hB16
  rw [hS] at SZ FT
  obtain ⟨f0, hf0⟩ : ∃ f, fitsP M.missing B S = f := ⟨_, rfl⟩
  rw [hf0] at FT
  have HF0 := Lib.hid hf0
  obtain ⟨WA, hWA⟩ : ∃ WA, w.alloc (.cells zSec 120) = WA := ⟨_, rfl⟩
  have nA : WA.heap[w.heap.size]? = some (.cells zSec.toList.toArray 120 (0, 0)) := by rw [← hWA]; exact heap_alloc_new _ _
  have bA : Below w.heap.size w WA := by rw [← hWA]; exact (Below.refl _ _).alloc (Nat.le_refl _) _
  have HP := Lib.hid (And.intro (hp.below bA) hr)
  have HB := Lib.hid BH
  have HS := Lib.hid SZ
  have HF := Lib.hid FT
  have HA := Lib.hid (And.intro nA bA)
  have HZ := Lib.hid hzs
  have HL := Lib.hid hl
  have HN := Lib.hid (And.intro hgen (And.intro htk (And.intro hms (And.intro hgr (And.intro hbg hB16)))))
  have HG := Lib.hid (And.intro hga hba)
  clear BH SZ FT nA bA hr hp hi hsz hC hzs hl hgen htk hms hgr hbg hB16 hf0 hga hba hB hS eB eS
  go_enter Try.func63, Try.ntmps63
  go_wp2_with (refine wpList_copy_splice rfl (.tmp 7) (.tmp 8) 33 33 rfl 5 Try.underlying33 (by kernel_rfl) (some ⟨w.heap.size, 0, none⟩) (some ⟨b, off, none⟩) 64 64 64 c rfl rfl w.heap.size 0 zSec.toList 120 HA.out.1 (bytesV (ofL l)) (by rw [bytesV_length, ofL_size, HL.out]; rfl) (fun _ => ⟨rfl, _, rfl, fun j v hv => cells_at HP.out.1 j v hv⟩) (by rw [bytesV_length, ofL_size, HL.out]; decide) (bytesV_one _) w.heap.size WA (Below.refl _ _) (Nat.le_refl _) ?_)
  intro W1 hw1 hb1
  have hr1 := hw1.out
  have hspl : (splice zSec.toList 0 (bytesV (ofL l))).toArray = C := by
    rw [splice_whole _ _ (by rw [bytesV_length, ofL_size, HL.out]; rfl)]
    exact HHC.out
  rw [hspl] at hr1
  have bw1 : Below w.heap.size w W1 := HA.out.2.trans hb1
  have I1 := HP.out.2.touch (W' := W1) (fun k hk => bw1.block k (HP.out.2.lt k hk)) bw1.size
  have c5 : W1.cell? ⟨R, 5, none⟩ = some (.int .i64 (M.missing : Int)) := by rw [cell_of_row _ _ _ _ _ _ I1.blk]; rfl
  have H1 := Lib.hid (And.intro hr1 (And.intro I1 (And.intro bw1 c5)))
  clear hw1 hb1 hr1 hspl I1 c5 bw1 hWA hz
  go_wp2_with (refine wpList_load_row rfl 120 _ rfl w.heap.size rfl 120 C (0, 0) _ H1.out.1 Try.underlying120 rfl HI.out ?_)
  refine (HF.out W1 H1.out.2.2.2).mono ?_
  rintro e W2 ⟨rfl, b2⟩
  have n2 := (b2.block _ (obj_lt H1.out.1)).trans H1.out.1
  have I2 := H1.out.2.1.touch (W' := W2) (fun k hk => b2.block k (H1.out.2.1.lt k hk)) b2.size
  have H2 := Lib.hid (And.intro n2 (And.intro I2 (H1.out.2.2.1.trans (b2.mono H1.out.2.2.1.size))))
  clear n2 I2 b2
  cases f0 with
  | false =>
    go_wp2_with (fail)
    go_ret
    have hnf : M.fit gen l = false := by
      unfold RM.fit
      rw [HBS.out.1, HBS.out.2, HF0.out]; rfl
    refine ⟨by rw [hnf]; rfl, Touch.of_below H2.out.2.2, Y, fun k hk => .inl hk, ?_⟩
    rw [hnf]
    exact ⟨_, _, _, H2.out.2.1⟩
  | true =>
    have hS48 : S ≤ 48 := fits_size HF0.out
    have HS48 := Lib.hid hS48
    have s1 : (S : Int) ≤ 48 := by omega
    have s2 : (0 : Int) ≤ (S : Int) := by omega
    have hsl := fun W => slice_sector w.heap.size S hS48 W
    clear hS48
    go_wp2_with (refine wpList_load_row rfl 120 _ rfl w.heap.size rfl 120 C (0, 0) _ H2.out.1 Try.underlying120 rfl HI.out ?_)
    refine (HS.out W2).mono ?_
    rintro e W3 ⟨rfl, b3⟩
    have n3 := (b3.block _ (obj_lt H2.out.1)).trans H2.out.1
    have I3 := H2.out.2.1.touch (W' := W3) (fun k hk => b3.block k (H2.out.2.1.lt k hk)) b3.size
    have q0 : W3.cell? ⟨R, 0, none⟩ = some (.int .i64 (gen : Int)) := by rw [cell_of_row _ _ _ _ _ _ I3.blk]; rfl
    have q1 : W3.cell? ⟨R, 1, none⟩ = some (.slice ga M.groups.length gc) := by rw [cell_of_row _ _ _ _ _ _ I3.blk]; rfl
    have q4 : W3.cell? ⟨R, 4, none⟩ = some (.int .i64 (M.taken : Int)) := by rw [cell_of_row _ _ _ _ _ _ I3.blk]; rfl
    have H3 := Lib.hid (And.intro n3 (And.intro (And.intro q0 (And.intro q1 q4)) (And.intro I3 (H2.out.2.2.trans (b3.mono H2.out.2.2.size)))))
    clear n3 I3 b3 q0 q1 q4
    go_wp2_with (fail)
    refine wp_region_held_drew (S := fun W => W.heap[w.heap.size]? = some (.cells C 120 (0, 0)) ∧ W.cell? ⟨R, 0, none⟩ = some (.int .i64 (gen : Int)) ∧ W.cell? ⟨R, 1, none⟩ = some (.slice ga M.groups.length gc) ∧ W.cell? ⟨R, 4, none⟩ = some (.int .i64 (M.taken : Int))) (by kernel_rfl) ⟨H3.out.1, H3.out.2.1⟩ (fun hHeld => ?_)
    have SX : ∀ W, Below W3.heap.size W3 W → W.heap[w.heap.size]? = some (.cells C 120 (0, 0)) ∧ W.cell? ⟨R, 0, none⟩ = some (.int .i64 (gen : Int)) ∧ W.cell? ⟨R, 1, none⟩ = some (.slice ga M.groups.length gc) ∧ W.cell? ⟨R, 4, none⟩ = some (.int .i64 (M.taken : Int)) := fun W hb => ⟨(hb.block _ (obj_lt H3.out.1)).trans H3.out.1, hb_cell hb H3.out.2.1.1, hb_cell hb H3.out.2.1.2.1, hb_cell hb H3.out.2.1.2.2⟩
    have HSX := Lib.hid SX
    clear SX
    have b0 : Below W3.heap.size W3 W3.drew := (Below.refl _ _).drew
    refine wpAnyH_take (i := 0) (oi := _) (v := .agg C) rfl (by kernel_rfl) (by kernel_rfl) (by kernel_rfl) (fun _ _ _ h => h) (Or.inl ⟨by rfl, ?hyc0⟩) (by assumption) ?restc0
    case hyc0 =>
      intro W hSw
      skip
      exact exec_load_row 120 _ rfl w.heap.size (by rfl) 120 C (0, 0) _ hSw.1 Try.underlying120 rfl HI.out
    try simp only [Act.put, List.getElem_toArray, List.getElem_cons_zero, List.getElem_cons_succ, List.setIfInBounds_toArray, List.set_cons_zero, List.set_cons_succ]
    refine wpAnyH_take (i := 1) (oi := _) (v := ?vc1) rfl (by kernel_rfl) (by kernel_rfl) (by kernel_rfl) (fun _ _ _ h => h) (Or.inl ⟨by rfl, ?hyc1⟩) (by assumption) ?restc1
    case hyc1 =>
      intro W hSw
      clear hSw
      go_simp
      try (with_reducible rfl)
    try simp only [Act.put, List.getElem_toArray, List.getElem_cons_zero, List.getElem_cons_succ, List.setIfInBounds_toArray, List.set_cons_zero, List.set_cons_succ]
    refine wpAnyH_take (i := 2) (oi := _) (v := ?vc2) rfl (by kernel_rfl) (by kernel_rfl) (by kernel_rfl) (fun _ _ _ h => h) (Or.inl ⟨by rfl, ?hyc2⟩) (by assumption) ?restc2
    case hyc2 =>
      intro W hSw
      clear hSw
      go_simp
      try (with_reducible rfl)
    try simp only [Act.put, List.getElem_toArray, List.getElem_cons_zero, List.getElem_cons_succ, List.setIfInBounds_toArray, List.set_cons_zero, List.set_cons_succ]
    refine wpAnyH_take (i := 3) (oi := _) (v := ?vc3) rfl (by kernel_rfl) (by kernel_rfl) (by kernel_rfl) (fun _ _ _ h => h) (Or.inl ⟨by rfl, ?hyc3⟩) (by assumption) ?restc3
    case hyc3 =>
      intro W hSw
      clear hSw
      go_simp
      try (with_reducible rfl)
    try simp only [Act.put, List.getElem_toArray, List.getElem_cons_zero, List.getElem_cons_succ, List.setIfInBounds_toArray, List.set_cons_zero, List.set_cons_succ]
    refine wpAnyH_take (i := 4) (oi := _) (v := ?vc4) rfl (by kernel_rfl) (by kernel_rfl) (by kernel_rfl) (fun _ _ _ h => h) (Or.inl ⟨by rfl, ?hyc4⟩) (by assumption) ?restc4
    case hyc4 =>
      intro W hSw
      obtain ⟨e0, e1, e2, e3⟩ := hSw
      go_simp
      try (with_reducible rfl)
    try simp only [Act.put, List.getElem_toArray, List.getElem_cons_zero, List.getElem_cons_succ, List.setIfInBounds_toArray, List.set_cons_zero, List.set_cons_succ]
    refine wpAnyH_take (i := 5) (oi := _) (v := ?vc5) rfl (by kernel_rfl) (by kernel_rfl) (by kernel_rfl) (fun _ _ _ h => h) (Or.inl ⟨by rfl, ?hyc5⟩) (by assumption) ?restc5
    case hyc5 =>
      intro W hSw
      clear hSw
      go_simp
      try (with_reducible rfl)
    try simp only [Act.put, List.getElem_toArray, List.getElem_cons_zero, List.getElem_cons_succ, List.setIfInBounds_toArray, List.set_cons_zero, List.set_cons_succ]
    refine wpAnyH_take (i := 6) (oi := _) (v := ?vc6) rfl (by kernel_rfl) (by kernel_rfl) (by kernel_rfl) (fun _ _ _ h => h) (Or.inl ⟨by rfl, ?hyc6⟩) (by assumption) ?restc6
    case hyc6 =>
      intro W hSw
      clear hSw
      go_simp
      try (with_reducible rfl)
    try simp only [Act.put, List.getElem_toArray, List.getElem_cons_zero, List.getElem_cons_succ, List.setIfInBounds_toArray, List.set_cons_zero, List.set_cons_succ]
    refine wpAnyH_take (i := 7) (oi := _) (v := ?vc7) rfl (by kernel_rfl) (by kernel_rfl) (by kernel_rfl) (fun _ _ _ h => h) (Or.inl ⟨by rfl, ?hyc7⟩) (by assumption) ?restc7
    case hyc7 =>
      intro W hSw
      clear hSw
      go_simp
      try (with_reducible rfl)
    try simp only [Act.put, List.getElem_toArray, List.getElem_cons_zero, List.getElem_cons_succ, List.setIfInBounds_toArray, List.set_cons_zero, List.set_cons_succ]
    refine wpAnyH_take (i := 8) (oi := _) (v := ?vc8) rfl (by kernel_rfl) (by kernel_rfl) (by kernel_rfl) (fun _ _ _ h => h) (Or.inl ⟨by rfl, ?hyc8⟩) (by assumption) ?restc8
    case hyc8 =>
      intro W hSw
      obtain ⟨e0, e1, e2, e3⟩ := hSw
      go_simp
      try (with_reducible rfl)
    try simp only [Act.put, List.getElem_toArray, List.getElem_cons_zero, List.getElem_cons_succ, List.setIfInBounds_toArray, List.set_cons_zero, List.set_cons_succ]
    refine wpAnyH_take (i := 9) (oi := _) (v := ?vc9) rfl (by kernel_rfl) (by kernel_rfl) (by kernel_rfl) (fun _ _ _ h => h) (Or.inl ⟨by rfl, ?hyc9⟩) (by assumption) ?restc9
    case hyc9 =>
      intro W hSw
      clear hSw
      go_simp
      try (with_reducible rfl)
    try simp only [Act.put, List.getElem_toArray, List.getElem_cons_zero, List.getElem_cons_succ, List.setIfInBounds_toArray, List.set_cons_zero, List.set_cons_succ]
    refine wpAnyH_take (i := 10) (oi := _) (v := ?vc10) rfl (by kernel_rfl) (by kernel_rfl) (by kernel_rfl) (fun _ _ _ h => h) (Or.inl ⟨by rfl, ?hyc10⟩) (by assumption) ?restc10
    case hyc10 =>
      intro W hSw
      clear hSw
      go_simp
      try (with_reducible rfl)
    try simp only [Act.put, List.getElem_toArray, List.getElem_cons_zero, List.getElem_cons_succ, List.setIfInBounds_toArray, List.set_cons_zero, List.set_cons_succ]
    refine wpAnyH_take (i := 11) (oi := _) (v := ?vc11) rfl (by kernel_rfl) (by kernel_rfl) (by kernel_rfl) (fun _ _ _ h => h) (Or.inl ⟨by rfl, ?hyc11⟩) (by assumption) ?restc11
    case hyc11 =>
      intro W hSw
      clear hSw
      go_simp
      try (with_reducible rfl)
    try simp only [Act.put, List.getElem_toArray, List.getElem_cons_zero, List.getElem_cons_succ, List.setIfInBounds_toArray, List.set_cons_zero, List.set_cons_succ]
    refine wpAnyH_take (i := 12) (oi := _) (v := ?vc12) rfl (by kernel_rfl) (by kernel_rfl) (by kernel_rfl) (fun _ _ _ h => h) (Or.inl ⟨by rfl, ?hyc12⟩) (by assumption) ?restc12
    case hyc12 =>
      intro W hSw
      obtain ⟨e0, e1, e2, e3⟩ := hSw
      go_simp
      try (with_reducible rfl)
    try simp only [Act.put, List.getElem_toArray, List.getElem_cons_zero, List.getElem_cons_succ, List.setIfInBounds_toArray, List.set_cons_zero, List.set_cons_succ]
    refine wpAnyH_take (i := 13) (oi := _) (v := ?vc13) rfl (by kernel_rfl) (by kernel_rfl) (by kernel_rfl) (fun _ _ _ h => h) (Or.inl ⟨by rfl, ?hyc13⟩) (by assumption) ?restc13
    case hyc13 =>
      intro W hSw
      clear hSw
      go_simp
      try (with_reducible rfl)
    try simp only [Act.put, List.getElem_toArray, List.getElem_cons_zero, List.getElem_cons_succ, List.setIfInBounds_toArray, List.set_cons_zero, List.set_cons_succ]
    refine wpAnyH_take (i := 14) (oi := _) (v := .agg C) rfl (by kernel_rfl) (by kernel_rfl) (by kernel_rfl) (fun _ _ _ h => h) (Or.inl ⟨by rfl, ?hyc14⟩) (by assumption) ?restc14
    case hyc14 =>
      intro W hSw
      skip
      exact exec_load_row 120 _ rfl w.heap.size (by rfl) 120 C (0, 0) _ hSw.1 Try.underlying120 rfl HI.out
    try simp only [Act.put, List.getElem_toArray, List.getElem_cons_zero, List.getElem_cons_succ, List.setIfInBounds_toArray, List.set_cons_zero, List.set_cons_succ]
    refine wpAnyH_take (i := 17) (oi := _) (v := ?vc17) rfl (by kernel_rfl) (by kernel_rfl) (by kernel_rfl) (fun _ _ _ h => h) (Or.inl ⟨by rfl, ?hyc17⟩) (by assumption) ?restc17
    case hyc17 =>
      intro W hSw
      clear hSw
      go_simp
      try (with_reducible rfl)
    try simp only [Act.put, List.getElem_toArray, List.getElem_cons_zero, List.getElem_cons_succ, List.setIfInBounds_toArray, List.set_cons_zero, List.set_cons_succ]
    obtain ⟨Y0, hY0⟩ : ∃ X, X = W3.drew := ⟨_, rfl⟩
    rw [← hY0] at b0 hHeld ⊢
    clear hY0
    refine wpAnyH_ready (rs := [15]) (by kernel_rfl) (by simp) ?_
    refine AllReadyH.cons (o := _) rfl (fun K hK => ?_) AllReadyH.nil
    go_simp
    go_at_call 86
    refine (HB.out Y0).mono ?_
    rintro e Y1 ⟨rfl, hb1⟩
    have b1 := below_cat b0 hb1
    refine hK.out _ _ (HSX.out _ b1) (fun hHeld1 => ?_)
    clear hK K
    try simp only [Act.put, List.getElem_toArray, List.getElem_cons_zero, List.getElem_cons_succ, List.setIfInBounds_toArray, List.set_cons_zero, List.set_cons_succ]
    refine wpAnyH_take (i := 16) (oi := _) (v := ?vc16) rfl (by kernel_rfl) (by kernel_rfl) (by kernel_rfl) (fun _ _ _ h => h) (Or.inl ⟨by rfl, ?hyc16⟩) (HSX.out _ b1) ?restc16
    case hyc16 =>
      intro W hSw
      clear hSw
      go_simp
      try (with_reducible rfl)
    try simp only [Act.put, List.getElem_toArray, List.getElem_cons_zero, List.getElem_cons_succ, List.setIfInBounds_toArray, List.set_cons_zero, List.set_cons_succ]
    refine wpAnyH_ready (rs := [18]) (by kernel_rfl) (by simp) ?_
    refine AllReadyH.cons (o := _) rfl (fun K hK => ?_) AllReadyH.nil
    go_simp
    go_at_call 66
    have hpart : HoldsB Y1 (some ⟨w.heap.size, 16, none⟩) (ofL (partL l)) := by
      have h1 : HoldsB Y1 (some ⟨w.heap.size, 0, none⟩) (ofL l) := rowT_holds (T := 120) (by rw [HHC.out]; exact (HSX.out _ b1).1)
      have h2 := h1.part 16 (16 + S) (by rw [ofL_size, HL.out]; have := HS48.out; omega)
      have e : (ofL l).extract 16 (16 + S) = ofL (partL l) := by
        apply bl_inj
        rw [bl_extract, bl_ofL, bl_ofL]
        unfold partL
        rw [HBS.out.2, Nat.add_sub_cancel_left]
      rw [e] at h2
      exact h2
    have hps : (ofL (partL l)).size = S := by rw [ofL_size, partL_length l HL.out (by rw [HBS.out.2]; exact HS48.out), HBS.out.2]
    have LY := tlay_ok gen M.taken M.groups.length B (by have := HN.out.1; omega) (by have := HN.out.2.1; omega) (by have := HN.out.2.2.2.1; omega) (by have := HN.out.2.2.2.2.2; omega) (some ⟨w.heap.size, 16, none⟩) (ofL (partL l)) S 48 hps HS48.out (fun e => by cases e) Y1 hpart
    rw [bl_ofL] at LY
    refine LY.mono ?_
    rintro e Y2 ⟨rfl, hb2⟩
    have b2 := below_cat b1 hb2
    refine hK.out _ _ (HSX.out _ b2) (fun hHeld2 => ?_)
    clear hK K LY hpart
    try simp only [Act.put, List.getElem_toArray, List.getElem_cons_zero, List.getElem_cons_succ, List.setIfInBounds_toArray, List.set_cons_zero, List.set_cons_succ]
    refine wpAnyH_take (i := 19) (oi := _) (v := .bool (!(l == sectorL gen M.taken M.groups.length B (partL l)))) rfl (by kernel_rfl) (by kernel_rfl) (by kernel_rfl) (fun _ _ _ h => h) (Or.inl ⟨by rfl, ?hyc19⟩) (HSX.out _ b2) ?restc19
    case hyc19 =>
      intro W hSw
      clear hSw
      exact exec_neq_bytes 120 5 _ 64 _ _ rfl l (sectorL gen M.taken M.groups.length B (partL l)) (by rw [HHC.out]; rfl) (by rfl) (by kernel_rfl) Try.underlying120 Try.underlying5 size_byte HL.out (sectorL_length _ _ _ _ _ (by rw [partL_length l HL.out (by rw [HBS.out.2]; exact HS48.out), HBS.out.2]; exact HS48.out))
    try simp only [Act.put, List.getElem_toArray, List.getElem_cons_zero, List.getElem_cons_succ, List.setIfInBounds_toArray, List.set_cons_zero, List.set_cons_succ]
    refine wpAnyH_done (by kernel_rfl) ?_ _
    have n4 := (HSX.out _ b2).1
    have I4 := H3.out.2.2.1.touch (W' := Y2) (fun k hk => b2.block k (H3.out.2.2.1.lt k hk)) b2.size
    have hp4 : HoldsB Y2 (some ⟨w.heap.size, 16, none⟩) (ofL (partL l)) := by
      have h1 : HoldsB Y2 (some ⟨w.heap.size, 0, none⟩) (ofL l) := rowT_holds (T := 120) (by rw [HHC.out]; exact n4)
      have h2 := h1.part 16 (16 + S) (by rw [ofL_size, HL.out]; have := HS48.out; omega)
      have e : (ofL l).extract 16 (16 + S) = ofL (partL l) := by
        apply bl_inj
        rw [bl_extract, bl_ofL, bl_ofL]
        unfold partL
        rw [HBS.out.2, Nat.add_sub_cancel_left]
      rw [e] at h2
      exact h2
    have H4 := Lib.hid (And.intro n4 (And.intro I4 (And.intro (H3.out.2.2.2.trans (b2.mono H3.out.2.2.2.size)) (And.intro hp4 hps))))
    clear hHeld hHeld1 hHeld2 b0 b1 b2 hb1 hb2 n4 I4 hp4 hps
    obtain ⟨eq, heq⟩ : ∃ f, (l == sectorL gen M.taken M.groups.length B (partL l)) = f := ⟨_, rfl⟩
    have HEQ := Lib.hid heq
    rw [heq]
    clear heq
    cases eq with
    | false =>
      go_wp2_with (fail)
      go_ret
      have hnf : M.fit gen l = false := by
        unfold RM.fit
        rw [HBS.out.1, HEQ.out, Bool.and_false]
      refine ⟨by rw [hnf]; rfl, Touch.of_below H4.out.2.2.1, Y, fun k hk => .inl hk, ?_⟩
      rw [hnf]
      exact ⟨_, _, _, H4.out.2.1⟩
    | true =>
      have hfit : M.fit gen l = true := by
        unfold RM.fit
        rw [HBS.out.1, HBS.out.2, HF0.out, HEQ.out]; rfl
      obtain ⟨nv, w8, hrun, hown8, hgrow8, hat8⟩ := appB_any (c := 48) H4.out.2.1.begun H4.out.2.2.2.1 (by rw [H4.out.2.2.2.2]; have := HN.out.2.2.2.2.1; have := HS48.out; omega)
      rw [H4.out.2.2.2.2] at hrun
      obtain ⟨L, hL⟩ : ∃ L, (M.begun ++ ofL (partL l)).size = L := ⟨_, rfl⟩
      have HLL := Lib.hid hL
      rw [hL] at hown8
      clear hL
      obtain ⟨na, nc, rfl, hnn⟩ := owns_form hown8
      have hRlt : R < Y2.heap.size := obj_lt H4.out.2.1.blk
      have hRb : some R ≠ (Value.slice ba M.begun.size bc).ownBlock := fun e => (H4.out.2.1.yb R e.symm).2.1 rfl
      have hR8 := (hgrow8.block R hRlt hRb).trans H4.out.2.1.blk
      have hAlt : w.heap.size < Y2.heap.size := obj_lt H4.out.1
      have hAb : some w.heap.size ≠ (Value.slice ba M.begun.size bc).ownBlock := fun e => by
        have := H4.out.2.1.yb _ e.symm
        have := HP.out.2.lt _ this.1
        omega
      have hA8 := (hgrow8.block w.heap.size hAlt hAb).trans H4.out.1
      have x3 : Y2.cell? ⟨R, 3, none⟩ = some (.slice ba M.begun.size bc) := by rw [cell_of_row _ _ _ _ _ _ H4.out.2.1.blk]; rfl
      have x30 : w8.cell? ⟨R, 3, none⟩ = some (.slice ba M.begun.size bc) := by rw [cell_of_row _ _ _ _ _ _ hR8]; rfl
      have x4 : w8.cell? ⟨R, 4, none⟩ = some (.int .i64 (M.taken : Int)) := by rw [cell_of_row _ _ _ _ _ _ hR8]; rfl
      have y3 : w8.frozen? ⟨R, 3, none⟩ = false := frozen_of_row _ _ _ _ _ hR8
      have y4 : w8.frozen? ⟨R, 4, none⟩ = false := frozen_of_row _ _ _ _ _ hR8
      have t1 : IntKind.i64.wrap ((M.taken : Int) + 1) = (M.taken : Int) + 1 := by rw [IntKind.wrap_i64]; have := HN.out.2.1; omega
      have HRUN := Lib.hid hrun
      have H8 := Lib.hid (And.intro hown8 (And.intro hgrow8 (And.intro hat8 (And.intro hR8 (And.intro hA8 hnn)))))
      have HFIT := Lib.hid hfit
      clear hrun hown8 hgrow8 hat8 hR8 hA8 hnn hRlt hRb hAlt hAb hfit
      have hA9 : ((w8.setCell ⟨R, 3, none⟩ (.slice na L nc)).setCell ⟨R, 4, none⟩ (.int .i64 ((M.taken : Int) + 1))).heap[w.heap.size]? = some (.cells C 120 (0, 0)) := by
        have hne : w.heap.size ≠ R := by have := HP.out.2.lt R HP.out.2.yR; omega
        exact ((set_other _ hne).trans (set_other _ hne)).trans H8.out.2.2.2.2.1
      have hR9 := u_row (k := 4) (.int .i64 ((M.taken : Int) + 1)) (u_row (k := 3) (.slice na L nc) H8.out.2.2.2.1)
      obtain ⟨W9, hW9⟩ : ∃ W9, (w8.setCell ⟨R, 3, none⟩ (.slice na L nc)).setCell ⟨R, 4, none⟩ (.int .i64 ((M.taken : Int) + 1)) = W9 := ⟨_, rfl⟩
      have hz9 : W9.heap.size = w8.heap.size := by rw [← hW9]; exact set_size.trans set_size
      have ho9 : ∀ k, k ≠ R → W9.heap[k]? = w8.heap[k]? := fun k hk => by rw [← hW9]; exact (set_other k hk).trans (set_other k hk)
      rw [hW9] at hA9 hR9
      have H9 := Lib.hid (And.intro hA9 (And.intro hR9 (And.intro hz9 ho9)))
      have HW9 := Lib.hid hW9
      clear hA9 hR9 hW9 hz9 ho9
      go_wp2_with (first | (at_builtin; refine wpList_append_eq rfl (.tmp 42) (.tmp 43) 33 rfl _ _ _ _ rfl rfl HRUN.out ?_) | (rw [HW9.out]; refine wpList_load_row rfl 120 _ rfl w.heap.size rfl 120 C (0, 0) _ H9.out.1 Try.underlying120 rfl HI.out ?_))
      refine (HB.out W9).mono ?_
      rintro e W10 ⟨rfl, b10⟩
      have hR10 := (b10.block _ (obj_lt H9.out.2.1)).trans H9.out.2.1
      have x5 : W10.cell? ⟨R, 5, none⟩ = some (.int .i64 (M.missing : Int)) := by rw [cell_of_row _ _ _ _ _ _ hR10]; rfl
      have y5 : W10.frozen? ⟨R, 5, none⟩ = false := frozen_of_row _ _ _ _ _ hR10
      have H10 := Lib.hid (And.intro b10 hR10)
      clear b10 hR10 x3 x30 x4 y3 y4 t1
      have TY := ((Touch.of_below (F := Y) H4.out.2.2.1).grown H8.out.2.1 (fun k e => .inl (H4.out.2.1.yb k e).1))
      have TY9 := (TY.set (p := ⟨R, 3, none⟩) H4.out.2.1.yR (.slice na L nc)).set (p := ⟨R, 4, none⟩) H4.out.2.1.yR (.int .i64 ((M.taken : Int) + 1))
      rw [HW9.out] at TY9
      have TY10 := TY9.trans (Touch.of_below (F := Y) H10.out.1) (fun k hk => .inl hk)
      have TY11 := TY10.set (p := ⟨R, 5, none⟩) H4.out.2.1.yR (.int .i64 (B : Int))
      have hR11 := u_row (k := 5) (.int .i64 (B : Int)) H10.out.2
      have hR11' : (W10.setCell ⟨R, 5, none⟩ (.int .i64 (B : Int))).heap[R]? = some (.cells (readV gen (.slice ga M.groups.length gc) M.used (.slice na L nc) (M.taken + 1) B) 115 (0, 0)) := hR11
      have ho11 : ∀ k, k < w8.heap.size → k ≠ R → (W10.setCell ⟨R, 5, none⟩ (.int .i64 (B : Int))).heap[k]? = w8.heap[k]? := fun k hk hr => (set_other k hr).trans ((H10.out.1.block k (by rw [H9.out.2.2.1]; exact hk)).trans (H9.out.2.2.2 k hr))
      have hz11 : w8.heap.size ≤ (W10.setCell ⟨R, 5, none⟩ (.int .i64 (B : Int))).heap.size := by rw [set_size]; have := H10.out.1.size; have := H9.out.2.2.1; omega
      have H11 := Lib.hid (And.intro TY11 (And.intro hR11' (And.intro ho11 hz11)))
      clear TY TY9 TY10 TY11 hR11 hR11' ho11 hz11
      by_cases hB0 : B = 0
      · subst hB0
        obtain ⟨V, hV⟩ : ∃ V, W10.setCell ⟨R, 5, none⟩ (.int .i64 ((0 : Nat) : Int)) = V := ⟨_, rfl⟩
        have HV := Lib.hid hV
        go_wp2_with (fail)
        rw [show W10.setCell ⟨R, 5, none⟩ (.int .i64 0) = V from HV.out]
        have TV : Touch Y w V := by rw [← HV.out]; exact H11.out.1
        have RV : V.heap[R]? = some (.cells (readV gen (.slice ga M.groups.length gc) M.used (.slice na L nc) (M.taken + 1) 0) 115 (0, 0)) := by rw [← HV.out]; exact H11.out.2.1
        have oV : ∀ k, k < w8.heap.size → k ≠ R → V.heap[k]? = w8.heap[k]? := by rw [← HV.out]; exact H11.out.2.2.1
        have zV : w8.heap.size ≤ V.heap.size := by rw [← HV.out]; exact H11.out.2.2.2
        have v1 : V.cell? ⟨R, 1, none⟩ = some (.slice ga M.groups.length gc) := by rw [cell_of_row _ _ _ _ _ _ RV]; rfl
        have v3 : V.cell? ⟨R, 3, none⟩ = some (.slice na L nc) := by rw [cell_of_row _ _ _ _ _ _ RV]; rfl
        have hRV : R < V.heap.size := obj_lt RV
        obtain ⟨U, hU⟩ : ∃ U, V.drew.alloc (.cells #[.slice na L nc] 33) = U := ⟨_, rfl⟩
        have hzU : V.heap.size < U.heap.size := by rw [← hU]; show _ < (V.heap.push _).size; simp
        have hzU1 : U.heap.size = V.heap.size + 1 := by rw [← hU]; show (V.heap.push _).size = _; simp
        have hoU : ∀ k, k < V.heap.size → U.heap[k]? = V.heap[k]? := fun k hk => by rw [← hU]; exact Below.heap_alloc V.drew _ k hk
        have hnU : U.cell? ⟨V.heap.size, 0, none⟩ = some (.slice na L nc) := by
          have h1 : U.heap[V.heap.size]? = some (.cells #[.slice na L nc] 33 (0, 0)) := by rw [← hU]; exact heap_alloc_new V.drew _
          rw [cell_of_row _ _ _ _ _ _ h1]; rfl
        have hgU : U.ownsRow 0 33 1 (.slice ga M.groups.length gc) M.groups.length Vs := by
          refine owns_block H4.out.2.1.groups (fun k hk => ?_)
          have hkY := H4.out.2.1.yg k hk
          have hk2 := H4.out.2.1.lt k hkY.1
          have hk8 : k < w8.heap.size := Nat.lt_of_lt_of_le hk2 H8.out.2.1.size
          exact (hoU k (Nat.lt_of_lt_of_le hk8 zV)).trans ((oV k hk8 hkY.2).trans (H8.out.2.1.block k hk2 (fun q => (H4.out.2.1.yb k q.symm).2.2 hk)))
        obtain ⟨gv', w12, hrun2, hown12, hgrow12, hat12⟩ := appR_one hgU hnU rfl (by have := HN.out.2.2.2.1; omega)
        obtain ⟨ga', gc', rfl, _⟩ := owns_form hown12
        have hR12 := (hgrow12.block R (by omega) (fun e => (H4.out.2.1.yg R e.symm).2 rfl)).trans ((hoU R hRV).trans RV)
        have u1 : U.cell? ⟨R, 1, none⟩ = some (.slice ga M.groups.length gc) := by rw [cell_of_row _ _ _ _ _ _ ((hoU R hRV).trans RV)]; rfl
        have p1 : w12.cell? ⟨R, 1, none⟩ = some (.slice ga M.groups.length gc) := by rw [cell_of_row _ _ _ _ _ _ hR12]; rfl
        have p2 : w12.cell? ⟨R, 2, none⟩ = some (.int .i64 (M.used : Int)) := by rw [cell_of_row _ _ _ _ _ _ hR12]; rfl
        have p3 : w12.cell? ⟨R, 3, none⟩ = some (.slice na L nc) := by rw [cell_of_row _ _ _ _ _ _ hR12]; rfl
        have p4 : w12.cell? ⟨R, 4, none⟩ = some (.int .i64 ((M.taken + 1 : Nat) : Int)) := by rw [cell_of_row _ _ _ _ _ _ hR12]; rfl
        have f1 : w12.frozen? ⟨R, 1, none⟩ = false := frozen_of_row _ _ _ _ _ hR12
        have f2 : w12.frozen? ⟨R, 2, none⟩ = false := frozen_of_row _ _ _ _ _ hR12
        have f3 : w12.frozen? ⟨R, 3, none⟩ = false := frozen_of_row _ _ _ _ _ hR12
        have hfin : TookPost w Y R gen M l (.returned (.bool true)) (((w12.setCell ⟨R, 1, none⟩ (.slice ga' (M.groups.length + 1) gc')).setCell ⟨R, 3, none⟩ (.slice none 0 0)).setCell ⟨R, 2, none⟩ (.int .i64 ((M.taken + 1 : Nat) : Int))) := by
          have hnx : (if M.fit gen l = true then M.next l else M) = M.next l := if_pos HFIT.out
          have T1 : Touch Y w U := by rw [← hU]; exact (TV.drew).alloc _
          have T2 := ((((T1.grown hgrow12 (fun k e => .inl (H4.out.2.1.yg k e).1)).set (p := ⟨R, 1, none⟩) H4.out.2.1.yR (.slice ga' (M.groups.length + 1) gc')).set (p := ⟨R, 3, none⟩) H4.out.2.1.yR (.slice none 0 0)).set (p := ⟨R, 2, none⟩) H4.out.2.1.yR (.int .i64 ((M.taken + 1 : Nat) : Int)))
          have z12 : (((w12.setCell ⟨R, 1, none⟩ (.slice ga' (M.groups.length + 1) gc')).setCell ⟨R, 3, none⟩ (.slice none 0 0)).setCell ⟨R, 2, none⟩ (.int .i64 ((M.taken + 1 : Nat) : Int))).heap.size = w12.heap.size := by rw [set_size, set_size, set_size]
          have hgl := hgrow12.size
          refine ⟨by rw [HFIT.out], T2, (fun k => Y k ∨ (Value.slice na L nc).ownBlock = some k ∨ (Value.slice ga' (M.groups.length + 1) gc').ownBlock = some k), fun k hk => ?_, ?_⟩
          · have hw8 : w.heap.size ≤ Y2.heap.size := H4.out.2.2.1.size
            have h28 := H8.out.2.1.size
            rcases hk with hk | hk | hk
            · exact .inl hk
            · rcases H8.out.2.2.1 with q | q
              · exact .inl (H4.out.2.1.yb k (q ▸ hk)).1
              · have h8 := (H8.out.1.lt k hk).2
                rw [q] at hk
                injection hk with hk
                exact .inr ⟨by omega, by omega⟩
            · rcases hat12 with q | q
              · exact .inl (H4.out.2.1.yg k (q ▸ hk)).1
              · have h8 := (hown12.lt k hk).2
                rw [q] at hk
                injection hk with hk
                exact .inr ⟨by omega, by omega⟩
          · rw [hnx]
            exact ⟨_, _, _, took_last H4.out.2.1 H8.out.1 HLL.out H8.out.2.1 H8.out.2.2.1 oV zV hoU hzU hown12 hgrow12 hat12 (fun k hk => (set_other k hk).trans ((set_other k hk).trans (set_other k hk))) z12 (u_row (k := 2) _ (u_row (k := 3) _ (u_row (k := 1) _ hR12))) HBS.out.1⟩
        have HFIN := Lib.hid hfin
        have HU := Lib.hid hU
        have HRUN2 := Lib.hid hrun2
        clear hfin hU hzU hzU1 hoU hnU hgU hrun2 hown12 hgrow12 hat12 hR12 TV RV oV zV hRV
        refine wp_region_held_drew (S := fun _ => True) (by kernel_rfl) trivial (fun hHeld => ?_)
        refine wpAnyH_take (i := 0) (oi := _) (v := ?ve0) rfl (by kernel_rfl) (by kernel_rfl) (by kernel_rfl) (fun _ _ _ h => h) (Or.inl ⟨by rfl, ?hye0⟩) trivial ?reste0
        case hye0 =>
          intro W hSw
          clear hSw
          go_simp
          try (with_reducible rfl)
        try simp only [Act.put, List.getElem_toArray, List.getElem_cons_zero, List.getElem_cons_succ, List.setIfInBounds_toArray, List.set_cons_zero, List.set_cons_succ]
        refine wpAnyH_take (i := 1) (oi := _) (v := ?ve1) rfl (by kernel_rfl) (by kernel_rfl) (by kernel_rfl) (fun _ _ _ h => h) (Or.inl ⟨by rfl, ?hye1⟩) trivial ?reste1
        case hye1 =>
          intro W hSw
          clear hSw
          go_simp
          try (with_reducible rfl)
        try simp only [Act.put, List.getElem_toArray, List.getElem_cons_zero, List.getElem_cons_succ, List.setIfInBounds_toArray, List.set_cons_zero, List.set_cons_succ]
        refine wpAnyH_take (i := 2) (oi := _) (v := ?ve2) rfl (by kernel_rfl) (by kernel_rfl) (by kernel_rfl) (fun _ _ _ h => h) (Or.inl ⟨by rfl, ?hye2⟩) trivial ?reste2
        case hye2 =>
          intro W hSw
          clear hSw
          go_simp
          try (with_reducible rfl)
        try simp only [Act.put, List.getElem_toArray, List.getElem_cons_zero, List.getElem_cons_succ, List.setIfInBounds_toArray, List.set_cons_zero, List.set_cons_succ]
        refine wpAnyH_take (i := 3) (oi := _) (v := ?ve3) rfl (by kernel_rfl) (by kernel_rfl) (by kernel_rfl) (fun _ _ _ h => h) (Or.inl ⟨by rfl, ?hye3⟩) trivial ?reste3
        case hye3 =>
          intro W hSw
          clear hSw
          go_simp
          try (with_reducible rfl)
        try simp only [Act.put, List.getElem_toArray, List.getElem_cons_zero, List.getElem_cons_succ, List.setIfInBounds_toArray, List.set_cons_zero, List.set_cons_succ]
        refine wpAnyH_take (i := 5) (oi := _) (v := ?ve5) rfl (by kernel_rfl) (by kernel_rfl) (by kernel_rfl) (fun _ _ _ h => h) (Or.inl ⟨by rfl, ?hye5⟩) trivial ?reste5
        case hye5 =>
          intro W hSw
          clear hSw
          go_simp
          try (with_reducible rfl)
        try simp only [Act.put, List.getElem_toArray, List.getElem_cons_zero, List.getElem_cons_succ, List.setIfInBounds_toArray, List.set_cons_zero, List.set_cons_succ]
        refine wpAnyH_take (i := 6) (oi := _) (v := ?ve6) rfl (by kernel_rfl) (by kernel_rfl) (by kernel_rfl) (fun _ _ _ h => h) (Or.inl ⟨by rfl, ?hye6⟩) trivial ?reste6
        case hye6 =>
          intro W hSw
          clear hSw
          go_simp
          try (with_reducible rfl)
        try simp only [Act.put, List.getElem_toArray, List.getElem_cons_zero, List.getElem_cons_succ, List.setIfInBounds_toArray, List.set_cons_zero, List.set_cons_succ]
        refine wpAnyH_take (i := 7) (oi := _) (v := ?ve7) rfl (by kernel_rfl) (by kernel_rfl) (by kernel_rfl) (fun _ _ _ h => h) (Or.inl ⟨by rfl, ?hye7⟩) trivial ?reste7
        case hye7 =>
          intro W hSw
          clear hSw
          go_simp
          try (with_reducible rfl)
        try simp only [Act.put, List.getElem_toArray, List.getElem_cons_zero, List.getElem_cons_succ, List.setIfInBounds_toArray, List.set_cons_zero, List.set_cons_succ]
        refine wpAnyH_ready (rs := [4, 8]) (by kernel_rfl) (by simp) ?_
        refine AllReadyH.cons (o := _) rfl (fun K hK => ?_) (AllReadyH.cons (o := _) rfl (fun K hK => ?_) AllReadyH.nil)
        · skip
          go_simp
          refine hK.out _ _ trivial (fun _ => ?_)
          clear hK K
          try simp only [Act.put, List.getElem_toArray, List.getElem_cons_zero, List.getElem_cons_succ, List.setIfInBounds_toArray, List.set_cons_zero, List.set_cons_succ]
          refine wpAnyH_ready (rs := [8]) (by kernel_rfl) (by simp) ?_
          refine AllReadyH.cons (o := _) rfl (fun K hK => ?_) AllReadyH.nil
          go_simp
          refine hK.out _ _ trivial (fun _ => ?_)
          clear hK K
          try simp only [Act.put, List.getElem_toArray, List.getElem_cons_zero, List.getElem_cons_succ, List.setIfInBounds_toArray, List.set_cons_zero, List.set_cons_succ]
          refine wpAnyH_ready (rs := [9]) (by kernel_rfl) (by simp) ?_
          refine AllReadyH.cons (o := _) rfl (fun K hK => ?_) AllReadyH.nil
          go_simp
          rw [show (V.alloc (.cells #[.slice na L nc] 33)).drew = U from HU.out]
          refine hK.out _ _ trivial (fun _ => ?_)
          clear hK K
          try simp only [Act.put, List.getElem_toArray, List.getElem_cons_zero, List.getElem_cons_succ, List.setIfInBounds_toArray, List.set_cons_zero, List.set_cons_succ]
          refine wpAnyH_ready (rs := [10]) (by kernel_rfl) (by simp) ?_
          refine AllReadyH.cons (o := _) rfl (fun K hK => ?_) AllReadyH.nil
          refine step_of rfl (wp_append_eq (.tmp 68) (.tmp 73) 28 rfl (.slice ga M.groups.length gc) (.slice (some ⟨V.heap.size, 0, none⟩) 1 1) (.slice ga' (M.groups.length + 1) gc') w12 (by rfl) (by rfl) HRUN2.out ?_)
          refine hK.out _ _ trivial (fun _ => ?_)
          clear hK K
          try simp only [Act.put, List.getElem_toArray, List.getElem_cons_zero, List.getElem_cons_succ, List.setIfInBounds_toArray, List.set_cons_zero, List.set_cons_succ]
          refine wpAnyH_take (i := 11) (oi := _) (v := ?vf11) rfl (by kernel_rfl) (by kernel_rfl) (by kernel_rfl) (fun _ _ _ h => h) (Or.inl ⟨by rfl, ?hyf11⟩) trivial ?restf11
          case hyf11 =>
            intro W hSw
            clear hSw
            go_simp
            try (with_reducible rfl)
          try simp only [Act.put, List.getElem_toArray, List.getElem_cons_zero, List.getElem_cons_succ, List.setIfInBounds_toArray, List.set_cons_zero, List.set_cons_succ]
          refine wpAnyH_take (i := 12) (oi := _) (v := ?vf12) rfl (by kernel_rfl) (by kernel_rfl) (by kernel_rfl) (fun _ _ _ h => h) (Or.inl ⟨by rfl, ?hyf12⟩) trivial ?restf12
          case hyf12 =>
            intro W hSw
            clear hSw
            go_simp
            try (with_reducible rfl)
          try simp only [Act.put, List.getElem_toArray, List.getElem_cons_zero, List.getElem_cons_succ, List.setIfInBounds_toArray, List.set_cons_zero, List.set_cons_succ]
          refine wpAnyH_ready (rs := [13]) (by kernel_rfl) (by simp) ?_
          refine AllReadyH.cons (o := _) rfl (fun K hK => ?_) AllReadyH.nil
          go_simp
          refine hK.out _ _ trivial (fun _ => ?_)
          clear hK K
          refine wpAnyH_done (by kernel_rfl) ?_ _
          go_wp2_with (fail)
          go_ret
          exact HFIN.out
        · skip
          go_simp
          refine hK.out _ _ trivial (fun _ => ?_)
          clear hK K
          try simp only [Act.put, List.getElem_toArray, List.getElem_cons_zero, List.getElem_cons_succ, List.setIfInBounds_toArray, List.set_cons_zero, List.set_cons_succ]
          refine wpAnyH_ready (rs := [4, 9]) (by kernel_rfl) (by simp) ?_
          refine AllReadyH.cons (o := _) rfl (fun K hK => ?_) (AllReadyH.cons (o := _) rfl (fun K hK => ?_) AllReadyH.nil)
          · skip
            go_simp
            refine hK.out _ _ trivial (fun _ => ?_)
            clear hK K
            try simp only [Act.put, List.getElem_toArray, List.getElem_cons_zero, List.getElem_cons_succ, List.setIfInBounds_toArray, List.set_cons_zero, List.set_cons_succ]
            refine wpAnyH_ready (rs := [9]) (by kernel_rfl) (by simp) ?_
            refine AllReadyH.cons (o := _) rfl (fun K hK => ?_) AllReadyH.nil
            go_simp
            rw [show (V.alloc (.cells #[.slice na L nc] 33)).drew = U from HU.out]
            refine hK.out _ _ trivial (fun _ => ?_)
            clear hK K
            try simp only [Act.put, List.getElem_toArray, List.getElem_cons_zero, List.getElem_cons_succ, List.setIfInBounds_toArray, List.set_cons_zero, List.set_cons_succ]
            refine wpAnyH_ready (rs := [10]) (by kernel_rfl) (by simp) ?_
            refine AllReadyH.cons (o := _) rfl (fun K hK => ?_) AllReadyH.nil
            refine step_of rfl (wp_append_eq (.tmp 68) (.tmp 73) 28 rfl (.slice ga M.groups.length gc) (.slice (some ⟨V.heap.size, 0, none⟩) 1 1) (.slice ga' (M.groups.length + 1) gc') w12 (by rfl) (by rfl) HRUN2.out ?_)
            refine hK.out _ _ trivial (fun _ => ?_)
            clear hK K
            try simp only [Act.put, List.getElem_toArray, List.getElem_cons_zero, List.getElem_cons_succ, List.setIfInBounds_toArray, List.set_cons_zero, List.set_cons_succ]
            refine wpAnyH_take (i := 11) (oi := _) (v := ?vg11) rfl (by kernel_rfl) (by kernel_rfl) (by kernel_rfl) (fun _ _ _ h => h) (Or.inl ⟨by rfl, ?hyg11⟩) trivial ?restg11
            case hyg11 =>
              intro W hSw
              clear hSw
              go_simp
              try (with_reducible rfl)
            try simp only [Act.put, List.getElem_toArray, List.getElem_cons_zero, List.getElem_cons_succ, List.setIfInBounds_toArray, List.set_cons_zero, List.set_cons_succ]
            refine wpAnyH_take (i := 12) (oi := _) (v := ?vg12) rfl (by kernel_rfl) (by kernel_rfl) (by kernel_rfl) (fun _ _ _ h => h) (Or.inl ⟨by rfl, ?hyg12⟩) trivial ?restg12
            case hyg12 =>
              intro W hSw
              clear hSw
              go_simp
              try (with_reducible rfl)
            try simp only [Act.put, List.getElem_toArray, List.getElem_cons_zero, List.getElem_cons_succ, List.setIfInBounds_toArray, List.set_cons_zero, List.set_cons_succ]
            refine wpAnyH_ready (rs := [13]) (by kernel_rfl) (by simp) ?_
            refine AllReadyH.cons (o := _) rfl (fun K hK => ?_) AllReadyH.nil
            go_simp
            refine hK.out _ _ trivial (fun _ => ?_)
            clear hK K
            refine wpAnyH_done (by kernel_rfl) ?_ _
            go_wp2_with (fail)
            go_ret
            exact HFIN.out
          · skip
            go_simp
            rw [show (V.alloc (.cells #[.slice na L nc] 33)).drew = U from HU.out]
            refine hK.out _ _ trivial (fun _ => ?_)
            clear hK K
            try simp only [Act.put, List.getElem_toArray, List.getElem_cons_zero, List.getElem_cons_succ, List.setIfInBounds_toArray, List.set_cons_zero, List.set_cons_succ]
            refine wpAnyH_ready (rs := [4]) (by kernel_rfl) (by simp) ?_
            refine AllReadyH.cons (o := _) rfl (fun K hK => ?_) AllReadyH.nil
            go_simp
            refine hK.out _ _ trivial (fun _ => ?_)
            clear hK K
            try simp only [Act.put, List.getElem_toArray, List.getElem_cons_zero, List.getElem_cons_succ, List.setIfInBounds_toArray, List.set_cons_zero, List.set_cons_succ]
            refine wpAnyH_ready (rs := [10]) (by kernel_rfl) (by simp) ?_
            refine AllReadyH.cons (o := _) rfl (fun K hK => ?_) AllReadyH.nil
            refine step_of rfl (wp_append_eq (.tmp 68) (.tmp 73) 28 rfl (.slice ga M.groups.length gc) (.slice (some ⟨V.heap.size, 0, none⟩) 1 1) (.slice ga' (M.groups.length + 1) gc') w12 (by rfl) (by rfl) HRUN2.out ?_)
            refine hK.out _ _ trivial (fun _ => ?_)
            clear hK K
            try simp only [Act.put, List.getElem_toArray, List.getElem_cons_zero, List.getElem_cons_succ, List.setIfInBounds_toArray, List.set_cons_zero, List.set_cons_succ]
            refine wpAnyH_take (i := 11) (oi := _) (v := ?vh11) rfl (by kernel_rfl) (by kernel_rfl) (by kernel_rfl) (fun _ _ _ h => h) (Or.inl ⟨by rfl, ?hyh11⟩) trivial ?resth11
            case hyh11 =>
              intro W hSw
              clear hSw
              go_simp
              try (with_reducible rfl)
            try simp only [Act.put, List.getElem_toArray, List.getElem_cons_zero, List.getElem_cons_succ, List.setIfInBounds_toArray, List.set_cons_zero, List.set_cons_succ]
            refine wpAnyH_take (i := 12) (oi := _) (v := ?vh12) rfl (by kernel_rfl) (by kernel_rfl) (by kernel_rfl) (fun _ _ _ h => h) (Or.inl ⟨by rfl, ?hyh12⟩) trivial ?resth12
            case hyh12 =>
              intro W hSw
              clear hSw
              go_simp
              try (with_reducible rfl)
            try simp only [Act.put, List.getElem_toArray, List.getElem_cons_zero, List.getElem_cons_succ, List.setIfInBounds_toArray, List.set_cons_zero, List.set_cons_succ]
            refine wpAnyH_ready (rs := [13]) (by kernel_rfl) (by simp) ?_
            refine AllReadyH.cons (o := _) rfl (fun K hK => ?_) AllReadyH.nil
            go_simp
            refine hK.out _ _ trivial (fun _ => ?_)
            clear hK K
            refine wpAnyH_done (by kernel_rfl) ?_ _
            go_wp2_with (fail)
            go_ret
            exact HFIN.out
      · have tb : ((B : Int) == 0) = false := by rw [beq_eq_false_iff_ne]; omega
        have HB0 := Lib.hid hB0
        clear hB0
        go_wp2_with (fail)
        go_ret
        have hnx : (if M.fit gen l = true then M.next l else M) = M.next l := if_pos HFIT.out
        refine ⟨by rw [HFIT.out]; rfl, H11.out.1, (fun k => Y k ∨ (Value.slice na L nc).ownBlock = some k), fun k hk => ?_, ?_⟩
        · rcases hk with hk | hk
          · exact .inl hk
          · rcases H8.out.2.2.1 with q | q
            · exact .inl (H4.out.2.1.yb k (q ▸ hk)).1
            · rw [q] at hk
              injection hk with hk
              have := H4.out.2.2.1.size
              have h8 := (H8.out.1.lt k (by rw [q, hk])).2
              have := H11.out.2.2.2
              exact .inr ⟨by omega, by omega⟩
        · rw [hnx]
          exact ⟨_, _, _, took_more H4.out.2.1 H8.out.1 HLL.out H8.out.2.1 H8.out.2.2.1 H11.out.2.2.1 H11.out.2.2.2 H11.out.2.1 HBS.out.1 HB0.out⟩
end Go.Proofs.Ytggchfmglaijgaa
