/- Proved here: what Read answers of a drum: the sector in new memory, or why not. -/
import Derived.Test.YtlkffignbjpfcaaDrumFlush
import Derived.Laws.CopyOwn
namespace Go.Proofs.Ytlkffignbjpfcaa
open Go.RowKit

def zRow : List Value := List.replicate 64 (Value.int .u8 0)
theorem make64 (w : World) : (Instr.makeSlice 33 (.int .i64 64) (.int .i64 64)).run Try.prog w = .ok (.slice (some ⟨w.heap.size, 0, none⟩) 64 64) (w.alloc (.cells zRow.toArray 5)) := by
  obtain ⟨i0, hi, hz0, hz1, hz2⟩ := info_parts infoByte
  have hr := run_make (P := Try.prog) w 33 5 i0 (.int .u8 0) Try.underlying33 hi hz0 .i64 .i64 64 64 (by decide) (by decide) (by rw [hz2]; decide) (by decide)
  rw [hz1] at hr
  have e : madeCells (Value.int IntKind.u8 0).cells ((64 : Int).toNat * 1) = zRow.toArray := by kernel_rfl
  rw [e] at hr
  exact hr
theorem splice_all (Z cs : List Value) (h : cs.length = Z.length) : splice Z 0 cs = cs := by
  unfold splice
  rw [List.take_zero, List.nil_append, Nat.zero_add, List.drop_of_length_le (by omega), List.append_nil]
def ReadOk (W : World) (F : Nat → Prop) (G N : Nat) (M : DM) (row : ByteArray) (e : Ending) (W' : World) : Prop :=
  ∃ g, e = .returned (.tuple #[.slice (some ⟨g, 0, none⟩) 64 64, .int .i64 0]) ∧ Owns W' W.heap.size g 64 row ∧ row.size = 64 ∧ Drum W' F G N M.step ∧ Touch (Only G) W W' ∧ ¬ F g
theorem Drum.kept {W W' : World} {F : Nat → Prop} {G N : Nat} {M : DM} (h : Drum W F G N M) (hb : ∀ k, F k → W'.heap[k]? = W.heap[k]?) (hz : W.heap.size ≤ W'.heap.size) : Drum W' F G N M := by
  obtain ⟨gn, gs, cn, cs, q, c, hd⟩ := h
  exact ⟨gn, gs, cn, cs, q, c, ⟨(hb G hd.fG).trans hd.blk, hd.ok, hd.now.block (hb gn hd.fn), hd.safe.block (hb gs hd.fs), owns_block hd.loose (fun k hk => hb k (hd.fq k hk)), hd.fG, hd.fn, hd.fs, hd.fq, fun k hk => Nat.lt_of_lt_of_le (hd.lt k hk) hz, hd.apart, hd.big, hd.nil⟩⟩
theorem Drum.below {W W' : World} {F : Nat → Prop} {G N : Nat} {M : DM} (h : Drum W F G N M) (hb : Below W.heap.size W W') : Drum W' F G N M := by
  have h' := h
  obtain ⟨gn, gs, cn, cs, q, c, hd⟩ := h
  exact h'.kept (fun k hk => hb.block k (hd.lt k hk)) hb.size
theorem owns_of_row {w : World} {B g : Nat} {s : ByteArray} (hh : w.heap[g]? = some (.cells (bytesV s).toArray 5)) (hB : B ≤ g) (hs : s.size ≤ 1048576) : Owns w B g s.size s :=
  ⟨⟨by rw [bytesV_length, Nat.mul_one], .inr ⟨g, s.size, _, rfl, hB, hh, Nat.le_refl _, by unfold maxLen; omega, by simp [bytesV_length], by simpa using List.take_of_length_le (by rw [bytesV_length]; exact Nat.le_refl _)⟩⟩, hB, block_lt hh, Nat.le_refl _⟩
set_option maxRecDepth 100000 in
set_option maxHeartbeats 8000000 in
theorem read_ok (W : World) (F : Nat → Prop) (G N : Nat) (M : DM) (h : Drum W F G N M) (hst : M.steps ≤ 4611686018427387904) (hfu : M.fuse.getD 0 ≤ 9223372036854775807) (hoff : M.off = false) (n : Nat) (hn : n < N) :
    Calls Try.prog 22 #[.pointer (some ⟨G, 0, none⟩), .int .i64 (n : Int)] W (ReadOk W F G N M (M.now.getD n ⟨#[]⟩)) := by
  have HY := Lib.hid (has_yes W F G N M h n hn)
  have ST := Lib.hid (step_ok W F G N M h hst hfu hoff)
  obtain ⟨row, hr⟩ : ∃ row, M.now.getD n ⟨#[]⟩ = row := ⟨_, rfl⟩
  rw [hr]
  have HRW := Lib.hid hr
  clear hr
  have mk := make64
  have hn0 : (0 : Int) ≤ (n : Int) := by omega
  have hn1 : (n : Int) < (N : Int) := by omega
  clear h hst hfu hoff
  go_enter Try.func22, Try.ntmps22
  go_wp2_with (fail)
  refine (HY.out).mono ?_
  rintro e W1 ⟨rfl, rfl⟩
  go_wp2_with (fail)
  refine (ST.out).mono ?_
  rintro e W1 ⟨rfl, hD, hT, hz⟩
  have HD := Lib.hid hD
  obtain ⟨gn, gs, cn, cs, q, c, hd⟩ := hD
  have hlen := hd.now.len
  rw [M.step_now] at hlen
  have hrow := hd.now.row n (by rw [M.step_now, hlen]; exact hn)
  have hrow' : (M.now.getD n ⟨#[]⟩).size = 64 ∧ W1.rangeAt gn (n * 64) (bytesV (M.now.getD n ⟨#[]⟩)) := by
    rw [List.getD_eq_getElem?_getD, List.getElem?_eq_getElem (by rw [hlen]; exact hn), Option.getD_some]
    simpa only [M.step_now] using hrow
  rw [HRW.out] at hrow'
  have hG := hd.lt G hd.fG
  have hgn := hd.lt gn hd.fn
  have c0 := hd.cells.1
  have hcs : (bytesV row).length = 64 := bytesV_len hrow'.1
  have e0 : (W1.alloc (.cells zRow.toArray 5)).cell? ⟨G, 0, none⟩ = some (.slice (some ⟨gn, 0, none⟩) N cn) := by rw [World.cell?_alloc_past _ _ _ hG]; exact c0
  have hsrc : ∀ j v, (bytesV row)[j]? = some v → (W1.alloc (.cells zRow.toArray 5)).cell? ((⟨gn, n * 64, none⟩ : Addr).add j) = some v := fun j v hv => by
    rw [Addr.add_mid]
    exact World.rangeAt_alloc hrow'.2 _ j v hv
  have HS := Lib.hid hsrc
  have hg : (W1.alloc (.cells zRow.toArray 5)).heap[W1.heap.size]? = some (.cells zRow.toArray 5 (0, 0)) := heap_alloc_new _ _
  have HG := Lib.hid hg
  have hfit : 0 + (bytesV row).length ≤ zRow.length := by rw [hcs]; exact Nat.le_refl _
  have hmin : (bytesV row).length = Nat.min 64 64 := by rw [hcs]; rfl
  have hs1 : (Try.prog.info? 5).map (·.size) = some 1 := by kernel_rfl
  have HS1 := Lib.hid (And.intro hs1 (And.intro hfit hmin))
  have HT := Lib.hid hT
  have HZ := Lib.hid hz
  have HR := Lib.hid hrow'.1
  have HC := Lib.hid hcs
  have HF := Lib.hid hd.fG
  have HLT := Lib.hid hd.lt
  clear hd hlen hrow hrow' hsrc hg hT hz hcs hfit hmin hs1 ST HY
  go_wp2_with (refine wpList_copy_splice rfl (.tmp 22) (.tmp 29) 33 33 rfl 5 Try.underlying33 HS1.out.1 (some ⟨W1.heap.size, 0, none⟩) (some ⟨gn, n * 64, none⟩) 64 64 64 64 rfl rfl W1.heap.size 0 zRow 5 HG.out (bytesV row) HS1.out.2.2 (fun _ => ⟨rfl, _, rfl, HS.out⟩) HS1.out.2.1 (bytesV_one row) W1.heap.size W1 ((Below.refl _ _).alloc (Nat.le_refl _) _) (Nat.le_refl _) ?_)
  intro w' hw hb
  have HW := Lib.hid (And.intro hw hb)
  clear hw hb
  go_wp2_with (fail)
  go_ret2
  have hw := HW.out.1
  rw [splice_all _ _ (by rw [HC.out]; rfl)] at hw
  have hsz := HR.out
  have ho := owns_of_row (B := W.heap.size) hw.out (by rw [HZ.out]; exact Nat.le_refl _) (by omega)
  rw [hsz] at ho
  refine ⟨W1.heap.size, rfl, ho, hsz, HD.out.below HW.out.2, HT.out.trans (Touch.of_below (F := Only G) HW.out.2) (fun k hk => .inl hk), fun hf => ?_⟩
  have := HLT.out _ hf
  omega
set_option maxHeartbeats 2000000 in
theorem read_off (W : World) (F : Nat → Prop) (G N : Nat) (M : DM) (h : Drum W F G N M) (hst : M.steps ≤ 4611686018427387904) (hfu : M.fuse.getD 0 ≤ 9223372036854775807) (hoff : M.off = true) (n : Nat) (hn : n < N) :
    Calls Try.prog 22 #[.pointer (some ⟨G, 0, none⟩), .int .i64 (n : Int)] W fun e W' => e = .returned (.tuple #[.slice none 0 0, .int .i64 9]) ∧ Drum W' F G N M.step ∧ Touch (Only G) W W' := by
  have HY := Lib.hid (has_yes W F G N M h n hn)
  have ST := Lib.hid (step_off W F G N M h hst hfu hoff)
  clear h hst hfu hoff
  go_enter Try.func22, Try.ntmps22
  go_wp2_with (fail)
  refine (HY.out).mono ?_
  rintro e W1 ⟨rfl, rfl⟩
  go_wp2_with (fail)
  refine (ST.out).mono ?_
  rintro e W1 ⟨rfl, hD, hT, hz⟩
  have HD := Lib.hid (And.intro hD hT)
  clear hD hT hz ST
  go_wp2_with (fail)
  go_ret2
  exact ⟨rfl, HD.out.1, HD.out.2⟩
set_option maxHeartbeats 2000000 in
theorem read_arg (W : World) (F : Nat → Prop) (G N : Nat) (M : DM) (h : Drum W F G N M) (n : Int) (hn : n < 0 ∨ (N : Int) ≤ n) :
    Calls Try.prog 22 #[.pointer (some ⟨G, 0, none⟩), .int .i64 n] W fun e W' => e = .returned (.tuple #[.slice none 0 0, .int .i64 1]) ∧ W = W' := by
  have HY := Lib.hid (has_no W F G N M h n hn)
  clear h
  go_enter Try.func22, Try.ntmps22
  go_wp2_with (fail)
  refine (HY.out).mono ?_
  rintro e W1 ⟨rfl, rfl⟩
  go_wp2_with (fail)
  go_ret2
  exact ⟨rfl, rfl⟩
end Go.Proofs.Ytlkffignbjpfcaa
