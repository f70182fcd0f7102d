/- Proved here: the reader's chars: the text that it reads, where it leaves the reader. -/
import Derived.Test.YteipiaefamfleaaGreatDoorM9
import Derived.Test.YteipiaefamfleaaGreatDoorM1
import Derived.Deep.DeepCutAuto
import Derived.Lib.SlBytesConst
namespace Go.Proofs.YteipiaefamfleaaGreatDoor
open Go.RowKit

theorem one_conv (w : World) (x : Int) : (convert 22 22 (.slice (some ⟨w.heap.size, 0, none⟩) 1 1)).run Tryz.prog (w.alloc (.cells #[.int .u8 x] 5)) = .ok (.slice (some ⟨w.heap.size, 0, none⟩) 1 1) (w.alloc (.cells #[.int .u8 x] 5 (1, 2))) :=
  Lib.run_convert_bytes_const w 22 5 #[.int .u8 x] 1 1 Tryz.underlying22 Tryz.underlying5
theorem cut_chars (t : ByteArray) (k b off cap : Nat) (hk : k < t.size) (_hc : t.size ≤ cap) : ∃ rest okb, Lib.cutV (some ⟨b, off + k, none⟩) (t.size - k) (cap - k) 1 (Lib.index (t.data.toList.drop k) [60]) = .tuple #[.slice (some ⟨b, off + k, none⟩) (charsTo t k - k) (cap - k), rest, .bool okb] := by
  unfold charsTo Lib.cutV
  cases hf : findF t k [60] with
  | none =>
    have := find_none hf
    rw [if_neg (by omega)]
    exact ⟨_, _, rfl⟩
  | some i =>
    obtain ⟨h1, h2, h3⟩ := find_some (Nat.le_of_lt hk) hf
    rw [h1, if_pos (by omega), Int.toNat_natCast]
    exact ⟨_, _, rfl⟩
theorem raw_cells {W : World} {p : Option Addr} {raw : ByteArray} {b off : Nat} (h : HoldsB W p raw) (hp : p = some ⟨b, off, none⟩) : ∀ i, i < raw.size → W.cell? ⟨b, off + i, none⟩ = some (.int .u8 ((raw.data.toList.map fun b => ((b.toNat : Nat) : Int)).getD i 0)) := by
  intro i hi
  obtain ⟨b', o', e, hc⟩ := h (by omega)
  rw [hp] at e
  injection e with e
  injection e with e1 e2 _
  subst e1 e2
  rw [hc i hi]
  have h1 := get!_of raw i hi
  simp [List.getD, h1]

set_option maxRecDepth 100000 in
set_option maxHeartbeats 16000000 in
theorem chars_any (t : ByteArray) (b off cap R k : Nat) (w0 w : World) (E : Env w0 R b off cap t) (hB : Below w0.heap.size w0 w) (h : Rd w R (rv b off cap t) k) (_hk : k ≤ t.size) (hkt : k < t.size) :
    Calls Tryz.prog 33 #[.pointer (some ⟨R, 0, none⟩)] w fun e w' => TokPost R b off cap t w (charsF t k) e w' ∧ Moved R w w' := by
  obtain ⟨res, hres⟩ : ∃ r, charsF t k = r := ⟨_, rfl⟩
  rw [hres]
  unfold charsF at hres
  simp only at hres
  have hkl := Nat.le_of_lt hkt
  obtain ⟨c1, c2, c3⟩ := chars_to hkl
  have hsz : (t.extract k (charsTo t k)).size = charsTo t k - k := by simp; omega
  obtain ⟨L, hL⟩ : ∃ L, charsTo t k - k = L := ⟨_, rfl⟩
  have hkL : k + L = charsTo t k := by omega
  have hz : (t.extract k (charsTo t k)).size ≤ 140737488354000 := by
    have h2 := E.txt.small
    rw [hsz]
    omega
  have V := fun p c W (y : Below w0.heap.size w0 W) (z : (t.extract k (charsTo t k)).size ≤ c) g => text_read p (t.extract k (charsTo t k)) c W hz z (E.tabs.below y) (E.named.below y) g
  have HP := fun W (y : Txt W b off cap t) => holds_part (p := some ⟨b, off + k, none⟩) y.cells c2 c1 (fun _ => rfl)
  obtain ⟨rest, okb, hcut⟩ := cut_chars t k b off cap hkt E.txt.room
  have hroom := E.txt.room
  have hsm := E.txt.small
  have hnn := readT_nn (t.extract k (charsTo t k))
  generalize t.extract k (charsTo t k) = raw at *
  generalize readF (stepT raw) raw.size = x at *
  obtain ⟨x1, x2, x3⟩ := x
  simp only at V hnn hres
  have HRES := Lib.hid hres
  clear hres
  rw [hL] at hsz hcut
  subst hsz
  rw [← hkL] at c2
  have HV := Lib.hid V
  have HH := Lib.hid HP
  have HKL := Lib.hid hkL
  have HK := Lib.hid (And.intro hkt (And.intro hroom (And.intro hsm c2)))
  clear V HP hz hL hkL hsm c1 c3
  have hbs : (k : Int) ≤ (cap : Int) := by omega
  have hbn : (0 : Int) ≤ (k : Int) := by omega
  have hbl : (k : Int) ≤ (t.size : Int) := by omega
  have hne : ¬ cap = k := by omega
  have HCUT := Lib.hid hcut
  clear hcut c2 hroom
  have HE := Lib.hid (And.intro E (And.intro hB h))
  clear h E hB _hk hkt hkl
  go_enter Tryz.func33, Tryz.ntmps33
  go_wp2_with (fail)
  obtain ⟨W1, hW1⟩ : ∃ W, w.alloc TOK0 = W := ⟨_, rfl⟩
  rw [hW1]
  have S1 := Lib.hid (St.first HE.out.1 HE.out.2.1 HE.out.2.2 hW1)
  clear hW1
  have kc : (convert 22 22 (.slice (some ⟨W1.heap.size, 0, none⟩) 1 1)).run Tryz.prog (W1.alloc (.cells #[.int .u8 60] 5)).drew = .ok (.slice (some ⟨W1.heap.size, 0, none⟩) 1 1) (W1.alloc (.cells #[.int .u8 60] 5 (1, 2))).drew := one_conv W1.drew 60
  have hd1 : Below W1.heap.size W1 (W1.alloc (.cells #[.int .u8 60] 5)).drew := ((Below.refl _ _).alloc (Nat.le_refl _) _).drew
  have hd2 : Below W1.heap.size W1 (W1.alloc (.cells #[.int .u8 60] 5 (1, 2))).drew := ((Below.refl _ _).alloc (Nat.le_refl _) _).drew
  have rd1 := S1.out.rd
  have h0 := rd1.text
  have h1 := rd1.place
  have a0 := hb_cell hd1 h0
  have a1 := hb_cell hd1 h1
  have b0 := hb_cell hd2 h0
  have b1 := hb_cell hd2 h1
  have T2 := S1.out.env.at_ (S1.out.env.go S1.out.below (Moved.of_below hd2))
  have CX := cut_rest t ⟨#[60]⟩ (some ⟨b, off + k, none⟩) b off cap k W1.heap.size 1 W1 _ hd2 (by decide) (S1.out.env.maxed (S1.out.env.go S1.out.below (Moved.of_below hd2))) HK.out.2.2.1 (by decide) HK.out.2.1 (Nat.le_of_lt HK.out.1) T2.cells ⟨_, rfl⟩ (fun _ => rfl) (fun j hj => by
    have hj0 : j = 0 := by
      have : (⟨#[60]⟩ : ByteArray).size = 1 := rfl
      omega
    subst hj0
    exact (cell_of_row _ _ _ _ _ _ (heap_alloc_new W1 (.cells #[.int .u8 60] 5 (1, 2)))).trans rfl)
  rw [show (⟨#[60]⟩ : ByteArray).size = 1 from rfl, show (⟨#[60]⟩ : ByteArray).data.toList = [60] from rfl, HCUT.out] at CX
  obtain ⟨W2, hW2⟩ : ∃ W, (W1.alloc (.cells #[.int .u8 60] 5 (1, 2))).drew = W := ⟨_, rfl⟩
  rw [hW2] at CX kc b0 b1
  have HC := Lib.hid CX
  clear CX T2 rd1 hd1 hd2 hW2
  go_upto_region 1 with fail
  go_cut [4, 5, 6] (fun v4 v5 v6 wx => v4 = .slice (some ⟨b, off + k, none⟩) raw.size (cap - k) ∧ Below W1.heap.size W1 wx)
  case first =>
    go_region_with (go_at_call 50; with_reducible (refine HC.out.mono ?_); rintro e w' ⟨rfl, hw'⟩)
    all_goals (go_wp2_with fail; go_meet; exact ⟨rfl, hw'⟩)
  case rest =>
    obtain ⟨rfl, hb⟩ := hcut
    have S2 := Lib.hid (S1.out.grew hb)
    clear hb h0 h1 a0 a1 b0 b1 kc hbs hbn hbl hne
    go_wp2_with (fail)
    refine (HV.out _ _ wc S2.out.below (by have := HK.out; omega) (HH.out wc S2.out.txt)).mono ?_
    rintro e w3 ⟨rfl, hb⟩
    have S3 := Lib.hid (S2.out.grew hb)
    clear hb
    by_cases hr : x3 = 0
    · subst hr
      have rd3 := S3.out.rd
      have h0 := rd3.text
      have h1 := rd3.place
      have hf := rd3.free
      have hset := rd3.set (k + raw.size)
      rw [cast_add] at hset
      have s4 := S3.out.moved hset.1 hset.2
      have hlen : (k : Int) + (raw.size : Int) ≤ 4194304 := by have := HK.out; omega
      have HS4 := Lib.hid s4
      clear hset s4 rd3
      go_upto_region 6 with fail
      obtain ⟨w4, hw4⟩ : ∃ W, w3.setCell ⟨R, 1, none⟩ (.int .i64 ((k : Int) + (raw.size : Int))) = W := ⟨_, rfl⟩
      rw [hw4] at HS4 ⊢
      clear hw4 h0 h1 hf hlen
      have kc := one_conv w4 38
      have hd : Below w4.heap.size w4 (w4.alloc (.cells #[.int .u8 38] 5 (1, 2))) := (Below.refl _ _).alloc (Nat.le_refl _) _
      have s5 := HS4.out.grew hd
      have CN := Tryz.bytes_Count_one b (off + k) raw.size (cap - k) w4.heap.size 0 1 (raw.data.toList.map fun b => ((b.toNat : Nat) : Int)) 38 (w4.alloc (.cells #[.int .u8 38] 5 (1, 2))) (by simp) (raw_cells (HH.out _ s5.txt) rfl) (by
        rw [cell_of_row _ _ _ _ _ _ (heap_alloc_new w4 _)]
        rfl)
      rw [strZ_bytes] at CN
      have CNH := Lib.hid CN
      have S5 := Lib.hid s5
      clear CN s5 hd
      obtain ⟨⟨c0, c1, c2, c3, c4, c5⟩, ⟨f0, f1, f2, f3, f4, f5⟩⟩ := six_cells S5.out.out
      go_wp2_with (go_at_call 52; refine CNH.out.mono ?_; rintro e w6 ⟨rfl, rfl⟩)
      change bodyPost _ _ _ _ _ (setTok (w4.alloc (.cells #[.int .u8 38] 5 (1, 2))) w.heap.size 5 0 ⟨#[]⟩ (.slice none 0 0) ⟨x1.toArray⟩ (Lib.countByte raw.data.toList (38 : Int).toNat.toUInt8 : Nat))
      obtain ⟨w9, hw9⟩ : ∃ W, setTok (w4.alloc (.cells #[.int .u8 38] 5 (1, 2))) w.heap.size 5 0 ⟨#[]⟩ (.slice none 0 0) ⟨x1.toArray⟩ (Lib.countByte raw.data.toList (38 : Int).toNat.toUInt8 : Nat) = W := ⟨_, rfl⟩
      obtain ⟨r9, m9⟩ := setTok_row 5 0 ⟨#[]⟩ (.slice none 0 0) ⟨x1.toArray⟩ (Lib.countByte raw.data.toList (38 : Int).toNat.toUInt8 : Nat) S5.out.out
      rw [hw9] at r9 m9 ⊢
      obtain ⟨⟨d0, d1, d2, d3, d4, d5⟩, _⟩ := six_cells r9
      refine bodyPost_ret (v := .tuple #[tokV 5 0 ⟨#[]⟩ (.slice none 0 0) ⟨x1.toArray⟩ (Lib.countByte raw.data.toList (38 : Int).toNat.toUInt8 : Nat), .int .i64 0]) ?_ rfl ?_
      · rw [results_cell_tmp rfl]
        go_simp
      · obtain ⟨z1, z2⟩ := S5.out.laid m9
        rw [← HRES.out, if_pos trivial]
        exact ⟨TokPost.plain rfl (by rw [← HKL.out]; exact z1), z2⟩
    · have hrb : (x3 == 0) = false := by rw [beq_eq_false_iff_ne]; exact hr
      obtain ⟨⟨c0, c1, c2, c3, c4, c5⟩, ⟨f0, f1, f2, f3, f4, f5⟩⟩ := six_cells S3.out.out
      go_wp2_with (fail)
      change bodyPost _ _ _ _ _ (setTok w3 w.heap.size 0 0 ⟨#[]⟩ (.slice none 0 0) ⟨#[]⟩ 0)
      obtain ⟨w9, hw9⟩ : ∃ W, setTok w3 w.heap.size 0 0 ⟨#[]⟩ (.slice none 0 0) ⟨#[]⟩ 0 = W := ⟨_, rfl⟩
      obtain ⟨r9, m9⟩ := setTok_row 0 0 ⟨#[]⟩ (.slice none 0 0) ⟨#[]⟩ 0 S3.out.out
      rw [hw9] at r9 m9 ⊢
      obtain ⟨⟨d0, d1, d2, d3, d4, d5⟩, _⟩ := six_cells r9
      refine bodyPost_ret (v := .tuple #[tokV 0 0 ⟨#[]⟩ (.slice none 0 0) ⟨#[]⟩ 0, .int .i64 x3]) ?_ rfl ?_
      · rw [results_cell_tmp rfl]
        go_simp
      · obtain ⟨z1, z2⟩ := S3.out.laid m9
        rw [← HRES.out, if_neg hr]
        refine ⟨?_, z2⟩
        show _ = _
        rw [Int.toNat_of_nonneg hnn]
end Go.Proofs.YteipiaefamfleaaGreatDoor
