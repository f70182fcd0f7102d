/- Proved here: what the library's Grow, Concat and Clone of rows of bytes answer: new memory that holds just the pieces. -/
import Derived.Test.YtlkffignbjpfcaaOctet2
import Derived.Lib.AppendZeros
import Derived.Lib.AppendZerosOnto
namespace Go.Proofs.Ytlkffignbjpfcaa
open Go.RowKit

theorem owns_made (w : World) (cur : Array Value) (cap : Nat) (hm : cap ≤ maxLen) (hs : cur.size = cap * 1) : Owns (w.alloc (.cells cur 5)) w.heap.size w.heap.size cap ⟨#[]⟩ :=
  ⟨World.ownsRow_made w cur cap (Nat.le_refl _) hm hs, Nat.le_refl _, by simp, Nat.zero_le _⟩
set_option maxRecDepth 100000 in
set_option maxHeartbeats 4000000 in
theorem grow_new (n : Nat) (h0 : 0 < n) (hn : n ≤ 1099511627776) (w : World) :
    Calls Try.prog 70 #[.slice none 0 0, .int .i64 (n : Int)] w fun e w' => ∃ g cap, e = .returned (.slice (some ⟨g, 0, none⟩) 0 cap) ∧ Owns w' w.heap.size g cap ⟨#[]⟩ ∧ Below w.heap.size w w' := by
  obtain ⟨i0, hi, hz0, hz1, hz2⟩ := info_parts infoByte
  have hrz : ∀ ty, (Builtin.append_ #[33, 3] ty #[.slice none 0 0, .int .i64 (n : Int)]).run Try.prog w =
      .ok (.slice (some ⟨w.heap.size, 0, none⟩) n (grownCap w n 0 5)) (w.drew.alloc (.cells (#[] ++ Builtin.zeroCells (Value.int .u8 0).cells n ++ Builtin.zeroCells (Value.int .u8 0).cells (grownCap w n 0 5 - n)) 5)) := fun ty => by
    have h := Lib.run_append_grow_zeros (P := Try.prog) w 33 3 ty 5 i0 (.int .u8 0) .i64 .i64 Try.underlying33 Try.underlying3 hi hz0 none 0 0 [] (run_firstCells_none w.drew i0.size 0 0 0) n h0 (by omega) (by omega) (by omega) (by rw [hz2]; omega)
      (growslice_fits (by omega) (by rw [hz2]; omega))
    rw [Nat.zero_add] at h
    exact h
  have hG := grownCap_ge w n 0 5
  have hG2 := grownCap_le_maxLen w n 0 5 (by unfold maxLen; omega)
  have hown : ∀ G, n ≤ G → G ≤ maxLen → Owns (w.drew.alloc (.cells (#[] ++ Builtin.zeroCells (Value.int .u8 0).cells n ++ Builtin.zeroCells (Value.int .u8 0).cells (G - n)) 5)) w.heap.size w.heap.size G ⟨#[]⟩ := fun G h1 h2 => by
    refine owns_made w.drew _ G h2 ?_
    simp only [Array.size_append, size_zeroCells, Array.size_empty]
    show 0 + n * 1 + (G - n) * 1 = _
    omega
  generalize grownCap w n 0 5 = G at *
  have HO := Lib.hid (hown G hG hG2)
  have HB := Lib.hid (show Below w.heap.size w (w.drew.alloc (.cells (#[] ++ Builtin.zeroCells (Value.int .u8 0).cells n ++ Builtin.zeroCells (Value.int .u8 0).cells (G - n)) 5)) from (Below.refl _ _).drew.alloc (Nat.le_refl _) _)
  generalize w.drew.alloc (.cells (#[] ++ Builtin.zeroCells (Value.int .u8 0).cells n ++ Builtin.zeroCells (Value.int .u8 0).cells (G - n)) 5) = W2 at *
  have hn9 : (0 : Int) < (n : Int) := by omega
  have hn8 : (n : Int) ≤ 1099511627776 := by omega
  have hG9 : n ≤ G := hG
  have HR := Lib.hid hrz
  clear hown hi hz0 hz1 hz2 hrz hG2
  go_enter Try.func70, Try.ntmps70
  go_wp2_with (at_builtin; refine Lib.wpList_append_run _ rfl _ _ _ _ rfl _ _ rfl rfl _ _ (HR.out _) ?_)
  all_goals (go_ret; exact ⟨_, _, rfl, HO.out, HB.out⟩)

/-- A piece: where it lies, its room, its bytes. -/
abbrev Piece := Option Addr × Nat × ByteArray
def pieceV (x : Piece) : Value := .slice x.1 x.2.2.size x.2.1
def Fine (w : World) (x : Piece) : Prop := HoldsB w x.1 x.2.2 ∧ (x.1 = none → x.2.1 = 0)
def catP (l : List Piece) : List UInt8 := l.flatMap fun x => bl x.2.2
theorem Fine.below {w W : World} {x : Piece} (h : Fine w x) (hb : Below w.heap.size w W) : Fine W x := ⟨h.1.below hb, h.2⟩
theorem catP_snoc (l : List Piece) (k : Nat) (h : k < l.length) : catP (l.take (k + 1)) = catP (l.take k) ++ bl l[k].2.2 := by
  rw [List.take_succ_eq_append_getElem h]
  unfold catP
  rw [List.flatMap_append, List.flatMap_singleton]
theorem catP_le (l : List Piece) (k : Nat) : (catP (l.take k)).length ≤ (catP l).length := by
  have : catP l = catP (l.take k) ++ catP (l.drop k) := by
    unfold catP
    rw [← List.flatMap_append, List.take_append_drop]
  rw [this, List.length_append]; omega
def CatRel (w : World) (l : List Piece) (v x : Value) (wr : World) : Prop :=
  ∃ k g cap : Nat, x = .int .i64 (k : Int) ∧ k ≤ l.length ∧ v = .slice (some ⟨g, 0, none⟩) (catP (l.take k)).length cap ∧ Hid (Owns wr w.heap.size g cap (ofL (catP (l.take k))) ∧ Below w.heap.size w wr)
theorem ofL_append (a b : List UInt8) : ofL (a ++ b) = ofL a ++ ofL b := by
  apply bl_inj
  rw [bl_append, bl_ofL, bl_ofL, bl_ofL]
set_option maxRecDepth 100000 in
set_option maxHeartbeats 4000000 in
theorem concat_any (l : List Piece) (b off c : Nat) (w : World) (hc : ∀ j (h : j < l.length), w.cell? ⟨b, off + j, none⟩ = some (pieceV l[j])) (hf : ∀ x ∈ l, Fine w x) (h0 : 0 < (catP l).length) (hz : (catP l).length ≤ 1048576) (hl : l.length ≤ 1024) :
    Calls Try.prog 61 #[.slice (some ⟨b, off, none⟩) l.length c] w fun e w' => ∃ r, e = .returned r ∧ NewB (catP l) w r w' := by
  have GR := Lib.hid (grow_new (catP l).length h0 (by omega) w)
  have hl9 : (l.length : Int) ≤ 1024 := by omega
  have HC := Lib.hid (And.intro hc (And.intro hf hz))
  clear hc hf
  obtain ⟨n, hn⟩ : ∃ n, l.length = n := ⟨_, rfl⟩
  have HN := Lib.hid hn
  rw [hn] at hl9 hl ⊢
  clear hn
  go_enter Try.func61, Try.ntmps61
  go_wp2_with (fail)
  go_loop [3, 11] (fun a i => ∃ k : Nat, i = .int .i64 (k : Int) ∧ k ≤ n ∧ a = .int .i64 (((catP (l.take k)).length : Nat) : Int)) (fun _ i => n - (intOf i).toNat)
  case atStart => exact ⟨0, rfl, Nat.zero_le _, rfl⟩
  case round =>
    obtain ⟨k, rfl, hk, rfl⟩ := hrel
    by_cases hlt : k < n
    · have hkl : k < l.length := by rw [HN.out]; exact hlt
      have hcell : w.cell? ⟨b, off + k, none⟩ = some (.slice l[k].1 l[k].2.2.size l[k].2.1) := HC.out.1 k hkl
      have hsum : (catP (l.take (k + 1))).length = (catP (l.take k)).length + l[k].2.2.size := by rw [catP_snoc l k hkl, List.length_append, bl_length]
      have hle := catP_le l (k + 1)
      have hz := HC.out.2.2
      generalize l[k] = x at *
      obtain ⟨y, hy⟩ : ∃ y, x.2.2.size = y := ⟨_, rfl⟩
      rw [hy] at hcell hsum
      have HS := Lib.hid hsum
      have hle9 : (((catP (l.take k)).length : Nat) : Int) + (y : Int) ≤ 1048576 := by omega
      clear hsum hle hz hkl hy
      generalize (catP (l.take k)).length = X at *
      go_wp2_with (fail)
      go_round
      case rel => exact ⟨k + 1, by go_num, by omega, by rw [HS.out]; simp⟩
      case measure => simp [intOf]; omega
    · obtain rfl : k = n := by omega
      have e : l.take k = l := by rw [← HN.out, List.take_length]
      rw [e]
      go_wp2_with (fail)
      refine GR.out.mono ?_
      rintro r W1 ⟨g0, c0, rfl, ho, hb⟩
      have H1 := Lib.hid (And.intro ho hb)
      clear ho hb GR e
      go_wp2_with (fail)
      go_loopw [6, 27] (fun v x wr => CatRel w l v x wr) (fun _ x _ => k - (intOf x).toNat)
      case atStart => exact ⟨0, g0, c0, rfl, Nat.zero_le _, rfl, Lib.hid H1.out⟩
      case round =>
        obtain ⟨j, g, cap, rfl, hj, rfl, HR⟩ := hrel
        rw [HN.out] at hj
        by_cases hlt : j < k
        · have hkl : j < l.length := by rw [HN.out]; exact hlt
          have hcell : wr.cell? ⟨b, off + j, none⟩ = some (.slice l[j].1 l[j].2.2.size l[j].2.1) := hb_cell HR.out.2 (HC.out.1 j hkl)
          have hfine := (HC.out.2.1 l[j] (List.getElem_mem hkl)).below HR.out.2
          have hsum := catP_snoc l j hkl
          have hle := catP_le l (j + 1)
          have hz := HC.out.2.2
          generalize l[j] = x at *
          obtain ⟨q, cx, sx⟩ := x
          have hle2 : (catP (l.take j)).length + sx.size ≤ 1048576 := by
            rw [hsum, List.length_append, bl_length] at hle
            exact Nat.le_trans hle hz
          have hO := HR.out.1
          obtain ⟨g2, cap2, w2, hrun, hown, hbel⟩ := append_next hO HR.out.2 hfine.1 hfine.2 (by rw [ofL_size]; exact Nat.le_trans hle2 (by decide))
          rw [ofL_size] at hrun
          have e2 : ofL (catP (l.take j)) ++ sx = ofL (catP (l.take (j + 1))) := by rw [hsum, ofL_append, ofL_bl]
          rw [e2] at hown
          have hlen : (catP (l.take (j + 1))).length = (catP (l.take j)).length + sx.size := by rw [hsum, List.length_append, bl_length]
          have HX := Lib.hid (And.intro hown (And.intro hbel hlen))
          have HRUN := Lib.hid hrun
          clear hrun hown hbel hlen hO hfine hsum hle hz e2
          generalize (catP (l.take j)).length = X at *
          go_wp2_with (at_builtin; refine wpList_append_eq rfl _ _ _ rfl _ _ _ _ rfl rfl HRUN.out ?_)
          go_roundw
          case rel => exact ⟨j + 1, g2, cap2, by go_num, by rw [HN.out]; omega, by rw [HX.out.2.2], Lib.hid ⟨HX.out.1, HX.out.2.1⟩⟩
          case measure => simp [intOf]; omega
        · obtain rfl : j = k := by omega
          go_wp2_with (fail)
          go_ret
          have e : l.take j = l := by rw [← HN.out, List.take_length]
          have h := HR.out
          rw [e] at h ⊢
          exact ⟨_, rfl, g, cap, rfl, h.1, h.2⟩
end Go.Proofs.Ytlkffignbjpfcaa
