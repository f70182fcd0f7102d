/- Proved here: Open of a tape on a drum whose power is on, whatever stands on its sectors. -/
import Derived.Test.YtggchfmglaijgaaTapeReads
namespace Go.Proofs.Ytggchfmglaijgaa
open Go.RowKit

/-- What Open leaves. -/
def OpenPost (w W : World) (F : Nat → Prop) (G N : Nat) (M : DM) (lo hi gen : Nat) (Rf : RM) (e : Ending) (W' : World) : Prop :=
  ∃ t gv j Y, e = .returned (.tuple #[.pointer (some ⟨t, 0, none⟩), gv, .int .i64 0]) ∧ j ≤ hi - lo ∧ DW w W' F G N (M.bump j) ∧ Touch (Only G) W W' ∧ W'.heap[t]? = some (.cells (tapeV G lo hi gen Rf.groups.length Rf.used false) 118 (0, 0)) ∧ W.heap.size ≤ t ∧ ¬ F t ∧
    GroupsIn W' Y gv Rf.groups ∧ ∀ k, Y k → ¬ F k ∧ W.heap.size ≤ k ∧ k ≠ t ∧ k < W'.heap.size
/-- The loop's state. -/
structure OpenSt (w W wr : World) (F : Nat → Prop) (G N : Nat) (M : DM) (lo hi gen R k : Nat) (Y : Nat → Prop) (Rk : RM) : Prop where
  wW : w.heap.size ≤ W.heap.size
  d : DW w wr F G N (M.bump k)
  t : Touch (Only G) W wr
  r : ReadAt wr Y R gen Rk
  y : ∀ j, Y j → ¬ F j ∧ W.heap.size ≤ j
  lit : Little Rk k
  run : readsM gen newR (logOf M lo (hi - lo)) = readsM gen Rk ((logOf M lo (hi - lo)).drop k)
theorem only_not {F : Nat → Prop} {G : Nat} (hG : F G) {j : Nat} (h : ¬ F j) : ¬ Only G j := fun e => h (by have : j = G := e; rw [this]; exact hG)
theorem OpenSt.next {w W W1 W2 wr : World} {F : Nat → Prop} {G N : Nat} {M : DM} {lo hi gen R k : Nat} {Y Y' : Nat → Prop} {Rk Rn : RM} (h : OpenSt w W wr F G N M lo hi gen R k Y Rk)
    (d1 : DW w W1 F G N (M.bump (k + 1))) (t1 : Touch (Only G) wr W1) (t2 : Touch Y W1 W2) (hg : ∀ j, Y' j → Grow Y W1 W2 j) (r : ReadAt W2 Y' R gen Rn) (hl : Little Rn (k + 1))
    (hrun : readsM gen Rk ((logOf M lo (hi - lo)).drop k) = readsM gen Rn ((logOf M lo (hi - lo)).drop (k + 1))) : OpenSt w W W2 F G N M lo hi gen R (k + 1) Y' Rn := by
  have hFlt := d1.drum.lt
  have hW1 : W.heap.size ≤ W1.heap.size := Nat.le_trans h.t.size t1.size
  refine ⟨h.wW, ⟨d1.drum.kept (fun j hj => t2.block j (hFlt j hj) (fun hy => (h.y j hy).1 hj)) t2.size, d1.below.trans (t2.below (fun j hj => ?_) d1.below.size), d1.since⟩, ?_, r, fun j hj => ?_, hl, h.run.trans hrun⟩
  · exact Nat.le_trans h.wW (h.y j hj).2
  · refine (h.t.trans t1 (fun j hj => .inl hj)).trans (F' := Y) t2 (fun j hj => .inr ⟨(h.y j hj).2, ?_⟩)
    exact Nat.lt_of_lt_of_le (h.r.lt j hj) t1.size
  · rcases hg j hj with h1 | h1
    · exact h.y j h1
    · exact ⟨fun hf => by have := hFlt j hf; omega, by omega⟩
set_option maxRecDepth 100000 in
set_option maxHeartbeats 16000000 in
theorem open_ok {w W : World} {F : Nat → Prop} {G N : Nat} {M : DM} (h : DW w W F G N M) (hS : Still M) (hst : M.steps ≤ 1000000000) (hlo : M.loose.length ≤ 1000000) (lo hi gen : Nat) (hlh : lo < hi) (hhi : hi ≤ N) (hN : N ≤ 16384) (hg1 : 1 ≤ gen) (hg2 : gen ≤ 4294967295) :
    Calls Try.prog 21 #[.pointer (some ⟨G, 0, none⟩), .int .i64 (lo : Int), .int .i64 (hi : Int), .int .i64 (gen : Int)] W (OpenPost w W F G N M lo hi gen (readsM gen newR (logOf M lo (hi - lo)))) := by
  have SC := Lib.hid (sectors_any W F G N M h.drum)
  have HH := Lib.hid (And.intro h (And.intro hS (And.intro hst (And.intro hlo (And.intro hlh (And.intro hhi (And.intro hN (And.intro hg1 hg2))))))))
  have i1 : (0 : Int) ≤ (lo : Int) := by omega
  have i2 : (hi : Int) ≤ (N : Int) := by omega
  have i3 : (lo : Int) < (hi : Int) := by omega
  have i4 : ((hi : Int) - (lo : Int)) ≤ 65535 := by omega
  have i5 : (1 : Int) ≤ (gen : Int) := by omega
  have i6 : (gen : Int) ≤ 4294967295 := by omega
  have i7 : IntKind.i64.wrap ((hi : Int) - (lo : Int)) = (hi : Int) - (lo : Int) := by rw [IntKind.wrap_i64]; omega
  have i8 : (N : Int) ≤ 16384 := by omega
  have j1 : decide ((lo : Int) < 0) = false := decide_eq_false (by omega)
  have j2 : decide ((65535 : Int) < ((hi - lo : Nat) : Int)) = false := decide_eq_false (by omega)
  have j3 : decide ((gen : Int) < 1) = false := decide_eq_false (by omega)
  have j4 : decide ((4294967295 : Int) < (gen : Int)) = false := decide_eq_false (by omega)
  have j5 : decide (N < hi) = false := decide_eq_false (by omega)
  have j6 : decide (hi ≤ lo) = false := decide_eq_false (by omega)
  have hwr : (hi : Int) - (lo : Int) = ((hi - lo : Nat) : Int) := by omega
  have HI := Lib.hid (And.intro i1 (And.intro i2 (And.intro i3 i8)))
  clear h hS hst hlo hlh hhi hN hg1 hg2
  go_enter Try.func21, Try.ntmps21
  go_wp2_with (fail)
  refine SC.out.mono ?_
  rintro e W' ⟨rfl, rfl⟩
  obtain ⟨W1, hW1⟩ : ∃ W1, W.alloc (.cells #[.int .i64 (gen : Int), .slice none 0 0, .int .i64 0, .slice none 0 0, .int .i64 0, .int .i64 0] 115) = W1 := ⟨_, rfl⟩
  have n1 : W1.heap[W.heap.size]? = some (.cells #[.int .i64 (gen : Int), .slice none 0 0, .int .i64 0, .slice none 0 0, .int .i64 0, .int .i64 0] 115 (0, 0)) := by rw [← hW1]; exact heap_alloc_new _ _
  have b1 : Below W.heap.size W W1 := by rw [← hW1]; exact (Below.refl _ _).alloc (Nat.le_refl _) _
  have r1 : ReadAt W1 (Only W.heap.size) W.heap.size gen newR := ⟨.slice none 0 0, .slice none 0 0, [], ⟨n1, World.ownsRow_nil _ _ _ _, fun i hi => absurd hi (Nat.not_lt_zero i), World.ownsRow_nil _ _ _ _, rfl, fun k hk => (by cases hk), fun k hk => (by cases hk), fun k hk => by
    have e : k = W.heap.size := hk
    rw [e]; exact obj_lt n1⟩⟩
  have s1 : OpenSt w W W1 F G N M lo hi gen W.heap.size 0 (Only W.heap.size) newR := ⟨HH.out.1.below.size, by rw [DM.bump_zero]; exact HH.out.1.on b1, Touch.of_below b1, r1, fun j hj => by
    have e : j = W.heap.size := hj
    rw [e]
    exact ⟨fun f => by have := HH.out.1.drum.lt _ f; omega, Nat.le_refl _⟩, little_new, rfl⟩
  have H1 := Lib.hid s1
  have HW1 := Lib.hid hW1
  clear n1 b1 r1 s1 SC hW1
  go_wp2_with (fail)
  rw [HW1.out]
  clear HW1
  go_loopw [42] (fun x wr => ∃ (k : Nat) (Y : Nat → Prop) (Rk : RM), x = .int .i64 (k : Int) ∧ k ≤ hi - lo ∧ Hid (OpenSt w W wr F G N M lo hi gen W.heap.size k Y Rk)) (fun x _ => hi - lo - (intOf x).toNat)
  case atStart => exact ⟨0, _, newR, rfl, Nat.zero_le _, H1⟩
  case round =>
    obtain ⟨k, Y, Rk, rfl, hk, HR⟩ := hrel
    clear H1
    by_cases hlt : k < hi - lo
    · have hlt9 : (k : Int) < ((hi - lo : Nat) : Int) := by omega
      have hk0 : (0 : Int) ≤ (k : Int) := by omega
      have hw : IntKind.i64.wrap ((lo : Int) + (k : Int)) = ((lo + k : Nat) : Int) := by rw [IntKind.wrap_i64]; have := HI.out; omega
      have hlk : (lo : Int) + (k : Int) = ((lo + k : Nat) : Int) := by omega
      have hNk : lo + k < N := by have := HH.out.2.2.2.2.2.1; omega
      have hb0 := HR.out.d
      have RD := dread_ok hb0 ⟨by show M.steps + k ≤ _; have := HH.out.2.2.1; have := HH.out.2.2.2.2.2.2.1; omega, by rw [(HH.out.2.1.bump k).fuse]; exact Nat.zero_le _, by show M.loose.length ≤ _; have := HH.out.2.2.2.1; omega⟩ (HH.out.2.1.bump k).off (lo + k) hNk
      rw [DM.bump_step HH.out.2.1, ← hlk] at RD
      have HRD := Lib.hid RD
      have HL := Lib.hid hlt
      clear RD hb0 hlt hlk
      go_wp2_with (fail)
      refine HRD.out.mono ?_
      rintro e W4 ⟨g4, rfl, d4, o4, z4, nf4, t4⟩
      obtain ⟨sec, hsec⟩ : ∃ sec, bl ((M.bump k).now.getD (lo + k) ⟨#[]⟩) = sec := ⟨_, rfl⟩
      have hsl : sec.length = 64 := by rw [← hsec, bl_length, z4]
      have hho : HoldsB W4 (some ⟨g4, 0, none⟩) (ofL sec) := by rw [← hsec, ofL_bl]; exact o4.holds
      have r4 := HR.out.r.touch (W' := W4) (fun j hj => t4.block j (HR.out.r.lt j hj) (only_not HR.out.d.drum.fG (HR.out.y j hj).1)) t4.size
      have TK := take_ok Y W.heap.size gen Rk sec hsl g4 0 64 W4 r4 hho HH.out.2.2.2.2.2.2.2.2 (by have := HR.out.lit.taken; have := HH.out.2.2.2.2.2.2.1; omega) (by have := HR.out.lit.missing; omega) (by have := HR.out.lit.groups; have := HH.out.2.2.2.2.2.2.1; omega) (by have := HR.out.lit.begun; have := HH.out.2.2.2.2.2.2.1; omega)
      have hdrop := logOf_drop M N lo (hi - lo) k HR.out.d.drum.ok.nowLen (by have := HH.out.2.2.2.2.2.1; have := HH.out.2.2.2.2.1; omega) HL.out
      have hsec' : bl (M.now.getD (lo + k) ⟨#[]⟩) = sec := hsec
      rw [hsec'] at hdrop
      have HTK := Lib.hid TK
      have H4 := Lib.hid (And.intro d4 (And.intro t4 (And.intro r4 (And.intro hsl hdrop))))
      clear d4 o4 z4 nf4 t4 hsec hsl hho r4 TK hdrop hsec' HRD
      go_wp2_with (fail)
      refine HTK.out.mono ?_
      rintro e W5 ⟨rfl, t5, Y5, g5, r5⟩
      obtain ⟨f, hf⟩ : ∃ f, Rk.fit gen sec = f := ⟨_, rfl⟩
      have HF := Lib.hid hf
      rw [hf] at r5 ⊢
      clear hf HTK
      cases f with
      | true =>
        have r5' : ReadAt W5 Y5 W.heap.size gen (Rk.next sec) := by rwa [if_pos rfl] at r5
        have hnx : readsM gen Rk ((logOf M lo (hi - lo)).drop k) = readsM gen (Rk.next sec) ((logOf M lo (hi - lo)).drop (k + 1)) := by
          rw [H4.out.2.2.2.2, readsM, if_pos HF.out]
        have HN := Lib.hid (HR.out.next H4.out.1 H4.out.2.1 t5 g5 r5' (HR.out.lit.next HF.out H4.out.2.2.2.1) hnx)
        clear r5 r5' t5 g5 hnx
        go_wp2_with (fail)
        go_roundw
        case rel => exact ⟨k + 1, Y5, _, by go_num, by have := HL.out; omega, HN⟩
        case measure => simp [intOf]; have := HL.out; omega
      | false =>
        have r5' : ReadAt W5 Y5 W.heap.size gen Rk := by rwa [if_neg (by decide)] at r5
        have hrun : readsM gen newR (logOf M lo (hi - lo)) = Rk := by
          rw [HR.out.run, H4.out.2.2.2.2, readsM, if_neg (by rw [HF.out]; decide)]
        have HRUN := Lib.hid hrun
        have hD : DW w W5 F G N (M.bump (k + 1)) ∧ Touch (Only G) W W5 ∧ ∀ j, Y5 j → ¬ F j ∧ W.heap.size ≤ j := by
          have hFlt := H4.out.1.drum.lt
          have hz4 : W.heap.size ≤ W4.heap.size := Nat.le_trans HR.out.t.size H4.out.2.1.size
          refine ⟨⟨H4.out.1.drum.kept (fun j hj => t5.block j (hFlt j hj) (fun hy => (HR.out.y j hy).1 hj)) t5.size, H4.out.1.below.trans (t5.below (fun j hj => Nat.le_trans HR.out.wW (HR.out.y j hj).2) H4.out.1.below.size), H4.out.1.since⟩, ?_, fun j hj => ?_⟩
          · refine (HR.out.t.trans H4.out.2.1 (fun j hj => .inl hj)).trans (F' := Y) t5 (fun j hj => .inr ⟨(HR.out.y j hj).2, ?_⟩)
            exact Nat.lt_of_lt_of_le (HR.out.r.lt j hj) H4.out.2.1.size
          · rcases g5 j hj with h1 | h1
            · exact HR.out.y j h1
            · exact ⟨fun hf => by have := hFlt j hf; omega, by omega⟩
        have HD := Lib.hid hD
        have hjl : k + 1 ≤ hi - lo := by have := HL.out; omega
        have HJ := Lib.hid hjl
        clear hD t5 g5 r5 hrun hjl
        have hr := r5'
        obtain ⟨gv, bv, Vs, hri⟩ := hr
        obtain ⟨ga, gc, rfl, _⟩ := owns_form hri.groups
        have x1 : W5.cell? ⟨W.heap.size, 1, none⟩ = some (.slice ga Rk.groups.length gc) := by rw [cell_of_row _ _ _ _ _ _ hri.blk]; rfl
        have x2 : W5.cell? ⟨W.heap.size, 2, none⟩ = some (.int .i64 (Rk.used : Int)) := by rw [cell_of_row _ _ _ _ _ _ hri.blk]; rfl
        have HRI := Lib.hid hri
        clear hri
        go_wp2_with (fail)
        obtain ⟨W6, hW6⟩ : ∃ W6, W5.alloc (.cells #[.pointer (some ⟨G, 0, none⟩), .int .i64 (lo : Int), .int .i64 (hi : Int), .int .i64 (gen : Int), .int .i64 (Rk.groups.length : Int), .int .i64 (Rk.used : Int), .bool false] 118) = W6 := ⟨_, rfl⟩
        have b56 : Below W5.heap.size W5 W6 := by rw [← hW6]; exact (Below.refl _ _).alloc (Nat.le_refl _) _
        have n6 : W6.heap[W5.heap.size]? = some (.cells (tapeV G lo hi gen Rk.groups.length Rk.used false) 118 (0, 0)) := by rw [← hW6]; exact heap_alloc_new _ _
        have y1 : W6.cell? ⟨W.heap.size, 1, none⟩ = some (.slice ga Rk.groups.length gc) := hb_cell b56 x1
        have H6 := Lib.hid (And.intro b56 n6)
        rw [hW6]
        clear x1 x2 b56 n6 hW6
        go_region
        go_wp2_with (fail)
        go_ret3
        have hWw : W.heap.size ≤ W5.heap.size := HD.out.2.1.size
        refine ⟨W5.heap.size, .slice ga Rk.groups.length gc, (k + 1), Y5, rfl, HJ.out, (HD.out.1.on H6.out.1).on (Below.refl _ _).drew, ?_, ?_, hWw, fun f => by have := HD.out.1.drum.lt _ f; omega, ?_, fun j hj => ⟨(HD.out.2.2 j hj).1, (HD.out.2.2 j hj).2, ?_, ?_⟩⟩
        · exact (HD.out.2.1.trans (Touch.of_below (F := Only G) H6.out.1) (fun k hk => .inl hk)).drew
        · rw [HRUN.out]
          exact H6.out.2
        · rw [HRUN.out]
          exact HRI.out.told.keep (fun j hj => H6.out.1.block j (HRI.out.lt j hj))
        · have := HRI.out.lt j hj; omega
        · have := HRI.out.lt j hj; have := H6.out.1.size; show j < W6.heap.size; omega
    · obtain rfl : k = hi - lo := by omega
      have hrun : readsM gen newR (logOf M lo (hi - lo)) = Rk := by
        rw [HR.out.run, logOf_end M N lo (hi - lo) HR.out.d.drum.ok.nowLen (by have := HH.out.2.2.2.2.2.1; have := HH.out.2.2.2.2.1; omega), readsM]
      have HRUN := Lib.hid hrun
      have HD := Lib.hid (And.intro HR.out.d (And.intro HR.out.t HR.out.y))
      clear hrun
      have hr := HR.out.r
      obtain ⟨gv, bv, Vs, hri⟩ := hr
      obtain ⟨ga, gc, rfl, _⟩ := owns_form hri.groups
      have x1 : wr.cell? ⟨W.heap.size, 1, none⟩ = some (.slice ga Rk.groups.length gc) := by rw [cell_of_row _ _ _ _ _ _ hri.blk]; rfl
      have x2 : wr.cell? ⟨W.heap.size, 2, none⟩ = some (.int .i64 (Rk.used : Int)) := by rw [cell_of_row _ _ _ _ _ _ hri.blk]; rfl
      have HRI := Lib.hid hri
      clear hri
      go_wp2_with (fail)
      obtain ⟨W6, hW6⟩ : ∃ W6, wr.alloc (.cells #[.pointer (some ⟨G, 0, none⟩), .int .i64 (lo : Int), .int .i64 (hi : Int), .int .i64 (gen : Int), .int .i64 (Rk.groups.length : Int), .int .i64 (Rk.used : Int), .bool false] 118) = W6 := ⟨_, rfl⟩
      have b56 : Below wr.heap.size wr W6 := by rw [← hW6]; exact (Below.refl _ _).alloc (Nat.le_refl _) _
      have n6 : W6.heap[wr.heap.size]? = some (.cells (tapeV G lo hi gen Rk.groups.length Rk.used false) 118 (0, 0)) := by rw [← hW6]; exact heap_alloc_new _ _
      have y1 : W6.cell? ⟨W.heap.size, 1, none⟩ = some (.slice ga Rk.groups.length gc) := hb_cell b56 x1
      have H6 := Lib.hid (And.intro b56 n6)
      rw [hW6]
      clear x1 x2 b56 n6 hW6
      go_region
      go_wp2_with (fail)
      go_ret3
      have hWw : W.heap.size ≤ wr.heap.size := HD.out.2.1.size
      refine ⟨wr.heap.size, .slice ga Rk.groups.length gc, (hi - lo), Y, rfl, Nat.le_refl _, (HD.out.1.on H6.out.1).on (Below.refl _ _).drew, ?_, ?_, hWw, fun f => by have := HD.out.1.drum.lt _ f; omega, ?_, fun j hj => ⟨(HD.out.2.2 j hj).1, (HD.out.2.2 j hj).2, ?_, ?_⟩⟩
      · exact (HD.out.2.1.trans (Touch.of_below (F := Only G) H6.out.1) (fun k hk => .inl hk)).drew
      · rw [HRUN.out]
        exact H6.out.2
      · rw [HRUN.out]
        exact HRI.out.told.keep (fun j hj => H6.out.1.block j (HRI.out.lt j hj))
      · have := HRI.out.lt j hj; omega
      · have := HRI.out.lt j hj; have := H6.out.1.size; show j < W6.heap.size; omega
end Go.Proofs.Ytggchfmglaijgaa
