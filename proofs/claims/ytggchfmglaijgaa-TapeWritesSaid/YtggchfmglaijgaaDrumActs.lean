/- Proved here: a drum's calls, said of one that was made since a world: what is told, and what it is then. -/
import Derived.Test.YtggchfmglaijgaaDrumNew
import Derived.Test.YtggchfmglaijgaaDrumCrash
import Derived.Test.YtggchfmglaijgaaByteKit
import Derived.BigGuardPart
namespace Go.Proofs.Ytggchfmglaijgaa
open Go.RowKit

theorem cat_b {a b c : World} (h : Below a.heap.size a b) (k : Below b.heap.size b c) : Below a.heap.size a c := h.trans (k.mono h.size)
/-- A drum that was made since w. -/
structure DW (w W : World) (F : Nat → Prop) (G N : Nat) (M : DM) : Prop where
  drum : Drum W F G N M
  below : Below w.heap.size w W
  since : ∀ k, F k → w.heap.size ≤ k
theorem Drum.fG {W : World} {F : Nat → Prop} {G N : Nat} {M : DM} (h : Drum W F G N M) : F G := by
  obtain ⟨_, _, _, _, _, _, hd⟩ := h
  exact hd.fG
theorem Drum.lt {W : World} {F : Nat → Prop} {G N : Nat} {M : DM} (h : Drum W F G N M) : ∀ k, F k → k < W.heap.size := by
  obtain ⟨_, _, _, _, _, _, hd⟩ := h
  exact hd.lt
theorem Drum.ok {W : World} {F : Nat → Prop} {G N : Nat} {M : DM} (h : Drum W F G N M) : M.Ok N := by
  obtain ⟨_, _, _, _, _, _, hd⟩ := h
  exact hd.ok
theorem DW.on {w W W' : World} {F : Nat → Prop} {G N : Nat} {M : DM} (h : DW w W F G N M) (hb : Below W.heap.size W W') : DW w W' F G N M := ⟨h.drum.below hb, cat_b h.below hb, h.since⟩
theorem DW.alloc {w W : World} {F : Nat → Prop} {G N : Nat} {M : DM} (h : DW w W F G N M) (o : Obj) : DW w (W.alloc o) F G N M := h.on ((Below.refl _ _).alloc (Nat.le_refl _) o)
theorem DW.next {w W W' : World} {F F' : Nat → Prop} {G N : Nat} {M M' : DM} (h : DW w W F G N M) (hd : Drum W' F' G N M') (ht : Touch F W W') (hg : ∀ k, F' k → Grow F W W' k) : DW w W' F' G N M' :=
  ⟨hd, h.below.trans (ht.below h.since h.below.size), fun k hk => by
    rcases hg k hk with h1 | h1
    · exact h.since k h1
    · exact Nat.le_trans h.below.size h1.1⟩
theorem DW.same {w W W' : World} {F : Nat → Prop} {G N : Nat} {M M' : DM} (h : DW w W F G N M) (hd : Drum W' F G N M') (ht : Touch F W W') : DW w W' F G N M' := h.next hd ht (fun k hk => .inl hk)
theorem DW.only {w W W' : World} {F : Nat → Prop} {G N : Nat} {M M' : DM} (h : DW w W F G N M) (hd : Drum W' F G N M') (ht : Touch (Only G) W W') : DW w W' F G N M' := h.same hd (ht.mono (only_F h.drum.fG))
theorem DW.old {w W : World} {F : Nat → Prop} {G N : Nat} {M : DM} (h : DW w W F G N M) {k : Nat} (hk : k < w.heap.size) : ¬ F k := fun f => by have := h.since k f; omega
theorem DW.new {w W : World} {F : Nat → Prop} {G N : Nat} {M : DM} (h : DW w W F G N M) {k : Nat} (hk : W.heap.size ≤ k) : ¬ F k := fun f => by have := h.drum.lt k f; omega

/-- One byte is written. -/
theorem write1 {w W : World} {F : Nat → Prop} {G N : Nat} {M : DM} (h : DW w W F G N M) (hst : M.steps ≤ 4611686018427387904) (hfu : M.fuse.getD 0 ≤ 9223372036854775807) (hoff : M.off = false) (n : Nat) (hn : n < N) (x : UInt8) (T : TypeId) (fr : Nat × Nat) (hlo : (M.loose.length + 1) * 72 ≤ 140737488355328) :
    Calls Try.prog 42 #[.pointer (some ⟨G, 0, none⟩), .int .i64 (n : Int), .slice (some ⟨W.heap.size, 0, none⟩) 1 1] (W.alloc (.cells #[.int .u8 (x.toNat : Int)] T fr)) fun e W' => e = .returned (.int .i64 0) ∧ ∃ F', DW w W' F' G N (M.write n ⟨#[x]⟩) := by
  have ha := h.alloc (.cells #[.int .u8 (x.toNat : Int)] T fr)
  have hp : HoldsB (W.alloc (.cells #[.int .u8 (x.toNat : Int)] T fr)) (some ⟨W.heap.size, 0, none⟩) ⟨#[x]⟩ := fun _ => ⟨W.heap.size, 0, rfl, fun j hj => by
    have hj0 : j = 0 := by
      have : j < 1 := hj
      omega
    subst hj0
    rw [cell_of_row _ _ _ _ _ _ (heap_alloc_new W _)]
    rfl⟩
  refine (write_ok _ F G N M ha.drum hst hfu hoff n hn (some ⟨W.heap.size, 0, none⟩) ⟨#[x]⟩ 1 hp (by show 1 ≤ 64; decide) (fun a e => ?_) hlo).mono ?_
  · injection e with e
    rw [← e]
    exact h.new (Nat.le_refl _)
  · rintro e W' ⟨h1, F', h2, h3, h4⟩
    exact ⟨h1, F', ha.next h2 h3 h4⟩
theorem Owns.cell0 {w : World} {B g cap : Nat} {s : ByteArray} {x : UInt8} (h : Owns w B g cap s) (hs : 0 < s.size) (hx : s.get! 0 = x) : w.cell? ⟨g, 0, none⟩ = some (.int .u8 (x.toNat : Int)) := by
  obtain ⟨b, off, e, hc⟩ := h.holds hs
  have := hc 0 hs
  injection e with e
  injection e with e1 e2
  subst e1 e2
  rw [← hx]
  exact this
end Go.Proofs.Ytggchfmglaijgaa
namespace Go.Proofs.Ytggchfmglaijgaa
open Go.RowKit


set_option maxHeartbeats 1000000 in
theorem same_yes (p q : Option Addr) (s : ByteArray) (c d : Nat) (w : World) (hp : HoldsB w p s) (hq : HoldsB w q s) :
    Calls Try.prog 53 #[.slice p s.size c, .slice q s.size d] w fun e w' => e = .returned (.bool true) ∧ w = w' := by
  have h1 := conv_str hp c (holds_none hp)
  have h2 := conv_str hq d (holds_none hq)
  clear hp hq
  generalize hn : s.size = n at *
  clear hn
  go_enter Try.func53, Try.ntmps53
  go_wp2_with (fail)
  all_goals (go_ret; exact ⟨ret_bool (by simp), rfl⟩)

/-- It ends with a copy that has room behind it, in which 165 stands. -/
def SparedB (s : ByteArray) (w : World) (e : Ending) (w' : World) : Prop := ∃ g cap, e = .returned (.slice (some ⟨g, 0, none⟩) s.size cap) ∧ Owns w' w.heap.size g cap (s ++ ⟨#[165]⟩) ∧ Below w.heap.size w w'

set_option maxRecDepth 100000 in
set_option maxHeartbeats 2000000 in
theorem spare_any (p : Option Addr) (s : ByteArray) (c : Nat) (w : World) (hs : s.size ≤ 140737488355000) (hp : HoldsB w p s) (hnil : p = none → c = 0) :
    Calls Try.prog 32 #[.slice p s.size c] w (SparedB s w) := by
  obtain ⟨w1, hmk, ho0, hb0⟩ := make_own w (s.size + 3) (by omega)
  have hz : (⟨#[]⟩ : ByteArray).size = 0 := rfl
  obtain ⟨g1, k1, w2, hr1, ho1, hb1⟩ := append_next (t := s) ho0 hb0 (hp.below hb0) hnil (by rw [hz]; omega)
  rw [empty_append] at ho1
  simp only [hz, Nat.zero_add] at hr1
  obtain ⟨g2, k2, w3, hr2, ho2, hb2⟩ := append_one 165 ho1 hb1 (by omega)
  have hcap := ho2.2.2.2
  rw [size_push] at hcap
  have HO := Lib.hid ho2
  have HB := Lib.hid hb2
  have R1 := Lib.hid hr1
  have R2 := Lib.hid hr2
  have hmk' : (Instr.makeSlice 33 (.int .i64 0) (.int .i64 ((s.size : Int) + 3))).run Try.prog w = .ok (.slice (some ⟨w.heap.size, 0, none⟩) 0 (s.size + 3)) w1 := by
    rw [← hmk]; congr 2
  have hc1 : (s.size : Int) ≤ (k2 : Int) := by omega
  clear hmk ho0 hb0 hr1 ho1 hb1 hr2 ho2 hb2 hp hz
  go_enter Try.func32, Try.ntmps32
  go_wp2_with (first | (at_builtin; refine wpList_append_eq rfl (.tmp 6) (.tmp 7) 33 rfl _ _ _ _ rfl rfl R1.out ?_) | (at_builtin; refine wpList_append_eq rfl (.tmp 8) (.tmp 9) 33 rfl _ _ _ _ rfl rfl R2.out ?_))
  go_ret
  exact ⟨g2, k2, rfl, HO.out, HB.out⟩

theorem owns_front {w : World} {B g cap : Nat} {s t : ByteArray} (h : Owns w B g cap (s ++ t)) : HoldsB w (some ⟨g, 0, none⟩) s := fun h0 => by
  obtain ⟨b, off, e, hc⟩ := h.holds (by rw [ByteArray.size_append]; omega)
  cases e
  refine ⟨g, 0, rfl, fun j hj => ?_⟩
  rw [hc j (by rw [ByteArray.size_append]; omega), get!_left s t j hj]
theorem owns_behind {w : World} {B g cap : Nat} {s : ByteArray} (h : Owns w B g cap (s ++ ⟨#[165]⟩)) : w.cell? ⟨g, s.size, none⟩ = some (.int .u8 165) := by
  obtain ⟨b, off, e, hc⟩ := h.holds (by rw [size_push]; omega)
  cases e
  have h1 := hc s.size (by rw [size_push]; omega)
  rw [Nat.zero_add] at h1
  have h2 := get!_right s ⟨#[165]⟩ 0
  rw [Nat.add_zero] at h2
  rw [h1, h2]
  rfl

set_option maxRecDepth 100000 in
set_option maxHeartbeats 2000000 in
theorem kept_yes (B g cap : Nat) (q : Option Addr) (s : ByteArray) (d : Nat) (w : World) (hs : s.size ≤ 140737488355000) (ho : Owns w B g cap (s ++ ⟨#[165]⟩)) (hq : HoldsB w q s) :
    Calls Try.prog 34 #[.slice (some ⟨g, 0, none⟩) s.size cap, .slice q s.size d] w fun e w' => e = .returned (.bool true) ∧ w = w' := by
  have S := Lib.hid (same_yes (some ⟨g, 0, none⟩) q s cap d w (owns_front ho) hq)
  have hc := owns_behind ho
  have hcap := ho.2.2.2
  rw [size_push] at hcap
  have c1 : (s.size : Int) < (cap : Int) := by omega
  have c2 : (s.size : Int) + 1 ≤ (cap : Int) := by omega
  have c3 : (0 : Int) ≤ (s.size : Int) + 1 := by omega
  have c4 : (s.size : Int) < (s.size : Int) + 1 := by omega
  clear ho hq
  go_enter Try.func34, Try.ntmps34
  go_wp2_with (fail)
  refine S.out.mono ?_
  rintro e w1 ⟨rfl, rfl⟩
  go_wp2_with (fail)
  all_goals first | (exfalso; omega) | (go_ret; exact ⟨ret_bool (by simp), rfl⟩)
end Go.Proofs.Ytggchfmglaijgaa
namespace Go.Proofs.Ytggchfmglaijgaa
open Go.RowKit

def TwinPost (s : ByteArray) (w : World) (e : Ending) (w' : World) : Prop := ∃ g cap, e = .returned (.slice (some ⟨g, 0, none⟩) s.size cap) ∧ Owns w' w.heap.size g cap s ∧ Below w.heap.size w w'
set_option maxHeartbeats 1000000 in
theorem twin_any (p : Option Addr) (s : ByteArray) (c : Nat) (w : World) (hs : s.size ≤ 140737488355000) (hp : HoldsB w p s) (hnil : p = none → c = 0) :
    Calls Try.prog 19 #[.slice p s.size c] w (TwinPost s w) := by
  obtain ⟨g, k, w1, hr, ho, hb, _⟩ := append_first (c := c) hp hnil (by omega)
  have HR := Lib.hid hr
  have HO := Lib.hid (And.intro ho hb)
  clear hr ho hb hp
  go_enter Try.func19, Try.ntmps19
  go_wp2_with (at_builtin; refine wpList_append_eq rfl _ _ _ rfl _ _ _ _ rfl rfl HR.out ?_)
  go_ret
  exact ⟨g, k, rfl, HO.out.1, HO.out.2⟩
end Go.Proofs.Ytggchfmglaijgaa
namespace Go.Proofs.Ytggchfmglaijgaa
open Go.RowKit

/-- Small numbers. -/
structure Tame (M : DM) : Prop where
  steps : M.steps ≤ 4611686018427387904
  fuse : M.fuse.getD 0 ≤ 9223372036854775807
  loose : M.loose.length ≤ 1099511627776
theorem dread_ok {w W : World} {F : Nat → Prop} {G N : Nat} {M : DM} (h : DW w W F G N M) (ht : Tame M) (hoff : M.off = false) (n : Nat) (hn : n < N) :
    Calls Try.prog 41 #[.pointer (some ⟨G, 0, none⟩), .int .i64 (n : Int)] W fun e W' => ∃ g, e = .returned (.tuple #[.slice (some ⟨g, 0, none⟩) 64 64, .int .i64 0]) ∧ DW w W' F G N M.step ∧ Owns W' W.heap.size g 64 (M.now.getD n ⟨#[]⟩) ∧ (M.now.getD n ⟨#[]⟩).size = 64 ∧ ¬ F g ∧ Touch (Only G) W W' :=
  (read_ok W F G N M h.drum ht.steps ht.fuse hoff n hn).mono fun _ _ ⟨g, h1, h2, h3, h4, h5, h6⟩ => ⟨g, h1, h.only h4 h5, h2, h3, h6, h5⟩
theorem dread_off {w W : World} {F : Nat → Prop} {G N : Nat} {M : DM} (h : DW w W F G N M) (ht : Tame M) (hoff : M.off = true) (n : Nat) (hn : n < N) :
    Calls Try.prog 41 #[.pointer (some ⟨G, 0, none⟩), .int .i64 (n : Int)] W fun e W' => e = .returned (.tuple #[.slice none 0 0, .int .i64 9]) ∧ DW w W' F G N M.step ∧ Touch (Only G) W W' :=
  (read_off W F G N M h.drum ht.steps ht.fuse hoff n hn).mono fun _ _ ⟨h1, h4, h5⟩ => ⟨h1, h.only h4 h5, h5⟩
theorem dwrite_ok {w W : World} {F : Nat → Prop} {G N : Nat} {M : DM} (h : DW w W F G N M) (ht : Tame M) (hoff : M.off = false) (n : Nat) (hn : n < N) (g : Nat) (s : ByteArray) (cap : Nat) (hp : HoldsB W (some ⟨g, 0, none⟩) s) (hs : s.size ≤ 64) (hsep : ¬ F g) :
    Calls Try.prog 42 #[.pointer (some ⟨G, 0, none⟩), .int .i64 (n : Int), .slice (some ⟨g, 0, none⟩) s.size cap] W fun e W' => e = .returned (.int .i64 0) ∧ ∃ F', DW w W' F' G N (M.write n s) ∧ Touch F W W' ∧ ∀ k, F' k → Grow F W W' k :=
  (write_ok W F G N M h.drum ht.steps ht.fuse hoff n hn _ s cap hp hs (fun a e => by injection e with e; rw [← e]; exact hsep) (by have := ht.loose; omega)).mono fun _ _ ⟨h1, F', h2, h3, h4⟩ => ⟨h1, F', h.next h2 h3 h4, h3, h4⟩
theorem dwrite_off {w W : World} {F : Nat → Prop} {G N : Nat} {M : DM} (h : DW w W F G N M) (ht : Tame M) (hoff : M.off = true) (n : Nat) (hn : n < N) (p : Option Addr) (len cap : Nat) (hs : len ≤ 64) :
    Calls Try.prog 42 #[.pointer (some ⟨G, 0, none⟩), .int .i64 (n : Int), .slice p len cap] W fun e W' => e = .returned (.int .i64 9) ∧ DW w W' F G N M.step ∧ Touch (Only G) W W' :=
  (write_off W F G N M h.drum ht.steps ht.fuse hoff n hn p len cap hs).mono fun _ _ ⟨h1, h4, h5⟩ => ⟨h1, h.only h4 h5, h5⟩
theorem dflush_ok {w W : World} {F : Nat → Prop} {G N : Nat} {M : DM} (h : DW w W F G N M) (ht : Tame M) (hoff : M.off = false) :
    Calls Try.prog 38 #[.pointer (some ⟨G, 0, none⟩)] W fun e W' => e = .returned (.int .i64 0) ∧ DW w W' F G N M.flush ∧ Touch F W W' :=
  (flush_ok W F G N M h.drum ht.steps ht.fuse hoff (by have := ht.loose; omega)).mono fun _ _ ⟨h1, h4, h5⟩ => ⟨h1, h.same h4 h5, h5⟩
theorem dflush_off {w W : World} {F : Nat → Prop} {G N : Nat} {M : DM} (h : DW w W F G N M) (ht : Tame M) (hoff : M.off = true) :
    Calls Try.prog 38 #[.pointer (some ⟨G, 0, none⟩)] W fun e W' => e = .returned (.int .i64 9) ∧ DW w W' F G N M.flush ∧ Touch F W W' :=
  (flush_off W F G N M h.drum ht.steps ht.fuse hoff).mono fun _ _ ⟨h1, h4, h5⟩ => ⟨h1, h.same h4 h5, h5⟩
theorem dfuse {w W : World} {F : Nat → Prop} {G N : Nat} {M : DM} (h : DW w W F G N M) (k : Nat) :
    Calls Try.prog 36 #[.pointer (some ⟨G, 0, none⟩), .int .i64 (k : Int)] W fun e W' => e = .returned (.int .i64 0) ∧ DW w W' F G N (M.fused k) ∧ Touch (Only G) W W' :=
  (fuse_ok W F G N M h.drum k).mono fun _ _ ⟨h1, h2, h3, _⟩ => ⟨h1, h.only h2 h3, h3⟩
theorem dcrash {w W : World} {F : Nat → Prop} {G N : Nat} {M : DM} (h : DW w W F G N M) (ht : Tame M) (p : Option Addr) (keep : List Bool) (cap : Nat) (hk : HoldsT W p keep) (hkl : keep.length ≤ 4611686018427387904) (hsep : ∀ a, p = some a → ¬ F a.block) :
    Calls Try.prog 37 #[.pointer (some ⟨G, 0, none⟩), .slice p keep.length cap] W fun e W' => e = .returned (.int .i64 0) ∧ DW w W' F G N (M.crash keep) ∧ Touch F W W' :=
  (crash_any W F G N M h.drum (by have := ht.loose; omega) p keep cap hk hkl hsep).mono fun _ _ ⟨h1, h4, h5⟩ => ⟨h1, h.same h4 h5, h5⟩
theorem DM.step_steps (M : DM) (h : M.off = false) : M.step.steps = M.steps + 1 := by unfold DM.step; rw [h]; rfl
theorem DM.step_fuse (M : DM) (h : M.off = false) : M.step.fuse = M.fuse.map (· - 1) := by unfold DM.step; rw [h]; rfl
theorem DM.step_down (M : DM) (h : M.off = false) : M.step.down = M.down := by unfold DM.step; rw [h]; rfl
theorem DM.step_no (M : DM) (h : M.off = true) : M.step = { M with down := true } := by unfold DM.step; rw [h]; rfl
theorem DM.write_yes (M : DM) (h : M.off = false) (n : Nat) (s : ByteArray) : M.write n s = { M.step with loose := M.loose ++ [(n, fullB s)] } := by unfold DM.write; rw [h]; rfl
theorem DM.flush_yes (M : DM) (h : M.off = false) : M.flush = { M.step with safe := M.now, loose := [] } := by unfold DM.flush; rw [h]; rfl
theorem DM.flush_no (M : DM) (h : M.off = true) : M.flush = M.step := by unfold DM.flush; rw [h]; rfl
end Go.Proofs.Ytggchfmglaijgaa
