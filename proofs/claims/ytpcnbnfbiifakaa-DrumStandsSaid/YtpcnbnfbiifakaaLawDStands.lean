/- Proved here: the statement DrumStands, walked: it answers true of every input, in every world. -/
import Derived.Test.YtpcnbnfbiifakaaDStMay
import Derived.Deep.RegionHeld3
import Derived.Great.BuildSlice
import Derived.Deep.QuietTactic
import Derived.BigQuiet
namespace Go.Proofs.Ytpcnbnfbiifakaa
open Go.RowKit

theorem fill_cell (Z : Array Value) (v : Value) (hv : v.cells = #[v]) (hz : Z.size = 1) : Instr.fill (fun i => some (i * 1, 1)) Z [(0, v)] = some #[v] := by
  have e : Z.setIfInBounds 0 v = #[v] := by
    apply Array.ext
    · simp [hz]
    · intro i h1 h2
      have hi : i = 0 := by simp at h2; omega
      subst hi
      simp
  simp [Instr.fill, hv, hz, e]
theorem below_drewN {B : Nat} {a w : World} {n : Nat} (h : Below B a w) : Below B a (w.drewN n) := ⟨h.os, h.tape, h.output, h.size, h.block⟩
/-- A drum without a fuse, of few steps. -/
structure NF (M : DM) (b : Nat) : Prop where
  fuse : M.fuse = none
  down : M.down = false
  steps : M.steps ≤ b
  loose : M.loose.length ≤ b
theorem NF.off {M : DM} {b : Nat} (h : NF M b) : M.off = false := by unfold DM.off; rw [h.fuse, h.down]; rfl
theorem NF.tame {M : DM} {b : Nat} (h : NF M b) (hb : b ≤ 100000) : Tame M := ⟨by have := h.steps; omega, by rw [h.fuse]; exact Nat.zero_le _, by have := h.loose; omega⟩
theorem NF.mono {M : DM} {b c : Nat} (h : NF M b) (hb : b ≤ c) : NF M c := ⟨h.fuse, h.down, Nat.le_trans h.steps hb, Nat.le_trans h.loose hb⟩
theorem NF.step {M : DM} {b : Nat} (h : NF M b) : NF M.step (b + 1) :=
  ⟨by rw [M.step_fuse h.off, h.fuse]; rfl, by rw [M.step_down h.off]; exact h.down, by rw [M.step_steps h.off]; have := h.steps; omega, by rw [M.step_loose]; have := h.loose; omega⟩
theorem NF.write {M : DM} {b n : Nat} {s : ByteArray} (h : NF M b) : NF (M.write n s) (b + 1) := by
  rw [M.write_yes h.off]
  exact ⟨h.step.fuse, h.step.down, h.step.steps, by simp; exact h.loose⟩
theorem NF.flush {M : DM} {b : Nat} (h : NF M b) : NF M.flush (b + 1) := by
  rw [M.flush_yes h.off]
  exact ⟨h.step.fuse, h.step.down, h.step.steps, Nat.zero_le _⟩
theorem NF.crash {M : DM} {b : Nat} (h : NF M b) (keep : List Bool) : NF (M.crash keep) b := ⟨rfl, rfl, h.steps, Nat.zero_le _⟩
/-- What each sector may be. -/
def mayL (lo : List (Nat × ByteArray)) (i : Nat) : List ByteArray := (lo.filter (fun x => x.1 == i)).map (·.2)
theorem mayL_snoc (lo : List (Nat × ByteArray)) (n : Nat) (s : ByteArray) : mayL (lo ++ [(n, s)]) = addL (mayL lo) n s := by
  funext i
  unfold mayL addL
  rw [List.filter_append, List.map_append]
  by_cases h : i = n
  · subst h; rw [if_pos rfl]; simp
  · rw [if_neg h]; simp [show ¬ n = i from fun e => h e.symm]
theorem lay_may : ∀ (l : List (Nat × ByteArray)) (s : List ByteArray) (i : Nat), i < s.length → (layM s l).getD i ⟨#[]⟩ = s.getD i ⟨#[]⟩ ∨ ∃ x ∈ l, x.1 = i ∧ x.2 = (layM s l).getD i ⟨#[]⟩
  | [], _, _, _ => .inl rfl
  | x :: r, s, i, hi => by
    rcases lay_may r (s.set x.1 x.2) i (by rw [List.length_set]; exact hi) with h | ⟨y, hy, h1, h2⟩
    · by_cases e : x.1 = i
      · right
        refine ⟨x, by simp, e, ?_⟩
        rw [layM, h, ← e]
        simp [List.getD_eq_getElem?_getD, show x.1 < s.length by omega]
      · left
        rw [layM, h]
        simp [List.getD_eq_getElem?_getD, List.getElem?_set_ne e]
    · exact .inr ⟨y, by simp [hy], h1, h2⟩
/-- THE LAW's PLAIN SIDE. -/
theorem stands_plain (s : List ByteArray) (lo : List (Nat × ByteArray)) (keep : List Bool) (i : Nat) (hi : i < s.length) :
    (decide ((layM s (keptM keep lo)).getD i ⟨#[]⟩ = s.getD i ⟨#[]⟩) || (mayL lo i).any (fun x => decide ((layM s (keptM keep lo)).getD i ⟨#[]⟩ = x))) = true := by
  rcases lay_may (keptM keep lo) s i hi with h | ⟨x, hx, h1, h2⟩
  · rw [decide_eq_true h]; rfl
  · rw [Bool.or_eq_true]
    right
    rw [List.any_eq_true]
    refine ⟨x.2, ?_, by rw [decide_eq_true_eq]; exact h2.symm⟩
    unfold mayL
    exact List.mem_map.2 ⟨x, List.mem_filter.2 ⟨zip_mem hx, by rw [h1]; simp⟩, rfl⟩
/-- The sectors as they were. -/
def WasAt (W : World) (F : Nat → Prop) (B A : Nat) (L8 : List ByteArray) (k : Nat) : Prop := ∃ V : List Value, V.length = 8 ∧ W.heap[A]? = some (.cells V.toArray 43 (0, 0)) ∧ ¬ F A ∧ B ≤ A ∧ ∀ i (h : i < V.length), i < k → RowOut W F V[i] (L8.getD i ⟨#[]⟩)
theorem WasAt.touch {W W' : World} {F F' : Nat → Prop} {B A : Nat} {L8 : List ByteArray} {k : Nat} (h : WasAt W F B A L8 k) (ht : Touch F W W') (hg : ∀ k, F' k → Grow F W W' k) : WasAt W' F' B A L8 k := by
  obtain ⟨V, hl, hb, hf, hB, hr⟩ := h
  refine ⟨V, hl, (ht.block A (block_lt hb) hf).trans hb, fun hf' => ?_, hB, fun i hi hik => (hr i hi hik).touch ht hg⟩
  rcases hg A hf' with h1 | h1
  · exact hf h1
  · have := block_lt hb; omega
theorem WasAt.set {W : World} {F : Nat → Prop} {B A : Nat} {L8 : List ByteArray} {k : Nat} (h : WasAt W F B A L8 k) (hk : k < 8) {v : Value} (hv : RowOut W F v (L8.getD k ⟨#[]⟩)) : WasAt (W.setCell ⟨A, k, none⟩ v) F B A L8 (k + 1) := by
  obtain ⟨V, hl, hb, hf, hB, hr⟩ := h
  have hrow : ∀ {u : Value} {r : ByteArray}, RowOut W F u r → RowOut (W.setCell ⟨A, k, none⟩ v) F u r := fun hro => hro.keep fun b cur hf' hh => ⟨set_other b (fun e => by
    subst e
    exact absurd (obj_type hb hh) (by decide)), hf'⟩
  refine ⟨V.set k v, by rw [List.length_set, hl], ?_, hf, hB, fun i hi hik => ?_⟩
  · rw [u_row (k := k) v hb]; simp
  · by_cases e : i = k
    · subst e
      rw [List.getElem_set_self]
      exact hrow hv
    · rw [List.getElem_set_ne (fun e' => e e'.symm)]
      exact hrow (hr i (by rw [List.length_set] at hi; exact hi) (by omega))
theorem DW.poke {w W : World} {F : Nat → Prop} {G N : Nat} {M : DM} (h : DW w W F G N M) {A i : Nat} {v : Value} (hA : ¬ F A) (hB : w.heap.size ≤ A) : DW w (W.setCell ⟨A, i, none⟩ v) F G N M :=
  ⟨h.drum.kept (fun k hk => set_other k (fun e => hA (e ▸ hk))) (by rw [set_size]; exact Nat.le_refl _), h.below.setCell hB _, h.since⟩
def St1 (w : World) (G L : Nat) (v : Value) (wr : World) : Prop := ∃ j : Nat, v = .int .i64 (j : Int) ∧ j ≤ L ∧ Hid (∃ F M, DW w wr F G 8 M ∧ NF M (min j 200))
def St2 (w : World) (F : Nat → Prop) (G A : Nat) (L8 : List ByteArray) (v : Value) (wr : World) : Prop := ∃ j : Nat, v = .int .i64 (j : Int) ∧ j ≤ 8 ∧ Hid (∃ M, DW w wr F G 8 M ∧ NF M (200 + j) ∧ M.now = L8 ∧ WasAt wr F w.heap.size A L8 j)
def St3 (w : World) (G L A1 A2 : Nat) (L8 : List ByteArray) (v : Value) (wr : World) : Prop := ∃ j : Nat, v = .int .i64 (j : Int) ∧ j ≤ L ∧ Hid (∃ F M, DW w wr F G 8 M ∧ NF M (300 + 2 * min j 200) ∧ M.safe = L8 ∧ WasAt wr F w.heap.size A1 L8 8 ∧ ∃ V, MayAt wr F w.heap.size A2 47 V (mayL M.loose))
def St4 (w : World) (F : Nat → Prop) (G A1 A2 : Nat) (R L8 : List ByteArray) (V : List Value) (Ls : Nat → List ByteArray) (v : Value) (wr : World) : Prop := ∃ i : Nat, v = .int .i64 (i : Int) ∧ i ≤ 8 ∧ Hid (∃ M, DW w wr F G 8 M ∧ NF M (1000 + i) ∧ M.now = R ∧ WasAt wr F w.heap.size A1 L8 8 ∧ MayAt wr F w.heap.size A2 47 V Ls)
def okB (R Wi : ByteArray) (Ls : List ByteArray) (t : Nat) : Bool := decide (R = Wi) || (Ls.take t).any (fun x => decide (R = x))
set_option maxRecDepth 100000 in
set_option maxHeartbeats 64000000 in
theorem drumStands_walk (p r k : Option Addr) (c d ck : Nat) (l m : List OpM) (keep : List Bool) (w : World) (hl : l.length ≤ 140737488351232) (hm : m.length ≤ 140737488351232) (hk : keep.length ≤ 140737488351232) (hp : HoldsOps w p l) (hr : HoldsOps w r m) (hkp : HoldsT w k keep) (hkn : k = none → ck = 0) :
    Calls Try.prog 4 #[.slice p l.length c, .slice r m.length d, .slice k keep.length ck] w fun e w' => e = .returned (.bool true) ∧ Below w.heap.size w w' := by
  have AW := Lib.hid (awake13_any w)
  have HP := Lib.hid hp
  have HQ := Lib.hid hr
  have HK := Lib.hid (And.intro hkp (And.intro hkn hk))
  obtain ⟨L, hL⟩ : ∃ L, l.length = L := ⟨_, rfl⟩
  have HL := Lib.hid hL
  obtain ⟨L2, hL2⟩ : ∃ L, m.length = L := ⟨_, rfl⟩
  have HL2 := Lib.hid hL2
  obtain ⟨kl, hkl⟩ : ∃ L, keep.length = L := ⟨_, rfl⟩
  have HKL := Lib.hid hkl
  rw [hL] at hl ⊢
  rw [hL2] at hm ⊢
  rw [hkl] at hk ⊢
  have hl' : (L : Int) ≤ 140737488351232 := by omega
  have hm' : (L2 : Int) ≤ 140737488351232 := by omega
  clear hp hr hkp hkn hL hL2 hkl
  go_enter Try.func4, Try.ntmps4
  go_wp2_with (fail)
  refine (AW.out).mono ?_
  rintro e w1 ⟨rfl, hb1⟩
  have B1 := Lib.hid hb1
  clear hb1 AW
  go_wp2_with (fail)
  refine (new_ok 8 (by decide) (by decide) _).mono ?_
  rintro e w2 ⟨G, F, rfl, hd, hb, hF⟩
  have D2 := Lib.hid (DW.mk hd (cat_b B1.out hb) (fun k hk => Nat.le_trans B1.out.size (hF k hk)))
  clear hd hb hF B1
  go_wp2_with (fail)
  go_loopw [38] (fun v wr => St1 w G L v wr) (fun v _ => L - (intOf v).toNat)
  case atStart => exact ⟨0, rfl, Nat.zero_le _, Lib.hid ⟨F, newM 8, D2.out, ⟨rfl, rfl, Nat.zero_le _, Nat.zero_le _⟩⟩⟩
  case round =>
    obtain ⟨j, rfl, hj, HR⟩ := hrel
    obtain ⟨F', M, hD, hI⟩ := HR.out
    have HI := Lib.hid hI
    have HD := Lib.hid hD
    clear hD hI HR
    by_cases hlt : j < L
    · obtain ⟨b, off, rfl, hc⟩ := (HP.out.below HD.out.below) (by rw [HL.out]; omega)
      obtain ⟨pa, pc, ka, kc, c0, c1, c2, c3, hB, hpn, hps, _, _, _, hkb, hnb⟩ := hc j (by rw [HL.out]; exact hlt)
      obtain ⟨x, hx⟩ : ∃ x, l[j]'(by rw [HL.out]; exact hlt) = x := ⟨_, rfl⟩
      rw [hx] at c0 c1 c2 c3 hB hps hkb hnb
      obtain ⟨kind, hkd⟩ : ∃ kind, x.kind = kind := ⟨_, rfl⟩
      obtain ⟨y, hy⟩ : ∃ y, x.n = y := ⟨_, rfl⟩
      obtain ⟨s, hs⟩ : ∃ s, x.p = s := ⟨_, rfl⟩
      obtain ⟨kl2, hkl⟩ : ∃ kl2, x.keep.length = kl2 := ⟨_, rfl⟩
      rw [hkd] at c0 hkb
      rw [hy] at c1 hnb
      rw [hs] at c2 hB hps
      rw [hkl] at c3
      have HB := Lib.hid (And.intro hB (And.intro hpn hps))
      have hlt' : (j : Int) < (L : Int) := by omega
      clear hc hx hkd hy hs hkl hB hpn hps
      by_cases hk1 : kind = 1
      · subst hk1
        by_cases h200 : j < 200
        · have h200' : (j : Int) < 200 := by omega
          by_cases hn : 0 ≤ y ∧ y < 8
          · obtain ⟨n1, rfl⟩ : ∃ n1 : Nat, y = (n1 : Int) := ⟨y.toNat, by omega⟩
            have hn8 : n1 < 8 := by omega
            by_cases hs64 : s.size ≤ 64
            · go_wp2_with (fail)
              obtain ⟨W1, hW1⟩ : ∃ W1, wr.alloc (.cells #[.int .i64 1, .int .i64 ((n1 : Nat) : Int), .slice pa s.size pc, .slice ka kl2 kc] 37) = W1 := ⟨_, rfl⟩
              rw [hW1]
              have d1 : W1.cell? ⟨wr.heap.size, 1, none⟩ = some (.int .i64 ((n1 : Nat) : Int)) := by rw [← hW1, cell_of_row _ _ _ _ _ _ (heap_alloc_new wr _)]; rfl
              have d2 : W1.cell? ⟨wr.heap.size, 2, none⟩ = some (.slice pa s.size pc) := by rw [← hW1, cell_of_row _ _ _ _ _ _ (heap_alloc_new wr _)]; rfl
              have hb1 : Below wr.heap.size wr W1 := by rw [← hW1]; exact (Below.refl _ _).alloc (Nat.le_refl _) _
              have hH : wr.heap.size < W1.heap.size := by rw [← hW1]; simp
              obtain ⟨o37, ho37⟩ : ∃ c37, W1.heap[wr.heap.size]? = some (.cells c37 37 (0, 0)) := ⟨_, by rw [← hW1]; exact heap_alloc_new _ _⟩
              have HO37 := Lib.hid ho37
              clear ho37
              have D1 := Lib.hid ((HD.out.on hb1).on ((Below.refl _ _).drew))
              have HB1 := Lib.hid (show HoldsB W1.drew pa s from (HB.out.1.below hb1).below ((Below.refl _ _).drew))
              have hHF : ¬ F' wr.heap.size := HD.out.new (Nat.le_refl _)
              have KB := Lib.hid (fun (a b : World) (hs : a.cell? ⟨wr.heap.size, 1, none⟩ = some (.int .i64 ((n1 : Nat) : Int)) ∧ a.cell? ⟨wr.heap.size, 2, none⟩ = some (.slice pa s.size pc)) (h : Below a.heap.size a b) => show b.cell? ⟨wr.heap.size, 1, none⟩ = some (.int .i64 ((n1 : Nat) : Int)) ∧ b.cell? ⟨wr.heap.size, 2, none⟩ = some (.slice pa s.size pc) from ⟨hb_cell h hs.1, hb_cell h hs.2⟩)
              have KT := Lib.hid (fun (a b : World) (hs : a.cell? ⟨wr.heap.size, 1, none⟩ = some (.int .i64 ((n1 : Nat) : Int)) ∧ a.cell? ⟨wr.heap.size, 2, none⟩ = some (.slice pa s.size pc)) (h : Touch F' a b) => show b.cell? ⟨wr.heap.size, 1, none⟩ = some (.int .i64 ((n1 : Nat) : Int)) ∧ b.cell? ⟨wr.heap.size, 2, none⟩ = some (.slice pa s.size pc) from ⟨(World.cell?_of_block (w := a) (h.block wr.heap.size (World.block_lt_of_cell? a _ hs.1) hHF)).trans hs.1, (World.cell?_of_block (w := a) (h.block wr.heap.size (World.block_lt_of_cell? a _ hs.1) hHF)).trans hs.2⟩)
              have HPN := Lib.hid HB.out.2
              clear hHF hW1
              go_region_held3 (fun w' => w'.cell? ⟨wr.heap.size, 1, none⟩ = some (.int .i64 ((n1 : Nat) : Int)) ∧ w'.cell? ⟨wr.heap.size, 2, none⟩ = some (.slice pa s.size pc)) (first | assumption | exact KB.out _ _ (by assumption) hbT | exact KT.out _ _ (by assumption) hTt | go_keep) (first | (go_at_call 20; refine (twin_any pa s pc _ (by have := HPN.out.2; omega) HB1.out HPN.out.1).mono ?_; rintro e w5 ⟨g, cap, rfl, ho, hbT⟩) | (go_at_call 19; refine (dwrite_ok (D1.out.on hbT) (HI.out.tame (by omega)) HI.out.off n1 hn8 g s cap ho.holds hs64 (D1.out.new ho.2.1)).mono ?_; rintro e w6 ⟨rfl, F2, hN, hTt, hGg⟩))
              have HN := Lib.hid hN
              clear hN hTt hGg hbT ho
              go_wp2_with (fail)
              go_round
              case rel => exact ⟨j + 1, by go_num, by omega, Lib.hid ⟨_, _, HN.out, HI.out.write.mono (by omega)⟩⟩
              case measure => simp [intOf]; omega
            · have hs64 : 64 < s.size := by omega
              go_wp2_with (fail)
              obtain ⟨W1, hW1⟩ : ∃ W1, wr.alloc (.cells #[.int .i64 1, .int .i64 ((n1 : Nat) : Int), .slice pa s.size pc, .slice ka kl2 kc] 37) = W1 := ⟨_, rfl⟩
              rw [hW1]
              have d1 : W1.cell? ⟨wr.heap.size, 1, none⟩ = some (.int .i64 ((n1 : Nat) : Int)) := by rw [← hW1, cell_of_row _ _ _ _ _ _ (heap_alloc_new wr _)]; rfl
              have d2 : W1.cell? ⟨wr.heap.size, 2, none⟩ = some (.slice pa s.size pc) := by rw [← hW1, cell_of_row _ _ _ _ _ _ (heap_alloc_new wr _)]; rfl
              have hb1 : Below wr.heap.size wr W1 := by rw [← hW1]; exact (Below.refl _ _).alloc (Nat.le_refl _) _
              have hH : wr.heap.size < W1.heap.size := by rw [← hW1]; simp
              obtain ⟨o37, ho37⟩ : ∃ c37, W1.heap[wr.heap.size]? = some (.cells c37 37 (0, 0)) := ⟨_, by rw [← hW1]; exact heap_alloc_new _ _⟩
              have HO37 := Lib.hid ho37
              clear ho37
              have D1 := Lib.hid ((HD.out.on hb1).on ((Below.refl _ _).drew))
              have HB1 := Lib.hid (show HoldsB W1.drew pa s from (HB.out.1.below hb1).below ((Below.refl _ _).drew))
              have hHF : ¬ F' wr.heap.size := HD.out.new (Nat.le_refl _)
              have KB := Lib.hid (fun (a b : World) (hs : a.cell? ⟨wr.heap.size, 1, none⟩ = some (.int .i64 ((n1 : Nat) : Int)) ∧ a.cell? ⟨wr.heap.size, 2, none⟩ = some (.slice pa s.size pc)) (h : Below a.heap.size a b) => show b.cell? ⟨wr.heap.size, 1, none⟩ = some (.int .i64 ((n1 : Nat) : Int)) ∧ b.cell? ⟨wr.heap.size, 2, none⟩ = some (.slice pa s.size pc) from ⟨hb_cell h hs.1, hb_cell h hs.2⟩)
              have KT := Lib.hid (fun (a b : World) (hs : a.cell? ⟨wr.heap.size, 1, none⟩ = some (.int .i64 ((n1 : Nat) : Int)) ∧ a.cell? ⟨wr.heap.size, 2, none⟩ = some (.slice pa s.size pc)) (h : Touch F' a b) => show b.cell? ⟨wr.heap.size, 1, none⟩ = some (.int .i64 ((n1 : Nat) : Int)) ∧ b.cell? ⟨wr.heap.size, 2, none⟩ = some (.slice pa s.size pc) from ⟨(World.cell?_of_block (w := a) (h.block wr.heap.size (World.block_lt_of_cell? a _ hs.1) hHF)).trans hs.1, (World.cell?_of_block (w := a) (h.block wr.heap.size (World.block_lt_of_cell? a _ hs.1) hHF)).trans hs.2⟩)
              have HPN := Lib.hid HB.out.2
              clear hHF hW1
              go_region_held3 (fun w' => w'.cell? ⟨wr.heap.size, 1, none⟩ = some (.int .i64 ((n1 : Nat) : Int)) ∧ w'.cell? ⟨wr.heap.size, 2, none⟩ = some (.slice pa s.size pc)) (first | assumption | exact KB.out _ _ (by assumption) hbT | fail | go_keep) (first | (go_at_call 20; refine (twin_any pa s pc _ (by have := HPN.out.2; omega) HB1.out HPN.out.1).mono ?_; rintro e w5 ⟨g, cap, rfl, ho, hbT⟩) | (go_at_call 19; refine (write_long _ F' G 8 M ((D1.out.on hbT).drum) n1 hn8 _ _ _ hs64).mono ?_; rintro e w6 ⟨rfl, rfl⟩))
              have HN := Lib.hid (D1.out.on hbT)
              clear hbT ho
              go_wp2_with (fail)
              go_round
              case rel => exact ⟨j + 1, by go_num, by omega, Lib.hid ⟨_, _, HN.out, HI.out.mono (by omega)⟩⟩
              case measure => simp [intOf]; omega
          · go_wp2_with (fail)
            obtain ⟨W1, hW1⟩ : ∃ W1, wr.alloc (.cells #[.int .i64 1, .int .i64 y, .slice pa s.size pc, .slice ka kl2 kc] 37) = W1 := ⟨_, rfl⟩
            rw [hW1]
            have d1 : W1.cell? ⟨wr.heap.size, 1, none⟩ = some (.int .i64 y) := by rw [← hW1, cell_of_row _ _ _ _ _ _ (heap_alloc_new wr _)]; rfl
            have d2 : W1.cell? ⟨wr.heap.size, 2, none⟩ = some (.slice pa s.size pc) := by rw [← hW1, cell_of_row _ _ _ _ _ _ (heap_alloc_new wr _)]; rfl
            have hb1 : Below wr.heap.size wr W1 := by rw [← hW1]; exact (Below.refl _ _).alloc (Nat.le_refl _) _
            have hH : wr.heap.size < W1.heap.size := by rw [← hW1]; simp
            obtain ⟨o37, ho37⟩ : ∃ c37, W1.heap[wr.heap.size]? = some (.cells c37 37 (0, 0)) := ⟨_, by rw [← hW1]; exact heap_alloc_new _ _⟩
            have HO37 := Lib.hid ho37
            clear ho37
            have D1 := Lib.hid ((HD.out.on hb1).on ((Below.refl _ _).drew))
            have HB1 := Lib.hid (show HoldsB W1.drew pa s from (HB.out.1.below hb1).below ((Below.refl _ _).drew))
            have hHF : ¬ F' wr.heap.size := HD.out.new (Nat.le_refl _)
            have KB := Lib.hid (fun (a b : World) (hs : a.cell? ⟨wr.heap.size, 1, none⟩ = some (.int .i64 y) ∧ a.cell? ⟨wr.heap.size, 2, none⟩ = some (.slice pa s.size pc)) (h : Below a.heap.size a b) => show b.cell? ⟨wr.heap.size, 1, none⟩ = some (.int .i64 y) ∧ b.cell? ⟨wr.heap.size, 2, none⟩ = some (.slice pa s.size pc) from ⟨hb_cell h hs.1, hb_cell h hs.2⟩)
            have KT := Lib.hid (fun (a b : World) (hs : a.cell? ⟨wr.heap.size, 1, none⟩ = some (.int .i64 y) ∧ a.cell? ⟨wr.heap.size, 2, none⟩ = some (.slice pa s.size pc)) (h : Touch F' a b) => show b.cell? ⟨wr.heap.size, 1, none⟩ = some (.int .i64 y) ∧ b.cell? ⟨wr.heap.size, 2, none⟩ = some (.slice pa s.size pc) from ⟨(World.cell?_of_block (w := a) (h.block wr.heap.size (World.block_lt_of_cell? a _ hs.1) hHF)).trans hs.1, (World.cell?_of_block (w := a) (h.block wr.heap.size (World.block_lt_of_cell? a _ hs.1) hHF)).trans hs.2⟩)
            have HPN := Lib.hid HB.out.2
            clear hHF hW1
            go_region_held3 (fun w' => w'.cell? ⟨wr.heap.size, 1, none⟩ = some (.int .i64 y) ∧ w'.cell? ⟨wr.heap.size, 2, none⟩ = some (.slice pa s.size pc)) (first | assumption | exact KB.out _ _ (by assumption) hbT | fail | go_keep) (first | (go_at_call 20; refine (twin_any pa s pc _ (by have := HPN.out.2; omega) HB1.out HPN.out.1).mono ?_; rintro e w5 ⟨g, cap, rfl, ho, hbT⟩) | (go_at_call 19; refine (write_arg _ F' G 8 M ((D1.out.on hbT).drum) y (by omega) _ _ _).mono ?_; rintro e w6 ⟨rfl, rfl⟩))
            have HN := Lib.hid (D1.out.on hbT)
            clear hbT ho
            go_wp2_with (fail)
            go_round
            case rel => exact ⟨j + 1, by go_num, by omega, Lib.hid ⟨_, _, HN.out, HI.out.mono (by omega)⟩⟩
            case measure => simp [intOf]; omega
        · have h200' : ¬ (j : Int) < 200 := by omega
          go_wp2_with (fail)
          go_round
          case rel => exact ⟨j + 1, by go_num, by omega, Lib.hid ⟨_, _, HD.out.alloc _, HI.out.mono (by omega)⟩⟩
          case measure => simp [intOf]; omega
      · have k1 : (kind == 1) = false := by rw [beq_eq_false_iff_ne]; exact hk1
        go_wp2_with (fail)
        go_round
        case rel => exact ⟨j + 1, by go_num, by omega, Lib.hid ⟨_, _, HD.out.alloc _, HI.out.mono (by omega)⟩⟩
        case measure => simp [intOf]; omega
    · obtain rfl : j = L := by omega
      have HN := Lib.hid (HI.out.mono (show min j 200 ≤ 200 by omega))
      clear HI
      obtain ⟨Wa, hWa⟩ : ∃ Wa, wr = Wa := ⟨_, rfl⟩
      rw [hWa] at HD ⊢
      obtain ⟨L8, hL8⟩ : ∃ L8, M.now = L8 := ⟨_, rfl⟩
      have H8 := Lib.hid hL8
      clear hWa hL8
      have HW0 : Hid (WasAt (Wa.alloc (.cells (List.replicate 8 (Value.slice none 0 0)).toArray 43)) F' w.heap.size Wa.heap.size L8 0) := Lib.hid ⟨List.replicate 8 (Value.slice none 0 0), rfl, heap_alloc_new _ _, HD.out.new (Nat.le_refl _), HD.out.below.size, fun i _ h => absurd h (Nat.not_lt_zero i)⟩
      go_wp2_with (fail)
      go_loopw [58] (fun v wr => St2 w F' G Wa.heap.size L8 v wr) (fun v _ => 8 - (intOf v).toNat)
      case atStart => exact ⟨0, rfl, by decide, Lib.hid ⟨M, HD.out.alloc _, HN.out, H8.out, HW0.out⟩⟩
      case round =>
        obtain ⟨i, rfl, hi, HR⟩ := hrel
        obtain ⟨M1, hD, hI, hnow, hwas⟩ := HR.out
        have HI := Lib.hid hI
        have HD1 := Lib.hid hD
        have HE := Lib.hid (And.intro hnow hwas)
        clear hD hI HR hnow hwas
        by_cases hi8 : i < 8
        · have hi8' : (i : Int) < 8 := by omega
          have hi0 : (0 : Int) ≤ (i : Int) := by omega
          have HH8 := Lib.hid hi8
          go_wp2_with (fail)
          refine (dread_ok HD1.out (HI.out.tame (by omega)) HI.out.off i hi8).mono ?_
          rintro e w3 ⟨g, rfl, hN, ho, hs, hg, ht⟩
          have hwas := HE.out.2.touch (ht.mono (only_F HD1.out.drum.fG)) (fun k hk => .inl hk)
          have hro := RowOut.of_owns ho hs hg
          rw [HE.out.1] at hro
          have hset := hwas.set HH8.out hro
          obtain ⟨V, hVl, hVb, hVf, hVB, _⟩ := hwas
          obtain ⟨u, c1⟩ : ∃ u, w3.cell? ⟨Wa.heap.size, i, none⟩ = some u := ⟨V[i]'(by omega), by
            rw [cell_of_row _ _ _ _ _ _ hVb, List.getElem?_toArray, List.getElem?_eq_getElem]⟩
          have f1 : w3.frozen? ⟨Wa.heap.size, i, none⟩ = false := frozen_of_row _ _ _ _ _ hVb
          have HN2 := Lib.hid (And.intro (hN.poke (i := i) (v := .slice (some ⟨g, 0, none⟩) 64 64) hVf hVB) hset)
          clear hN ho hs hg ht hro hset hVl hVb hVf hVB
          go_wp2_with (fail)
          go_round
          case rel => exact ⟨i + 1, by go_num, by have := HH8.out; omega, Lib.hid ⟨M1.step, HN2.out.1, HI.out.step.mono (by omega), (by rw [M1.step_now]; exact HE.out.1), HN2.out.2⟩⟩
          case measure => have := HH8.out; simp [intOf]; omega
        · obtain rfl : i = 8 := by omega
          have LZ := Lib.hid (fun W (h : DW w W F' G 8 M1.flush) => (loose_any W F' G 8 M1.flush h.drum).mono (fun e W' hh => (show e = .returned (.int .i64 0) ∧ W = W' from ⟨by rw [hh.1, M1.flush_yes HI.out.off]; rfl, hh.2⟩)))
          go_wp2_with (fail)
          refine (dflush_ok HD1.out (HI.out.tame (by omega)) HI.out.off).mono ?_
          rintro e w3 ⟨rfl, hN, ht⟩
          have HN3 := Lib.hid (And.intro hN (And.intro HI.out.flush (HE.out.2.touch ht (fun k hk => .inl hk))))
          clear hN ht
          go_wp2_with (refine (LZ.out _ HN3.out.1).mono ?_; rintro e w' ⟨rfl, rfl⟩)
          have hM2 : M1.flush.safe = L8 ∧ M1.flush.loose = [] := by rw [M1.flush_yes HI.out.off]; exact ⟨HE.out.1, rfl⟩
          have HY0 : Hid (∃ V, MayAt (w3.alloc (.cells (List.replicate 8 (Value.slice none 0 0)).toArray 47)) F' w.heap.size w3.heap.size 47 V (mayL M1.flush.loose)) := Lib.hid ⟨_, by rw [hM2.2]; exact may_new (heap_alloc_new _ _) (HN3.out.1.new (Nat.le_refl _)) HN3.out.1.below.size⟩
          have HS2 := Lib.hid hM2.1
          have HL8 : Hid (L8.length = 8) := Lib.hid (by rw [← hM2.1]; exact HN3.out.1.drum.ok.len)
          clear hM2
          go_loopw [80] (fun v wr => St3 w G L2 Wa.heap.size w3.heap.size L8 v wr) (fun v _ => L2 - (intOf v).toNat)
          case atStart => exact ⟨0, rfl, Nat.zero_le _, Lib.hid ⟨F', M1.flush, HN3.out.1.alloc _, HN3.out.2.1.mono (by omega), HS2.out, HN3.out.2.2.touch (Touch.of_below ((Below.refl _ _).alloc (Nat.le_refl _) _)) (fun k hk => .inl hk), HY0.out⟩⟩
          case round =>
            obtain ⟨A2, hA2⟩ : ∃ A2, w3.heap.size = A2 := ⟨_, rfl⟩
            obtain ⟨A1, hA1⟩ : ∃ A1, Wa.heap.size = A1 := ⟨_, rfl⟩
            rw [hA2] at hrel ⊢
            rw [hA1] at hrel ⊢
            clear HN3 HY0 HS2 HW0 HN HD1 HE LZ HI H8 hA1 hA2
            obtain ⟨j, rfl, hj, HR⟩ := hrel
            obtain ⟨F', M, hD, hI, hsf, hwas, V, hmay⟩ := HR.out
            have HI := Lib.hid hI
            have HD := Lib.hid hD
            have HE := Lib.hid (And.intro hsf (And.intro hwas hmay))
            clear hD hI HR hsf hwas hmay
            by_cases hlt : j < L2
            · obtain ⟨b, off, rfl, hc⟩ := (HQ.out.below HD.out.below) (by rw [HL2.out]; omega)
              obtain ⟨pa, pc, ka, kc, c0, c1, c2, c3, hB, hpn, hps, _, _, _, hkb, hnb⟩ := hc j (by rw [HL2.out]; exact hlt)
              obtain ⟨x, hx⟩ : ∃ x, m[j]'(by rw [HL2.out]; exact hlt) = x := ⟨_, rfl⟩
              rw [hx] at c0 c1 c2 c3 hB hps hkb hnb
              obtain ⟨kind, hkd⟩ : ∃ kind, x.kind = kind := ⟨_, rfl⟩
              obtain ⟨y, hy⟩ : ∃ y, x.n = y := ⟨_, rfl⟩
              obtain ⟨s, hs⟩ : ∃ s, x.p = s := ⟨_, rfl⟩
              obtain ⟨kl2, hkl⟩ : ∃ kl2, x.keep.length = kl2 := ⟨_, rfl⟩
              rw [hkd] at c0 hkb
              rw [hy] at c1 hnb
              rw [hs] at c2 hB hps
              rw [hkl] at c3
              have HB := Lib.hid (And.intro hB (And.intro hpn hps))
              have hlt' : (j : Int) < (L2 : Int) := by omega
              clear hc hx hkd hy hs hkl hB hpn hps
              by_cases h200 : j < 200
              · have h200' : (j : Int) < 200 := by omega
                by_cases hn : 0 ≤ y ∧ y < 8
                · obtain ⟨n1, rfl⟩ : ∃ n1 : Nat, y = (n1 : Int) := ⟨y.toNat, by omega⟩
                  have hn8 : n1 < 8 := by omega
                  by_cases hs64 : s.size ≤ 64
                  · go_wp2_with (fail)
                    obtain ⟨W1, hW1⟩ : ∃ W1, wr.alloc (.cells #[.int .i64 kind, .int .i64 ((n1 : Nat) : Int), .slice pa s.size pc, .slice ka kl2 kc] 37) = W1 := ⟨_, rfl⟩
                    rw [hW1]
                    have d1 : W1.cell? ⟨wr.heap.size, 1, none⟩ = some (.int .i64 ((n1 : Nat) : Int)) := by rw [← hW1, cell_of_row _ _ _ _ _ _ (heap_alloc_new wr _)]; rfl
                    have d2 : W1.cell? ⟨wr.heap.size, 2, none⟩ = some (.slice pa s.size pc) := by rw [← hW1, cell_of_row _ _ _ _ _ _ (heap_alloc_new wr _)]; rfl
                    have hb1 : Below wr.heap.size wr W1 := by rw [← hW1]; exact (Below.refl _ _).alloc (Nat.le_refl _) _
                    have hH : wr.heap.size < W1.heap.size := by rw [← hW1]; simp
                    obtain ⟨o37, ho37⟩ : ∃ c37, W1.heap[wr.heap.size]? = some (.cells c37 37 (0, 0)) := ⟨_, by rw [← hW1]; exact heap_alloc_new _ _⟩
                    have HO37 := Lib.hid ho37
                    clear ho37
                    have D1 := Lib.hid ((HD.out.on hb1).on ((Below.refl _ _).drew))
                    have HB1 := Lib.hid (show HoldsB W1.drew pa s from (HB.out.1.below hb1).below ((Below.refl _ _).drew))
                    have hHF : ¬ F' wr.heap.size := HD.out.new (Nat.le_refl _)
                    have KB := Lib.hid (fun (a b : World) (hs : a.cell? ⟨wr.heap.size, 1, none⟩ = some (.int .i64 ((n1 : Nat) : Int)) ∧ a.cell? ⟨wr.heap.size, 2, none⟩ = some (.slice pa s.size pc)) (h : Below a.heap.size a b) => show b.cell? ⟨wr.heap.size, 1, none⟩ = some (.int .i64 ((n1 : Nat) : Int)) ∧ b.cell? ⟨wr.heap.size, 2, none⟩ = some (.slice pa s.size pc) from ⟨hb_cell h hs.1, hb_cell h hs.2⟩)
                    have KT := Lib.hid (fun (a b : World) (hs : a.cell? ⟨wr.heap.size, 1, none⟩ = some (.int .i64 ((n1 : Nat) : Int)) ∧ a.cell? ⟨wr.heap.size, 2, none⟩ = some (.slice pa s.size pc)) (h : Touch F' a b) => show b.cell? ⟨wr.heap.size, 1, none⟩ = some (.int .i64 ((n1 : Nat) : Int)) ∧ b.cell? ⟨wr.heap.size, 2, none⟩ = some (.slice pa s.size pc) from ⟨(World.cell?_of_block (w := a) (h.block wr.heap.size (World.block_lt_of_cell? a _ hs.1) hHF)).trans hs.1, (World.cell?_of_block (w := a) (h.block wr.heap.size (World.block_lt_of_cell? a _ hs.1) hHF)).trans hs.2⟩)
                    have HPN := Lib.hid HB.out.2
                    clear hHF hW1
                    go_region_held3 (fun w' => w'.cell? ⟨wr.heap.size, 1, none⟩ = some (.int .i64 ((n1 : Nat) : Int)) ∧ w'.cell? ⟨wr.heap.size, 2, none⟩ = some (.slice pa s.size pc)) (first | assumption | exact KB.out _ _ (by assumption) hbT | exact KT.out _ _ (by assumption) hTt | go_keep) (first | (go_at_call 20; refine (twin_any pa s pc _ (by have := HPN.out.2; omega) HB1.out HPN.out.1).mono ?_; rintro e w5 ⟨g, cap, rfl, ho, hbT⟩) | (go_at_call 19; refine (dwrite_ok (D1.out.on hbT) (HI.out.tame (by omega)) HI.out.off n1 hn8 g s cap ho.holds hs64 (D1.out.new ho.2.1)).mono ?_; rintro e w6 ⟨rfl, F2, hN, hTt, hGg⟩))
                    have HN6 := Lib.hid hN
                    have hd6 := (KT.out _ _ (KB.out W1.drew w5 ⟨d1, d2⟩ hbT) hTt).1
                    have hwas6 := (HE.out.2.1.touch (Touch.of_below (cat_b hb1 (cat_b ((Below.refl _ _).drew) hbT))) (fun k hk => .inl hk)).touch hTt hGg
                    have hmay6 := (HE.out.2.2.below (cat_b hb1 (cat_b ((Below.refl _ _).drew) hbT)) HD.out.drum.lt).touch hTt hGg
                    have hHF2 : ¬ F2 wr.heap.size := fun hf => by
                      rcases hGg _ hf with h1 | h1
                      · exact HD.out.new (Nat.le_refl _) h1
                      · have := hbT.size
                        have e1 : W1.drew.heap.size = W1.heap.size := rfl
                        omega
                    have HI2 := Lib.hid (HI.out.write (n := n1) (s := s))
                    have HE6 := Lib.hid (And.intro hwas6 (And.intro hmay6 hHF2))
                    have hb6 : w6.heap[wr.heap.size]? = some (.cells o37 37 (0, 0)) := (hTt.block wr.heap.size (by have := hbT.size; have e1 : W1.drew.heap.size = W1.heap.size := rfl; omega) (HD.out.new (Nat.le_refl _))).trans ((hbT.block wr.heap.size hH).trans HO37.out)
                    have HB6 := Lib.hid hb6
                    clear hb6 hN hTt hGg hbT ho hwas6 hmay6 hHF2 d1 d2 hb1
                    go_wp2_with (fail)
                    refine (dread_ok HN6.out (HI2.out.tame (by omega)) HI2.out.off n1 hn8).mono ?_
                    rintro e w7 ⟨g7, rfl, hN7, ho7, hs7, hg7, ht7⟩
                    have hF2G := HN6.out.drum.fG
                    have hd7 : w7.cell? ⟨wr.heap.size, 1, none⟩ = some (.int .i64 ((n1 : Nat) : Int)) := (World.cell?_of_block (w := w6) (ht7.block wr.heap.size (World.block_lt_of_cell? w6 _ hd6) (fun e' => HE6.out.2.2 (by have e2 : wr.heap.size = G := e'; rw [e2]; exact hF2G)))).trans hd6
                    have hfull : (M.write n1 s).now.getD n1 ⟨#[]⟩ = fullB s := by
                      rw [M.write_yes HI.out.off]
                      show (layM M.step.safe (M.loose ++ [(n1, fullB s)])).getD n1 ⟨#[]⟩ = _
                      rw [DM.step_safe, layM_snoc, List.getD_eq_getElem?_getD, List.getElem?_set_self (by rw [layM_length, HD.out.drum.ok.len]; exact hn8)]
                      rfl
                    have hro7 := RowOut.of_owns ho7 hs7 hg7
                    rw [hfull] at hro7
                    have hmay7 := HE6.out.2.1.touch (ht7.mono (only_F hF2G)) (fun k hk => .inl hk)
                    have hwas7 := HE6.out.1.touch (ht7.mono (only_F hF2G)) (fun k hk => .inl hk)
                    have hlen7 : (mayL M.loose n1).length ≤ 700 := by
                      unfold mayL; rw [List.length_map]
                      exact Nat.le_trans (List.length_filter_le _ _) (by have := HI.out.loose; omega)
                    obtain ⟨q, Lq, cq, e5, hLq, g8, cap8, w8, hrun, h8A, h8z, h8t, h8b, ⟨V8, hmay8⟩, h8F, h8B, h8f⟩ := hmay7.more (by decide) (by decide) hn8 hro7 hN7.below.size hN7.drum.lt (by omega)
                    have hA2s := block_lt hmay7.blk
                    obtain ⟨iR, hiR, hzR, hsR, _⟩ := info_parts infoRow
                    have HIR := Lib.hid (And.intro hiR (And.intro hzR hsR))
                    clear hiR hzR hsR
                    have hb7 := hmay7.blk
                    have HRN := Lib.hid hrun
                    have e5' : (w7.alloc (.cells #[.slice (some ⟨g7, 0, none⟩) 64 64] 34)).cell? ⟨A2, n1, none⟩ = some (.slice q Lq cq) := by rw [World.cell?_alloc_past _ _ _ hA2s]; exact e5
                    obtain ⟨u8, e8⟩ : ∃ u, w8.cell? ⟨A2, n1, none⟩ = some u := ⟨.slice q Lq cq, by rw [World.cell?_of_block (w := w7) h8A]; exact e5⟩
                    have f8 : w8.frozen? ⟨A2, n1, none⟩ = false := frozen_of_row _ _ _ _ _ (h8A.trans hb7)
                    have hmy : mayL (M.write n1 s).loose = addL (mayL M.loose) n1 (fullB s) := by
                      rw [M.write_yes HI.out.off]
                      exact mayL_snoc _ _ _
                    have hsf2 : (M.write n1 s).safe = L8 := by rw [M.write_yes HI.out.off]; exact (DM.step_safe M).trans HE.out.1
                    have hb7H : w7.heap[wr.heap.size]? = some (.cells o37 37 (0, 0)) := (ht7.block wr.heap.size (block_lt HB6.out) (fun e' => HE6.out.2.2 (by have e2 : wr.heap.size = G := e'; rw [e2]; exact hF2G))).trans HB6.out
                    have hHA2 : wr.heap.size ≠ A2 := fun e' => by
                      rw [e'] at hb7H
                      exact absurd (obj_type hb7H hb7) (by decide)
                    have hd8 : w8.cell? ⟨wr.heap.size, 1, none⟩ = some (.int .i64 ((n1 : Nat) : Int)) := (World.cell?_of_block (w := w7) (h8t wr.heap.size _ _ (by decide) hb7H)).trans hd7
                    have hwas8 : WasAt (w8.setCell ⟨A2, n1, none⟩ (.slice (some ⟨g8, 0, none⟩) (Lq + 1) cap8)) F2 w.heap.size A1 L8 8 := by
                      obtain ⟨Vw, w1', w2', w3', w4', w5'⟩ := hwas7
                      have ne : A1 ≠ A2 := fun e' => by
                        rw [e'] at w2'
                        exact absurd (obj_type w2' hb7) (by decide)
                      refine ⟨Vw, w1', (h8f A1 _ _ ne (by decide) w2').trans w2', w3', w4', fun i hi hik => (w5' i hi hik).keep fun b cur hf hh => ⟨h8f b cur _ (fun e' => ?_) (by decide) hh, hf⟩⟩
                      rw [e'] at hh
                      exact absurd (obj_type hh hb7) (by decide)
                    have hdw8 : DW w (w8.setCell ⟨A2, n1, none⟩ (.slice (some ⟨g8, 0, none⟩) (Lq + 1) cap8)) F2 G 8 (M.write n1 s).step := ⟨hN7.drum.kept (fun k hk => h8F k hk (hN7.drum.lt k hk)) h8B.size, hN7.below.trans h8B, hN7.since⟩
                    have hmay9 : MayAt (w8.setCell ⟨A2, n1, none⟩ (.slice (some ⟨g8, 0, none⟩) (Lq + 1) cap8)) F2 w.heap.size A2 47 V8 (mayL (M.write n1 s).step.loose) := by rw [DM.step_loose, hmy]; exact hmay8
                    have HFIN := Lib.hid (And.intro hdw8 (And.intro HI2.out.step (And.intro ((DM.step_safe _).trans hsf2) (And.intro hwas8 hmay9))))
                    have hfl : Instr.fill (fun i => some (i * 1, 1)) ((Array.range (1 * 1)).map (fun x => (Value.slice none 0 0).cells[x % (Value.slice none 0 0).cells.size]!)) [(0, Value.slice (some ⟨g7, 0, none⟩) 64 64)] = some #[Value.slice (some ⟨g7, 0, none⟩) 64 64] := fill_cell _ _ rfl (by simp)
                    have HFL := Lib.hid hfl
                    clear hfl hmay9
                    have hHd : Hid (∀ (a : World), a.cell? ⟨wr.heap.size, 1, none⟩ = some (.int .i64 ((n1 : Nat) : Int)) → (a.alloc (.cells #[.slice (some ⟨g7, 0, none⟩) 64 64] 34)).cell? ⟨wr.heap.size, 1, none⟩ = some (.int .i64 ((n1 : Nat) : Int))) := Lib.hid (fun a ha => by rw [World.cell?_alloc_past _ _ _ (World.block_lt_of_cell? a _ ha)]; exact ha)
                    have hH2 : wr.heap.size ≠ (⟨A2, n1, none⟩ : Addr).block := hHA2
                    have HH2 := Lib.hid hH2
                    clear hwas7 hmay7 hmay8 h8A h8z h8t h8b h8F h8B h8f hb7 hb7H hHA2 hwas8 hdw8 hsf2 hmy hrun hro7 hfull ho7 hs7 hg7 ht7 hN7 hlen7 hLq hA2s hF2G hH2
                    go_wp2_with (fail)
                    refine wp_region_held_drew (S := fun W => W.cell? ⟨wr.heap.size, 1, none⟩ = some (.int .i64 ((n1 : Nat) : Int))) (by kernel_rfl) hd7 (fun hHeld => ?_)
                    refine wpAnyH_take (i := 0) (oi := _) (v := ?va0) rfl (by kernel_rfl) (by kernel_rfl) (by kernel_rfl) (fun _ _ _ h => h) (Or.inl ⟨by rfl, ?hya0⟩) (by assumption) ?resta0
                    case hya0 =>
                      intro w hSw
                      go_simp
                      try (with_reducible rfl)
                    try simp only [Act.put, List.getElem_toArray, List.getElem_cons_zero, List.getElem_cons_succ, List.setIfInBounds_toArray, List.set_cons_zero, List.set_cons_succ]
                    refine wpAnyH_take (i := 1) (oi := _) (v := ?va1) rfl (by kernel_rfl) (by kernel_rfl) (by kernel_rfl) (fun _ _ _ h => h) (Or.inl ⟨by rfl, ?hya1⟩) (by assumption) ?resta1
                    case hya1 =>
                      intro w hSw
                      go_simp
                      try (with_reducible rfl)
                    try simp only [Act.put, List.getElem_toArray, List.getElem_cons_zero, List.getElem_cons_succ, List.setIfInBounds_toArray, List.set_cons_zero, List.set_cons_succ]
                    refine wpAnyH_take (i := 2) (oi := _) (v := ?va2) rfl (by kernel_rfl) (by kernel_rfl) (by kernel_rfl) (fun _ _ _ h => h) (Or.inl ⟨by rfl, ?hya2⟩) (by assumption) ?resta2
                    case hya2 =>
                      intro w hSw
                      go_simp
                      try (with_reducible rfl)
                    try simp only [Act.put, List.getElem_toArray, List.getElem_cons_zero, List.getElem_cons_succ, List.setIfInBounds_toArray, List.set_cons_zero, List.set_cons_succ]
                    refine wpAnyH_take (i := 3) (oi := _) (v := ?va3) rfl (by kernel_rfl) (by kernel_rfl) (by kernel_rfl) (fun _ _ _ h => h) (Or.inl ⟨by rfl, ?hya3⟩) (by assumption) ?resta3
                    case hya3 =>
                      intro w hSw
                      go_simp
                      try (with_reducible rfl)
                    try simp only [Act.put, List.getElem_toArray, List.getElem_cons_zero, List.getElem_cons_succ, List.setIfInBounds_toArray, List.set_cons_zero, List.set_cons_succ]
                    refine wpAnyH_take (i := 4) (oi := _) (v := ?va4) rfl (by kernel_rfl) (by kernel_rfl) (by kernel_rfl) (fun _ _ _ h => h) (Or.inl ⟨by rfl, ?hya4⟩) (by assumption) ?resta4
                    case hya4 =>
                      intro w hSw
                      go_simp
                      try (with_reducible rfl)
                    try simp only [Act.put, List.getElem_toArray, List.getElem_cons_zero, List.getElem_cons_succ, List.setIfInBounds_toArray, List.set_cons_zero, List.set_cons_succ]
                    refine wpAnyH_take (i := 6) (oi := _) (v := ?va6) rfl (by kernel_rfl) (by kernel_rfl) (by kernel_rfl) (fun _ _ _ h => h) (Or.inl ⟨by rfl, ?hya6⟩) (by assumption) ?resta6
                    case hya6 =>
                      intro w hSw
                      go_simp
                      try (with_reducible rfl)
                    try simp only [Act.put, List.getElem_toArray, List.getElem_cons_zero, List.getElem_cons_succ, List.setIfInBounds_toArray, List.set_cons_zero, List.set_cons_succ]
                    refine wpAnyH_ready (rs := [5, 7]) (by kernel_rfl) (by simp) ?_
                    refine AllReadyH.cons (o := _) rfl (fun K hK => ?_) (AllReadyH.cons (o := _) rfl (fun K hK => ?_) AllReadyH.nil)
                    · go_simp
                      refine hK.out _ _ hHeld (fun _ => ?_)
                      clear hK K
                      try simp only [Act.put, List.getElem_toArray, List.getElem_cons_zero, List.getElem_cons_succ, List.setIfInBounds_toArray, List.set_cons_zero, List.set_cons_succ]
                      refine wpAnyH_ready (rs := [7]) (by kernel_rfl) (by simp) ?_
                      refine AllReadyH.cons (o := _) rfl (fun K hK => ?_) AllReadyH.nil
                      refine step_of rfl (wp_buildSlice 29 34 1 #[(0, .tmp 122)] rfl #[.slice (some ⟨g7, 0, none⟩) 64 64] iR (.slice none 0 0) Try.underlying29 HIR.out.1 HIR.out.2.1 (by rw [HIR.out.2.2]; decide) (by rw [HIR.out.2.2]; decide) (by rw [Array.toList_map, HIR.out.2.2]; exact HFL.out) ?_)
                      refine hK.out _ _ (hHd.out _ hHeld) (fun _ => ?_)
                      clear hK K
                      try simp only [Act.put, List.getElem_toArray, List.getElem_cons_zero, List.getElem_cons_succ, List.setIfInBounds_toArray, List.set_cons_zero, List.set_cons_succ]
                      refine wpAnyH_ready (rs := [8]) (by kernel_rfl) (by simp) ?_
                      refine AllReadyH.cons (o := _) rfl (fun K hK => ?_) AllReadyH.nil
                      refine step_of rfl (wp_append_eq (.tmp 121) (.tmp 123) 29 rfl (.slice q Lq cq) (.slice (some ⟨w7.heap.size, 0, none⟩) 1 1) (.slice (some ⟨g8, 0, none⟩) (Lq + 1) cap8) w8 (by rfl) (by rfl) HRN.out ?_)
                      refine hK.out _ _ hd8 (fun _ => ?_)
                      clear hK K
                      try simp only [Act.put, List.getElem_toArray, List.getElem_cons_zero, List.getElem_cons_succ, List.setIfInBounds_toArray, List.set_cons_zero, List.set_cons_succ]
                      refine wpAnyH_take (i := 9) (oi := _) (v := ?vb9) rfl (by kernel_rfl) (by kernel_rfl) (by kernel_rfl) (fun _ _ _ h => h) (Or.inl ⟨by rfl, ?hyb9⟩) (by assumption) ?restb9
                      case hyb9 =>
                        intro w hSw
                        go_simp
                        try (with_reducible rfl)
                      try simp only [Act.put, List.getElem_toArray, List.getElem_cons_zero, List.getElem_cons_succ, List.setIfInBounds_toArray, List.set_cons_zero, List.set_cons_succ]
                      refine wpAnyH_ready (rs := [10]) (by kernel_rfl) (by simp) ?_
                      refine AllReadyH.cons (o := _) rfl (fun K hK => ?_) AllReadyH.nil
                      go_simp
                      refine hK.out _ _ ((World.cell?_of_block (w := w8) (set_other _ HH2.out)).trans hd8) (fun _ => ?_)
                      clear hK K
                      refine wpAnyH_done (by kernel_rfl) ?_ _
                      go_wp2_with (fail)
                      go_round
                      case rel => exact ⟨j + 1, by go_num, by omega, Lib.hid ⟨_, _, HFIN.out.1, HFIN.out.2.1.mono (by omega), HFIN.out.2.2.1, HFIN.out.2.2.2.1, _, HFIN.out.2.2.2.2⟩⟩
                      case measure => simp [intOf]; omega
                    · refine step_of rfl (wp_buildSlice 29 34 1 #[(0, .tmp 122)] rfl #[.slice (some ⟨g7, 0, none⟩) 64 64] iR (.slice none 0 0) Try.underlying29 HIR.out.1 HIR.out.2.1 (by rw [HIR.out.2.2]; decide) (by rw [HIR.out.2.2]; decide) (by rw [Array.toList_map, HIR.out.2.2]; exact HFL.out) ?_)
                      refine hK.out _ _ (hHd.out _ hHeld) (fun _ => ?_)
                      clear hK K
                      try simp only [Act.put, List.getElem_toArray, List.getElem_cons_zero, List.getElem_cons_succ, List.setIfInBounds_toArray, List.set_cons_zero, List.set_cons_succ]
                      refine wpAnyH_ready (rs := [5]) (by kernel_rfl) (by simp) ?_
                      refine AllReadyH.cons (o := _) rfl (fun K hK => ?_) AllReadyH.nil
                      go_simp
                      refine hK.out _ _ (hHd.out _ hHeld) (fun _ => ?_)
                      clear hK K
                      try simp only [Act.put, List.getElem_toArray, List.getElem_cons_zero, List.getElem_cons_succ, List.setIfInBounds_toArray, List.set_cons_zero, List.set_cons_succ]
                      refine wpAnyH_ready (rs := [8]) (by kernel_rfl) (by simp) ?_
                      refine AllReadyH.cons (o := _) rfl (fun K hK => ?_) AllReadyH.nil
                      refine step_of rfl (wp_append_eq (.tmp 121) (.tmp 123) 29 rfl (.slice q Lq cq) (.slice (some ⟨w7.heap.size, 0, none⟩) 1 1) (.slice (some ⟨g8, 0, none⟩) (Lq + 1) cap8) w8 (by rfl) (by rfl) HRN.out ?_)
                      refine hK.out _ _ hd8 (fun _ => ?_)
                      clear hK K
                      try simp only [Act.put, List.getElem_toArray, List.getElem_cons_zero, List.getElem_cons_succ, List.setIfInBounds_toArray, List.set_cons_zero, List.set_cons_succ]
                      refine wpAnyH_take (i := 9) (oi := _) (v := ?vc9) rfl (by kernel_rfl) (by kernel_rfl) (by kernel_rfl) (fun _ _ _ h => h) (Or.inl ⟨by rfl, ?hyc9⟩) (by assumption) ?restc9
                      case hyc9 =>
                        intro w hSw
                        go_simp
                        try (with_reducible rfl)
                      try simp only [Act.put, List.getElem_toArray, List.getElem_cons_zero, List.getElem_cons_succ, List.setIfInBounds_toArray, List.set_cons_zero, List.set_cons_succ]
                      refine wpAnyH_ready (rs := [10]) (by kernel_rfl) (by simp) ?_
                      refine AllReadyH.cons (o := _) rfl (fun K hK => ?_) AllReadyH.nil
                      go_simp
                      refine hK.out _ _ ((World.cell?_of_block (w := w8) (set_other _ HH2.out)).trans hd8) (fun _ => ?_)
                      clear hK K
                      refine wpAnyH_done (by kernel_rfl) ?_ _
                      go_wp2_with (fail)
                      go_round
                      case rel => exact ⟨j + 1, by go_num, by omega, Lib.hid ⟨_, _, HFIN.out.1, HFIN.out.2.1.mono (by omega), HFIN.out.2.2.1, HFIN.out.2.2.2.1, _, HFIN.out.2.2.2.2⟩⟩
                      case measure => simp [intOf]; omega
                  · have hs64 : 64 < s.size := by omega
                    go_wp2_with (fail)
                    obtain ⟨W1, hW1⟩ : ∃ W1, wr.alloc (.cells #[.int .i64 kind, .int .i64 ((n1 : Nat) : Int), .slice pa s.size pc, .slice ka kl2 kc] 37) = W1 := ⟨_, rfl⟩
                    rw [hW1]
                    have d1 : W1.cell? ⟨wr.heap.size, 1, none⟩ = some (.int .i64 ((n1 : Nat) : Int)) := by rw [← hW1, cell_of_row _ _ _ _ _ _ (heap_alloc_new wr _)]; rfl
                    have d2 : W1.cell? ⟨wr.heap.size, 2, none⟩ = some (.slice pa s.size pc) := by rw [← hW1, cell_of_row _ _ _ _ _ _ (heap_alloc_new wr _)]; rfl
                    have hb1 : Below wr.heap.size wr W1 := by rw [← hW1]; exact (Below.refl _ _).alloc (Nat.le_refl _) _
                    have hH : wr.heap.size < W1.heap.size := by rw [← hW1]; simp
                    obtain ⟨o37, ho37⟩ : ∃ c37, W1.heap[wr.heap.size]? = some (.cells c37 37 (0, 0)) := ⟨_, by rw [← hW1]; exact heap_alloc_new _ _⟩
                    have HO37 := Lib.hid ho37
                    clear ho37
                    have D1 := Lib.hid ((HD.out.on hb1).on ((Below.refl _ _).drew))
                    have HB1 := Lib.hid (show HoldsB W1.drew pa s from (HB.out.1.below hb1).below ((Below.refl _ _).drew))
                    have hHF : ¬ F' wr.heap.size := HD.out.new (Nat.le_refl _)
                    have KB := Lib.hid (fun (a b : World) (hs : a.cell? ⟨wr.heap.size, 1, none⟩ = some (.int .i64 ((n1 : Nat) : Int)) ∧ a.cell? ⟨wr.heap.size, 2, none⟩ = some (.slice pa s.size pc)) (h : Below a.heap.size a b) => show b.cell? ⟨wr.heap.size, 1, none⟩ = some (.int .i64 ((n1 : Nat) : Int)) ∧ b.cell? ⟨wr.heap.size, 2, none⟩ = some (.slice pa s.size pc) from ⟨hb_cell h hs.1, hb_cell h hs.2⟩)
                    have KT := Lib.hid (fun (a b : World) (hs : a.cell? ⟨wr.heap.size, 1, none⟩ = some (.int .i64 ((n1 : Nat) : Int)) ∧ a.cell? ⟨wr.heap.size, 2, none⟩ = some (.slice pa s.size pc)) (h : Touch F' a b) => show b.cell? ⟨wr.heap.size, 1, none⟩ = some (.int .i64 ((n1 : Nat) : Int)) ∧ b.cell? ⟨wr.heap.size, 2, none⟩ = some (.slice pa s.size pc) from ⟨(World.cell?_of_block (w := a) (h.block wr.heap.size (World.block_lt_of_cell? a _ hs.1) hHF)).trans hs.1, (World.cell?_of_block (w := a) (h.block wr.heap.size (World.block_lt_of_cell? a _ hs.1) hHF)).trans hs.2⟩)
                    have HPN := Lib.hid HB.out.2
                    clear hHF hW1
                    go_region_held3 (fun w' => w'.cell? ⟨wr.heap.size, 1, none⟩ = some (.int .i64 ((n1 : Nat) : Int)) ∧ w'.cell? ⟨wr.heap.size, 2, none⟩ = some (.slice pa s.size pc)) (first | assumption | exact KB.out _ _ (by assumption) hbT | fail | go_keep) (first | (go_at_call 20; refine (twin_any pa s pc _ (by have := HPN.out.2; omega) HB1.out HPN.out.1).mono ?_; rintro e w5 ⟨g, cap, rfl, ho, hbT⟩) | (go_at_call 19; refine (write_long _ F' G 8 M ((D1.out.on hbT).drum) n1 hn8 _ _ _ hs64).mono ?_; rintro e w6 ⟨rfl, rfl⟩))
                    have HN := Lib.hid (D1.out.on hbT)
                    have HT3 := Lib.hid (cat_b hb1 (cat_b ((Below.refl _ _).drew) hbT))
                    clear hbT ho
                    go_wp2_with (fail)
                    go_round
                    case rel => exact ⟨j + 1, by go_num, by omega, Lib.hid ⟨_, _, HN.out, HI.out.mono (by omega), HE.out.1, HE.out.2.1.touch (Touch.of_below HT3.out) (fun k hk => .inl hk), V, HE.out.2.2.below HT3.out HD.out.drum.lt⟩⟩
                    case measure => simp [intOf]; omega
                · go_wp2_with (fail)
                  obtain ⟨W1, hW1⟩ : ∃ W1, wr.alloc (.cells #[.int .i64 kind, .int .i64 y, .slice pa s.size pc, .slice ka kl2 kc] 37) = W1 := ⟨_, rfl⟩
                  rw [hW1]
                  have d1 : W1.cell? ⟨wr.heap.size, 1, none⟩ = some (.int .i64 y) := by rw [← hW1, cell_of_row _ _ _ _ _ _ (heap_alloc_new wr _)]; rfl
                  have d2 : W1.cell? ⟨wr.heap.size, 2, none⟩ = some (.slice pa s.size pc) := by rw [← hW1, cell_of_row _ _ _ _ _ _ (heap_alloc_new wr _)]; rfl
                  have hb1 : Below wr.heap.size wr W1 := by rw [← hW1]; exact (Below.refl _ _).alloc (Nat.le_refl _) _
                  have hH : wr.heap.size < W1.heap.size := by rw [← hW1]; simp
                  obtain ⟨o37, ho37⟩ : ∃ c37, W1.heap[wr.heap.size]? = some (.cells c37 37 (0, 0)) := ⟨_, by rw [← hW1]; exact heap_alloc_new _ _⟩
                  have HO37 := Lib.hid ho37
                  clear ho37
                  have D1 := Lib.hid ((HD.out.on hb1).on ((Below.refl _ _).drew))
                  have HB1 := Lib.hid (show HoldsB W1.drew pa s from (HB.out.1.below hb1).below ((Below.refl _ _).drew))
                  have hHF : ¬ F' wr.heap.size := HD.out.new (Nat.le_refl _)
                  have KB := Lib.hid (fun (a b : World) (hs : a.cell? ⟨wr.heap.size, 1, none⟩ = some (.int .i64 y) ∧ a.cell? ⟨wr.heap.size, 2, none⟩ = some (.slice pa s.size pc)) (h : Below a.heap.size a b) => show b.cell? ⟨wr.heap.size, 1, none⟩ = some (.int .i64 y) ∧ b.cell? ⟨wr.heap.size, 2, none⟩ = some (.slice pa s.size pc) from ⟨hb_cell h hs.1, hb_cell h hs.2⟩)
                  have KT := Lib.hid (fun (a b : World) (hs : a.cell? ⟨wr.heap.size, 1, none⟩ = some (.int .i64 y) ∧ a.cell? ⟨wr.heap.size, 2, none⟩ = some (.slice pa s.size pc)) (h : Touch F' a b) => show b.cell? ⟨wr.heap.size, 1, none⟩ = some (.int .i64 y) ∧ b.cell? ⟨wr.heap.size, 2, none⟩ = some (.slice pa s.size pc) from ⟨(World.cell?_of_block (w := a) (h.block wr.heap.size (World.block_lt_of_cell? a _ hs.1) hHF)).trans hs.1, (World.cell?_of_block (w := a) (h.block wr.heap.size (World.block_lt_of_cell? a _ hs.1) hHF)).trans hs.2⟩)
                  have HPN := Lib.hid HB.out.2
                  clear hHF hW1
                  go_region_held3 (fun w' => w'.cell? ⟨wr.heap.size, 1, none⟩ = some (.int .i64 y) ∧ w'.cell? ⟨wr.heap.size, 2, none⟩ = some (.slice pa s.size pc)) (first | assumption | exact KB.out _ _ (by assumption) hbT | fail | go_keep) (first | (go_at_call 20; refine (twin_any pa s pc _ (by have := HPN.out.2; omega) HB1.out HPN.out.1).mono ?_; rintro e w5 ⟨g, cap, rfl, ho, hbT⟩) | (go_at_call 19; refine (write_arg _ F' G 8 M ((D1.out.on hbT).drum) y (by omega) _ _ _).mono ?_; rintro e w6 ⟨rfl, rfl⟩))
                  have HN := Lib.hid (D1.out.on hbT)
                  have HT3 := Lib.hid (cat_b hb1 (cat_b ((Below.refl _ _).drew) hbT))
                  clear hbT ho
                  go_wp2_with (fail)
                  go_round
                  case rel => exact ⟨j + 1, by go_num, by omega, Lib.hid ⟨_, _, HN.out, HI.out.mono (by omega), HE.out.1, HE.out.2.1.touch (Touch.of_below HT3.out) (fun k hk => .inl hk), V, HE.out.2.2.below HT3.out HD.out.drum.lt⟩⟩
                  case measure => simp [intOf]; omega
              · have h200' : ¬ (j : Int) < 200 := by omega
                have h200b : decide ((j : Int) < 200) = false := by rw [decide_eq_false_iff_not]; exact h200'
                go_wp2_with (fail)
                go_quiet (fail)
                go_wp2_with (fail)
                go_round
                case rel => exact ⟨j + 1, by go_num, by omega, Lib.hid ⟨_, _, HD.out.on (below_drewN ((Below.refl _ _).alloc (Nat.le_refl _) _)), HI.out.mono (by omega), HE.out.1, HE.out.2.1.touch (Touch.of_below (below_drewN ((Below.refl _ _).alloc (Nat.le_refl _) _))) (fun k hk => .inl hk), V, HE.out.2.2.below (below_drewN ((Below.refl _ _).alloc (Nat.le_refl _) _)) HD.out.drum.lt⟩⟩
                case measure => simp [intOf]; omega
            · obtain rfl : j = L2 := by omega
              obtain ⟨g5, cap5, w5, hr5, hT5, hg5, hb5⟩ := appendT_first (w := wr) (HK.out.1.below HD.out.below) HK.out.2.1 (by have := HK.out.2.2; omega)
              have CR := dcrash (HD.out.on hb5) (HI.out.tame (by omega)) (some ⟨g5, 0, none⟩) keep cap5 hT5 (by rw [HKL.out]; omega) (fun a e => by injection e with e; rw [← e]; exact HD.out.new hg5)
              rw [HKL.out] at hr5 CR
              have HR5 := Lib.hid hr5
              have HC5 := Lib.hid CR
              have HB5 := Lib.hid hb5
              clear hr5 hT5 hg5 hb5 CR
              go_wp2_with (at_builtin; refine wpList_append_eq rfl _ _ _ rfl _ _ _ _ rfl rfl HR5.out ?_)
              refine (HC5.out).mono ?_
              rintro e w6 ⟨rfl, hN6, ht6⟩
              have HN6 := Lib.hid (And.intro hN6 (And.intro (HI.out.crash keep) (And.intro ((HE.out.2.1.touch (Touch.of_below HB5.out) (fun k hk => .inl hk)).touch ht6 (fun k hk => .inl hk)) ((HE.out.2.2.below HB5.out HD.out.drum.lt).touch ht6 (fun k hk => .inl hk)))))
              obtain ⟨lo, hlo⟩ : ∃ lo, M.loose = lo := ⟨_, rfl⟩
              have HR8 : Hid ((M.crash keep).now = layM L8 (keptM keep lo)) := Lib.hid (by rw [DM.crash_now, HE.out.1, hlo])
              rw [hlo] at HN6
              have HLO : Hid (lo.length ≤ 700) := Lib.hid (by rw [← hlo]; have := HI.out.loose; omega)
              clear hN6 ht6 HC5 hlo
              go_wp2_with (fail)
              go_loopw [133] (fun v wr => St4 w F' G A1 A2 (layM L8 (keptM keep lo)) L8 V (mayL lo) v wr) (fun v _ => 8 - (intOf v).toNat)
              case atStart => exact ⟨0, rfl, by decide, Lib.hid ⟨_, HN6.out.1, HN6.out.2.1.mono (by omega), HR8.out, HN6.out.2.2.1, HN6.out.2.2.2⟩⟩
              case round =>
                obtain ⟨i, rfl, hi, HR⟩ := hrel
                obtain ⟨M4, hD, hI, hnow, hwas, hmay⟩ := HR.out
                have HI4 := Lib.hid hI
                have HD4 := Lib.hid hD
                have HE4 := Lib.hid (And.intro hnow (And.intro hwas hmay))
                clear hD hI HR hnow hwas hmay HN6 HR8 HE HD HI
                by_cases hi8 : i < 8
                · have hi8' : (i : Int) < 8 := by omega
                  have hi0 : (0 : Int) ≤ (i : Int) := by omega
                  have HH8 := Lib.hid hi8
                  go_wp2_with (fail)
                  refine (dread_ok HD4.out (HI4.out.tame (by omega)) HI4.out.off i hi8).mono ?_
                  rintro e w7 ⟨g7, rfl, hN, ho, hs, hg, ht⟩
                  rw [HE4.out.1] at ho hs
                  have hst := stands_plain L8 lo keep i (by rw [HL8.out]; exact hi8)
                  obtain ⟨R, hR⟩ : ∃ R, (layM L8 (keptM keep lo)).getD i ⟨#[]⟩ = R := ⟨_, rfl⟩
                  rw [hR] at ho hs hst
                  have hwas := HE4.out.2.1.touch (ht.mono (only_F HD4.out.drum.fG)) (fun k hk => .inl hk)
                  have hmay := HE4.out.2.2.touch (ht.mono (only_F HD4.out.drum.fG)) (fun k hk => .inl hk)
                  have HW7 := Lib.hid (And.intro hwas hmay)
                  obtain ⟨V1, hV1l, hV1b, _, _, hV1r⟩ := hwas
                  obtain ⟨gw, cw, ew, _, hBw, hsw⟩ := (hV1r i (by omega) hi8).holds
                  obtain ⟨Wi, hWi⟩ : ∃ Wi, L8.getD i ⟨#[]⟩ = Wi := ⟨_, rfl⟩
                  rw [hWi] at hBw hsw hst
                  have c1 : w7.cell? ⟨A1, i, none⟩ = some (.slice (some ⟨gw, 0, none⟩) 64 cw) := by
                    rw [cell_of_row _ _ _ _ _ _ hV1b, List.getElem?_toArray, List.getElem?_eq_getElem (by omega), ew]
                  obtain ⟨q, cq, Vs, eq, hoq, hrq⟩ := hmay.rows i (by rw [hmay.len]; exact hi8)
                  obtain ⟨n, hn⟩ : ∃ n, (mayL lo i).length = n := ⟨_, rfl⟩
                  have hn700 : n ≤ 700 := by
                    rw [← hn]; unfold mayL; rw [List.length_map]
                    exact Nat.le_trans (List.length_filter_le _ _) HLO.out
                  have hn700' : (n : Int) ≤ 700 := by omega
                  rw [hn] at eq hoq
                  have c2 : w7.cell? ⟨A2, i, none⟩ = some (.slice q n cq) := by
                    rw [cell_of_row _ _ _ _ _ _ hmay.blk, List.getElem?_toArray, List.getElem?_eq_getElem (by rw [hmay.len]; exact hi8), eq]
                  have S1 := same_any (some ⟨g7, 0, none⟩) (some ⟨gw, 0, none⟩) R Wi 64 cw w7 ho.holds hBw
                  rw [hs, hsw] at S1
                  have SX := Lib.hid S1
                  have HO7 := Lib.hid (And.intro ho.holds hs)
                  have HQ7 := Lib.hid (And.intro hoq hrq)
                  have HN7 := Lib.hid hN
                  have HST := Lib.hid (And.intro hst (And.intro hn hn700))
                  clear hN ho hs hg ht hst hR hV1l hV1b hV1r ew hBw hsw hWi eq hoq hrq hn S1 hmay hn700
                  go_wp2_with (refine (SX.out).mono ?_; rintro e w' ⟨rfl, rfl⟩)
                  go_loop [21, 160] (fun ok kk => ∃ t : Nat, kk = .int .i64 (t : Int) ∧ t ≤ n ∧ ok = .bool (okB R Wi (mayL lo i) t)) (fun _ kk => n - (intOf kk).toNat)
                  case atStart => exact ⟨0, rfl, Nat.zero_le _, by unfold okB; rw [List.take_zero]; simp⟩
                  case round =>
                    obtain ⟨t, rfl, ht, rfl⟩ := hrel
                    by_cases htn : t < n
                    · have hHt := Lib.hid htn
                      obtain ⟨v, hv, hro⟩ := HQ7.out.2 t (by rw [HST.out.2.1]; exact htn)
                      obtain ⟨gm, cm, em, _, hBm, hsm⟩ := hro.holds
                      obtain ⟨m1, hm1⟩ : ∃ m1, (mayL lo i)[t]'(by rw [HST.out.2.1]; exact htn) = m1 := ⟨_, rfl⟩
                      rw [hm1] at hBm hsm
                      have hstep : okB R Wi (mayL lo i) (t + 1) = (okB R Wi (mayL lo i) t || decide (R = m1)) := by
                        unfold okB
                        rw [List.take_succ_eq_append_getElem (by rw [HST.out.2.1]; exact htn), List.any_append, hm1, ← Bool.or_assoc]
                        simp
                      obtain ⟨gq, hgq, c3⟩ : ∃ gq, q = some ⟨gq, 0, none⟩ ∧ w7.cell? ⟨gq, t, none⟩ = some (.slice (some ⟨gm, 0, none⟩) 64 cm) := by
                        rcases HQ7.out.1.2 with ⟨e, e0⟩ | ⟨b, cap, cur, e, _, _, _⟩
                        · omega
                        · injection e with e1 _ _
                          refine ⟨b, e1, ?_⟩
                          have h1 := HQ7.out.1
                          rw [e1] at h1
                          rw [World.ownsRow.cellAt h1 t (by omega), hv, em]
                      subst hgq
                      have S2 := same_any (some ⟨g7, 0, none⟩) (some ⟨gm, 0, none⟩) R m1 64 cm w7 HO7.out.1 hBm
                      rw [HO7.out.2, hsm] at S2
                      have SY := Lib.hid S2
                      have HS := Lib.hid hstep
                      have ht' : (t : Int) < (n : Int) := by omega
                      clear S2 hstep hv hro em hBm hsm hm1
                      cases hok : okB R Wi (mayL lo i) t
                      · go_wp2_with (refine (SY.out).mono ?_; rintro e w' ⟨rfl, rfl⟩)
                        go_round
                        case rel => exact ⟨t + 1, by go_num, by have := hHt.out; omega, by rw [HS.out, hok]; rfl⟩
                        case measure => have := hHt.out; simp [intOf]; omega
                      · go_wp2_with (fail)
                        go_round
                        case rel => exact ⟨t + 1, by go_num, by have := hHt.out; omega, by rw [HS.out, hok]; rfl⟩
                        case measure => have := hHt.out; simp [intOf]; omega
                    · obtain rfl : t = n := by omega
                      have e1 : okB R Wi (mayL lo i) t = true := by
                        unfold okB
                        rw [List.take_of_length_le (by rw [HST.out.2.1]; exact Nat.le_refl _)]
                        exact HST.out.1
                      rw [e1]
                      go_wp2_with (fail)
                      go_round
                      case rel => exact ⟨i + 1, by go_num, by have := HH8.out; omega, Lib.hid ⟨M4.step, HN7.out, HI4.out.step.mono (by omega), (by rw [M4.step_now]; exact HE4.out.1), HW7.out.1, HW7.out.2⟩⟩
                      case measure => have := HH8.out; simp [intOf]; omega
                · obtain rfl : i = 8 := by omega
                  go_wp2_with (fail)
                  go_ret
                  exact ⟨rfl, HD4.out.below⟩
end Go.Proofs.Ytpcnbnfbiifakaa
