/- Proved here: what Write makes of the document's drum. -/
import Derived.Test.YtlkffignbjpfcaaRDKit
namespace Go.Proofs.Ytlkffignbjpfcaa
open Go.RowKit

/-- What a row of the call's own holds while bytes are laid into it. -/
def mixV (s : ByteArray) (j : Nat) : List Value := (bytesV s).take j ++ zRow.drop j
theorem mixV_length {s : ByteArray} (hs : s.size ≤ 64) {j : Nat} (hj : j ≤ s.size) : (mixV s j).length = 64 := by
  have hz : zRow.length = 64 := rfl
  unfold mixV
  rw [List.length_append, List.length_take, List.length_drop, bytesV_length, hz]; omega
theorem mixV_step {s : ByteArray} (hs : s.size ≤ 64) {j : Nat} (hj : j < s.size) : (mixV s j).set j (.int .u8 ((s.get! j).toNat : Int)) = mixV s (j + 1) := by
  have hz : zRow.length = 64 := rfl
  unfold mixV
  have h1 : ((bytesV s).take j).length = j := by rw [List.length_take, bytesV_length]; omega
  rw [List.set_append_right _ _ (by omega), h1, Nat.sub_self, List.drop_eq_getElem_cons (by omega), List.set_cons_zero, List.take_succ_eq_append_getElem (by rw [bytesV_length]; exact hj), List.append_assoc]
  have e : (bytesV s)[j]'(by rw [bytesV_length]; exact hj) = .int .u8 ((s.get! j).toNat : Int) := by
    have := bytesV_get s j hj
    rw [List.getElem?_eq_getElem (by rw [bytesV_length]; exact hj)] at this
    exact Option.some.inj this
  rw [e]
  rfl
theorem mixV_all {s : ByteArray} (__hs : s.size ≤ 64) : mixV s s.size = bytesV (fullB s) := by
  unfold mixV fullB zRow
  rw [List.take_of_length_le (by rw [bytesV_length]; exact Nat.le_refl _), bytesV_append, bytesV_zero, List.drop_replicate]
def FullPost (s : ByteArray) (W : World) (e : Ending) (W' : World) : Prop := ∃ g, e = .returned (.slice (some ⟨g, 0, none⟩) 64 64) ∧ W.heap.size ≤ g ∧ W'.heap[g]? = some (.cells (bytesV (fullB s)).toArray 5 (0, 0)) ∧ Below W.heap.size W W'
set_option maxRecDepth 100000 in
set_option maxHeartbeats 4000000 in
theorem full_any (p : Option Addr) (s : ByteArray) (c : Nat) (W : World) (hs : s.size ≤ 64) (hp : HoldsB W p s) :
    Calls Try.prog 57 #[.slice p s.size c] W (FullPost s W) := by
  have mk := make64
  have HP := Lib.hid hp
  obtain ⟨n, hn⟩ : ∃ n, s.size = n := ⟨_, rfl⟩
  have HN := Lib.hid hn
  have HS := Lib.hid hs
  have H0 := Lib.hid (show (W.alloc (.cells zRow.toArray 5)).heap[W.heap.size]? = some (.cells (mixV s 0).toArray 5 (0, 0)) from heap_alloc_new _ _)
  rw [hn] at hs ⊢
  have hs' : (n : Int) ≤ 64 := by omega
  clear hp hn
  go_enter Try.func57, Try.ntmps57
  go_wp2_with (fail)
  go_loopw [8] (fun v wr => ∃ j : Nat, v = .int .i64 (j : Int) ∧ j ≤ n ∧ Hid (wr.heap[W.heap.size]? = some (.cells (mixV s j).toArray 5 (0, 0)) ∧ Below W.heap.size W wr)) (fun v _ => n - (intOf v).toNat)
  case atStart => exact ⟨0, rfl, Nat.zero_le _, Lib.hid ⟨H0.out, (Below.refl _ _).alloc (Nat.le_refl _) _⟩⟩
  case round =>
    obtain ⟨j, rfl, hj, HR⟩ := hrel
    by_cases hlt : j < n
    · have hHJ := Lib.hid hlt
      obtain ⟨b, off, rfl, hc⟩ := (HP.out.below HR.out.2) (by rw [HN.out]; omega)
      have c1 := hc j (by rw [HN.out]; exact hlt)
      have hlen := mixV_length HS.out (j := j) (by rw [HN.out]; exact hj)
      obtain ⟨u, c2⟩ : ∃ u, wr.cell? ⟨W.heap.size, j, none⟩ = some u := ⟨(mixV s j)[j]'(by omega), by
        rw [cell_of_row _ _ _ _ _ _ HR.out.1, List.getElem?_toArray, List.getElem?_eq_getElem]⟩
      have f2 : wr.frozen? ⟨W.heap.size, j, none⟩ = false := frozen_of_row _ _ _ _ _ HR.out.1
      obtain ⟨x, hx⟩ : ∃ x : Int, ((s.get! j).toNat : Int) = x := ⟨_, rfl⟩
      have hx0 : 0 ≤ x ∧ x < 256 := by rw [← hx]; have := (s.get! j).toNat_lt; omega
      have HX := Lib.hid hx
      have hlt' : (j : Int) < (n : Int) := by omega
      have hj64 : (j : Int) < 64 := by omega
      rw [hx] at c1
      clear hc hlen hx
      go_wp2_with (fail)
      go_round
      case rel =>
        refine ⟨j + 1, by go_num, by have := hHJ.out; omega, Lib.hid ⟨?_, HR.out.2.setCell (Nat.le_refl _) _⟩⟩
        have hu := u_row (k := j) (.int .u8 x) HR.out.1
        rw [hu, ← HX.out, ← mixV_step HS.out (by rw [HN.out]; exact hHJ.out)]
        simp
      case measure => have := hHJ.out; simp [intOf]; omega
    · obtain rfl : j = n := by omega
      go_wp2_with (fail)
      go_ret
      have h1 := HR.out.1
      rw [← HN.out, mixV_all HS.out] at h1
      exact ⟨W.heap.size, rfl, Nat.le_refl _, h1, HR.out.2⟩
/-- 'append([]T{}, xs...)': what xs holds, in a row of the call's own. -/
theorem copy_first (t e : TypeId) (i0 : TypeInfo) (z : Value) (size bytes : Nat) (hu : Try.prog.underlying t = some (.slice e)) (hi0 : Try.prog.info? e = some i0) (hz0 : i0.zero = some z) (hz1 : i0.size = size) (hz2 : i0.bytes = bytes) (hzs : z.cells.size = size) (hpos : 0 < size)
    {w : World} {p : Option Addr} {n cap : Nat} {xs : List Value} (ho : w.ownsRow 0 e size (.slice p n cap) n xs) (hn : p = none → cap = 0) (h1 : ∀ u ∈ xs, u.oneCell' = true) (hsz : n * bytes ≤ 140737488355328) (hnm : n ≤ 140737488355328) :
    ∃ g cap' w', (∀ ty, (Builtin.append_ #[t, t] ty #[.slice (some ⟨w.heap.size, 0, none⟩) 0 0, .slice p n cap]).run Try.prog (w.alloc (.cells #[] e)) = .ok (.slice (some ⟨g, 0, none⟩) n cap') w') ∧ w'.ownsRow w.heap.size e size (.slice (some ⟨g, 0, none⟩) n cap') n xs ∧ w.heap.size ≤ g ∧ Below w.heap.size w w' ∧ w.heap.size < w'.heap.size := by
  have hb0 : Below w.heap.size w (w.alloc (.cells #[] e)) := (Below.refl _ _).alloc (Nat.le_refl _) _
  have hown : (w.alloc (.cells #[] e)).ownsRow w.heap.size e size (.slice (some ⟨w.heap.size, 0, none⟩) 0 0) 0 [] := World.ownsRow_lit w #[] 0 (Nat.le_refl _) (by unfold maxLen; omega) (by simp)
  cases p with
  | none =>
    have hc := hn rfl
    subst hc
    have hn0 : n = 0 := by
      rcases ho.2 with ⟨_, e0⟩ | ⟨g, c, cur, e', _⟩
      · exact e0
      · cases e'
    subst hn0
    have hx : xs = [] := List.eq_nil_of_length_eq_zero (by have := ho.1; omega)
    subst hx
    have hrun := fun ty => run_append_owned_none (P := Try.prog) (w := w.alloc (.cells #[] e)) w.heap.size t ty e i0 size hu hi0 _ 0 [] hown
    exact ⟨w.heap.size, 0, _, hrun, hown, Nat.le_refl _, hb0, by simp⟩
  | some a =>
    rcases ho.2 with ⟨e', _⟩ | ⟨g, c, cur, e', _, hh, hnc, _, _, ht⟩
    · cases e'
    · injection e' with e1 e2 e3
      injection e1 with e1
      subst e1
      have hcells : ∀ j u, xs[j]? = some u → (w.alloc (.cells #[] e)).cell? ((⟨g, 0, none⟩ : Addr).add j) = some u := fun j u hu' => by
        have h2 := ho.cells (g := g) rfl j u hu'
        exact hb_cell hb0 h2
      obtain ⟨v', w', hrun, hown', hgrow, hne⟩ := run_append_own (P := Try.prog) (w := w.alloc (.cells #[] e)) w.heap.size t t e i0 z size bytes hu hi0 hz0 hz1 hz2 hzs hpos _ 0 [] hown ⟨g, 0, none⟩ n cap xs ho.1 hcells h1 (by unfold maxLen; omega) (by rw [Nat.zero_add]; exact hsz) (by simp)
      have hv : v' ≠ .slice none 0 0 := fun e => by
        have := (hne.1 e).1
        cases this
      rw [Nat.zero_add, List.nil_append] at hown'
      have hown2 := hown'
      rcases hown'.2 with ⟨e, _⟩ | ⟨g', cap', cur', rfl, hb, hh', hc, _⟩
      · exact absurd e hv
      · refine ⟨g', cap', w', fun ty => by rw [← hrun]; rfl, hown2, hb, hb0.grown hgrow (by simp) (fun k e => by simp [Value.ownBlock] at e; omega), by have := hgrow.size; simp at this; omega⟩
theorem infoRW : (Try.prog.info? 107).map (fun i => (i.zero, i.size, i.bytes)) = some (some (.agg #[.int .i64 0, .slice none 0 0]), 2, 32) := by kernel_rfl
theorem rwV_one (ns : List Nat) (vs : List Value) (h : ∀ v ∈ vs, v.oneCell' = true) : ∀ u ∈ rwV ns vs, u.oneCell' = true := by
  intro u hu
  unfold rwV at hu
  obtain ⟨x, hx, hu⟩ := List.mem_flatMap.1 hu
  rcases List.mem_cons.1 hu with rfl | hu
  · rfl
  · rw [List.mem_singleton.1 hu]
    exact h _ (List.of_mem_zip hx).2
theorem obj_type' {o : Option Obj} {c d : Array Value} {t u : TypeId} {f f' : Nat × Nat} (h1 : o = some (.cells c t f)) (h2 : o = some (.cells d u f')) : t = u := by
  rw [h1] at h2
  injection h2 with e
  injection e
theorem rwV_snoc {ns : List Nat} {vs : List Value} (h : ns.length = vs.length) (n : Nat) (v : Value) : rwV (ns ++ [n]) (vs ++ [v]) = rwV ns vs ++ [.int .i64 (n : Int), v] := by
  unfold rwV
  rw [List.zip_append h, List.flatMap_append]
  rfl
theorem rout_one {W : World} {X : Nat → Prop} {v : Value} {row : ByteArray} (h : RowOut W X v row) : v.oneCell' = true := by
  obtain ⟨g, c, cur, rfl, _⟩ := h
  rfl
theorem RAt.vone {W : World} {X : Nat → Prop} {R N : Nat} {M : DM} {s q : Option Addr} {cS cL : Nat} {Vs Ws : List Value} (h : RAt W X R N M s q cS cL Vs Ws) : (∀ v ∈ Vs, v.oneCell' = true) ∧ ∀ v ∈ Ws, v.oneCell' = true := by
  refine ⟨fun v hv => ?_, fun v hv => ?_⟩
  · obtain ⟨i, hi, rfl⟩ := List.getElem_of_mem hv
    have h1 := h.safe.1
    obtain ⟨u, hu, hr⟩ := h.rows i (by rw [h.ok.len]; omega)
    rw [List.getElem?_eq_getElem hi] at hu
    rw [Option.some.inj hu]
    exact rout_one hr
  · obtain ⟨i, hi, rfl⟩ := List.getElem_of_mem hv
    obtain ⟨u, hu, hr⟩ := h.wrows i (by have := h.wlen; omega)
    rw [List.getElem?_eq_getElem hi] at hu
    rw [Option.some.inj hu]
    exact rout_one hr
/-- A Write more of the document's drum. -/
theorem RAt.more {W w5 : World} {X : Nat → Prop} {R N n g cap : Nat} {M : DM} {s q : Option Addr} {cS cL : Nat} {Vs Ws : List Value} {p : ByteArray} {v : Value} (h : RAt W X R N M.step s q cS cL Vs Ws) (hX : X R) (hoff : M.off = false) (hn : n < N) (hp : p.size ≤ 64)
    (hb : Below W.heap.size W w5) (ho : w5.ownsRow W.heap.size 107 2 (.slice (some ⟨g, 0, none⟩) (M.loose.length + 1) cap) (M.loose.length + 1) (rwV (M.loose.map (·.1)) Ws ++ [.int .i64 (n : Int), v])) (hv : RowOut w5 X v (fullB p)) :
    RDrum (w5.setCell ⟨R, 1, none⟩ (.slice (some ⟨g, 0, none⟩) (M.loose.length + 1) cap)) X R N (M.write n p) ∧ Touch (Only R) W (w5.setCell ⟨R, 1, none⟩ (.slice (some ⟨g, 0, none⟩) (M.loose.length + 1) cap)) := by
  have hm := M.write_yes hoff n p
  have hR := block_lt h.blk
  have hlt : ∀ k, (Value.slice (some (⟨g, 0, none⟩ : Addr)) (M.loose.length + 1) cap).ownBlock = some k → W.heap.size ≤ k := fun k hk => (ho.lt k hk).1
  have h6 : ∀ k, k < W.heap.size → k ≠ R → (w5.setCell ⟨R, 1, none⟩ (.slice (some ⟨g, 0, none⟩) (M.loose.length + 1) cap)).heap[k]? = W.heap[k]? := fun k hk hne => (set_other k hne).trans (hb.block k hk)
  have hro : ∀ {u : Value} {row : ByteArray}, RowOut W X u row → RowOut (w5.setCell ⟨R, 1, none⟩ (.slice (some ⟨g, 0, none⟩) (M.loose.length + 1) cap)) X u row := fun hr => hr.keep fun b cur hf hh => ⟨h6 b (block_lt hh) (fun e => hf (e ▸ hX)), hf⟩
  have hll : (M.write n p).loose.length = M.loose.length + 1 := by rw [hm]; simp
  have hml : (M.write n p).loose = M.loose ++ [(n, fullB p)] := by rw [hm]
  have hms : (M.write n p).safe = M.safe := by rw [hm]; exact DM.step_safe M
  have hwl : Ws.length = M.loose.length := by rw [h.wlen, DM.step_loose]
  refine ⟨⟨s, some ⟨g, 0, none⟩, cS, cap, Vs, Ws ++ [v], ⟨?_, ?_, owns_block h.safe (fun k hk => h6 k (h.safe.lt k hk).2 (fun e => h.fs k hk (e ▸ hX))), ?_, ?_, by rw [List.length_append, hwl, hll]; rfl, ?_, h.fs, ?_, ?_, h.big⟩⟩, ?_⟩
  · rw [hll, hm]
    exact u_row (k := 1) _ ((hb.block R hR).trans h.blk)
  · have := h.ok
    rw [hm]
    exact DM.Ok.snoc this hn hp
  · rw [hms]
    intro i hi
    have := h.rows i (by rw [DM.step_safe]; exact hi)
    obtain ⟨u, hu, hr⟩ := this
    refine ⟨u, hu, ?_⟩
    have e : M.step.safe[i]'(by rw [DM.step_safe]; exact hi) = M.safe[i] := by simp only [DM.step_safe]
    rw [← e]
    exact hro hr
  · rw [hll, hml, List.map_append]
    show World.ownsRow _ 0 _ 2 _ _ (rwV (M.loose.map (·.1) ++ [n]) (Ws ++ [v]))
    rw [rwV_snoc (by rw [List.length_map, hwl])]
    have ho' : w5.ownsRow 0 107 2 (.slice (some ⟨g, 0, none⟩) (M.loose.length + 1) cap) (M.loose.length + 1) (rwV (M.loose.map (·.1)) Ws ++ [.int .i64 (n : Int), v]) := by
      rcases ho.2 with ⟨e1, e2⟩ | ⟨g', c', cur, e, _, hh, hr⟩
      · exact ⟨ho.1, .inl ⟨e1, e2⟩⟩
      · exact ⟨ho.1, .inr ⟨g', c', cur, e, Nat.zero_le _, hh, hr⟩⟩
    exact owns_block ho' (fun k hk => set_other k (fun e => by have := hlt k hk; omega))
  · intro i hi
    rw [hll] at hi
    by_cases hil : i < M.loose.length
    · obtain ⟨u, hu, hr⟩ := h.wrows i (by rw [DM.step_loose]; exact hil)
      refine ⟨u, by rw [List.getElem?_append_left (by omega)]; exact hu, ?_⟩
      have e : (M.write n p).loose[i]'(by rw [hll]; exact hi) = M.step.loose[i]'(by rw [DM.step_loose]; exact hil) := by
        simp only [hml, DM.step_loose]
        rw [List.getElem_append_left hil]
      rw [e]
      exact hro hr
    · obtain rfl : i = M.loose.length := by omega
      refine ⟨v, by rw [List.getElem?_append_right (by omega), hwl, Nat.sub_self]; rfl, ?_⟩
      have e : (M.write n p).loose[M.loose.length]'(by rw [hll]; exact hi) = (n, fullB p) := by
        simp only [hml]
        rw [List.getElem_append_right (Nat.le_refl _)]
        simp
      rw [e]
      exact hv.keep fun b cur hf hh => ⟨set_other b (fun e => hf (e ▸ hX)), hf⟩
  · intro k hk hx
    rw [hll] at hk
    have := hlt k hk
    have := h.lt k hx
    omega
  · intro k hx
    have := h.lt k hx
    rw [set_size]
    have := hb.size
    omega
  · exact ((Touch.of_below hb).set1 _)
set_option maxRecDepth 100000 in
set_option maxHeartbeats 8000000 in
theorem rwrite_ok (W : World) (X : Nat → Prop) (R N : Nat) (M : DM) (h : RDrum W X R N M) (hX : X R) (ht : Tame M) (hoff : M.off = false) (n : Nat) (hn : n < N) (p : Option Addr) (s : ByteArray) (cap : Nat) (hp : HoldsB W p s) (hs : s.size ≤ 64) (hsep : ∀ a, p = some a → a.block ≠ R) :
    Calls Try.prog 29 #[.pointer (some ⟨R, 0, none⟩), .int .i64 (n : Int), .slice p s.size cap] W fun e W' => e = .returned (.int .i64 0) ∧ RDrum W' X R N (M.write n s) ∧ Touch (Only R) W W' := by
  have ST := Lib.hid (rstep_ok W X R N M h hX ht hoff)
  have c0 : ∃ s0 cS0, W.cell? ⟨R, 0, none⟩ = some (.slice s0 N cS0) := by
    obtain ⟨s0, q0, cS0, cL0, Vs0, Ws0, hd⟩ := h
    exact ⟨s0, cS0, hd.cells.1⟩
  obtain ⟨s0, cS0, c0⟩ := c0
  have HH := Lib.hid (And.intro hX (And.intro hoff (And.intro hs (And.intro ht.loose hn))))
  have HP := Lib.hid (And.intro hp hsep)
  have hn0 : (0 : Int) ≤ (n : Int) := by omega
  have hnN : ¬ (n : Int) < 0 := by omega
  have hn1 : (n : Int) < (N : Int) := by omega
  obtain ⟨m, hm⟩ : ∃ m, s.size = m := ⟨_, rfl⟩
  have hm64 : (m : Int) ≤ 64 := by omega
  have HM := Lib.hid hm
  rw [hm]
  clear h hX ht hoff hn hp hs hsep hm
  go_enter Try.func29, Try.ntmps29
  go_wp2_with (fail)
  all_goals try (exfalso; omega)
  refine (ST.out).mono ?_
  rintro e W1 ⟨rfl, hD, hT, hz⟩
  obtain ⟨s1, q, cS, cL, Vs, Ws, hd⟩ := hD
  obtain ⟨iW, hiW, hzW, hsW, hbW⟩ := info_parts infoRW
  have hlo := hd.loose
  have hR := block_lt hd.blk
  have c1 := hd.cells.2.1
  rw [DM.step_loose] at hlo c1
  have hqn : q = none → cL = 0 := fun e => by
    rcases hlo.2 with ⟨e1, _⟩ | ⟨g', c', cur, e1, _⟩
    · injection e1
    · rw [e] at e1; cases e1
  obtain ⟨g1, cap1, w2, hr1, ho1, hg1, hb1, hz1⟩ := copy_first 29 107 iW _ 2 32 Try.underlying29 hiW hzW hsW hbW rfl (by decide) hlo hqn (rwV_one _ _ hd.vone.2) (by have := HH.out.2.2.2.1; omega) (by have := HH.out.2.2.2.1; omega)
  obtain ⟨L, hL⟩ : ∃ L, M.loose.length = L := ⟨_, rfl⟩
  rw [hL] at c1 hr1
  have HR1 := Lib.hid hr1
  have HD := Lib.hid hd
  have HT := Lib.hid hT
  have HO1 := Lib.hid (And.intro ho1 (And.intro hg1 (And.intro hb1 (And.intro hz1 hL))))
  have FU := Lib.hid (full_any p s cap w2 HH.out.2.2.1 ((HP.out.1.touch hT (fun a ha e => HP.out.2 a ha e)).below hb1))
  have FU2 := FU.out
  rw [HM.out] at FU2
  have FX := Lib.hid FU2
  have HIW := Lib.hid (And.intro hiW (And.intro hzW (And.intro hsW hbW)))
  clear hd hT hz hlo hqn hr1 ho1 hg1 hb1 hz1 hL FU FU2 hiW hzW hsW hbW
  go_wp2_with (at_builtin; refine wpList_append_eq rfl _ _ _ rfl _ _ _ _ rfl rfl HR1.out ?_)
  refine (FX.out).mono ?_
  rintro e w3 ⟨g2, rfl, hg2, hh2, hb2⟩
  have HO2 := Lib.hid (And.intro hg2 (And.intro hh2 hb2))
  clear hg2 hh2 hb2
  have hrow : RowOut (w3.alloc (.cells #[.int .i64 (n : Int), .slice (some ⟨g2, 0, none⟩) 64 64] 107)) X (.slice (some ⟨g2, 0, none⟩) 64 64) (fullB s) := by
    have hlt2 := block_lt HO2.out.2.1
    refine ⟨g2, 64, _, rfl, fun hx => ?_, (Below.heap_alloc w3 _ g2 hlt2).trans HO2.out.2.1, ?_, fullB_size HH.out.2.2.1⟩
    · have := HD.out.lt g2 hx
      have := HO1.out.2.2.2.1
      have := HO2.out.1
      omega
    · have hbl := bytesV_len (fullB_size HH.out.2.2.1)
      simpa using List.take_of_length_le (by omega)
  obtain ⟨iW, hiW, hzW, hsW, hbW⟩ := info_parts infoRW
  have ho4 : (w3.alloc (.cells #[.int .i64 (n : Int), .slice (some ⟨g2, 0, none⟩) 64 64] 107)).ownsRow W1.heap.size 107 2 (.slice (some ⟨g1, 0, none⟩) L cap1) L (rwV (M.loose.map (·.1)) Ws) := by
    have h1 := HO1.out.1
    rw [HO1.out.2.2.2.2] at h1
    refine owns_block h1 (fun k hk => ?_)
    have hlt := (h1.lt k hk).2
    exact (Below.heap_alloc w3 _ k (Nat.lt_of_lt_of_le hlt HO2.out.2.2.size)).trans (HO2.out.2.2.block k hlt)
  have hLb : L ≤ 1099511627776 := by rw [← HO1.out.2.2.2.2]; exact HH.out.2.2.2.1
  obtain ⟨v5, w5, hr5, ho5, hgr5, hne5⟩ := run_append_own (P := Try.prog) (w := w3.alloc (.cells #[.int .i64 (n : Int), .slice (some ⟨g2, 0, none⟩) 64 64] 107)) W1.heap.size 29 29 107 iW _ 2 32 Try.underlying29 hiW hzW hsW hbW rfl (by decide) _ L (rwV (M.loose.map (·.1)) Ws) ho4 ⟨w3.heap.size, 0, none⟩ 1 1 [.int .i64 (n : Int), .slice (some ⟨g2, 0, none⟩) 64 64] rfl
    (World.news_of_block (cs := #[.int .i64 (n : Int), .slice (some ⟨g2, 0, none⟩) 64 64]) (heap_alloc_new w3 _)) (by intro u hu; simp at hu; rcases hu with rfl | rfl <;> rfl) (by unfold maxLen; omega) (by omega) (by have := HO1.out.2.2.1.size; have := HO2.out.2.2.size; simp; omega)
  rcases ho5.2 with ⟨e5, _⟩ | ⟨g5, cap5, cur5, rfl, hg5, hh5, _⟩
  · have := (hne5.1 e5).1
    cases this
  have hb5 : Below W1.heap.size W1 w5 := by
    have h1 : Below W1.heap.size W1 (w3.alloc (.cells #[.int .i64 (n : Int), .slice (some ⟨g2, 0, none⟩) 64 64] 107)) := (HO1.out.2.2.1.trans (HO2.out.2.2.mono HO1.out.2.2.1.size)).alloc (by have := HO1.out.2.2.1.size; have := HO2.out.2.2.size; omega) _
    refine h1.grown hgr5 h1.size (fun k e => ?_)
    simp [Value.ownBlock] at e
    rw [← e]
    exact HO1.out.2.1
  have hrow5 : RowOut w5 X (.slice (some ⟨g2, 0, none⟩) 64 64) (fullB s) := hrow.keep fun b cur hf hh => ⟨hgr5.block b (block_lt hh) (fun e => by
    obtain ⟨cur', hc⟩ := owns_type' ho4 e.symm
    exact absurd (obj_type' hh hc) (by decide)), hf⟩
  rw [← HO1.out.2.2.2.2] at ho5
  have hfin := HD.out.more HH.out.1 HH.out.2.1 HH.out.2.2.2.2 HH.out.2.2.1 hb5 ho5 hrow5
  rw [HO1.out.2.2.2.2] at hfin
  have hR5 := (hb5.block R hR).trans HD.out.blk
  obtain ⟨u5, d5⟩ : ∃ u, w5.cell? ⟨R, 1, none⟩ = some u := ⟨_, by rw [cell_of_row _ _ _ _ _ _ hR5]; rfl⟩
  have f5 : w5.frozen? ⟨R, 1, none⟩ = false := frozen_of_row _ _ _ _ _ hR5
  have HF := Lib.hid hfin
  have hr5' : ∀ ty, (Builtin.append_ #[29, 29] ty #[.slice (some ⟨g1, 0, none⟩) L cap1, .slice (some ⟨w3.heap.size, 0, none⟩) 1 1]).run Try.prog (w3.alloc (.cells #[.int .i64 (n : Int), .slice (some ⟨g2, 0, none⟩) 64 64] 107)) = .ok (.slice (some ⟨g5, 0, none⟩) (L + 1) cap5) w5 := fun ty => by rw [← hr5]; rfl
  have HR5 := Lib.hid hr5'
  clear hrow ho4 hr5 ho5 hgr5 hne5 hg5 hh5 hb5 hrow5 hfin hR5 hr5' hiW hzW hsW hbW hLb
  go_wp2_with (at_builtin; refine wpList_append_eq rfl _ _ _ rfl _ _ _ _ rfl rfl HR5.out ?_)
  go_ret
  exact ⟨rfl, HF.out.1, HT.out.trans HF.out.2 (fun k hk => .inl hk)⟩
end Go.Proofs.Ytlkffignbjpfcaa
