/- Proved here: a tape's Flush; what is kept in mind of a script on a tape; the look behind its crash. -/
import Derived.Test.YtggchfmglaijgaaRowsArg
import Derived.Test.YtggchfmglaijgaaTapeLasted
import Derived.Test.YtggchfmglaijgaaTapeAppG
namespace Go.Proofs.Ytggchfmglaijgaa
open Go.ChangeShapes Go.WideShapes Go.ChangeAt Go.RowKit
open Go.Lib Go.Deep

/-- A step of a script. -/
structure OpT where
  kind : Int
  n : Int
  p : ByteArray
  deriving Inhabited
def OpAtT (W : World) (b o : Nat) (x : OpT) : Prop := ∃ pa pc, W.cell? ⟨b, o, none⟩ = some (.int .i64 x.kind) ∧ W.cell? ⟨b, o + 1, none⟩ = some (.int .i64 x.n) ∧ W.cell? ⟨b, o + 2, none⟩ = some (.slice pa x.p.size pc) ∧
  HoldsB W pa x.p ∧ (pa = none → pc = 0) ∧ x.p.size ≤ pc ∧ x.p.size ≤ 140737488351232 ∧ (-9223372036854775808 ≤ x.kind ∧ x.kind ≤ 9223372036854775807) ∧ (-9223372036854775808 ≤ x.n ∧ x.n ≤ 9223372036854775807)
def HoldsOpsT (W : World) (p : Option Addr) (l : List OpT) : Prop := 0 < l.length → ∃ b off, p = some ⟨b, off, none⟩ ∧ ∀ j (h : j < l.length), OpAtT W b (off + j * 3) l[j]
theorem OpAtT.below {W W' : World} {b o : Nat} {x : OpT} (h : OpAtT W b o x) (hb : Below W.heap.size W W') : OpAtT W' b o x := by
  obtain ⟨pa, pc, h1, h2, h3, h4, h5⟩ := h
  exact ⟨pa, pc, hb_cell hb h1, hb_cell hb h2, hb_cell hb h3, h4.below hb, h5⟩
theorem HoldsOpsT.below {W W' : World} {p : Option Addr} {l : List OpT} (h : HoldsOpsT W p l) (hb : Below W.heap.size W W') : HoldsOpsT W' p l := fun h0 => by
  obtain ⟨b, off, e, hc⟩ := h h0
  exact ⟨b, off, e, fun j hj => (hc j hj).below hb⟩
theorem cellsOpT : Try.prog.cellsOf 60 = 3 := by kernel_rfl
theorem wf64T {n : Int} (h : (Lit.int .i64 n).wf = true) : -9223372036854775808 ≤ n ∧ n ≤ 9223372036854775807 := by
  have e1 : IntKind.i64.min = -9223372036854775808 := rfl
  have e2 : IntKind.i64.max = 9223372036854775807 := rfl
  simp only [Lit.wf, Bool.and_eq_true, decide_eq_true_eq] at h
  omega
set_option maxRecDepth 100000 in
/-- One step. -/
theorem op_coreT {H : Type} {enc : TypeId × Value → H} {W : World} {fuel : Nat} {b o : Nat} {cs : List Value} {x : DataW H × List MemPlace} (hcl : ∀ j v, cs[j]? = some v → W.cell? ⟨b, o + j, none⟩ = some v)
    (hf : DataW.trod enc Try.prog W 0 (fun _ => true) true fuel 60 cs = some x) (hw : ∀ n ∈ x.1.weights Try.prog 60, n ≤ reachBytes) : ∃ y, OpAtT W b o y := by
  have c34 : Try.prog.cellsOf 33 = 1 := by kernel_rfl
  have c3 : Try.prog.cellsOf 3 = 1 := by kernel_rfl
  obtain ⟨xs, n, _, hx, hlen, hxl, hg⟩ := DataW.trod_struct Try.underlying60 hf
  rw [cellsOpT] at hlen
  match cs, hlen with
  | [x0, x1, x2], _ =>
    match xs, hxl with
    | [y0, y1, y2], _ =>
      have h0 := hg 0 _ rfl
      have h1 := hg 1 _ rfl
      have h2 := hg 2 _ rfl
      change DataW.trod enc Try.prog W 0 (fun _ => true) true n 3 (([x0, x1, x2].drop 0).take (Try.prog.cellsOf 3)) = some y0 at h0
      change DataW.trod enc Try.prog W 0 (fun _ => true) true n 3 (([x0, x1, x2].drop 1).take (Try.prog.cellsOf 3)) = some y1 at h1
      change DataW.trod enc Try.prog W 0 (fun _ => true) true n 33 (([x0, x1, x2].drop 2).take (Try.prog.cellsOf 33)) = some y2 at h2
      rw [c3] at h0 h1
      rw [c34] at h2
      change DataW.trod enc Try.prog W 0 (fun _ => true) true n 3 [x0] = some y0 at h0
      change DataW.trod enc Try.prog W 0 (fun _ => true) true n 3 [x1] = some y1 at h1
      change DataW.trod enc Try.prog W 0 (fun _ => true) true n 33 [x2] = some y2 at h2
      subst hx
      have w2 : ∀ n ∈ y2.1.weights Try.prog 33, n ≤ reachBytes := fun n hn => hw n (by simp [DataW.weights, DataW.weightsEach, Try.underlying60, hn])
      obtain ⟨k, e0, _, wk⟩ := DataW.trod_int Try.underlying3 h0
      obtain ⟨m, e1, _, wm⟩ := DataW.trod_int Try.underlying3 h1
      obtain ⟨pa, pc, s, e2, hpc, hs, hB, hpn⟩ := bytes_coreR h2 w2
      simp only [List.cons.injEq, and_true] at e0 e1 e2
      subst e0 e1 e2
      exact ⟨⟨k, m, s⟩, pa, pc, hcl 0 _ rfl, hcl 1 _ rfl, hcl 2 _ rfl, hB, hpn, hpc, hs, wf64T wk, wf64T wm⟩
set_option maxRecDepth 100000 in
/-- AN ARGUMENT THAT IS A SCRIPT. -/
theorem open_ops14 {H : Type} {enc : TypeId × Value → H} {W : World} {a0 : Option Addr} {len cap : Nat} {d0 : DataW H} {p : List MemPlace} {ts : List TypeId} {ds : List (DataW H)} {j : Nat}
    (hsz : (DataW.weightsEach Try.prog ts ds).all (· ≤ reachBytes) = true) (ht : ts[j]? = some 58) (hd : ds[j]? = some d0)
    (h0 : DataW.Trod enc Try.prog W 0 (fun _ => true) true 58 (.slice a0 len cap) d0 p) :
    ∃ l : List OpT, l.length = len ∧ len ≤ cap ∧ len ≤ 140737488351232 ∧ HoldsOpsT W a0 l := by
  have hwt := sized_allR hsz ht hd
  obtain ⟨fuel, hf⟩ := h0
  rcases open_slice Try.underlying58 hf with ⟨hcs, hx⟩ | ⟨a, len', cap', m, n, D, Pl, hcs, _, hl, hm, hmm, hx, hi⟩
  · simp [Value.cells] at hcs
    obtain ⟨rfl, rfl, rfl⟩ := hcs
    exact ⟨[], rfl, Nat.le_refl _, by omega, fun h => absurd h (by decide)⟩
  · simp [Value.cells] at hcs
    obtain ⟨rfl, rfl, rfl⟩ := hcs
    simp only [if_true] at hmm
    subst hmm
    simp only [Prod.mk.injEq] at hx
    obtain ⟨rfl, rfl⟩ := hx
    have hb : Try.prog.bytesOf 60 = 40 := by kernel_rfl
    have hr : reachBytes = 140737488351232 := rfl
    have hw := sized_slice hsz ht hd Try.underlying58
    rw [hb, hr] at hw
    simp only [List.length_map, List.length_range] at hw
    by_cases h0 : len = 0
    · subst h0
      exact ⟨[], rfl, Nat.zero_le _, by omega, fun h => absurd h (by decide)⟩
    · have hsp : ∃ b off, a = ⟨b, off, none⟩ := by
        obtain ⟨cs', hc, _⟩ := hi 0 (by omega)
        rw [cellsOpT] at hc
        obtain ⟨_, hcl, hat⟩ := World.cells?_some hc
        have h1 := hat 0 (by omega)
        obtain ⟨b, off, sp⟩ := a
        have hv : cs'[0]? = some (cs'[0]'(by omega)) := List.getElem?_eq_getElem (by omega)
        rw [hv] at h1
        have hspot : sp = none := by simpa [Addr.add] using World.cell?_spot h1
        subst hspot
        exact ⟨b, off, rfl⟩
      obtain ⟨b, off, rfl⟩ := hsp
      have hall : ∀ i, i < len → ∃ y, OpAtT W b (off + i * 3) y := fun i hil => by
        obtain ⟨cs', hc, htr⟩ := hi i (by omega)
        rw [cellsOpT] at hc
        obtain ⟨_, hcl, hat⟩ := World.cells?_some hc
        refine op_coreT (fun j v hv => ?_) htr (fun n hn => hwt n ?_)
        · have hj : j < 3 := by have := (List.getElem?_eq_some_iff.1 hv).1; omega
          have h1 := hat j hj
          rw [Addr.add_mid, Addr.add_mid] at h1
          rw [h1, hv]
        · simp only [DataW.weights, Try.underlying58, List.mem_cons, List.mem_append]
          exact .inr (.inl (weightsAll_memR (List.mem_map.2 ⟨i, List.mem_range.2 hil, rfl⟩) hn))
      obtain ⟨V, hV⟩ := choose_lt (α := OpT) (p := fun i y => OpAtT W b (off + i * 3) y) hall
      refine ⟨(List.range len).map V, by simp, hl, by omega, fun _ => ⟨b, off, rfl, fun j hj => ?_⟩⟩
      simp only [List.length_map, List.length_range] at hj
      simpa using hV j hj
end Go.Proofs.Ytggchfmglaijgaa
namespace Go.Proofs.Ytggchfmglaijgaa
open Go.RowKit

theorem tflush_ok {w W : World} {F : Nat → Prop} {G N : Nat} {M : DM} (h : DW w W F G N M) (ht : Tame M) (hoff : M.off = false) (t lo hi gen groups used : Nat) (htp : W.heap[t]? = some (.cells (tapeV G lo hi gen groups used false) 118 (0, 0))) :
    Calls Try.prog 35 #[.pointer (some ⟨t, 0, none⟩)] W fun e W' => e = .returned (.int .i64 0) ∧ DW w W' F G N M.flush ∧ Touch F W W' := by
  have c6 : W.cell? ⟨t, 6, none⟩ = some (.bool false) := by rw [cell_of_row _ _ _ _ _ _ htp]; rfl
  have c0 : W.cell? ⟨t, 0, none⟩ = some (.pointer (some ⟨G, 0, none⟩)) := by rw [cell_of_row _ _ _ _ _ _ htp]; rfl
  have DF := Lib.hid (dflush_ok h ht hoff)
  clear h ht hoff htp
  go_enter Try.func35, Try.ntmps35
  go_wp2_with (fail)
  with_reducible (refine DF.out.mono ?_)
  rintro e W1 ⟨rfl, d1, t1⟩
  have H1 := Lib.hid (And.intro d1 t1)
  clear d1 t1 DF
  go_wp2_with (fail)
  with_reducible (refine (told_zero t W1).mono ?_)
  rintro e W2 ⟨rfl, rfl⟩
  go_wp2_with (fail)
  go_ret
  exact ⟨rfl, H1.out⟩
theorem tflush_off {w W : World} {F : Nat → Prop} {G N : Nat} {M : DM} (h : DW w W F G N M) (ht : Tame M) (hoff : M.off = true) (t lo hi gen groups used : Nat) (htp : W.heap[t]? = some (.cells (tapeV G lo hi gen groups used false) 118 (0, 0))) (hft : ¬ F t) (hwt : w.heap.size ≤ t) :
    Calls Try.prog 35 #[.pointer (some ⟨t, 0, none⟩)] W fun e W' => e = .returned (.int .i64 9) ∧ DW w W' F G N M.flush ∧ Touch (WithT F t) W W' ∧ W'.heap[t]? = some (.cells (tapeV G lo hi gen groups used true) 118 (0, 0)) := by
  have c6 : W.cell? ⟨t, 6, none⟩ = some (.bool false) := by rw [cell_of_row _ _ _ _ _ _ htp]; rfl
  have c0 : W.cell? ⟨t, 0, none⟩ = some (.pointer (some ⟨G, 0, none⟩)) := by rw [cell_of_row _ _ _ _ _ _ htp]; rfl
  have DF := Lib.hid (dflush_off h ht hoff)
  have HT := Lib.hid (And.intro htp (And.intro hft hwt))
  clear h ht hoff htp hft hwt
  go_enter Try.func35, Try.ntmps35
  go_wp2_with (fail)
  with_reducible (refine DF.out.mono ?_)
  rintro e W1 ⟨rfl, d1, t1⟩
  have n1 := (t1.block t (obj_lt HT.out.1) HT.out.2.1).trans HT.out.1
  have TN := Lib.hid (told_nine t W1 G lo hi gen groups used n1)
  have H1 := Lib.hid (And.intro d1 (And.intro t1 n1))
  clear d1 t1 n1 DF
  go_wp2_with (fail)
  with_reducible (refine TN.out.mono ?_)
  rintro e W2 ⟨rfl, rfl⟩
  go_wp2_with (fail)
  go_ret
  exact ⟨rfl, ⟨H1.out.1.drum.kept (fun j hj => set_other j (fun e => HT.out.2.1 (e ▸ hj))) (by rw [set_size]; exact Nat.le_refl _), H1.out.1.below.setCell HT.out.2.2 _, H1.out.1.since⟩, (H1.out.2.1.mono (fun j hj => .inl hj)).set (F := WithT F t) (p := ⟨t, 6, none⟩) (.inr rfl) _, u_row (k := 6) (.bool true) H1.out.2.2⟩
/-- The list of what was put. -/
structure PutSt (wB W : World) (F : Nat → Prop) (t : Nat) (q : Option Addr) (m c : Nat) (gs : List (List UInt8)) : Prop where
  put : PutAt wB W F (.slice q m c) (gs.map ofL)
  apart : ∀ k, (Value.slice q m c).ownBlock = some k → k ≠ t
  len : m = gs.length
theorem PutSt.cap {wB W : World} {F : Nat → Prop} {t : Nat} {q : Option Addr} {m c : Nat} {gs : List (List UInt8)} (h : PutSt wB W F t q m c gs) : m ≤ c := by
  obtain ⟨Vs, h1, _⟩ := h.put
  rcases h1.2 with ⟨e, h0⟩ | ⟨g, cap, cur, e, _, _, hc, _⟩
  · injection e with _ e2 _; omega
  · injection e with _ e2 e3; omega
theorem PutSt.touch {wB W W' : World} {F F' : Nat → Prop} {t : Nat} {q : Option Addr} {m c : Nat} {gs : List (List UInt8)} (h : PutSt wB W F t q m c gs) (ht : Touch (WithT F t) W W') (hg : ∀ k, F' k → Grow F W W' k) : PutSt wB W' F' t q m c gs := by
  obtain ⟨Vs, h1, h2, h3⟩ := h.put
  refine ⟨⟨Vs, owns_block h1 (fun k hk => ht.block k (h1.lt k hk).2 (fun f => ?_)), fun k hk => ⟨fun f => ?_, (h2 k hk).2⟩, h3⟩, h.apart, h.len⟩
  · rcases f with f | f
    · exact (h2 k hk).1 f
    · exact h.apart k hk f
  · rcases hg k f with q1 | q1
    · exact (h2 k hk).1 q1
    · have := (h1.lt k hk).2; omega
theorem PutSt.far {wB W W' : World} {F : Nat → Prop} {t : Nat} {q : Option Addr} {m c : Nat} {gs : List (List UInt8)} (h : PutSt wB W F t q m c gs) (hb : Below W.heap.size W W') : PutSt wB W' F t q m c gs := h.touch (Touch.of_below hb) (fun _ hk => .inl hk)
/-- A row more. -/
theorem PutSt.push {wB U : World} {F : Nat → Prop} {t : Nat} {q : Option Addr} {m c : Nat} {gs : List (List UInt8)} {pa : Option Addr} {pc b : Nat} {s : ByteArray} (h : PutSt wB U F t q m c gs) (hs : HoldsB wB pa s) (hx : U.cell? ⟨b, 0, none⟩ = some (.slice pa s.size pc)) (hn : gs.length ≤ 1000000) (ht : t < U.heap.size) (hF : ∀ k, F k → k < U.heap.size) (hw : wB.heap.size ≤ U.heap.size) :
    ∃ q' c' w', (∀ ty, (Builtin.append_ #[28, 28] ty #[.slice q m c, .slice (some ⟨b, 0, none⟩) 1 1]).run Try.prog U = .ok (.slice q' (m + 1) c') w') ∧ PutSt wB w' F t q' (m + 1) c' (gs ++ [bl s]) ∧ U.grownBy w' (Value.slice q m c).ownBlock ∧ (∀ k, (Value.slice q m c).ownBlock = some k → ¬ F k ∧ k ≠ t ∧ wB.heap.size ≤ k) := by
  obtain ⟨Vs, h1, h2, h3⟩ := h.put
  have hl : (gs.map ofL).length = m := by rw [List.length_map, h.len]
  rw [hl] at h1
  obtain ⟨gv', w', hrun, hown, hgrow, hat⟩ := appR_one h1 hx rfl (by have := h.len; omega)
  obtain ⟨q', c', rfl, _⟩ := owns_form hown
  have hVl : Vs.length = m := by have := h1.1; omega
  refine ⟨q', c', w', hrun, ⟨⟨Vs ++ [.slice pa s.size pc], ?_, fun k hk => ?_, fun i hi => ?_⟩, fun k hk => ?_, by rw [List.length_append, h.len]; rfl⟩, hgrow, fun k hk => ⟨(h2 k hk).1, h.apart k hk, (h2 k hk).2⟩⟩
  · rw [List.length_map, List.length_append, List.length_singleton, ← h.len]; exact hown
  · rcases hat with e | e
    · exact h2 k (e ▸ hk)
    · rw [e] at hk
      injection hk with hk
      exact ⟨fun f => by have := hF k f; omega, by omega⟩
  · rw [List.length_map, List.length_append, List.length_singleton] at hi
    by_cases hil : i < m
    · obtain ⟨pa', pc', a1, a2⟩ := h3 i (by rw [hl]; exact hil)
      have e : ((gs ++ [bl s]).map ofL)[i]'(by rw [List.length_map, List.length_append]; exact hi) = (gs.map ofL)[i]'(by rw [hl]; exact hil) := by
        simp only [List.getElem_map]
        rw [List.getElem_append_left (by rw [← h.len]; exact hil)]
      rw [e]
      exact ⟨pa', pc', by rw [List.getElem?_append_left (by omega)]; exact a1, a2⟩
    · have him : i = gs.length := by have := h.len; omega
      subst him
      have e : ((gs ++ [bl s]).map ofL)[gs.length]'(by rw [List.length_map, List.length_append]; exact hi) = s := by
        simp only [List.getElem_map]
        rw [List.getElem_append_right (Nat.le_refl _)]
        simp only [Nat.sub_self, List.getElem_singleton]
        exact ofL_bl s
      rw [e]
      refine ⟨pa, pc, ?_, hs⟩
      rw [show gs.length = Vs.length by rw [hVl, h.len]]
      simp
  · rcases hat with e | e
    · exact h.apart k (e ▸ hk)
    · rw [e] at hk
      injection hk with hk
      omega
/-- A script's state, between its steps. -/
structure MainSt (wB W : World) (F : Nat → Prop) (G t : Nat) (M : DM) (gs : List (List UInt8)) (safe i : Nat) (q : Option Addr) (m c : Nat) : Prop where
  d : DW wB W F G 40 M
  inv : LInv M (logL 7 0 0 gs) (placesL (gs.take safe))
  tp : W.heap[t]? = some (.cells (tapeV G 2 40 7 gs.length (placesL gs) false) 118 (0, 0))
  ft : ¬ F t
  wt : wB.heap.size ≤ t
  p : PutSt wB W F t q m c gs
  sf : safe ≤ gs.length
  st : M.steps ≤ 1000 + 50 * i
  lo : M.loose.length ≤ 50 * i
  fu : M.fuse.getD 0 ≤ 9223372036854775807
theorem MainSt.room {wB W : World} {F : Nat → Prop} {G t : Nat} {M : DM} {gs : List (List UInt8)} {safe i : Nat} {q : Option Addr} {m c : Nat} (h : MainSt wB W F G t M gs safe i q m c) : placesL gs ≤ 38 := by
  have := h.inv.fl
  rwa [logL_length] at this
theorem MainSt.far {wB W W' : World} {F : Nat → Prop} {G t : Nat} {M : DM} {gs : List (List UInt8)} {safe i : Nat} {q : Option Addr} {m c : Nat} (h : MainSt wB W F G t M gs safe i q m c) (hb : Below W.heap.size W W') : MainSt wB W' F G t M gs safe i q m c :=
  ⟨h.d.on hb, h.inv, (hb.block _ (obj_lt h.tp)).trans h.tp, h.ft, h.wt, h.p.far hb, h.sf, h.st, h.lo, h.fu⟩
theorem MainSt.later {wB W : World} {F : Nat → Prop} {G t : Nat} {M : DM} {gs : List (List UInt8)} {safe i : Nat} {q : Option Addr} {m c : Nat} (h : MainSt wB W F G t M gs safe i q m c) : MainSt wB W F G t M gs safe (i + 1) q m c :=
  ⟨h.d, h.inv, h.tp, h.ft, h.wt, h.p, h.sf, by have := h.st; omega, by have := h.lo; omega, h.fu⟩
/-- The look. -/
theorem lasted_main {wB W : World} {F : Nat → Prop} {G t : Nat} {M : DM} {put : List (List UInt8)} {m0 safe : Nat} {q : Option Addr} {m c : Nat} (d : DW wB W F G 40 M) (inv : LInv M ((logL 7 0 0 put).take m0) (placesL (put.take safe))) (hm0 : m0 ≤ placesL put) (h38 : placesL put ≤ 38) (hs : safe ≤ put.length)
    (hp : PutSt wB W F t q m c put) (h1 : M.steps ≤ 100000000) (h2 : M.loose.length ≤ 1000000) (h3 : M.fuse.getD 0 ≤ 9223372036854775807)
    (kp : Option Addr) (keep : List Bool) (kc : Nat) (hk : HoldsT wB kp keep) (hk9 : keep.length ≤ 140737488351232) (hkn : kp = none → kc = 0) :
    Calls Try.prog 40 #[.pointer (some ⟨G, 0, none⟩), .slice q m c, .int .i64 (safe : Int), .slice kp keep.length kc] W fun e W' => e = .returned (.bool true) ∧ Below wB.heap.size wB W' := by
  have hl : ((logL 7 0 0 put).take m0).length = m0 := by rw [List.length_take, logL_length]; omega
  obtain ⟨w, w1, w2, w3⟩ := lasts_plain (inv.stood d.drum.ok keep) hm0 h38 hs (by have := inv.sp; rw [hl] at this; exact this)
  have hpl : put.length ≤ 38 := by
    have : ∀ gs : List (List UInt8), gs.length ≤ placesL gs := fun gs => by
      induction gs with
      | nil => exact Nat.le_refl _
      | cons l r ih => rw [placesL, List.length_cons]; have := countS_pos l.length; omega
    have := this put; omega
  exact lasted_any d h1 h2 h3 q m c (put.map ofL) (by rw [List.length_map, hp.len]) (by have := hp.len; omega) hp.cap hp.put safe kp keep kc hk hk9 hkn w (by rw [hp.len]; exact w1) w2 (by rw [w3, List.map_take])
theorem MainSt.look {wB W : World} {F : Nat → Prop} {G t : Nat} {M : DM} {gs : List (List UInt8)} {safe i : Nat} {q : Option Addr} {m c : Nat} (h : MainSt wB W F G t M gs safe i q m c) (hi : i ≤ 100)
    (kp : Option Addr) (keep : List Bool) (kc : Nat) (hk : HoldsT wB kp keep) (hk9 : keep.length ≤ 140737488351232) (hkn : kp = none → kc = 0) :
    Calls Try.prog 40 #[.pointer (some ⟨G, 0, none⟩), .slice q m c, .int .i64 (safe : Int), .slice kp keep.length kc] W fun e W' => e = .returned (.bool true) ∧ Below wB.heap.size wB W' :=
  lasted_main (m0 := placesL gs) h.d (by rw [List.take_of_length_le (by rw [logL_length]; exact Nat.le_refl _)]; exact h.inv) (Nat.le_refl _) h.room h.sf h.p (by have := h.st; omega) (by have := h.lo; omega) h.fu kp keep kc hk hk9 hkn
theorem log_more (gs : List (List UInt8)) (l : List UInt8) (k : Nat) : (logL 7 0 0 (gs ++ [l])).take (placesL gs + k) = logL 7 0 0 gs ++ (groupL 7 (placesL gs) gs.length l).take k := by
  have e1 : logL 7 (0 + placesL gs) (0 + gs.length) [l] = groupL 7 (placesL gs) gs.length l := by
    rw [Nat.zero_add, Nat.zero_add, logL, logL, List.append_nil]
  have hl : (logL 7 0 0 gs).length = placesL gs := logL_length 7 gs 0 0
  rw [logL_append, e1, List.take_append, hl, List.take_of_length_le (by omega), show placesL gs + k - placesL gs = k by omega]
theorem take_safe (gs : List (List UInt8)) (l : List UInt8) {safe : Nat} (h : safe ≤ gs.length) : placesL ((gs ++ [l]).take safe) = placesL (gs.take safe) := by rw [List.take_append_of_le_length h]
theorem MainSt.laid {wB W : World} {F : Nat → Prop} {G t : Nat} {M : DM} {gs : List (List UInt8)} {safe i : Nat} {q : Option Addr} {m c : Nat} (h : MainSt wB W F G t M gs safe i q m c) (l : List UInt8) (hfit : placesL gs + countS l.length ≤ 38) (k : Nat) (hk : k ≤ countS l.length)
    (on : ∀ j, j < k → (laidM M 2 (placesL gs) 7 gs.length (countS l.length) l j).off = false) : LInv (laidM M 2 (placesL gs) 7 gs.length (countS l.length) l k) ((logL 7 0 0 (gs ++ [l])).take (placesL gs + k)) (placesL ((gs ++ [l]).take safe)) := by
  have hl : (logL 7 0 0 gs).length = placesL gs := logL_length 7 gs 0 0
  have h1 := h.inv.laid h.d.drum.ok gs.length l k (by rw [hl]; omega) hk (by rw [hl]; exact on)
  rw [hl] at h1
  rw [log_more, take_safe gs l h.sf]
  exact h1.1
theorem MainSt.more {wB W W8 : World} {F F8 : Nat → Prop} {G t : Nat} {M : DM} {gs : List (List UInt8)} {safe i : Nat} {q q' : Option Addr} {m c m' c' : Nat} (h : MainSt wB W F G t M gs safe i q m c) (l : List UInt8) (hfit : placesL gs + countS l.length ≤ 38)
    (on : ∀ j, j < countS l.length → (laidM M 2 (placesL gs) 7 gs.length (countS l.length) l j).off = false)
    (d : DW wB W8 F8 G 40 (laidM M 2 (placesL gs) 7 gs.length (countS l.length) l (countS l.length))) (tp : W8.heap[t]? = some (.cells (tapeV G 2 40 7 (gs.length + 1) (placesL gs + countS l.length) false) 118 (0, 0))) (ft : ¬ F8 t)
    (p : PutSt wB W8 F8 t q' m' c' (gs ++ [l])) : MainSt wB W8 F8 G t (laidM M 2 (placesL gs) 7 gs.length (countS l.length) l (countS l.length)) (gs ++ [l]) safe (i + 1) q' m' c' := by
  have hpl : placesL (gs ++ [l]) = placesL gs + countS l.length := by rw [placesL_append, placesL, placesL]; rfl
  have hb := laid_bounds M 2 (placesL gs) 7 gs.length (countS l.length) l (countS l.length)
  have hi := h.laid l hfit _ (Nat.le_refl _) on
  rw [List.take_of_length_le (by rw [logL_length, hpl]; exact Nat.le_refl _)] at hi
  refine ⟨d, hi, ?_, ft, h.wt, p, by rw [List.length_append]; exact Nat.le_succ_of_le h.sf, ?_, ?_, Nat.le_trans hb.2.1 h.fu⟩
  · rw [hpl, List.length_append]; exact tp
  · have := h.st; omega
  · have := h.lo; omega
theorem DW.past {wB W W' : World} {F : Nat → Prop} {G N : Nat} {M : DM} {v : Value} (d : DW wB W F G N M) (ht : Touch (fun k => v.ownBlock = some k) W W') (hv : ∀ k, v.ownBlock = some k → ¬ F k ∧ wB.heap.size ≤ k) : DW wB W' F G N M :=
  ⟨d.drum.kept (fun j hj => ht.block j (d.drum.lt j hj) (fun e => (hv j e).1 hj)) ht.size, d.below.trans (ht.below (fun j hj => (hv j hj).2) d.below.size), d.since⟩
theorem MainSt.flushed {wB W W8 : World} {F : Nat → Prop} {G t : Nat} {M : DM} {gs : List (List UInt8)} {safe i : Nat} {q : Option Addr} {m c : Nat} (h : MainSt wB W F G t M gs safe i q m c) (hoff : M.off = false) (d : DW wB W8 F G 40 M.flush) (tt : Touch F W W8) :
    MainSt wB W8 F G t M.flush gs gs.length (i + 1) q m c := by
  have hi := h.inv.flush hoff
  rw [logL_length] at hi
  refine ⟨d, by rw [List.take_of_length_le (Nat.le_refl _)]; exact hi, (tt.block t (obj_lt h.tp) h.ft).trans h.tp, h.ft, h.wt, h.p.touch (tt.mono (fun j hj => .inl hj)) (fun k hk => .inl hk), Nat.le_refl _, ?_, ?_, ?_⟩
  · rw [M.flush_yes hoff]
    show M.step.steps ≤ _
    rw [M.step_steps hoff]; have := h.st; omega
  · rw [M.flush_yes hoff]; exact Nat.zero_le _
  · rw [M.flush_yes hoff]
    show M.step.fuse.getD 0 ≤ _
    rw [M.step_fuse hoff]
    have := h.fu
    cases hf : M.fuse with
    | none => exact Nat.zero_le _
    | some k =>
      rw [hf, Option.getD_some] at this
      rw [Option.map_some, Option.getD_some]
      omega
theorem MainSt.fused {wB W W8 : World} {F : Nat → Prop} {G t : Nat} {M : DM} {gs : List (List UInt8)} {safe i : Nat} {q : Option Addr} {m c k : Nat} (h : MainSt wB W F G t M gs safe i q m c) (hk : k ≤ 9223372036854775807) (d : DW wB W8 F G 40 (M.fused k)) (tt : Touch (Only G) W W8) :
    MainSt wB W8 F G t (M.fused k) gs safe (i + 1) q m c := by
  have tF : Touch F W W8 := tt.mono (only_F h.d.drum.fG)
  exact ⟨d, h.inv.same rfl rfl, (tF.block t (obj_lt h.tp) h.ft).trans h.tp, h.ft, h.wt, h.p.touch (tF.mono (fun j hj => .inl hj)) (fun k hk => .inl hk), h.sf, by have := h.st; show M.steps ≤ _; omega, by have := h.lo; show M.loose.length ≤ _; omega, hk⟩
end Go.Proofs.Ytggchfmglaijgaa
