/- Proved here: what Write makes of a drum. -/
import Derived.Test.YtlkffignbjpfcaaDrumFill
import Derived.Deep.AppendLies
namespace Go.Proofs.Ytlkffignbjpfcaa
open Go.RowKit

theorem step_of {P : Program} {ops : Array Oper} {o : Oper} {a : Act} {w : World} {K : Act → World → Prop} {Q : Exit → Act → World → Prop} {E : Prop} (hgd : o.guard = none) (h : Oper.wp P o a w K Q) :
    if Region.wanted o (yielded ops a.tmps) = true then Oper.wp P o a w K Q else E := by
  rw [if_pos (by simp [Region.wanted, hgd])]
  exact h
theorem wp_append_eq {P : Program} {w : World} {o : Oper} {a : Act} {K : Act → World → Prop} {Q : Exit → Act → World → Prop} (s x : Operand) (t : TypeId)
    (ho : o.op = .call { callee := .builtin .append, args := #[s, x], argTypes := #[t, t] }) (v u v' : Value) (w' : World) (hs : a.eval s = v) (hx : a.eval x = u)
    (hrun : ∀ ty, (Builtin.append_ #[t, t] ty #[v, u]).run P w = .ok v' w')
    (h : K (a.put o.dst v') w') : Oper.wp P o a w K Q := by
  have hr := hrun o.type
  unfold Oper.wp
  simp [execOp, ho, resolve, invoke, builtin, hs, hx, hr, Result.andThen]
  exact h
theorem range_set {w : World} {b o : Nat} {cs : List Value} (h : w.rangeAt b o cs) {p : Addr} (hne : b ≠ p.block) (v : Value) : (w.setCell p v).rangeAt b o cs := range_block h (Below.heap_setCell w p v b hne)
/-- A Write before its bytes are copied. -/
def bareV (n : Nat) : List Value := Value.int .i64 (n : Int) :: zRow
theorem bare_of (n : Nat) : zWrite.setIfInBounds 0 (Value.int .i64 (n : Int)) = (bareV n).toArray := by
  simp [zWrite, bareV, zRow]
theorem bareV_length (n : Nat) : (bareV n).length = 65 := by simp [bareV, zRow]
theorem bareV_one (n : Nat) : ∀ v ∈ bareV n, v.oneCell' = true := by
  intro v hv
  rcases List.mem_cons.1 hv with rfl | h
  · rfl
  · rw [(List.mem_replicate.1 h).2]; rfl
theorem store_write (w : World) (n : Nat) : (Instr.storeAt 87 (.pointer (some ⟨w.heap.size, 0, none⟩)) (.agg (zWrite.setIfInBounds 0 (Value.int .i64 (n : Int))))).run Try.prog (w.alloc (.cells zWrite 87)) = .ok () (w.alloc (.cells (bareV n).toArray 87)) := by
  have hzs := (zero_of_info infoWrite).2
  rw [bare_of]
  exact run_storeAt_new w _ _ _ (by rw [hzs]; simp [bareV_length]) (by rw [show zWrite.size = 65 from rfl]; simp [bareV_length]) (all_oneCell_toArray (bareV_one n))
/-- Bytes copied over the nothing behind a Write's number. -/
theorem bytesV_zero (k : Nat) : bytesV (zeroB k) = List.replicate k (Value.int .u8 0) := by
  simp only [bytesV, zeroB, List.map_replicate]
  rfl
theorem splice_bare (n : Nat) (s : ByteArray) (hs : s.size ≤ 64) : splice (bareV n) 1 (bytesV s) = writeV (n, fullB s) := by
  unfold splice bareV writeV fullB zRow
  rw [bytesV_append, bytesV_zero, bytesV_length]
  simp only [List.take_succ_cons, List.take_zero, List.cons_append, List.nil_append, List.drop_succ_cons, Nat.add_comm 1 s.size, List.drop_replicate]
theorem HoldsB.touch {W W' : World} {F : Nat → Prop} {p : Option Addr} {s : ByteArray} (h : HoldsB W p s) (ht : Touch F W W') (hsep : ∀ a, p = some a → ¬ F a.block) : HoldsB W' p s := fun h0 => by
  obtain ⟨b, off, e, hc⟩ := h h0
  refine ⟨b, off, e, fun j hj => ?_⟩
  have h1 := hc j hj
  rw [World.cell?_of_block (w := W) (ht.block b (World.block_lt_of_cell? W _ h1) (hsep _ e))]
  exact h1
theorem keep_laid {G i H g o k : Nat} {v : Value} {P R : List Value} (h1 : G ≠ g) (h2 : H ≠ g) (w' : World) (hs : w'.cell? ⟨G, i, none⟩ = some v ∧ w'.rangeAt H 1 P ∧ w'.there g o k) :
    (w'.setCells g o R).cell? ⟨G, i, none⟩ = some v ∧ (w'.setCells g o R).rangeAt H 1 P ∧ (w'.setCells g o R).there g o k :=
  ⟨by rw [World.cell?_of_block (w := w') (heap_setCells g R o w' G h1)]; exact hs.1, World.rangeAt_setCells_apart hs.2.1 _ _ _ (.inl h2), World.there_setCells hs.2.2 _ _ _⟩
theorem infoWrite3 : (Try.prog.info? 87).map (fun i => (i.zero, i.size, i.bytes)) = some (some (.agg zWrite), 65, 72) := by kernel_rfl
/-- A drum's pieces where nothing of them was touched but a sector as it was written last. -/
theorem HalfAt.wrote {W W2 : World} {G N : Nat} {nw sf : List ByteArray} {lo : List (Nat × ByteArray)} {x3 x4 x5 x6 : Value} {gn gs cn cs : Nat} {q : Option Addr} {c : Nat} (h : HalfAt W G N nw sf lo x3 x4 x5 x6 gn gs cn cs q c) (hb : Below W.heap.size W W2) {n : Nat} {p : ByteArray} (hn : n < N) (hp : p.size = 64) :
    HalfAt (W2.drew.setCells gn (n * 64) (bytesV p)) G N (nw.set n p) sf lo x3 x4 x5 x6 gn gs cn cs q c ∧ Touch (Only gn) W (W2.drew.setCells gn (n * 64) (bytesV p)) := by
  have hT : Touch (Only gn) W (W2.drew.setCells gn (n * 64) (bytesV p)) := ((Touch.of_below hb).drew).sets (F := Only gn) rfl _ _
  have hgn := rows_lt h.now h.big.2.2.2
  have hgs := rows_lt h.safe h.big.2.2.2
  have hq : ∀ k, (Value.slice q lo.length c).ownBlock = some k → k < W.heap.size := fun k hk => (h.loose.lt k hk).2
  have hsame : ∀ k, k < W.heap.size → k ≠ gn → (W2.drew.setCells gn (n * 64) (bytesV p)).heap[k]? = W.heap[k]? := fun k hk hne => hT.block k hk hne
  have hs0 : RowsAt W2.drew gn N nw := h.now.block (hb.block gn hgn)
  exact ⟨⟨(hsame G (block_lt h.blk) h.apart.1).trans h.blk, hs0.set hn hp, h.safe.block (hsame gs hgs (fun e => h.apart.2.2.1 e.symm)), owns_block h.loose (fun k hk => hsame k (hq k hk) (h.apart.2.2.2 k hk).2.1), h.at_, h.apart, h.big⟩, hT⟩
/-- A Write more is loose. -/
theorem HalfAt.more {W3 W5 W6 : World} {F : Nat → Prop} {G N : Nat} {nw sf : List ByteArray} {lo : List (Nat × ByteArray)} {x3 x4 x5 x6 : Value} {gn gs cn cs : Nat} {q : Option Addr} {c : Nat} (h : HalfAt W3 G N nw sf lo x3 x4 x5 x6 gn gs cn cs q c)
    (M : DM) (x : Nat × ByteArray) (hok : M.Ok N) (hs : M.safe = sf) (hl : M.loose = lo ++ [x]) (hnw : M.now = nw) (fG : F G) (fn : F gn) (fs : F gs) (lt : ∀ k, F k → k < W3.heap.size)
    (g cap : Nat) (hz5 : W3.heap.size ≤ W5.heap.size) (h5 : ∀ k, k < W3.heap.size → some k ≠ (Value.slice q lo.length c).ownBlock → W5.heap[k]? = W3.heap[k]?) (hown : W5.ownsRow 0 87 65 (.slice (some ⟨g, 0, none⟩) (lo.length + 1) cap) (lo.length + 1) (loosesV lo ++ writeV x))
    (hat : (Value.slice q lo.length c).ownBlock = some g ∨ W3.heap.size ≤ g) (hlt : g < W5.heap.size) (ho : ∀ k, k ≠ G → W6.heap[k]? = W5.heap[k]?) (hz : W6.heap.size = W5.heap.size)
    (hb : W6.heap[G]? = some (.cells #[.slice (some ⟨gn, 0, none⟩) N cn, .slice (some ⟨gs, 0, none⟩) N cs, .slice (some ⟨g, 0, none⟩) (lo.length + 1) cap, .int .i64 (M.steps : Int), .bool M.fuse.isSome, .int .i64 ((M.fuse.getD 0 : Nat) : Int), .bool M.down] 76)) :
    Drum W6 (fun k => F k ∨ k = g) G N M := by
  have hgn := rows_lt h.now h.big.2.2.2
  have hgs := rows_lt h.safe h.big.2.2.2
  have hG := block_lt h.blk
  have hll : M.loose.length = lo.length + 1 := by rw [hl]; simp
  have hgo : g ≠ G ∧ g ≠ gn ∧ g ≠ gs := by
    rcases hat with h1 | h1
    · exact h.apart.2.2.2 g h1
    · exact ⟨by omega, by omega, by omega⟩
  have hnq : ∀ k, k < W3.heap.size → (∀ j, (Value.slice q lo.length c).ownBlock = some j → j ≠ k) → W6.heap[k]? = W3.heap[k]? ∨ k = G := fun k hk hne => by
    by_cases e : k = G
    · exact .inr e
    · exact .inl ((ho k e).trans (h5 k hk (fun e' => hne k e'.symm rfl)))
  have en : W6.heap[gn]? = W3.heap[gn]? := by
    rcases hnq gn hgn (fun j hj => (h.apart.2.2.2 j hj).2.1) with e | e
    · exact e
    · exact absurd e.symm h.apart.1
  have es : W6.heap[gs]? = W3.heap[gs]? := by
    rcases hnq gs hgs (fun j hj => (h.apart.2.2.2 j hj).2.2) with e | e
    · exact e
    · exact absurd e.symm h.apart.2.1
  refine ⟨gn, gs, cn, cs, some ⟨g, 0, none⟩, cap, ⟨by rw [hll]; exact hb, hok, by rw [hnw]; exact h.now.block en, by rw [hs]; exact h.safe.block es, ?_, .inl fG, .inl fn, .inl fs, ?_, ?_, ⟨h.apart.1, h.apart.2.1, h.apart.2.2.1, ?_⟩, h.big, fun e => by rw [hl] at e; simp at e⟩⟩
  · rw [hll, hl, loosesV_snoc]
    exact owns_block hown (fun k hk => by
      have : k = g := by injection hk with e; exact e.symm
      subst this
      exact ho k hgo.1)
  · intro k hk
    injection hk with e
    exact .inr e.symm
  · intro k hk
    rcases hk with hk | rfl
    · have := lt k hk; omega
    · omega
  · intro k hk
    have : k = g := by injection hk with e; exact e.symm
    subst this
    exact hgo
theorem DM.Ok.snoc {M : DM} {N n : Nat} {s : ByteArray} (h : M.step.Ok N) (hn : n < N) (hs : s.size ≤ 64) : DM.Ok { M.step with loose := M.loose ++ [(n, fullB s)] } N := by
  refine ⟨h.len, h.row, fun x hx => ?_⟩
  rcases List.mem_append.1 hx with h1 | h1
  · exact h.at_ x (by rw [DM.step_loose]; exact h1)
  · rw [List.mem_singleton.1 h1]
    exact ⟨hn, fullB_size hs⟩
theorem write_end {W W1 W3 W4 w2 w5 : World} {F : Nat → Prop} {G N n gn gs cn cs c L g cap5 : Nat} {q : Option Addr} {M : DM} {s : ByteArray} {WV : List Value} (hoff : Hid (M.off = false))
    (hwr : (HalfAt W3 G N (M.now.set n (fullB s)) M.safe M.loose (.int .i64 (M.step.steps : Int)) (.bool M.step.fuse.isSome) (.int .i64 ((M.step.fuse.getD 0 : Nat) : Int)) (.bool M.step.down) gn gs cn cs q c ∧ Touch (Only gn) W1 W3) ∧ M.loose.length = L ∧ writeV (n, fullB s) = WV ∧ W3.heap.size = w2.heap.size)
    (h5 : w5.ownsRow 0 87 65 (.slice (some ⟨g, 0, none⟩) (L + 1) cap5) (L + 1) (loosesV M.loose ++ WV) ∧ W4.grownBy w5 (Value.slice q L c).ownBlock ∧ ((Value.slice q L c).ownBlock = some g ∨ W3.heap.size ≤ g) ∧ g < w5.heap.size ∧ (∀ k, k < W3.heap.size → some k ≠ (Value.slice q L c).ownBlock → w5.heap[k]? = W3.heap[k]?) ∧ W3.heap.size ≤ w5.heap.size ∧
      w5.heap[G]? = some (.cells #[.slice (some ⟨gn, 0, none⟩) N cn, .slice (some ⟨gs, 0, none⟩) N cs, .slice q M.loose.length c, .int .i64 (M.step.steps : Int), .bool M.step.fuse.isSome, .int .i64 ((M.step.fuse.getD 0 : Nat) : Int), .bool M.step.down] 76))
    (h4 : W4.os = W3.os ∧ W4.tape = W3.tape ∧ W4.output = W3.output)
    (hT : Touch (Only G) W W1 ∧ W1.heap.size = W.heap.size)
    (hF : (∀ k, (Value.slice q M.loose.length c).ownBlock = some k → F k) ∧ F gn ∧ F gs ∧ F G ∧ (∀ k, F k → k < W1.heap.size) ∧ M.step.Ok N) (hn : n < N) (hs : s.size ≤ 64) :
    Ending.returned (.int .i64 0) = .returned (.int .i64 0) ∧ ∃ F', Drum (w5.setCell ⟨G, 2, none⟩ (.slice (some ⟨g, 0, none⟩) (L + 1) cap5)) F' G N (M.write n s) ∧ Touch F W (w5.setCell ⟨G, 2, none⟩ (.slice (some ⟨g, 0, none⟩) (L + 1) cap5)) ∧ ∀ k, F' k → Grow F W (w5.setCell ⟨G, 2, none⟩ (.slice (some ⟨g, 0, none⟩) (L + 1) cap5)) k := by
  obtain ⟨⟨hh, ht3⟩, hL, hWV, _⟩ := hwr
  obtain ⟨hown, hgr, hat, hlt, hb5, hz5, hG5⟩ := h5
  obtain ⟨fq, fn, fs, fG, lt, ok⟩ := hF
  subst hL hWV
  have hm : M.write n s = { M.step with loose := M.loose ++ [(n, fullB s)] } := by unfold DM.write; rw [hoff.out]; rfl
  have hnow : DM.now { M.step with loose := M.loose ++ [(n, fullB s)] } = M.now.set n (fullB s) := by
    show layM M.step.safe (M.loose ++ [(n, fullB s)]) = _
    rw [DM.step_safe, layM_snoc]; rfl
  have t1 : Touch F W W3 := (hT.1.mono (only_F fG)).trans (ht3.mono (only_F fn)) (fun k hk => .inl hk)
  have t5 : Touch F W w5 := by
    refine ⟨(hgr.os.trans h4.1).trans t1.os, (hgr.tape.trans h4.2.1).trans t1.tape, (hgr.output.trans h4.2.2).trans t1.output, Nat.le_trans t1.size hz5, fun k hk hf => ?_⟩
    exact (hb5 k (Nat.lt_of_lt_of_le hk t1.size) (fun e => hf (fq k e.symm))).trans (t1.block k hk hf)
  refine ⟨rfl, fun k => F k ∨ k = g, ?_, t5.set (p := ⟨G, 2, none⟩) fG _, fun k hk => ?_⟩
  · rw [hm]
    exact hh.more _ (n, fullB s) (DM.Ok.snoc ok hn hs) (by exact DM.step_safe M) rfl hnow fG fn fs (fun k hk => Nat.lt_of_lt_of_le (lt k hk) ht3.size) g cap5 hz5 hb5 hown hat hlt set_other set_size (u_row (k := 2) _ hG5)
  · rcases hk with hk | rfl
    · exact .inl hk
    · rcases hat with h1 | h1
      · exact .inl (fq _ h1)
      · refine .inr ⟨Nat.le_trans t1.size h1, ?_⟩
        rw [set_size]; exact hlt
set_option maxRecDepth 100000 in
set_option maxHeartbeats 8000000 in
theorem write_ok (W : World) (F : Nat → Prop) (G N : Nat) (M : DM) (h : Drum W F G N M) (hst : M.steps ≤ 4611686018427387904) (hfu : M.fuse.getD 0 ≤ 9223372036854775807) (hoff : M.off = false) (n : Nat) (hn : n < N)
    (p : Option Addr) (s : ByteArray) (cap : Nat) (hp : HoldsB W p s) (hs : s.size ≤ 64) (hsep : ∀ a, p = some a → ¬ F a.block) (hlo : (M.loose.length + 1) * 72 ≤ 140737488355328) :
    Calls Try.prog 23 #[.pointer (some ⟨G, 0, none⟩), .int .i64 (n : Int), .slice p s.size cap] W fun e W' => e = .returned (.int .i64 0) ∧ ∃ F', Drum W' F' G N (M.write n s) ∧ Touch F W W' ∧ ∀ k, F' k → Grow F W W' k := by
  have HY := Lib.hid (has_yes W F G N M h n hn)
  have ST := Lib.hid (step_ok W F G N M h hst hfu hoff)
  have HO2 := Lib.hid hoff
  have hn0 : (0 : Int) ≤ (n : Int) := by omega
  have hn1 : (n : Int) < (N : Int) := by omega
  have hs1 : (s.size : Int) ≤ 64 := by omega
  obtain ⟨hz, hzs⟩ := zero_of_info infoWrite
  have HF : Hid (∀ k, Only G k → F k) := by
    obtain ⟨gn, gs, cn, cs, q, c, hd⟩ := h
    exact only_F hd.fG
  have HZ := Lib.hid hzs
  clear h hst hfu hoff hzs
  go_enter Try.func23, Try.ntmps23
  go_wp2_with (fail)
  refine (HY.out).mono ?_
  rintro e W1 ⟨rfl, rfl⟩
  go_wp2_with (fail)
  refine (ST.out).mono ?_
  rintro e W1 ⟨rfl, hD, hT, hz'⟩
  have hp1 := hp.touch hT (fun a ha hf => hsep a ha (HF.out a.block hf))
  obtain ⟨gn, gs, cn, cs, q, c, hd⟩ := hD
  have hh := hd.half
  rw [M.step_now, M.step_safe, M.step_loose] at hh
  have HH := Lib.hid hh
  have HD := Lib.hid hd
  have HT := Lib.hid (And.intro hT hz')
  have hfs : (fullB s).size = 64 := fullB_size hs
  have hbs : (bytesV s).length = s.size := bytesV_length s
  have hsrc : ∀ j v, (bytesV s)[j]? = some v → ∃ ad, p = some ad ∧ (W1.alloc (.cells (bareV n).toArray 87)).cell? (ad.add j) = some v := fun j v hv => by
    have hj : j < s.size := by have := (List.getElem?_eq_some_iff.1 hv).1; omega
    obtain ⟨b, off, e, hc⟩ := hp1 (by omega)
    refine ⟨⟨b, off, none⟩, e, ?_⟩
    rw [Addr.add_mid, bytesV_get s j hj] at *
    rw [← hv, World.cell?_alloc_lt _ _ _ (World.block_lt_of_cell? _ _ (hc j hj))]
    exact hc j hj
  have hpos : 0 < (bytesV s).length → ∃ ad, p = some ad ∧ ∀ j v, (bytesV s)[j]? = some v → (W1.alloc (.cells (bareV n).toArray 87)).cell? (ad.add j) = some v := fun h0 => by
    obtain ⟨b, off, e, hc⟩ := hp1 (by omega)
    refine ⟨⟨b, off, none⟩, e, fun j v hv => ?_⟩
    obtain ⟨ad, e', h'⟩ := hsrc j v hv
    rw [e] at e'
    injection e' with e'
    rw [e']
    exact h'
  have HP := Lib.hid hpos
  have hs1' : (Try.prog.info? 5).map (·.size) = some 1 := by kernel_rfl
  have hfit : 1 + (bytesV s).length ≤ (bareV n).length := by rw [hbs, bareV_length]; omega
  have hmin : (bytesV s).length = Nat.min s.size 64 := by rw [hbs]; show s.size = min s.size 64; omega
  have HX := Lib.hid (And.intro hs1' (And.intro hfit (And.intro hmin hfs)))
  have hst := Lib.hid (store_write W1 n)
  have hg : (W1.alloc (.cells (bareV n).toArray 87)).heap[W1.heap.size]? = some (.cells (bareV n).toArray 87 (0, 0)) := heap_alloc_new _ _
  have HG := Lib.hid hg
  clear hT hz' hp hp1 hsep hd hh hfs hbs hsrc hpos hs1' hfit hmin hg
  go_wp2_with (first | (refine wpList_store_eq rfl 87 (.tmp 8) (.tmp 27) rfl (.pointer (some ⟨W1.heap.size, 0, none⟩)) (.agg (zWrite.setIfInBounds 0 (Value.int .i64 (n : Int)))) rfl rfl hst.out ?_) | (refine wpList_copy_splice rfl (.tmp 29) (.tmp 30) 33 33 rfl 5 Try.underlying33 HX.out.1 (some ⟨W1.heap.size, 1, none⟩) p 64 64 s.size cap rfl rfl W1.heap.size 1 (bareV n) 87 HG.out (bytesV s) HX.out.2.2.1 (fun h0 => ⟨rfl, HP.out h0⟩) HX.out.2.1 (bytesV_one s) W1.heap.size W1 ((Below.refl _ _).alloc (Nat.le_refl _) _) (Nat.le_refl _) ?_))
  intro w2 hw2 hb2
  have HB2 := Lib.hid hb2
  have hw2' := hw2.out
  rw [splice_bare n s hs] at hw2'
  have HW2 := Lib.hid hw2'
  have hgn := HD.out.lt gn HD.out.fn
  have hGl := HD.out.lt G HD.out.fG
  obtain ⟨P1, hP1⟩ : ∃ P1, bytesV (fullB s) = P1 := ⟨_, rfl⟩
  have hpl : P1.length = 64 := by rw [← hP1, bytesV_len HX.out.2.2.2]
  have hp1 : ∀ v ∈ P1, v.oneCell' = true := by rw [← hP1]; exact bytesV_one _
  have c0 : w2.cell? ⟨G, 0, none⟩ = some (.slice (some ⟨gn, 0, none⟩) N cn) := by
    rw [World.cell?_of_block (w := W1) (hb2.block G hGl)]
    exact HD.out.cells.1
  have r1 : w2.rangeAt W1.heap.size 1 P1 := fun j v hv => by
    rw [cell_of_row _ _ _ _ _ _ hw2', Nat.add_comm 1 j]
    show (Value.int .i64 (n : Int) :: bytesV (fullB s)).toArray[j + 1]? = _
    rw [hP1]
    simpa using hv
  have t1 : w2.there gn (n * 64) 64 := there_block (HH.out.now.there hn) (hb2.block gn hgn)
  have hHgn : W1.heap.size ≠ gn := by omega
  have KX := Lib.hid (fun w' => keep_laid (i := 0) (k := 64) (v := .slice (some ⟨gn, 0, none⟩) N cn) (P := P1) (R := P1) (o := n * 64) HD.out.apart.1 hHgn w')
  have hu := Try.underlying84
  have hi : (Try.prog.info? 84).map (·.size) = some P1.length := by rw [sizeSector, hpl]
  have hN1 : (N : Int) ≤ 16384 := by have := HD.out.big.1; omega
  have HP1 := Lib.hid hP1
  clear hw2 hb2 hw2' hP1 hst
  go_wp2_with (fail)
  go_region_held3 (fun w' => w'.cell? ⟨G, 0, none⟩ = some (.slice (some ⟨gn, 0, none⟩) N cn) ∧ w'.rangeAt W1.heap.size 1 P1 ∧ w'.there gn (n * 64) 64)
    (first | assumption | exact KX.out _ (by assumption) | (refine KX.out _ ?_; assumption) | go_keep_ranges | go_keep | ((go_split_ands; refine ⟨?_, ?_, ?_⟩ <;> first | go_keep_ranges | go_keep))) (fail)
  have hFq := HD.out.fq
  rw [M.step_loose] at hFq
  have HFq := Lib.hid (And.intro hFq (And.intro HD.out.fn (And.intro HD.out.fs (And.intro HD.out.fG (And.intro HD.out.lt HD.out.ok)))))
  clear hFq
  have hwr := HH.out.wrote HB2.out hn HX.out.2.2.2
  rw [HP1.out] at hwr
  obtain ⟨W3, hW3⟩ : ∃ W3, w2.drew.setCells gn (n * 64) P1 = W3 := ⟨_, rfl⟩
  rw [hW3] at hwr ⊢
  have hh3 : W3.heap[W1.heap.size]? = some (.cells (writeV (n, fullB s)).toArray 87) := by
    rw [← hW3, heap_setCells _ _ _ _ _ hHgn]
    exact HW2.out
  have hz3 : W3.heap.size = w2.heap.size := by rw [← hW3, size_setCells]; rfl
  obtain ⟨WV, hWV⟩ : ∃ WV, writeV (n, fullB s) = WV := ⟨_, rfl⟩
  rw [hWV] at hh3
  have hwl : WV.length = 65 := by rw [← hWV, writeV, List.length_cons, bytesV_len HX.out.2.2.2]
  have hw1 : ∀ v ∈ WV, v.oneCell' = true := by rw [← hWV]; exact writeV_one _
  obtain ⟨L, hL⟩ : ∃ L, M.loose.length = L := ⟨_, rfl⟩
  have hb3 := hwr.1.blk
  have c2 : W3.cell? ⟨G, 2, none⟩ = some (.slice q L c) := by rw [cell_of_row _ _ _ _ _ _ hb3, ← hL]; rfl
  have f2 : W3.frozen? ⟨G, 2, none⟩ = false := frozen_of_row _ _ _ _ _ hb3
  have hG3 := block_lt hb3
  have hown := hwr.1.loose
  rw [hL] at hown hlo
  have HO := Lib.hid hown
  have r3 : W3.rangeAt W1.heap.size 0 WV := fun j v hv => by
    rw [cell_of_row _ _ _ _ _ _ hh3, Nat.zero_add]
    simpa using hv
  have hGH : W1.heap.size ≠ G := by omega
  have hh3x := Lib.hid hh3
  have HWR := Lib.hid (And.intro hwr (And.intro hL (And.intro hWV hz3)))
  obtain ⟨i0, hi0, hz0, hz1, hz2⟩ := info_parts infoWrite3
  have hfill : Instr.fill (fun i => some (i * i0.size, i0.size)) ((Array.range (1 * i0.size)).map ((Value.agg zWrite).cells[· % (Value.agg zWrite).cells.size]!)) [(0, .agg WV.toArray)] = some WV.toArray := by
    rw [hz1, ← hwl]
    exact fill_one _ WV (by simp)
  have HFI := Lib.hid hfill
  have hu5 := Try.underlying87
  have hi5 : (Try.prog.info? 87).map (·.size) = some WV.length := by rw [HZ.out, hwl]
  have hqG : ∀ k, (Value.slice q L c).ownBlock = some k → k ≠ G ∧ k ≠ W1.heap.size := fun k hk => by
    have h1 := HH.out.apart.2.2.2 k (by rw [hL]; exact hk)
    have h2 := (HH.out.loose.lt k (by rw [hL]; exact hk)).2
    exact ⟨h1.1, by omega⟩
  have HQ := Lib.hid hqG
  have HI := Lib.hid (And.intro hi0 (And.intro hz0 (And.intro hz1 hz2)))
  have HL3 := Lib.hid hlo
  have d2 : (W3.alloc (.cells WV.toArray 87)).cell? ⟨G, 2, none⟩ = some (.slice q L c) := by
    rw [World.cell?_alloc_past _ _ _ hG3]; exact c2
  clear hwr hW3 hh3 hz3 hWV hL hb3 hown hqG hi0 hz0 hz1 hz2 hfill hlo r1 t1 c0 hi hu hp1 hpl HG HP hs1
  go_wp2_with (fail)
  refine wp_region_held_drew (S := fun W => W.rangeAt W1.heap.size 0 WV) (by kernel_rfl) (range_block r3 rfl) (fun hHeld => ?_)
  refine wpAnyH_take (i := 0) (oi := _) (v := ?va0) rfl (by kernel_rfl) (by kernel_rfl) (by kernel_rfl) (fun _ _ _ h => h) (Or.inl ⟨by rfl, ?hya0⟩) (by assumption) ?resta0
  case hya0 =>
    intro w hSw
    clear hSw
    go_simp
    try (with_reducible rfl)
  try simp only [Act.put, List.getElem_toArray, List.getElem_cons_zero, List.getElem_cons_succ, List.setIfInBounds_toArray, List.set_cons_zero, List.set_cons_succ]
  refine wpAnyH_take (i := 1) (oi := _) (v := ?va1) rfl (by kernel_rfl) (by kernel_rfl) (by kernel_rfl) (fun _ _ _ h => h) (Or.inl ⟨by rfl, ?hya1⟩) (by assumption) ?resta1
  case hya1 =>
    intro w hSw
    clear hSw
    go_simp
    try (with_reducible rfl)
  try simp only [Act.put, List.getElem_toArray, List.getElem_cons_zero, List.getElem_cons_succ, List.setIfInBounds_toArray, List.set_cons_zero, List.set_cons_succ]
  refine wpAnyH_take (i := 2) (oi := _) (v := ?va2) rfl (by kernel_rfl) (by kernel_rfl) (by kernel_rfl) (fun _ _ _ h => h) (Or.inl ⟨by rfl, ?hya2⟩) (by assumption) ?resta2
  case hya2 =>
    intro w hSw
    clear hSw
    go_simp
    try (with_reducible rfl)
  try simp only [Act.put, List.getElem_toArray, List.getElem_cons_zero, List.getElem_cons_succ, List.setIfInBounds_toArray, List.set_cons_zero, List.set_cons_succ]
  refine wpAnyH_take (i := 3) (oi := _) (v := ?va3) rfl (by kernel_rfl) (by kernel_rfl) (by kernel_rfl) (fun _ _ _ h => h) (Or.inl ⟨by rfl, ?hya3⟩) (by assumption) ?resta3
  case hya3 =>
    intro w hSw
    clear hSw
    go_simp
    try (with_reducible rfl)
  try simp only [Act.put, List.getElem_toArray, List.getElem_cons_zero, List.getElem_cons_succ, List.setIfInBounds_toArray, List.set_cons_zero, List.set_cons_succ]
  refine wpAnyH_take (i := 5) (oi := _) (v := _) rfl (by kernel_rfl) (by kernel_rfl) (by kernel_rfl) (fun _ _ _ h => h) (yieldsIf_load_mid (by rfl) 87 (.tmp 8) rfl W1.heap.size 0 (by rfl) WV _ (fun w h => h) hu5 rfl hi5) (by assumption) ?_
  try simp only [Act.put, List.getElem_toArray, List.getElem_cons_zero, List.getElem_cons_succ, List.setIfInBounds_toArray, List.set_cons_zero, List.set_cons_succ]
  refine wpAnyH_ready (rs := [4, 6]) (by kernel_rfl) (by simp) ?_
  have hAp : ∀ (w' : World), w'.heap.size = W3.heap.size + 1 → (∀ k, k < W3.heap.size → w'.heap[k]? = W3.heap[k]?) → w'.heap[W3.heap.size]? = some (.cells WV.toArray 87) → ∃ g cap w5, (∀ ty, (Builtin.append_ #[74, 74] ty #[.slice q L c, .slice (some ⟨W3.heap.size, 0, none⟩) 1 1]).run Try.prog w' = .ok (.slice (some ⟨g, 0, none⟩) (L + 1) cap) w5) ∧
      w5.ownsRow 0 87 65 (.slice (some ⟨g, 0, none⟩) (L + 1) cap) (L + 1) (loosesV M.loose ++ WV) ∧ w'.grownBy w5 (Value.slice q L c).ownBlock ∧ ((Value.slice q L c).ownBlock = some g ∨ W3.heap.size ≤ g) ∧ g < w5.heap.size := fun w' h1 h2 h3 => by
    have ho := owns_block (W' := w') HO.out (fun k hk => h2 k (HO.out.lt k hk).2)
    have hn3 : ∀ ty, ∃ g cap w5, _ := fun ty => run_append_lies (P := Try.prog) w' 74 ty 0 87 i0 (.agg zWrite) 65 72 Try.underlying74 HI.out.1 HI.out.2.1 HI.out.2.2.1 HI.out.2.2.2 rfl (by decide) (.slice q L c) L (loosesV M.loose) ho ⟨W3.heap.size, 0, none⟩ 1 1 WV (by rw [hwl])
      (by have := World.news_of_block (cs := WV.toArray) h3; simpa using this) hw1 (by decide) (by unfold maxLen; have := HL3.out; omega) (HL3.out) (Nat.zero_le _) (W3.heap.size + 1) h1
    obtain ⟨g, cap, w5, hr, a1, a2, a3, a4⟩ := hn3 74
    exact ⟨g, cap, w5, fun ty => hr, a1, a2, a3.imp id (fun e => by omega), a4⟩
  have HAP := Lib.hid hAp
  clear hAp
  refine AllReadyH.cons (o := _) rfl (fun K hK => ?_) (AllReadyH.cons (o := _) rfl (fun K hK => ?_) AllReadyH.nil)
  · go_simp
    refine hK.out _ _ hHeld (fun _ => ?_)
    clear hK K
    try simp only [Act.put, List.getElem_toArray, List.getElem_cons_zero, List.getElem_cons_succ, List.setIfInBounds_toArray, List.set_cons_zero, List.set_cons_succ]
    refine wpAnyH_ready (rs := [6]) (by kernel_rfl) (by simp) ?_
    refine AllReadyH.cons (o := _) rfl (fun K hK => ?_) AllReadyH.nil
    refine step_of rfl (wp_buildSlice 74 87 1 #[(0, .tmp 45)] rfl WV.toArray i0 (.agg zWrite) Try.underlying74 HI.out.1 HI.out.2.1 (by rw [HI.out.2.2.1]; decide) (by rw [HI.out.2.2.1]; decide) (by rw [Array.toList_map]; exact HFI.out) ?_)
    refine hK.out _ _ (range_block hHeld (Below.heap_alloc _ _ _ (by show _ < W3.heap.size; exact block_lt hh3x.out))) (fun _ => ?_)
    clear hK K
    try simp only [Act.put, List.getElem_toArray, List.getElem_cons_zero, List.getElem_cons_succ, List.setIfInBounds_toArray, List.set_cons_zero, List.set_cons_succ]
    obtain ⟨g, cap5, w5, hrun, hown5, hgrow, hat, hlt⟩ := HAP.out (W3.drew.alloc (.cells WV.toArray 87)) (by simp) (fun k hk => Below.heap_alloc W3.drew _ k hk) (heap_alloc_new W3.drew _)
    have HRN := Lib.hid hrun
    have h5b : ∀ k, k < W3.heap.size → some k ≠ (Value.slice q L c).ownBlock → w5.heap[k]? = W3.heap[k]? := fun k hk hne => (hgrow.block k (by simp; omega) hne).trans (Below.heap_alloc W3.drew _ k hk)
    have h5z : W3.heap.size ≤ w5.heap.size := by have := hgrow.size; simp at this; omega
    have hb5 := (h5b G hG3 (fun e => (HQ.out G e.symm).1 rfl)).trans HWR.out.1.1.blk
    have e2 : w5.cell? ⟨G, 2, none⟩ = some (.slice q L c) := by rw [cell_of_row _ _ _ _ _ _ hb5, ← HWR.out.2.1]; rfl
    have e2f : w5.frozen? ⟨G, 2, none⟩ = false := frozen_of_row _ _ _ _ _ hb5
    have hr5 : w5.rangeAt W1.heap.size 0 WV := range_block r3 (h5b _ (block_lt hh3x.out) (fun e => (HQ.out _ e.symm).2 rfl))
    have H5 := Lib.hid (And.intro hown5 (And.intro hgrow (And.intro hat (And.intro hlt (And.intro h5b (And.intro h5z hb5))))))
    clear hown5 hgrow hat hlt h5b h5z hb5 hrun
    refine wpAnyH_ready (rs := [7]) (by kernel_rfl) (by simp) ?_
    refine AllReadyH.cons (o := _) rfl (fun K hK => ?_) AllReadyH.nil
    refine step_of rfl (wp_append_eq (.tmp 44) (.tmp 46) 74 rfl (.slice q L c) (.slice (some ⟨W3.heap.size, 0, none⟩) 1 1) (.slice (some ⟨g, 0, none⟩) (L + 1) cap5) w5 (by rfl) (by rfl) HRN.out ?_)
    refine hK.out _ _ hr5 (fun _ => ?_)
    clear hK K
    try simp only [Act.put, List.getElem_toArray, List.getElem_cons_zero, List.getElem_cons_succ, List.setIfInBounds_toArray, List.set_cons_zero, List.set_cons_succ]
    refine wpAnyH_take (i := 8) (oi := _) (v := ?vb8) rfl (by kernel_rfl) (by kernel_rfl) (by kernel_rfl) (fun _ _ _ h => h) (Or.inl ⟨by rfl, ?hyb8⟩) (by assumption) ?restb8
    case hyb8 =>
      intro w hSw
      clear hSw
      go_simp
      try (with_reducible rfl)
    try simp only [Act.put, List.getElem_toArray, List.getElem_cons_zero, List.getElem_cons_succ, List.setIfInBounds_toArray, List.set_cons_zero, List.set_cons_succ]
    refine wpAnyH_take (i := 9) (oi := _) (v := ?vb9) rfl (by kernel_rfl) (by kernel_rfl) (by kernel_rfl) (fun _ _ _ h => h) (Or.inl ⟨by rfl, ?hyb9⟩) (by assumption) ?restb9
    case hyb9 =>
      intro w hSw
      clear hSw
      go_simp
      try (with_reducible rfl)
    try simp only [Act.put, List.getElem_toArray, List.getElem_cons_zero, List.getElem_cons_succ, List.setIfInBounds_toArray, List.set_cons_zero, List.set_cons_succ]
    refine wpAnyH_ready (rs := [10]) (by kernel_rfl) (by simp) ?_
    refine AllReadyH.cons (o := _) rfl (fun K hK => ?_) AllReadyH.nil
    go_simp
    refine hK.out _ _ (range_set hr5 hGH _) (fun _ => ?_)
    clear hK K
    refine wpAnyH_done (by kernel_rfl) ?_ _
    go_wp2_with (fail)
    go_ret
    exact write_end HO2 HWR.out H5.out ⟨rfl, rfl, rfl⟩ HT.out HFq.out hn hs
  · refine step_of rfl (wp_buildSlice 74 87 1 #[(0, .tmp 45)] rfl WV.toArray i0 (.agg zWrite) Try.underlying74 HI.out.1 HI.out.2.1 (by rw [HI.out.2.2.1]; decide) (by rw [HI.out.2.2.1]; decide) (by rw [Array.toList_map]; exact HFI.out) ?_)
    refine hK.out _ _ (range_block hHeld (Below.heap_alloc _ _ _ (by show _ < W3.heap.size; exact block_lt hh3x.out))) (fun _ => ?_)
    clear hK K
    try simp only [Act.put, List.getElem_toArray, List.getElem_cons_zero, List.getElem_cons_succ, List.setIfInBounds_toArray, List.set_cons_zero, List.set_cons_succ]
    refine wpAnyH_ready (rs := [4]) (by kernel_rfl) (by simp) ?_
    refine AllReadyH.cons (o := _) rfl (fun K hK => ?_) AllReadyH.nil
    go_simp
    refine hK.out _ _ (range_block hHeld (Below.heap_alloc _ _ _ (by show _ < W3.heap.size; exact block_lt hh3x.out))) (fun _ => ?_)
    clear hK K
    try simp only [Act.put, List.getElem_toArray, List.getElem_cons_zero, List.getElem_cons_succ, List.setIfInBounds_toArray, List.set_cons_zero, List.set_cons_succ]
    obtain ⟨g, cap5, w5, hrun, hown5, hgrow, hat, hlt⟩ := HAP.out (W3.drew.alloc (.cells WV.toArray 87)) (by simp) (fun k hk => Below.heap_alloc W3.drew _ k hk) (heap_alloc_new W3.drew _)
    have HRN := Lib.hid hrun
    have h5b : ∀ k, k < W3.heap.size → some k ≠ (Value.slice q L c).ownBlock → w5.heap[k]? = W3.heap[k]? := fun k hk hne => (hgrow.block k (by simp; omega) hne).trans (Below.heap_alloc W3.drew _ k hk)
    have h5z : W3.heap.size ≤ w5.heap.size := by have := hgrow.size; simp at this; omega
    have hb5 := (h5b G hG3 (fun e => (HQ.out G e.symm).1 rfl)).trans HWR.out.1.1.blk
    have e2 : w5.cell? ⟨G, 2, none⟩ = some (.slice q L c) := by rw [cell_of_row _ _ _ _ _ _ hb5, ← HWR.out.2.1]; rfl
    have e2f : w5.frozen? ⟨G, 2, none⟩ = false := frozen_of_row _ _ _ _ _ hb5
    have hr5 : w5.rangeAt W1.heap.size 0 WV := range_block r3 (h5b _ (block_lt hh3x.out) (fun e => (HQ.out _ e.symm).2 rfl))
    have H5 := Lib.hid (And.intro hown5 (And.intro hgrow (And.intro hat (And.intro hlt (And.intro h5b (And.intro h5z hb5))))))
    clear hown5 hgrow hat hlt h5b h5z hb5 hrun
    refine wpAnyH_ready (rs := [7]) (by kernel_rfl) (by simp) ?_
    refine AllReadyH.cons (o := _) rfl (fun K hK => ?_) AllReadyH.nil
    refine step_of rfl (wp_append_eq (.tmp 44) (.tmp 46) 74 rfl (.slice q L c) (.slice (some ⟨W3.heap.size, 0, none⟩) 1 1) (.slice (some ⟨g, 0, none⟩) (L + 1) cap5) w5 (by rfl) (by rfl) HRN.out ?_)
    refine hK.out _ _ hr5 (fun _ => ?_)
    clear hK K
    try simp only [Act.put, List.getElem_toArray, List.getElem_cons_zero, List.getElem_cons_succ, List.setIfInBounds_toArray, List.set_cons_zero, List.set_cons_succ]
    refine wpAnyH_take (i := 8) (oi := _) (v := ?vc8) rfl (by kernel_rfl) (by kernel_rfl) (by kernel_rfl) (fun _ _ _ h => h) (Or.inl ⟨by rfl, ?hyc8⟩) (by assumption) ?restc8
    case hyc8 =>
      intro w hSw
      clear hSw
      go_simp
      try (with_reducible rfl)
    try simp only [Act.put, List.getElem_toArray, List.getElem_cons_zero, List.getElem_cons_succ, List.setIfInBounds_toArray, List.set_cons_zero, List.set_cons_succ]
    refine wpAnyH_take (i := 9) (oi := _) (v := ?vc9) rfl (by kernel_rfl) (by kernel_rfl) (by kernel_rfl) (fun _ _ _ h => h) (Or.inl ⟨by rfl, ?hyc9⟩) (by assumption) ?restc9
    case hyc9 =>
      intro w hSw
      clear hSw
      go_simp
      try (with_reducible rfl)
    try simp only [Act.put, List.getElem_toArray, List.getElem_cons_zero, List.getElem_cons_succ, List.setIfInBounds_toArray, List.set_cons_zero, List.set_cons_succ]
    refine wpAnyH_ready (rs := [10]) (by kernel_rfl) (by simp) ?_
    refine AllReadyH.cons (o := _) rfl (fun K hK => ?_) AllReadyH.nil
    go_simp
    refine hK.out _ _ (range_set hr5 hGH _) (fun _ => ?_)
    clear hK K
    refine wpAnyH_done (by kernel_rfl) ?_ _
    go_wp2_with (fail)
    go_ret
    exact write_end HO2 HWR.out H5.out ⟨rfl, rfl, rfl⟩ HT.out HFq.out hn hs
end Go.Proofs.Ytlkffignbjpfcaa
