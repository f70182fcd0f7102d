/- Proved here: a drum within a Flush or a Crash: how it lies, and one loose Write made to stand. -/
import Derived.Test.YtlkffignbjpfcaaDrumSmall
import Derived.Deep.RegionHeld3
import Derived.Deep.WholeRow
import Derived.Deep.DrawnRows
namespace Go.Proofs.Ytlkffignbjpfcaa
open Go.RowKit

theorem loosesV_length : ∀ (l : List (Nat × ByteArray)), (∀ x ∈ l, x.2.size = 64) → (loosesV l).length = l.length * 65
  | [], _ => rfl
  | x :: r, h => by
    have ih := loosesV_length r (fun y hy => h y (by simp [hy]))
    unfold loosesV at ih ⊢
    rw [List.flatMap_cons, List.length_append, ih, writeV, List.length_cons, bytesV_len (h x (by simp)), List.length_cons]
    omega
theorem loosesV_at : ∀ (l : List (Nat × ByteArray)) (_ : ∀ x ∈ l, x.2.size = 64) (k : Nat) (hk : k < l.length) (j : Nat) (_ : j < 65), (loosesV l)[k * 65 + j]? = (writeV l[k])[j]?
  | [], _, k, hk, _, _ => by simp at hk
  | x :: r, h, 0, _, j, hj => by
    have hl : (writeV x).length = 65 := by rw [writeV, List.length_cons, bytesV_len (h x (by simp))]
    unfold loosesV
    rw [List.flatMap_cons, Nat.zero_mul, Nat.zero_add, List.getElem?_append_left (by omega)]
    rfl
  | x :: r, h, k + 1, hk, j, hj => by
    have hl : (writeV x).length = 65 := by rw [writeV, List.length_cons, bytesV_len (h x (by simp))]
    have ih := loosesV_at r (fun y hy => h y (by simp [hy])) k (by simpa using hk) j hj
    unfold loosesV at ih ⊢
    rw [List.flatMap_cons, List.getElem?_append_right (by omega), hl, show (k + 1) * 65 + j - 65 = k * 65 + j by omega, ih]
    rfl
theorem loosesV_snoc (l : List (Nat × ByteArray)) (x : Nat × ByteArray) : loosesV (l ++ [x]) = loosesV l ++ writeV x := by simp [loosesV]

/-- A drum's pieces, its lists whatever. -/
structure HalfAt (W : World) (G N : Nat) (nw sf : List ByteArray) (lo : List (Nat × ByteArray)) (x3 x4 x5 x6 : Value) (gn gs cn cs : Nat) (q : Option Addr) (c : Nat) : Prop where
  blk : W.heap[G]? = some (.cells #[.slice (some ⟨gn, 0, none⟩) N cn, .slice (some ⟨gs, 0, none⟩) N cs, .slice q lo.length c, x3, x4, x5, x6] 76)
  now : RowsAt W gn N nw
  safe : RowsAt W gs N sf
  loose : W.ownsRow 0 87 65 (.slice q lo.length c) lo.length (loosesV lo)
  at_ : ∀ x ∈ lo, x.1 < N ∧ x.2.size = 64
  apart : G ≠ gn ∧ G ≠ gs ∧ gn ≠ gs ∧ ∀ k, (Value.slice q lo.length c).ownBlock = some k → k ≠ G ∧ k ≠ gn ∧ k ≠ gs
  big : N ≤ 16384 ∧ N ≤ cn ∧ N ≤ cs ∧ 0 < N
theorem owns_block {W W' : World} {B : Nat} {e : TypeId} {size : Nat} {v : Value} {n : Nat} {xs : List Value} (h : W.ownsRow B e size v n xs) (ho : ∀ k, v.ownBlock = some k → W'.heap[k]? = W.heap[k]?) : W'.ownsRow B e size v n xs := by
  rcases h.2 with ⟨e1, e2⟩ | ⟨g, cap, cur, e, hb', hh, hr⟩
  · exact ⟨h.1, .inl ⟨e1, e2⟩⟩
  · exact ⟨h.1, .inr ⟨g, cap, cur, e, hb', (ho g (by rw [e]; rfl)).trans hh, hr⟩⟩
theorem rows_lt {W : World} {g N : Nat} {L : List ByteArray} (h : RowsAt W g N L) (hN : 0 < N) : g < W.heap.size := by
  have h1 := (h.room 0 (by omega)).1
  obtain ⟨u, hu⟩ := Option.isSome_iff_exists.1 h1
  exact World.block_lt_of_cell? W _ hu
theorem block_lt {W : World} {g : Nat} {o : Obj} (h : W.heap[g]? = some o) : g < W.heap.size := by
  by_cases hlt : g < W.heap.size
  · exact hlt
  · rw [Array.getElem?_eq_none (by omega)] at h; cases h
/-- A loose Write in memory. -/
theorem HalfAt.write {W : World} {G N : Nat} {nw sf : List ByteArray} {lo : List (Nat × ByteArray)} {x3 x4 x5 x6 : Value} {gn gs cn cs : Nat} {q : Option Addr} {c : Nat} (h : HalfAt W G N nw sf lo x3 x4 x5 x6 gn gs cn cs q c) {k : Nat} (hk : k < lo.length) :
    ∃ gl, q = some ⟨gl, 0, none⟩ ∧ gl < W.heap.size ∧ W.rangeAt gl (k * 65) (writeV lo[k]) ∧ W.cell? ⟨gl, k * 65, none⟩ = some (.int .i64 (lo[k].1 : Int)) ∧ lo.length ≤ c := by
  rcases h.loose.2 with ⟨e1, e2⟩ | ⟨g, cap, cur, e, hb', hh, hr⟩
  · omega
  · injection e with e1 e2 e3
    have hrg : W.rangeAt g (k * 65) (writeV lo[k]) := fun j v hv => by
      have hj : j < 65 := by
        have := (List.getElem?_eq_some_iff.1 hv).1
        rw [writeV, List.length_cons, bytesV_len (h.at_ lo[k] (List.getElem_mem hk)).2] at this
        omega
      have h1 := h.loose.cells (g := g) (by rw [e1]; rfl) (k * 65 + j) v (by rw [loosesV_at lo (fun x hx => (h.at_ x hx).2) k hk j hj]; exact hv)
      rwa [Addr.add_mid, Nat.zero_add] at h1
    exact ⟨g, e1, block_lt hh, hrg, hrg 0 _ rfl, by omega⟩

theorem HalfAt.stood {W : World} {G N : Nat} {nw sf : List ByteArray} {lo : List (Nat × ByteArray)} {x3 x4 x5 x6 : Value} {gn gs cn cs : Nat} {q : Option Addr} {c : Nat} (h : HalfAt W G N nw sf lo x3 x4 x5 x6 gn gs cn cs q c) (o : Obj) {n : Nat} {p : ByteArray} (hn : n < N) (hp : p.size = 64) :
    HalfAt ((W.alloc o).drew.setCells gs (n * 64) (bytesV p)) G N nw (sf.set n p) lo x3 x4 x5 x6 gn gs cn cs q c ∧ Touch (Only gs) W ((W.alloc o).drew.setCells gs (n * 64) (bytesV p)) := by
  have hT : Touch (Only gs) W ((W.alloc o).drew.setCells gs (n * 64) (bytesV p)) := (((Touch.refl _ _).alloc o).drew).sets (F := Only gs) rfl _ _
  have hgn := rows_lt h.now h.big.2.2.2
  have hgs := rows_lt h.safe h.big.2.2.2
  have hq : ∀ k, (Value.slice q lo.length c).ownBlock = some k → k < W.heap.size := fun k hk => (h.loose.lt k hk).2
  have hsame : ∀ k, k < W.heap.size → k ≠ gs → ((W.alloc o).drew.setCells gs (n * 64) (bytesV p)).heap[k]? = W.heap[k]? := fun k hk hne => hT.block k hk hne
  have hs0 : RowsAt (W.alloc o).drew gs N sf := h.safe.block (Below.heap_alloc W o gs hgs)
  exact ⟨⟨(hsame G (block_lt h.blk) h.apart.2.1).trans h.blk, h.now.block (hsame gn hgn h.apart.2.2.1), hs0.set hn hp, owns_block h.loose (fun k hk => hsame k (hq k hk) (h.apart.2.2.2 k hk).2.2), h.at_, h.apart, h.big⟩, hT⟩
/-- A store whose run is known. -/
theorem wpList_store_eq {P : Program} {ops : Array Oper} {rest : List Oper} {op : Oper} {a : Act} {w w' : World} {Q : Exit → Act → World → Prop} (hgd : op.guard = none) (ty : TypeId) (x y : Operand) (ho : op.op = .store ty x y)
    (v u : Value) (hx : a.eval x = v) (hy : a.eval y = u) (hrun : (Instr.storeAt ty v u).run P w = .ok () w')
    (h : wpList P ops Q rest (a.put op.dst undef) w') : wpList P ops Q (op :: rest) a w :=
  wpList_plain hgd fun _ hK => by
    unfold Oper.wp execOp
    simp only [ho, hx, hy, Sem.run_bind, Sem.run_pure, Result.andThen_ok, hrun]
    exact hK _ _ h
def zWrite : Array Value := (Value.int .i64 0 :: List.replicate 64 (Value.int .u8 0)).toArray
theorem infoWrite : (Try.prog.info? 87).map (fun i => (i.zero, i.size)) = some (some (.agg zWrite), 65) := by kernel_rfl
theorem sizeSector : (Try.prog.info? 84).map (·.size) = some 64 := by kernel_rfl
theorem writeV_one (x : Nat × ByteArray) : ∀ v ∈ writeV x, v.oneCell' = true := by
  intro v hv
  rcases List.mem_cons.1 hv with rfl | h
  · rfl
  · exact bytesV_one _ v h

set_option maxRecDepth 100000 in
set_option maxHeartbeats 4000000 in
theorem stand_any {W : World} {G N : Nat} {nw sf : List ByteArray} {lo : List (Nat × ByteArray)} {x3 x4 x5 x6 : Value} {gn gs cn cs : Nat} {q : Option Addr} {c : Nat} (h : HalfAt W G N nw sf lo x3 x4 x5 x6 gn gs cn cs q c) {k : Nat} (hk : k < lo.length) :
    Calls Try.prog 55 #[.pointer (some ⟨G, 0, none⟩), .int .i64 (k : Int)] W fun e W' => e = .returned (.tuple #[]) ∧ HalfAt W' G N nw (sf.set lo[k].1 lo[k].2) lo x3 x4 x5 x6 gn gs cn cs q c ∧ Touch (Only gs) W W' := by
  obtain ⟨gl, rfl, hlt, hrg, hc0, hlc⟩ := h.write hk
  obtain ⟨hn, hp⟩ := h.at_ lo[k] (List.getElem_mem hk)
  have hb := h.blk
  have c1 : W.cell? ⟨G, 1, none⟩ = some (.slice (some ⟨gs, 0, none⟩) N cs) := by rw [cell_of_row _ _ _ _ _ _ hb]; rfl
  have c2 : W.cell? ⟨G, 2, none⟩ = some (.slice (some ⟨gl, 0, none⟩) lo.length c) := by rw [cell_of_row _ _ _ _ _ _ hb]; rfl
  have hG := block_lt hb
  have hgs := rows_lt h.safe h.big.2.2.2
  have ht := h.safe.there hn
  have hbig := h.big
  have hwl : (writeV lo[k]).length = 65 := by rw [writeV, List.length_cons, bytesV_len hp]
  have hw1 := all_oneCell_toArray (writeV_one lo[k])
  obtain ⟨hz, hzs⟩ := zero_of_info infoWrite
  have H := Lib.hid h
  have HW := Lib.hid (show writeV lo[k] = .int .i64 (lo[k].1 : Int) :: bytesV lo[k].2 from rfl)
  obtain ⟨m, hm⟩ : ∃ m, lo.length = m := ⟨_, rfl⟩
  obtain ⟨WV, hWV⟩ : ∃ WV, writeV lo[k] = WV := ⟨_, rfl⟩
  obtain ⟨P1, hP1⟩ : ∃ P1, bytesV lo[k].2 = P1 := ⟨_, rfl⟩
  obtain ⟨n, hn'⟩ : ∃ n, lo[k].1 = n := ⟨_, rfl⟩
  rw [hWV] at hrg hwl hw1 HW
  have hpl : P1.length = 64 := by rw [← hP1, bytesV_len hp]
  have hp1 : ∀ v ∈ P1, v.oneCell' = true := by rw [← hP1]; exact bytesV_one _
  rw [hP1] at HW
  rw [hn'] at HW hc0 hn ht
  rw [hm] at c2 hk hlc
  have HX := Lib.hid (And.intro hm (And.intro hP1 hn'))
  have hmm : lo.length = m := hm
  have hk' : (k : Int) < (m : Int) := by omega
  have hn1 : (n : Int) < (N : Int) := by omega
  have hn0 : (0 : Int) ≤ (n : Int) := by omega
  have hk0 : (0 : Int) ≤ (k : Int) := by omega
  have h10 : W.heap.size ≠ gs := by omega
  have hN1 : (N : Int) ≤ 16384 := by omega
  have hrun : ∀ (w : World), (Instr.storeAt 87 (.pointer (some ⟨w.heap.size, 0, none⟩)) (.agg WV.toArray)).run Try.prog (w.alloc (.cells zWrite 87)) = .ok () (w.alloc (.cells WV.toArray 87)) :=
    fun w => run_storeAt_new w _ _ _ (by rw [hzs]; simp [hwl]) (by rw [show zWrite.size = 65 from rfl]; simp [hwl]) hw1
  have HR := Lib.hid hrun
  have hu := Try.underlying84
  have hi : (Try.prog.info? 84).map (·.size) = some P1.length := by rw [sizeSector, hpl]
  have HWL := Lib.hid (And.intro hwl hw1)
  have HZ := Lib.hid hzs
  have hS : ∀ w : World, (w.alloc (.cells WV.toArray 87)).cell? ⟨w.heap.size, 0, none⟩ = some (.int .i64 (n : Int)) ∧ (w.alloc (.cells WV.toArray 87)).rangeAt w.heap.size 1 P1 := fun w => by
    have hh := heap_alloc_new w (.cells WV.toArray 87)
    refine ⟨by rw [cell_of_row _ _ _ _ _ _ hh, HW.out]; rfl, fun j v hv => ?_⟩
    rw [cell_of_row _ _ _ _ _ _ hh, HW.out]
    simpa [Nat.add_comm 1 j] using hv
  have HS := Lib.hid hS
  clear hm hWV hP1 hn' hp hbig hmm hwl hw1 h hb hrun hzs hS
  go_enter Try.func55, Try.ntmps55
  go_wp2_with (first | (with_reducible refine wpList_load_mid rfl 87 (.tmp 10) rfl gl (k * 65) rfl WV _ hrg Try.underlying87 rfl (by rw [HZ.out, HWL.out.1]) ?_) | (refine wpList_store_eq rfl 87 (.tmp 4) (.tmp 11) rfl (.pointer (some ⟨W.heap.size, 0, none⟩)) (.agg WV.toArray) rfl rfl (HR.out W) ?_))
  obtain ⟨s1, s2⟩ := HS.out W
  have s3 := c1
  have ht' := World.there_alloc ht (.cells WV.toArray 87)
  have hd : (W.alloc (.cells WV.toArray 87)).cell? ⟨G, 1, none⟩ = some (.slice (some ⟨gs, 0, none⟩) N cs) := by
    rw [World.cell?_alloc_past _ _ _ hG]; exact c1
  have KS : ∀ w' : World, (w'.cell? ⟨G, 1, none⟩ = some (.slice (some ⟨gs, 0, none⟩) N cs) ∧ w'.cell? ⟨W.heap.size, 0, none⟩ = some (.int .i64 (n : Int)) ∧ w'.rangeAt W.heap.size 1 P1 ∧ w'.there gs (n * 64) 64) →
      ((w'.setCells gs (n * 64) P1).cell? ⟨G, 1, none⟩ = some (.slice (some ⟨gs, 0, none⟩) N cs) ∧ (w'.setCells gs (n * 64) P1).cell? ⟨W.heap.size, 0, none⟩ = some (.int .i64 (n : Int)) ∧ (w'.setCells gs (n * 64) P1).rangeAt W.heap.size 1 P1 ∧ (w'.setCells gs (n * 64) P1).there gs (n * 64) 64) := fun w' hs =>
    ⟨by rw [World.cell?_of_block (w := w') (heap_setCells gs P1 (n * 64) w' G H.out.apart.2.1)]; exact hs.1, by rw [World.cell?_of_block (w := w') (heap_setCells gs P1 (n * 64) w' W.heap.size h10)]; exact hs.2.1, World.rangeAt_setCells_apart hs.2.2.1 _ _ _ (.inl h10), World.there_setCells hs.2.2.2 _ _ _⟩
  have KX := Lib.hid KS
  clear KS
  go_region_held3 (fun w' => w'.cell? ⟨G, 1, none⟩ = some (.slice (some ⟨gs, 0, none⟩) N cs) ∧ w'.cell? ⟨W.heap.size, 0, none⟩ = some (.int .i64 (n : Int)) ∧ w'.rangeAt W.heap.size 1 P1 ∧ w'.there gs (n * 64) 64)
    (first | assumption | exact KX.out _ (by assumption) | (refine KX.out _ ?_; assumption) | go_keep_ranges | go_keep | ((go_split_ands; refine ⟨?_, ?_, ?_, ?_⟩ <;> first | go_keep_ranges | go_keep))) (fail)
  go_end0
  have hx := H.out.stood (.cells WV.toArray 87) (H.out.at_ lo[k] (List.getElem_mem _)).1 (H.out.at_ lo[k] (List.getElem_mem _)).2
  rw [HX.out.2.1, HX.out.2.2] at hx
  rw [HX.out.2.2]
  exact ⟨rfl, hx⟩
end Go.Proofs.Ytlkffignbjpfcaa
