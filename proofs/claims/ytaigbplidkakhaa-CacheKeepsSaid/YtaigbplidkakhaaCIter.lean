/- Proved here: the cache's iterator shows its entries in order, as long as a round wants more. -/
import Derived.Test.YtaigbplidkakhaaCOps
import Derived.RangeFuncNested
import Derived.RangeFuncBound
import Derived.RangeFuncCalls
import Derived.RangeFuncLeaves
import Derived.Shelf.Abstract
import Derived.Shelf.RegionOpen
import Derived.WalkKit
import Derived.OwnWalkIn
import Derived.TacticsInMore
import Derived.LoopNIn
import Derived.LoopIn
import Derived.LaidEqlPtr
import Derived.Lib.Builder
namespace Go.Proofs.Ytaigbplidkakhaa
open Go.RowKit Go.ChangeMaps Go.Shelf
attribute [local go_sem] Oper.semAt_some

theorem run_neq_ptr_other {P : Program} (w : World) {tp te : TypeId} {j : TypeInfo} {a b : Addr} {ca cb : Array Value} {ta tb : TypeId} (hp : P.underlying tp = some (.pointer te)) (hte : P.info? te = some j) (hsz : j.size ≠ 0)
    (hne : a ≠ b) (ha : w.heap[a.block]? = some (.cells ca ta (0, 0))) (hb : w.heap[b.block]? = some (.cells cb tb (0, 0))) :
    (binOp .neq tp (.pointer (some a)) (.pointer (some b))).run P w = .ok (.bool true) w := by
  have h : ∀ d : Nat, (Op.equalIn (d + 1) tp (.pointer (some a)) (.pointer (some b))).run P w = .ok false w := fun d => by
    simp [Op.equalIn, run_underlying hp, sizeOf, typeInfo, hte, hsz, run_sameAddr_other w hne ha hb]
  simp only [binOp]
  simp [Op.equal, Op.maxDepth, h 9999]
/-- What a round keeps: all blocks below n₁ but those of X. -/
def KX (n₁ : Nat) (X : Nat → Prop) (W W' : World) : Prop := ∀ k, k < n₁ → ¬ X k → W'.heap[k]? = W.heap[k]?
theorem kx_t {n₁ : Nat} {X : Nat → Prop} {A B C : World} (h : KX n₁ X A B) (k : KX n₁ X B C) : KX n₁ X A C := fun j hj hx => (k j hj hx).trans (h j hj hx)
theorem kx_b {n₁ : Nat} {X : Nat → Prop} {w : World} (hn : n₁ ≤ w.heap.size) (W : World) (l : Nat) (o o' : Obj) (hl : w.heap.size ≤ l) (_ : W.heap[l]? = some o) (_ : o.isCells = false) (_ : o.isWalk = false) : KX n₁ X W (W.putObj l o') := fun k hk _ => World.putObj_heap_other (by omega)
theorem CAt.same {P : Program} {E T K : TypeId} {W W' : World} {C r m nb : Nat} {places : Int} {L : List Nat} {B : Nat → EntV} {nx pv : Nat → Nat} {f : Lit → Option Nat} (h : CAt P E T K W C r m places nb L B nx pv f) (hk : ∀ k, Mine C r m L k → W'.heap[k]? = W.heap[k]?) : CAt P E T K W' C r m places nb L B nx pv f :=
  ⟨(hk C (.inl rfl)).trans h.blk, h.ring, fun a ha => (hk a (.inr (.inr ha))).trans (h.nodes a ha), h.map.keep (hk m (.inr (.inl rfl))), h.keyed, h.only, h.cr, h.mr, h.cm⟩
def leftOf (L : List Nat) (v : Value) : Nat := match v with
  | .pointer (some a) => L.length - L.idxOf a.block
  | _ => 0
theorem leftOf_at {pre rest : List Nat} {x : Nat} (hn : (pre ++ x :: rest).Nodup) : leftOf (pre ++ x :: rest) (PV x) = rest.length + 1 := by
  have hx : x ∉ pre := fun hm => by
    rw [List.nodup_append] at hn
    exact hn.2.2 x hm x List.mem_cons_self rfl
  show (pre ++ x :: rest).length - (pre ++ x :: rest).idxOf x = _
  rw [List.idxOf_append, if_neg hx, List.idxOf_cons_self]
  simp
theorem leftOf_end {L : List Nat} {r : Nat} (h : r ∉ L) : leftOf L (PV r) = 0 := by
  show L.length - L.idxOf r = 0
  rw [List.idxOf_eq_length h]
  omega
theorem left_next {L pre rest : List Nat} {q r : Nat} (h : L = pre ++ q :: rest) (hr : r ∉ L) (hn : L.Nodup) : leftOf L (PV ((rest ++ [r]).head (by simp))) < leftOf L (PV q) := by
  have h1 : leftOf L (PV q) = rest.length + 1 := by
    rw [h] at hn ⊢
    exact leftOf_at hn
  rw [h1]
  cases rest with
  | nil =>
    have h2 : leftOf L (PV (([] ++ [r]).head (by simp))) = 0 := leftOf_end hr
    rw [h2]
    omega
  | cons y t =>
    have e : L = (pre ++ [q]) ++ y :: t := by simp [h]
    have h2 : leftOf L (PV ((y :: t ++ [r]).head (by simp))) = t.length + 1 := by
      rw [e] at hn ⊢
      exact leftOf_at hn
    rw [h2]
    simp
theorem infoES : (Try.prog.info? 98).map (fun i => i.size) = some 6 := by kernel_rfl
set_option maxRecDepth 100000 in
set_option maxHeartbeats 4000000 in
theorem order1S (F : Fence) (n : Nat) (h6 : F.fn 80) (hro : F.round = none) (hn : 1 ≤ n) (l Bn n₁ : Nat) {tb : TypeId} (X : Nat → Prop) {C r m nb : Nat} {places : Int} {L : List Nat} {B : Nat → EntV} {nx pv : Nat → Nat} {f : Lit → Option Nat} (J Jx : List Nat → World → Prop)
    (hY : ∀ pre x W, (∃ rest, L = pre ++ x :: rest) → J pre W → YieldAt F (n - 1) Try.prog l #[PV x] W fun e W' =>
      (e = .returned (.bool true) ∧ J (pre ++ [x]) W' ∧ KX n₁ X W W') ∨ (e = .returned (.bool false) ∧ Jx (pre ++ [x]) W'))
    (W : World) (hBn : W.heap[Bn]? = some (.cells #[PV C] tb (0, 0))) (hBx : Bn < n₁ ∧ ¬ X Bn) (h : CAt Try.prog 98 95 9 W C r m places nb L B nx pv f) (hM : ∀ k, Mine C r m L k → k < n₁ ∧ ¬ X k) (h0 : J [] W) :
    CallsIn F n Try.prog 80 #[.func (.yield l) #[] #[], PV Bn] W fun e W' => (∃ v, e = .returned v) ∧
      ((∃ ys, ys = L ∧ J ys W') ∨ (∃ pre, pre <+: L ∧ Jx pre W')) := by
  have hrL : r ∉ L := (List.nodup_cons.1 h.ring.nodup).1
  have hnL : L.Nodup := (List.nodup_cons.1 h.ring.nodup).2
  obtain ⟨_, _, _, c3, _⟩ := h.cells
  obtain ⟨_, _, _, _, _, c5, _⟩ := h.nodes.cells (a := r) (by simp)
  have hfirst := h.ring.first
  have hBc : W.cell? ⟨Bn, 0, none⟩ = some (PV C) := by rw [cell_of_row _ _ _ _ _ _ hBn]; rfl
  have HH := Lib.hid (And.intro h (And.intro hBn (And.intro h0 (And.intro hrL (And.intro hnL (And.intro hBx hM))))))
  have HY := Lib.hid hY
  clear h h0 hrL hnL hBx hM hY hBn
  refine callsIn_of_wp Try.func80 rfl h6 ?_ hro
  simp only [Try.ntmps80, List.size_toArray, List.length_cons, List.length_nil, Nat.reduceAdd, Nat.reduceSub, Array.replicate_succ, Array.replicate_zero, List.push_toArray, List.append_toArray, List.nil_append, List.cons_append]
  gi_wp2
  gi_loopw [3] (fun p wr => ∃ (pre rest : List Nat) (q : Nat), p = PV q ∧ L = pre ++ rest ∧ q = (rest ++ [r]).head (by simp) ∧ CAt Try.prog 98 95 9 wr C r m places nb L B nx pv f ∧ wr.heap[Bn]? = some (.cells #[PV C] tb (0, 0)) ∧ J pre wr)
    (fun p wr => leftOf L p)
  case atStart => exact ⟨[], L, _, rfl, rfl, rfl, HH.out.1, HH.out.2.1, HH.out.2.2.1⟩
  case round =>
    obtain ⟨pre, rest, q, rfl, hx, hq, hS, hB, hJs⟩ := hrel
    obtain ⟨_, _, _, s3, _⟩ := hS.cells
    have HX := Lib.hid (And.intro hx (And.intro hS (And.intro hJs hB)))
    replace hB : wr.cell? ⟨Bn, 0, none⟩ = some (PV C) := by rw [cell_of_row _ _ _ _ _ _ hB]; rfl
    cases rest with
    | nil =>
      obtain rfl : q = r := by simpa using hq
      obtain ⟨ji, hji, _⟩ := Option.map_eq_some_iff.1 infoES
      have hqq := Lib.run_neq_ptr_same wr (j := ji) ⟨q, 0, none⟩ Try.underlying92 hji
      clear c3 c5 hfirst hx hS hJs hq hBc
      gi_wp2
      refine ⟨fun _ h => (by cases h), ?_⟩
      gi_wp2
      go_end0
      exact ⟨⟨_, rfl⟩, .inl ⟨L, rfl, by have := HX.out.2.2.1; rw [HX.out.1]; simpa using this⟩⟩
    | cons x rest =>
      obtain rfl : q = x := by simpa using hq
      have hxr : ¬ q = r := fun e => HH.out.2.2.2.1 (by rw [hx, ← e]; simp)
      obtain ⟨_, _, _, _, _, s5, _⟩ := hS.nodes.cells (a := q) (by rw [hx]; simp)
      obtain ⟨fn, tmps, assign, body, hy, hR⟩ := HY.out pre q wr ⟨rest, hx⟩ hJs
      have HR := Lib.hid hR
      obtain ⟨ji, hji, hjz⟩ := Option.map_eq_some_iff.1 infoES
      have hqq := run_neq_ptr_other wr (j := ji) (a := ⟨q, 0, none⟩) (b := ⟨r, 0, none⟩) Try.underlying92 hji (by rw [hjz]; decide) (fun e => hxr (by injection e)) (hS.nodes q (by rw [hx]; simp)) (hS.nodes r (by simp))
      clear c3 c5 hfirst hx hS hJs hq hBc hR
      gi_wp2
      refine HR.out.mono ?_
      rintro e W3 (⟨rfl, hJ3, hk3⟩ | ⟨rfl, hJx3⟩)
      · have h3 : CAt Try.prog 98 95 9 W3 C r m places nb L B nx pv f := HX.out.2.1.same (fun k hk => hk3 k (HH.out.2.2.2.2.2.2 k hk).1 (HH.out.2.2.2.2.2.2 k hk).2)
        have hB3 : W3.heap[Bn]? = some (.cells #[PV C] tb (0, 0)) := (hk3 Bn HH.out.2.2.2.2.2.1.1 HH.out.2.2.2.2.2.1.2).trans HX.out.2.2.2
        obtain ⟨_, _, _, _, _, t5, _⟩ := h3.nodes.cells (a := q) (by rw [HX.out.1]; simp)
        have hnx := (show Ring nx pv r (pre ++ q :: rest) from HX.out.1 ▸ h3.ring).next
        have H3 := Lib.hid (And.intro h3 (And.intro hB3 (And.intro hJ3 hnx)))
        clear h3 hJ3 hk3 hnx hqq hB3
        clear s3 s5
        gi_wp2
        go_roundw
        case rel => exact ⟨pre ++ [q], rest, _, rfl, by rw [HX.out.1]; simp, H3.out.2.2.2, H3.out.1, H3.out.2.1, H3.out.2.2.1⟩
        case measure =>
          rw [H3.out.2.2.2]
          exact left_next HX.out.1 HH.out.2.2.2.1 HH.out.2.2.2.2.1
      · clear hqq s3 s5
        gi_wp2
        go_end0
        exact ⟨⟨_, rfl⟩, .inr ⟨pre ++ [q], ⟨rest, by rw [HX.out.1]; simp⟩, hJx3⟩⟩
theorem order_stopsS (F : Fence) (n : Nat) (h6 : F.fn 80) (hro : F.round = none) (hn : 1 ≤ n) (Bn n₁ : Nat) {tb : TypeId} (X : Nat → Prop) {C r m nb : Nat} {places : Int} {L : List Nat} {B : Nat → EntV} {nx pv : Nat → Nat} {f : Lit → Option Nat}
    (w : World) (hBn : w.heap[Bn]? = some (.cells #[PV C] tb (0, 0))) (hBx : Bn < n₁ ∧ ¬ X Bn) (h : CAt Try.prog 98 95 9 w C r m places nb L B nx pv f) (hM : ∀ k, Mine C r m L k → k < n₁ ∧ ¬ X k) :
    SeqStopsK F n Try.prog 80 #[PV Bn] (fun x : {x : Nat // x ∈ L} => #[PV x.1]) (KX n₁ X) (fun xs => xs.map (·.1) = L) (fun pre => pre.map (·.1) <+: L) L.length w := fun l J Jx W hW _ _ hY h0 => by
  refine (order1S F n h6 hro hn l Bn n₁ X (fun ys W => ∃ pre : List {x : Nat // x ∈ L}, pre.map (·.1) = ys ∧ J pre W) (fun ys W => ∃ pre : List {x : Nat // x ∈ L}, pre.map (·.1) = ys ∧ Jx pre W) ?_ W ((hW.block Bn (heap_lt hBn)).trans hBn) hBx (h.below hW) hM ⟨[], rfl, h0⟩).mono ?_
  · rintro ys x W1 ⟨rest, hx⟩ ⟨pre, rfl, hJ⟩
    have hxL : x ∈ L := by rw [hx]; simp
    refine (hY pre ⟨x, hxL⟩ W1 hJ (by have e1 := congrArg List.length hx; simp at e1; omega)).mono ?_
    rintro e W' (⟨rfl, h1, h2⟩ | ⟨rfl, h1⟩)
    · exact .inl ⟨rfl, ⟨pre ++ [⟨x, hxL⟩], by simp, h1⟩, h2⟩
    · exact .inr ⟨rfl, pre ++ [⟨x, hxL⟩], by simp, h1⟩
  · rintro e W' ⟨hv, h1 | h1⟩
    · obtain ⟨ys, rfl, pre, h2, h3⟩ := h1
      exact ⟨hv, .inl ⟨pre, h2, h3⟩⟩
    · obtain ⟨ys, h2, pre, rfl, h3⟩ := h1
      exact ⟨hv, .inr ⟨pre, h2, h3⟩⟩
theorem order_nilS (F : Fence) (n : Nat) (h6 : F.fn 80) (hro : F.round = none) (Bn : Nat) {tb : TypeId} (Kp : World → World → Prop) (w : World) (hBn : w.heap[Bn]? = some (.cells #[.pointer none] tb (0, 0))) :
    SeqStopsK F n Try.prog 80 #[PV Bn] (fun x : Empty => x.elim) Kp (fun xs => xs = []) (fun _ => False) 0 w := fun l J Jx W hW _ _ _ h0 => by
  have hc : W.cell? ⟨Bn, 0, none⟩ = some (.pointer none) := by
    rw [cell_of_row _ _ _ _ _ _ ((hW.block Bn (heap_lt hBn)).trans hBn)]; rfl
  have H0 := Lib.hid h0
  clear hBn hW h0
  refine callsIn_of_wp Try.func80 rfl h6 ?_ hro
  simp only [Try.ntmps80, List.size_toArray, List.length_cons, List.length_nil, Nat.reduceAdd, Nat.reduceSub, Array.replicate_succ, Array.replicate_zero, List.push_toArray, List.append_toArray, List.nil_append, List.cons_append]
  gi_wp2
  refine bodyPost_ret (results_none rfl _ _ _) rfl ?_
  exact ⟨⟨_, rfl⟩, H0.out⟩
theorem order_makeS (F : Fence) (n : Nat) (h5 : F.fn 72) (hro : F.round = none) (o : Option Addr) (w : World) :
    CallsIn F n Try.prog 72 #[.pointer o] w fun e w' => e = .returned (.func (.func 80) #[] #[PV w.heap.size]) ∧ w' = w.alloc (.cells #[.pointer o] 58) := by
  refine callsIn_of_wp Try.func72 rfl h5 ?_ hro
  simp only [Try.ntmps72, List.size_toArray, List.length_cons, List.length_nil, Nat.reduceAdd, Nat.reduceSub, Array.replicate_succ, Array.replicate_zero, List.push_toArray, List.append_toArray, List.nil_append, List.cons_append]
  gi_wp2
  go_ret
  exact ⟨rfl, rfl⟩
theorem infoEI : (Try.prog.info? 74).map (fun i => i.size) = some 6 := by kernel_rfl
set_option maxRecDepth 100000 in
set_option maxHeartbeats 4000000 in
theorem order1I (F : Fence) (n : Nat) (h6 : F.fn 61) (hro : F.round = none) (hn : 1 ≤ n) (l Bn n₁ : Nat) {tb : TypeId} (X : Nat → Prop) {C r m nb : Nat} {places : Int} {L : List Nat} {B : Nat → EntV} {nx pv : Nat → Nat} {f : Lit → Option Nat} (J Jx : List Nat → World → Prop)
    (hY : ∀ pre x W, (∃ rest, L = pre ++ x :: rest) → J pre W → YieldAt F (n - 1) Try.prog l #[PV x] W fun e W' =>
      (e = .returned (.bool true) ∧ J (pre ++ [x]) W' ∧ KX n₁ X W W') ∨ (e = .returned (.bool false) ∧ Jx (pre ++ [x]) W'))
    (W : World) (hBn : W.heap[Bn]? = some (.cells #[PV C] tb (0, 0))) (hBx : Bn < n₁ ∧ ¬ X Bn) (h : CAt Try.prog 74 67 3 W C r m places nb L B nx pv f) (hM : ∀ k, Mine C r m L k → k < n₁ ∧ ¬ X k) (h0 : J [] W) :
    CallsIn F n Try.prog 61 #[.func (.yield l) #[] #[], PV Bn] W fun e W' => (∃ v, e = .returned v) ∧
      ((∃ ys, ys = L ∧ J ys W') ∨ (∃ pre, pre <+: L ∧ Jx pre W')) := by
  have hrL : r ∉ L := (List.nodup_cons.1 h.ring.nodup).1
  have hnL : L.Nodup := (List.nodup_cons.1 h.ring.nodup).2
  obtain ⟨_, _, _, c3, _⟩ := h.cells
  obtain ⟨_, _, _, _, _, c5, _⟩ := h.nodes.cells (a := r) (by simp)
  have hfirst := h.ring.first
  have hBc : W.cell? ⟨Bn, 0, none⟩ = some (PV C) := by rw [cell_of_row _ _ _ _ _ _ hBn]; rfl
  have HH := Lib.hid (And.intro h (And.intro hBn (And.intro h0 (And.intro hrL (And.intro hnL (And.intro hBx hM))))))
  have HY := Lib.hid hY
  clear h h0 hrL hnL hBx hM hY hBn
  refine callsIn_of_wp Try.func61 rfl h6 ?_ hro
  simp only [Try.ntmps61, List.size_toArray, List.length_cons, List.length_nil, Nat.reduceAdd, Nat.reduceSub, Array.replicate_succ, Array.replicate_zero, List.push_toArray, List.append_toArray, List.nil_append, List.cons_append]
  gi_wp2
  gi_loopw [3] (fun p wr => ∃ (pre rest : List Nat) (q : Nat), p = PV q ∧ L = pre ++ rest ∧ q = (rest ++ [r]).head (by simp) ∧ CAt Try.prog 74 67 3 wr C r m places nb L B nx pv f ∧ wr.heap[Bn]? = some (.cells #[PV C] tb (0, 0)) ∧ J pre wr)
    (fun p wr => leftOf L p)
  case atStart => exact ⟨[], L, _, rfl, rfl, rfl, HH.out.1, HH.out.2.1, HH.out.2.2.1⟩
  case round =>
    obtain ⟨pre, rest, q, rfl, hx, hq, hS, hB, hJs⟩ := hrel
    obtain ⟨_, _, _, s3, _⟩ := hS.cells
    have HX := Lib.hid (And.intro hx (And.intro hS (And.intro hJs hB)))
    replace hB : wr.cell? ⟨Bn, 0, none⟩ = some (PV C) := by rw [cell_of_row _ _ _ _ _ _ hB]; rfl
    cases rest with
    | nil =>
      obtain rfl : q = r := by simpa using hq
      obtain ⟨ji, hji, _⟩ := Option.map_eq_some_iff.1 infoEI
      have hqq := Lib.run_neq_ptr_same wr (j := ji) ⟨q, 0, none⟩ Try.underlying64 hji
      clear c3 c5 hfirst hx hS hJs hq hBc
      gi_wp2
      refine ⟨fun _ h => (by cases h), ?_⟩
      gi_wp2
      go_end0
      exact ⟨⟨_, rfl⟩, .inl ⟨L, rfl, by have := HX.out.2.2.1; rw [HX.out.1]; simpa using this⟩⟩
    | cons x rest =>
      obtain rfl : q = x := by simpa using hq
      have hxr : ¬ q = r := fun e => HH.out.2.2.2.1 (by rw [hx, ← e]; simp)
      obtain ⟨_, _, _, _, _, s5, _⟩ := hS.nodes.cells (a := q) (by rw [hx]; simp)
      obtain ⟨fn, tmps, assign, body, hy, hR⟩ := HY.out pre q wr ⟨rest, hx⟩ hJs
      have HR := Lib.hid hR
      obtain ⟨ji, hji, hjz⟩ := Option.map_eq_some_iff.1 infoEI
      have hqq := run_neq_ptr_other wr (j := ji) (a := ⟨q, 0, none⟩) (b := ⟨r, 0, none⟩) Try.underlying64 hji (by rw [hjz]; decide) (fun e => hxr (by injection e)) (hS.nodes q (by rw [hx]; simp)) (hS.nodes r (by simp))
      clear c3 c5 hfirst hx hS hJs hq hBc hR
      gi_wp2
      refine HR.out.mono ?_
      rintro e W3 (⟨rfl, hJ3, hk3⟩ | ⟨rfl, hJx3⟩)
      · have h3 : CAt Try.prog 74 67 3 W3 C r m places nb L B nx pv f := HX.out.2.1.same (fun k hk => hk3 k (HH.out.2.2.2.2.2.2 k hk).1 (HH.out.2.2.2.2.2.2 k hk).2)
        have hB3 : W3.heap[Bn]? = some (.cells #[PV C] tb (0, 0)) := (hk3 Bn HH.out.2.2.2.2.2.1.1 HH.out.2.2.2.2.2.1.2).trans HX.out.2.2.2
        obtain ⟨_, _, _, _, _, t5, _⟩ := h3.nodes.cells (a := q) (by rw [HX.out.1]; simp)
        have hnx := (show Ring nx pv r (pre ++ q :: rest) from HX.out.1 ▸ h3.ring).next
        have H3 := Lib.hid (And.intro h3 (And.intro hB3 (And.intro hJ3 hnx)))
        clear h3 hJ3 hk3 hnx hqq hB3
        clear s3 s5
        gi_wp2
        go_roundw
        case rel => exact ⟨pre ++ [q], rest, _, rfl, by rw [HX.out.1]; simp, H3.out.2.2.2, H3.out.1, H3.out.2.1, H3.out.2.2.1⟩
        case measure =>
          rw [H3.out.2.2.2]
          exact left_next HX.out.1 HH.out.2.2.2.1 HH.out.2.2.2.2.1
      · clear hqq s3 s5
        gi_wp2
        go_end0
        exact ⟨⟨_, rfl⟩, .inr ⟨pre ++ [q], ⟨rest, by rw [HX.out.1]; simp⟩, hJx3⟩⟩
theorem order_stopsI (F : Fence) (n : Nat) (h6 : F.fn 61) (hro : F.round = none) (hn : 1 ≤ n) (Bn n₁ : Nat) {tb : TypeId} (X : Nat → Prop) {C r m nb : Nat} {places : Int} {L : List Nat} {B : Nat → EntV} {nx pv : Nat → Nat} {f : Lit → Option Nat}
    (w : World) (hBn : w.heap[Bn]? = some (.cells #[PV C] tb (0, 0))) (hBx : Bn < n₁ ∧ ¬ X Bn) (h : CAt Try.prog 74 67 3 w C r m places nb L B nx pv f) (hM : ∀ k, Mine C r m L k → k < n₁ ∧ ¬ X k) :
    SeqStopsK F n Try.prog 61 #[PV Bn] (fun x : {x : Nat // x ∈ L} => #[PV x.1]) (KX n₁ X) (fun xs => xs.map (·.1) = L) (fun pre => pre.map (·.1) <+: L) L.length w := fun l J Jx W hW _ _ hY h0 => by
  refine (order1I F n h6 hro hn l Bn n₁ X (fun ys W => ∃ pre : List {x : Nat // x ∈ L}, pre.map (·.1) = ys ∧ J pre W) (fun ys W => ∃ pre : List {x : Nat // x ∈ L}, pre.map (·.1) = ys ∧ Jx pre W) ?_ W ((hW.block Bn (heap_lt hBn)).trans hBn) hBx (h.below hW) hM ⟨[], rfl, h0⟩).mono ?_
  · rintro ys x W1 ⟨rest, hx⟩ ⟨pre, rfl, hJ⟩
    have hxL : x ∈ L := by rw [hx]; simp
    refine (hY pre ⟨x, hxL⟩ W1 hJ (by have e1 := congrArg List.length hx; simp at e1; omega)).mono ?_
    rintro e W' (⟨rfl, h1, h2⟩ | ⟨rfl, h1⟩)
    · exact .inl ⟨rfl, ⟨pre ++ [⟨x, hxL⟩], by simp, h1⟩, h2⟩
    · exact .inr ⟨rfl, pre ++ [⟨x, hxL⟩], by simp, h1⟩
  · rintro e W' ⟨hv, h1 | h1⟩
    · obtain ⟨ys, rfl, pre, h2, h3⟩ := h1
      exact ⟨hv, .inl ⟨pre, h2, h3⟩⟩
    · obtain ⟨ys, h2, pre, rfl, h3⟩ := h1
      exact ⟨hv, .inr ⟨pre, h2, h3⟩⟩
theorem order_nilI (F : Fence) (n : Nat) (h6 : F.fn 61) (hro : F.round = none) (Bn : Nat) {tb : TypeId} (Kp : World → World → Prop) (w : World) (hBn : w.heap[Bn]? = some (.cells #[.pointer none] tb (0, 0))) :
    SeqStopsK F n Try.prog 61 #[PV Bn] (fun x : Empty => x.elim) Kp (fun xs => xs = []) (fun _ => False) 0 w := fun l J Jx W hW _ _ _ h0 => by
  have hc : W.cell? ⟨Bn, 0, none⟩ = some (.pointer none) := by
    rw [cell_of_row _ _ _ _ _ _ ((hW.block Bn (heap_lt hBn)).trans hBn)]; rfl
  have H0 := Lib.hid h0
  clear hBn hW h0
  refine callsIn_of_wp Try.func61 rfl h6 ?_ hro
  simp only [Try.ntmps61, List.size_toArray, List.length_cons, List.length_nil, Nat.reduceAdd, Nat.reduceSub, Array.replicate_succ, Array.replicate_zero, List.push_toArray, List.append_toArray, List.nil_append, List.cons_append]
  gi_wp2
  refine bodyPost_ret (results_none rfl _ _ _) rfl ?_
  exact ⟨⟨_, rfl⟩, H0.out⟩
theorem order_makeI (F : Fence) (n : Nat) (h5 : F.fn 40) (hro : F.round = none) (o : Option Addr) (w : World) :
    CallsIn F n Try.prog 40 #[.pointer o] w fun e w' => e = .returned (.func (.func 61) #[] #[PV w.heap.size]) ∧ w' = w.alloc (.cells #[.pointer o] 24) := by
  refine callsIn_of_wp Try.func40 rfl h5 ?_ hro
  simp only [Try.ntmps40, List.size_toArray, List.length_cons, List.length_nil, Nat.reduceAdd, Nat.reduceSub, Array.replicate_succ, Array.replicate_zero, List.push_toArray, List.append_toArray, List.nil_append, List.cons_append]
  gi_wp2
  go_ret
  exact ⟨rfl, rfl⟩
end Go.Proofs.Ytaigbplidkakhaa
