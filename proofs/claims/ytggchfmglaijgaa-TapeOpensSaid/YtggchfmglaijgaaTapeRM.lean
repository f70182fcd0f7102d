/- Proved here: a reader of a tape's sectors, in plain words and as it lies in memory. -/
import Derived.Test.YtggchfmglaijgaaTapeFits
import Derived.Test.YtggchfmglaijgaaDrumActs
import Derived.Maps.AppendAt
namespace Go.Proofs.Ytggchfmglaijgaa
open Go.RowKit

structure RM where
  groups : List ByteArray
  used : Nat
  begun : ByteArray
  taken : Nat
  missing : Nat
def partL (l : List UInt8) : List UInt8 := (l.drop 16).take (sizL l)
def RM.fit (gen : Nat) (M : RM) (l : List UInt8) : Bool := fitsP M.missing (behL l) (sizL l) && (l == sectorL gen M.taken M.groups.length (behL l) (partL l))
def RM.grown (M : RM) (l : List UInt8) : ByteArray := M.begun ++ ofL (partL l)
def RM.next (M : RM) (l : List UInt8) : RM :=
  if behL l = 0 then ⟨M.groups ++ [M.grown l], M.taken + 1, ⟨#[]⟩, M.taken + 1, 0⟩ else ⟨M.groups, M.used, M.grown l, M.taken + 1, behL l⟩
def newR : RM := ⟨[], 0, ⟨#[]⟩, 0, 0⟩
theorem fits_size {m B S : Nat} (h : fitsP m B S = true) : S ≤ 48 := by
  unfold fitsP at h
  split at h
  · cases h
  · split at h
    · rw [decide_eq_true_eq] at h; omega
    · split at h
      · cases h
      · rw [decide_eq_true_eq] at h; exact h
theorem fit_size {gen : Nat} {M : RM} {l : List UInt8} (h : M.fit gen l = true) : sizL l ≤ 48 := by
  unfold RM.fit at h
  rw [Bool.and_eq_true] at h
  exact fits_size h.1
theorem partL_length (l : List UInt8) (hl : l.length = 64) (h : sizL l ≤ 48) : (partL l).length = sizL l := by
  unfold partL
  rw [List.length_take, List.length_drop, hl]; omega

/-- What is a reader's own, k aside from its block. -/
structure ReadIn (W : World) (Y : Nat → Prop) (R gen : Nat) (M : RM) (gv bv : Value) (Vs : List Value) : Prop where
  blk : W.heap[R]? = some (.cells #[.int .i64 (gen : Int), gv, .int .i64 (M.used : Int), bv, .int .i64 (M.taken : Int), .int .i64 (M.missing : Int)] 115 (0, 0))
  groups : W.ownsRow 0 33 1 gv M.groups.length Vs
  rows : ∀ i (h : i < M.groups.length), ∃ v, Vs[i]? = some v ∧ W.ownsRow 0 5 1 v M.groups[i].size (bytesV M.groups[i]) ∧ ∀ k, v.ownBlock = some k → Y k ∧ k ≠ R ∧ gv.ownBlock ≠ some k ∧ bv.ownBlock ≠ some k
  begun : W.ownsRow 0 5 1 bv M.begun.size (bytesV M.begun)
  yR : Y R
  yg : ∀ k, gv.ownBlock = some k → Y k ∧ k ≠ R
  yb : ∀ k, bv.ownBlock = some k → Y k ∧ k ≠ R ∧ gv.ownBlock ≠ some k
  lt : ∀ k, Y k → k < W.heap.size
def ReadAt (W : World) (Y : Nat → Prop) (R gen : Nat) (M : RM) : Prop := ∃ gv bv Vs, ReadIn W Y R gen M gv bv Vs
theorem ReadIn.touch {W W' : World} {Y : Nat → Prop} {R gen : Nat} {M : RM} {gv bv : Value} {Vs : List Value} (h : ReadIn W Y R gen M gv bv Vs) (hb : ∀ k, Y k → W'.heap[k]? = W.heap[k]?) (hz : W.heap.size ≤ W'.heap.size) : ReadIn W' Y R gen M gv bv Vs :=
  ⟨(hb R h.yR).trans h.blk, owns_block h.groups (fun k hk => hb k (h.yg k hk).1), fun i hi => by
    obtain ⟨v, h1, h2, h3⟩ := h.rows i hi
    exact ⟨v, h1, owns_block h2 (fun k hk => hb k (h3 k hk).1), h3⟩, owns_block h.begun (fun k hk => hb k (h.yb k hk).1), h.yR, h.yg, h.yb, fun k hk => Nat.lt_of_lt_of_le (h.lt k hk) hz⟩
theorem ReadAt.touch {W W' : World} {Y : Nat → Prop} {R gen : Nat} {M : RM} (h : ReadAt W Y R gen M) (hb : ∀ k, Y k → W'.heap[k]? = W.heap[k]?) (hz : W.heap.size ≤ W'.heap.size) : ReadAt W' Y R gen M := by
  obtain ⟨gv, bv, Vs, h⟩ := h
  exact ⟨gv, bv, Vs, h.touch hb hz⟩
theorem ReadAt.lt {W : World} {Y : Nat → Prop} {R gen : Nat} {M : RM} (h : ReadAt W Y R gen M) : ∀ k, Y k → k < W.heap.size := by
  obtain ⟨_, _, _, h⟩ := h
  exact h.lt
theorem ReadAt.yR {W : World} {Y : Nat → Prop} {R gen : Nat} {M : RM} (h : ReadAt W Y R gen M) : Y R := by
  obtain ⟨_, _, _, h⟩ := h
  exact h.yR
theorem ReadAt.below {W W' : World} {Y : Nat → Prop} {R gen : Nat} {M : RM} (h : ReadAt W Y R gen M) (hb : Below W.heap.size W W') : ReadAt W' Y R gen M :=
  h.touch (fun k hk => hb.block k (h.lt k hk)) hb.size

/-- 'append(v, src...)' of bytes, whatever v is. -/
theorem appB_any {w : World} {v : Value} {s t : ByteArray} {a : Addr} {c : Nat} (h : w.ownsRow 0 5 1 v s.size (bytesV s)) (hp : HoldsB w (some a) t) (hsz : s.size + t.size ≤ 140737488355328) :
    ∃ v' w', (∀ ty, (Builtin.append_ #[33, 33] ty #[v, .slice (some a) t.size c]).run Try.prog w = .ok v' w') ∧ w'.ownsRow 0 5 1 v' (s ++ t).size (bytesV (s ++ t)) ∧ w.grownBy w' v.ownBlock ∧ (v'.ownBlock = v.ownBlock ∨ v'.ownBlock = some w.heap.size) := by
  obtain ⟨i0, hi, hz0, hz1, hz2⟩ := info_parts infoByte
  have hcells : ∀ j u, (bytesV t)[j]? = some u → w.cell? (a.add j) = some u := by
    intro j u hu
    have hj : j < t.size := by
      have := (List.getElem?_eq_some_iff.1 hu).1
      rwa [bytesV_length] at this
    obtain ⟨b, off, e, hc⟩ := hp (by omega)
    obtain rfl := Option.some.inj e
    have ha : (⟨b, off, none⟩ : Addr).add j = ⟨b, off + j, none⟩ := by unfold Addr.add; split <;> simp_all
    rw [ha, hc j hj, ← hu, bytesV_get t j hj]
  obtain ⟨v', w', hrun, hown, hgrow, _, hat⟩ := run_append_own_at (P := Try.prog) w 0 33 33 5 i0 (.int .u8 0) 1 1 Try.underlying33 hi hz0 hz1 hz2 rfl (by decide) v s.size (bytesV s) h a t.size c (bytesV t) (by rw [bytesV_length, Nat.mul_one]) hcells (bytesV_one t) (by unfold maxLen; omega) (by omega) (Nat.zero_le _)
  refine ⟨v', w', fun ty => by rw [← hrun]; rfl, ?_, hgrow, hat⟩
  rw [bytesV_append, ByteArray.size_append]
  exact hown
theorem infoRow1 : (Try.prog.info? 33).map (fun i => (i.zero, i.size, i.bytes)) = some (some (.slice none 0 0), 1, 24) := by kernel_rfl
/-- 'append(v, row)' of one row, whatever v is. -/
theorem appR_one {w : World} {v x : Value} {n : Nat} {Vs : List Value} {b : Nat} (h : w.ownsRow 0 33 1 v n Vs) (hx : w.cell? ⟨b, 0, none⟩ = some x) (h1 : x.oneCell' = true) (hn : n ≤ 1000000) :
    ∃ v' w', (∀ ty, (Builtin.append_ #[28, 28] ty #[v, .slice (some ⟨b, 0, none⟩) 1 1]).run Try.prog w = .ok v' w') ∧ w'.ownsRow 0 33 1 v' (n + 1) (Vs ++ [x]) ∧ w.grownBy w' v.ownBlock ∧ (v'.ownBlock = v.ownBlock ∨ v'.ownBlock = some w.heap.size) := by
  obtain ⟨i0, hi, hz0, hz1, hz2⟩ := info_parts infoRow1
  have hcells : ∀ j u, [x][j]? = some u → w.cell? ((⟨b, 0, none⟩ : Addr).add j) = some u := by
    intro j u hu
    have hj : j < 1 := (List.getElem?_eq_some_iff.1 hu).1
    obtain rfl : j = 0 := by omega
    rw [show (⟨b, 0, none⟩ : Addr).add 0 = ⟨b, 0, none⟩ from by unfold Addr.add; split <;> simp_all, hx]
    exact hu
  obtain ⟨v', w', hrun, hown, hgrow, _, hat⟩ := run_append_own_at (P := Try.prog) w 0 28 28 33 i0 (.slice none 0 0) 1 24 Try.underlying28 hi hz0 hz1 hz2 rfl (by decide) v n Vs h ⟨b, 0, none⟩ 1 1 [x] rfl hcells (by simpa using h1) (by unfold maxLen; omega) (by omega) (Nat.zero_le _)
  exact ⟨v', w', fun ty => by rw [← hrun]; rfl, hown, hgrow, hat⟩
theorem owns_oneCell {w : World} {B : Nat} {e : TypeId} {size : Nat} {v : Value} {n : Nat} {xs : List Value} (h : w.ownsRow B e size v n xs) : v.oneCell' = true := by
  rcases h.2 with ⟨rfl, _⟩ | ⟨g, cap, cur, rfl, _⟩ <;> rfl
end Go.Proofs.Ytggchfmglaijgaa
