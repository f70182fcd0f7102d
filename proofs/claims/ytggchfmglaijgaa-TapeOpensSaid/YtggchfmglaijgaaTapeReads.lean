/- Proved here: what a tape's reader makes of sectors one behind the other, in plain words. -/
import Derived.Test.YtggchfmglaijgaaTapeTakeG
import Derived.Test.YtggchfmglaijgaaTapeAppend
namespace Go.Proofs.Ytggchfmglaijgaa
open Go.RowKit

def readsM (gen : Nat) : RM → List (List UInt8) → RM
  | M, [] => M
  | M, l :: r => if M.fit gen l = true then readsM gen (M.next l) r else M
def DM.bump (M : DM) (k : Nat) : DM := { M with steps := M.steps + k }
theorem DM.bump_zero (M : DM) : M.bump 0 = M := rfl
theorem DM.bump_step {M : DM} (h : Still M) (k : Nat) : (M.bump k).step = M.bump (k + 1) := by
  unfold DM.step DM.bump
  have h1 := h.fuse
  have h2 := h.down
  cases M
  subst h1 h2
  rfl
theorem Still.bump {M : DM} (h : Still M) (k : Nat) : Still (M.bump k) := ⟨h.fuse, h.down⟩
def logOf (M : DM) (lo n : Nat) : List (List UInt8) := ((M.now.drop lo).take n).map bl
theorem logOf_drop (M : DM) (N lo n k : Nat) (hN : M.now.length = N) (h : lo + n ≤ N) (hk : k < n) : (logOf M lo n).drop k = bl (M.now.getD (lo + k) ⟨#[]⟩) :: (logOf M lo n).drop (k + 1) := by
  have hl : (logOf M lo n).length = n := by unfold logOf; rw [List.length_map, List.length_take, List.length_drop]; omega
  rw [List.drop_eq_getElem_cons (by rw [hl]; exact hk)]
  congr 1
  unfold logOf
  rw [List.getElem_map, List.getElem_take, List.getElem_drop, List.getD_eq_getElem?_getD, List.getElem?_eq_getElem (by omega), Option.getD_some]
theorem logOf_end (M : DM) (N lo n : Nat) (hN : M.now.length = N) (h : lo + n ≤ N) : (logOf M lo n).drop n = [] := by
  rw [List.drop_eq_nil_iff]
  unfold logOf
  rw [List.length_map, List.length_take, List.length_drop]; omega
/-- A reader that took k sectors is small. -/
structure Little (R : RM) (k : Nat) : Prop where
  taken : R.taken = k
  missing : R.missing ≤ 65535
  groups : R.groups.length ≤ k
  begun : R.begun.size ≤ 48 * k
theorem little_new : Little newR 0 := ⟨rfl, Nat.zero_le _, Nat.le_refl _, Nat.le_refl _⟩
theorem Little.next {R : RM} {k gen : Nat} {l : List UInt8} (h : Little R k) (hf : R.fit gen l = true) (hl : l.length = 64) : Little (R.next l) (k + 1) := by
  have hs := fit_size hf
  have hp := partL_length l hl hs
  have hg : (R.grown l).size ≤ 48 * (k + 1) := by
    unfold RM.grown
    rw [ByteArray.size_append, ofL_size, hp]
    have := h.begun
    omega
  have hb : behL l < 65536 := val_two l 12
  unfold RM.next
  split
  · exact ⟨by show R.taken + 1 = _; rw [h.taken], Nat.zero_le _, by show (R.groups ++ [_]).length ≤ _; rw [List.length_append]; exact Nat.succ_le_succ h.groups, Nat.zero_le _⟩
  · exact ⟨by show R.taken + 1 = _; rw [h.taken], by show behL l ≤ _; omega, Nat.le_succ_of_le h.groups, hg⟩
/-- Groups as they were told: a row of rows. -/
def GroupsIn (W : World) (Y : Nat → Prop) (gv : Value) (L : List ByteArray) : Prop :=
  ∃ Vs, W.ownsRow 0 33 1 gv L.length Vs ∧ (∀ k, gv.ownBlock = some k → Y k) ∧ ∀ i (h : i < L.length), ∃ v, Vs[i]? = some v ∧ W.ownsRow 0 5 1 v L[i].size (bytesV L[i]) ∧ ∀ k, v.ownBlock = some k → Y k
theorem GroupsIn.keep {W W' : World} {Y : Nat → Prop} {gv : Value} {L : List ByteArray} (h : GroupsIn W Y gv L) (hb : ∀ k, Y k → W'.heap[k]? = W.heap[k]?) : GroupsIn W' Y gv L := by
  obtain ⟨Vs, h1, h2, h3⟩ := h
  refine ⟨Vs, owns_block h1 (fun k hk => hb k (h2 k hk)), h2, fun i hi => ?_⟩
  obtain ⟨v, a1, a2, a3⟩ := h3 i hi
  exact ⟨v, a1, owns_block a2 (fun k hk => hb k (a3 k hk)), a3⟩
theorem ReadIn.told {W : World} {Y : Nat → Prop} {R gen : Nat} {M : RM} {gv bv : Value} {Vs : List Value} (h : ReadIn W Y R gen M gv bv Vs) : GroupsIn W Y gv M.groups :=
  ⟨Vs, h.groups, fun k hk => (h.yg k hk).1, fun i hi => by
    obtain ⟨v, a1, a2, a3⟩ := h.rows i hi
    exact ⟨v, a1, a2, fun k hk => (a3 k hk).1⟩⟩
end Go.Proofs.Ytggchfmglaijgaa
