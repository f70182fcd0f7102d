/- Proved here: what every statement's row needs: how an argument of bytes is opened. -/
import Derived.Test.YtfmlmdfehaajbaaGreatDoorRows
import Derived.WalkKit
import Derived.ProofKit
import Derived.OpenShut
import Derived.Deep.DeepHandedRow
import Derived.MakeChecks
import Derived.SizedLaws
import Derived.Test.YtfmlmdfehaajbaaGreatDoorNext
import Derived.PinnedBridge
import Derived.Lib.LaidU8T
namespace Go.Proofs.YtfmlmdfehaajbaaGreatDoor
open Go.ChangeShapes Go.WideShapes Go.ChangeAt Go.RowKit

theorem own : ownKnob Tryz.prog.godebug = none := by kernel_rfl
theorem laidOut : laidOutB Tryz.prog = true := by kernel_rfl
theorem bulk_one {H : Type} (d : DataW H) : 1 ≤ Rows.uptoBulk d := by
  cases d with
  | lit l => cases l <;> simp [Rows.uptoBulk]
  | _ => simp [Rows.uptoBulk]
theorem bulk_length {H : Type} : ∀ l : List (DataW H), l.length ≤ Rows.uptoBulkAll l
  | [] => by simp [Rows.uptoBulkAll]
  | d :: l => by
    have h1 := bulk_one d
    have h2 := bulk_length l
    simp only [Rows.uptoBulkAll, List.length_cons]
    omega
theorem bulk_part {H : Type} {d : DataW H} : ∀ {l : List (DataW H)}, d ∈ l → Rows.uptoBulk d ≤ Rows.uptoBulkAll l
  | [], h => by cases h
  | x :: l, h => by
    simp only [Rows.uptoBulkAll]
    rcases List.mem_cons.1 h with rfl | h
    · omega
    · have := bulk_part h
      omega
theorem bulk_bound {H : Type} {l : List (DataW H)} (hk : Rows.uptoSmall H l = true) {d : DataW H} (h : d ∈ l) : Rows.uptoBulk d ≤ 1048576 :=
  Nat.le_trans (bulk_part h) (of_decide_eq_true hk)

end Go.Proofs.YtfmlmdfehaajbaaGreatDoor
namespace Go.Proofs.YtfmlmdfehaajbaaGreatDoor
open Go.ChangeShapes Go.WideShapes Go.ChangeAt Go.RowKit
open Go.Lib

theorem cellsByte : Tryz.prog.cellsOf 5 = 1 := by kernel_rfl

/-- These bytes stand behind this address (nothing is asked of none). -/
def HoldsB (w : World) (p : Option Addr) (s : ByteArray) : Prop := 0 < s.size → ∃ b off, p = some ⟨b, off, none⟩ ∧ ∀ j, j < s.size → w.cell? ⟨b, off + j, none⟩ = some (.int .u8 (s.get! j).toNat)

theorem below_cat {a b c : World} (h : Below a.heap.size a b) (k : Below b.heap.size b c) : Below a.heap.size a c := h.trans (k.mono h.size)
theorem hb_cell {w W : World} {a : Addr} {v : Value} (h : Below w.heap.size w W) (hc : w.cell? a = some v) : W.cell? a = some v :=
  (h.cell (World.block_lt_of_cell? _ _ hc)).trans hc
theorem HoldsB.below {w W : World} {p : Option Addr} {s : ByteArray} (h : HoldsB w p s) (hb : Below w.heap.size w W) : HoldsB W p s := fun h0 => by
  obtain ⟨b, off, e, hc⟩ := h h0
  exact ⟨b, off, e, fun j hj => hb_cell hb (hc j hj)⟩

theorem open_bytes {H : Type} {enc : TypeId × Value → H} {W : World} {a0 : Option Addr} {len cap : Nat} {d0 : DataW H} {p : List MemPlace} {ts : List TypeId} {ds : List (DataW H)} {j : Nat}
    (hsz : (DataW.weightsEach Tryz.prog ts ds).all (· ≤ reachBytes) = true) (ht : ts[j]? = some 102) (hd : ds[j]? = some d0)
    (h0 : DataW.Trod enc Tryz.prog W 0 (fun _ => true) true 102 (.slice a0 len cap) d0 p) :
    ∃ s : ByteArray, s.size = len ∧ len ≤ cap ∧ len ≤ 140737488351232 ∧ HoldsB W a0 s ∧ (a0 = none → cap = 0) ∧ len ≤ Rows.uptoBulk d0 := by
  obtain ⟨fuel, hf⟩ := h0
  rcases open_ints Tryz.underlying102 Tryz.underlying5 cellsByte hf with ⟨hcs, hx⟩ | ⟨a, len', cap', zs, hcs, _, hl, hm, hz, hx, hcell, hwz⟩
  · simp [Value.cells] at hcs
    obtain ⟨rfl, rfl, rfl⟩ := hcs
    exact ⟨⟨#[]⟩, rfl, Nat.le_refl _, by omega, fun h => absurd h (by decide), fun _ => rfl, Nat.zero_le _⟩
  · simp [Value.cells] at hcs
    obtain ⟨rfl, rfl, rfl⟩ := hcs
    simp only [Prod.mk.injEq] at hx
    obtain ⟨rfl, rfl⟩ := hx
    simp only [if_true] at hz
    have hb : Tryz.prog.bytesOf 5 = 1 := by kernel_rfl
    have hw := sized_slice hsz ht hd Tryz.underlying102
    have hr : reachBytes = 140737488351232 := rfl
    rw [hb, hr] at hw
    simp only [lits, List.length_map, List.length_take, List.length_drop] at hw
    have byte : ∀ j, j < zs.length → 0 ≤ zs.getD j 0 ∧ zs.getD j 0 < 256 := fun j hj => by
      have h1 := hwz (zs.getD j 0) (by simp [List.getD, hj])
      have h2 : IntKind.u8.min = 0 := rfl
      have h3 : IntKind.u8.max = 255 := rfl
      simp only [Lit.wf, Bool.and_eq_true, decide_eq_true_eq] at h1
      omega
    refine ⟨⟨((zs.take len).map fun n => UInt8.ofNat n.toNat).toArray⟩, by simp [ByteArray.size]; omega, by omega, by omega, fun h => ?_, (fun h => by cases h), ?_⟩
    rotate_left
    · have h1 := bulk_length (lits (H := H) .u8 (zs.take len))
      have h2 : (lits (H := H) .u8 (zs.take len)).length = len := by simp [lits]; omega
      simp only [Rows.uptoBulk]
      omega
    have hlen : 0 < len := by simp [ByteArray.size] at h; omega
    obtain ⟨b, off, rfl, hc⟩ := ints_at hcell (by omega)
    refine ⟨b, off, rfl, fun j hj => ?_⟩
    have hj' : j < len := by simp [ByteArray.size] at hj; omega
    rw [hc j (by omega)]
    have e : (ByteArray.mk ((zs.take len).map fun n => UInt8.ofNat n.toNat).toArray).get! j = UInt8.ofNat (zs.getD j 0).toNat := by
      show (((zs.take len).map fun n => UInt8.ofNat n.toNat).toArray)[j]! = _
      rw [getElem!_pos _ _ (by simp; omega)]
      simp [List.getD, show j < zs.length by omega]
    have := byte j (by omega)
    have e3 : ((UInt8.ofNat (zs.getD j 0).toNat).toNat : Int) = zs.getD j 0 := by
      rw [UInt8.toNat_ofNat']
      omega
    rw [e, e3]
end Go.Proofs.YtfmlmdfehaajbaaGreatDoor
