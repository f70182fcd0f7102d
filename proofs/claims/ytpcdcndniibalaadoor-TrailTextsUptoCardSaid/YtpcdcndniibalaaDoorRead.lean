/- Proved here: the document's Read answers rd (what begins at the place, and how many bytes it has) at every place within every slice of bytes, and leaves the world as it was. -/
import Derived.Test.YtpcdcndniibalaaDoorRead2
import Derived.Test.YtpcdcndniibalaaDoorRead3
import Derived.Test.YtpcdcndniibalaaDoorRead4
import Derived.Test.YtpcdcndniibalaaDoorDecPlain
namespace Go.Proofs.YtpcdcndniibalaaDoor
open Go.RowKit

theorem refRead (s : ByteArray) (b off cap at_ : Nat) (w : World) (hs : s.size ≤ 140737488355328) (hat : at_ < s.size) (hp : ∀ j, j < s.size → w.cell? ⟨b, off + j, none⟩ = some (.int .u8 (s.get! j).toNat)) :
    Calls Tryd.prog 42 #[.slice (some ⟨b, off, none⟩) s.size cap, .int .i64 (at_ : Int)] w fun e w' => e = .returned (.tuple #[.int .i64 ((rd s at_).1 : Int), .int .i64 ((rd s at_).2 : Int)]) ∧ w = w' := by
  unfold rd
  have l0 : (s.get! at_).toNat < 256 := (s.get! at_).toNat_lt
  have l1 : (s.get! (at_ + 1)).toNat < 256 := (s.get! (at_ + 1)).toNat_lt
  have l2 : (s.get! (at_ + 2)).toNat < 256 := (s.get! (at_ + 2)).toNat_lt
  have l3 : (s.get! (at_ + 3)).toNat < 256 := (s.get! (at_ + 3)).toNat_lt
  have c0 := hp at_ hat
  have c1 : at_ + 1 < s.size → w.cell? ⟨b, off + (at_ + 1), none⟩ = some (.int .u8 (s.get! (at_ + 1)).toNat) := fun h => hp (at_ + 1) h
  have c2 : at_ + 2 < s.size → w.cell? ⟨b, off + (at_ + 2), none⟩ = some (.int .u8 (s.get! (at_ + 2)).toNat) := fun h => hp (at_ + 2) h
  have c3 : at_ + 3 < s.size → w.cell? ⟨b, off + (at_ + 3), none⟩ = some (.int .u8 (s.get! (at_ + 3)).toNat) := fun h => hp (at_ + 3) h
  generalize (s.get! at_).toNat = x0 at *
  generalize (s.get! (at_ + 1)).toNat = x1 at *
  generalize (s.get! (at_ + 2)).toNat = x2 at *
  generalize (s.get! (at_ + 3)).toNat = x3 at *
  generalize s.size = n at *
  by_cases a : x0 < 128
  · rw [rd_ascii a]
    exact read_zero n b off cap at_ x0 _ _ w hat c0 (by omega) (by omega) (.inl ⟨by omega, rfl, rfl⟩)
  by_cases a2 : x0 < 192 ∨ 248 ≤ x0
  · rw [rd_none (by omega) l0]
    exact read_zero n b off cap at_ x0 _ _ w hat c0 (by omega) (by omega) (.inr ⟨by omega, rfl, rfl⟩)
  by_cases a3 : x0 < 224
  · refine read_2 n b off cap at_ x0 x1 _ _ w hs hat c0 (by omega) (by omega) c1 (by omega) (by omega) ?_
    unfold Res2
    by_cases g : n - at_ < 2 ∨ x1 < 128 ∨ 191 < x1 ∨ 64 * (x0 - 192) + (x1 - 128) < 128
    · rw [rd2_no (by omega) g]; left; refine ⟨by omega, rfl, rfl⟩
    · rw [rd2_yes (by omega) (by omega) (by omega) (by omega) (by omega)]; right; refine ⟨by omega, ?_, rfl⟩; simp only; omega
  by_cases a4 : x0 < 240
  · refine read_3 n b off cap at_ x0 x1 x2 _ _ w hs hat c0 (by omega) (by omega) c1 c2 (by omega) (by omega) (by omega) (by omega) ?_
    unfold Res3
    by_cases g : n - at_ < 3 ∨ x1 < 128 ∨ 191 < x1 ∨ x2 < 128 ∨ 191 < x2 ∨ v3 x0 x1 x2 < 2048 ∨ (55296 ≤ v3 x0 x1 x2 ∧ v3 x0 x1 x2 ≤ 57343)
    · rw [rd3_no (by omega) g]; unfold v3 at g; left; refine ⟨by omega, rfl, rfl⟩
    · rw [rd3_yes (by omega) (by omega) (by omega) (by omega) (by omega) (by omega) (by omega) (by omega)]; unfold v3 at g ⊢; right; refine ⟨by omega, ?_, rfl⟩; simp only; omega
  · refine read_4 n b off cap at_ x0 x1 x2 x3 _ _ w hs hat c0 (by omega) (by omega) c1 c2 c3 (by omega) (by omega) (by omega) (by omega) (by omega) (by omega) ?_
    unfold Res4
    by_cases g : n - at_ < 4 ∨ x1 < 128 ∨ 191 < x1 ∨ x2 < 128 ∨ 191 < x2 ∨ x3 < 128 ∨ 191 < x3 ∨ v4 x0 x1 x2 x3 < 65536 ∨ 1114111 < v4 x0 x1 x2 x3
    · rw [rd4_no (by omega) g]; unfold v4 at g; left; refine ⟨by omega, rfl, rfl⟩
    · rw [rd4_yes (by omega) (by omega) (by omega) (by omega) (by omega) (by omega) (by omega) (by omega) (by omega) (by omega)]; unfold v4 at g ⊢; right; refine ⟨by omega, ?_, rfl⟩; simp only; omega
end Go.Proofs.YtpcdcndniibalaaDoor
