/- Proved here: what trail.guess answers of every text. -/
import Derived.Test.YtpcdcndniibalaaDoorTrailGa
import Derived.Test.YtpcdcndniibalaaDoorTrailGb
namespace Go.Proofs.YtpcdcndniibalaaDoor
open Go.RowKit

theorem guess_any (s : ByteArray) (w : World) (hL : TLeans w) (hs : s.size ≤ 4194304) :
    Calls Tryd.prog 22 #[.string s] w (GuessPost w (guessL s.data.toList)) := by
  obtain ⟨pp, hpp⟩ : ∃ pp : ByteArray, Lib.trimSuffix (Lib.cut s.data.toList [47, 64]).1 [47] = pp.data.toList := ⟨⟨_⟩, rfl⟩
  obtain ⟨L, hLL⟩ : ∃ L, Lib.splitB ⟨#[47]⟩ 0 (Lib.countB pp ⟨#[47]⟩) pp = L := ⟨_, rfl⟩
  have hsp : (Lib.split pp.data.toList [47]) = L.map (fun x => x.data.toList) := by
    rw [← hLL, Lib.splitB_data]; rfl
  have hst : ((Lib.split (Lib.trimSuffix (Lib.cut s.data.toList [47, 64]).1 [47]) [47]).drop 1).map atoiV = (L.drop 1).map (fun x => atoiV x.data.toList) := by
    rw [hpp, hsp, ← List.map_drop, List.map_map]; rfl
  unfold guessL
  rw [hst]
  cases hc : Lib.cut s.data.toList [47, 64] with
  | mk a rf =>
    obtain ⟨r, f⟩ := rf
    rw [hc] at hpp
    cases f
    · simp only [Bool.false_eq_true, if_false]
      by_cases hN : Lib.countB pp ⟨#[47]⟩ = 0
      · exact guess_bz s w hL hs ⟨a.toArray⟩ ⟨r.toArray⟩ hc pp hpp L hLL _ hN rfl
      · exact guess_bs s w hL hs ⟨a.toArray⟩ ⟨r.toArray⟩ hc pp hpp L hLL _ rfl hN
    · simp only [if_true]
      cases hc2 : Lib.cut r [123] with
      | mk a2 rf2 =>
        obtain ⟨r2, f2⟩ := rf2
        by_cases hN : Lib.countB pp ⟨#[47]⟩ = 0
        · exact guess_az s w hL hs ⟨a.toArray⟩ ⟨r.toArray⟩ hc ⟨a2.toArray⟩ ⟨r2.toArray⟩ f2 hc2 ⟨(Lib.trimSuffix r2 [125]).toArray⟩ rfl pp hpp L hLL _ hN rfl
        · exact guess_as s w hL hs ⟨a.toArray⟩ ⟨r.toArray⟩ hc ⟨a2.toArray⟩ ⟨r2.toArray⟩ f2 hc2 ⟨(Lib.trimSuffix r2 [125]).toArray⟩ rfl pp hpp L hLL _ rfl hN
end Go.Proofs.YtpcdcndniibalaaDoor
