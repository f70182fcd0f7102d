/- Proved here: the law's helper that makes a drum of sectors. -/
import Derived.Test.YtggchfmglaijgaaTapeHelp
import Derived.Test.YtggchfmglaijgaaByteTwin
namespace Go.Proofs.Ytggchfmglaijgaa
open Go.RowKit

/-- What filled leaves. -/
def FilledPost (w : World) (L : List ByteArray) (e : Ending) (W' : World) : Prop :=
  ∃ (G : Nat) (F : Nat → Prop) (M : DM), e = .returned (.pointer (some ⟨G, 0, none⟩)) ∧ DW w W' F G L.length M ∧ Still M ∧ M.steps = L.length ∧ M.loose.length = L.length ∧ M.now = L
structure FillSt (w wr : World) (F : Nat → Prop) (G : Nat) (L : List ByteArray) (M : DM) (i : Nat) : Prop where
  d : DW w wr F G L.length M
  still : Still M
  st : M.steps = i
  lo : M.loose.length = i
  now : M.now = L.take i ++ List.replicate (L.length - i) (zeroB 64)
set_option maxRecDepth 100000 in
set_option maxHeartbeats 8000000 in
theorem filled14_any (q : Option Addr) (L : List ByteArray) (N k : Nat) (Y : Nat → Prop) (w : World) (hN : L.length = N) (h1 : 1 ≤ N) (h2 : N ≤ 16384) (hg : GroupsIn w Y (.slice q N k) L) (h64 : ∀ s ∈ L, s.size = 64) :
    Calls Try.prog 22 #[.slice q N k] w (FilledPost w L) := by
  have NW := Lib.hid (new_ok N h1 h2 w)
  have HH := Lib.hid (And.intro hN (And.intro h2 (And.intro hg h64)))
  have hNI : (N : Int) ≤ 16384 := by omega
  clear hN h1 h2 hg h64
  go_enter Try.func22, Try.ntmps22
  go_wp2_with (fail)
  with_reducible (refine NW.out.mono ?_)
  rintro e W1 ⟨G, F1, rfl, hd, hb, hF⟩
  have s1 : FillSt w W1 F1 G L (newM N) 0 := ⟨by rw [HH.out.1]; exact DW.mk hd hb hF, ⟨rfl, rfl⟩, rfl, rfl, by rw [HH.out.1]; exact new_now N⟩
  have S1 := Lib.hid s1
  clear hd hb hF NW s1
  go_wp2_with (fail)
  go_loopw [21] (fun x wr => ∃ (i : Nat) (F : Nat → Prop) (M : DM), x = .int .i64 (i : Int) ∧ i ≤ N ∧ Hid (FillSt w wr F G L M i)) (fun x _ => N - (intOf x).toNat)
  case atStart => exact ⟨0, F1, _, rfl, Nat.zero_le _, S1⟩
  case round =>
    obtain ⟨i, F, M, rfl, hi, HR⟩ := hrel
    clear S1
    by_cases hlt : i < N
    · have hltI : (i : Int) < (N : Int) := by omega
      have hi0 : (0 : Int) ≤ (i : Int) := by omega
      have hiL : i < L.length := by rw [HH.out.1]; exact hlt
      obtain ⟨Vs, g1, g2, g3⟩ := (HH.out.2.2.1.far HR.out.d.below)
      rw [HH.out.1] at g1
      obtain ⟨g, cap, hq, _, _⟩ := g1.form (by omega)
      injection hq with hq1 hq2 hq3
      subst hq1 hq3
      obtain ⟨v, a1, a2, a3⟩ := g3 i hiL
      obtain ⟨pa, pc, rfl, hB, hnil⟩ := rowv_holds a2
      have hs64 := HH.out.2.2.2 L[i] (List.getElem_mem hiL)
      have hcell : wr.cell? ⟨g, i, none⟩ = some (.slice pa L[i].size pc) := by rw [g1.cellAt i (by omega), a1]
      have TW := twin_any pa L[i] pc wr (by omega) hB hnil
      have htk : L.take (i + 1) = L.take i ++ [L[i]] := List.take_succ_eq_append_getElem hiL
      generalize L[i] = s at *
      rw [hs64] at hcell TW
      have HTW := Lib.hid TW
      have HL := Lib.hid (And.intro hlt (And.intro hs64 htk))
      clear TW hB hnil a1 a2 a3 g1 g2 g3 hlt hs64 htk hiL hi
      go_wp2_with (fail)
      with_reducible (refine HTW.out.mono ?_)
      rintro e W3 ⟨g3, c3, rfl, o3, b3⟩
      have d3 := HR.out.d.on b3
      have hnf : ¬ F g3 := fun f => by have := HR.out.d.drum.lt _ f; have := o3.2.1; omega
      have WR := dwrite_ok d3 ⟨by have := HR.out.st; have := HL.out.1; have := HH.out.2.1; omega, by rw [HR.out.still.fuse]; exact Nat.zero_le _, by have := HR.out.lo; have := HL.out.1; have := HH.out.2.1; omega⟩ HR.out.still.off i (by rw [HH.out.1]; exact HL.out.1) g3 s c3 o3.holds (by rw [HL.out.2.1]; exact Nat.le_refl _) hnf
      rw [HL.out.2.1] at WR ⊢
      have HWR := Lib.hid WR
      clear d3 hnf WR o3 b3 HTW
      go_wp2_with (fail)
      with_reducible (refine HWR.out.mono ?_)
      rintro e W4 ⟨rfl, F4, d4, t4, gr4⟩
      have sw := still_write HR.out.still i s
      have hnow : (M.write i s).now = L.take (i + 1) ++ List.replicate (L.length - (i + 1)) (zeroB 64) := by
        rw [write_now HR.out.still.off i s HL.out.2.1, HR.out.now, HL.out.2.2]
        have hl : (L.take i).length = i := by rw [List.length_take, HH.out.1]; have := HL.out.1; omega
        rw [List.set_append_right _ _ (by omega), hl, Nat.sub_self, show L.length - i = (L.length - (i + 1)) + 1 by rw [HH.out.1]; have := HL.out.1; omega, List.replicate_succ, List.set_cons_zero, List.append_assoc, List.singleton_append]
      have HN := Lib.hid (show FillSt w W4 F4 G L (M.write i s) (i + 1) from ⟨d4, sw.1, by rw [sw.2.1, HR.out.st], by rw [sw.2.2, HR.out.lo], hnow⟩)
      clear d4 t4 gr4 sw hnow HWR
      go_wp2_with (fail)
      go_roundw
      case rel => exact ⟨i + 1, F4, _, by go_num, by have := HL.out.1; omega, HN⟩
      case measure => simp [intOf]; have := HL.out.1; omega
    · obtain rfl : i = N := by omega
      go_wp2_with (fail)
      go_ret
      refine ⟨G, F, M, rfl, HR.out.d, HR.out.still, by rw [HR.out.st, HH.out.1], by rw [HR.out.lo, HH.out.1], ?_⟩
      rw [HR.out.now, HH.out.1, Nat.sub_self, List.take_of_length_le (by rw [HH.out.1]; exact Nat.le_refl _)]
      exact List.append_nil _
end Go.Proofs.Ytggchfmglaijgaa
