/- Proved here: the document's cache: Keys, of all entries or of the dirty ones. -/
import Derived.Test.YtaigbplidkakhaaCRef3
namespace Go.Proofs.Ytaigbplidkakhaa
open Go.RowKit Go.ChangeMaps

theorem newI0 (W : World) : OwnI (W.alloc (.cells #[] 3)) W.heap.size (some ⟨W.heap.size, 0, none⟩) 0 [] :=
  ⟨World.ownsRow_made (size := 1) W #[] 0 (Nat.le_refl _) (Nat.zero_le _) rfl, fun e => (by cases e), Nat.le_refl _⟩
def ksOf (al : Bool) (l : List EntI) : List Int := (l.filter (fun e => al || e.d)).map (·.k)
theorem ksOf_snoc (al : Bool) (l : List EntI) (e : EntI) : ksOf al (l ++ [e]) = ksOf al l ++ (if al || e.d then [e.k] else []) := by
  unfold ksOf
  cases al <;> cases hd : e.d <;> simp [List.filter_append, hd]
theorem ksOf_length (al : Bool) (l : List EntI) : (ksOf al l).length ≤ l.length := by
  unfold ksOf
  rw [List.length_map]
  exact List.length_filter_le _ _
set_option maxRecDepth 100000 in
set_option maxHeartbeats 2000000 in
theorem refKeys {F : Nat → Prop} {W : World} {R : Nat} {places : Int} {l : List EntI} (h : RC F W R places l) (hl : l.length ≤ 65536) (al : Bool) :
    Calls Try.prog 11 #[PV R, .bool al] W fun x W' => ∃ q c, x = .returned (.slice q (ksOf al l).length c) ∧ OwnI W' W.heap.size q c (ksOf al l) ∧ Below W.heap.size W W' := by
  obtain ⟨s, c, hc, r1, _, _, ho⟩ := h.row
  have HO := Lib.hid ho
  have rb := bcell ((Below.refl _ W).alloc (Nat.le_refl _) (.cells #[] 3)) r1
  clear h ho
  go_enter Try.func11, Try.ntmps11
  go_wp2_with (fail)
  go_loopw [14, 5] (fun i v wr => ∃ (j : Nat) (ll : List Int) (qq : Option Addr) (c2 : Nat), i = .int .i64 (j : Int) ∧ v = .slice qq ll.length c2 ∧ j ≤ l.length ∧ Hid' (Below W.heap.size W wr ∧ OwnI wr W.heap.size qq c2 ll ∧ ll = ksOf al (l.take j))) (fun i _ _ => l.length - (intOf i).toNat)
  case atStart => exact ⟨0, [], some ⟨W.heap.size, 0, none⟩, 0, rfl, rfl, Nat.zero_le _, ⟨(Below.refl _ _).alloc (Nat.le_refl _) _, newI0 W, rfl⟩⟩
  case round =>
    obtain ⟨j, ll, qq, c2, rfl, rfl, hj, hR⟩ := hrel
    have HR := Lib.hid hR.out
    have hll : ll.length ≤ 65536 := by
      rw [HR.out.2.2]
      refine Nat.le_trans (ksOf_length _ _) ?_
      rw [List.length_take]
      omega
    clear hR
    by_cases hlt : j < l.length
    · obtain ⟨g, rfl, hcl⟩ := RC.cells (F := fun _ => True) (R := R) (places := places) HO.out hlt
      obtain ⟨e, he⟩ : ∃ e, l[j]? = some e := ⟨l[j], List.getElem?_eq_getElem hlt⟩
      obtain ⟨d0, d1, d2, d3⟩ := hcl e he
      have b0 := bcell HR.out.1 d0
      have b1 := bcell HR.out.1 d1
      have b2 := bcell HR.out.1 d2
      have b3 := bcell HR.out.1 d3
      have hsn : ksOf al (l.take (j + 1)) = ll ++ (if al || e.d then [e.k] else []) := by
        rw [List.take_add_one, he, Option.toList_some, ksOf_snoc, ← HR.out.2.2]
      obtain ⟨ed, hed⟩ : ∃ ed, e.d = ed := ⟨_, rfl⟩
      rw [hed] at hsn b2
      have HS := Lib.hid hsn
      have hbw : Below wr.heap.size wr (wr.alloc (.cells #[.int .i64 e.k, .int .i64 e.v, .bool ed, .int .i64 (e.p : Int)] 76)) := (Below.refl _ _).alloc (Nat.le_refl _) _
      have hbW : Below W.heap.size W (wr.alloc (.cells #[.int .i64 e.k, .int .i64 e.v, .bool ed, .int .i64 (e.p : Int)] 76)) := HR.out.1.alloc HR.out.1.size _
      obtain ⟨g2, cap, w1, hrun, hown, hgr⟩ := appendI_one (x := e.k) (HR.out.2.1.far hbw) hbW.size (by omega)
      rw [World.size_alloc] at hrun
      have HA := Lib.hid hrun
      have HG := Lib.hid (And.intro hown (And.intro hgr hbW))
      have HT := Lib.hid (HR.out.2.1.far hbw)
      have hltI : (j : Int) < (l.length : Int) := by omega
      clear hcl he d0 d1 d2 d3 hsn hbw hbW hrun hown hgr
      clear hed
      cases al with
      | true =>
        go_wp2_with (at_builtin; refine t_append_eq rfl (.tmp 23) (.tmp 26) 36 rfl (.slice qq ll.length c2) _ _ _ (by rfl) (by rfl) HA.out ?_)
        go_round
        case rel =>
          refine ⟨j + 1, ll ++ [e.k], some ⟨g2, 0, none⟩, cap, by go_num, by rw [List.length_append]; rfl, by omega, ⟨HG.out.2.2.grown HG.out.2.1 HG.out.2.2.size (fun k e' => (World.ownsRow.lt HT.out.1 k e').1), HG.out.1, ?_⟩⟩
          rw [HS.out]
          simp
        case measure => simp [intOf]; omega
      | false =>
        cases ed with
        | true =>
          go_wp2_with (at_builtin; refine t_append_eq rfl (.tmp 23) (.tmp 26) 36 rfl (.slice qq ll.length c2) _ _ _ (by rfl) (by rfl) HA.out ?_)
          go_round
          case rel =>
            refine ⟨j + 1, ll ++ [e.k], some ⟨g2, 0, none⟩, cap, by go_num, by rw [List.length_append]; rfl, by omega, ⟨HG.out.2.2.grown HG.out.2.1 HG.out.2.2.size (fun k e' => (World.ownsRow.lt HT.out.1 k e').1), HG.out.1, ?_⟩⟩
            rw [HS.out]
            simp
          case measure => simp [intOf]; omega
        | false =>
          go_wp2_with (fail)
          go_round
          case rel =>
            refine ⟨j + 1, ll, qq, c2, by go_num, rfl, by omega, ⟨HG.out.2.2, HT.out, ?_⟩⟩
            rw [HS.out]
            simp
          case measure => simp [intOf]; omega
    · obtain rfl : j = l.length := by omega
      go_wp2_with (fail)
      go_ret
      refine ⟨qq, c2, ?_, ?_, HR.out.1⟩
      · have := HR.out.2.2
        rw [List.take_length] at this
        rw [← this]; rfl
      · have := HR.out.2.2
        rw [List.take_length] at this
        rw [← this]; exact HR.out.2.1
end Go.Proofs.Ytaigbplidkakhaa
