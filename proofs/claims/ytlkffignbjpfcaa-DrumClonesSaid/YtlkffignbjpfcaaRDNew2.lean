/- Proved here: what New makes of the document's drum, walked. -/
import Derived.Test.YtlkffignbjpfcaaRDNew
import Derived.Great.BuildSlice
import Derived.Deep.RegionHeld3
namespace Go.Proofs.Ytlkffignbjpfcaa
open Go.RowKit

theorem fill_cell2 (Z : Array Value) (v : Value) (hv : v.cells = #[v]) (hz : Z.size = 1) : Instr.fill (fun i => some (i * 1, 1)) Z [(0, v)] = some #[v] := by
  have e : Z.setIfInBounds 0 v = #[v] := by
    apply Array.ext
    · simp [hz]
    · intro i h1 h2
      have hi : i = 0 := by simp at h2; omega
      subst hi
      simp
  simp [Instr.fill, hv, hz, e]
def NewRPost (n : Nat) (w : World) (e : Ending) (w' : World) : Prop := ∃ s c Vs, e = .returned (.agg #[.slice s n c, .slice none 0 0, .int .i64 0, .int .i64 (-1), .bool false]) ∧ w'.ownsRow w.heap.size 33 1 (.slice s n c) n Vs ∧ (∀ i, i < n → ∃ v, Vs[i]? = some v ∧ RowOut w' (fun k => k < w.heap.size) v (zeroB 64)) ∧ Below w.heap.size w w'
def NwRel (W : World) (D n : Nat) (v : Value) (wr : World) : Prop := ∃ j : Nat, v = .int .i64 (j : Int) ∧ j ≤ n ∧ ∃ s c Vs, Hid (NewIn wr W D n j s c Vs)
set_option maxRecDepth 100000 in
set_option maxHeartbeats 16000000 in
theorem rnew_any (n : Nat) (hn : n ≤ 200) (W : World) : Calls Try.prog 7 #[.int .i64 (n : Int)] W (NewRPost n W) := by
  have mk := make64
  obtain ⟨iR, hiR, hzR, hsR, _⟩ := info_parts infoRow
  have HIR := Lib.hid (And.intro hiR (And.intro hzR hsR))
  have hn' : (n : Int) ≤ 200 := by omega
  clear hiR hzR hsR
  go_enter Try.func7, Try.ntmps7
  go_wp2_with (fail)
  go_loopw [4] (fun v wr => NwRel W (W.heap.size + 1) n v wr) (fun v _ => n - (intOf v).toNat)
  case atStart =>
    refine ⟨0, rfl, Nat.zero_le _, none, 0, [], Lib.hid ⟨?_, World.ownsRow_nil _ _ _ _, fun i hi => absurd hi (Nat.not_lt_zero i), ((Below.refl _ _).alloc (Nat.le_refl _) _).alloc (by simp) _, by omega, by omega, ?_⟩⟩
    rotate_left
    · exact (Below.heap_alloc (W.alloc (.cells #[.slice none 0 0, .slice none 0 0, .int .i64 0, .int .i64 0, .bool false] 31)) _ W.heap.size (by simp)).trans (heap_alloc_new W _)
    have := heap_alloc_new (W.alloc (.cells #[.slice none 0 0, .slice none 0 0, .int .i64 0, .int .i64 0, .bool false] 31)) (.cells #[.slice none 0 0, .slice none 0 0, .int .i64 0, .int .i64 (-1), .bool false] 31)
    rw [show (W.alloc (.cells #[.slice none 0 0, .slice none 0 0, .int .i64 0, .int .i64 0, .bool false] 31)).heap.size = W.heap.size + 1 by simp] at this
    exact this
  case round =>
    obtain ⟨j, rfl, hj, s, c, Vs, HR⟩ := hrel
    by_cases hlt : j < n
    · have HJ := Lib.hid hlt
      have hlt' : (j : Int) < (n : Int) := by omega
      have hb4 : Below wr.heap.size wr ((wr.alloc (.cells zRow.toArray 5)).drew.alloc (.cells #[.slice (some ⟨wr.heap.size, 0, none⟩) 64 64] 33)) := (((Below.refl _ _).alloc (Nat.le_refl _) _).drew).alloc (by simp) _
      have hrow : RowOut ((wr.alloc (.cells zRow.toArray 5)).drew.alloc (.cells #[.slice (some ⟨wr.heap.size, 0, none⟩) 64 64] 33)) (fun k => k < wr.heap.size) (.slice (some ⟨wr.heap.size, 0, none⟩) 64 64) (zeroB 64) :=
        (zrow_out (w := wr) (X := fun k => k < wr.heap.size) (Nat.lt_irrefl _)).keep fun b cur hf hh => ⟨Below.heap_alloc (wr.alloc (.cells zRow.toArray 5)).drew _ b (block_lt hh), hf⟩
      obtain ⟨g5, cap5, w5, hrun, hz5, ⟨u5, d5⟩, f5, Vs5, hfin⟩ := HR.out.more (lb := (wr.alloc (.cells zRow.toArray 5)).heap.size) (by omega) hb4 hrow (heap_alloc_new (wr.alloc (.cells zRow.toArray 5)).drew _)
      have HRN := Lib.hid hrun
      have HFIN := Lib.hid hfin
      have hb := HR.out.blk
      have c0 : wr.cell? ⟨W.heap.size + 1, 0, none⟩ = some (.slice s j c) := by rw [cell_of_row _ _ _ _ _ _ hb]; rfl
      have hD := block_lt hb
      have c0d : ((wr.alloc (.cells zRow.toArray 5)).alloc (.cells #[.slice (some ⟨wr.heap.size, 0, none⟩) 64 64] 33)).cell? ⟨W.heap.size + 1, 0, none⟩ = some (.slice s j c) := by rw [World.cell?_alloc_past _ _ _ (by simp; omega), World.cell?_alloc_past _ _ _ hD]; exact c0
      have hfl : Instr.fill (fun i => some (i * 1, 1)) ((Array.range (1 * 1)).map (fun x => (Value.slice none 0 0).cells[x % (Value.slice none 0 0).cells.size]!)) [(0, Value.slice (some ⟨wr.heap.size, 0, none⟩) 64 64)] = some #[Value.slice (some ⟨wr.heap.size, 0, none⟩) 64 64] := fill_cell2 _ _ rfl (by simp)
      have HFL := Lib.hid hfl
      clear hb4 hrow hrun hfin hb hfl hz5
      go_wp2_with (fail)
      refine wp_region_held_drew (S := fun _ => True) (by kernel_rfl) trivial (fun hHeld => ?_)
      clear hHeld
      refine wpAnyH_take (i := 0) (oi := _) (v := ?va0) rfl (by kernel_rfl) (by kernel_rfl) (by kernel_rfl) (fun _ _ _ h => h) (Or.inl ⟨by rfl, ?hya0⟩) trivial ?resta0
      case hya0 =>
        intro w hSw
        clear hSw
        go_simp
        try (with_reducible rfl)
      try simp only [Act.put, List.getElem_toArray, List.getElem_cons_zero, List.setIfInBounds_toArray, List.set_cons_zero, List.set_cons_succ]
      refine wpAnyH_ready (rs := [1, 2]) (by kernel_rfl) (by simp) ?_
      refine AllReadyH.cons (o := _) rfl (fun K hK => ?_) (AllReadyH.cons (o := _) rfl (fun K hK => ?_) AllReadyH.nil)
      · go_simp
        refine hK.out _ _ trivial (fun _ => ?_)
        clear hK K
        try simp only [Act.put, List.getElem_toArray, List.getElem_cons_zero, List.getElem_cons_succ, List.setIfInBounds_toArray, List.set_cons_zero, List.set_cons_succ]
        refine wpAnyH_ready (rs := [2]) (by kernel_rfl) (by simp) ?_
        refine AllReadyH.cons (o := _) rfl (fun K hK => ?_) AllReadyH.nil
        go_simp
        refine hK.out _ _ trivial (fun _ => ?_)
        clear hK K
        try simp only [Act.put, List.getElem_toArray, List.getElem_cons_zero, List.getElem_cons_succ, List.setIfInBounds_toArray, List.set_cons_zero, List.set_cons_succ]
        refine wpAnyH_ready (rs := [3]) (by kernel_rfl) (by simp) ?_
        refine AllReadyH.cons (o := _) rfl (fun K hK => ?_) AllReadyH.nil
        refine step_of rfl (wp_buildSlice 28 33 1 #[(0, .tmp 13)] rfl #[.slice (some ⟨wr.heap.size, 0, none⟩) 64 64] iR (.slice none 0 0) Try.underlying28 HIR.out.1 HIR.out.2.1 (by rw [HIR.out.2.2]; decide) (by rw [HIR.out.2.2]; decide) (by rw [Array.toList_map, HIR.out.2.2]; exact HFL.out) ?_)
        refine hK.out _ _ trivial (fun _ => ?_)
        clear hK K
        try simp only [Act.put, List.getElem_toArray, List.getElem_cons_zero, List.getElem_cons_succ, List.setIfInBounds_toArray, List.set_cons_zero, List.set_cons_succ]
        refine wpAnyH_ready (rs := [4]) (by kernel_rfl) (by simp) ?_
        refine AllReadyH.cons (o := _) rfl (fun K hK => ?_) AllReadyH.nil
        refine step_of rfl (wp_append_eq (.tmp 12) (.tmp 14) 28 rfl (.slice s j c) (.slice (some ⟨(wr.alloc (.cells zRow.toArray 5)).heap.size, 0, none⟩) 1 1) (.slice (some ⟨g5, 0, none⟩) (j + 1) cap5) w5 (by rfl) (by first | rfl | (show Value.slice (some (⟨wr.heap.size + 1, 0, none⟩ : Addr)) 1 1 = _; simp)) HRN.out ?_)
        refine hK.out _ _ trivial (fun _ => ?_)
        clear hK K
        try simp only [Act.put, List.getElem_toArray, List.getElem_cons_zero, List.getElem_cons_succ, List.setIfInBounds_toArray, List.set_cons_zero, List.set_cons_succ]
        refine wpAnyH_take (i := 5) (oi := _) (v := ?vb5) rfl (by kernel_rfl) (by kernel_rfl) (by kernel_rfl) (fun _ _ _ h => h) (Or.inl ⟨by rfl, ?hyb5⟩) trivial ?restb5
        case hyb5 =>
          intro w hSw
          clear hSw
          go_simp
          try (with_reducible rfl)
        try simp only [Act.put, List.getElem_toArray, List.getElem_cons_zero, List.getElem_cons_succ, List.setIfInBounds_toArray, List.set_cons_zero, List.set_cons_succ]
        refine wpAnyH_ready (rs := [6]) (by kernel_rfl) (by simp) ?_
        refine AllReadyH.cons (o := _) rfl (fun K hK => ?_) AllReadyH.nil
        go_simp
        refine hK.out _ _ trivial (fun _ => ?_)
        clear hK K
        try simp only [Act.put, List.getElem_toArray, List.getElem_cons_zero, List.getElem_cons_succ, List.setIfInBounds_toArray, List.set_cons_zero, List.set_cons_succ]
        refine wpAnyH_done (by kernel_rfl) ?_ _
        go_wp2_with (fail)
        go_round
        case rel => exact ⟨j + 1, by go_num, by have := HJ.out; omega, _, _, _, Lib.hid HFIN.out⟩
        case measure => have := HJ.out; simp [intOf]; omega
      · go_simp
        refine hK.out _ _ trivial (fun _ => ?_)
        clear hK K
        try simp only [Act.put, List.getElem_toArray, List.getElem_cons_zero, List.getElem_cons_succ, List.setIfInBounds_toArray, List.set_cons_zero, List.set_cons_succ]
        refine wpAnyH_ready (rs := [1, 3]) (by kernel_rfl) (by simp) ?_
        refine AllReadyH.cons (o := _) rfl (fun K hK => ?_) (AllReadyH.cons (o := _) rfl (fun K hK => ?_) AllReadyH.nil)
        · go_simp
          refine hK.out _ _ trivial (fun _ => ?_)
          clear hK K
          try simp only [Act.put, List.getElem_toArray, List.getElem_cons_zero, List.getElem_cons_succ, List.setIfInBounds_toArray, List.set_cons_zero, List.set_cons_succ]
          refine wpAnyH_ready (rs := [3]) (by kernel_rfl) (by simp) ?_
          refine AllReadyH.cons (o := _) rfl (fun K hK => ?_) AllReadyH.nil
          refine step_of rfl (wp_buildSlice 28 33 1 #[(0, .tmp 13)] rfl #[.slice (some ⟨wr.heap.size, 0, none⟩) 64 64] iR (.slice none 0 0) Try.underlying28 HIR.out.1 HIR.out.2.1 (by rw [HIR.out.2.2]; decide) (by rw [HIR.out.2.2]; decide) (by rw [Array.toList_map, HIR.out.2.2]; exact HFL.out) ?_)
          refine hK.out _ _ trivial (fun _ => ?_)
          clear hK K
          try simp only [Act.put, List.getElem_toArray, List.getElem_cons_zero, List.getElem_cons_succ, List.setIfInBounds_toArray, List.set_cons_zero, List.set_cons_succ]
          refine wpAnyH_ready (rs := [4]) (by kernel_rfl) (by simp) ?_
          refine AllReadyH.cons (o := _) rfl (fun K hK => ?_) AllReadyH.nil
          refine step_of rfl (wp_append_eq (.tmp 12) (.tmp 14) 28 rfl (.slice s j c) (.slice (some ⟨(wr.alloc (.cells zRow.toArray 5)).heap.size, 0, none⟩) 1 1) (.slice (some ⟨g5, 0, none⟩) (j + 1) cap5) w5 (by rfl) (by first | rfl | (show Value.slice (some (⟨wr.heap.size + 1, 0, none⟩ : Addr)) 1 1 = _; simp)) HRN.out ?_)
          refine hK.out _ _ trivial (fun _ => ?_)
          clear hK K
          try simp only [Act.put, List.getElem_toArray, List.getElem_cons_zero, List.getElem_cons_succ, List.setIfInBounds_toArray, List.set_cons_zero, List.set_cons_succ]
          refine wpAnyH_take (i := 5) (oi := _) (v := ?vc5) rfl (by kernel_rfl) (by kernel_rfl) (by kernel_rfl) (fun _ _ _ h => h) (Or.inl ⟨by rfl, ?hyc5⟩) trivial ?restc5
          case hyc5 =>
            intro w hSw
            clear hSw
            go_simp
            try (with_reducible rfl)
          try simp only [Act.put, List.getElem_toArray, List.getElem_cons_zero, List.getElem_cons_succ, List.setIfInBounds_toArray, List.set_cons_zero, List.set_cons_succ]
          refine wpAnyH_ready (rs := [6]) (by kernel_rfl) (by simp) ?_
          refine AllReadyH.cons (o := _) rfl (fun K hK => ?_) AllReadyH.nil
          go_simp
          refine hK.out _ _ trivial (fun _ => ?_)
          clear hK K
          try simp only [Act.put, List.getElem_toArray, List.getElem_cons_zero, List.getElem_cons_succ, List.setIfInBounds_toArray, List.set_cons_zero, List.set_cons_succ]
          refine wpAnyH_done (by kernel_rfl) ?_ _
          go_wp2_with (fail)
          go_round
          case rel => exact ⟨j + 1, by go_num, by have := HJ.out; omega, _, _, _, Lib.hid HFIN.out⟩
          case measure => have := HJ.out; simp [intOf]; omega
        · refine step_of rfl (wp_buildSlice 28 33 1 #[(0, .tmp 13)] rfl #[.slice (some ⟨wr.heap.size, 0, none⟩) 64 64] iR (.slice none 0 0) Try.underlying28 HIR.out.1 HIR.out.2.1 (by rw [HIR.out.2.2]; decide) (by rw [HIR.out.2.2]; decide) (by rw [Array.toList_map, HIR.out.2.2]; exact HFL.out) ?_)
          refine hK.out _ _ trivial (fun _ => ?_)
          clear hK K
          try simp only [Act.put, List.getElem_toArray, List.getElem_cons_zero, List.getElem_cons_succ, List.setIfInBounds_toArray, List.set_cons_zero, List.set_cons_succ]
          refine wpAnyH_ready (rs := [1]) (by kernel_rfl) (by simp) ?_
          refine AllReadyH.cons (o := _) rfl (fun K hK => ?_) AllReadyH.nil
          go_simp
          refine hK.out _ _ trivial (fun _ => ?_)
          clear hK K
          try simp only [Act.put, List.getElem_toArray, List.getElem_cons_zero, List.getElem_cons_succ, List.setIfInBounds_toArray, List.set_cons_zero, List.set_cons_succ]
          refine wpAnyH_ready (rs := [4]) (by kernel_rfl) (by simp) ?_
          refine AllReadyH.cons (o := _) rfl (fun K hK => ?_) AllReadyH.nil
          refine step_of rfl (wp_append_eq (.tmp 12) (.tmp 14) 28 rfl (.slice s j c) (.slice (some ⟨(wr.alloc (.cells zRow.toArray 5)).heap.size, 0, none⟩) 1 1) (.slice (some ⟨g5, 0, none⟩) (j + 1) cap5) w5 (by rfl) (by first | rfl | (show Value.slice (some (⟨wr.heap.size + 1, 0, none⟩ : Addr)) 1 1 = _; simp)) HRN.out ?_)
          refine hK.out _ _ trivial (fun _ => ?_)
          clear hK K
          try simp only [Act.put, List.getElem_toArray, List.getElem_cons_zero, List.getElem_cons_succ, List.setIfInBounds_toArray, List.set_cons_zero, List.set_cons_succ]
          refine wpAnyH_take (i := 5) (oi := _) (v := ?vd5) rfl (by kernel_rfl) (by kernel_rfl) (by kernel_rfl) (fun _ _ _ h => h) (Or.inl ⟨by rfl, ?hyd5⟩) trivial ?restd5
          case hyd5 =>
            intro w hSw
            clear hSw
            go_simp
            try (with_reducible rfl)
          try simp only [Act.put, List.getElem_toArray, List.getElem_cons_zero, List.getElem_cons_succ, List.setIfInBounds_toArray, List.set_cons_zero, List.set_cons_succ]
          refine wpAnyH_ready (rs := [6]) (by kernel_rfl) (by simp) ?_
          refine AllReadyH.cons (o := _) rfl (fun K hK => ?_) AllReadyH.nil
          go_simp
          refine hK.out _ _ trivial (fun _ => ?_)
          clear hK K
          try simp only [Act.put, List.getElem_toArray, List.getElem_cons_zero, List.getElem_cons_succ, List.setIfInBounds_toArray, List.set_cons_zero, List.set_cons_succ]
          refine wpAnyH_done (by kernel_rfl) ?_ _
          go_wp2_with (fail)
          go_round
          case rel => exact ⟨j + 1, by go_num, by have := HJ.out; omega, _, _, _, Lib.hid HFIN.out⟩
          case measure => have := HJ.out; simp [intOf]; omega
    · obtain rfl : j = n := by omega
      have hb := HR.out.blk
      have fr := fun i => frozen_of_row _ (W.heap.size + 1) i _ _ hb
      have c0 : wr.cell? ⟨W.heap.size + 1, 0, none⟩ = some (.slice s j c) := by rw [cell_of_row _ _ _ _ _ _ hb]; rfl
      have c1 : wr.cell? ⟨W.heap.size + 1, 1, none⟩ = some (.slice none 0 0) := by rw [cell_of_row _ _ _ _ _ _ hb]; rfl
      have c2 : wr.cell? ⟨W.heap.size + 1, 2, none⟩ = some (.int .i64 0) := by rw [cell_of_row _ _ _ _ _ _ hb]; rfl
      have c3 : wr.cell? ⟨W.heap.size + 1, 3, none⟩ = some (.int .i64 (-1)) := by rw [cell_of_row _ _ _ _ _ _ hb]; rfl
      have c4 : wr.cell? ⟨W.heap.size + 1, 4, none⟩ = some (.bool false) := by rw [cell_of_row _ _ _ _ _ _ hb]; rfl
      have hres := HR.out.res
      have fw := fun i => frozen_of_row _ W.heap.size i _ _ hres
      have r0 : wr.cell? ⟨W.heap.size, 0, none⟩ = some (.slice none 0 0) := by rw [cell_of_row _ _ _ _ _ _ hres]; rfl
      have r1 : wr.cell? ⟨W.heap.size, 1, none⟩ = some (.slice none 0 0) := by rw [cell_of_row _ _ _ _ _ _ hres]; rfl
      have r2 : wr.cell? ⟨W.heap.size, 2, none⟩ = some (.int .i64 0) := by rw [cell_of_row _ _ _ _ _ _ hres]; rfl
      have r3 : wr.cell? ⟨W.heap.size, 3, none⟩ = some (.int .i64 0) := by rw [cell_of_row _ _ _ _ _ _ hres]; rfl
      have r4 : wr.cell? ⟨W.heap.size, 4, none⟩ = some (.bool false) := by rw [cell_of_row _ _ _ _ _ _ hres]; rfl
      have g0 := fw 0
      have g1 := fw 1
      have g2 := fw 2
      have g3 := fw 3
      have g4 := fw 4
      have hst : ∀ w' : World, True := fun _ => trivial
      clear hb fr hres fw hst
      go_wp2_with (fail)
      have h6 : ∀ k, k ≠ W.heap.size → ((((((wr.setCell ⟨W.heap.size, 0, none⟩ (.slice s j c)).setCell ⟨W.heap.size, 1, none⟩ (.slice none 0 0)).setCell ⟨W.heap.size, 2, none⟩ (.int .i64 0)).setCell ⟨W.heap.size, 3, none⟩ (.int .i64 (-1))).setCell ⟨W.heap.size, 4, none⟩ (.bool false))).heap[k]? = wr.heap[k]? := fun k hk => ((((set_other k hk).trans (set_other k hk)).trans (set_other k hk)).trans (set_other k hk)).trans (set_other k hk)
      have hg6 := u_row (k := 4) (.bool false) (u_row (k := 3) (.int .i64 (-1)) (u_row (k := 2) (.int .i64 0) (u_row (k := 1) (.slice none 0 0) (u_row (k := 0) (.slice s j c) HR.out.res))))
      refine bodyPost_ret (v := .agg #[.slice s j c, .slice none 0 0, .int .i64 0, .int .i64 (-1), .bool false]) (results_cell_row rfl _ _ W.heap.size 31 #[.slice s j c, .slice none 0 0, .int .i64 0, .int .i64 (-1), .bool false] (0, 0) _ rfl hg6 Try.underlying31 rfl (by kernel_rfl)) rfl ⟨s, c, Vs, rfl, owns_block HR.out.own (fun k hk => h6 k (fun e => ?_)), fun i hi => ?_, ?_⟩
      · obtain ⟨cur, hc⟩ := owns_type' HR.out.own hk
        rw [e] at hc
        exact absurd (obj_type' HR.out.res hc) (by decide)
      · obtain ⟨v, hv, hr⟩ := HR.out.rows i hi
        exact ⟨v, hv, hr.keep fun b cur hf hh => ⟨h6 b (fun e => by
          rw [e] at hh
          exact absurd (obj_type' HR.out.res hh) (by decide)), fun hx => hf (.inl hx)⟩⟩
      · exact ((((HR.out.below.setCell (p := ⟨W.heap.size, 0, none⟩) (Nat.le_refl _) _).setCell (p := ⟨W.heap.size, 1, none⟩) (Nat.le_refl _) _).setCell (p := ⟨W.heap.size, 2, none⟩) (Nat.le_refl _) _).setCell (p := ⟨W.heap.size, 3, none⟩) (Nat.le_refl _) _).setCell (p := ⟨W.heap.size, 4, none⟩) (Nat.le_refl _) _
end Go.Proofs.Ytlkffignbjpfcaa
