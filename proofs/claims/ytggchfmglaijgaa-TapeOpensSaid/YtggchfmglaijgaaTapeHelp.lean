/- Proved here: the law's helpers that make sectors of bytes, and a drum of sectors. -/
import Derived.Test.YtggchfmglaijgaaTapeSame
import Derived.Test.YtggchfmglaijgaaTapeTurnP
import Derived.Test.YtggchfmglaijgaaRefOct
namespace Go.Proofs.Ytggchfmglaijgaa
open Go.RowKit

def partS (b : List UInt8) (i : Nat) : List UInt8 := fillL ((b.drop (64 * i)).take 64) 64
def sectorsP (b : List UInt8) (most : Nat) : List (List UInt8) := (List.range (min most ((b.length + 63) / 64))).map (partS b)
theorem partS_length (b : List UInt8) (i : Nat) : (partS b i).length = 64 := fillL_length (by rw [List.length_take]; omega)
theorem rows_apart {W : World} {v r : Value} {n m : Nat} {xs ys : List Value} (h : W.ownsRow 0 33 1 v n xs) (h2 : W.ownsRow 0 5 1 r m ys) {k : Nat} (hk : r.ownBlock = some k) : v.ownBlock ≠ some k := fun e => by
  rcases h.2 with ⟨rfl, _⟩ | ⟨g, cap, cur, rfl, _, hh, _⟩
  · cases e
  · rcases h2.2 with ⟨rfl, _⟩ | ⟨g2, cap2, cur2, rfl, _, hh2, _⟩
    · cases hk
    · injection e with e
      injection hk with hk
      have e2 : g = g2 := e.trans hk.symm
      rw [e2, hh2] at hh
      injection hh with hh
      injection hh with _ h3 _
      exact absurd h3 (by decide)
/-- A row more. -/
theorem GroupsIn.push {U : World} {Y : Nat → Prop} {gv rv : Value} {L : List ByteArray} {s : ByteArray} {b : Nat} (h : GroupsIn U Y gv L) (hr : U.ownsRow 0 5 1 rv s.size (bytesV s)) (hx : U.cell? ⟨b, 0, none⟩ = some rv) (hn : L.length ≤ 1000000) :
    ∃ q c w', (∀ ty, (Builtin.append_ #[28, 28] ty #[gv, .slice (some ⟨b, 0, none⟩) 1 1]).run Try.prog U = .ok (.slice q (L.length + 1) c) w') ∧ GroupsIn w' (fun k => Y k ∨ rv.ownBlock = some k ∨ (U.heap.size ≤ k ∧ k < w'.heap.size)) (.slice q (L.length + 1) c) (L ++ [s]) ∧ U.grownBy w' gv.ownBlock ∧ (∀ k, gv.ownBlock = some k → Y k) := by
  obtain ⟨Vs, h1, h2, h3⟩ := h
  obtain ⟨gv', w', hrun, hown, hgrow, hat⟩ := appR_one h1 hx (owns_oneCell hr) hn
  obtain ⟨q, c, rfl, _⟩ := owns_form hown
  refine ⟨q, c, w', hrun, ⟨Vs ++ [rv], by rw [List.length_append]; exact hown, fun k hk => ?_, fun i hi => ?_⟩, hgrow, h2⟩
  · rcases hat with e | e
    · exact .inl (h2 k (e ▸ hk))
    · rw [e] at hk
      injection hk with hk
      exact .inr (.inr ⟨by omega, (hown.lt k (by rw [e, hk])).2⟩)
  · have hVl : Vs.length = L.length := by have := h1.1; omega
    rw [List.length_append, List.length_singleton] at hi
    by_cases hil : i < L.length
    · obtain ⟨v, a1, a2, a3⟩ := h3 i hil
      refine ⟨v, by rw [List.getElem?_append_left (by omega)]; exact a1, ?_, fun k hk => .inl (a3 k hk)⟩
      rw [List.getElem_append_left hil]
      exact owns_block a2 (fun k hk => hgrow.block k (a2.lt k hk).2 (fun e => rows_apart h1 a2 hk e.symm))
    · obtain rfl : i = L.length := by omega
      refine ⟨rv, by rw [← hVl]; simp, ?_, fun k hk => .inr (.inl hk)⟩
      rw [List.getElem_append_right (Nat.le_refl _)]
      simp only [Nat.sub_self, List.getElem_singleton]
      exact owns_block hr (fun k hk => hgrow.block k (hr.lt k hk).2 (fun e => rows_apart h1 hr hk e.symm))
theorem GroupsIn.mono {W : World} {Y Y' : Nat → Prop} {gv : Value} {L : List ByteArray} (h : GroupsIn W Y gv L) (hY : ∀ k, Y k → Y' k) : GroupsIn W Y' gv L := by
  obtain ⟨Vs, h1, h2, h3⟩ := h
  refine ⟨Vs, h1, fun k hk => hY k (h2 k hk), fun i hi => ?_⟩
  obtain ⟨v, a1, a2, a3⟩ := h3 i hi
  exact ⟨v, a1, a2, fun k hk => hY k (a3 k hk)⟩
theorem GroupsIn.far {W W' : World} {Y : Nat → Prop} {gv : Value} {L : List ByteArray} (h : GroupsIn W Y gv L) (hb : Below W.heap.size W W') : GroupsIn W' Y gv L := by
  obtain ⟨Vs, h1, h2, h3⟩ := h
  refine ⟨Vs, owns_block h1 (fun k hk => hb.block k (h1.lt k hk).2), h2, fun i hi => ?_⟩
  obtain ⟨v, a1, a2, a3⟩ := h3 i hi
  exact ⟨v, a1, owns_block a2 (fun k hk => hb.block k (a2.lt k hk).2), a3⟩
theorem groups_nil' (W : World) (Y : Nat → Prop) : GroupsIn W Y (.slice none 0 0) [] := ⟨[], World.ownsRow_nil _ _ _ _, fun k hk => (by cases hk), fun i hi => absurd hi (Nat.not_lt_zero i)⟩
theorem fill64 (p : Option Addr) (s : ByteArray) (m c : Nat) (w : World) (hm : s.size = m) (hmn : m ≤ 64) (hp : HoldsB w p s) :
    Calls Try.prog 62 #[.slice p m c, .int .i64 64] w fun e w' => ∃ r, e = .returned r ∧ NewB (fillL (bl s) 64) w r w' := fill_any p s m c 64 w hm hmn (by decide) hp
def Since (w : World) (k : Nat) : Prop := w.heap.size ≤ k
set_option maxRecDepth 100000 in
set_option maxHeartbeats 8000000 in
theorem sectors14_any (p : Option Addr) (s : ByteArray) (n c most : Nat) (w : World) (hn : s.size = n) (hn9 : n ≤ 140737488351232) (hnc : n ≤ c) (hp : HoldsB w p s) (hm : most ≤ 1000) :
    Calls Try.prog 20 #[.slice p n c, .int .i64 (most : Int)] w fun e w' => ∃ q k, e = .returned (.slice q (sectorsP (bl s) most).length k) ∧ GroupsIn w' (Since w) (.slice q (sectorsP (bl s) most).length k) ((sectorsP (bl s) most).map ofL) ∧ Below w.heap.size w w' := by
  have HH := Lib.hid (And.intro hn (And.intro hn9 (And.intro hnc (And.intro hp hm))))
  have hnI : (n : Int) ≤ 140737488351232 := by omega
  have hmI : (most : Int) ≤ 1000 := by omega
  obtain ⟨T, hT⟩ : ∃ T, min most ((n + 63) / 64) = T := ⟨_, rfl⟩
  have hlen : (sectorsP (bl s) most).length = T := by unfold sectorsP; rw [List.length_map, List.length_range, bl_length, hn, hT]
  have HT := Lib.hid (And.intro hT hlen)
  rw [hlen]
  clear hn hp hn9 hnc hm hT hlen
  go_enter Try.func20, Try.ntmps20
  go_wp2_with (fail)
  go_loopw [5, 6] (fun v x wr => ∃ (i : Nat) (q : Option Addr) (m k : Nat), x = .int .i64 ((64 * i : Nat) : Int) ∧ v = .slice q m k ∧ m = i ∧ i ≤ T ∧ Hid (GroupsIn wr (Since w) (.slice q m k) (((List.range i).map (partS (bl s))).map ofL) ∧ Below w.heap.size w wr)) (fun _ x _ => n + 64 - (intOf x).toNat)
  case atStart => exact ⟨0, none, 0, 0, rfl, rfl, rfl, Nat.zero_le _, Lib.hid ⟨groups_nil' _ _, Below.refl _ _⟩⟩
  case round =>
    obtain ⟨i, q, m, k, rfl, rfl, rfl, hi, HR⟩ := hrel
    have hTn : T ≤ 1000 := by have := HT.out.1; have := HH.out.2.2.2.2; omega
    have HTM := Lib.hid (show m ≤ T ∧ T ≤ 1000 from ⟨hi, hTn⟩)
    obtain ⟨z, hz⟩ : ∃ z, 64 * m = z := ⟨_, rfl⟩
    have HZ := Lib.hid hz
    rw [hz]
    have hz9 : (z : Int) ≤ 64000 := by omega
    have hm9 : (m : Int) ≤ 1000 := by omega
    by_cases hzn : z < n
    · by_cases hmm : m < most
      · obtain ⟨b, off, rfl, hcells⟩ := HH.out.2.2.2.1.below HR.out.2 (by rw [HH.out.1]; omega)
        have HPW := Lib.hid (HH.out.2.2.2.1.below HR.out.2)
        have hznI : (z : Int) < (n : Int) := by omega
        have hmI2 : (m : Int) < (most : Int) := by omega
        have hcz : ¬ c = z := by have := HH.out.2.2.1; omega
        have hncI : (n : Int) ≤ (c : Int) := by have := HH.out.2.2.1; omega
        have HLT := Lib.hid (show m < T ∧ z < n from ⟨by have := HT.out.1; omega, hzn⟩)
        obtain ⟨L, hL⟩ : ∃ L, min 64 (n - z) = L := ⟨_, rfl⟩
        obtain ⟨PT, hPT⟩ : ∃ PT, s.extract z (z + L) = PT := ⟨_, rfl⟩
        have hzl : z + L ≤ s.size := by rw [HH.out.1]; omega
        have hfp : fillL (bl PT) 64 = partS (bl s) m := by
          unfold partS
          rw [← hPT, bl_extract, Nat.add_sub_cancel_left, hz]
          congr 1
          by_cases h64 : n - z ≤ 64
          · have hle : ((bl s).drop z).length = n - z := by rw [List.length_drop, bl_length, HH.out.1]
            rw [List.take_of_length_le (by omega), List.take_of_length_le (by omega)]
          · rw [show L = 64 by omega]
        have HPT := Lib.hid (show PT.size = L ∧ L ≤ 64 ∧ fillL (bl PT) 64 = partS (bl s) m ∧ HoldsB wr (some ⟨b, off + z, none⟩) PT from ⟨by rw [← hPT]; exact ext_size' _ _ _ hzl, by omega, hfp, by rw [← hPT]; exact HPW.out.part z (z + L) hzl⟩)
        by_cases hfull : z + 64 < n
        · have hL8 : L = 64 := by omega
          have f1 : (z : Int) + 64 < (n : Int) := by omega
          have f2 : ¬ (n : Int) ≤ (z : Int) + 64 := by omega
          have f3 : ((z : Int) + 64).toNat - z = 64 := by omega
          subst hL8
          clear hL hPT hzl hfp hcells hzn hmm hfull hz hi hTn
          have FL := fill64 (some ⟨b, off + z, none⟩) PT 64 (c - z) wr HPT.out.1 HPT.out.2.1 HPT.out.2.2.2
          have HFL := Lib.hid FL
          clear FL
          go_wp2_with (fail)
          all_goals try (exfalso; omega; done)
          with_reducible (refine HFL.out.mono ?_)
          rintro e W3 ⟨r3, rfl, g3, c3, rfl, o3, b3⟩
          rw [HPT.out.2.2.1] at o3
          rw [show (fillL (bl PT) 64).length = 64 from fillL_length (by rw [bl_length, HPT.out.1]; exact HPT.out.2.1)]
          obtain ⟨U, hU⟩ : ∃ U, W3.alloc (.cells #[.slice (some ⟨g3, 0, none⟩) 64 c3] 33) = U := ⟨_, rfl⟩
          have bU : Below W3.heap.size W3 U := by rw [← hU]; exact (Below.refl _ _).alloc (Nat.le_refl _) _
          have nU : U.heap[W3.heap.size]? = some (.cells #[.slice (some ⟨g3, 0, none⟩) 64 c3] 33 (0, 0)) := by rw [← hU]; exact heap_alloc_new _ _
          have oU : U.ownsRow 0 5 1 (.slice (some ⟨g3, 0, none⟩) 64 c3) (ofL (partS (bl s) m)).size (bytesV (ofL (partS (bl s) m))) := by
            have h0 := (o3.far bU).1
            rw [ofL_size, partS_length] at h0 ⊢
            rcases h0.2 with ⟨e, _⟩ | ⟨g', cap', cur', e, _, h1, h2⟩
            · cases e
            · exact ⟨h0.1, .inr ⟨g', cap', cur', e, Nat.zero_le _, h1, h2⟩⟩
          have hl3 : (((List.range m).map (partS (bl s))).map ofL).length = m := by simp
          obtain ⟨q', c', W5, hrun, gin, hgrow, hgY⟩ := ((HR.out.1.far b3).far bU).push oU (by rw [cell_of_row _ _ _ _ _ _ nU]; rfl) (by rw [hl3]; have := HTM.out; omega)
          rw [hl3] at hrun gin
          have hb5 : Below w.heap.size w W5 := ((HR.out.2.trans (b3.mono HR.out.2.size)).trans (bU.mono (HR.out.2.trans (b3.mono HR.out.2.size)).size)).grown hgrow ((HR.out.2.trans (b3.mono HR.out.2.size)).trans (bU.mono (HR.out.2.trans (b3.mono HR.out.2.size)).size)).size (fun k hk => hgY k hk)
          have hsn : ((List.range m).map (partS (bl s))).map ofL ++ [ofL (partS (bl s) m)] = ((List.range (m + 1)).map (partS (bl s))).map ofL := by rw [List.range_succ, List.map_append, List.map_append]; rfl
          rw [hsn] at gin
          have gin2 := gin.mono (Y' := Since w) (fun k hk => by
            rcases hk with h | h | h
            · exact h
            · have e : g3 = k := by injection h
              have := o3.2.1
              have := HR.out.2.size
              show w.heap.size ≤ k
              omega
            · have := HR.out.2.size; have := b3.size; have := bU.size
              show w.heap.size ≤ k
              omega)
          have HN := Lib.hid (And.intro gin2 hb5)
          have HRUN := Lib.hid hrun
          have HU := Lib.hid hU
          clear hU bU nU oU hl3 hrun gin hgrow hgY hb5 hsn gin2 o3 b3 HFL
          go_wp2_with (at_builtin; refine wpList_append_eq rfl (.tmp 19) (.tmp 29) 28 rfl _ _ _ _ rfl rfl (by rw [HU.out]; exact HRUN.out) ?_)
          all_goals try (exfalso; omega; done)
          go_roundw
          case rel => exact ⟨m + 1, q', m + 1, c', by rw [← HZ.out]; go_num, rfl, rfl, by have := HLT.out; omega, HN⟩
          case measure => simp [intOf]; have := HLT.out; have := HZ.out; have := HTM.out; omega
        · have hL8 : L = n - z := by omega
          have f1 : ¬ (z : Int) + 64 < (n : Int) := by omega
          have f2 : (n : Int) ≤ (z : Int) + 64 := by omega
          subst hL8
          clear hL hPT hzl hfp hcells hzn hmm hfull hz hi hTn
          have FL := fill64 (some ⟨b, off + z, none⟩) PT (n - z) (c - z) wr HPT.out.1 HPT.out.2.1 HPT.out.2.2.2
          have HFL := Lib.hid FL
          clear FL
          go_wp2_with (fail)
          all_goals try (exfalso; omega; done)
          with_reducible (refine HFL.out.mono ?_)
          rintro e W3 ⟨r3, rfl, g3, c3, rfl, o3, b3⟩
          rw [HPT.out.2.2.1] at o3
          rw [show (fillL (bl PT) 64).length = 64 from fillL_length (by rw [bl_length, HPT.out.1]; exact HPT.out.2.1)]
          obtain ⟨U, hU⟩ : ∃ U, W3.alloc (.cells #[.slice (some ⟨g3, 0, none⟩) 64 c3] 33) = U := ⟨_, rfl⟩
          have bU : Below W3.heap.size W3 U := by rw [← hU]; exact (Below.refl _ _).alloc (Nat.le_refl _) _
          have nU : U.heap[W3.heap.size]? = some (.cells #[.slice (some ⟨g3, 0, none⟩) 64 c3] 33 (0, 0)) := by rw [← hU]; exact heap_alloc_new _ _
          have oU : U.ownsRow 0 5 1 (.slice (some ⟨g3, 0, none⟩) 64 c3) (ofL (partS (bl s) m)).size (bytesV (ofL (partS (bl s) m))) := by
            have h0 := (o3.far bU).1
            rw [ofL_size, partS_length] at h0 ⊢
            rcases h0.2 with ⟨e, _⟩ | ⟨g', cap', cur', e, _, h1, h2⟩
            · cases e
            · exact ⟨h0.1, .inr ⟨g', cap', cur', e, Nat.zero_le _, h1, h2⟩⟩
          have hl3 : (((List.range m).map (partS (bl s))).map ofL).length = m := by simp
          obtain ⟨q', c', W5, hrun, gin, hgrow, hgY⟩ := ((HR.out.1.far b3).far bU).push oU (by rw [cell_of_row _ _ _ _ _ _ nU]; rfl) (by rw [hl3]; have := HTM.out; omega)
          rw [hl3] at hrun gin
          have hb5 : Below w.heap.size w W5 := ((HR.out.2.trans (b3.mono HR.out.2.size)).trans (bU.mono (HR.out.2.trans (b3.mono HR.out.2.size)).size)).grown hgrow ((HR.out.2.trans (b3.mono HR.out.2.size)).trans (bU.mono (HR.out.2.trans (b3.mono HR.out.2.size)).size)).size (fun k hk => hgY k hk)
          have hsn : ((List.range m).map (partS (bl s))).map ofL ++ [ofL (partS (bl s) m)] = ((List.range (m + 1)).map (partS (bl s))).map ofL := by rw [List.range_succ, List.map_append, List.map_append]; rfl
          rw [hsn] at gin
          have gin2 := gin.mono (Y' := Since w) (fun k hk => by
            rcases hk with h | h | h
            · exact h
            · have e : g3 = k := by injection h
              have := o3.2.1
              have := HR.out.2.size
              show w.heap.size ≤ k
              omega
            · have := HR.out.2.size; have := b3.size; have := bU.size
              show w.heap.size ≤ k
              omega)
          have HN := Lib.hid (And.intro gin2 hb5)
          have HRUN := Lib.hid hrun
          have HU := Lib.hid hU
          clear hU bU nU oU hl3 hrun gin hgrow hgY hb5 hsn gin2 o3 b3 HFL
          go_wp2_with (at_builtin; refine wpList_append_eq rfl (.tmp 19) (.tmp 29) 28 rfl _ _ _ _ rfl rfl (by rw [HU.out]; exact HRUN.out) ?_)
          all_goals try (exfalso; omega; done)
          go_roundw
          case rel => exact ⟨m + 1, q', m + 1, c', by rw [← HZ.out]; go_num, rfl, rfl, by have := HLT.out; omega, HN⟩
          case measure => simp [intOf]; have := HLT.out; have := HZ.out; have := HTM.out; omega
      · have hmI2 : ¬ (m : Int) < (most : Int) := by omega
        have hznI : (z : Int) < (n : Int) := by omega
        have hmT2 : m = T := by have := HT.out.1; omega
        subst hmT2
        have HG := Lib.hid HR.out
        go_wp2_with (fail)
        all_goals try (exfalso; omega; done)
        go_ret
        refine ⟨q, k, rfl, ?_, HG.out.2⟩
        have hs : sectorsP (bl s) most = (List.range m).map (partS (bl s)) := by unfold sectorsP; rw [bl_length, HH.out.1, HT.out.1]
        rw [hs]
        exact HG.out.1
    · have hznI : ¬ (z : Int) < (n : Int) := by omega
      have hmT2 : m = T := by have := HT.out.1; omega
      subst hmT2
      have HG := Lib.hid HR.out
      go_wp2_with (fail)
      all_goals try (exfalso; omega; done)
      go_ret
      refine ⟨q, k, rfl, ?_, HG.out.2⟩
      have hs : sectorsP (bl s) most = (List.range m).map (partS (bl s)) := by unfold sectorsP; rw [bl_length, HH.out.1, HT.out.1]
      rw [hs]
      exact HG.out.1
end Go.Proofs.Ytggchfmglaijgaa
