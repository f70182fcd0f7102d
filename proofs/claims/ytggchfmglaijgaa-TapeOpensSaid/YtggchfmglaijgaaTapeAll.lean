/- Proved here: the law's helper that reads all sectors of a drum whose power is on. -/
import Derived.Test.YtggchfmglaijgaaTapeHelp
namespace Go.Proofs.Ytggchfmglaijgaa
open Go.RowKit

structure AllSt (w W wr : World) (F : Nat → Prop) (G N : Nat) (M : DM) (q : Option Addr) (m k : Nat) : Prop where
  d : DW w wr F G N (M.bump m)
  t : Touch (Only G) W wr
  g : GroupsIn wr (Since W) (.slice q m k) (M.now.take m)
theorem GroupsIn.touch {W W' : World} {Y F : Nat → Prop} {gv : Value} {L : List ByteArray} (h : GroupsIn W Y gv L) (ht : Touch F W W') (hF : ∀ k, Y k → ¬ F k) : GroupsIn W' Y gv L := by
  obtain ⟨Vs, h1, h2, h3⟩ := h
  refine ⟨Vs, owns_block h1 (fun k hk => ht.block k (h1.lt k hk).2 (hF k (h2 k hk))), h2, fun i hi => ?_⟩
  obtain ⟨v, a1, a2, a3⟩ := h3 i hi
  exact ⟨v, a1, owns_block a2 (fun k hk => ht.block k (a2.lt k hk).2 (hF k (a3 k hk))), a3⟩
set_option maxRecDepth 100000 in
set_option maxHeartbeats 8000000 in
theorem all14_any {w W : World} {F : Nat → Prop} {G N : Nat} {M : DM} (d : DW w W F G N M) (hS : Still M) (hst : M.steps ≤ 1000000000) (hlo : M.loose.length ≤ 1000000) (hN : N ≤ 16384) :
    Calls Try.prog 29 #[.pointer (some ⟨G, 0, none⟩)] W fun e W' => ∃ q k, e = .returned (.slice q N k) ∧ DW w W' F G N (M.bump N) ∧ Touch (Only G) W W' ∧ GroupsIn W' (Since W) (.slice q N k) M.now := by
  have SC := Lib.hid (sectors_any W F G N M d.drum)
  have HH := Lib.hid (And.intro d (And.intro hS (And.intro hst (And.intro hlo hN))))
  have hNI : (N : Int) ≤ 16384 := by omega
  clear d hS hst hlo hN
  go_enter Try.func29, Try.ntmps29
  go_wp2_with (fail)
  with_reducible (refine SC.out.mono ?_)
  rintro e W' ⟨rfl, rfl⟩
  have S0 := Lib.hid (show AllSt w W W F G N M none 0 0 from ⟨HH.out.1, Touch.refl _ _, groups_nil' _ _⟩)
  go_wp2_with (fail)
  go_loopw [3, 9] (fun v x wr => ∃ (q : Option Addr) (m k : Nat), x = .int .i64 (m : Int) ∧ v = .slice q m k ∧ m ≤ N ∧ Hid (AllSt w W wr F G N M q m k)) (fun _ x _ => N - (intOf x).toNat)
  case atStart => exact ⟨none, 0, 0, rfl, rfl, Nat.zero_le _, S0⟩
  case round =>
    obtain ⟨q, m, k, rfl, rfl, hm, HR⟩ := hrel
    have hm0 : (0 : Int) ≤ (m : Int) := by omega
    by_cases hlt : m < N
    · have hltI : (m : Int) < (N : Int) := by omega
      have RD := dread_ok HR.out.d ⟨by show M.steps + m ≤ _; have := HH.out.2.2.1; have := HH.out.2.2.2.2; omega, by rw [(HH.out.2.1.bump m).fuse]; exact Nat.zero_le _, by show M.loose.length ≤ _; have := HH.out.2.2.2.1; omega⟩ (HH.out.2.1.bump m).off m hlt
      rw [DM.bump_step HH.out.2.1] at RD
      have HRD := Lib.hid RD
      have HL := Lib.hid hlt
      clear RD hlt hm S0
      go_wp2_with (fail)
      with_reducible (refine HRD.out.mono ?_)
      rintro e W4 ⟨g4, rfl, d4, o4, z4, nf4, t4⟩
      have hnl : M.now.length = N := HH.out.1.drum.ok.nowLen
      have hrow : (M.bump m).now.getD m ⟨#[]⟩ = M.now[m]'(by rw [hnl]; exact HL.out) := by
        show M.now.getD m ⟨#[]⟩ = _
        rw [List.getD_eq_getElem?_getD, List.getElem?_eq_getElem (by rw [hnl]; exact HL.out), Option.getD_some]
      rw [hrow] at o4 z4
      have htk : M.now.take (m + 1) = M.now.take m ++ [M.now[m]'(by rw [hnl]; exact HL.out)] := List.take_succ_eq_append_getElem (by rw [hnl]; exact HL.out)
      generalize M.now[m]'(by rw [hnl]; exact HL.out) = s at *
      have hW4 : W.heap.size ≤ wr.heap.size := HR.out.t.size
      have g4' := HR.out.g.touch t4 (fun k hk f => by
        have e : k = G := f
        have h1 : W.heap.size ≤ k := hk
        have h2 := HH.out.1.drum.lt G HH.out.1.drum.fG
        omega)
      obtain ⟨U, hU⟩ : ∃ U, W4.alloc (.cells #[.slice (some ⟨g4, 0, none⟩) 64 64] 33) = U := ⟨_, rfl⟩
      have bU : Below W4.heap.size W4 U := by rw [← hU]; exact (Below.refl _ _).alloc (Nat.le_refl _) _
      have nU : U.heap[W4.heap.size]? = some (.cells #[.slice (some ⟨g4, 0, none⟩) 64 64] 33 (0, 0)) := by rw [← hU]; exact heap_alloc_new _ _
      have oU : U.ownsRow 0 5 1 (.slice (some ⟨g4, 0, none⟩) 64 64) s.size (bytesV s) := by
        have h0 := (o4.far bU).1
        rw [z4] at h0 ⊢
        rcases h0.2 with ⟨e, _⟩ | ⟨g', cap', cur', e, _, h1, h2⟩
        · cases e
        · exact ⟨h0.1, .inr ⟨g', cap', cur', e, Nat.zero_le _, h1, h2⟩⟩
      have hl3 : (M.now.take m).length = m := by rw [List.length_take, hnl]; have := HL.out; omega
      obtain ⟨q', c', W5, hrun, gin, hgrow, hgY⟩ := (g4'.far bU).push oU (by rw [cell_of_row _ _ _ _ _ _ nU]; rfl) (by rw [hl3]; have := HL.out; have := HH.out.2.2.2.2; omega)
      rw [hl3] at hrun gin
      rw [← htk] at gin
      have gin2 := gin.mono (Y' := Since W) (fun k hk => by
        rcases hk with h | h | h
        · exact h
        · have e : g4 = k := by injection h
          have := o4.2.1
          show W.heap.size ≤ k
          omega
        · have := bU.size; have := t4.size
          show W.heap.size ≤ k
          omega)
      have tb : Touch (Since W) W4 W5 := (Touch.of_below (F := Since W) bU).grown hgrow (fun k e => .inl (hgY k e))
      have d5 : DW w W5 F G N (M.bump (m + 1)) := ⟨d4.drum.kept (fun j hj => tb.block j (d4.drum.lt j hj) (fun hs => by
        have h1 : W.heap.size ≤ j := hs
        have := HH.out.1.drum.lt j hj
        omega)) tb.size, d4.below.trans (tb.below (fun j hj => by have h1 : W.heap.size ≤ j := hj; have := HH.out.1.below.size; omega) d4.below.size), d4.since⟩
      have t5 : Touch (Only G) W W5 := (HR.out.t.trans t4 (fun j hj => .inl hj)).trans (F' := fun k => W.heap.size ≤ k ∧ k < W4.heap.size) ⟨tb.os, tb.tape, tb.output, tb.size, fun k hk hn => tb.block k hk (fun hs => hn ⟨hs, hk⟩)⟩ (fun j hj => .inr hj)
      have HNX := Lib.hid (show AllSt w W W5 F G N M q' (m + 1) c' from ⟨d5, t5, gin2⟩)
      have HRUN := Lib.hid hrun
      have HU := Lib.hid hU
      clear hnl hrow o4 z4 htk hW4 g4' hU bU nU oU hl3 hrun gin hgrow hgY gin2 tb d5 t5 d4 nf4 t4 HRD
      go_wp2_with (at_builtin; refine wpList_append_eq rfl (.tmp 20) (.tmp 22) 28 rfl _ _ _ _ rfl rfl (by rw [HU.out]; exact HRUN.out) ?_)
      all_goals try (exfalso; omega; done)
      go_roundw
      case rel => exact ⟨q', m + 1, c', by go_num, rfl, by have := HL.out; omega, HNX⟩
      case measure => simp [intOf]; have := HL.out; omega
    · obtain rfl : m = N := by omega
      have hnl : M.now.length = m := HH.out.1.drum.ok.nowLen
      have hg := HR.out.g
      rw [List.take_of_length_le (by rw [hnl]; exact Nat.le_refl _)] at hg
      have HG := Lib.hid hg
      clear hg hnl hlt hm
      go_wp2_with (fail)
      all_goals try (exfalso; omega; done)
      go_ret
      exact ⟨q, k, rfl, HR.out.d, HR.out.t, HG.out⟩
end Go.Proofs.Ytggchfmglaijgaa
