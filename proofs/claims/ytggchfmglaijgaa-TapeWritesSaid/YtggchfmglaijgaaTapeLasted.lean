/- Proved here: the law's helper that looks at a tape behind a crash. -/
import Derived.Test.YtggchfmglaijgaaTapeFilled
import Derived.Test.YtggchfmglaijgaaTapeOpenG
import Derived.Test.YtggchfmglaijgaaBoolKit
namespace Go.Proofs.Ytggchfmglaijgaa
open Go.RowKit

/-- What was put: rows of the law's own list, whose bytes lie where they came in. -/
def PutAt (w W : World) (F : Nat → Prop) (v : Value) (L : List ByteArray) : Prop :=
  ∃ Vs, W.ownsRow 0 33 1 v L.length Vs ∧ (∀ k, v.ownBlock = some k → ¬ F k ∧ w.heap.size ≤ k) ∧ ∀ i (h : i < L.length), ∃ pa pc, Vs[i]? = some (.slice pa L[i].size pc) ∧ HoldsB w pa L[i]
theorem PutAt.touch {w W W' : World} {F F' : Nat → Prop} {v : Value} {L : List ByteArray} (h : PutAt w W F v L) (ht : Touch F W W') (hg : ∀ k, F' k → Grow F W W' k) : PutAt w W' F' v L := by
  obtain ⟨Vs, h1, h2, h3⟩ := h
  refine ⟨Vs, owns_block h1 (fun k hk => ht.block k (h1.lt k hk).2 (h2 k hk).1), fun k hk => ⟨fun f => ?_, (h2 k hk).2⟩, h3⟩
  rcases hg k f with q | q
  · exact (h2 k hk).1 q
  · have := (h1.lt k hk).2; omega
theorem PutAt.far {w W W' : World} {F : Nat → Prop} {v : Value} {L : List ByteArray} (h : PutAt w W F v L) (hb : Below W.heap.size W W') : PutAt w W' F v L := h.touch (Touch.of_below hb) (fun _ hk => .inl hk)
theorem PutAt.holds {w W : World} {F : Nat → Prop} {p : Option Addr} {c : Nat} {L : List ByteArray} (h : PutAt w W F (.slice p L.length c) L) (hb : Below w.heap.size w W) (n : Nat) (hn : n ≤ L.length) : HoldsH W p (L.take n) := fun h0 => by
  obtain ⟨Vs, h1, h2, h3⟩ := h
  rw [List.length_take] at h0
  obtain ⟨g, cap, e, _⟩ := h1.form (by omega)
  injection e with e1 e2 e3
  subst e1
  refine ⟨g, 0, rfl, fun j hj => ?_⟩
  rw [List.length_take] at hj
  obtain ⟨pa, pc, a1, a2⟩ := h3 j (by omega)
  have e4 : (L.take n)[j]'(by rw [List.length_take]; exact hj) = L[j]'(by omega) := List.getElem_take
  refine ⟨pa, pc, ?_, ?_⟩
  · rw [Nat.zero_add, h1.cellAt j (by omega), a1, e4]
  · rw [e4]; exact a2.below hb
structure LastSt (w W wr : World) (F : Nat → Prop) (G : Nat) (M1 M : DM) (q : Option Addr) (n c : Nat) (L : List ByteArray) (i : Nat) : Prop where
  d : DW w wr F G 40 M
  still : Still M
  now : M.now = M1.now
  loose : M.loose = []
  st : M.steps ≤ M1.steps + 40 * i
  put : PutAt w wr F (.slice q n c) L
  b : Below w.heap.size w wr
set_option maxRecDepth 100000 in
set_option maxHeartbeats 8000000 in
theorem lasted_any {w W : World} {F : Nat → Prop} {G : Nat} {M : DM} (d : DW w W F G 40 M) (hm1 : M.steps ≤ 100000000) (hm2 : M.loose.length ≤ 1000000) (hm3 : M.fuse.getD 0 ≤ 9223372036854775807) (q : Option Addr) (n c : Nat) (L : List ByteArray) (hn : L.length = n) (hn9 : n ≤ 1000000) (hnc : n ≤ c) (hput : PutAt w W F (.slice q n c) L)
    (safe : Nat) (kp : Option Addr) (keep : List Bool) (kc : Nat) (hk : HoldsT w kp keep) (hk9 : keep.length ≤ 140737488351232) (hkn : kp = none → kc = 0) (wn : Nat) (hw : wn ≤ n) (hsw : safe ≤ wn) (hmain : (readsM 7 newR (logOf (M.crash keep) 2 38)).groups = L.take wn) :
    Calls Try.prog 40 #[.pointer (some ⟨G, 0, none⟩), .slice q n c, .int .i64 (safe : Int), .slice kp keep.length kc] W fun e W' => e = .returned (.bool true) ∧ Below w.heap.size w W' := by
  obtain ⟨g5, cap5, w5, hr5, hT5, hg5, hb5⟩ := appendT_first (w := W) (c := kc) (hk.below d.below) hkn (by omega)
  have d5 := d.on hb5
  have hnf : ¬ F g5 := fun f => by have := d.drum.lt _ f; omega
  have CR := dcrash d5 ⟨by omega, hm3, by omega⟩ (some ⟨g5, 0, none⟩) keep cap5 hT5 (by omega) (fun a e => by cases e; exact hnf)
  have HR5 := Lib.hid hr5
  have HCR := Lib.hid CR
  have H5 := Lib.hid (And.intro d5 (hput.far hb5))
  have HH := Lib.hid (And.intro hn (And.intro hn9 (And.intro hnc (And.intro hm1 (And.intro hw (And.intro hsw hmain))))))
  have hwI : (wn : Int) ≤ (n : Int) := by omega
  have hsI : (safe : Int) ≤ (wn : Int) := by omega
  have hcI : (wn : Int) ≤ (c : Int) := by omega
  have hnI : (n : Int) ≤ 1000000 := by omega
  clear d5 hnf CR hr5 hT5 hg5 hb5 d hm1 hm2 hm3 hn hn9 hnc hput hk hk9 hkn hw hsw hmain
  go_enter Try.func40, Try.ntmps40
  go_wp2_with (at_builtin; refine wpList_append_eq rfl (.tmp 13) (.tmp 14) 34 rfl _ _ _ _ rfl rfl HR5.out ?_)
  with_reducible (refine HCR.out.mono ?_)
  rintro e W6 ⟨rfl, d6, t6⟩
  have s6 : LastSt w W W6 F G (M.crash keep) (M.crash keep) q n c L 0 := ⟨d6, ⟨rfl, rfl⟩, rfl, rfl, Nat.le_refl _, H5.out.2.touch t6 (fun k hk => .inl hk), d6.below⟩
  have S6 := Lib.hid s6
  clear d6 t6 s6 HCR
  go_wp2_with (fail)
  go_loopw [18] (fun x wr => ∃ (i : Nat) (M' : DM), x = .int .i64 (i : Int) ∧ i ≤ 2 ∧ Hid (LastSt w W wr F G (M.crash keep) M' q n c L i)) (fun x _ => 2 - (intOf x).toNat)
  case atStart => exact ⟨0, _, rfl, by decide, S6⟩
  case round =>
    obtain ⟨i, M', rfl, hi, HR⟩ := hrel
    clear S6
    by_cases hlt : i < 2
    · have hltI : (i : Int) < 2 := by omega
      have hi0 : (0 : Int) ≤ (i : Int) := by omega
      have OP := open_ok HR.out.d HR.out.still (by have := HR.out.st; have := HH.out.2.2.2.1; have e : (M.crash keep).steps = M.steps := rfl; omega) (by rw [HR.out.loose]; exact Nat.zero_le _) 2 40 7 (by decide) (by decide) (by decide) (by decide) (by decide)
      have hlog : logOf M' 2 38 = logOf (M.crash keep) 2 38 := by unfold logOf; rw [HR.out.now]
      obtain ⟨Rf, hRf⟩ : ∃ Rf, readsM 7 newR (logOf M' 2 38) = Rf := ⟨_, rfl⟩
      have hgr : Rf.groups = L.take wn := by rw [← hRf, hlog]; exact HH.out.2.2.2.2.2.2
      rw [show 40 - 2 = 38 from rfl, hRf] at OP
      have HOP := Lib.hid OP
      have HGR := Lib.hid hgr
      have HL := Lib.hid hlt
      clear OP hlog hRf hgr hlt
      go_wp2_with (fail)
      refine HOP.out.mono ?_
      rintro e W7 ⟨t, gv, j, Y, rfl, hj, d7, t7, n7, -, -, gin, -⟩
      rw [HGR.out] at gin
      have hlw : (L.take wn).length = wn := by rw [List.length_take, HH.out.1]; have := HH.out.2.2.2.2.1; omega
      have ⟨Vs, gi1, _⟩ := gin
      obtain ⟨ga, gc, rfl, _⟩ := owns_form gi1
      have hh1 := gin.holds
      have p7 := HR.out.put.touch (t7.mono (only_F HR.out.d.drum.fG)) (fun k hk => .inl hk)
      have p7' : PutAt w W7 F (.slice q L.length c) L := by rw [HH.out.1]; exact p7
      have hh2 := p7'.holds d7.below wn (by rw [HH.out.1]; exact HH.out.2.2.2.2.1)
      have SM := same14_any ga q (L.take wn) (L.take wn) wn wn gc c W7 hlw hlw (by have := HH.out.2.1; have := HH.out.2.2.2.2.1; omega) hh1 hh2
      rw [decide_eq_true (show L.take wn = L.take wn from rfl)] at SM
      rw [hlw]
      have HSM := Lib.hid SM
      have H7 := Lib.hid (And.intro d7 (And.intro p7 (And.intro hj n7)))
      clear hj d7 t7 n7 gin gi1 hh1 p7 p7' hh2 SM hlw HOP
      go_wp2_with (fail)
      all_goals try (exfalso; omega; done)
      with_reducible (refine HSM.out.mono ?_)
      rintro e W8 ⟨rfl, -, b8⟩
      have d8 := H7.out.1.on b8
      have CR2 : Calls Try.prog 37 #[.pointer (some ⟨G, 0, none⟩), .slice none 0 0] W8 fun e W' => e = .returned (.int .i64 0) ∧ DW w W' F G 40 ((M'.bump j).crash []) ∧ Touch F W8 W' :=
        dcrash d8 ⟨by show M'.steps + j ≤ _; have := HR.out.st; have := HH.out.2.2.2.1; have := H7.out.2.2.1; have e : (M.crash keep).steps = M.steps := rfl; omega, by show M'.fuse.getD 0 ≤ _; rw [HR.out.still.fuse]; exact Nat.zero_le _, by show M'.loose.length ≤ _; rw [HR.out.loose]; exact Nat.zero_le _⟩ none [] 0 (fun h => absurd h (by decide)) (by decide) (fun a e => by cases e)
      have HCR2 := Lib.hid CR2
      have H8 := Lib.hid (H7.out.2.1.far b8)
      clear d8 CR2 b8 HSM
      go_wp2_with (fail)
      all_goals try (exfalso; omega; done)
      with_reducible (refine HCR2.out.mono ?_)
      rintro e W9 ⟨rfl, d9, t9⟩
      have HN := Lib.hid (show LastSt w W W9 F G (M.crash keep) ((M'.bump j).crash []) q n c L (i + 1) from ⟨d9, ⟨rfl, rfl⟩, by
        rw [DM.crash_now]
        show layM M'.safe (keptM [] M'.loose) = _
        rw [HR.out.loose, ← HR.out.now]
        unfold DM.now
        rw [HR.out.loose]; rfl, rfl, by show M'.steps + j ≤ _; have := HR.out.st; have := H7.out.2.2.1; omega, H8.out.touch t9 (fun k hk => .inl hk), d9.below⟩)
      clear d9 t9 HCR2
      go_wp2_with (fail)
      all_goals try (exfalso; omega; done)
      go_roundw
      case rel => exact ⟨i + 1, _, by go_num, by have := HL.out; omega, HN⟩
      case measure => simp [intOf]; have := HL.out; omega
    · obtain rfl : i = 2 := by omega
      go_wp2_with (fail)
      go_ret
      exact ⟨rfl, HR.out.b⟩
end Go.Proofs.Ytggchfmglaijgaa
