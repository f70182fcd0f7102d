/- Proved here: the statement TapeTurns, walked: it answers true of all groups, every place and byte, in every world. -/
import Derived.Test.YtggchfmglaijgaaTapeAwake
import Derived.Test.YtggchfmglaijgaaTapeAppG
import Derived.Test.YtggchfmglaijgaaTapeOpenG
import Derived.Test.YtggchfmglaijgaaTapeTurnP
import Derived.Test.YtggchfmglaijgaaByteTwin
import Derived.Test.YtggchfmglaijgaaByteBits
import Derived.Test.YtggchfmglaijgaaRowsArg
namespace Go.Proofs.Ytggchfmglaijgaa
open Go.RowKit

theorem infoIntT : (Try.prog.info? 3).map (fun i => (i.zero, i.size, i.bytes)) = some (some (.int .i64 0), 1, 8) := by kernel_rfl
/-- 'append(v, x)' of one number, whatever v is. -/
theorem appI_one {w : World} {v : Value} {n : Nat} {Vs : List Value} {b : Nat} {x : Int} (h : w.ownsRow 0 3 1 v n Vs) (hx : w.cell? ⟨b, 0, none⟩ = some (.int .i64 x)) (hn : n ≤ 1000000) :
    ∃ v' w', (∀ ty, (Builtin.append_ #[72, 72] ty #[v, .slice (some ⟨b, 0, none⟩) 1 1]).run Try.prog w = .ok v' w') ∧ w'.ownsRow 0 3 1 v' (n + 1) (Vs ++ [.int .i64 x]) ∧ w.grownBy w' v.ownBlock ∧ (v'.ownBlock = v.ownBlock ∨ v'.ownBlock = some w.heap.size) := by
  obtain ⟨i0, hi, hz0, hz1, hz2⟩ := info_parts infoIntT
  have hcells : ∀ j u, [Value.int .i64 x][j]? = some u → w.cell? ((⟨b, 0, none⟩ : Addr).add j) = some u := by
    intro j u hu
    have hj : j < 1 := (List.getElem?_eq_some_iff.1 hu).1
    obtain rfl : j = 0 := by omega
    rw [show (⟨b, 0, none⟩ : Addr).add 0 = ⟨b, 0, none⟩ from by unfold Addr.add; split <;> simp_all, hx]
    exact hu
  obtain ⟨v', w', hrun, hown, hgrow, _, hat⟩ := run_append_own_at (P := Try.prog) w 0 72 72 3 i0 (.int .i64 0) 1 8 Try.underlying72 hi hz0 hz1 hz2 rfl (by decide) v n Vs h ⟨b, 0, none⟩ 1 1 [.int .i64 x] rfl hcells (by intro u hu; rw [List.mem_singleton.1 hu]; rfl) (by unfold maxLen; omega) (by omega) (Nat.zero_le _)
  exact ⟨v', w', fun ty => by rw [← hrun]; rfl, hown, hgrow, hat⟩
def endsV (gs : List (List UInt8)) : List Value := (endsL 0 gs).map (fun (e : Nat) => Value.int .i64 (e : Int))
theorem placesL_ge : ∀ (gs : List (List UInt8)), gs.length ≤ placesL gs
  | [] => Nat.le_refl _
  | l :: r => by
    have := placesL_ge r
    have := countS_pos l.length
    rw [placesL, List.length_cons]; omega
/-- The first loop's state. -/
structure TTSt (w wr : World) (F : Nat → Prop) (G t : Nat) (gs : List (List UInt8)) (M : DM) (ev : Value) : Prop where
  d : DW w wr F G 60 M
  still : Still M
  st : M.steps ≤ 60 + placesL gs
  lo : M.loose.length ≤ placesL gs
  now : M.now = (logL 3 0 0 gs).map ofL ++ List.replicate (60 - placesL gs) (zeroB 64)
  tp : wr.heap[t]? = some (.cells (tapeV G 0 60 3 gs.length (placesL gs) false) 118 (0, 0))
  ft : ¬ F t
  wt : w.heap.size ≤ t
  ends : wr.ownsRow 0 3 1 ev gs.length (endsV gs)
  ee : ∀ k, ev.ownBlock = some k → ¬ F k ∧ k ≠ t ∧ w.heap.size ≤ k
  room : placesL gs ≤ 60
theorem TTSt.far {w W W' : World} {F : Nat → Prop} {G t : Nat} {gs : List (List UInt8)} {M : DM} {ev : Value} (h : TTSt w W F G t gs M ev) (hb : Below W.heap.size W W') : TTSt w W' F G t gs M ev :=
  ⟨h.d.on hb, h.still, h.st, h.lo, h.now, (hb.block _ (obj_lt h.tp)).trans h.tp, h.ft, h.wt, owns_block h.ends (fun k hk => hb.block k (h.ends.lt k hk).2), h.ee, h.room⟩
/-- Behind an Append with room. -/
theorem TTSt.more {w W W1 : World} {F F1 : Nat → Prop} {G t : Nat} {gs : List (List UInt8)} {M : DM} {ev : Value} (h : TTSt w W F G t gs M ev) (l : List UInt8) (hfit : placesL gs + countS l.length ≤ 60)
    (d1 : DW w W1 F1 G 60 (laidM M 0 (placesL gs) 3 gs.length (countS l.length) l (countS l.length))) (t1 : W1.heap[t]? = some (.cells (tapeV G 0 60 3 (gs.length + 1) (placesL gs + countS l.length) false) 118 (0, 0))) (ft : ¬ F1 t)
    (tt : Touch (WithT F t) W W1) (gr : ∀ j, F1 j → Grow F W W1 j) {ev' : Value} (hends : W1.ownsRow 0 3 1 ev gs.length (endsV gs)) {W2 : World} (b : Touch (fun k => ev.ownBlock = some k) W1 W2) (hown : W2.ownsRow 0 3 1 ev' (gs.length + 1) (endsV gs ++ [.int .i64 ((placesL gs + countS l.length : Nat) : Int)]))
    (hat : ev'.ownBlock = ev.ownBlock ∨ ∀ k, ev'.ownBlock = some k → W1.heap.size ≤ k) : TTSt w W2 F1 G t (gs ++ [l]) (laidM M 0 (placesL gs) 3 gs.length (countS l.length) l (countS l.length)) ev' := by
  have hpl : placesL (gs ++ [l]) = placesL gs + countS l.length := by rw [placesL_append, placesL, placesL]; rfl
  have hgl : (gs ++ [l]).length = gs.length + 1 := by rw [List.length_append]; rfl
  have hst := laid_still h.still 0 (placesL gs) 3 gs.length (countS l.length) l (countS l.length)
  have hnF : ∀ k, ev.ownBlock = some k → ¬ F1 k := fun k hk hf => by
    have hlt := (h.ends.lt k hk).2
    rcases gr k hf with q | q
    · exact (h.ee k hk).1 q
    · omega
  refine ⟨⟨d1.drum.kept (fun j hj => b.block j (d1.drum.lt j hj) (fun e => hnF j e hj)) b.size, d1.below.trans (b.below (fun j hj => (h.ee j hj).2.2) d1.below.size), d1.since⟩, hst.1, ?_, ?_, ?_, ?_, ft, h.wt, ?_, fun k hk => ?_, by rw [hpl]; exact hfit⟩
  · rw [hst.2.1, hpl]; have := h.st; omega
  · rw [hst.2.2, hpl]; have := h.lo; omega
  · have hA : ((logL 3 0 0 gs).map ofL).length = 0 + placesL gs := by rw [List.length_map, logL_length, Nat.zero_add]
    rw [laid_all M 0 (placesL gs) 3 gs.length l _ _ h.now hA (by rw [List.length_replicate]; omega) (fun j hj => (laid_still h.still 0 (placesL gs) 3 gs.length (countS l.length) l j).1.off)]
    rw [logL_append, List.map_append, List.append_assoc, hpl]
    have e1 : logL 3 (0 + placesL gs) (0 + gs.length) [l] = groupL 3 (placesL gs) gs.length l := by
      rw [Nat.zero_add, Nat.zero_add, logL, logL, List.append_nil]
    rw [e1, List.drop_replicate, show 60 - placesL gs - countS l.length = 60 - (placesL gs + countS l.length) by omega]
  · rw [hgl, hpl]
    exact (b.block t (obj_lt t1) (fun e => (h.ee t e).2.1 rfl)).trans t1
  · have e2 : endsV (gs ++ [l]) = endsV gs ++ [.int .i64 ((placesL gs + countS l.length : Nat) : Int)] := by
      unfold endsV
      rw [endsL_snoc, List.map_append, Nat.zero_add]; rfl
    rw [e2, hgl]
    exact hown
  · rcases hat with q | q
    · have hk' := q ▸ hk
      exact ⟨hnF k hk', (h.ee k hk').2.1, (h.ee k hk').2.2⟩
    · have h1 := q k hk
      have := obj_lt t1
      have := d1.below.size
      exact ⟨fun hf => by have := d1.drum.lt k hf; omega, by omega, by omega⟩
theorem blank_reads : readsM 3 newR (logOf (newM 60) 0 60) = newR := by
  have e : logOf (newM 60) 0 60 = zL 64 :: (logOf (newM 60) 0 60).drop 1 := by
    have h := logOf_drop (newM 60) 60 0 60 0 (by rw [new_now, List.length_replicate]) (by decide) (by decide)
    rw [List.drop_zero] at h
    conv => lhs; rw [h]
    rfl
  rw [e]
  exact reads_stop (fit_gen (by decide) (by decide)) _
set_option maxRecDepth 100000 in
set_option maxHeartbeats 16000000 in
theorem tapeTurns_any (p : Option Addr) (rows : List ByteArray) (c : Nat) (at_ : Int) (y : UInt8) (w : World) (hl : rows.length ≤ 140737488351232) (hp : HoldsRows w p rows) :
    Calls Try.prog 8 #[.slice p rows.length c, .int .i64 at_, .int .u8 (y.toNat : Int)] w fun e w' => e = .returned (.bool true) ∧ Below w.heap.size w w' := by
  have AW := Lib.hid (awake14_any w)
  have HP := Lib.hid (And.intro hp hl)
  obtain ⟨N, hN⟩ : ∃ N, rows.length = N := ⟨_, rfl⟩
  have HN := Lib.hid hN
  rw [hN] at hl ⊢
  have hN9 : (N : Int) ≤ 140737488351232 := by omega
  clear hp hl hN
  go_enter Try.func8, Try.ntmps8
  go_wp2_with (fail)
  refine AW.out.mono ?_
  rintro e W0 ⟨rfl, hb⟩
  have B0 := Lib.hid hb
  have NW := Lib.hid (new_ok 60 (by decide) (by decide) W0)
  clear hb AW
  go_wp2_with (fail)
  refine NW.out.mono ?_
  rintro e W1 ⟨G, F1, rfl, hd, hb, hF⟩
  have OP := open_ok (DW.mk hd hb hF) ⟨by rfl, by rfl⟩ (by decide) (by decide) 0 60 3 (by decide) (by decide) (by decide) (by decide) (by decide)
  rw [show 60 - 0 = 60 from rfl, blank_reads] at OP
  have HOP := Lib.hid OP
  have H01 := Lib.hid hb.size
  clear hd hb hF NW OP
  go_wp2_with (fail)
  refine HOP.out.mono ?_
  rintro e W2 ⟨t, gv, j, Y, rfl, hj, d2, t2, n2, wt2, ft2, -, -⟩
  have s2 : TTSt W0 W2 F1 G t [] ((newM 60).bump j) (.slice none 0 0) := ⟨d2, ⟨by rfl, by rfl⟩, by show 0 + j ≤ 60 + 0; omega, Nat.le_refl _, by show (newM 60).now = _; rw [new_now]; rfl, n2, ft2, Nat.le_trans H01.out wt2, World.ownsRow_nil _ _ _ _, fun k hk => (by cases hk), Nat.zero_le _⟩
  have S2 := Lib.hid s2
  clear d2 t2 n2 wt2 ft2 s2 HOP hj
  go_wp2_with (fail)
  go_loopw [12, 49] (fun ev x wr => ∃ (i : Nat) (F : Nat → Prop) (gs : List (List UInt8)) (M : DM) (q : Option Addr) (m cq : Nat), x = .int .i64 (i : Int) ∧ ev = .slice q m cq ∧ i ≤ N ∧ Hid (TTSt W0 wr F G t gs M (.slice q m cq))) (fun _ x _ => N - (intOf x).toNat)
  case atStart => exact ⟨0, F1, [], _, none, 0, 0, rfl, rfl, Nat.zero_le _, S2⟩
  case round =>
    obtain ⟨i, F, gs, M, q, m, cq, rfl, rfl, hi, HR⟩ := hrel
    clear S2
    by_cases hlt : i < N
    · have hltI : (i : Int) < (N : Int) := by omega
      have hi0 : (0 : Int) ≤ (i : Int) := by omega
      obtain ⟨b, off, rfl, hrows⟩ := HP.out.1.below (B0.out.trans (HR.out.d.below.mono B0.out.size)) (by rw [HN.out]; omega)
      obtain ⟨pa, pc, hcell, hB, hnil, hpc, hsz⟩ := hrows i (by rw [HN.out]; exact hlt)
      have TW := twin_any pa (rows[i]'(by rw [HN.out]; exact hlt)) pc wr (by omega) hB hnil
      generalize rows[i]'(by rw [HN.out]; exact hlt) = s at *
      obtain ⟨n, hn⟩ : ∃ n, s.size = n := ⟨_, rfl⟩
      have HSN := Lib.hid (And.intro hn hsz)
      rw [hn] at TW hcell
      have HTW := Lib.hid TW
      have HL := Lib.hid hlt
      clear TW hB hnil hpc hsz hrows hlt hn
      go_wp2_with (fail)
      refine HTW.out.mono ?_
      rintro e W3 ⟨g3, c3, rfl, o3, b3⟩
      have s3 := HR.out.far b3
      have hg3 : wr.heap.size ≤ g3 := o3.2.1
      have hg3' : g3 < W3.heap.size := o3.2.2.1
      have hFg : ¬ F g3 := fun f => by have := HR.out.d.drum.lt _ f; omega
      rw [HSN.out.1]
      by_cases hfit : placesL gs + countS n ≤ 60
      · have hn9 : n ≤ 1048576 := by have := countS_le n; omega
        have ai : AppIn W0 W3 F G 60 M t 0 60 3 gs.length (placesL gs) (some ⟨g3, 0, none⟩) n c3 s := ⟨s3.d, by have := s3.st; have := s3.room; omega, by have := s3.lo; have := s3.room; omega, by rw [s3.still.fuse]; exact Nat.zero_le _, s3.tp, s3.ft, s3.wt, by decide, by decide, by decide, by have := placesL_ge gs; have := s3.room; omega, HSN.out.1, hn9, by have := o3.2.2.2; rw [HSN.out.1] at this; exact this, o3.holds, (fun e => by cases e), (fun a e => by cases e; exact ⟨hFg, hg3'⟩), by omega⟩
        have HAP := Lib.hid (append_any ai)
        have HS3 := Lib.hid s3
        have HFIT := Lib.hid hfit
        clear ai s3 o3 b3 hg3 hg3' hFg HTW hn9 hfit
        go_wp2_with (fail)
        refine HAP.out.mono ?_
        rintro e W4 ⟨F4, k4, hk4, hon, ft4, tt4, gr4, ⟨rfl, rfl, d4, n4⟩ | ⟨hk, hoff, _⟩⟩
        rotate_left
        · have := (laid_still HS3.out.still 0 (placesL gs) 3 gs.length (countS n) (bl s) k4).1.off
          rw [this] at hoff
          cases hoff
        obtain ⟨X, hX⟩ : ∃ X, placesL gs + countS n = X := ⟨_, rfl⟩
        have HX := Lib.hid hX
        have hX60 : X ≤ 60 := by have := HFIT.out; omega
        have FR := free_any W4 t G 0 60 3 (gs.length + 1) X false (by rw [← hX]; exact n4) (by decide) (by omega)
        have hbl : (bl s).length = n := by rw [bl_length, HSN.out.1]
        have e60 : (60 : Int) - ((60 - 0 - X : Nat) : Int) = (X : Int) := by omega
        have w60 : IntKind.i64.wrap ((60 : Int) - ((60 - 0 - X : Nat) : Int)) = (X : Int) := by rw [e60, IntKind.wrap_i64]; omega
        clear hX hX60
        have HFR := Lib.hid FR
        have H4 := Lib.hid (And.intro hon (And.intro ft4 (And.intro tt4 (And.intro gr4 (And.intro d4 (And.intro n4 hbl))))))
        clear hon ft4 tt4 gr4 d4 n4 FR HAP hbl
        go_wp2_with (fail)
        refine HFR.out.mono ?_
        rintro e W5 ⟨rfl, m5, rfl⟩
        have hends : W4.ownsRow 0 3 1 (.slice q m cq) gs.length (endsV gs) := owns_block HS3.out.ends (fun k hk => H4.out.2.2.1.block k (HS3.out.ends.lt k hk).2 (fun hw => by
          rcases hw with hw | hw
          · exact (HS3.out.ee k hk).1 hw
          · exact (HS3.out.ee k hk).2.1 hw))
        obtain ⟨U, hU⟩ : ∃ U, (W4.drewN m5).alloc (.cells #[.int .i64 (X : Int)] 3) = U := ⟨_, rfl⟩
        have bU : Below W4.heap.size W4 U := by rw [← hU]; exact (below_drewN (Below.refl W4.heap.size W4) m5).alloc (Nat.le_refl W4.heap.size) _
        have zd : (W4.drewN m5).heap.size = W4.heap.size := rfl
        have nU : U.heap[W4.heap.size]? = some (.cells #[.int .i64 (X : Int)] 3 (0, 0)) := by rw [← hU, ← zd]; exact heap_alloc_new _ _
        have eU : U.ownsRow 0 3 1 (.slice q m cq) gs.length (endsV gs) := owns_block hends (fun k hk => bU.block k (hends.lt k hk).2)
        obtain ⟨ev', W6, hrun, hown6, hgrow6, hat6⟩ := appI_one (x := (X : Int)) eU (by rw [cell_of_row _ _ _ _ _ _ nU]; rfl) (by have := placesL_ge gs; have := HFIT.out; omega)
        obtain ⟨q', c', rfl, _⟩ := owns_form hown6
        have tb : Touch (fun k => (Value.slice q m cq).ownBlock = some k) W4 W6 := (Touch.of_below (F := fun k => (Value.slice q m cq).ownBlock = some k) bU).grown hgrow6 (fun k e => .inl e)
        have HN6 := Lib.hid (HS3.out.more (bl s) (by rw [H4.out.2.2.2.2.2.2]; exact HFIT.out) (by rw [H4.out.2.2.2.2.2.2]; exact H4.out.2.2.2.2.1) (by rw [H4.out.2.2.2.2.2.2]; exact H4.out.2.2.2.2.2.1) H4.out.2.1 H4.out.2.2.1 H4.out.2.2.2.1 hends tb (by rw [H4.out.2.2.2.2.2.2, HX.out]; exact hown6) (hat6.imp id (fun e k hk => by
          rw [e] at hk
          injection hk with hk
          have := bU.size
          omega)))
        have HRUN := Lib.hid hrun
        have HU := Lib.hid hU
        clear hends hU bU zd nU eU hrun hown6 hgrow6 hat6 tb
        go_wp2_with (at_builtin; refine wpList_append_eq rfl (.tmp 58) (.tmp 62) 72 rfl _ _ _ _ rfl rfl (by rw [HU.out]; exact HRUN.out) ?_)
        go_roundw
        case rel => exact ⟨i + 1, F4, gs ++ [bl s], _, q', gs.length + 1, c', by go_num, rfl, by have := HL.out; omega, HN6⟩
        case measure => simp [intOf]; have := HL.out; omega
      · have hf9 : 60 - 0 - placesL gs < countS n := by have := s3.room; omega
        have AF := append_full W3 t G 0 60 3 gs.length (placesL gs) s3.tp (by decide) (by have := s3.room; omega) (some ⟨g3, 0, none⟩) n c3 (by have := HSN.out; omega) hf9
        have HAF := Lib.hid AF
        have HS3 := Lib.hid s3
        clear AF s3 o3 b3 hg3 hg3' hFg HTW hf9 hfit
        go_wp2_with (fail)
        refine HAF.out.mono ?_
        rintro e W4 ⟨rfl, m4, rfl⟩
        have HN6 := Lib.hid (HS3.out.far (below_drewN (Below.refl W3.heap.size W3) m4))
        go_wp2_with (fail)
        go_roundw
        case rel => exact ⟨i + 1, F, gs, M, q, m, cq, by go_num, rfl, by have := HL.out; omega, HN6⟩
        case measure => simp [intOf]; have := HL.out; omega
    · obtain ⟨X, hX⟩ : ∃ X, placesL gs = X := ⟨_, rfl⟩
      have HX := Lib.hid hX
      have hX60 : X ≤ 60 := by have := HR.out.room; omega
      have FR := free_any wr t G 0 60 3 gs.length X false (by rw [← hX]; exact HR.out.tp) (by decide) (by omega)
      have e60 : (60 : Int) - ((60 - 0 - X : Nat) : Int) = (X : Int) := by omega
      have w60 : IntKind.i64.wrap ((60 : Int) - ((60 - 0 - X : Nat) : Int)) = (X : Int) := by rw [e60, IntKind.wrap_i64]; omega
      have HFR := Lib.hid FR
      have H60 := Lib.hid hX60
      have hni : ¬ (i : Int) < (N : Int) := by omega
      clear FR hX hX60 hlt hi
      go_wp2_with (fail)
      refine HFR.out.mono ?_
      rintro e W5 ⟨rfl, m5, rfl⟩
      have S5 := Lib.hid (HR.out.far (below_drewN (Below.refl wr.heap.size wr) m5))
      have hbel : Below w.heap.size w (wr.drewN m5) := B0.out.trans (S5.out.d.below.mono B0.out.size)
      have HB5 := Lib.hid hbel
      clear hbel
      have hyz : ((y.toNat : Int) == 0) = decide (y = 0) := by
        rw [Bool.eq_iff_iff, decide_eq_true_eq, beq_iff_eq]
        constructor
        · intro h; apply UInt8.toNat.inj; have : (0 : UInt8).toNat = 0 := rfl; omega
        · intro h; rw [h]; rfl
      have HYZ := Lib.hid hyz
      clear hyz HFR HR
      by_cases hX0 : X = 0
      · subst hX0
        go_wp2_with (fail)
        all_goals try (exfalso; omega; done)
        go_ret
        exact ⟨rfl, HB5.out⟩
      · have tX : ((X : Int) == 0) = false := by rw [beq_eq_false_iff_ne]; omega
        by_cases hy : y = 0
        · have hy0 : ((y.toNat : Int) == 0) = true := by rw [HYZ.out]; exact decide_eq_true hy
          have HQ := Lib.hid hy
          clear hy
          go_wp2_with (fail)
          all_goals try (exfalso; omega; done)
          go_ret
          exact ⟨rfl, HB5.out⟩
        · have hy0 : ((y.toNat : Int) == 0) = false := by rw [HYZ.out]; exact decide_eq_false hy
          have hy1 : ¬ (y.toNat : Int) = 0 := by have := hy0; rwa [beq_eq_false_iff_ne] at this
          have HQ := Lib.hid hy
          obtain ⟨U, hU⟩ : ∃ U : Nat, IntKind.u64.wrap at_ = (U : Int) := ⟨(IntKind.u64.wrap at_).toNat, by rw [IntKind.wrap_u64]; omega⟩
          obtain ⟨D, hD⟩ : ∃ D, X * 64 = D := ⟨_, rfl⟩
          have hlt : U % D < D := Nat.mod_lt _ (by omega)
          obtain ⟨k, hk⟩ : ∃ k, U % D = k := ⟨_, rfl⟩
          rw [hk] at hlt
          have hX60 := H60.out
          obtain ⟨kk, hkk⟩ : ∃ kk, k / 64 = kk := ⟨_, rfl⟩
          obtain ⟨kr, hkr⟩ : ∃ kr, k % 64 = kr := ⟨_, rfl⟩
          have hkX : kk < X := by omega
          have hkr64 : kr < 64 := by omega
          have i0 : (X : Int) * 64 = (D : Int) := by omega
          have i1 : ((U : Nat) : Int) % (D : Int) = (k : Int) := by rw [← Int.natCast_emod, hk]
          have i2 : Int.tmod (U : Int) (D : Int) = (k : Int) := by rw [← Int.ofNat_tmod, hk]
          have i3 : IntKind.u64.wrap (D : Int) = (D : Int) := by rw [IntKind.wrap_u64]; omega
          have i4 : IntKind.i64.wrap (k : Int) = (k : Int) := by rw [IntKind.wrap_i64]; omega
          have i5 : IntKind.i64.wrap (D : Int) = (D : Int) := by rw [IntKind.wrap_i64]; omega
          have j1 : (k : Int) / 64 = (kk : Int) := by omega
          have j2 : Int.tdiv (k : Int) 64 = (kk : Int) := by rw [show (64 : Int) = ((64 : Nat) : Int) from rfl, ← Int.ofNat_tdiv, hkk]
          have j3 : (k : Int) % 64 = (kr : Int) := by omega
          have j4 : Int.tmod (k : Int) 64 = (kr : Int) := by rw [show (64 : Int) = ((64 : Nat) : Int) from rfl, ← Int.ofNat_tmod, hkr]
          have hD0 : ((D : Int) == 0) = false := by rw [beq_eq_false_iff_ne]; omega
          have hD1 : ¬ (D : Int) = 0 := by omega
          have HK := Lib.hid (And.intro hkX (And.intro hkr64 hX60))
          have b1 : (kk : Int) ≤ 60 := by omega
          have b2 : (kr : Int) ≤ 63 := by omega
          have RD := dread_ok S5.out.d ⟨by have := S5.out.st; have := S5.out.room; omega, by rw [S5.out.still.fuse]; exact Nat.zero_le _, by have := S5.out.lo; have := S5.out.room; omega⟩ S5.out.still.off kk (by omega)
          have HRD := Lib.hid RD
          clear RD hlt hk hD hkk hkr hkX hX60 hy hX0
          go_wp2_with (fail)
          all_goals try (exfalso; omega; done)
          with_reducible (refine HRD.out.mono ?_)
          rintro e W7 ⟨g7, rfl, d7, o7, z7, nf7, t7⟩
          have hnow := now_at S5.out.now (kk := kk) (by rw [HX.out]; exact HK.out.1)
          obtain ⟨l0, hl0⟩ : ∃ l0, bl (M.now.getD kk ⟨#[]⟩) = l0 := ⟨_, rfl⟩
          have O1 : Owns W7 wr.heap.size g7 64 (ofL l0) := by rw [← hl0, ofL_bl]; exact o7
          rw [hl0] at hnow
          have hkp : kr < l0.length := by rw [hnow.2]; exact HK.out.2.1
          obtain ⟨hcl, hfz⟩ := O1.byte kr hkp
          have hput := O1.put (t := ofL (l0.set kr (l0[kr]'hkp ^^^ y))) kr (l0[kr]'hkp ^^^ y) (by rw [bl_ofL, bl_ofL])
          have hxr := xor_u8 (l0[kr]'hkp) y
          have hne : l0[kr]? ≠ some (l0[kr]'hkp ^^^ y) := fun e => by
            rw [List.getElem?_eq_getElem hkp] at e
            exact xor_other _ y HQ.out (Option.some.inj e).symm
          have hun := sealed_turned hnow.1 (by rw [hnow.2]; decide) hkp hne
          generalize l0[kr]'hkp = x at *
          obtain ⟨l1, hl1⟩ : ∃ l1, l0.set kr (x ^^^ y) = l1 := ⟨_, rfl⟩
          have hl164 : l1.length = 64 := by rw [← hl1, List.length_set, hnow.2]
          rw [hl1] at hput hun
          have hg7 : wr.heap.size ≤ g7 := O1.2.1
          have hg7' : g7 < W7.heap.size := O1.2.2.1
          obtain ⟨xv, hxv⟩ : ∃ xv, ((x ^^^ y).toNat : Int) = xv := ⟨_, rfl⟩
          rw [hxv] at hput hxr
          have hW0 : W0.heap.size ≤ wr.heap.size := S5.out.d.below.size
          have d8 : DW W0 (W7.setCell ⟨g7, kr, none⟩ (.int .u8 xv)) F G 60 M.step := ⟨d7.drum.kept (fun j hj => set_other j (fun e => nf7 (e ▸ hj))) (by rw [set_size]; exact Nat.le_refl _), d7.below.setCell (Nat.le_trans hW0 hg7) _, d7.since⟩
          have hoff1 : M.step.off = false := by
            rw [show M.step = M.bump 1 from DM.bump_step S5.out.still 0]; exact (S5.out.still.bump 1).off
          have tm8 : Tame M.step := by
            rw [show M.step = M.bump 1 from DM.bump_step S5.out.still 0]
            exact ⟨by show M.steps + 1 ≤ _; have := S5.out.st; have := S5.out.room; omega, by rw [(S5.out.still.bump 1).fuse]; exact Nat.zero_le _, by show M.loose.length ≤ _; have := S5.out.lo; have := S5.out.room; omega⟩
          have WR := dwrite_ok d8 tm8 hoff1 kk (by have := HK.out; omega) g7 (ofL l1) 64 hput.holds (by rw [ofL_size, hl164]; exact Nat.le_refl _) nf7
          rw [ofL_size, hl164] at WR
          have HWR := Lib.hid WR
          have H7 := Lib.hid (And.intro hnow (And.intro hun (And.intro hl164 (And.intro hg7 (And.intro hg7' (And.intro d8 (And.intro t7 (And.intro hoff1 tm8))))))))
          clear hnow O1 hkp hput hne hun hl0 hl1 hl164 hg7 hg7' hxv d8 hoff1 tm8 WR d7 o7 z7 nf7 t7 hW0 HRD
          go_wp2_with (fail)
          all_goals try (exfalso; omega; done)
          clear hcl hfz hxr
          with_reducible (refine HWR.out.mono ?_)
          rintro e W9 ⟨rfl, F9, d9, t9, g9⟩
          have hoe : ∀ k, (Value.slice q m cq).ownBlock = some k → W9.heap[k]? = (wr.drewN m5).heap[k]? := fun k hk => by
            have h1 := S5.out.ee k hk
            have h2 := (S5.out.ends.lt k hk).2
            have h3 : k ≠ g7 := by have := H7.out.2.2.2.1; have e : (wr.drewN m5).heap.size = wr.heap.size := rfl; omega
            have h4 : k < W7.heap.size := Nat.lt_of_lt_of_le h2 H7.out.2.2.2.2.2.2.1.size
            exact (t9.block k (by rw [set_size]; exact h4) h1.1).trans ((set_other k h3).trans (H7.out.2.2.2.2.2.2.1.block k h2 (only_not S5.out.d.drum.fG h1.1)))
          have e9 : W9.ownsRow 0 3 1 (.slice q m cq) gs.length (endsV gs) := owns_block S5.out.ends hoe
          have hm : m = gs.length := by
            obtain ⟨_, _, e, _⟩ := owns_form e9
            injection e with _ e _
          subst hm
          have st1 := still_step S5.out.still
          have st2 := still_write st1.1 kk (ofL l1)
          have hon := H7.out.2.2.2.2.2.2.2.1
          have OP := open_ok d9 st2.1 (by have := S5.out.st; have := S5.out.room; rw [st2.2.1, st1.2.1]; omega) (by have := S5.out.lo; have := S5.out.room; rw [st2.2.2, st1.2.2]; omega) 0 60 3 (by decide) (by decide) (by decide) (by decide) (by decide)
          have hres := turned_drum (M2 := M.step.write kk (ofL l1)) S5.out.room S5.out.now (kk := kk) (by rw [HX.out]; exact HK.out.1) H7.out.2.1 (by rw [write_now hon _ _ (by rw [ofL_size, H7.out.2.2.1]), M.step_now])
          obtain ⟨Rf, hRf⟩ : ∃ Rf, readsM 3 newR (logOf (M.step.write kk (ofL l1)) 0 60) = Rf := ⟨_, rfl⟩
          rw [show 60 - 0 = 60 from rfl, hRf] at OP
          rw [hRf] at hres
          have HOP := Lib.hid OP
          have HRES := Lib.hid hres
          have HE9 := Lib.hid e9
          have hbelow9 : Below w.heap.size w W9 := B0.out.trans (d9.below.mono B0.out.size)
          have HB9 := Lib.hid hbelow9
          have hEl : (endsL 0 gs).length = gs.length := endsL_length gs 0
          have HEL := Lib.hid hEl
          have hgl : (gs.length : Int) ≤ 60 := by have := placesL_ge gs; have := S5.out.room; omega
          clear st1 st2 hon OP hres hRf e9 hoe hbelow9 hEl d9 t9 g9 HWR
          go_wp2_with (fail)
          go_loop [19] (fun x => ∃ wn : Nat, x = .int .i64 (wn : Int) ∧ wn ≤ gs.length ∧ Hid (∀ i (h : i < (endsL 0 gs).length), i < wn → (endsL 0 gs)[i] ≤ kk)) (fun x => gs.length - (intOf x).toNat)
          case atStart => exact ⟨0, rfl, Nat.zero_le _, Lib.hid (fun i h h0 => absurd h0 (Nat.not_lt_zero i))⟩
          case round =>
            obtain ⟨wn, rfl, hwn, HW⟩ := hrel
            have hwnI : (wn : Int) ≤ 60 := by omega
            by_cases hlt : wn < gs.length
            · obtain ⟨ge, ce, hq, _, _⟩ := HE9.out.form (by omega)
              injection hq with hq1 hq2 hq3
              subst hq1
              have hcell := HE9.out.cellAt wn (by rw [Nat.mul_one]; exact hlt)
              have hlE : wn < (endsL 0 gs).length := by rw [HEL.out]; exact hlt
              obtain ⟨E, hE⟩ : ∃ E, (endsL 0 gs)[wn] = E := ⟨_, rfl⟩
              have hcell' : W9.cell? ⟨ge, wn, none⟩ = some (.int .i64 (E : Int)) := by
                rw [hcell]
                unfold endsV
                rw [List.getElem?_map, List.getElem?_eq_getElem hlE, hE]; rfl
              have HEE := Lib.hid (show ∃ h : wn < (endsL 0 gs).length, (endsL 0 gs)[wn]'h = E from ⟨hlE, hE⟩)
              have hltI : (wn : Int) < (gs.length : Int) := by omega
              clear hcell hlE hE
              by_cases hek : E ≤ kk
              · have hekI : (E : Int) ≤ (kk : Int) := by omega
                have HEK := Lib.hid (And.intro hek hlt)
                clear hek hlt
                go_wp2_with (fail)
                all_goals try (exfalso; omega; done)
                go_round
                case rel => exact ⟨wn + 1, by go_num, by have := HEK.out; omega, Lib.hid (fun i h hi => by
                  by_cases e : i = wn
                  · subst e
                    obtain ⟨h1, h2⟩ := HEE.out
                    rw [h2]; exact HEK.out.1
                  · exact HW.out i h (by omega))⟩
                case measure => simp [intOf]; have := HEK.out; omega
              · have hekI : ¬ (E : Int) ≤ (kk : Int) := by omega
                have HEK := Lib.hid hek
                clear hek
                have hah : aheadL kk (endsL 0 gs) = wn := ahead_at kk (endsL 0 gs) wn (by rw [HEL.out]; omega) (fun i h hi => HW.out i h hi) (fun h => by obtain ⟨h1, h2⟩ := HEE.out; rw [h2]; exact HEK.out)
                have hr := HRES.out.trans hah
                have HRR := Lib.hid hr
                clear hr hah
                go_wp2_with (fail)
                all_goals try (exfalso; omega; done)
                refine HOP.out.mono ?_
                rintro e WF ⟨t2, gv2, j2, Y2, rfl, -, df, -, -, -, -, gin, -⟩
                obtain ⟨Vs2, gi1, -⟩ := gin
                obtain ⟨ga2, gc2, rfl, -⟩ := owns_form gi1
                rw [HRR.out]
                have HBF := Lib.hid (B0.out.trans (df.below.mono B0.out.size))
                clear df gi1
                go_wp2_with (fail)
                all_goals try (exfalso; omega; done)
                go_ret
                exact ⟨by first | rfl | simp, HBF.out⟩
            · obtain rfl : wn = gs.length := by omega
              have hah : aheadL kk (endsL 0 gs) = gs.length := ahead_at kk (endsL 0 gs) gs.length (by rw [HEL.out]; omega) (fun i h hi => HW.out i h hi) (fun h => by have := HEL.out; omega)
              have hr := HRES.out.trans hah
              have HRR := Lib.hid hr
              clear hr hah
              go_wp2_with (fail)
              all_goals try (exfalso; omega; done)
              refine HOP.out.mono ?_
              rintro e WF ⟨t2, gv2, j2, Y2, rfl, -, df, -, -, -, -, gin, -⟩
              obtain ⟨Vs2, gi1, -⟩ := gin
              obtain ⟨ga2, gc2, rfl, -⟩ := owns_form gi1
              rw [HRR.out]
              have HBF := Lib.hid (B0.out.trans (df.below.mono B0.out.size))
              clear df gi1
              go_wp2_with (fail)
              all_goals try (exfalso; omega; done)
              go_ret
              exact ⟨by first | rfl | simp, HBF.out⟩
end Go.Proofs.Ytggchfmglaijgaa
