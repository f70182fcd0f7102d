/- Proved here: the law CacheKeeps. -/
import Derived.Test.YtaigbplidkakhaaCKeep2
import Derived.Test.YtaigbplidkakhaaCSame
import Derived.Test.YtaigbplidkakhaaCOpArg
import Derived.Deep.DeepCutAuto
import Derived.Deep.CutBlock
namespace Go.Proofs.Ytaigbplidkakhaa
open Go.RowKit Go.ChangeMaps

theorem four' {W : World} {x : Nat} {a b c d : Value} {t : TypeId} (h : W.heap[x]? = some (.cells #[a, b, c, d] t (0, 0))) : W.cell? ⟨x, 1, none⟩ = some b ∧ W.cell? ⟨x, 2, none⟩ = some c ∧ W.cell? ⟨x, 3, none⟩ = some d := by
  refine ⟨?_, ?_, ?_⟩ <;> (rw [cell_of_row _ _ _ _ _ _ h]; rfl)
theorem key_split' (k : Int) : ∀ l : List EntI, (∀ e ∈ l, e.k ≠ k) ∨ ∃ p e q, l = p ++ e :: q ∧ e.k = k
  | [] => .inl (fun _ h => by simp at h)
  | a :: t => by
    by_cases ha : a.k = k
    · exact .inr ⟨[], a, t, rfl, ha⟩
    · rcases key_split' k t with h | ⟨p, e, q, h1, h2⟩
      · exact .inl (List.forall_mem_cons.2 ⟨ha, h⟩)
      · exact .inr ⟨a :: p, e, q, by rw [h1]; rfl, h2⟩
theorem CSI.wf {M : Nat → Prop} {W : World} {C nb : Nat} {places : Int} {l : List EntI} (h : CSI M W C places nb l) : ∀ e ∈ l, (Lit.int .i64 e.k).wf = true := fun e he => by
  obtain ⟨r, m, L, B, nx, pv, f, h1, h2, _, _⟩ := h
  have hm : e.enc ∈ L.map B := by rw [h2]; exact List.mem_map_of_mem he
  obtain ⟨a, ha, hE⟩ := List.mem_map.1 hm
  obtain ⟨kl, hk, _⟩ := h1.keyed a ha
  rw [hE] at hk
  obtain ⟨x, hx, _, hw⟩ := Maps.keyOf_int_inv Try.underlying3 hk
  have e1 : e.k = x := by injection hx
  rw [e1]
  exact hw
/-- What the outer loop keeps. -/
def KeepI (W : World) (C m bl bh j : Nat) (wr : World) : Prop := ∃ M nb l hf lf n1 n2, KS W C m bl bh wr M nb l hf lf n1 n2 ∧ Rel l hf lf ∧ nb ≤ j ∧ l.length ≤ m ∧ (∀ e ∈ l, e.p ≤ j) ∧ n1 ≤ 2 * j ∧ n2 ≤ 2 * j
theorem upd1_same (h : Int → Int) (k v : Int) : upd1 h k v k = v := if_pos rfl
theorem upd1_other (h : Int → Int) (k v x : Int) (hx : x ≠ k) : upd1 h k v x = h x := if_neg hx
theorem mem_mid {p q : List EntI} {e x y : EntI} (h : y ∈ p ++ x :: q) : y = x ∨ y ∈ p ++ q := by
  simp only [List.mem_append, List.mem_cons] at h ⊢
  rcases h with h | h | h
  · exact .inr (.inl h)
  · exact .inl h
  · exact .inr (.inr h)
theorem mem_out {p q : List EntI} {e y : EntI} (h : y ∈ p ++ e :: q) (hne : y.k ≠ e.k) : y ∈ p ++ q := by
  rcases mem_mid (e := e) h with rfl | h
  · exact absurd rfl hne
  · exact h
theorem mem_in {p q : List EntI} {e y : EntI} (h : y ∈ p ++ q) : y ∈ p ++ e :: q := by
  simp only [List.mem_append, List.mem_cons] at h ⊢
  rcases h with h | h
  · exact .inl h
  · exact .inr (.inr h)
/-- One entry in the place of another of its key. -/
theorem Rel.swap {p q l' : List EntI} {e e' : EntI} {hf lf hf' lf' : Int → Int} (h : Rel (p ++ e :: q) hf lf) (hn : ((p ++ e :: q).map (·.k)).Nodup) {k : Int} (hek : e.k = k) (hk : e'.k = k) (h1 : hf' k = wt e') (h2 : ∀ x, x ≠ k → hf' x = hf x) (g1 : lf' k = e'.v) (g2 : ∀ x, x ≠ k → lf' x = lf x)
    (hl : ∀ y, y ∈ l' ↔ y = e' ∨ y ∈ p ++ q) : Rel l' hf' lf' := by
  have ha := apart_of_nodup hn
  refine h.step hk h1 h2 g1 g2 (fun y hy => ?_) ((hl e').2 (.inl rfl)) (fun y hy hyk => .inl ((hl y).2 (.inr (mem_out hy (by rw [hek]; exact hyk)))))
  rcases (hl y).1 hy with h | h
  · exact .inl h
  · exact .inr ⟨mem_in h, by rw [← hek]; exact ha y h⟩
set_option maxRecDepth 100000 in
set_option maxHeartbeats 64000000 in
theorem cacheKeeps_any (n : Int) (bn : -9223372036854775808 ≤ n ∧ n ≤ 9223372036854775807) (p : Option Addr) (l : List OpC) (c : Nat) (W : World) (hl : l.length ≤ 140737488351232) (h : HoldsOps W p l) :
    Calls Try.prog 4 #[.int .i64 n, .slice p l.length c] W fun x W' => x = .returned (.bool true) ∧ Below W.heap.size W W' := by
  have HA := Lib.hid h
  clear h bn
  go_enter Try.func4, Try.ntmps4
  go_wp2_with (fail)
  refine (awake_any W).mono ?_
  rintro x W1 ⟨rfl, b1⟩
  have H1 := Lib.hid b1
  clear b1
  go_wp2_with (fail)
  obtain ⟨m, hm, hm1, hm2⟩ := places_num' n
  simp only [hm]
  refine (newI (m : Int) (by omega) (by omega) W1).mono ?_
  rintro x W2 ⟨C, rfl, s2, b2⟩
  have hmk1 := run_makeMap (P := Try.prog) 42 W2
  have hmk2 := run_makeMap (P := Try.prog) 42 (W2.alloc (.map #[] 0))
  have K0 : KS W C m W2.heap.size (W2.heap.size + 1) ((W2.alloc (.map #[] 0)).alloc (.map #[] 0)) (fun k => W1.heap.size ≤ k ∧ k < W2.heap.size) 0 [] (fun _ => 0) (fun _ => 0) 0 0 := by
    have i1 := IntM.made W2
    have i2 := IntM.made (W2.alloc (.map #[] 0))
    have hz : (W2.alloc (.map #[] 0)).heap.size = W2.heap.size + 1 := by simp
    rw [hz] at i2
    have b3 : Below W2.heap.size W2 ((W2.alloc (.map #[] 0)).alloc (.map #[] 0)) := ((Below.refl _ _).alloc (Nat.le_refl _) _).alloc (by simp) _
    have hle := H1.out.size
    have hle2 := b2.size
    refine ⟨s2.tch (Tch.of_below (F := fun _ => False) b3) (fun _ _ => id), fun k hk => ?_, i1.keep (Below.heap_alloc _ _ _ (by omega)), i2, bcat (bcat H1.out b2) b3, by omega, by omega, by omega⟩
    obtain ⟨k1, k2⟩ := hk
    rw [World.size_alloc, World.size_alloc]
    exact ⟨by omega, by omega, by omega, by omega⟩
  have H2 := Lib.hid (show KeepI W C m W2.heap.size (W2.heap.size + 1) 0 ((W2.alloc (.map #[] 0)).alloc (.map #[] 0)) from ⟨_, _, _, _, _, _, _, K0, ⟨fun _ h => by simp at h, fun _ _ => rfl⟩, Nat.le_refl _, Nat.zero_le _, (fun _ h => by simp at h), Nat.le_refl _, Nat.le_refl _⟩)
  clear s2 b2 K0 hm H1
  obtain ⟨L, hL⟩ : ∃ L, l.length = L := ⟨_, rfl⟩
  have HL := Lib.hid hL
  rw [hL] at hl ⊢
  clear hL
  go_upto_block 0 with (fail)
  generalize hbl : W2.heap.size = bl at H2 ⊢
  obtain ⟨bh, hbh⟩ : ∃ bh, bl + 1 = bh := ⟨_, rfl⟩
  rw [hbh] at H2 ⊢
  clear hbl hbh hmk1 hmk2
  go_cut [] (fun wx => ∃ wz, wz = wx ∧ Hid (∃ j, j ≤ 300 ∧ KeepI W C m bl bh j wz))
  case first =>
    as_aux_lemma =>
      go_wp2_with (fail)
      go_loopw [46] (fun v wr => ∃ j : Nat, v = .int .i64 (j : Int) ∧ j ≤ L ∧ j ≤ 300 ∧ Hid' (KeepI W C m bl bh j wr)) (fun v _ => L - (intOf v).toNat)
      case atStart => exact ⟨0, rfl, Nat.zero_le _, Nat.zero_le _, H2.out⟩
      case round =>
        clear H2
        obtain ⟨j, rfl, hj, hj3, hZ⟩ := hrel
        have HZ0 := Lib.hid hZ.out
        clear hZ
        by_cases hlt : j < L
        · have hltI : (j : Int) < (L : Int) := by omega
          by_cases h300 : j < 300
          · have h300' : (j : Int) < 300 := by omega
            obtain ⟨b, off, rfl, hc⟩ := HA.out (by rw [HL.out]; omega)
            obtain ⟨x, hx⟩ : ∃ x, l[j]'(by rw [HL.out]; exact hlt) = x := ⟨_, rfl⟩
            have hc0 := hc j (by rw [HL.out]; exact hlt)
            rw [hx] at hc0
            clear hc hx
            obtain ⟨M, nb, l, hf, lf, n1, n2, hks, hrest⟩ := HZ0.out
            have hop := hc0.below hks.bw
            obtain ⟨kd, k, v, d⟩ := x
            obtain ⟨c0, c1, c2, c3, _, hkr, hvr⟩ := hop
            have hb9 : Below wr.heap.size wr (wr.alloc (.cells #[.int .i64 kd, .int .i64 k, .int .i64 v, .bool d] 33)) := (Below.refl _ wr).alloc (Nat.le_refl _) _
            have HK := Lib.hid (hks.below hb9)
            have HB := Lib.hid (show Beside M bl bh (wr.alloc (.cells #[.int .i64 kd, .int .i64 k, .int .i64 v, .bool d] 33)) wr.heap.size (.cells #[.int .i64 kd, .int .i64 k, .int .i64 v, .bool d] 33) from ⟨heap_alloc_new _ _, fun e => by have := (hks.mb _ e).2.1; omega, fun e => by have := hks.im.lt; omega, fun e => by have := hks.ih.lt; omega⟩)
            have HR := Lib.hid hrest
            have HN := Lib.hid hks.cs.nodup
            have HV := Lib.hid (And.intro hkr hvr)
            have HKEY := Lib.hid (keyK k hkr)
            clear hc0 hks hrest hb9 hkr hvr HZ0 HA
            go_upto_block 2 with (fail)
            clear c0 c1 c2 c3
            go_cut [] (fun wx => ∃ wz, wz = wx ∧ Hid (KeepI W C m bl bh (j + 1) wz))
            case first =>
              by_cases h1 : kd = 1
              · subst h1
                as_aux_lemma =>
                  rcases key_split' k l with hno | ⟨p, e, q, rfl, hek⟩
                  · have HE := Lib.hid hno
                    clear hno
                    rcases put_ways (m : Int) l with hw | hw
                    · have HW := Lib.hid hw
                      clear hw
                      have HG := Lib.hid (getNoneI HK.out.cs k HKEY.out HE.out)
                      go_wp2_with (fail)
                      refine HG.out.mono ?_
                      rintro y w1 ⟨rfl, s1, t1⟩
                      have K1 := HK.out.call s1 t1
                      have B1 := HB.out.call t1
                      obtain ⟨d1, d2, d3⟩ := four' B1.1
                      have HP := Lib.hid (putNew s1 k HKEY.out HE.out hm2 HR.out.2.2.1 HW.out (by have := HR.out.2.1; unfold maxLen; omega) v d)
                      have H1 := Lib.hid (And.intro K1 B1)
                      clear s1 t1 K1 B1 HG
                      go_wp2_with (fail)
                      refine HP.out.mono ?_
                      rintro y w2 ⟨rfl, M2, l2, s2, t2, hl2, ha2, hb2, hc2⟩
                      have HL := Lib.hid (And.intro hl2 (And.intro ha2 (And.intro hb2 hc2)))
                      have K2 := H1.out.1.call s2 t2
                      have B2 := H1.out.2.call t2
                      obtain ⟨d1', d2', d3'⟩ := four' B2.1
                      obtain ⟨w3, r3, i3, t3, z3⟩ := K2.ih.put (by have := HR.out.2.2.2.2.2; unfold maxLen; omega) k 0 (wfK k HV.out.1) (by decide)
                      have K3 := K2.putH i3 t3
                      have B3 := B2.tch t3 (.inr rfl)
                      obtain ⟨f1, f2, f3⟩ := four' B3.1
                      obtain ⟨w4, r4', i4, t4, z4⟩ := K3.im.put (by have := HR.out.2.2.2.2.1; unfold maxLen; omega) k v (wfK k HV.out.1) (wfK v HV.out.2)
                      have K4 := K3.putL i4 t4
                      have B4 := B3.tch t4 (.inl rfl)
                      obtain ⟨g1, g2, g3⟩ := four' B4.1
                      have lk := K4.ih.look k (wfK k HV.out.1)
                      rw [upd1_same] at lk
                      cases d with
                      | false =>
                        have HZ := Lib.hid (And.intro K4 trivial)
                        clear K2 B2 K3 B3 K4 B4 s2 t2 i3 t3 z3 i4 t4 z4 HP H1 hl2 ha2 hb2 hc2
                        go_wp2_with (fail)
                        go_meet
                        obtain ⟨r1, r2, r3, r4, r5, r6⟩ := HR.out
                        exact ⟨_, rfl, Lib.hid ⟨_, _, l2, _, _, _, _, HZ.out.1, r1.step (e' := ⟨k, v, false, 0⟩) rfl (by rw [upd1_same]; rfl) (fun x hx => by rw [upd1_other _ _ _ _ hx]) (upd1_same _ _ _) (fun x hx => upd1_other _ _ _ _ hx) (fun y hy => (HL.out.2.1 y hy).elim .inl (fun h => .inr ⟨h, HE.out y h⟩)) HL.out.2.2.1 (fun y hy _ => HL.out.2.2.2 y hy), by omega, HL.out.1, fun y hy => by
                          rcases HL.out.2.1 y hy with h | h
                          · rw [h]; exact Nat.zero_le _
                          · exact Nat.le_succ_of_le (r4 y h), by omega, by omega⟩⟩
                      | true =>
                        obtain ⟨w5, r5', i5, t5, z5⟩ := K4.ih.put (by have := HR.out.2.2.2.2.2; unfold maxLen; omega) k 1 (wfK k HV.out.1) (by decide)
                        have K5 := K4.putH i5 t5
                        have HZ := Lib.hid (And.intro K5 trivial)
                        clear K2 B2 K3 B3 K4 B4 s2 t2 i3 t3 z3 i4 t4 z4 HP H1 hl2 ha2 hb2 hc2 i5 t5 z5 K5
                        go_wp2_with (fail)
                        go_meet
                        obtain ⟨r1, r2, r3, r4, r5, r6⟩ := HR.out
                        exact ⟨_, rfl, Lib.hid ⟨_, _, l2, _, _, _, _, HZ.out.1, r1.step (e' := ⟨k, v, true, 0⟩) rfl (by rw [upd1_same]; rfl) (fun x hx => by rw [upd1_other _ _ _ _ hx, upd1_other _ _ _ _ hx]) (upd1_same _ _ _) (fun x hx => upd1_other _ _ _ _ hx) (fun y hy => (HL.out.2.1 y hy).elim .inl (fun h => .inr ⟨h, HE.out y h⟩)) HL.out.2.2.1 (fun y hy _ => HL.out.2.2.2 y hy), by omega, HL.out.1, fun y hy => by
                          rcases HL.out.2.1 y hy with h | h
                          · rw [h]; exact Nat.zero_le _
                          · exact Nat.le_succ_of_le (r4 y h), by omega, by omega⟩⟩
                    · have HW := Lib.hid hw
                      clear hw
                      have HG := Lib.hid (getNoneI HK.out.cs k HKEY.out HE.out)
                      go_wp2_with (fail)
                      refine HG.out.mono ?_
                      rintro y w1 ⟨rfl, s1, t1⟩
                      have K1 := HK.out.call s1 t1
                      have B1 := HB.out.call t1
                      obtain ⟨d1, d2, d3⟩ := four' B1.1
                      have HP := Lib.hid (putFullI s1 k HKEY.out HE.out HW.out.1 HW.out.2 v d)
                      have hln : l.length = m := by have := HW.out.1; have := HR.out.2.2.1; omega
                      have H1 := Lib.hid (And.intro K1 B1)
                      clear s1 t1 K1 B1 HG
                      go_wp2_with (fail)
                      refine HP.out.mono ?_
                      rintro y w2 ⟨rfl, s2, t2⟩
                      have K2 := H1.out.1.call s2 t2
                      have LE := lenI s2
                      rw [hln] at LE
                      have HLE := Lib.hid LE
                      have HZ := Lib.hid K2
                      clear K2 s2 t2 LE H1 HP hln
                      go_wp2_with (refine HLE.out.mono ?_; rintro y w9 ⟨rfl, rfl⟩)
                      go_wp2_with (fail)
                      go_meet
                      obtain ⟨r1, r2, r3, r4, r5, r6⟩ := HR.out
                      exact ⟨_, rfl, Lib.hid ⟨_, _, _, _, _, _, _, HZ.out, r1, by omega, r3, fun e he => Nat.le_succ_of_le (r4 e he), by omega, by omega⟩⟩
                  · have HE := Lib.hid hek
                    clear hek
                    have HG := Lib.hid (getSomeI HK.out.cs k HKEY.out HE.out)
                    go_wp2_with (fail)
                    refine HG.out.mono ?_
                    rintro y w1 ⟨rfl, s1, t1⟩
                    have K1 := HK.out.call s1 t1
                    have B1 := HB.out.call t1
                    obtain ⟨d1, d2, d3⟩ := four' B1.1
                    have HP := Lib.hid (putThereI (p := p ++ q) (q := []) s1 k HKEY.out HE.out v d)
                    have H1 := Lib.hid (And.intro K1 B1)
                    clear s1 t1 K1 B1 HG
                    go_wp2_with (fail)
                    refine HP.out.mono ?_
                    rintro y w2 ⟨rfl, s2, t2⟩
                    have K2 := H1.out.1.call s2 t2
                    have B2 := H1.out.2.call t2
                    obtain ⟨d1', d2', d3'⟩ := four' B2.1
                    obtain ⟨w3, r3, i3, t3, z3⟩ := K2.im.put (by have := HR.out.2.2.2.2.1; unfold maxLen; omega) k v (wfK k HV.out.1) (wfK v HV.out.2)
                    have K3 := K2.putL i3 t3
                    have B3 := B2.tch t3 (.inl rfl)
                    obtain ⟨f1, f2, f3⟩ := four' B3.1
                    have lk := K3.ih.look k (wfK k HV.out.1)
                    obtain ⟨z, hz⟩ : ∃ z, hf k = z := ⟨_, rfl⟩
                    rw [hz] at lk
                    have hzw : z = wt e := by rw [← hz, ← HE.out]; exact (HR.out.1.1 e (by simp)).1
                    have hpe : e.p ≤ 300 := Nat.le_trans (HR.out.2.2.2.1 e (by simp)) (by omega)
                    cases d with
                    | false =>
                      have HZ := Lib.hid (And.intro K3 (And.intro hz hzw))
                      clear K2 B2 K3 B3 s2 t2 i3 t3 z3 hz hzw hpe HP H1
                      go_wp2_with (fail)
                      go_meet
                      obtain ⟨r1, r2, r3, r4, r5, r6⟩ := HR.out
                      exact ⟨_, rfl, Lib.hid ⟨_, _, p ++ q ++ [] ++ [⟨k, v, e.d, e.p⟩], _, _, _, _, (by have := HZ.out.1; rwa [Bool.or_false] at this), r1.swap HN.out HE.out (e' := ⟨k, v, e.d, e.p⟩) rfl (by show hf k = _; rw [HZ.out.2.1, HZ.out.2.2]; rfl) (fun _ _ => rfl) (upd1_same _ _ _) (fun x hx => upd1_other _ _ _ _ hx) (fun y => by simp [or_comm, or_left_comm, or_assoc]), by omega, by simp at r3 ⊢; omega, fun y hy => by
                        simp at hy
                        rcases hy with h | h | h
                        · exact Nat.le_succ_of_le (r4 y (by simp [h]))
                        · exact Nat.le_succ_of_le (r4 y (by simp [h]))
                        · rw [h]; exact Nat.le_succ_of_le (r4 e (by simp)), by omega, by omega⟩⟩
                    | true =>
                      cases hed : e.d with
                      | true =>
                        have hzn : z = ((2 * e.p + 1 : Nat) : Int) := by rw [hzw]; unfold wt; rw [hed, if_pos rfl]; omega
                        have hq : z.tmod 2 = 1 := by rw [hzn, show (2 : Int) = ((2 : Nat) : Int) from rfl, ← Int.ofNat_tmod]; omega
                        have HZ := Lib.hid (And.intro K3 (And.intro hz (And.intro hzw hed)))
                        clear K2 B2 K3 B3 s2 t2 i3 t3 z3 hz hzw hzn hpe HP H1 hed
                        go_wp2_with (fail)
                        go_meet
                        obtain ⟨r1, r2, r3, r4, r5, r6⟩ := HR.out
                        exact ⟨_, rfl, Lib.hid ⟨_, _, p ++ q ++ [] ++ [⟨k, v, true, e.p⟩], _, _, _, _, (by have := HZ.out.1; rwa [Bool.or_true] at this), r1.swap HN.out HE.out (e' := ⟨k, v, true, e.p⟩) rfl (by show hf k = _; rw [HZ.out.2.1, HZ.out.2.2.1]; unfold wt; rw [HZ.out.2.2.2]) (fun _ _ => rfl) (upd1_same _ _ _) (fun x hx => upd1_other _ _ _ _ hx) (fun y => by simp [or_comm, or_left_comm, or_assoc]), by omega, by simp at r3 ⊢; omega, fun y hy => by
                          simp at hy
                          rcases hy with h | h | h
                          · exact Nat.le_succ_of_le (r4 y (by simp [h]))
                          · exact Nat.le_succ_of_le (r4 y (by simp [h]))
                          · rw [h]; exact Nat.le_succ_of_le (r4 e (by simp)), by omega, by omega⟩⟩
                      | false =>
                        have hzn : z = ((2 * e.p : Nat) : Int) := by rw [hzw]; unfold wt; rw [hed]; simp
                        have hq : z.tmod 2 = 0 := by rw [hzn, show (2 : Int) = ((2 : Nat) : Int) from rfl, ← Int.ofNat_tmod]; omega
                        have hz0 : 0 ≤ z := by omega
                        have hz1 : z ≤ 1000 := by omega
                        obtain ⟨w4, r4', i4, t4, z4⟩ := K3.ih.put (by have := HR.out.2.2.2.2.2; unfold maxLen; omega) k (z + 1) (wfK k HV.out.1) (wfK _ (by omega))
                        have K4 := K3.putH i4 t4
                        have HZ := Lib.hid (And.intro K4 (And.intro hz (And.intro hzn hed)))
                        clear K2 B2 K3 B3 s2 t2 i3 t3 z3 hz hzw hzn hpe HP H1 hed i4 t4 z4 K4
                        go_wp2_with (fail)
                        go_meet
                        obtain ⟨r1, r2, r3, r4, r5, r6⟩ := HR.out
                        exact ⟨_, rfl, Lib.hid ⟨_, _, p ++ q ++ [] ++ [⟨k, v, true, e.p⟩], _, _, _, _, (by have := HZ.out.1; rwa [Bool.or_true] at this), r1.swap HN.out HE.out (e' := ⟨k, v, true, e.p⟩) rfl (by rw [upd1_same, HZ.out.2.2.1]; unfold wt; simp) (fun x hx => upd1_other _ _ _ _ hx) (upd1_same _ _ _) (fun x hx => upd1_other _ _ _ _ hx) (fun y => by simp [or_comm, or_left_comm, or_assoc]), by omega, by simp at r3 ⊢; omega, fun y hy => by
                          simp at hy
                          rcases hy with h | h | h
                          · exact Nat.le_succ_of_le (r4 y (by simp [h]))
                          · exact Nat.le_succ_of_le (r4 y (by simp [h]))
                          · rw [h]; exact Nat.le_succ_of_le (r4 e (by simp)), by omega, by omega⟩⟩
              · by_cases h3 : kd = 3
                · subst h3
                  clear h1
                  as_aux_lemma =>
                    rcases key_split' k l with hno | ⟨p, e, q, rfl, hek⟩
                    · have HE := Lib.hid hno
                      clear hno
                      have HG := Lib.hid (nonePin HK.out.cs k HKEY.out HE.out)
                      go_wp2_with (fail)
                      refine HG.out.mono ?_
                      rintro y w1 ⟨rfl, s1, t1⟩
                      have HZ := Lib.hid (HK.out.call s1 t1)
                      clear s1 t1 HG
                      go_wp2_with (fail)
                      go_meet
                      obtain ⟨r1, r2, r3, r4, r5, r6⟩ := HR.out
                      exact ⟨_, rfl, Lib.hid ⟨_, _, _, _, _, _, _, HZ.out, r1, by omega, r3, fun e he => Nat.le_succ_of_le (r4 e he), by omega, by omega⟩⟩
                    · have HE := Lib.hid hek
                      clear hek
                      have HG := Lib.hid (therePin HK.out.cs k HKEY.out HE.out (Nat.le_trans (HR.out.2.2.2.1 e (by simp)) (by omega)))
                      have hzw : hf k = wt e := by rw [← HE.out]; exact (HR.out.1.1 e (by simp)).1
                      have hlv : lf k = e.v := by rw [← HE.out]; exact (HR.out.1.1 e (by simp)).2
                      have hpe : e.p ≤ 300 := Nat.le_trans (HR.out.2.2.2.1 e (by simp)) (by omega)
                      go_wp2_with (fail)
                      refine HG.out.mono ?_
                      rintro y w1 ⟨rfl, s1, t1⟩
                      have K1 := HK.out.call s1 t1
                      have B1 := HB.out.call t1
                      obtain ⟨d1, d2, d3⟩ := four' B1.1
                      have lk := K1.ih.look k (wfK k HV.out.1)
                      obtain ⟨z, hz⟩ : ∃ z, hf k = z := ⟨_, rfl⟩
                      rw [hz] at lk
                      have hwz : wt (⟨e.k, e.v, e.d, e.p + 1⟩) = z + 2 := by rw [← hz, hzw]; unfold wt; dsimp only; split <;> omega
                      have hzz : z = wt e := by rw [← hz, hzw]
                      have hw0 : 0 ≤ wt e ∧ wt e ≤ 601 := by unfold wt; split <;> omega
                      have hw1 : -2 ≤ z - 2 := by omega
                      have hz0 : 0 ≤ z := by omega
                      have hz1 : z ≤ 601 := by omega
                      obtain ⟨w2, r2', i2, t2, z2⟩ := K1.ih.put (by have := HR.out.2.2.2.2.2; unfold maxLen; omega) k (z + 2) (wfK k HV.out.1) (wfK _ (by omega))
                      have HZ := Lib.hid (And.intro (K1.putH i2 t2) (And.intro hwz hlv))
                      clear s1 t1 K1 B1 HG hz hzw hlv hpe hwz hzz hw0 hw1 i2 t2 z2
                      go_wp2_with (fail)
                      go_meet
                      obtain ⟨r1, r2, r3, r4, r5, r6⟩ := HR.out
                      exact ⟨_, rfl, Lib.hid ⟨_, _, p ++ ⟨e.k, e.v, e.d, e.p + 1⟩ :: q, _, _, _, _, HZ.out.1, r1.swap HN.out HE.out (e' := ⟨e.k, e.v, e.d, e.p + 1⟩) HE.out (by rw [upd1_same, HZ.out.2.1]) (fun x hx => upd1_other _ _ _ _ hx) HZ.out.2.2 (fun _ _ => rfl) (fun y => by simp [or_left_comm]), by omega, by simp at r3 ⊢; omega, fun y hy => by
                        rcases mem_mid (e := e) hy with rfl | h
                        · have := r4 e (by simp)
                          dsimp only
                          omega
                        · exact Nat.le_succ_of_le (r4 y (mem_in h)), by omega, by omega⟩⟩
                · by_cases h4 : kd = 4
                  · subst h4
                    clear h1 h3
                    as_aux_lemma =>
                      rcases key_split' k l with hno | ⟨p, e, q, rfl, hek⟩
                      · have HE := Lib.hid hno
                        clear hno
                        have HG := Lib.hid (noneUnpin HK.out.cs k HKEY.out HE.out)
                        go_wp2_with (fail)
                        refine HG.out.mono ?_
                        rintro y w1 ⟨rfl, s1, t1⟩
                        have HZ := Lib.hid (HK.out.call s1 t1)
                        clear s1 t1 HG
                        go_wp2_with (fail)
                        go_meet
                        obtain ⟨r1, r2, r3, r4, r5, r6⟩ := HR.out
                        exact ⟨_, rfl, Lib.hid ⟨_, _, _, _, _, _, _, HZ.out, r1, by omega, r3, fun e he => Nat.le_succ_of_le (r4 e he), by omega, by omega⟩⟩
                      · have HE := Lib.hid hek
                        clear hek
                        by_cases h0 : e.p = 0
                        · have HG := Lib.hid (thereUnpin0 HK.out.cs k HKEY.out HE.out h0)
                          go_wp2_with (fail)
                          refine HG.out.mono ?_
                          rintro y w1 ⟨rfl, s1, t1⟩
                          have HZ := Lib.hid (HK.out.call s1 t1)
                          clear s1 t1 HG
                          go_wp2_with (fail)
                          go_meet
                          obtain ⟨r1, r2, r3, r4, r5, r6⟩ := HR.out
                          exact ⟨_, rfl, Lib.hid ⟨_, _, _, _, _, _, _, HZ.out, r1, by omega, r3, fun e he => Nat.le_succ_of_le (r4 e he), by omega, by omega⟩⟩
                        · have HG := Lib.hid (thereUnpin1 HK.out.cs k HKEY.out HE.out h0 (Nat.le_trans (HR.out.2.2.2.1 e (by simp)) (by omega)))
                          have hzw : hf k = wt e := by rw [← HE.out]; exact (HR.out.1.1 e (by simp)).1
                          have hlv : lf k = e.v := by rw [← HE.out]; exact (HR.out.1.1 e (by simp)).2
                          have hpe : e.p ≤ 300 := Nat.le_trans (HR.out.2.2.2.1 e (by simp)) (by omega)
                          go_wp2_with (fail)
                          refine HG.out.mono ?_
                          rintro y w1 ⟨rfl, s1, t1⟩
                          have K1 := HK.out.call s1 t1
                          have B1 := HB.out.call t1
                          obtain ⟨d1, d2, d3⟩ := four' B1.1
                          have lk := K1.ih.look k (wfK k HV.out.1)
                          obtain ⟨z, hz⟩ : ∃ z, hf k = z := ⟨_, rfl⟩
                          rw [hz] at lk
                          have hwz : wt (⟨e.k, e.v, e.d, e.p - 1⟩) = z - 2 := by rw [← hz, hzw]; unfold wt; dsimp only; split <;> omega
                          have hzz : z = wt e := by rw [← hz, hzw]
                          have hw0 : 0 ≤ wt e ∧ wt e ≤ 601 := by unfold wt; split <;> omega
                          have hw1 : -2 ≤ z - 2 := by omega
                          have hz0 : 0 ≤ z := by omega
                          have hz1 : z ≤ 601 := by omega
                          obtain ⟨w2, r2', i2, t2, z2⟩ := K1.ih.put (by have := HR.out.2.2.2.2.2; unfold maxLen; omega) k (z - 2) (wfK k HV.out.1) (wfK _ (by omega))
                          have HZ := Lib.hid (And.intro (K1.putH i2 t2) (And.intro hwz hlv))
                          clear s1 t1 K1 B1 HG hz hzw hlv hpe hwz hzz hw0 hw1 i2 t2 z2
                          go_wp2_with (fail)
                          go_meet
                          obtain ⟨r1, r2, r3, r4, r5, r6⟩ := HR.out
                          exact ⟨_, rfl, Lib.hid ⟨_, _, p ++ ⟨e.k, e.v, e.d, e.p - 1⟩ :: q, _, _, _, _, HZ.out.1, r1.swap HN.out HE.out (e' := ⟨e.k, e.v, e.d, e.p - 1⟩) HE.out (by rw [upd1_same, HZ.out.2.1]) (fun x hx => upd1_other _ _ _ _ hx) HZ.out.2.2 (fun _ _ => rfl) (fun y => by simp [or_left_comm]), by omega, by simp at r3 ⊢; omega, fun y hy => by
                            rcases mem_mid (e := e) hy with rfl | h
                            · have := r4 e (by simp)
                              dsimp only
                              omega
                            · exact Nat.le_succ_of_le (r4 y (mem_in h)), by omega, by omega⟩⟩
                  · by_cases h5 : kd = 5
                    · subst h5
                      clear h1 h3 h4
                      as_aux_lemma =>
                        rcases key_split' k l with hno | ⟨p, e, q, rfl, hek⟩
                        · have HE := Lib.hid hno
                          clear hno
                          have HG := Lib.hid (noneClean HK.out.cs k HKEY.out HE.out)
                          go_wp2_with (fail)
                          refine HG.out.mono ?_
                          rintro y w1 ⟨rfl, s1, t1⟩
                          have HZ := Lib.hid (HK.out.call s1 t1)
                          clear s1 t1 HG
                          go_wp2_with (fail)
                          go_meet
                          obtain ⟨r1, r2, r3, r4, r5, r6⟩ := HR.out
                          exact ⟨_, rfl, Lib.hid ⟨_, _, _, _, _, _, _, HZ.out, r1, by omega, r3, fun e he => Nat.le_succ_of_le (r4 e he), by omega, by omega⟩⟩
                        · have HE := Lib.hid hek
                          clear hek
                          cases h0 : e.d with
                          | false =>
                            have HG := Lib.hid (thereClean0 HK.out.cs k HKEY.out HE.out h0)
                            go_wp2_with (fail)
                            refine HG.out.mono ?_
                            rintro y w1 ⟨rfl, s1, t1⟩
                            have HZ := Lib.hid (HK.out.call s1 t1)
                            clear s1 t1 HG
                            go_wp2_with (fail)
                            go_meet
                            obtain ⟨r1, r2, r3, r4, r5, r6⟩ := HR.out
                            exact ⟨_, rfl, Lib.hid ⟨_, _, _, _, _, _, _, HZ.out, r1, by omega, r3, fun e he => Nat.le_succ_of_le (r4 e he), by omega, by omega⟩⟩
                          | true =>
                            have HG := Lib.hid (thereClean1 HK.out.cs k HKEY.out HE.out h0)
                            have hzw : hf k = wt e := by rw [← HE.out]; exact (HR.out.1.1 e (by simp)).1
                            have hlv : lf k = e.v := by rw [← HE.out]; exact (HR.out.1.1 e (by simp)).2
                            have hpe : e.p ≤ 300 := Nat.le_trans (HR.out.2.2.2.1 e (by simp)) (by omega)
                            go_wp2_with (fail)
                            refine HG.out.mono ?_
                            rintro y w1 ⟨rfl, s1, t1⟩
                            have K1 := HK.out.call s1 t1
                            have B1 := HB.out.call t1
                            obtain ⟨d1, d2, d3⟩ := four' B1.1
                            have lk := K1.ih.look k (wfK k HV.out.1)
                            obtain ⟨z, hz⟩ : ∃ z, hf k = z := ⟨_, rfl⟩
                            rw [hz] at lk
                            have hwz : wt (⟨e.k, e.v, false, e.p⟩) = z - 1 := by rw [← hz, hzw]; unfold wt; rw [h0]; simp
                            have hzz : z = wt e := by rw [← hz, hzw]
                            have hw0 : 0 ≤ wt e ∧ wt e ≤ 601 := by unfold wt; split <;> omega
                            have hw1 : -2 ≤ z - 2 := by omega
                            have hz0 : 0 ≤ z := by omega
                            have hz1 : z ≤ 601 := by omega
                            obtain ⟨w2, r2', i2, t2, z2⟩ := K1.ih.put (by have := HR.out.2.2.2.2.2; unfold maxLen; omega) k (z - 1) (wfK k HV.out.1) (wfK _ (by omega))
                            have HZ := Lib.hid (And.intro (K1.putH i2 t2) (And.intro hwz hlv))
                            clear s1 t1 K1 B1 HG hz hzw hlv hpe hwz hzz hw0 hw1 i2 t2 z2
                            go_wp2_with (fail)
                            go_meet
                            obtain ⟨r1, r2, r3, r4, r5, r6⟩ := HR.out
                            exact ⟨_, rfl, Lib.hid ⟨_, _, p ++ ⟨e.k, e.v, false, e.p⟩ :: q, _, _, _, _, HZ.out.1, r1.swap HN.out HE.out (e' := ⟨e.k, e.v, false, e.p⟩) HE.out (by rw [upd1_same, HZ.out.2.1]) (fun x hx => upd1_other _ _ _ _ hx) HZ.out.2.2 (fun _ _ => rfl) (fun y => by simp [or_left_comm]), by omega, by simp at r3 ⊢; omega, fun y hy => by
                              rcases mem_mid (e := e) hy with rfl | h
                              · have := r4 e (by simp)
                                dsimp only
                                omega
                              · exact Nat.le_succ_of_le (r4 y (mem_in h)), by omega, by omega⟩⟩
                    · as_aux_lemma =>
                        have k1 : (kd == 1) = false := by rw [beq_eq_false_iff_ne]; exact h1
                        have k3 : (kd == 3) = false := by rw [beq_eq_false_iff_ne]; exact h3
                        have k4 : (kd == 4) = false := by rw [beq_eq_false_iff_ne]; exact h4
                        have k5 : (kd == 5) = false := by rw [beq_eq_false_iff_ne]; exact h5
                        clear h1 h3 h4 h5
                        go_wp2_with (fail)
                        go_meet
                        obtain ⟨r1, r2, r3, r4, r5, r6⟩ := HR.out
                        exact ⟨_, rfl, Lib.hid ⟨_, _, _, _, _, _, _, HK.out, r1, by omega, r3, fun e he => Nat.le_succ_of_le (r4 e he), by omega, by omega⟩⟩
            case rest =>
              obtain ⟨wx, rfl, HC⟩ := hcut
              obtain ⟨M2, nb2, l2, hf2, lf2, a1, a2, hks2, hrest2⟩ := HC.out
              have HR2 := Lib.hid hrest2
              have hmk := run_makeMap (P := Try.prog) 47 wx
              have K3 := hks2.below ((Below.refl _ _).alloc (Nat.le_refl _) (.map #[] 0))
              have BM3 := BoolM.made wx
              have HF := Lib.hid (And.intro (show ¬ M2 wx.heap.size from fun e => by have := (hks2.mb _ e).2.1; omega) (And.intro (show wx.heap.size ≠ bl from fun e => by have := hks2.im.lt; omega) (And.intro (show wx.heap.size ≠ bh from fun e => by have := hks2.ih.lt; omega) hks2.bw.size)))
              have AK := Lib.hid (allKeys K3.cs)
              have H3 := Lib.hid (And.intro K3 BM3)
              clear hks2 hrest2 K3 BM3 HC HN HR HK HB
              go_wp2_with (fail)
              refine AK.out.mono ?_
              rintro y w5 ⟨q5, c5, rfl, o5, b5⟩
              have K5 := H3.out.1.below b5
              have BM5 := H3.out.2.keep (b5.block wx.heap.size (by simp))
              have hq5 : ∀ b off, q5 = some ⟨b, off, none⟩ → b ≠ wx.heap.size := fun b off e hb => by
                have hlt := o5.1.lt
                rcases o5.1.2 with ⟨e1, _⟩ | ⟨g, cap, cur, e1, _⟩
                · injection e1 with e2
                  rw [e] at e2
                  cases e2
                · injection e1 with e2
                  have h9 := (hlt g (by rw [e2]; rfl)).1
                  rw [e] at e2
                  injection e2 with e2
                  injection e2 with e2
                  rw [World.size_alloc] at h9
                  omega
              have ND := K5.cs.nodup
              have WF := K5.cs.wf
              obtain ⟨ks, hks⟩ : ∃ ks, l2.map (·.k) = ks := ⟨_, rfl⟩
              rw [hks] at o5 ND ⊢
              have HO5 := Lib.hid (And.intro o5.holds (And.intro hq5 (And.intro ND (And.intro (show ∀ x ∈ ks, (Lit.int .i64 x).wf = true from fun x hx => by rw [← hks] at hx; obtain ⟨e, he, rfl⟩ := List.mem_map.1 hx; exact WF e he) (And.intro hks (show ks.length ≤ 20 by rw [← hks, List.length_map]; exact Nat.le_trans HR2.out.2.2.1 hm2))))))
              have hc5 : ks.length ≤ c5 := o5.2.2
              have hk20 : (ks.length : Int) ≤ 20 := by have := HO5.out.2.2.2.2.2; omega
              have H5 := Lib.hid (And.intro K5 BM5)
              clear o5 b5 K5 BM5 hq5 ND WF hks AK H3 hmk
              generalize hbt : wx.heap.size = bt at H5 HO5 HF ⊢
              clear hbt
              go_wp2_with (fail)
              go_loopw [147] (fun v wr2 => ∃ t : Nat, v = .int .i64 (t : Int) ∧ t ≤ ks.length ∧ Hid' (KS W C m bl bh wr2 M2 nb2 l2 hf2 lf2 a1 a2 ∧ BoolM wr2 bt (ks.take t) ∧ HoldsI wr2 q5 ks)) (fun v _ => ks.length - (intOf v).toNat)
              case atStart => exact ⟨0, rfl, Nat.zero_le _, ⟨H5.out.1, by rw [List.take_zero]; exact H5.out.2, HO5.out.1⟩⟩
              case round =>
                clear H5
                obtain ⟨t, rfl, ht, hT⟩ := hrel
                have HT := Lib.hid hT.out
                clear hT
                by_cases htl : t < ks.length
                · obtain ⟨b2, off2, rfl, hcell⟩ := HT.out.2.2 (by omega)
                  have c2c := hcell t htl
                  obtain ⟨y, hy⟩ : ∃ y, ks.getD t 0 = y := ⟨_, rfl⟩
                  rw [hy] at c2c
                  have hyk : ks[t] = y := by rw [← hy, List.getD_eq_getElem?_getD, List.getElem?_eq_getElem htl]; rfl
                  have hyw : (Lit.int .i64 y).wf = true := HO5.out.2.2.2.1 y (by rw [← hyk]; exact List.getElem_mem htl)
                  have hynew : y ∉ ks.take t := fun hm => by
                    obtain ⟨i, hi, e⟩ := List.mem_iff_getElem.1 hm
                    rw [List.length_take] at hi
                    rw [List.getElem_take, ← hyk] at e
                    have := (List.getElem_inj HO5.out.2.2.1).1 e
                    omega
                  have htk : ks.take (t + 1) = ks.take t ++ [y] := by rw [List.take_add_one, List.getElem?_eq_getElem htl, hyk]; rfl
                  obtain ⟨w6, r6, i6, t6, z6⟩ := HT.out.2.1.put (by rw [List.length_take]; unfold maxLen; have := HO5.out.2.2.2.2.2; omega) y hyw hynew
                  have K6 : KS W C m bl bh w6 M2 nb2 l2 hf2 lf2 a1 a2 := HT.out.1.other t6 HF.out.1 HF.out.2.1 HF.out.2.2.1 HF.out.2.2.2
                  have h6 := holdsI_tch HT.out.2.2 t6 (fun b off e hb => HO5.out.2.1 b off e hb)
                  have H6 := Lib.hid (And.intro K6 (And.intro i6 (And.intro h6 htk)))
                  have htI : (t : Int) < (ks.length : Int) := by omega
                  have htc : (t : Int) < (c5 : Int) := by omega
                  have HLT := Lib.hid htl
                  clear hcell hy hyk hyw hynew htk i6 t6 z6 K6 h6 htl ht
                  go_wp2_with (fail)
                  go_round
                  case rel => exact ⟨t + 1, by go_num, Nat.succ_le_of_lt HLT.out, ⟨H6.out.1, by rw [H6.out.2.2.2]; exact H6.out.2.1, H6.out.2.2.1⟩⟩
                  case measure => have := HLT.out; simp [intOf]; omega
                · obtain rfl : t = ks.length := by omega
                  obtain ⟨wA, rfl⟩ : ∃ wA, wA = wr := ⟨wr, rfl⟩
                  obtain ⟨D, hown, hDm, hDat⟩ := HT.out.1.ih
                  have HDa := Lib.hid hDat
                  have HBM := Lib.hid (show BoolM wA bt ks by have := HT.out.2.1; rwa [List.take_length] at this)
                  clear hDm hDat ht htl
                  go_wp2_with (first | (at_range; refine wpList_range_own _ rfl _ 42 rfl 3 3 KI Try.underlying42 _ bh a2 D rfl hown ?_; intro w0 hrg0 hg0 hs0) | go_in)
                  go_frame
                  have HB0 := Lib.hid (show Below wA.heap.size wA w0 from ⟨hg0.os, hg0.tape, hg0.output, hg0.size, fun k hk => hg0.block k hk (by simp)⟩)
                  have hrgH := Lib.hid hrg0
                  clear hown hg0 hs0 hrg0
                  go_loopw [] (fun wr3 => ∃ (left : Lit → Bool) (cnt : Nat), wr3.ranges Try.prog 3 (plainElem Try.prog 3) bh wA.heap.size a2 D left cnt ∧ Hid' (Below wA.heap.size wA wr3)) (fun wr3 => wr3.rangeLeft bh wA.heap.size)
                  case atStart => exact ⟨_, _, hrgH.out, HB0.out⟩
                  case round =>
                    clear HB0 hrgH
                    obtain ⟨left, cnt, hrg, hB3⟩ := hrel
                    have HB3 := Lib.hid hB3.out
                    clear hB3
                    go_wp2_with (first
                      | (at_next; refine wpList_next_ranges_ii _ rfl _ rfl 3 3 .i64 .i64 KI Try.underlying3 Try.underlying3 bh wA.heap.size a2 _ _ _ rfl hrg ?_ ?_)
                      | go_in)
                    · intro hc0 hl0
                      have K7 := HT.out.1.below HB3.out
                      have BM7 := HBM.out.keep (HB3.out.block bt HBM.out.lt)
                      have LE := lenI K7.cs
                      have hl2 : l2.length = ks.length := by rw [← HO5.out.2.2.2.2.1, List.length_map]
                      rw [hl2] at LE
                      have hgt : ¬ (m : Int) < (ks.length : Int) := by have := HR2.out.2.2.1; omega
                      have hBL := BM7.len
                      have HLE := Lib.hid LE
                      have HZ := Lib.hid K7
                      clear K7 BM7 LE hl2 hc0 hl0 hrg
                      go_wp2_with (first | (refine HLE.out.mono ?_; rintro y w9 ⟨rfl, rfl⟩))
                      go_roundw
                      case rel =>
                        obtain ⟨r1, r2, r3, r4, r5, r6⟩ := HR2.out
                        exact ⟨j + 1, by go_num, by omega, by omega, ⟨M2, nb2, l2, hf2, lf2, a1, a2, HZ.out, r1, r2, r3, r4, r5, r6⟩⟩
                      case measure => simp [intOf]; omega
                    · intro x c w7 cnt7 hwx hwc hlx hat hrg7 hlt7 hg7 hs7 hen
                      have hcx : c = hf2 x := by
                        have e : DataW.lit (.int .i64 (hf2 x)) = (DataW.lit (.int .i64 c) : DataW Unit) := (HDa.out x hwx).symm.trans (hat (.lit (.int .i64 0)))
                        cases e
                        rfl
                      have hfit := HR2.out.1.fit x
                      rw [← hcx] at hfit
                      have hb7 : Below wA.heap.size wA w7 := HB3.out.grown hg7 HB3.out.size (fun k hk => by cases hk; exact Nat.le_refl _)
                      have BM7 := HBM.out.keep (hb7.block bt HBM.out.lt)
                      have lkb := BM7.look x hwx
                      have HM := Lib.hid (show wr.rangeLeft bh wA.heap.size = cnt from hrg.left_eq)
                      have H7 := Lib.hid (And.intro hrg7 (And.intro hb7 hlt7))
                      have hc0 : ¬ c < 0 := by omega
                      by_cases hpos : 0 < c
                      · have hin : x ∈ ks := by
                          obtain ⟨e, he, hex⟩ := hfit.2 hpos
                          rw [← HO5.out.2.2.2.2.1, ← hex]
                          exact List.mem_map_of_mem he
                        rw [decide_eq_true hin] at lkb
                        clear hcx hfit hb7 BM7 hlx hat hrg7 hlt7 hg7 hs7 hrg hin hwx hwc
                        go_wp2_with (fail)
                        go_roundw
                        case rel => exact ⟨_, _, H7.out.1, H7.out.2.1⟩
                        case measure => rw [H7.out.1.left_eq, HM.out]; exact H7.out.2.2
                      · clear hcx hfit hb7 BM7 hlx hat hrg7 hlt7 hg7 hs7 hrg hwx hwc lkb
                        go_wp2_with (fail)
                        go_roundw
                        case rel => exact ⟨_, _, H7.out.1, H7.out.2.1⟩
                        case measure => rw [H7.out.1.left_eq, HM.out]; exact H7.out.2.2
          · have h300' : (300 : Int) ≤ (j : Int) := by omega
            obtain ⟨b, off, rfl, hc⟩ := HA.out (by rw [HL.out]; omega)
            obtain ⟨x, hx⟩ : ∃ x, l[j]'(by rw [HL.out]; exact hlt) = x := ⟨_, rfl⟩
            have hc0 := hc j (by rw [HL.out]; exact hlt)
            rw [hx] at hc0
            clear hc hx
            obtain ⟨M, nb, l, hf, lf, n1, n2, hks, hrest⟩ := HZ0.out
            have hop := hc0.below hks.bw
            obtain ⟨c0, c1, c2, c3, _, hkr, hvr⟩ := hop
            have HZ9 := Lib.hid (And.intro hks hrest)
            clear hc0 hks hrest hkr hvr HZ0 HA
            go_wp2_with (fail)
            go_meet
            exact ⟨_, rfl, Lib.hid ⟨j, hj3, M, nb, l, hf, lf, n1, n2, HZ9.out.1.below ((Below.refl _ _).alloc (Nat.le_refl _) _), HZ9.out.2⟩⟩
        · obtain rfl : j = L := by omega
          go_wp2_with (fail)
          go_meet
          exact ⟨_, rfl, Lib.hid ⟨j, hj3, HZ0.out⟩⟩
  case rest =>
    obtain ⟨wx, rfl, HC⟩ := hcut
    obtain ⟨j, hj3, M2, nb2, l2, hf2, lf2, a1, a2, hks2, hrest2⟩ := HC.out
    have HR2 := Lib.hid hrest2
    have AK := Lib.hid (allKeys hks2.cs)
    have H3 := Lib.hid hks2
    clear hks2 hrest2 HC H2 HA HL
    go_wp2_with (fail)
    refine AK.out.mono ?_
    rintro y w5 ⟨q5, c5, rfl, o5, b5⟩
    have K5 := H3.out.below b5
    have hq5 : ∀ b off, q5 = some ⟨b, off, none⟩ → ¬ M2 b := fun b off e hM => by
      have hlt := o5.1.lt
      rcases o5.1.2 with ⟨e1, _⟩ | ⟨g, cap, cur, e1, _⟩
      · injection e1 with e2
        rw [e] at e2
        cases e2
      · injection e1 with e2
        have h9 := (hlt g (by rw [e2]; rfl)).1
        rw [e] at e2
        injection e2 with e2
        injection e2 with e2
        have := (H3.out.mb b hM).2.1
        omega
    have WF := K5.cs.wf
    obtain ⟨ks, hks⟩ : ∃ ks, l2.map (·.k) = ks := ⟨_, rfl⟩
    rw [hks] at o5 ⊢
    have HO5 := Lib.hid (And.intro o5.holds (And.intro hq5 (And.intro (show ∀ x ∈ ks, ∃ e ∈ l2, e.k = x ∧ (Lit.int .i64 x).wf = true from fun x hx => by rw [← hks] at hx; obtain ⟨e, he, rfl⟩ := List.mem_map.1 hx; exact ⟨e, he, rfl, WF e he⟩) (show ks.length ≤ 20 by rw [← hks, List.length_map]; exact Nat.le_trans HR2.out.2.2.1 hm2))))
    have hc5 : ks.length ≤ c5 := o5.2.2
    have hk20 : (ks.length : Int) ≤ 20 := by have := HO5.out.2.2.2; omega
    have H5 := Lib.hid K5
    clear o5 b5 K5 hq5 WF hks AK H3
    go_wp2_with (fail)
    go_loopw [188] (fun v wr2 => ∃ t : Nat, v = .int .i64 (t : Int) ∧ t ≤ ks.length ∧ Hid' (∃ nb l, KS W C m bl bh wr2 M2 nb l hf2 lf2 a1 a2 ∧ (∀ y, y ∈ l ↔ y ∈ l2) ∧ HoldsI wr2 q5 ks)) (fun v _ => ks.length - (intOf v).toNat)
    case atStart => exact ⟨0, rfl, Nat.zero_le _, ⟨nb2, l2, H5.out, fun _ => Iff.rfl, HO5.out.1⟩⟩
    case round =>
      clear H5
      obtain ⟨t, rfl, ht, hT⟩ := hrel
      have HT := Lib.hid hT.out
      clear hT
      by_cases htl : t < ks.length
      · obtain ⟨nb, l, hk, hmem, hq⟩ := HT.out
        obtain ⟨b2, off2, rfl, hcell⟩ := hq (by omega)
        have c2c := hcell t htl
        obtain ⟨y, hy⟩ : ∃ y, ks.getD t 0 = y := ⟨_, rfl⟩
        rw [hy] at c2c
        have hyk : ks[t] = y := by rw [← hy, List.getD_eq_getElem?_getD, List.getElem?_eq_getElem htl]; rfl
        obtain ⟨e, he, hek, hyw⟩ := HO5.out.2.2.1 y (by rw [← hyk]; exact List.getElem_mem htl)
        obtain ⟨p1, q1, hl1⟩ := List.append_of_mem ((hmem e).2 he)
        subst hl1
        have HG := Lib.hid (getSomeI hk.cs y (keyK y (rangeK hyw)) hek)
        have HX := Lib.hid (And.intro hk (And.intro hmem (And.intro hq (And.intro (rangeK hyw) (show lf2 y = e.v from by rw [← hek]; exact (HR2.out.1.1 e he).2)))))
        have HLT := Lib.hid htl
        have htI : (t : Int) < (ks.length : Int) := by omega
        have htc : (t : Int) < (c5 : Int) := by omega
        clear hcell hy hyk he hek hyw hk hmem hq htl ht HT
        go_wp2_with (fail)
        refine HG.out.mono ?_
        rintro z w6 ⟨rfl, s6, t6⟩
        have K6 := HX.out.1.call s6 t6
        have lk := K6.im.look y (wfK y HX.out.2.2.2.1)
        rw [HX.out.2.2.2.2] at lk
        have H6 := Lib.hid (And.intro K6 (holdsI_tch HX.out.2.2.1 t6.1 (fun b off e => HO5.out.2.1 b off e)))
        clear K6 s6 t6 HG
        go_wp2_with (fail)
        go_roundw
        case rel => exact ⟨t + 1, by go_num, Nat.succ_le_of_lt HLT.out, ⟨nb, _, H6.out.1, fun y => (show y ∈ p1 ++ q1 ++ [e] ↔ y ∈ p1 ++ e :: q1 by simp [or_comm, or_left_comm]).trans (HX.out.2.1 y), H6.out.2⟩⟩
        case measure => have := HLT.out; simp [intOf]; omega
      · obtain rfl : t = ks.length := by omega
        go_wp2_with (fail)
        go_ret
        obtain ⟨nb, l, hk, _⟩ := HT.out
        exact ⟨rfl, hk.bw⟩
end Go.Proofs.Ytaigbplidkakhaa
