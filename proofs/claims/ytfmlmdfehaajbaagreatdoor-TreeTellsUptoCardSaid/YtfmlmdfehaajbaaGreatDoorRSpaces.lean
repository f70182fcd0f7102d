/- Proved here: the document's Spaces: all spaces of a tree's names, put in one by one. -/
import Derived.Test.YtfmlmdfehaajbaaGreatDoorStrRow
import Derived.BigGuardPart
import Derived.Deep.RegionWith
import Derived.Deep.RegionHeld3
import Derived.Deep.Cut
namespace Go.Proofs.YtfmlmdfehaajbaaGreatDoor
open Go.RowKit Go.Shelf

theorem sp_step {P : Program} {ops : Array Oper} {o : Oper} {a : Act} {w : World} {K : Act → World → Prop} {Q : Exit → Act → World → Prop} {E : Prop} (hgd : o.guard = none) (h : Oper.wp P o a w K Q) :
    if Region.wanted o (yielded ops a.tmps) = true then Oper.wp P o a w K Q else E := by
  rw [if_pos (by simp [Region.wanted, hgd])]
  exact h
theorem sp_append {P : Program} {w : World} {o : Oper} {a : Act} {K : Act → World → Prop} {Q : Exit → Act → World → Prop} (s x : Operand) (t : TypeId)
    (ho : o.op = .call { callee := .builtin .append, args := #[s, x], argTypes := #[t, t] }) (v u v' : Value) (w' : World) (hs : a.eval s = v) (hx : a.eval x = u)
    (hrun : ∀ ty, (Builtin.append_ #[t, t] ty #[v, u]).run P w = .ok v' w')
    (h : K (a.put o.dst v') w') : Oper.wp P o a w K Q := by
  have hr := hrun o.type
  unfold Oper.wp
  simp [execOp, ho, resolve, invoke, builtin, hs, hx, hr, Result.andThen]
  exact h
theorem nil_toList : (⟨#[]⟩ : ByteArray).toList = [] := by rw [ByteArray.toList_eq]
/-- How the document's Spaces stands: what was put in so far. -/
structure SpSt (W1 : World) (us : List ByteArray) (g c n : Nat) (L : List ByteArray) (V : World) : Prop where
  below : Below W1.heap.size W1 V
  row : StrRow V g L
  len : L.length = n
  cap : n ≤ c
  is : L = insAll [] us
theorem SpSt.far {W1 : World} {us : List ByteArray} {g c n : Nat} {L : List ByteArray} {V V' : World} (h : SpSt W1 us g c n L V) (b : Below V.heap.size V V') : SpSt W1 us g c n L V' :=
  ⟨h.below.trans (b.mono h.below.size), h.row.below b, h.len, h.cap, h.is⟩
def RSpOut (w : World) (t : AT) (e : Ending) (W : World) : Prop := ∃ g c, e = .returned (.slice (some ⟨g, 0, none⟩) (insAll [] (t.all.flatMap AT.uris)).length c) ∧ Below w.heap.size w W ∧ StrRow W g (insAll [] (t.all.flatMap AT.uris))
set_option maxRecDepth 100000 in
set_option maxHeartbeats 16000000 in
theorem rspaces_any (w : World) (t : AT) (pa : Option Addr) (ca : Nat) (pk : Option Addr) (ck : Nat) (hP : PartsAt w t pa ca pk ck) (hK : KidsAt w t) (hc : t.count ≤ 1048576) (hw : (t.all.flatMap AT.uris).length ≤ 1048576) :
    Calls Tryz.prog 13 #[nodeV t pa ca pk ck] w (RSpOut w t) := by
  obtain ⟨W0, hW0⟩ : ∃ W0, (w.alloc (.cells (nodeC t pa ca pk ck) 27)).alloc (.cells #[] 9) = W0 := ⟨_, rfl⟩
  have hB : Below w.heap.size w W0 := by rw [← hW0]; exact ((Below.refl _ _).alloc (Nat.le_refl _) _).alloc (by simp) _
  have hz0 : W0.heap.size = w.heap.size + 2 := by rw [← hW0]; simp
  have hbx : W0.heap[w.heap.size]? = some (.cells (nodeC t pa ca pk ck) 27 (0, 0)) := by rw [← hW0]; exact (Below.heap_alloc _ _ _ (by simp)).trans (heap_alloc_new _ _)
  have HF := Lib.hid ((flat_any w t W0 pa ca pk ck hP hK hB hc).mono (R' := fun e W => ∃ g c zs, e = .returned (.slice (some ⟨g, 0, none⟩) (List.length zs) c) ∧ Below W0.heap.size W0 W ∧ zs.map KN.t = t.all ∧ StandN w zs ∧ OwnN W W0.heap.size (some ⟨g, 0, none⟩) c zs) (fun e W he => he))
  have HP := Lib.hid (And.intro hP hK)
  have HB := Lib.hid hB
  have HZ := Lib.hid hz0
  have HW := Lib.hid hw
  obtain ⟨q0, q1, q2, q3, q4, q5⟩ := show W0.cell? ⟨w.heap.size, 0, none⟩ = some (.int .i64 t.kind) ∧ W0.cell? ⟨w.heap.size, 1, none⟩ = some (.string t.uri) ∧ W0.cell? ⟨w.heap.size, 2, none⟩ = some (.string t.loc) ∧ W0.cell? ⟨w.heap.size, 3, none⟩ = some (.slice pa t.attrs.length ca) ∧ W0.cell? ⟨w.heap.size, 4, none⟩ = some (.slice pk t.kids.length ck) ∧ W0.cell? ⟨w.heap.size, 5, none⟩ = some (.string t.text) from ⟨cell_of_row _ _ 0 _ _ _ hbx, cell_of_row _ _ 1 _ _ _ hbx, cell_of_row _ _ 2 _ _ _ hbx, cell_of_row _ _ 3 _ _ _ hbx, cell_of_row _ _ 4 _ _ _ hbx, cell_of_row _ _ 5 _ _ _ hbx⟩
  unfold nodeC at hW0
  unfold nodeV at HF ⊢
  clear hP hK hB hz0 hbx hc hw
  go_enter Tryz.func13, Tryz.ntmps13
  go_wp2_with (go_at_call 16; refine HF.out.mono ?_; rintro e W1 ⟨g, c, zs, rfl, hb1, hall, hst, hown⟩)
  have hzl : zs.length = t.count := by
    have := congrArg List.length hall
    rwa [List.length_map] at this
  have HST := Lib.hid (And.intro hb1 (And.intro hall (And.intro hst hown)))
  have hzb : zs.length ≤ 1048576 := by
    rw [hzl]
    have h1 : t.count ≤ (t.all.flatMap AT.uris).length := by
      unfold AT.count
      generalize t.all = l
      induction l with
      | nil => exact Nat.le_refl _
      | cons x r ih => rw [List.flatMap_cons, List.length_append, List.length_cons]; unfold AT.uris at ih ⊢; simp only [List.length_cons] at ih ⊢; omega
    exact Nat.le_trans h1 HW.out
  have hcap := hown.2.1
  obtain ⟨N, hN⟩ : ∃ N, zs.length = N := ⟨_, rfl⟩
  rw [hN] at hzb hcap ⊢
  have HN := Lib.hid hN
  have H0 := Lib.hid (show SpSt W1 [] (w.heap.size + 1) 0 0 [] W1 from ⟨Below.refl _ _, fun j hj => absurd hj (Nat.not_lt_zero _), rfl, Nat.le_refl _, rfl⟩)
  clear hall hst hown hb1 hzl hN q0 q1 q2 q3 q4 q5 hW0
  go_loopw [3, 16] (fun v3 v16 wr => ∃ i g' c' n : Nat, v3 = .slice (some ⟨g', 0, none⟩) n c' ∧ v16 = .int .i64 (i : Int) ∧ i ≤ N ∧ n ≤ 1048576 ∧ n ≤ c' ∧ Hid' (∃ L, SpSt W1 (((zs.take i).map KN.t).flatMap AT.uris) g' c' n L wr)) (fun _ v _ => N - (intOf v).toNat)
  case atStart => exact ⟨0, w.heap.size + 1, 0, 0, rfl, rfl, Nat.zero_le _, by decide, Nat.le_refl _, [], H0.out⟩
  case round =>
    obtain ⟨i, g', c', n, rfl, rfl, hi, hn, hnc, L, hI⟩ := hrel
    obtain ⟨V, rfl⟩ : ∃ V, V = wr := ⟨_, rfl⟩
    have HI := Lib.hid (And.intro hI.below hI)
    clear hI
    by_cases hlt : i < N
    · have hi' : (i : Int) < (N : Int) := by omega
      have hiz : i < zs.length := by rw [HN.out]; exact hlt
      have ho := HST.out.2.2.2.below HI.out.1
      have c0 := ho.cell hiz (j := 0) (by decide)
      have c1 := ho.cell hiz (j := 1) (by decide)
      have c2 := ho.cell hiz (j := 2) (by decide)
      have c3 := ho.cell hiz (j := 3) (by decide)
      have c4 := ho.cell hiz (j := 4) (by decide)
      have c5 := ho.cell hiz (j := 5) (by decide)
      have hpz := (HST.out.2.2.1 zs[i] (List.getElem_mem hiz)).1
      have hBw : Below w.heap.size w V := HB.out.trans ((HST.out.1.trans (HI.out.1.mono HST.out.1.size)).mono HB.out.size)
      have HA := Lib.hid (hpz.attrs.stay (Stay.below hBw))
      have hac := hpz.acap
      have has := hpz.asz
      have hus : ((zs.take (i + 1)).map KN.t).flatMap AT.uris = ((zs.take i).map KN.t).flatMap AT.uris ++ zs[i].t.uris := by
        rw [List.take_add_one, List.getElem?_eq_getElem hiz, List.map_append, List.flatMap_append]
        simp
      have hub : (((zs.take i).map KN.t).flatMap AT.uris).length + zs[i].t.uris.length ≤ 1048576 := by
        have h1 : (((zs.take (i + 1)).map KN.t).flatMap AT.uris).length ≤ ((zs.map KN.t).flatMap AT.uris).length := by
          have e : zs.map KN.t = (zs.take (i + 1)).map KN.t ++ (zs.drop (i + 1)).map KN.t := by rw [← List.map_append, List.take_append_drop]
          rw [e, List.flatMap_append, List.length_append]
          omega
        rw [hus, List.length_append, HST.out.2.1] at h1
        exact Nat.le_trans h1 HW.out
      have HU := Lib.hid (And.intro hus hub)
      unfold KN.enc at c0 c1 c2 c3 c4 c5
      simp only [List.getElem?_cons_zero, List.getElem?_cons_succ, Nat.add_zero] at c0 c1 c2 c3 c4 c5
      clear ho hpz hus hub
      obtain ⟨za, hza⟩ : ∃ z, zs[i].pa = z := ⟨_, rfl⟩
      obtain ⟨u0, hu0⟩ : ∃ z, zs[i].t.uri = z := ⟨_, rfl⟩
      obtain ⟨la, hla⟩ : ∃ z, zs[i].t.attrs = z := ⟨_, rfl⟩
      have HUR : Hid (zs[i].t.uris = u0 :: la.map (·.uri)) := Lib.hid (by unfold AT.uris; rw [hu0, hla])
      rw [hza, hla] at HA c3
      rw [hla] at hac has
      rw [hu0] at c1
      generalize zs[i].t.kind = y0 at c0
      generalize zs[i].t.loc = y2 at c2
      generalize zs[i].ca = y3 at c3 hac
      generalize zs[i].t.kids.length = y4 at c4
      generalize zs[i].pk = y5 at c4
      generalize zs[i].ck = y6 at c4
      generalize zs[i].t.text = y7 at c5
      clear hza hu0 hla
      have HX0 := Lib.hid (show OwnS ((V.alloc (.cells #[.int .i64 y0, .string u0, .string y2, .slice za la.length y3, .slice y5 y4 y6, .string y7] 27)).alloc (.cells #[.string u0] 9)) (V.heap.size + 1) (some ⟨V.heap.size + 1, 0, none⟩) 1 [u0] from by
        have := heap_alloc_new (V.alloc (.cells #[.int .i64 y0, .string u0, .string y2, .slice za la.length y3, .slice y5 y4 y6, .string y7] 27)) (.cells #[.string u0] 9)
        rw [World.size_alloc] at this
        exact OwnS.one this (Nat.le_refl _))
      have HX1 := Lib.hid (show Below V.heap.size V ((V.alloc (.cells #[.int .i64 y0, .string u0, .string y2, .slice za la.length y3, .slice y5 y4 y6, .string y7] 27)).alloc (.cells #[.string u0] 9)) from ((Below.refl _ _).alloc (Nat.le_refl _) _).alloc (by simp) _)
      go_wp2_with (fail)
      go_loopw [6, 27] (fun v6 v27 wv => ∃ m qa ca' : Nat, v6 = .slice (some ⟨qa, 0, none⟩) (m + 1) ca' ∧ v27 = .int .i64 (m : Int) ∧ m ≤ la.length ∧ Hid' (Below V.heap.size V wv ∧ OwnS wv (V.heap.size + 1) (some ⟨qa, 0, none⟩) ca' (u0 :: (la.take m).map (·.uri)))) (fun _ v _ => la.length - (intOf v).toNat)
      case atStart => exact ⟨0, V.heap.size + 1, 1, rfl, rfl, Nat.zero_le _, HX1.out, HX0.out⟩
      case round =>
        obtain ⟨m, qa, ca', rfl, rfl, hm, hA1, hA2⟩ := hrel
        obtain ⟨wv, rfl⟩ : ∃ x, x = wr := ⟨_, rfl⟩
        have HR := Lib.hid (And.intro hA1 hA2)
        clear hA1 hA2
        by_cases hml : m < la.length
        · have hm' : (m : Int) < (la.length : Int) := by omega
          obtain ⟨ab, ao, rfl, hat⟩ := HA.out (by omega)
          have a0 := t_cell' HR.out.1 (hat m hml).1
          have a1 := t_cell' HR.out.1 (hat m hml).2.1
          have a2 := t_cell' HR.out.1 (hat m hml).2.2
          have HM := Lib.hid (show (la.take (m + 1)).map (·.uri) = (la.take m).map (·.uri) ++ [la[m].uri] from by rw [List.take_add_one, List.getElem?_eq_getElem hml, List.map_append]; rfl)
          have hmb : m ≤ 1048576 := by
            have h1 := HU.out.2
            rw [HUR.out, List.length_cons, List.length_map] at h1
            omega
          have RUN := appS (xs := u0 :: (la.take m).map (·.uri)) (ys := [la[m].uri]) (W := (wv.alloc (.cells #[.string la[m].uri, .string la[m].loc, .string la[m].val] 67)).alloc (.cells #[.string la[m].uri] 9)) (B := V.heap.size + 1) (HR.out.2.below (((Below.refl _ _).alloc (Nat.le_refl _) _).alloc (by simp) _)) (by have := HR.out.1.size; simp; omega) (a := ⟨wv.heap.size + 1, 0, none⟩) 1 (fun j hj => by
            have hj0 : j = 0 := by simpa using hj
            subst hj0
            have := heap_alloc_new (wv.alloc (.cells #[.string la[m].uri, .string la[m].loc, .string la[m].val] 67)) (.cells #[.string la[m].uri] 9)
            rw [World.size_alloc] at this
            exact cell_of_row _ _ 0 _ _ _ this) (by simp; omega)
          obtain ⟨q2, c2, W2, hrun, hown2, hgrow⟩ := RUN
          obtain ⟨qb, rfl⟩ := hown2.form (by simp)
          have hl1 : (u0 :: (la.take m).map (·.uri)).length = m + 1 := by simp [List.length_take]; omega
          rw [hl1] at hrun hgrow
          have hWb : Below V.heap.size V W2 := grown_below (n := m + 1) (HR.out.1.trans ((((Below.refl _ _).alloc (Nat.le_refl _) _).alloc (by simp) _).mono HR.out.1.size)) (HR.out.2.below (((Below.refl _ _).alloc (Nat.le_refl _) _).alloc (by simp) _)) (by omega) hgrow
          have HRUN := Lib.hid hrun
          have HOW := Lib.hid (And.intro hWb hown2)
          clear hat hrun hown2 hgrow hWb hl1
          generalize la[m].uri = w0 at *
          generalize la[m].loc = w1 at *
          generalize la[m].val = w2 at *
          go_wp2_with (at_builtin; refine wpList_append_eq6 rfl (.tmp 31) (.tmp 35) 35 rfl _ _ _ _ rfl rfl HRUN.out ?_)
          go_roundw
          case rel => exact ⟨m + 1, qb, c2, by go_num, by go_num, hml, HOW.out.1, by rw [HM.out]; exact HOW.out.2⟩
          case measure => simp only [intOf]; omega
        · have hm' : ¬ (m : Int) < (la.length : Int) := by omega
          have hme : m = la.length := by omega
          obtain ⟨us, hus⟩ : ∃ us, u0 :: la.map (·.uri) = us := ⟨_, rfl⟩
          have HRS := Lib.hid (show Below V.heap.size V wv ∧ StrRow wv qa us from ⟨HR.out.1, by
            have h := HR.out.2.row
            rwa [hme, List.take_length, hus] at h⟩)
          obtain ⟨M, hM⟩ : ∃ M, us.length = M := ⟨_, rfl⟩
          have hmM : m + 1 = M := by rw [← hM, ← hus, List.length_cons, List.length_map, hme]
          have HUS := Lib.hid (And.intro (show zs[i].t.uris = us from by rw [HUR.out, hus]) hM)
          have hMb : M ≤ 1048576 := by
            have h1 := HU.out.2
            rw [HUS.out.1, HUS.out.2] at h1
            omega
          rw [hmM]
          have hqc : M ≤ ca' := by
            have := HR.out.2.2.1
            simp [List.length_take] at this
            omega
          clear hus hM hme hmM HR HX0 HX1
          go_wp2_with (fail)
          go_loopw [3, 40] (fun v3 v40 wu => ∃ j g2 c2 n2 : Nat, v3 = .slice (some ⟨g2, 0, none⟩) n2 c2 ∧ v40 = .int .i64 (j : Int) ∧ j ≤ M ∧ n2 ≤ 1048576 ∧ n2 ≤ c2 ∧ Hid' (∃ L, SpSt W1 (((zs.take i).map KN.t).flatMap AT.uris ++ us.take j) g2 c2 n2 L wu ∧ Below wv.heap.size wv wu)) (fun _ v _ => M - (intOf v).toNat)
          case atStart => exact ⟨0, g', c', n, rfl, rfl, Nat.zero_le _, hn, hnc, L, by rw [List.take_zero, List.append_nil]; exact HI.out.2.far HRS.out.1, Below.refl _ _⟩
          case round =>
            obtain ⟨j, g2, c2, n2, rfl, rfl, hj, hn2, hnc2, L2, hS, hBv⟩ := hrel
            obtain ⟨wu, rfl⟩ : ∃ x, x = wr := ⟨_, rfl⟩
            have HS := Lib.hid (And.intro hS hBv)
            clear hS hBv
            by_cases hjM : j < M
            · have hj' : (j : Int) < (M : Int) := by omega
              have hju : j < us.length := by rw [HUS.out.2]; exact hjM
              have d0 := t_cell' HS.out.2 (HRS.out.2 j hju)
              have HT := Lib.hid (show us.take (j + 1) = us.take j ++ [us[j]] from by rw [List.take_add_one, List.getElem?_eq_getElem hju]; rfl)
              obtain ⟨u, hu⟩ : ∃ u, us[j] = u := ⟨_, rfl⟩
              rw [hu] at d0 HT
              clear hu
              obtain ⟨kk, hkk⟩ : ∃ kk, lowU L2 u = kk := ⟨_, rfl⟩
              have hkn : kk ≤ n2 := by rw [← hkk, ← HS.out.1.len]; exact low_le L2 u
              have HKK := Lib.hid hkk
              have hlb : (insAll [] (((zs.take i).map KN.t).flatMap AT.uris ++ us.take (j + 1))).length ≤ 1048576 := by
                have h1 := insAll_len [] (((zs.take i).map KN.t).flatMap AT.uris ++ us.take (j + 1))
                have h2 := HU.out.2
                rw [HUS.out.1] at h2
                rw [List.length_append, List.length_take] at h1
                simp only [List.length_nil] at h1
                omega
              have HLB := Lib.hid hlb
              clear hkk hlb
              go_wp2_with (fail)
              go_loopw [11] (fun v11 wk => ∃ k : Nat, v11 = .int .i64 (k : Int) ∧ k ≤ kk ∧ Hid' (wk = wu)) (fun v _ => n2 - (intOf v).toNat)
              case atStart => exact ⟨0, rfl, Nat.zero_le _, by first | trivial | rfl⟩
              case round =>
                obtain ⟨k, rfl, hk, hwk⟩ := hrel
                obtain rfl : wu = wr := (show wr = wu from hwk).symm
                by_cases hkl : k < kk
                · have hkn' : (k : Int) < (n2 : Int) := by omega
                  have hk2 : k < L2.length := by rw [HS.out.1.len]; omega
                  have l0 := HS.out.1.row k hk2
                  have hless : Op.bytesLess (L2[k]).toList u.toList = true := low_lt L2 u k hk2 (by rw [HKK.out]; exact hkl)
                  generalize L2[k] = v at l0 hless
                  go_wp2_with (fail)
                  go_roundw
                  case rel => exact ⟨k + 1, by go_num, hkl, by first | trivial | rfl⟩
                  case measure => simp only [intOf]; omega
                · have hke : k = kk := by omega
                  clear hkl hk
                  subst hke
                  have hkb : k ≤ 1048576 := by omega
                  have hlk : (L2.take k).length = k := by rw [List.length_take, HS.out.1.len]; omega
                  have HINS := Lib.hid (fun (hi : insU L2 u = L2.take k ++ [u] ++ L2.drop k) (V : World) (g c : Nat) (hb : Below wu.heap.size wu V) (hr : StrRow V g (L2.take k ++ [u] ++ L2.drop k)) (hc : n2 + 1 ≤ c) => show SpSt W1 (((zs.take i).map KN.t).flatMap AT.uris ++ us.take (j + 1)) g c (n2 + 1) (L2.take k ++ [u] ++ L2.drop k) V from
                    ⟨HS.out.1.below.trans (hb.mono HS.out.1.below.size), hr, by rw [List.length_append, List.length_append, hlk, List.length_drop, HS.out.1.len]; simp; omega, hc, by rw [HT.out, ← List.append_assoc, insAll_snoc, ← HS.out.1.is, hi]⟩)
                  have HSKIP := Lib.hid (fun (hi : insU L2 u = L2) => show SpSt W1 (((zs.take i).map KN.t).flatMap AT.uris ++ us.take (j + 1)) g2 c2 n2 L2 wu from
                    ⟨HS.out.1.below, HS.out.1.row, HS.out.1.len, HS.out.1.cap, by rw [HT.out, ← List.append_assoc, insAll_snoc, ← HS.out.1.is, hi]⟩)
                  have HLB2 := Lib.hid (show (insU L2 u).length ≤ 1048576 from by have h := HLB.out; rw [HT.out, ← List.append_assoc, insAll_snoc, ← HS.out.1.is] at h; exact h)
                  by_cases hue : u = ⟨#[]⟩
                  · have HSK := Lib.hid (HSKIP.out (if_pos (.inl hue)))
                    have hz1 : u.toList.isEmpty = true := by rw [hue, nil_toList]; rfl
                    have hz2 : (u.toList == []) = true := by rw [hue, nil_toList]; rfl
                    clear hue
                    by_cases hkl : k < n2
                    · have hkn' : (k : Int) < (n2 : Int) := by omega
                      have hk2 : k < L2.length := by rw [HS.out.1.len]; omega
                      have l0 := HS.out.1.row k hk2
                      have hless : Op.bytesLess (L2[k]).toList u.toList = false := by have h := low_at L2 u (by rw [HKK.out]; exact hk2); simp only [HKK.out] at h; exact h
                      generalize L2[k] = v at l0 hless
                      go_wp2_with (fail)
                      go_roundw
                      case rel => exact ⟨j + 1, g2, c2, n2, by go_num, by go_num, hjM, hn2, hnc2, L2, HSK.out, HS.out.2⟩
                      case measure => simp only [intOf]; omega
                    · have hkn' : ¬ (k : Int) < (n2 : Int) := by omega
                      go_wp2_with (fail)
                      go_roundw
                      case rel => exact ⟨j + 1, g2, c2, n2, by go_num, by go_num, hjM, hn2, hnc2, L2, HSK.out, HS.out.2⟩
                      case measure => simp only [intOf]; omega
                  · have hz1 : u.toList.isEmpty = false := by
                      cases h : u.toList with
                      | nil => exact absurd (toList_inj (h.trans nil_toList.symm)) hue
                      | cons a b => rfl
                    have hz2 : (u.toList == []) = false := by cases h : u.toList with | nil => (rw [h] at hz1; cases hz1) | cons a b => rfl
                    by_cases hkl : k < n2
                    · have hkn' : (k : Int) < (n2 : Int) := by omega
                      have hk2 : k < L2.length := by rw [HS.out.1.len]; omega
                      have l0 := HS.out.1.row k hk2
                      have hless : Op.bytesLess (L2[k]).toList u.toList = false := by have h := low_at L2 u (by rw [HKK.out]; exact hk2); simp only [HKK.out] at h; exact h
                      have hke : ((k : Int) == (n2 : Int)) = false := by rw [beq_eq_false_iff_ne]; omega
                      have hke2 : ¬ (k : Int) = (n2 : Int) := by omega
                      by_cases heq : L2[k] = u
                      · have HSK := Lib.hid (HSKIP.out (if_pos (.inr (by rw [HKK.out, List.getElem?_eq_getElem hk2, heq]))))
                        have hvu : ((L2[k]).toList == u.toList) = true := by rw [heq]; simp
                        generalize L2[k] = v at l0 hless hvu
                        clear heq
                        go_wp2_with (fail)
                        go_roundw
                        case rel => exact ⟨j + 1, g2, c2, n2, by go_num, by go_num, hjM, hn2, hnc2, L2, HSK.out, HS.out.2⟩
                        case measure => simp only [intOf]; omega
                      · have HI2 : Hid (insU L2 u = L2.take k ++ [u] ++ L2.drop k) := Lib.hid (by have h : insU L2 u = L2.take (lowU L2 u) ++ [u] ++ L2.drop (lowU L2 u) := if_neg (by rintro (h | h); exact hue h; rw [HKK.out, List.getElem?_eq_getElem hk2] at h; exact heq (Option.some.inj h)); rw [HKK.out] at h; exact h)
                        have hvu : ((L2[k]).toList == u.toList) = false := beq_eq_false_iff_ne.2 (fun e => heq (toList_inj e))
                        have HIN2 := Lib.hid (HINS.out HI2.out)
                        have HINL : Hid ((insU L2 u).length = n2 + 1) := Lib.hid (by rw [HI2.out, List.length_append, List.length_append, hlk, List.length_drop, HS.out.1.len]; simp <;> omega)
                        generalize L2[k] = v at l0 hless hvu
                        clear heq hue
                        have hck : ¬ c2 = k := by omega
                        have hkc : k ≤ c2 := by omega
                        go_upto_region 18 with (fail)
                        refine wp_region_held_drew (S := fun _ => True) (by kernel_rfl) trivial (fun hHeld => ?_)
                        clear hHeld
                        have b0 : Below wu.heap.size wu wu.drew := (Below.refl _ _).drew
                        obtain ⟨X0, hX0⟩ : ∃ X, wu.drew = X := ⟨_, rfl⟩
                        rw [hX0] at b0 ⊢
                        clear hX0
                        refine wpAnyH_take (i := 1) (oi := _) (v := ?v1x) rfl (by kernel_rfl) (by kernel_rfl) (by kernel_rfl) (fun _ _ _ h => h) (Or.inl ⟨by rfl, ?hy1x⟩) trivial ?rest1x
                        case hy1x =>
                          intro W hSw
                          clear hSw
                          go_simp
                          try (with_reducible rfl)
                        try simp only [Act.put, List.getElem_toArray, List.getElem_cons_zero, List.getElem_cons_succ, List.setIfInBounds_toArray, List.set_cons_zero, List.set_cons_succ]
                        refine wpAnyH_take (i := 2) (oi := _) (v := ?v2x) rfl (by kernel_rfl) (by kernel_rfl) (by kernel_rfl) (fun _ _ _ h => h) (Or.inl ⟨by rfl, ?hy2x⟩) trivial ?rest2x
                        case hy2x =>
                          intro W hSw
                          clear hSw
                          go_simp
                          try (with_reducible rfl)
                        try simp only [Act.put, List.getElem_toArray, List.getElem_cons_zero, List.getElem_cons_succ, List.setIfInBounds_toArray, List.set_cons_zero, List.set_cons_succ]
                        refine wpAnyH_take (i := 3) (oi := _) (v := ?v3x) rfl (by kernel_rfl) (by kernel_rfl) (by kernel_rfl) (fun _ _ _ h => h) (Or.inl ⟨by rfl, ?hy3x⟩) trivial ?rest3x
                        case hy3x =>
                          intro W hSw
                          clear hSw
                          go_simp
                          try (with_reducible rfl)
                        try simp only [Act.put, List.getElem_toArray, List.getElem_cons_zero, List.getElem_cons_succ, List.setIfInBounds_toArray, List.set_cons_zero, List.set_cons_succ]
                        refine wpAnyH_take (i := 5) (oi := _) (v := ?v5x) rfl (by kernel_rfl) (by kernel_rfl) (by kernel_rfl) (fun _ _ _ h => h) (Or.inl ⟨by rfl, ?hy5x⟩) trivial ?rest5x
                        case hy5x =>
                          intro W hSw
                          clear hSw
                          go_simp
                          try (with_reducible rfl)
                        try simp only [Act.put, List.getElem_toArray, List.getElem_cons_zero, List.getElem_cons_succ, List.setIfInBounds_toArray, List.set_cons_zero, List.set_cons_succ]
                        refine wpAnyH_take (i := 8) (oi := _) (v := ?v8x) rfl (by kernel_rfl) (by kernel_rfl) (by kernel_rfl) (fun _ _ _ h => h) (Or.inl ⟨by rfl, ?hy8x⟩) trivial ?rest8x
                        case hy8x =>
                          intro W hSw
                          clear hSw
                          go_simp
                          try (with_reducible rfl)
                        try simp only [Act.put, List.getElem_toArray, List.getElem_cons_zero, List.getElem_cons_succ, List.setIfInBounds_toArray, List.set_cons_zero, List.set_cons_succ]
                        refine wpAnyH_take (i := 9) (oi := _) (v := ?v9x) rfl (by kernel_rfl) (by kernel_rfl) (by kernel_rfl) (fun _ _ _ h => h) (Or.inl ⟨by rfl, ?hy9x⟩) trivial ?rest9x
                        case hy9x =>
                          intro W hSw
                          clear hSw
                          go_simp
                          try (with_reducible rfl)
                        try simp only [Act.put, List.getElem_toArray, List.getElem_cons_zero, List.getElem_cons_succ, List.setIfInBounds_toArray, List.set_cons_zero, List.set_cons_succ]
                        refine wpAnyH_take (i := 10) (oi := _) (v := ?v10x) rfl (by kernel_rfl) (by kernel_rfl) (by kernel_rfl) (fun _ _ _ h => h) (Or.inl ⟨by rfl, ?hy10x⟩) trivial ?rest10x
                        case hy10x =>
                          intro W hSw
                          clear hSw
                          go_simp
                          try (with_reducible rfl)
                        try simp only [Act.put, List.getElem_toArray, List.getElem_cons_zero, List.getElem_cons_succ, List.setIfInBounds_toArray, List.set_cons_zero, List.set_cons_succ]
                        refine wpAnyH_ready (rs := [0, 6]) (by kernel_rfl) (by simp) ?_
                        refine AllReadyH.cons (o := _) rfl (fun K hK => ?_) (AllReadyH.cons (o := _) rfl (fun K hK => ?_) AllReadyH.nil)
                        · skip
                          go_simp
                          obtain ⟨X1, hX1⟩ : ∃ Y, X0.alloc (.cells #[] 9) = Y := ⟨_, rfl⟩
                          have b1 : Below wu.heap.size wu X1 := by rw [← hX1]; exact b0.alloc b0.size _
                          have nE1 : X1.heap[X0.heap.size]? = some (.cells #[] 9 (0, 0)) := by rw [← hX1]; exact heap_alloc_new _ _
                          have lE1 : wu.heap.size ≤ X0.heap.size := b0.size
                          have zE1 : X0.heap.size < X1.heap.size := by rw [← hX1]; simp
                          obtain ⟨E1, hE1⟩ : ∃ E, X0.heap.size = E := ⟨_, rfl⟩
                          rw [hX1, hE1]
                          rw [hE1] at nE1 lE1 zE1
                          clear hX1 hE1
                          refine hK.out _ _ trivial (fun _ => ?_)
                          clear hK K
                          try simp only [Act.put, List.getElem_toArray, List.getElem_cons_zero, List.getElem_cons_succ, List.setIfInBounds_toArray, List.set_cons_zero, List.set_cons_succ]
                          refine wpAnyH_ready (rs := [4, 6]) (by kernel_rfl) (by simp) ?_
                          refine AllReadyH.cons (o := _) rfl (fun K hK => ?_) (AllReadyH.cons (o := _) rfl (fun K hK => ?_) AllReadyH.nil)
                          · skip
                            obtain ⟨q2, k2, X2, r2, o2, b2, ot2, s2⟩ := ins1 (c := c2) b1 nE1 lE1 HS.out.1.row HS.out.1.len hkn hn2
                            refine sp_step rfl (sp_append (.tmp 74) (.tmp 77) 35 rfl (.slice (some ⟨E1, 0, none⟩) 0 0) (.slice (some ⟨g2, 0, none⟩) k c2) (.slice q2 k k2) X2 (by rfl) (by rfl) r2 ?_)
                            refine hK.out _ _ trivial (fun _ => ?_)
                            clear hK K
                            try simp only [Act.put, List.getElem_toArray, List.getElem_cons_zero, List.getElem_cons_succ, List.setIfInBounds_toArray, List.set_cons_zero, List.set_cons_succ]
                            clear r2 ot2
                            refine wpAnyH_ready (rs := [6]) (by kernel_rfl) (by simp) ?_
                            refine AllReadyH.cons (o := _) rfl (fun K hK => ?_) AllReadyH.nil
                            go_simp
                            obtain ⟨X3, hX3⟩ : ∃ Y, X2.alloc (.cells #[.string u] 9) = Y := ⟨_, rfl⟩
                            have b3 : Below wu.heap.size wu X3 := by rw [← hX3]; exact b2.alloc b2.size _
                            have nU3 : X3.heap[X2.heap.size]? = some (.cells #[.string u] 9 (0, 0)) := by rw [← hX3]; exact heap_alloc_new _ _
                            have o3 : OwnS X3 wu.heap.size q2 k2 (L2.take k) := by rw [← hX3]; exact o2.below ((Below.refl _ _).alloc (Nat.le_refl _) _)
                            obtain ⟨U3, hU3⟩ : ∃ E, X2.heap.size = E := ⟨_, rfl⟩
                            rw [hX3, hU3]
                            rw [hU3] at nU3
                            clear hX3 hU3
                            refine hK.out _ _ trivial (fun _ => ?_)
                            clear hK K
                            try simp only [Act.put, List.getElem_toArray, List.getElem_cons_zero, List.getElem_cons_succ, List.setIfInBounds_toArray, List.set_cons_zero, List.set_cons_succ]
                            refine wpAnyH_ready (rs := [7]) (by kernel_rfl) (by simp) ?_
                            refine AllReadyH.cons (o := _) rfl (fun K hK => ?_) AllReadyH.nil
                            obtain ⟨q4, k4, X4, r4, o4, b4⟩ := ins2 (u := u) b3 o3 hlk hkb (cell_of_row _ _ 0 _ _ _ nU3)
                            refine sp_step rfl (sp_append (.tmp 78) (.tmp 80) 35 rfl (.slice q2 k k2) (.slice (some ⟨U3, 0, none⟩) 1 1) (.slice q4 (k + 1) k4) X4 (by rfl) (by rfl) r4 ?_)
                            refine hK.out _ _ trivial (fun _ => ?_)
                            clear hK K
                            try simp only [Act.put, List.getElem_toArray, List.getElem_cons_zero, List.getElem_cons_succ, List.setIfInBounds_toArray, List.set_cons_zero, List.set_cons_succ]
                            clear r4
                            refine wpAnyH_ready (rs := [11]) (by kernel_rfl) (by simp) ?_
                            refine AllReadyH.cons (o := _) rfl (fun K hK => ?_) AllReadyH.nil
                            obtain ⟨g3, c3, X5, r5, o5, b5, hc5⟩ := ins3 (c := c2) b4 o4 (by rw [List.length_append, hlk]; rfl) HS.out.1.row HS.out.1.len hkn hn2 (⟨g2, k, none⟩) (fun _ => rfl)
                            refine sp_step rfl (sp_append (.tmp 81) (.tmp 84) 35 rfl (.slice q4 (k + 1) k4) (.slice (some ⟨g2, k, none⟩) (n2 - k) (c2 - k)) (.slice (some ⟨g3, 0, none⟩) (n2 + 1) c3) X5 (by rfl) (by rfl) r5 ?_)
                            refine hK.out _ _ trivial (fun _ => ?_)
                            clear hK K
                            try simp only [Act.put, List.getElem_toArray, List.getElem_cons_zero, List.getElem_cons_succ, List.setIfInBounds_toArray, List.set_cons_zero, List.set_cons_succ]
                            clear r5
                            refine wpAnyH_take (i := 12) (oi := _) (v := ?v12xa) rfl (by kernel_rfl) (by kernel_rfl) (by kernel_rfl) (fun _ _ _ h => h) (Or.inl ⟨by rfl, ?hy12xa⟩) trivial ?rest12xa
                            case hy12xa =>
                              intro W hSw
                              clear hSw
                              go_simp
                              try (with_reducible rfl)
                            try simp only [Act.put, List.getElem_toArray, List.getElem_cons_zero, List.getElem_cons_succ, List.setIfInBounds_toArray, List.set_cons_zero, List.set_cons_succ]
                            have HE := Lib.hid (And.intro o5 (And.intro b5 hc5))
                            refine wpAnyH_done (by kernel_rfl) ?_ _
                            go_wp2_with (fail)
                            go_roundw
                            case rel =>
                              refine ⟨j + 1, g3, c3, n2 + 1, by go_num, by go_num, hjM, ?_, HE.out.2.2, _, HIN2.out _ _ _ HE.out.2.1 HE.out.1 HE.out.2.2, HS.out.2.trans (HE.out.2.1.mono HS.out.2.size)⟩
                              have := HLB2.out
                              rw [HINL.out] at this
                              exact this
                            case measure => simp only [intOf]; omega
                          · skip
                            go_simp
                            obtain ⟨X6, hX6⟩ : ∃ Y, X1.alloc (.cells #[.string u] 9) = Y := ⟨_, rfl⟩
                            have b6 : Below wu.heap.size wu X6 := by rw [← hX6]; exact b1.alloc b1.size _
                            have nU6 : X6.heap[X1.heap.size]? = some (.cells #[.string u] 9 (0, 0)) := by rw [← hX6]; exact heap_alloc_new _ _
                            have nE6 : X6.heap[E1]? = some (.cells #[] 9 (0, 0)) := by rw [← hX6]; exact (Below.heap_alloc _ _ _ zE1).trans nE1
                            have uE6 : X1.heap.size ≠ E1 := Nat.ne_of_gt zE1
                            obtain ⟨U6, hU6⟩ : ∃ E, X1.heap.size = E := ⟨_, rfl⟩
                            rw [hX6, hU6]
                            rw [hU6] at nU6 uE6
                            clear hX6 hU6
                            refine hK.out _ _ trivial (fun _ => ?_)
                            clear hK K
                            try simp only [Act.put, List.getElem_toArray, List.getElem_cons_zero, List.getElem_cons_succ, List.setIfInBounds_toArray, List.set_cons_zero, List.set_cons_succ]
                            refine wpAnyH_ready (rs := [4]) (by kernel_rfl) (by simp) ?_
                            refine AllReadyH.cons (o := _) rfl (fun K hK => ?_) AllReadyH.nil
                            obtain ⟨q7, k7, X7, r7, o7, b7, ot7, s7⟩ := ins1 (c := c2) b6 nE6 lE1 HS.out.1.row HS.out.1.len hkn hn2
                            refine sp_step rfl (sp_append (.tmp 74) (.tmp 77) 35 rfl (.slice (some ⟨E1, 0, none⟩) 0 0) (.slice (some ⟨g2, 0, none⟩) k c2) (.slice q7 k k7) X7 (by rfl) (by rfl) r7 ?_)
                            have nU7 : X7.heap[U6]? = some (.cells #[.string u] 9 (0, 0)) := (ot7 _ (it_lt nU6) uE6).trans nU6
                            refine hK.out _ _ trivial (fun _ => ?_)
                            clear hK K
                            try simp only [Act.put, List.getElem_toArray, List.getElem_cons_zero, List.getElem_cons_succ, List.setIfInBounds_toArray, List.set_cons_zero, List.set_cons_succ]
                            clear r7 ot7
                            refine wpAnyH_ready (rs := [7]) (by kernel_rfl) (by simp) ?_
                            refine AllReadyH.cons (o := _) rfl (fun K hK => ?_) AllReadyH.nil
                            obtain ⟨q8, k8, X8, r8, o8, b8⟩ := ins2 (u := u) b7 o7 hlk hkb (cell_of_row _ _ 0 _ _ _ nU7)
                            refine sp_step rfl (sp_append (.tmp 78) (.tmp 80) 35 rfl (.slice q7 k k7) (.slice (some ⟨U6, 0, none⟩) 1 1) (.slice q8 (k + 1) k8) X8 (by rfl) (by rfl) r8 ?_)
                            refine hK.out _ _ trivial (fun _ => ?_)
                            clear hK K
                            try simp only [Act.put, List.getElem_toArray, List.getElem_cons_zero, List.getElem_cons_succ, List.setIfInBounds_toArray, List.set_cons_zero, List.set_cons_succ]
                            clear r8
                            refine wpAnyH_ready (rs := [11]) (by kernel_rfl) (by simp) ?_
                            refine AllReadyH.cons (o := _) rfl (fun K hK => ?_) AllReadyH.nil
                            obtain ⟨g3, c3, X9, r9, o9, b9, hc9⟩ := ins3 (c := c2) b8 o8 (by rw [List.length_append, hlk]; rfl) HS.out.1.row HS.out.1.len hkn hn2 (⟨g2, k, none⟩) (fun _ => rfl)
                            refine sp_step rfl (sp_append (.tmp 81) (.tmp 84) 35 rfl (.slice q8 (k + 1) k8) (.slice (some ⟨g2, k, none⟩) (n2 - k) (c2 - k)) (.slice (some ⟨g3, 0, none⟩) (n2 + 1) c3) X9 (by rfl) (by rfl) r9 ?_)
                            refine hK.out _ _ trivial (fun _ => ?_)
                            clear hK K
                            try simp only [Act.put, List.getElem_toArray, List.getElem_cons_zero, List.getElem_cons_succ, List.setIfInBounds_toArray, List.set_cons_zero, List.set_cons_succ]
                            clear r9
                            refine wpAnyH_take (i := 12) (oi := _) (v := ?v12xb) rfl (by kernel_rfl) (by kernel_rfl) (by kernel_rfl) (fun _ _ _ h => h) (Or.inl ⟨by rfl, ?hy12xb⟩) trivial ?rest12xb
                            case hy12xb =>
                              intro W hSw
                              clear hSw
                              go_simp
                              try (with_reducible rfl)
                            try simp only [Act.put, List.getElem_toArray, List.getElem_cons_zero, List.getElem_cons_succ, List.setIfInBounds_toArray, List.set_cons_zero, List.set_cons_succ]
                            have HE := Lib.hid (And.intro o9 (And.intro b9 hc9))
                            refine wpAnyH_done (by kernel_rfl) ?_ _
                            go_wp2_with (fail)
                            go_roundw
                            case rel =>
                              refine ⟨j + 1, g3, c3, n2 + 1, by go_num, by go_num, hjM, ?_, HE.out.2.2, _, HIN2.out _ _ _ HE.out.2.1 HE.out.1 HE.out.2.2, HS.out.2.trans (HE.out.2.1.mono HS.out.2.size)⟩
                              have := HLB2.out
                              rw [HINL.out] at this
                              exact this
                            case measure => simp only [intOf]; omega
                        · skip
                          go_simp
                          obtain ⟨X10, hX10⟩ : ∃ Y, X0.alloc (.cells #[.string u] 9) = Y := ⟨_, rfl⟩
                          have b10 : Below wu.heap.size wu X10 := by rw [← hX10]; exact b0.alloc b0.size _
                          have nU10 : X10.heap[X0.heap.size]? = some (.cells #[.string u] 9 (0, 0)) := by rw [← hX10]; exact heap_alloc_new _ _
                          obtain ⟨U10, hU10⟩ : ∃ E, X0.heap.size = E := ⟨_, rfl⟩
                          rw [hX10, hU10]
                          rw [hU10] at nU10
                          clear hX10 hU10
                          refine hK.out _ _ trivial (fun _ => ?_)
                          clear hK K
                          try simp only [Act.put, List.getElem_toArray, List.getElem_cons_zero, List.getElem_cons_succ, List.setIfInBounds_toArray, List.set_cons_zero, List.set_cons_succ]
                          refine wpAnyH_ready (rs := [0]) (by kernel_rfl) (by simp) ?_
                          refine AllReadyH.cons (o := _) rfl (fun K hK => ?_) AllReadyH.nil
                          go_simp
                          obtain ⟨X11, hX11⟩ : ∃ Y, X10.alloc (.cells #[] 9) = Y := ⟨_, rfl⟩
                          have b11 : Below wu.heap.size wu X11 := by rw [← hX11]; exact b10.alloc b10.size _
                          have nE11 : X11.heap[X10.heap.size]? = some (.cells #[] 9 (0, 0)) := by rw [← hX11]; exact heap_alloc_new _ _
                          have lE11 : wu.heap.size ≤ X10.heap.size := b10.size
                          have zE11 : X10.heap.size < X11.heap.size := by rw [← hX11]; simp
                          have nU11 : X11.heap[U10]? = some (.cells #[.string u] 9 (0, 0)) := by rw [← hX11]; exact (Below.heap_alloc _ _ _ (it_lt nU10)).trans nU10
                          have uE11 : U10 ≠ X10.heap.size := Nat.ne_of_lt (it_lt nU10)
                          obtain ⟨E11, hE11⟩ : ∃ E, X10.heap.size = E := ⟨_, rfl⟩
                          rw [hX11, hE11]
                          rw [hE11] at nE11 lE11 zE11 uE11
                          clear hX11 hE11
                          refine hK.out _ _ trivial (fun _ => ?_)
                          clear hK K
                          try simp only [Act.put, List.getElem_toArray, List.getElem_cons_zero, List.getElem_cons_succ, List.setIfInBounds_toArray, List.set_cons_zero, List.set_cons_succ]
                          refine wpAnyH_ready (rs := [4]) (by kernel_rfl) (by simp) ?_
                          refine AllReadyH.cons (o := _) rfl (fun K hK => ?_) AllReadyH.nil
                          obtain ⟨q12, k12, X12, r12, o12, b12, ot12, s12⟩ := ins1 (c := c2) b11 nE11 lE11 HS.out.1.row HS.out.1.len hkn hn2
                          refine sp_step rfl (sp_append (.tmp 74) (.tmp 77) 35 rfl (.slice (some ⟨E11, 0, none⟩) 0 0) (.slice (some ⟨g2, 0, none⟩) k c2) (.slice q12 k k12) X12 (by rfl) (by rfl) r12 ?_)
                          have nU12 : X12.heap[U10]? = some (.cells #[.string u] 9 (0, 0)) := (ot12 _ (it_lt nU11) uE11).trans nU11
                          refine hK.out _ _ trivial (fun _ => ?_)
                          clear hK K
                          try simp only [Act.put, List.getElem_toArray, List.getElem_cons_zero, List.getElem_cons_succ, List.setIfInBounds_toArray, List.set_cons_zero, List.set_cons_succ]
                          clear r12 ot12
                          refine wpAnyH_ready (rs := [7]) (by kernel_rfl) (by simp) ?_
                          refine AllReadyH.cons (o := _) rfl (fun K hK => ?_) AllReadyH.nil
                          obtain ⟨q13, k13, X13, r13, o13, b13⟩ := ins2 (u := u) b12 o12 hlk hkb (cell_of_row _ _ 0 _ _ _ nU12)
                          refine sp_step rfl (sp_append (.tmp 78) (.tmp 80) 35 rfl (.slice q12 k k12) (.slice (some ⟨U10, 0, none⟩) 1 1) (.slice q13 (k + 1) k13) X13 (by rfl) (by rfl) r13 ?_)
                          refine hK.out _ _ trivial (fun _ => ?_)
                          clear hK K
                          try simp only [Act.put, List.getElem_toArray, List.getElem_cons_zero, List.getElem_cons_succ, List.setIfInBounds_toArray, List.set_cons_zero, List.set_cons_succ]
                          clear r13
                          refine wpAnyH_ready (rs := [11]) (by kernel_rfl) (by simp) ?_
                          refine AllReadyH.cons (o := _) rfl (fun K hK => ?_) AllReadyH.nil
                          obtain ⟨g3, c3, X14, r14, o14, b14, hc14⟩ := ins3 (c := c2) b13 o13 (by rw [List.length_append, hlk]; rfl) HS.out.1.row HS.out.1.len hkn hn2 (⟨g2, k, none⟩) (fun _ => rfl)
                          refine sp_step rfl (sp_append (.tmp 81) (.tmp 84) 35 rfl (.slice q13 (k + 1) k13) (.slice (some ⟨g2, k, none⟩) (n2 - k) (c2 - k)) (.slice (some ⟨g3, 0, none⟩) (n2 + 1) c3) X14 (by rfl) (by rfl) r14 ?_)
                          refine hK.out _ _ trivial (fun _ => ?_)
                          clear hK K
                          try simp only [Act.put, List.getElem_toArray, List.getElem_cons_zero, List.getElem_cons_succ, List.setIfInBounds_toArray, List.set_cons_zero, List.set_cons_succ]
                          clear r14
                          refine wpAnyH_take (i := 12) (oi := _) (v := ?v12xc) rfl (by kernel_rfl) (by kernel_rfl) (by kernel_rfl) (fun _ _ _ h => h) (Or.inl ⟨by rfl, ?hy12xc⟩) trivial ?rest12xc
                          case hy12xc =>
                            intro W hSw
                            clear hSw
                            go_simp
                            try (with_reducible rfl)
                          try simp only [Act.put, List.getElem_toArray, List.getElem_cons_zero, List.getElem_cons_succ, List.setIfInBounds_toArray, List.set_cons_zero, List.set_cons_succ]
                          have HE := Lib.hid (And.intro o14 (And.intro b14 hc14))
                          refine wpAnyH_done (by kernel_rfl) ?_ _
                          go_wp2_with (fail)
                          go_roundw
                          case rel =>
                            refine ⟨j + 1, g3, c3, n2 + 1, by go_num, by go_num, hjM, ?_, HE.out.2.2, _, HIN2.out _ _ _ HE.out.2.1 HE.out.1 HE.out.2.2, HS.out.2.trans (HE.out.2.1.mono HS.out.2.size)⟩
                            have := HLB2.out
                            rw [HINL.out] at this
                            exact this
                          case measure => simp only [intOf]; omega
                    · obtain rfl : k = n2 := by omega
                      have hkn' : ¬ (k : Int) < (k : Int) := by omega
                      have hke : ((k : Int) == (k : Int)) = true := by simp
                      have HI2 : Hid (insU L2 u = L2.take k ++ [u] ++ L2.drop k) := Lib.hid (by have h : insU L2 u = L2.take (lowU L2 u) ++ [u] ++ L2.drop (lowU L2 u) := if_neg (by rintro (h | h); exact hue h; rw [HKK.out, List.getElem?_eq_none (by rw [HS.out.1.len]; omega)] at h; cases h); rw [HKK.out] at h; exact h)
                      have HIN2 := Lib.hid (HINS.out HI2.out)
                      have HINL : Hid ((insU L2 u).length = k + 1) := Lib.hid (by rw [HI2.out, List.length_append, List.length_append, hlk, List.length_drop, HS.out.1.len]; simp <;> omega)
                      clear hue
                      have hkc : k ≤ c2 := by omega
                      by_cases hck : c2 = k
                      · obtain rfl : k = c2 := hck.symm
                        go_upto_region 18 with (fail)
                        refine wp_region_held_drew (S := fun _ => True) (by kernel_rfl) trivial (fun hHeld => ?_)
                        clear hHeld
                        have b0 : Below wu.heap.size wu wu.drew := (Below.refl _ _).drew
                        obtain ⟨X0, hX0⟩ : ∃ X, wu.drew = X := ⟨_, rfl⟩
                        rw [hX0] at b0 ⊢
                        clear hX0
                        refine wpAnyH_take (i := 1) (oi := _) (v := ?v1y) rfl (by kernel_rfl) (by kernel_rfl) (by kernel_rfl) (fun _ _ _ h => h) (Or.inl ⟨by rfl, ?hy1y⟩) trivial ?rest1y
                        case hy1y =>
                          intro W hSw
                          clear hSw
                          go_simp
                          try (with_reducible rfl)
                        try simp only [Act.put, List.getElem_toArray, List.getElem_cons_zero, List.getElem_cons_succ, List.setIfInBounds_toArray, List.set_cons_zero, List.set_cons_succ]
                        refine wpAnyH_take (i := 2) (oi := _) (v := ?v2y) rfl (by kernel_rfl) (by kernel_rfl) (by kernel_rfl) (fun _ _ _ h => h) (Or.inl ⟨by rfl, ?hy2y⟩) trivial ?rest2y
                        case hy2y =>
                          intro W hSw
                          clear hSw
                          go_simp
                          try (with_reducible rfl)
                        try simp only [Act.put, List.getElem_toArray, List.getElem_cons_zero, List.getElem_cons_succ, List.setIfInBounds_toArray, List.set_cons_zero, List.set_cons_succ]
                        refine wpAnyH_take (i := 3) (oi := _) (v := ?v3y) rfl (by kernel_rfl) (by kernel_rfl) (by kernel_rfl) (fun _ _ _ h => h) (Or.inl ⟨by rfl, ?hy3y⟩) trivial ?rest3y
                        case hy3y =>
                          intro W hSw
                          clear hSw
                          go_simp
                          try (with_reducible rfl)
                        try simp only [Act.put, List.getElem_toArray, List.getElem_cons_zero, List.getElem_cons_succ, List.setIfInBounds_toArray, List.set_cons_zero, List.set_cons_succ]
                        refine wpAnyH_take (i := 5) (oi := _) (v := ?v5y) rfl (by kernel_rfl) (by kernel_rfl) (by kernel_rfl) (fun _ _ _ h => h) (Or.inl ⟨by rfl, ?hy5y⟩) trivial ?rest5y
                        case hy5y =>
                          intro W hSw
                          clear hSw
                          go_simp
                          try (with_reducible rfl)
                        try simp only [Act.put, List.getElem_toArray, List.getElem_cons_zero, List.getElem_cons_succ, List.setIfInBounds_toArray, List.set_cons_zero, List.set_cons_succ]
                        refine wpAnyH_take (i := 8) (oi := _) (v := ?v8y) rfl (by kernel_rfl) (by kernel_rfl) (by kernel_rfl) (fun _ _ _ h => h) (Or.inl ⟨by rfl, ?hy8y⟩) trivial ?rest8y
                        case hy8y =>
                          intro W hSw
                          clear hSw
                          go_simp
                          try (with_reducible rfl)
                        try simp only [Act.put, List.getElem_toArray, List.getElem_cons_zero, List.getElem_cons_succ, List.setIfInBounds_toArray, List.set_cons_zero, List.set_cons_succ]
                        refine wpAnyH_take (i := 9) (oi := _) (v := ?v9y) rfl (by kernel_rfl) (by kernel_rfl) (by kernel_rfl) (fun _ _ _ h => h) (Or.inl ⟨by rfl, ?hy9y⟩) trivial ?rest9y
                        case hy9y =>
                          intro W hSw
                          clear hSw
                          go_simp
                          try (with_reducible rfl)
                        try simp only [Act.put, List.getElem_toArray, List.getElem_cons_zero, List.getElem_cons_succ, List.setIfInBounds_toArray, List.set_cons_zero, List.set_cons_succ]
                        refine wpAnyH_take (i := 10) (oi := _) (v := ?v10y) rfl (by kernel_rfl) (by kernel_rfl) (by kernel_rfl) (fun _ _ _ h => h) (Or.inl ⟨by rfl, ?hy10y⟩) trivial ?rest10y
                        case hy10y =>
                          intro W hSw
                          clear hSw
                          go_simp
                          try (with_reducible rfl)
                        try simp only [Act.put, List.getElem_toArray, List.getElem_cons_zero, List.getElem_cons_succ, List.setIfInBounds_toArray, List.set_cons_zero, List.set_cons_succ]
                        refine wpAnyH_ready (rs := [0, 6]) (by kernel_rfl) (by simp) ?_
                        refine AllReadyH.cons (o := _) rfl (fun K hK => ?_) (AllReadyH.cons (o := _) rfl (fun K hK => ?_) AllReadyH.nil)
                        · skip
                          go_simp
                          obtain ⟨X15, hX15⟩ : ∃ Y, X0.alloc (.cells #[] 9) = Y := ⟨_, rfl⟩
                          have b15 : Below wu.heap.size wu X15 := by rw [← hX15]; exact b0.alloc b0.size _
                          have nE15 : X15.heap[X0.heap.size]? = some (.cells #[] 9 (0, 0)) := by rw [← hX15]; exact heap_alloc_new _ _
                          have lE15 : wu.heap.size ≤ X0.heap.size := b0.size
                          have zE15 : X0.heap.size < X15.heap.size := by rw [← hX15]; simp
                          obtain ⟨E15, hE15⟩ : ∃ E, X0.heap.size = E := ⟨_, rfl⟩
                          rw [hX15, hE15]
                          rw [hE15] at nE15 lE15 zE15
                          clear hX15 hE15
                          refine hK.out _ _ trivial (fun _ => ?_)
                          clear hK K
                          try simp only [Act.put, List.getElem_toArray, List.getElem_cons_zero, List.getElem_cons_succ, List.setIfInBounds_toArray, List.set_cons_zero, List.set_cons_succ]
                          refine wpAnyH_ready (rs := [4, 6]) (by kernel_rfl) (by simp) ?_
                          refine AllReadyH.cons (o := _) rfl (fun K hK => ?_) (AllReadyH.cons (o := _) rfl (fun K hK => ?_) AllReadyH.nil)
                          · skip
                            obtain ⟨q16, k16, X16, r16, o16, b16, ot16, s16⟩ := ins1 (c := k) b15 nE15 lE15 HS.out.1.row HS.out.1.len hkn hn2
                            refine sp_step rfl (sp_append (.tmp 74) (.tmp 77) 35 rfl (.slice (some ⟨E15, 0, none⟩) 0 0) (.slice (some ⟨g2, 0, none⟩) k k) (.slice q16 k k16) X16 (by rfl) (by rfl) r16 ?_)
                            refine hK.out _ _ trivial (fun _ => ?_)
                            clear hK K
                            try simp only [Act.put, List.getElem_toArray, List.getElem_cons_zero, List.getElem_cons_succ, List.setIfInBounds_toArray, List.set_cons_zero, List.set_cons_succ]
                            clear r16 ot16
                            refine wpAnyH_ready (rs := [6]) (by kernel_rfl) (by simp) ?_
                            refine AllReadyH.cons (o := _) rfl (fun K hK => ?_) AllReadyH.nil
                            go_simp
                            obtain ⟨X17, hX17⟩ : ∃ Y, X16.alloc (.cells #[.string u] 9) = Y := ⟨_, rfl⟩
                            have b17 : Below wu.heap.size wu X17 := by rw [← hX17]; exact b16.alloc b16.size _
                            have nU17 : X17.heap[X16.heap.size]? = some (.cells #[.string u] 9 (0, 0)) := by rw [← hX17]; exact heap_alloc_new _ _
                            have o17 : OwnS X17 wu.heap.size q16 k16 (L2.take k) := by rw [← hX17]; exact o16.below ((Below.refl _ _).alloc (Nat.le_refl _) _)
                            obtain ⟨U17, hU17⟩ : ∃ E, X16.heap.size = E := ⟨_, rfl⟩
                            rw [hX17, hU17]
                            rw [hU17] at nU17
                            clear hX17 hU17
                            refine hK.out _ _ trivial (fun _ => ?_)
                            clear hK K
                            try simp only [Act.put, List.getElem_toArray, List.getElem_cons_zero, List.getElem_cons_succ, List.setIfInBounds_toArray, List.set_cons_zero, List.set_cons_succ]
                            refine wpAnyH_ready (rs := [7]) (by kernel_rfl) (by simp) ?_
                            refine AllReadyH.cons (o := _) rfl (fun K hK => ?_) AllReadyH.nil
                            obtain ⟨q18, k18, X18, r18, o18, b18⟩ := ins2 (u := u) b17 o17 hlk hkb (cell_of_row _ _ 0 _ _ _ nU17)
                            refine sp_step rfl (sp_append (.tmp 78) (.tmp 80) 35 rfl (.slice q16 k k16) (.slice (some ⟨U17, 0, none⟩) 1 1) (.slice q18 (k + 1) k18) X18 (by rfl) (by rfl) r18 ?_)
                            refine hK.out _ _ trivial (fun _ => ?_)
                            clear hK K
                            try simp only [Act.put, List.getElem_toArray, List.getElem_cons_zero, List.getElem_cons_succ, List.setIfInBounds_toArray, List.set_cons_zero, List.set_cons_succ]
                            clear r18
                            refine wpAnyH_ready (rs := [11]) (by kernel_rfl) (by simp) ?_
                            refine AllReadyH.cons (o := _) rfl (fun K hK => ?_) AllReadyH.nil
                            obtain ⟨g3, c3, X19, r19, o19, b19, hc19⟩ := ins3 (c := k) b18 o18 (by rw [List.length_append, hlk]; rfl) HS.out.1.row HS.out.1.len hkn hn2 (⟨g2, 0, none⟩) (fun h => absurd h (by omega))
                            simp only [Nat.sub_self] at r19
                            refine sp_step rfl (sp_append (.tmp 81) (.tmp 84) 35 rfl (.slice q18 (k + 1) k18) (.slice (some ⟨g2, 0, none⟩) 0 0) (.slice (some ⟨g3, 0, none⟩) (k + 1) c3) X19 (by rfl) (by rfl) r19 ?_)
                            refine hK.out _ _ trivial (fun _ => ?_)
                            clear hK K
                            try simp only [Act.put, List.getElem_toArray, List.getElem_cons_zero, List.getElem_cons_succ, List.setIfInBounds_toArray, List.set_cons_zero, List.set_cons_succ]
                            clear r19
                            refine wpAnyH_take (i := 12) (oi := _) (v := ?v12ya) rfl (by kernel_rfl) (by kernel_rfl) (by kernel_rfl) (fun _ _ _ h => h) (Or.inl ⟨by rfl, ?hy12ya⟩) trivial ?rest12ya
                            case hy12ya =>
                              intro W hSw
                              clear hSw
                              go_simp
                              try (with_reducible rfl)
                            try simp only [Act.put, List.getElem_toArray, List.getElem_cons_zero, List.getElem_cons_succ, List.setIfInBounds_toArray, List.set_cons_zero, List.set_cons_succ]
                            have HE := Lib.hid (And.intro o19 (And.intro b19 hc19))
                            refine wpAnyH_done (by kernel_rfl) ?_ _
                            go_wp2_with (fail)
                            go_roundw
                            case rel =>
                              refine ⟨j + 1, g3, c3, k + 1, by go_num, by go_num, hjM, ?_, HE.out.2.2, _, HIN2.out _ _ _ HE.out.2.1 HE.out.1 HE.out.2.2, HS.out.2.trans (HE.out.2.1.mono HS.out.2.size)⟩
                              have := HLB2.out
                              rw [HINL.out] at this
                              exact this
                            case measure => simp only [intOf]; omega
                          · skip
                            go_simp
                            obtain ⟨X20, hX20⟩ : ∃ Y, X15.alloc (.cells #[.string u] 9) = Y := ⟨_, rfl⟩
                            have b20 : Below wu.heap.size wu X20 := by rw [← hX20]; exact b15.alloc b15.size _
                            have nU20 : X20.heap[X15.heap.size]? = some (.cells #[.string u] 9 (0, 0)) := by rw [← hX20]; exact heap_alloc_new _ _
                            have nE20 : X20.heap[E15]? = some (.cells #[] 9 (0, 0)) := by rw [← hX20]; exact (Below.heap_alloc _ _ _ zE15).trans nE15
                            have uE20 : X15.heap.size ≠ E15 := Nat.ne_of_gt zE15
                            obtain ⟨U20, hU20⟩ : ∃ E, X15.heap.size = E := ⟨_, rfl⟩
                            rw [hX20, hU20]
                            rw [hU20] at nU20 uE20
                            clear hX20 hU20
                            refine hK.out _ _ trivial (fun _ => ?_)
                            clear hK K
                            try simp only [Act.put, List.getElem_toArray, List.getElem_cons_zero, List.getElem_cons_succ, List.setIfInBounds_toArray, List.set_cons_zero, List.set_cons_succ]
                            refine wpAnyH_ready (rs := [4]) (by kernel_rfl) (by simp) ?_
                            refine AllReadyH.cons (o := _) rfl (fun K hK => ?_) AllReadyH.nil
                            obtain ⟨q21, k21, X21, r21, o21, b21, ot21, s21⟩ := ins1 (c := k) b20 nE20 lE15 HS.out.1.row HS.out.1.len hkn hn2
                            refine sp_step rfl (sp_append (.tmp 74) (.tmp 77) 35 rfl (.slice (some ⟨E15, 0, none⟩) 0 0) (.slice (some ⟨g2, 0, none⟩) k k) (.slice q21 k k21) X21 (by rfl) (by rfl) r21 ?_)
                            have nU21 : X21.heap[U20]? = some (.cells #[.string u] 9 (0, 0)) := (ot21 _ (it_lt nU20) uE20).trans nU20
                            refine hK.out _ _ trivial (fun _ => ?_)
                            clear hK K
                            try simp only [Act.put, List.getElem_toArray, List.getElem_cons_zero, List.getElem_cons_succ, List.setIfInBounds_toArray, List.set_cons_zero, List.set_cons_succ]
                            clear r21 ot21
                            refine wpAnyH_ready (rs := [7]) (by kernel_rfl) (by simp) ?_
                            refine AllReadyH.cons (o := _) rfl (fun K hK => ?_) AllReadyH.nil
                            obtain ⟨q22, k22, X22, r22, o22, b22⟩ := ins2 (u := u) b21 o21 hlk hkb (cell_of_row _ _ 0 _ _ _ nU21)
                            refine sp_step rfl (sp_append (.tmp 78) (.tmp 80) 35 rfl (.slice q21 k k21) (.slice (some ⟨U20, 0, none⟩) 1 1) (.slice q22 (k + 1) k22) X22 (by rfl) (by rfl) r22 ?_)
                            refine hK.out _ _ trivial (fun _ => ?_)
                            clear hK K
                            try simp only [Act.put, List.getElem_toArray, List.getElem_cons_zero, List.getElem_cons_succ, List.setIfInBounds_toArray, List.set_cons_zero, List.set_cons_succ]
                            clear r22
                            refine wpAnyH_ready (rs := [11]) (by kernel_rfl) (by simp) ?_
                            refine AllReadyH.cons (o := _) rfl (fun K hK => ?_) AllReadyH.nil
                            obtain ⟨g3, c3, X23, r23, o23, b23, hc23⟩ := ins3 (c := k) b22 o22 (by rw [List.length_append, hlk]; rfl) HS.out.1.row HS.out.1.len hkn hn2 (⟨g2, 0, none⟩) (fun h => absurd h (by omega))
                            simp only [Nat.sub_self] at r23
                            refine sp_step rfl (sp_append (.tmp 81) (.tmp 84) 35 rfl (.slice q22 (k + 1) k22) (.slice (some ⟨g2, 0, none⟩) 0 0) (.slice (some ⟨g3, 0, none⟩) (k + 1) c3) X23 (by rfl) (by rfl) r23 ?_)
                            refine hK.out _ _ trivial (fun _ => ?_)
                            clear hK K
                            try simp only [Act.put, List.getElem_toArray, List.getElem_cons_zero, List.getElem_cons_succ, List.setIfInBounds_toArray, List.set_cons_zero, List.set_cons_succ]
                            clear r23
                            refine wpAnyH_take (i := 12) (oi := _) (v := ?v12yb) rfl (by kernel_rfl) (by kernel_rfl) (by kernel_rfl) (fun _ _ _ h => h) (Or.inl ⟨by rfl, ?hy12yb⟩) trivial ?rest12yb
                            case hy12yb =>
                              intro W hSw
                              clear hSw
                              go_simp
                              try (with_reducible rfl)
                            try simp only [Act.put, List.getElem_toArray, List.getElem_cons_zero, List.getElem_cons_succ, List.setIfInBounds_toArray, List.set_cons_zero, List.set_cons_succ]
                            have HE := Lib.hid (And.intro o23 (And.intro b23 hc23))
                            refine wpAnyH_done (by kernel_rfl) ?_ _
                            go_wp2_with (fail)
                            go_roundw
                            case rel =>
                              refine ⟨j + 1, g3, c3, k + 1, by go_num, by go_num, hjM, ?_, HE.out.2.2, _, HIN2.out _ _ _ HE.out.2.1 HE.out.1 HE.out.2.2, HS.out.2.trans (HE.out.2.1.mono HS.out.2.size)⟩
                              have := HLB2.out
                              rw [HINL.out] at this
                              exact this
                            case measure => simp only [intOf]; omega
                        · skip
                          go_simp
                          obtain ⟨X24, hX24⟩ : ∃ Y, X0.alloc (.cells #[.string u] 9) = Y := ⟨_, rfl⟩
                          have b24 : Below wu.heap.size wu X24 := by rw [← hX24]; exact b0.alloc b0.size _
                          have nU24 : X24.heap[X0.heap.size]? = some (.cells #[.string u] 9 (0, 0)) := by rw [← hX24]; exact heap_alloc_new _ _
                          obtain ⟨U24, hU24⟩ : ∃ E, X0.heap.size = E := ⟨_, rfl⟩
                          rw [hX24, hU24]
                          rw [hU24] at nU24
                          clear hX24 hU24
                          refine hK.out _ _ trivial (fun _ => ?_)
                          clear hK K
                          try simp only [Act.put, List.getElem_toArray, List.getElem_cons_zero, List.getElem_cons_succ, List.setIfInBounds_toArray, List.set_cons_zero, List.set_cons_succ]
                          refine wpAnyH_ready (rs := [0]) (by kernel_rfl) (by simp) ?_
                          refine AllReadyH.cons (o := _) rfl (fun K hK => ?_) AllReadyH.nil
                          go_simp
                          obtain ⟨X25, hX25⟩ : ∃ Y, X24.alloc (.cells #[] 9) = Y := ⟨_, rfl⟩
                          have b25 : Below wu.heap.size wu X25 := by rw [← hX25]; exact b24.alloc b24.size _
                          have nE25 : X25.heap[X24.heap.size]? = some (.cells #[] 9 (0, 0)) := by rw [← hX25]; exact heap_alloc_new _ _
                          have lE25 : wu.heap.size ≤ X24.heap.size := b24.size
                          have zE25 : X24.heap.size < X25.heap.size := by rw [← hX25]; simp
                          have nU25 : X25.heap[U24]? = some (.cells #[.string u] 9 (0, 0)) := by rw [← hX25]; exact (Below.heap_alloc _ _ _ (it_lt nU24)).trans nU24
                          have uE25 : U24 ≠ X24.heap.size := Nat.ne_of_lt (it_lt nU24)
                          obtain ⟨E25, hE25⟩ : ∃ E, X24.heap.size = E := ⟨_, rfl⟩
                          rw [hX25, hE25]
                          rw [hE25] at nE25 lE25 zE25 uE25
                          clear hX25 hE25
                          refine hK.out _ _ trivial (fun _ => ?_)
                          clear hK K
                          try simp only [Act.put, List.getElem_toArray, List.getElem_cons_zero, List.getElem_cons_succ, List.setIfInBounds_toArray, List.set_cons_zero, List.set_cons_succ]
                          refine wpAnyH_ready (rs := [4]) (by kernel_rfl) (by simp) ?_
                          refine AllReadyH.cons (o := _) rfl (fun K hK => ?_) AllReadyH.nil
                          obtain ⟨q26, k26, X26, r26, o26, b26, ot26, s26⟩ := ins1 (c := k) b25 nE25 lE25 HS.out.1.row HS.out.1.len hkn hn2
                          refine sp_step rfl (sp_append (.tmp 74) (.tmp 77) 35 rfl (.slice (some ⟨E25, 0, none⟩) 0 0) (.slice (some ⟨g2, 0, none⟩) k k) (.slice q26 k k26) X26 (by rfl) (by rfl) r26 ?_)
                          have nU26 : X26.heap[U24]? = some (.cells #[.string u] 9 (0, 0)) := (ot26 _ (it_lt nU25) uE25).trans nU25
                          refine hK.out _ _ trivial (fun _ => ?_)
                          clear hK K
                          try simp only [Act.put, List.getElem_toArray, List.getElem_cons_zero, List.getElem_cons_succ, List.setIfInBounds_toArray, List.set_cons_zero, List.set_cons_succ]
                          clear r26 ot26
                          refine wpAnyH_ready (rs := [7]) (by kernel_rfl) (by simp) ?_
                          refine AllReadyH.cons (o := _) rfl (fun K hK => ?_) AllReadyH.nil
                          obtain ⟨q27, k27, X27, r27, o27, b27⟩ := ins2 (u := u) b26 o26 hlk hkb (cell_of_row _ _ 0 _ _ _ nU26)
                          refine sp_step rfl (sp_append (.tmp 78) (.tmp 80) 35 rfl (.slice q26 k k26) (.slice (some ⟨U24, 0, none⟩) 1 1) (.slice q27 (k + 1) k27) X27 (by rfl) (by rfl) r27 ?_)
                          refine hK.out _ _ trivial (fun _ => ?_)
                          clear hK K
                          try simp only [Act.put, List.getElem_toArray, List.getElem_cons_zero, List.getElem_cons_succ, List.setIfInBounds_toArray, List.set_cons_zero, List.set_cons_succ]
                          clear r27
                          refine wpAnyH_ready (rs := [11]) (by kernel_rfl) (by simp) ?_
                          refine AllReadyH.cons (o := _) rfl (fun K hK => ?_) AllReadyH.nil
                          obtain ⟨g3, c3, X28, r28, o28, b28, hc28⟩ := ins3 (c := k) b27 o27 (by rw [List.length_append, hlk]; rfl) HS.out.1.row HS.out.1.len hkn hn2 (⟨g2, 0, none⟩) (fun h => absurd h (by omega))
                          simp only [Nat.sub_self] at r28
                          refine sp_step rfl (sp_append (.tmp 81) (.tmp 84) 35 rfl (.slice q27 (k + 1) k27) (.slice (some ⟨g2, 0, none⟩) 0 0) (.slice (some ⟨g3, 0, none⟩) (k + 1) c3) X28 (by rfl) (by rfl) r28 ?_)
                          refine hK.out _ _ trivial (fun _ => ?_)
                          clear hK K
                          try simp only [Act.put, List.getElem_toArray, List.getElem_cons_zero, List.getElem_cons_succ, List.setIfInBounds_toArray, List.set_cons_zero, List.set_cons_succ]
                          clear r28
                          refine wpAnyH_take (i := 12) (oi := _) (v := ?v12yc) rfl (by kernel_rfl) (by kernel_rfl) (by kernel_rfl) (fun _ _ _ h => h) (Or.inl ⟨by rfl, ?hy12yc⟩) trivial ?rest12yc
                          case hy12yc =>
                            intro W hSw
                            clear hSw
                            go_simp
                            try (with_reducible rfl)
                          try simp only [Act.put, List.getElem_toArray, List.getElem_cons_zero, List.getElem_cons_succ, List.setIfInBounds_toArray, List.set_cons_zero, List.set_cons_succ]
                          have HE := Lib.hid (And.intro o28 (And.intro b28 hc28))
                          refine wpAnyH_done (by kernel_rfl) ?_ _
                          go_wp2_with (fail)
                          go_roundw
                          case rel =>
                            refine ⟨j + 1, g3, c3, k + 1, by go_num, by go_num, hjM, ?_, HE.out.2.2, _, HIN2.out _ _ _ HE.out.2.1 HE.out.1 HE.out.2.2, HS.out.2.trans (HE.out.2.1.mono HS.out.2.size)⟩
                            have := HLB2.out
                            rw [HINL.out] at this
                            exact this
                          case measure => simp only [intOf]; omega
                      · skip
                        go_upto_region 18 with (fail)
                        refine wp_region_held_drew (S := fun _ => True) (by kernel_rfl) trivial (fun hHeld => ?_)
                        clear hHeld
                        have b0 : Below wu.heap.size wu wu.drew := (Below.refl _ _).drew
                        obtain ⟨X0, hX0⟩ : ∃ X, wu.drew = X := ⟨_, rfl⟩
                        rw [hX0] at b0 ⊢
                        clear hX0
                        refine wpAnyH_take (i := 1) (oi := _) (v := ?v1z) rfl (by kernel_rfl) (by kernel_rfl) (by kernel_rfl) (fun _ _ _ h => h) (Or.inl ⟨by rfl, ?hy1z⟩) trivial ?rest1z
                        case hy1z =>
                          intro W hSw
                          clear hSw
                          go_simp
                          try (with_reducible rfl)
                        try simp only [Act.put, List.getElem_toArray, List.getElem_cons_zero, List.getElem_cons_succ, List.setIfInBounds_toArray, List.set_cons_zero, List.set_cons_succ]
                        refine wpAnyH_take (i := 2) (oi := _) (v := ?v2z) rfl (by kernel_rfl) (by kernel_rfl) (by kernel_rfl) (fun _ _ _ h => h) (Or.inl ⟨by rfl, ?hy2z⟩) trivial ?rest2z
                        case hy2z =>
                          intro W hSw
                          clear hSw
                          go_simp
                          try (with_reducible rfl)
                        try simp only [Act.put, List.getElem_toArray, List.getElem_cons_zero, List.getElem_cons_succ, List.setIfInBounds_toArray, List.set_cons_zero, List.set_cons_succ]
                        refine wpAnyH_take (i := 3) (oi := _) (v := ?v3z) rfl (by kernel_rfl) (by kernel_rfl) (by kernel_rfl) (fun _ _ _ h => h) (Or.inl ⟨by rfl, ?hy3z⟩) trivial ?rest3z
                        case hy3z =>
                          intro W hSw
                          clear hSw
                          go_simp
                          try (with_reducible rfl)
                        try simp only [Act.put, List.getElem_toArray, List.getElem_cons_zero, List.getElem_cons_succ, List.setIfInBounds_toArray, List.set_cons_zero, List.set_cons_succ]
                        refine wpAnyH_take (i := 5) (oi := _) (v := ?v5z) rfl (by kernel_rfl) (by kernel_rfl) (by kernel_rfl) (fun _ _ _ h => h) (Or.inl ⟨by rfl, ?hy5z⟩) trivial ?rest5z
                        case hy5z =>
                          intro W hSw
                          clear hSw
                          go_simp
                          try (with_reducible rfl)
                        try simp only [Act.put, List.getElem_toArray, List.getElem_cons_zero, List.getElem_cons_succ, List.setIfInBounds_toArray, List.set_cons_zero, List.set_cons_succ]
                        refine wpAnyH_take (i := 8) (oi := _) (v := ?v8z) rfl (by kernel_rfl) (by kernel_rfl) (by kernel_rfl) (fun _ _ _ h => h) (Or.inl ⟨by rfl, ?hy8z⟩) trivial ?rest8z
                        case hy8z =>
                          intro W hSw
                          clear hSw
                          go_simp
                          try (with_reducible rfl)
                        try simp only [Act.put, List.getElem_toArray, List.getElem_cons_zero, List.getElem_cons_succ, List.setIfInBounds_toArray, List.set_cons_zero, List.set_cons_succ]
                        refine wpAnyH_take (i := 9) (oi := _) (v := ?v9z) rfl (by kernel_rfl) (by kernel_rfl) (by kernel_rfl) (fun _ _ _ h => h) (Or.inl ⟨by rfl, ?hy9z⟩) trivial ?rest9z
                        case hy9z =>
                          intro W hSw
                          clear hSw
                          go_simp
                          try (with_reducible rfl)
                        try simp only [Act.put, List.getElem_toArray, List.getElem_cons_zero, List.getElem_cons_succ, List.setIfInBounds_toArray, List.set_cons_zero, List.set_cons_succ]
                        refine wpAnyH_take (i := 10) (oi := _) (v := ?v10z) rfl (by kernel_rfl) (by kernel_rfl) (by kernel_rfl) (fun _ _ _ h => h) (Or.inl ⟨by rfl, ?hy10z⟩) trivial ?rest10z
                        case hy10z =>
                          intro W hSw
                          clear hSw
                          go_simp
                          try (with_reducible rfl)
                        try simp only [Act.put, List.getElem_toArray, List.getElem_cons_zero, List.getElem_cons_succ, List.setIfInBounds_toArray, List.set_cons_zero, List.set_cons_succ]
                        refine wpAnyH_ready (rs := [0, 6]) (by kernel_rfl) (by simp) ?_
                        refine AllReadyH.cons (o := _) rfl (fun K hK => ?_) (AllReadyH.cons (o := _) rfl (fun K hK => ?_) AllReadyH.nil)
                        · skip
                          go_simp
                          obtain ⟨X29, hX29⟩ : ∃ Y, X0.alloc (.cells #[] 9) = Y := ⟨_, rfl⟩
                          have b29 : Below wu.heap.size wu X29 := by rw [← hX29]; exact b0.alloc b0.size _
                          have nE29 : X29.heap[X0.heap.size]? = some (.cells #[] 9 (0, 0)) := by rw [← hX29]; exact heap_alloc_new _ _
                          have lE29 : wu.heap.size ≤ X0.heap.size := b0.size
                          have zE29 : X0.heap.size < X29.heap.size := by rw [← hX29]; simp
                          obtain ⟨E29, hE29⟩ : ∃ E, X0.heap.size = E := ⟨_, rfl⟩
                          rw [hX29, hE29]
                          rw [hE29] at nE29 lE29 zE29
                          clear hX29 hE29
                          refine hK.out _ _ trivial (fun _ => ?_)
                          clear hK K
                          try simp only [Act.put, List.getElem_toArray, List.getElem_cons_zero, List.getElem_cons_succ, List.setIfInBounds_toArray, List.set_cons_zero, List.set_cons_succ]
                          refine wpAnyH_ready (rs := [4, 6]) (by kernel_rfl) (by simp) ?_
                          refine AllReadyH.cons (o := _) rfl (fun K hK => ?_) (AllReadyH.cons (o := _) rfl (fun K hK => ?_) AllReadyH.nil)
                          · skip
                            obtain ⟨q30, k30, X30, r30, o30, b30, ot30, s30⟩ := ins1 (c := c2) b29 nE29 lE29 HS.out.1.row HS.out.1.len hkn hn2
                            refine sp_step rfl (sp_append (.tmp 74) (.tmp 77) 35 rfl (.slice (some ⟨E29, 0, none⟩) 0 0) (.slice (some ⟨g2, 0, none⟩) k c2) (.slice q30 k k30) X30 (by rfl) (by rfl) r30 ?_)
                            refine hK.out _ _ trivial (fun _ => ?_)
                            clear hK K
                            try simp only [Act.put, List.getElem_toArray, List.getElem_cons_zero, List.getElem_cons_succ, List.setIfInBounds_toArray, List.set_cons_zero, List.set_cons_succ]
                            clear r30 ot30
                            refine wpAnyH_ready (rs := [6]) (by kernel_rfl) (by simp) ?_
                            refine AllReadyH.cons (o := _) rfl (fun K hK => ?_) AllReadyH.nil
                            go_simp
                            obtain ⟨X31, hX31⟩ : ∃ Y, X30.alloc (.cells #[.string u] 9) = Y := ⟨_, rfl⟩
                            have b31 : Below wu.heap.size wu X31 := by rw [← hX31]; exact b30.alloc b30.size _
                            have nU31 : X31.heap[X30.heap.size]? = some (.cells #[.string u] 9 (0, 0)) := by rw [← hX31]; exact heap_alloc_new _ _
                            have o31 : OwnS X31 wu.heap.size q30 k30 (L2.take k) := by rw [← hX31]; exact o30.below ((Below.refl _ _).alloc (Nat.le_refl _) _)
                            obtain ⟨U31, hU31⟩ : ∃ E, X30.heap.size = E := ⟨_, rfl⟩
                            rw [hX31, hU31]
                            rw [hU31] at nU31
                            clear hX31 hU31
                            refine hK.out _ _ trivial (fun _ => ?_)
                            clear hK K
                            try simp only [Act.put, List.getElem_toArray, List.getElem_cons_zero, List.getElem_cons_succ, List.setIfInBounds_toArray, List.set_cons_zero, List.set_cons_succ]
                            refine wpAnyH_ready (rs := [7]) (by kernel_rfl) (by simp) ?_
                            refine AllReadyH.cons (o := _) rfl (fun K hK => ?_) AllReadyH.nil
                            obtain ⟨q32, k32, X32, r32, o32, b32⟩ := ins2 (u := u) b31 o31 hlk hkb (cell_of_row _ _ 0 _ _ _ nU31)
                            refine sp_step rfl (sp_append (.tmp 78) (.tmp 80) 35 rfl (.slice q30 k k30) (.slice (some ⟨U31, 0, none⟩) 1 1) (.slice q32 (k + 1) k32) X32 (by rfl) (by rfl) r32 ?_)
                            refine hK.out _ _ trivial (fun _ => ?_)
                            clear hK K
                            try simp only [Act.put, List.getElem_toArray, List.getElem_cons_zero, List.getElem_cons_succ, List.setIfInBounds_toArray, List.set_cons_zero, List.set_cons_succ]
                            clear r32
                            refine wpAnyH_ready (rs := [11]) (by kernel_rfl) (by simp) ?_
                            refine AllReadyH.cons (o := _) rfl (fun K hK => ?_) AllReadyH.nil
                            obtain ⟨g3, c3, X33, r33, o33, b33, hc33⟩ := ins3 (c := c2) b32 o32 (by rw [List.length_append, hlk]; rfl) HS.out.1.row HS.out.1.len hkn hn2 (⟨g2, k, none⟩) (fun _ => rfl)
                            simp only [Nat.sub_self] at r33
                            refine sp_step rfl (sp_append (.tmp 81) (.tmp 84) 35 rfl (.slice q32 (k + 1) k32) (.slice (some ⟨g2, k, none⟩) 0 (c2 - k)) (.slice (some ⟨g3, 0, none⟩) (k + 1) c3) X33 (by rfl) (by rfl) r33 ?_)
                            refine hK.out _ _ trivial (fun _ => ?_)
                            clear hK K
                            try simp only [Act.put, List.getElem_toArray, List.getElem_cons_zero, List.getElem_cons_succ, List.setIfInBounds_toArray, List.set_cons_zero, List.set_cons_succ]
                            clear r33
                            refine wpAnyH_take (i := 12) (oi := _) (v := ?v12za) rfl (by kernel_rfl) (by kernel_rfl) (by kernel_rfl) (fun _ _ _ h => h) (Or.inl ⟨by rfl, ?hy12za⟩) trivial ?rest12za
                            case hy12za =>
                              intro W hSw
                              clear hSw
                              go_simp
                              try (with_reducible rfl)
                            try simp only [Act.put, List.getElem_toArray, List.getElem_cons_zero, List.getElem_cons_succ, List.setIfInBounds_toArray, List.set_cons_zero, List.set_cons_succ]
                            have HE := Lib.hid (And.intro o33 (And.intro b33 hc33))
                            refine wpAnyH_done (by kernel_rfl) ?_ _
                            go_wp2_with (fail)
                            go_roundw
                            case rel =>
                              refine ⟨j + 1, g3, c3, k + 1, by go_num, by go_num, hjM, ?_, HE.out.2.2, _, HIN2.out _ _ _ HE.out.2.1 HE.out.1 HE.out.2.2, HS.out.2.trans (HE.out.2.1.mono HS.out.2.size)⟩
                              have := HLB2.out
                              rw [HINL.out] at this
                              exact this
                            case measure => simp only [intOf]; omega
                          · skip
                            go_simp
                            obtain ⟨X34, hX34⟩ : ∃ Y, X29.alloc (.cells #[.string u] 9) = Y := ⟨_, rfl⟩
                            have b34 : Below wu.heap.size wu X34 := by rw [← hX34]; exact b29.alloc b29.size _
                            have nU34 : X34.heap[X29.heap.size]? = some (.cells #[.string u] 9 (0, 0)) := by rw [← hX34]; exact heap_alloc_new _ _
                            have nE34 : X34.heap[E29]? = some (.cells #[] 9 (0, 0)) := by rw [← hX34]; exact (Below.heap_alloc _ _ _ zE29).trans nE29
                            have uE34 : X29.heap.size ≠ E29 := Nat.ne_of_gt zE29
                            obtain ⟨U34, hU34⟩ : ∃ E, X29.heap.size = E := ⟨_, rfl⟩
                            rw [hX34, hU34]
                            rw [hU34] at nU34 uE34
                            clear hX34 hU34
                            refine hK.out _ _ trivial (fun _ => ?_)
                            clear hK K
                            try simp only [Act.put, List.getElem_toArray, List.getElem_cons_zero, List.getElem_cons_succ, List.setIfInBounds_toArray, List.set_cons_zero, List.set_cons_succ]
                            refine wpAnyH_ready (rs := [4]) (by kernel_rfl) (by simp) ?_
                            refine AllReadyH.cons (o := _) rfl (fun K hK => ?_) AllReadyH.nil
                            obtain ⟨q35, k35, X35, r35, o35, b35, ot35, s35⟩ := ins1 (c := c2) b34 nE34 lE29 HS.out.1.row HS.out.1.len hkn hn2
                            refine sp_step rfl (sp_append (.tmp 74) (.tmp 77) 35 rfl (.slice (some ⟨E29, 0, none⟩) 0 0) (.slice (some ⟨g2, 0, none⟩) k c2) (.slice q35 k k35) X35 (by rfl) (by rfl) r35 ?_)
                            have nU35 : X35.heap[U34]? = some (.cells #[.string u] 9 (0, 0)) := (ot35 _ (it_lt nU34) uE34).trans nU34
                            refine hK.out _ _ trivial (fun _ => ?_)
                            clear hK K
                            try simp only [Act.put, List.getElem_toArray, List.getElem_cons_zero, List.getElem_cons_succ, List.setIfInBounds_toArray, List.set_cons_zero, List.set_cons_succ]
                            clear r35 ot35
                            refine wpAnyH_ready (rs := [7]) (by kernel_rfl) (by simp) ?_
                            refine AllReadyH.cons (o := _) rfl (fun K hK => ?_) AllReadyH.nil
                            obtain ⟨q36, k36, X36, r36, o36, b36⟩ := ins2 (u := u) b35 o35 hlk hkb (cell_of_row _ _ 0 _ _ _ nU35)
                            refine sp_step rfl (sp_append (.tmp 78) (.tmp 80) 35 rfl (.slice q35 k k35) (.slice (some ⟨U34, 0, none⟩) 1 1) (.slice q36 (k + 1) k36) X36 (by rfl) (by rfl) r36 ?_)
                            refine hK.out _ _ trivial (fun _ => ?_)
                            clear hK K
                            try simp only [Act.put, List.getElem_toArray, List.getElem_cons_zero, List.getElem_cons_succ, List.setIfInBounds_toArray, List.set_cons_zero, List.set_cons_succ]
                            clear r36
                            refine wpAnyH_ready (rs := [11]) (by kernel_rfl) (by simp) ?_
                            refine AllReadyH.cons (o := _) rfl (fun K hK => ?_) AllReadyH.nil
                            obtain ⟨g3, c3, X37, r37, o37, b37, hc37⟩ := ins3 (c := c2) b36 o36 (by rw [List.length_append, hlk]; rfl) HS.out.1.row HS.out.1.len hkn hn2 (⟨g2, k, none⟩) (fun _ => rfl)
                            simp only [Nat.sub_self] at r37
                            refine sp_step rfl (sp_append (.tmp 81) (.tmp 84) 35 rfl (.slice q36 (k + 1) k36) (.slice (some ⟨g2, k, none⟩) 0 (c2 - k)) (.slice (some ⟨g3, 0, none⟩) (k + 1) c3) X37 (by rfl) (by rfl) r37 ?_)
                            refine hK.out _ _ trivial (fun _ => ?_)
                            clear hK K
                            try simp only [Act.put, List.getElem_toArray, List.getElem_cons_zero, List.getElem_cons_succ, List.setIfInBounds_toArray, List.set_cons_zero, List.set_cons_succ]
                            clear r37
                            refine wpAnyH_take (i := 12) (oi := _) (v := ?v12zb) rfl (by kernel_rfl) (by kernel_rfl) (by kernel_rfl) (fun _ _ _ h => h) (Or.inl ⟨by rfl, ?hy12zb⟩) trivial ?rest12zb
                            case hy12zb =>
                              intro W hSw
                              clear hSw
                              go_simp
                              try (with_reducible rfl)
                            try simp only [Act.put, List.getElem_toArray, List.getElem_cons_zero, List.getElem_cons_succ, List.setIfInBounds_toArray, List.set_cons_zero, List.set_cons_succ]
                            have HE := Lib.hid (And.intro o37 (And.intro b37 hc37))
                            refine wpAnyH_done (by kernel_rfl) ?_ _
                            go_wp2_with (fail)
                            go_roundw
                            case rel =>
                              refine ⟨j + 1, g3, c3, k + 1, by go_num, by go_num, hjM, ?_, HE.out.2.2, _, HIN2.out _ _ _ HE.out.2.1 HE.out.1 HE.out.2.2, HS.out.2.trans (HE.out.2.1.mono HS.out.2.size)⟩
                              have := HLB2.out
                              rw [HINL.out] at this
                              exact this
                            case measure => simp only [intOf]; omega
                        · skip
                          go_simp
                          obtain ⟨X38, hX38⟩ : ∃ Y, X0.alloc (.cells #[.string u] 9) = Y := ⟨_, rfl⟩
                          have b38 : Below wu.heap.size wu X38 := by rw [← hX38]; exact b0.alloc b0.size _
                          have nU38 : X38.heap[X0.heap.size]? = some (.cells #[.string u] 9 (0, 0)) := by rw [← hX38]; exact heap_alloc_new _ _
                          obtain ⟨U38, hU38⟩ : ∃ E, X0.heap.size = E := ⟨_, rfl⟩
                          rw [hX38, hU38]
                          rw [hU38] at nU38
                          clear hX38 hU38
                          refine hK.out _ _ trivial (fun _ => ?_)
                          clear hK K
                          try simp only [Act.put, List.getElem_toArray, List.getElem_cons_zero, List.getElem_cons_succ, List.setIfInBounds_toArray, List.set_cons_zero, List.set_cons_succ]
                          refine wpAnyH_ready (rs := [0]) (by kernel_rfl) (by simp) ?_
                          refine AllReadyH.cons (o := _) rfl (fun K hK => ?_) AllReadyH.nil
                          go_simp
                          obtain ⟨X39, hX39⟩ : ∃ Y, X38.alloc (.cells #[] 9) = Y := ⟨_, rfl⟩
                          have b39 : Below wu.heap.size wu X39 := by rw [← hX39]; exact b38.alloc b38.size _
                          have nE39 : X39.heap[X38.heap.size]? = some (.cells #[] 9 (0, 0)) := by rw [← hX39]; exact heap_alloc_new _ _
                          have lE39 : wu.heap.size ≤ X38.heap.size := b38.size
                          have zE39 : X38.heap.size < X39.heap.size := by rw [← hX39]; simp
                          have nU39 : X39.heap[U38]? = some (.cells #[.string u] 9 (0, 0)) := by rw [← hX39]; exact (Below.heap_alloc _ _ _ (it_lt nU38)).trans nU38
                          have uE39 : U38 ≠ X38.heap.size := Nat.ne_of_lt (it_lt nU38)
                          obtain ⟨E39, hE39⟩ : ∃ E, X38.heap.size = E := ⟨_, rfl⟩
                          rw [hX39, hE39]
                          rw [hE39] at nE39 lE39 zE39 uE39
                          clear hX39 hE39
                          refine hK.out _ _ trivial (fun _ => ?_)
                          clear hK K
                          try simp only [Act.put, List.getElem_toArray, List.getElem_cons_zero, List.getElem_cons_succ, List.setIfInBounds_toArray, List.set_cons_zero, List.set_cons_succ]
                          refine wpAnyH_ready (rs := [4]) (by kernel_rfl) (by simp) ?_
                          refine AllReadyH.cons (o := _) rfl (fun K hK => ?_) AllReadyH.nil
                          obtain ⟨q40, k40, X40, r40, o40, b40, ot40, s40⟩ := ins1 (c := c2) b39 nE39 lE39 HS.out.1.row HS.out.1.len hkn hn2
                          refine sp_step rfl (sp_append (.tmp 74) (.tmp 77) 35 rfl (.slice (some ⟨E39, 0, none⟩) 0 0) (.slice (some ⟨g2, 0, none⟩) k c2) (.slice q40 k k40) X40 (by rfl) (by rfl) r40 ?_)
                          have nU40 : X40.heap[U38]? = some (.cells #[.string u] 9 (0, 0)) := (ot40 _ (it_lt nU39) uE39).trans nU39
                          refine hK.out _ _ trivial (fun _ => ?_)
                          clear hK K
                          try simp only [Act.put, List.getElem_toArray, List.getElem_cons_zero, List.getElem_cons_succ, List.setIfInBounds_toArray, List.set_cons_zero, List.set_cons_succ]
                          clear r40 ot40
                          refine wpAnyH_ready (rs := [7]) (by kernel_rfl) (by simp) ?_
                          refine AllReadyH.cons (o := _) rfl (fun K hK => ?_) AllReadyH.nil
                          obtain ⟨q41, k41, X41, r41, o41, b41⟩ := ins2 (u := u) b40 o40 hlk hkb (cell_of_row _ _ 0 _ _ _ nU40)
                          refine sp_step rfl (sp_append (.tmp 78) (.tmp 80) 35 rfl (.slice q40 k k40) (.slice (some ⟨U38, 0, none⟩) 1 1) (.slice q41 (k + 1) k41) X41 (by rfl) (by rfl) r41 ?_)
                          refine hK.out _ _ trivial (fun _ => ?_)
                          clear hK K
                          try simp only [Act.put, List.getElem_toArray, List.getElem_cons_zero, List.getElem_cons_succ, List.setIfInBounds_toArray, List.set_cons_zero, List.set_cons_succ]
                          clear r41
                          refine wpAnyH_ready (rs := [11]) (by kernel_rfl) (by simp) ?_
                          refine AllReadyH.cons (o := _) rfl (fun K hK => ?_) AllReadyH.nil
                          obtain ⟨g3, c3, X42, r42, o42, b42, hc42⟩ := ins3 (c := c2) b41 o41 (by rw [List.length_append, hlk]; rfl) HS.out.1.row HS.out.1.len hkn hn2 (⟨g2, k, none⟩) (fun _ => rfl)
                          simp only [Nat.sub_self] at r42
                          refine sp_step rfl (sp_append (.tmp 81) (.tmp 84) 35 rfl (.slice q41 (k + 1) k41) (.slice (some ⟨g2, k, none⟩) 0 (c2 - k)) (.slice (some ⟨g3, 0, none⟩) (k + 1) c3) X42 (by rfl) (by rfl) r42 ?_)
                          refine hK.out _ _ trivial (fun _ => ?_)
                          clear hK K
                          try simp only [Act.put, List.getElem_toArray, List.getElem_cons_zero, List.getElem_cons_succ, List.setIfInBounds_toArray, List.set_cons_zero, List.set_cons_succ]
                          clear r42
                          refine wpAnyH_take (i := 12) (oi := _) (v := ?v12zc) rfl (by kernel_rfl) (by kernel_rfl) (by kernel_rfl) (fun _ _ _ h => h) (Or.inl ⟨by rfl, ?hy12zc⟩) trivial ?rest12zc
                          case hy12zc =>
                            intro W hSw
                            clear hSw
                            go_simp
                            try (with_reducible rfl)
                          try simp only [Act.put, List.getElem_toArray, List.getElem_cons_zero, List.getElem_cons_succ, List.setIfInBounds_toArray, List.set_cons_zero, List.set_cons_succ]
                          have HE := Lib.hid (And.intro o42 (And.intro b42 hc42))
                          refine wpAnyH_done (by kernel_rfl) ?_ _
                          go_wp2_with (fail)
                          go_roundw
                          case rel =>
                            refine ⟨j + 1, g3, c3, k + 1, by go_num, by go_num, hjM, ?_, HE.out.2.2, _, HIN2.out _ _ _ HE.out.2.1 HE.out.1 HE.out.2.2, HS.out.2.trans (HE.out.2.1.mono HS.out.2.size)⟩
                            have := HLB2.out
                            rw [HINL.out] at this
                            exact this
                          case measure => simp only [intOf]; omega
            · have hj' : ¬ (j : Int) < (M : Int) := by omega
              go_wp2_with (fail)
              go_roundw
              case rel =>
                have hje : j = M := by omega
                refine ⟨i + 1, g2, c2, n2, by go_num, by go_num, hlt, hn2, hnc2, L2, ?_⟩
                have h := HS.out.1
                rw [hje, show us.take M = us from List.take_of_length_le (by have := HUS.out.2; omega), ← HUS.out.1, ← HU.out.1] at h
                exact h
              case measure => simp only [intOf]; omega
    · have hi' : ¬ (i : Int) < (N : Int) := by omega
      go_wp2_with (fail)
      go_ret
      have hL : L = insAll [] (t.all.flatMap AT.uris) := by rw [HI.out.2.is, List.take_of_length_le (by have := HN.out; omega), HST.out.2.1]
      refine ⟨g', c', ?_, HB.out.trans ((HST.out.1.trans (HI.out.1.mono HST.out.1.size)).mono HB.out.size), ?_⟩
      · rw [← hL, HI.out.2.len]
        rfl
      · rw [← hL]
        exact HI.out.2.row
end Go.Proofs.YtfmlmdfehaajbaaGreatDoor
