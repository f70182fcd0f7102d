/- Proved here: the law CacheOrders. -/
import Derived.Test.YtppfhbkfidlbaaaCKeys
import Derived.Test.YtppfhbkfidlbaaaCSame
import Derived.Test.YtppfhbkfidlbaaaCAwake
import Derived.Deep.DeepCutAuto
import Derived.Deep.CutBlock
namespace Go.Proofs.Ytppfhbkfidlbaaa
open Go.RowKit Go.ChangeMaps

def entK (k : Int) : EntI := ⟨k, k, false, 0⟩
theorem keep_there {p q : List Int} {k : Int} (h : (p ++ k :: q).Nodup) : (p ++ k :: q).filter (· != k) = p ++ q := by
  rw [List.nodup_append, List.nodup_cons] at h
  obtain ⟨_, ⟨h1, _⟩, h2⟩ := h
  rw [List.filter_append, List.filter_cons_of_neg (by simp), List.filter_eq_self.2, List.filter_eq_self.2]
  · intro x hx
    simp only [bne_iff_ne, ne_eq]
    rintro rfl
    exact h1 hx
  · intro x hx
    simp only [bne_iff_ne, ne_eq]
    rintro rfl
    exact h2 x hx x List.mem_cons_self rfl
theorem keep_none {l : List Int} {k : Int} (h : k ∉ l) : l.filter (· != k) = l := by
  rw [List.filter_eq_self]
  intro x hx
  simp only [bne_iff_ne, ne_eq]
  rintro rfl
  exact h hx
theorem keyI (k : Int) (h1 : -9223372036854775808 ≤ k) (h2 : k ≤ 9223372036854775807) : keyOf Try.prog 3 (.int .i64 k) = some (.int .i64 k) := by
  refine Maps.keyOf_int_mk Try.underlying3 ?_
  have e1 : IntKind.i64.min = -9223372036854775808 := rfl
  have e2 : IntKind.i64.max = 9223372036854775807 := rfl
  simp only [Lit.wf, Bool.and_eq_true, decide_eq_true_eq]
  omega
theorem places_num (n : Int) : ∃ m : Nat, wrap64 (1 + wrap64 ((IntKind.u64.wrap n).tmod 20)) = (m : Int) ∧ 1 ≤ m ∧ m ≤ 20 := by
  have h0 : 0 ≤ IntKind.u64.wrap n := by
    have e : IntKind.u64.wrap n = n % 18446744073709551616 := by simp [IntKind.wrap, IntKind.signed, IntKind.bits]
    rw [e]
    omega
  obtain ⟨U, hU⟩ : ∃ U : Nat, IntKind.u64.wrap n = (U : Int) := ⟨_, (Int.toNat_of_nonneg h0).symm⟩
  rw [hU, show (20 : Int) = ((20 : Nat) : Int) from rfl, ← Int.ofNat_tmod]
  refine ⟨1 + U % 20, ?_, by omega, by omega⟩
  unfold wrap64
  omega
theorem HoldsI.step {W W' : World} {q : Option Addr} {l : List Int} {F : Nat → Prop} (h : HoldsI W q l) (t : Tch F W W') (hq : ∀ b off, q = some ⟨b, off, none⟩ → ¬ F b) : HoldsI W' q l := fun h0 => by
  obtain ⟨b, off, e, hc⟩ := h h0
  exact ⟨b, off, e, fun j hj => (World.cell?_of_block (t.block b (World.block_lt_of_cell? _ _ (hc j hj)) (hq b off e))).trans (hc j hj)⟩
theorem HoldsI.tail {W : World} {g : Nat} {x : Int} {l : List Int} (h : HoldsI W (some ⟨g, 0, none⟩) (x :: l)) : HoldsI W (some ⟨g, 1, none⟩) l := fun h0 => by
  obtain ⟨b, off, e, hc⟩ := h (by simp)
  cases e
  refine ⟨g, 1, rfl, fun j hj => ?_⟩
  have := hc (j + 1) (by simp; omega)
  rw [show 0 + (j + 1) = 1 + j by omega] at this
  rw [this]
  simp
/-- How a cache of ints stands in the law: made meanwhile, its blocks there. -/
def Stands (W : World) (M : Nat → Prop) (W' : World) (C : Nat) (m : Nat) (nb : Nat) (want : List Int) : Prop :=
  Since W M W' ∧ CSI M W' C (m : Int) nb (want.map entK) ∧ ∀ j, M j → j < W'.heap.size
theorem Stands.step {W A B : World} {M M' : Nat → Prop} {C m nb nb' : Nat} {w w' : List Int} (h : Stands W M A C m nb w) (s : Step M M' A B) (hc : CSI M' B C (m : Int) nb' (w'.map entK)) : Stands W M' B C m nb' w' :=
  ⟨h.1.step s, hc, fun j hj => (s.2 j hj).elim (fun e => Nat.lt_of_lt_of_le (h.2.2 j e) s.1.size) (fun e => e.2)⟩
theorem Stands.below {W A B : World} {M : Nat → Prop} {C m nb : Nat} {w : List Int} (h : Stands W M A C m nb w) (hb : Below A.heap.size A B) : Stands W M B C m nb w :=
  ⟨⟨h.1.1.trans (hb.mono h.1.1.size), h.1.2⟩, h.2.1.tch (Tch.of_below (F := fun _ => False) hb) (fun _ _ => id), fun j hj => Nat.lt_of_lt_of_le (h.2.2 j hj) hb.size⟩
theorem ownI_empty (W : World) : OwnI (W.alloc (.cells #[] 3)) W.heap.size (some ⟨W.heap.size, 0, none⟩) 0 [] :=
  ⟨World.ownsRow_made (size := 1) W #[] 0 (Nat.le_refl _) (Nat.zero_le _) rfl, fun e => (by cases e), Nat.le_refl _⟩
theorem take_filter (l : List Int) (t : Nat) (ht : t < l.length) (p : Int → Bool) : (l.take (t + 1)).filter p = (l.take t).filter p ++ (if p (l.getD t 0) then [l.getD t 0] else []) := by
  rw [List.take_add_one, List.getElem?_eq_getElem ht, List.filter_append, List.getD_eq_getElem?_getD, List.getElem?_eq_getElem ht]
  simp only [Option.toList_some, Option.getD_some]
  by_cases h : p l[t] = true
  · rw [if_pos h, List.filter_cons_of_pos h, List.filter_nil]
  · rw [if_neg h, List.filter_cons_of_neg h, List.filter_nil]
theorem next_nodup {l : List Int} {x : Int} (h : l.Nodup) : (l.filter (· != x) ++ [x]).Nodup := by
  rw [List.nodup_append]
  refine ⟨h.sublist List.filter_sublist, by simp, fun a ha b hb => ?_⟩
  rw [List.mem_singleton] at hb
  rw [hb]
  simpa using (List.mem_filter.1 ha).2
theorem not_key {l : List Int} {x : Int} (h : x ∉ l) : ∀ e ∈ l.map entK, e.k ≠ x := fun e he => by
  obtain ⟨y, hy, rfl⟩ := List.mem_map.1 he
  exact fun e => h (e ▸ hy)
def cutTo (m : Nat) (l : List Int) : List Int := if m < l.length then l.tail else l
theorem putEither (W : World) {M : Nat → Prop} {A : World} {C m nb : Nat} {want : List Int} (h : Stands W M A C m nb want) (x : Int) (hk : keyOf Try.prog 3 (.int .i64 x) = some (.int .i64 x)) (hx : x ∉ want) (hlen : want.length ≤ m) (hm1 : 1 ≤ m) (hm2 : m ≤ 20) (hnb : nb ≤ 300) :
    Calls Try.prog 17 #[PV C, .int .i64 x, .int .i64 x, .bool false] A fun y W' => y = .returned (.int .i64 0) ∧ ∃ M', CSI M' W' C (m : Int) (nb + 1) ((cutTo m (want ++ [x])).map entK) ∧ Step M M' A W' := by
  have hnb2 : nb < maxLen := Nat.lt_of_le_of_lt hnb (by decide)
  by_cases hr : want.length < m
  · have h1 := putRoomI h.2.1 x hk (not_key hx) (by rw [List.length_map]; omega) (by omega) hnb2 x false
    rw [cutTo, if_neg (by rw [List.length_append]; simp; omega), List.map_append]
    exact h1
  · cases want with
    | nil => simp at hr; omega
    | cons e t =>
      have h1 := putEvictI (p := []) (q := t.map entK) (e := entK e) h.2.1 x hk (not_key hx) (by simp at hr ⊢; omega) (by simp) rfl hnb2 x false
      rw [cutTo, if_pos (by simp at hr ⊢; omega), List.cons_append, List.tail_cons, List.map_append]
      exact h1
set_option maxRecDepth 100000 in
set_option maxHeartbeats 4000000 in
theorem cacheOrders_any (n : Int) (bn : -9223372036854775808 ≤ n ∧ n ≤ 9223372036854775807) (p : Option Addr) (l : List Int) (c : Nat) (W : World) (hc : l.length ≤ c) (hl : l.length * 8 ≤ 140737488351232) (h : HoldsI W p l) (hb : ∀ v ∈ l, -9223372036854775808 ≤ v ∧ v ≤ 9223372036854775807) :
    Calls Try.prog 5 #[.int .i64 n, .slice p l.length c] W fun x W' => x = .returned (.bool true) ∧ Below W.heap.size W W' := by
  have HA := Lib.hid (And.intro h (And.intro hb (And.intro hc bn)))
  clear h hb hc bn
  go_enter Try.func5, Try.ntmps5
  go_wp2_with (fail)
  refine (awake_any W).mono ?_
  rintro x W1 ⟨rfl, b1⟩
  have H1 := Lib.hid b1
  clear b1
  go_wp2_with (fail)
  obtain ⟨m, hm, hm1, hm2⟩ := places_num n
  simp only [hm]
  refine (newI (m : Int) (by omega) (by omega) W1).mono ?_
  rintro x W2 ⟨C, rfl, s2, b2⟩
  have H2 := Lib.hid (show Stands W (fun k => W1.heap.size ≤ k ∧ k < W2.heap.size) W2 C m 0 [] from ⟨⟨bcat H1.out b2, fun k hk => Nat.le_trans H1.out.size hk.1⟩, s2, fun k hk => hk.2⟩)
  clear s2 b2 hm
  by_cases h300 : 300 < l.length
  · have h300' : (300 : Int) < (l.length : Int) := by omega
    go_wp2_with (fail)
    go_ret
    exact ⟨rfl, H2.out.1.1⟩
  have hle : ¬ (300 : Int) < (l.length : Int) := by omega
  have hle' : l.length ≤ 300 := by omega
  clear h300
  go_wp2_with (fail)
  go_loopw [44, 8] (fun i v wr => ∃ (k : Nat) (want : List Int) (q : Option Addr) (cc nb : Nat) (M : Nat → Prop), i = .int .i64 (k : Int) ∧ v = .slice q want.length cc ∧ k ≤ l.length ∧
      Hid' (Stands W M wr C m nb want ∧ want.Nodup ∧ want.length ≤ m ∧ nb ≤ k ∧ HoldsI wr q want ∧ (∀ b off, q = some ⟨b, off, none⟩ → ¬ M b ∧ b < wr.heap.size) ∧ want.length ≤ cc)) (fun i _ _ => l.length - (intOf i).toNat)
  case atStart => exact ⟨0, [], none, 0, 0, _, rfl, rfl, Nat.zero_le _, ⟨H2.out, List.nodup_nil, Nat.zero_le _, Nat.le_refl _, fun h => absurd h (by decide), fun b off e => (by cases e), Nat.le_refl _⟩⟩
  case round =>
    obtain ⟨k, want, q, cc, nb, M, rfl, rfl, hk, hZ⟩ := hrel
    by_cases hlt : k < l.length
    · have HZ := Lib.hid hZ.out
      obtain ⟨b0, off0, rfl, hcell⟩ := (HA.out.1.below HZ.out.1.1.1) (by omega)
      have c1 := hcell k hlt
      obtain ⟨x, hx⟩ : ∃ x, l.getD k 0 = x := ⟨_, rfl⟩
      have hxr : -9223372036854775808 ≤ x ∧ x ≤ 9223372036854775807 := by
        refine HA.out.2.1 x ?_
        rw [← hx, List.getD_eq_getElem?_getD, List.getElem?_eq_getElem hlt]
        exact List.getElem_mem hlt
      rw [hx] at c1
      have KX9 := Lib.hid (keyI x hxr.1 hxr.2)
      have hltI : (k : Int) < (l.length : Int) := by omega
      clear hcell hZ hx hxr
      by_cases hin : x ∈ want
      · obtain ⟨p1, q1, hw⟩ := List.append_of_mem hin
        have hG : Calls Try.prog 16 #[PV C, .int .i64 x] wr fun y W' => y = .returned (.tuple #[.int .i64 x, .bool true]) ∧ CSI M W' C (m : Int) nb ((p1 ++ q1 ++ [x]).map entK) ∧ Step M M wr W' := by
          have h1 := HZ.out.1.2.1
          rw [hw, List.map_append, List.map_cons] at h1
          have h2 := getSomeI h1 x KX9.out rfl
          simp only [List.map_append, List.map_cons, List.map_nil]
          exact h2
        have HG := Lib.hid hG
        have HW := Lib.hid hw
        clear hG hin hw
        go_wp2_with (fail)
        refine HG.out.mono ?_
        rintro y W5 ⟨rfl, s5, t5⟩
        have h5 : ∃ M5 nb5 nxt, Stands W M5 W5 C m nb5 nxt ∧ nb5 ≤ k + 1 ∧ HoldsI W5 q want ∧ (∀ b off, q = some ⟨b, off, none⟩ → ¬ M5 b) ∧ nxt = cutTo m (want.filter (· != x) ++ [x]) := by
          obtain ⟨z1, z2, z3, z4, z5, z6, z7⟩ := HZ.out
          have hw := HW.out
          refine ⟨M, nb, p1 ++ q1 ++ [x], z1.step t5 s5, by omega, z5.step t5.1 (fun b off e => (z6 b off e).1), fun b off e => (z6 b off e).1, ?_⟩
          rw [hw] at z2
          rw [hw, keep_there z2, cutTo, if_neg]
          rw [hw] at z3
          simp at z3 ⊢
          omega
        clear s5 t5 HG HW
        obtain ⟨M5, nb5, nxt, y1, y2, y3, y4, y5⟩ := h5
        have HY := Lib.hid (And.intro y1 (And.intro y2 (And.intro y3 (And.intro y4 y5))))
        clear y1 y2 y3 y4 y5
        go_wp2_with (fail)
        go_loopw [66, 13] (fun j v wr2 => ∃ (t : Nat) (ll : List Int) (qq : Option Addr) (c2 : Nat), j = .int .i64 (t : Int) ∧ v = .slice qq ll.length c2 ∧ t ≤ want.length ∧ Hid' (Below W5.heap.size W5 wr2 ∧ OwnI wr2 W5.heap.size qq c2 ll ∧ ll = (want.take t).filter (· != x))) (fun j _ _ => want.length - (intOf j).toNat)
        case atStart => exact ⟨0, [], some ⟨W5.heap.size, 0, none⟩, 0, rfl, rfl, Nat.zero_le _, ⟨(Below.refl _ _).alloc (Nat.le_refl _) _, ownI_empty W5, by simp⟩⟩
        case round =>
          obtain ⟨t, ll, qq, c2, rfl, rfl, ht, hR⟩ := hrel
          have HR := Lib.hid hR.out
          have hw20 : want.length ≤ 20 := Nat.le_trans HZ.out.2.2.1 hm2
          have hll : ll.length ≤ 20 := by
            rw [HR.out.2.2]
            refine Nat.le_trans (List.length_filter_le _ _) ?_
            rw [List.length_take]
            have := HZ.out.2.2.1
            omega
          clear hR
          by_cases htl : t < want.length
          · obtain ⟨b2, off2, rfl, hcell⟩ := (HY.out.2.2.1.below HR.out.1) (by omega)
            have c2c := hcell t htl
            obtain ⟨y, hy⟩ : ∃ y, want.getD t 0 = y := ⟨_, rfl⟩
            rw [hy] at c2c
            have htf := take_filter want t htl (· != x)
            rw [hy] at htf
            have HF := Lib.hid htf
            have htI : (t : Int) < (want.length : Int) := by omega
            clear hcell hy htf
            by_cases hyx : y = x
            · have hq : (y != x) = false := by simp [hyx]
              have HE := Lib.hid hq
              clear hyx ht
              go_wp2_with (fail)
              go_round
              case rel =>
                refine ⟨t + 1, ll, qq, c2, by go_num, rfl, by omega, ⟨HR.out.1, HR.out.2.1, ?_⟩⟩
                rw [HF.out, HE.out, ← HR.out.2.2]
                simp
              case measure => simp [intOf]; omega
            · have hq : (y != x) = true := by simp [hyx]
              have HE := Lib.hid hq
              obtain ⟨g, cap, w1, hrun, hown, hgr⟩ := appendI_one (x := y) HR.out.2.1 HR.out.1.size (by omega)
              have HA2 := Lib.hid hrun
              have HG2 := Lib.hid (And.intro hown hgr)
              clear hyx ht hrun hown hgr
              go_wp2_with (at_builtin; refine t_append_eq rfl _ _ _ rfl _ _ _ _ rfl rfl HA2.out ?_)
              go_round
              case rel =>
                refine ⟨t + 1, ll ++ [y], some ⟨g, 0, none⟩, cap, by go_num, by rw [List.length_append]; rfl, by omega, ⟨HR.out.1.grown HG2.out.2 HR.out.1.size (fun k e => (World.ownsRow.lt HR.out.2.1.1 k e).1), HG2.out.1, ?_⟩⟩
                rw [HF.out, HE.out, ← HR.out.2.2]
                simp
              case measure => simp [intOf]; omega
          · obtain rfl : t = want.length := by omega
            have hfin : ll = want.filter (· != x) := by rw [HR.out.2.2, List.take_length]
            obtain ⟨g, cap, w1, hrun, hown, hgr⟩ := appendI_one (x := x) HR.out.2.1 HR.out.1.size (by omega)
            have HA2 := Lib.hid hrun
            have HG2 := Lib.hid (And.intro hown hgr)
            have HF := Lib.hid hfin
            clear ht hrun hown hgr hfin htl
            by_cases hcut : m < ll.length + 1
            · have hcI : (m : Int) < ((ll.length + 1 : Nat) : Int) := by omega
              go_wp2_with (at_builtin; refine t_append_eq rfl _ _ _ rfl _ _ _ _ rfl rfl HA2.out ?_)
              refine ⟨?_, by simp [intOf]; omega⟩
              obtain ⟨y1, y2, y3, y4, y5⟩ := HY.out
              obtain ⟨z1, z2, z3, z4, z5, z6, z7⟩ := HZ.out
              obtain ⟨hown, hgr⟩ := HG2.out
              have hbl : Below W5.heap.size W5 w1 := HR.out.1.grown hgr HR.out.1.size (fun k e => (World.ownsRow.lt HR.out.2.1.1 k e).1)
              have hgM : ¬ M5 g := fun hM => by
                have h1 := y1.2.2 g hM
                have h2 := (hown.cells (k := g) (by simp [Value.ownBlock])).1
                omega
              have hgl : g < w1.heap.size := (World.ownsRow.lt hown.1 g (by simp [Value.ownBlock])).2
              have hnd := next_nodup (x := x) z2
              rw [← HF.out] at hnd y5
              have hlm : ll.length ≤ m := by rw [HF.out]; exact Nat.le_trans (List.length_filter_le _ _) z3
              have hcap := hown.2.2
              rw [List.length_append, List.length_singleton] at hcap
              rw [cutTo, if_pos (by rw [List.length_append]; exact hcut)] at y5
              obtain ⟨y, ls, hys⟩ : ∃ y ls, ll = y :: ls := by
                cases ll with
                | nil => simp at hcut; omega
                | cons y ls => exact ⟨y, ls, rfl⟩
              have hlen : nxt.length = ll.length := by rw [y5]; simp
              refine ⟨k + 1, nxt, some ⟨g, 1, none⟩, cap - 1, nb5, M5, by simp, by rw [if_neg (by omega), hlen], by omega, ⟨y1.below hbl, ?_, by omega, y2, ?_, fun b off e => (by cases e; exact ⟨hgM, hgl⟩), by omega⟩⟩
              · rw [y5]; exact hnd.sublist (List.tail_sublist _)
              · have hh := hown.holds
                rw [hys, List.cons_append] at hh
                rw [y5, hys, List.cons_append, List.tail_cons]
                exact hh.tail
            · have hcI : ¬ (m : Int) < ((ll.length + 1 : Nat) : Int) := by omega
              go_wp2_with (at_builtin; refine t_append_eq rfl _ _ _ rfl _ _ _ _ rfl rfl HA2.out ?_)
              refine ⟨?_, by simp [intOf]; omega⟩
              obtain ⟨y1, y2, y3, y4, y5⟩ := HY.out
              obtain ⟨z1, z2, z3, z4, z5, z6, z7⟩ := HZ.out
              obtain ⟨hown, hgr⟩ := HG2.out
              have hbl : Below W5.heap.size W5 w1 := HR.out.1.grown hgr HR.out.1.size (fun k e => (World.ownsRow.lt HR.out.2.1.1 k e).1)
              have hgM : ¬ M5 g := fun hM => by
                have h1 := y1.2.2 g hM
                have h2 := (hown.cells (k := g) (by simp [Value.ownBlock])).1
                omega
              have hgl : g < w1.heap.size := (World.ownsRow.lt hown.1 g (by simp [Value.ownBlock])).2
              have hnd := next_nodup (x := x) z2
              rw [← HF.out] at hnd y5
              have hlm : ll.length ≤ m := by rw [HF.out]; exact Nat.le_trans (List.length_filter_le _ _) z3
              rw [cutTo, if_neg (by rw [List.length_append]; exact hcut)] at y5
              have hcap := hown.2.2
              have hlen : (ll ++ [x]).length = ll.length + 1 := by simp
              refine ⟨k + 1, ll ++ [x], some ⟨g, 0, none⟩, cap, nb5, M5, by simp, by rw [hlen], by omega, ⟨?_, hnd, by omega, y2, hown.holds, fun b off e => (by cases e; exact ⟨hgM, hgl⟩), hcap⟩⟩
              rw [← y5]
              exact y1.below hbl
      · have hG : Calls Try.prog 16 #[PV C, .int .i64 x] wr fun y W' => y = .returned (.tuple #[.int .i64 0, .bool false]) ∧ CSI M W' C (m : Int) nb (want.map entK) ∧ Step M M wr W' := getNoneI HZ.out.1.2.1 x KX9.out (not_key hin)
        have HG := Lib.hid hG
        have HW := Lib.hid hin
        clear hG hin
        go_wp2_with (fail)
        refine HG.out.mono ?_
        rintro y W4 ⟨rfl, s4, t4⟩
        have HP := Lib.hid (putEither W (HZ.out.1.step t4 s4) x KX9.out HW.out HZ.out.2.2.1 hm1 hm2 (Nat.le_trans HZ.out.2.2.2.1 (Nat.le_trans hk hle')))
        have H4 := Lib.hid (And.intro (HZ.out.1.step t4 s4) (And.intro (HZ.out.2.2.2.2.1.step t4.1 (fun b off e => (HZ.out.2.2.2.2.2.1 b off e).1)) t4.1.size))
        clear s4 t4 HG
        go_wp2_with (fail)
        refine HP.out.mono ?_
        rintro y W5 ⟨rfl, M5, s5, t5⟩
        have h5 : ∃ M5 nb5 nxt, Stands W M5 W5 C m nb5 nxt ∧ nb5 ≤ k + 1 ∧ HoldsI W5 q want ∧ (∀ b off, q = some ⟨b, off, none⟩ → ¬ M5 b) ∧ nxt = cutTo m (want.filter (· != x) ++ [x]) := by
          obtain ⟨z1, z2, z3, z4, z5, z6, z7⟩ := HZ.out
          obtain ⟨u1, u2, u3⟩ := H4.out
          refine ⟨M5, nb + 1, _, u1.step t5 s5, by omega, u2.step t5.1 (fun b off e => (z6 b off e).1), fun b off e hM => ?_, by rw [keep_none HW.out]⟩
          obtain ⟨n1, n2⟩ := z6 b off e
          rcases t5.2 b hM with h | h
          · exact n1 h
          · omega
        clear s5 t5 HP H4 HW
        obtain ⟨M5, nb5, nxt, y1, y2, y3, y4, y5⟩ := h5
        have HY := Lib.hid (And.intro y1 (And.intro y2 (And.intro y3 (And.intro y4 y5))))
        clear y1 y2 y3 y4 y5
        go_wp2_with (fail)
        go_loopw [66, 13] (fun j v wr2 => ∃ (t : Nat) (ll : List Int) (qq : Option Addr) (c2 : Nat), j = .int .i64 (t : Int) ∧ v = .slice qq ll.length c2 ∧ t ≤ want.length ∧ Hid' (Below W5.heap.size W5 wr2 ∧ OwnI wr2 W5.heap.size qq c2 ll ∧ ll = (want.take t).filter (· != x))) (fun j _ _ => want.length - (intOf j).toNat)
        case atStart => exact ⟨0, [], some ⟨W5.heap.size, 0, none⟩, 0, rfl, rfl, Nat.zero_le _, ⟨(Below.refl _ _).alloc (Nat.le_refl _) _, ownI_empty W5, by simp⟩⟩
        case round =>
          obtain ⟨t, ll, qq, c2, rfl, rfl, ht, hR⟩ := hrel
          have HR := Lib.hid hR.out
          have hw20 : want.length ≤ 20 := Nat.le_trans HZ.out.2.2.1 hm2
          have hll : ll.length ≤ 20 := by
            rw [HR.out.2.2]
            refine Nat.le_trans (List.length_filter_le _ _) ?_
            rw [List.length_take]
            have := HZ.out.2.2.1
            omega
          clear hR
          by_cases htl : t < want.length
          · obtain ⟨b2, off2, rfl, hcell⟩ := (HY.out.2.2.1.below HR.out.1) (by omega)
            have c2c := hcell t htl
            obtain ⟨y, hy⟩ : ∃ y, want.getD t 0 = y := ⟨_, rfl⟩
            rw [hy] at c2c
            have htf := take_filter want t htl (· != x)
            rw [hy] at htf
            have HF := Lib.hid htf
            have htI : (t : Int) < (want.length : Int) := by omega
            clear hcell hy htf
            by_cases hyx : y = x
            · have hq : (y != x) = false := by simp [hyx]
              have HE := Lib.hid hq
              clear hyx ht
              go_wp2_with (fail)
              go_round
              case rel =>
                refine ⟨t + 1, ll, qq, c2, by go_num, rfl, by omega, ⟨HR.out.1, HR.out.2.1, ?_⟩⟩
                rw [HF.out, HE.out, ← HR.out.2.2]
                simp
              case measure => simp [intOf]; omega
            · have hq : (y != x) = true := by simp [hyx]
              have HE := Lib.hid hq
              obtain ⟨g, cap, w1, hrun, hown, hgr⟩ := appendI_one (x := y) HR.out.2.1 HR.out.1.size (by omega)
              have HA2 := Lib.hid hrun
              have HG2 := Lib.hid (And.intro hown hgr)
              clear hyx ht hrun hown hgr
              go_wp2_with (at_builtin; refine t_append_eq rfl _ _ _ rfl _ _ _ _ rfl rfl HA2.out ?_)
              go_round
              case rel =>
                refine ⟨t + 1, ll ++ [y], some ⟨g, 0, none⟩, cap, by go_num, by rw [List.length_append]; rfl, by omega, ⟨HR.out.1.grown HG2.out.2 HR.out.1.size (fun k e => (World.ownsRow.lt HR.out.2.1.1 k e).1), HG2.out.1, ?_⟩⟩
                rw [HF.out, HE.out, ← HR.out.2.2]
                simp
              case measure => simp [intOf]; omega
          · obtain rfl : t = want.length := by omega
            have hfin : ll = want.filter (· != x) := by rw [HR.out.2.2, List.take_length]
            obtain ⟨g, cap, w1, hrun, hown, hgr⟩ := appendI_one (x := x) HR.out.2.1 HR.out.1.size (by omega)
            have HA2 := Lib.hid hrun
            have HG2 := Lib.hid (And.intro hown hgr)
            have HF := Lib.hid hfin
            clear ht hrun hown hgr hfin htl
            by_cases hcut : m < ll.length + 1
            · have hcI : (m : Int) < ((ll.length + 1 : Nat) : Int) := by omega
              go_wp2_with (at_builtin; refine t_append_eq rfl _ _ _ rfl _ _ _ _ rfl rfl HA2.out ?_)
              refine ⟨?_, by simp [intOf]; omega⟩
              obtain ⟨y1, y2, y3, y4, y5⟩ := HY.out
              obtain ⟨z1, z2, z3, z4, z5, z6, z7⟩ := HZ.out
              obtain ⟨hown, hgr⟩ := HG2.out
              have hbl : Below W5.heap.size W5 w1 := HR.out.1.grown hgr HR.out.1.size (fun k e => (World.ownsRow.lt HR.out.2.1.1 k e).1)
              have hgM : ¬ M5 g := fun hM => by
                have h1 := y1.2.2 g hM
                have h2 := (hown.cells (k := g) (by simp [Value.ownBlock])).1
                omega
              have hgl : g < w1.heap.size := (World.ownsRow.lt hown.1 g (by simp [Value.ownBlock])).2
              have hnd := next_nodup (x := x) z2
              rw [← HF.out] at hnd y5
              have hlm : ll.length ≤ m := by rw [HF.out]; exact Nat.le_trans (List.length_filter_le _ _) z3
              have hcap := hown.2.2
              rw [List.length_append, List.length_singleton] at hcap
              rw [cutTo, if_pos (by rw [List.length_append]; exact hcut)] at y5
              obtain ⟨y, ls, hys⟩ : ∃ y ls, ll = y :: ls := by
                cases ll with
                | nil => simp at hcut; omega
                | cons y ls => exact ⟨y, ls, rfl⟩
              have hlen : nxt.length = ll.length := by rw [y5]; simp
              refine ⟨k + 1, nxt, some ⟨g, 1, none⟩, cap - 1, nb5, M5, by simp, by rw [if_neg (by omega), hlen], by omega, ⟨y1.below hbl, ?_, by omega, y2, ?_, fun b off e => (by cases e; exact ⟨hgM, hgl⟩), by omega⟩⟩
              · rw [y5]; exact hnd.sublist (List.tail_sublist _)
              · have hh := hown.holds
                rw [hys, List.cons_append] at hh
                rw [y5, hys, List.cons_append, List.tail_cons]
                exact hh.tail
            · have hcI : ¬ (m : Int) < ((ll.length + 1 : Nat) : Int) := by omega
              go_wp2_with (at_builtin; refine t_append_eq rfl _ _ _ rfl _ _ _ _ rfl rfl HA2.out ?_)
              refine ⟨?_, by simp [intOf]; omega⟩
              obtain ⟨y1, y2, y3, y4, y5⟩ := HY.out
              obtain ⟨z1, z2, z3, z4, z5, z6, z7⟩ := HZ.out
              obtain ⟨hown, hgr⟩ := HG2.out
              have hbl : Below W5.heap.size W5 w1 := HR.out.1.grown hgr HR.out.1.size (fun k e => (World.ownsRow.lt HR.out.2.1.1 k e).1)
              have hgM : ¬ M5 g := fun hM => by
                have h1 := y1.2.2 g hM
                have h2 := (hown.cells (k := g) (by simp [Value.ownBlock])).1
                omega
              have hgl : g < w1.heap.size := (World.ownsRow.lt hown.1 g (by simp [Value.ownBlock])).2
              have hnd := next_nodup (x := x) z2
              rw [← HF.out] at hnd y5
              have hlm : ll.length ≤ m := by rw [HF.out]; exact Nat.le_trans (List.length_filter_le _ _) z3
              rw [cutTo, if_neg (by rw [List.length_append]; exact hcut)] at y5
              have hcap := hown.2.2
              have hlen : (ll ++ [x]).length = ll.length + 1 := by simp
              refine ⟨k + 1, ll ++ [x], some ⟨g, 0, none⟩, cap, nb5, M5, by simp, by rw [hlen], by omega, ⟨?_, hnd, by omega, y2, hown.holds, fun b off e => (by cases e; exact ⟨hgM, hgl⟩), hcap⟩⟩
              rw [← y5]
              exact y1.below hbl
    · obtain rfl : k = l.length := by omega
      have HZ := Lib.hid hZ.out
      clear hZ hk hlt
      go_wp2_with (fail)
      refine (allKeys HZ.out.1.2.1).mono ?_
      rintro y W5 ⟨q5, c5, rfl, o5, b5⟩
      have e5 : (want.map entK).map (·.k) = want := by rw [List.map_map]; exact List.map_id' want
      rw [e5] at o5 ⊢
      have S5 := HZ.out.1.below b5
      have hS := sameInts_any q5 q want want c5 cc W5 (by have := HZ.out.2.2.1; omega) (by have := HZ.out.2.2.1; omega) o5.2.2 HZ.out.2.2.2.2.2.2 o5.holds (HZ.out.2.2.2.2.1.below b5)
      rw [decide_eq_true rfl] at hS
      have HS := Lib.hid hS
      have H5 := Lib.hid S5
      clear o5 b5 S5 hS e5
      go_wp2_with (fail)
      refine HS.out.mono ?_
      rintro y W6 ⟨rfl, b6⟩
      have H6 := Lib.hid (H5.out.below b6)
      clear b6
      go_wp2_with (fail)
      refine (allDirty H6.out.2.1).mono ?_
      rintro y W7 ⟨q7, c7, rfl, o7, b7⟩
      have e7 : ((want.map entK).filter (·.d)).map (·.k) = [] := by rw [List.filter_eq_nil_iff.2]; rfl; intro e he; obtain ⟨y, _, rfl⟩ := List.mem_map.1 he; simp [entK]
      rw [e7]
      have H7 := Lib.hid (H6.out.below b7)
      clear o7 b7 e7
      go_wp2_with (fail)
      go_ret
      exact ⟨rfl, H7.out.1.1⟩
end Go.Proofs.Ytppfhbkfidlbaaa
