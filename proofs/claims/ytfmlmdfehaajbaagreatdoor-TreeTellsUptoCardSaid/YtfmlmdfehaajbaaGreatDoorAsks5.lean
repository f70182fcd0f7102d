/- Proved here: isUnwritable (but of comments and instructions), roots. -/
import Derived.Test.YtfmlmdfehaajbaaGreatDoorAsks2
namespace Go.Proofs.YtfmlmdfehaajbaaGreatDoor
open Go.RowKit Go.Shelf

/-- Two texts side by side. -/
def textPair : List AT → Bool
  | a :: b :: r => (a.kind == 3 && b.kind == 3) || textPair (b :: r)
  | _ => false
theorem pair_step (l : List AT) (j : Nat) (h : j + 1 < l.length) : textPair (l.drop j) = ((l[j].kind == 3 && l[j + 1].kind == 3) || textPair (l.drop (j + 1))) := by
  rw [List.drop_eq_getElem_cons (by omega : j < l.length), List.drop_eq_getElem_cons h, textPair]
theorem pair_end (l : List AT) (j : Nat) (h : ¬ j + 1 < l.length) : textPair (l.drop j) = false := by
  have : (l.drop j).length ≤ 1 := by rw [List.length_drop]; omega
  match l.drop j, this with
  | [], _ => rfl
  | [_], _ => rfl
/-- Comments and instructions are not asked here. -/
def AT.unwritable (t : AT) (c : Bool) : Bool := if t.kind = 3 then t.text == noB else if t.kind = 4 ∨ t.kind = 5 then c else textPair t.kids
/-- What kind a kid is. -/
theorem kid_kind {W : World} {x : AT} {pk : Option Addr} {ck : Nat} {pa : Option Addr} {ca : Nat} (h : PartsAt W x pa ca pk ck) (hk : ∀ k ∈ x.kids, NodeAt W k) (h0 : 0 < x.kids.length) : ∃ kb ko, pk = some ⟨kb, ko, none⟩ ∧ ∀ i (hi : i < x.kids.length), W.cell? ⟨kb, ko + i * 6, none⟩ = some (.int .i64 x.kids[i].kind) := by
  obtain ⟨kb, ko, e, hc⟩ := h.kids h0
  refine ⟨kb, ko, e, fun i hi => ?_⟩
  obtain ⟨_, _, _, _, _, c1, _⟩ := hk _ (List.getElem_mem hi)
  rwa [(hc i hi).1, (hc i hi).2] at c1
set_option maxRecDepth 100000 in
set_option maxHeartbeats 2000000 in
theorem isUnwritable_any (w : World) (x : AT) (hx : TreeAt w x) (h4 : x.kind ≠ 4) (h5 : x.kind ≠ 5) :
    Calls Tryz.prog 37 #[x.ptr] w fun e w' => e = .returned (.bool (x.unwritable false)) ∧ Below w.heap.size w w' := by
  obtain ⟨pa, ca, pk, ck, h0, c0, c1, c2, c3, c4, c5⟩ := hx.top
  have hK : ∀ k ∈ x.kids, NodeAt w k := fun k hk => (hx.kids k hk).top
  have hkk := kid_kind h0 hK
  unfold AT.ptr AT.unwritable
  obtain ⟨b, hb⟩ : ∃ b, x.b = b := ⟨_, rfl⟩
  obtain ⟨o, ho⟩ : ∃ o, x.o = o := ⟨_, rfl⟩
  obtain ⟨kd, hkd⟩ : ∃ kd, x.kind = kd := ⟨_, rfl⟩
  obtain ⟨s, hs⟩ : ∃ s, x.text = s := ⟨_, rfl⟩
  obtain ⟨l, hl⟩ : ∃ l, x.kids = l := ⟨_, rfl⟩
  have hcap : l.length ≤ ck := hl ▸ h0.kcap
  have hsz : l.length ≤ 140737488351232 := hl ▸ h0.ksz
  have hkl : 0 < l.length → ∃ kb ko, pk = some ⟨kb, ko, none⟩ ∧ ∀ i (hi : i < l.length), w.cell? ⟨kb, ko + i * 6, none⟩ = some (.int .i64 l[i].kind) := by subst hl; exact hkk
  rw [hb, ho, hkd, hs, hl, is_noB]
  rw [hb, ho, hkd] at c0
  rw [hb, ho, hl] at c4
  rw [hb, ho, hs] at c5
  rw [hkd] at h4 h5
  have HKL := Lib.hid hkl
  clear hx h0 hK hkk c1 c2 c3 hb ho hkd hs hl hkl
  by_cases k3 : kd = 3
  · subst k3
    go_enter Tryz.func37, Tryz.ntmps37
    go_wp2_with (fail)
    go_ret
    exact ⟨ret_bb (by simp), Below.refl _ _⟩
  · rw [if_neg k3, if_neg (by omega)]
    obtain ⟨ANS, hA⟩ : ∃ ANS, textPair l = ANS := ⟨_, rfl⟩
    rw [hA]
    have HA := Lib.hid hA
    clear hA
    go_enter Tryz.func37, Tryz.ntmps37
    go_wp2_with (fail)
    go_loop [3] (fun v => ∃ j : Nat, v = .int .i64 ((j : Int) + 1) ∧ (j = 0 ∨ j < l.length) ∧ Hid (textPair (l.drop j) = ANS)) (fun v => l.length + 1 - (intOf v).toNat)
    case atStart => exact ⟨0, rfl, .inl rfl, HA⟩
    case round =>
      obtain ⟨j, rfl, hj, HJ⟩ := hrel
      by_cases hlt : j + 1 < l.length
      · have hi : (j : Int) + 1 < (l.length : Int) := by omega
        obtain ⟨q, off, rfl, hc⟩ := HKL.out (by omega)
        have e0 := hc j (by omega)
        have e1 := hc (j + 1) hlt
        have HS := Lib.hid (pair_step l j hlt)
        clear hc
        generalize l[j].kind = y at *
        generalize l[j + 1].kind = z at *
        have k1 : IntKind.i64.wrap ((j : Int) + 1 - 1) = (j : Int) := by rw [show (j : Int) + 1 - 1 = (j : Int) by omega]; exact IntWalk.i64_in _ (by omega)
        have k2 : (j : Int) < (l.length : Int) := by omega
        have k3 : IntKind.i64.wrap (j : Int) = (j : Int) := IntWalk.i64_in _ (by omega)
        have k4 : (0 : Int) ≤ (j : Int) := by omega
        have k5 : (0 : Int) ≤ (j : Int) + 1 := by omega
        have k6 : ((j : Int) + 1).toNat = j + 1 := by omega
        by_cases y3 : y = 3
        · subst y3
          by_cases z3 : z = 3
          · subst z3
            go_wp2_with (fail)
            go_ret
            exact ⟨ret_bb (by rw [← HJ.out, HS.out]; simp), Below.refl _ _⟩
          · go_wp2_with (fail)
            go_round
            · exact ⟨j + 1, rfl, .inr hlt, Lib.hid (by rw [← HJ.out, HS.out]; simp [z3])⟩
            · simp only [intOf]
              omega
        · go_wp2_with (fail)
          go_round
          · exact ⟨j + 1, rfl, .inr hlt, Lib.hid (by rw [← HJ.out, HS.out]; simp [y3])⟩
          · simp only [intOf]
            omega
      · have hi : ¬ (j : Int) + 1 < (l.length : Int) := by omega
        have HE := Lib.hid (pair_end l j hlt)
        go_wp2_with (fail)
        go_ret
        exact ⟨ret_bb (by rw [← HJ.out, HE.out]), Below.refl _ _⟩
def AT.roots (t : AT) : Nat := t.kids.countP (fun k => k.kind == 2)
set_option maxRecDepth 100000 in
set_option maxHeartbeats 2000000 in
theorem roots_any (w : World) (x : AT) (hx : TreeAt w x) :
    Calls Tryz.prog 38 #[x.ptr] w fun e w' => e = .returned (.int .i64 (x.roots : Int)) ∧ Below w.heap.size w w' := by
  obtain ⟨pa, ca, pk, ck, h0, c0, c1, c2, c3, c4, c5⟩ := hx.top
  have hK : ∀ k ∈ x.kids, NodeAt w k := fun k hk => (hx.kids k hk).top
  have hcells : ∀ (h : 0 < x.kids.length), ∃ kb ko, pk = some ⟨kb, ko, none⟩ ∧ ∀ i (hi : i < x.kids.length), ∃ z : KN, z.t = x.kids[i] ∧ ∀ j v, z.enc[j]? = some v → w.cell? ⟨kb, ko + i * 6 + j, none⟩ = some v := fun h => by
    obtain ⟨kb, ko, e, hc⟩ := h0.kids h
    refine ⟨kb, ko, e, fun i hi => ?_⟩
    obtain ⟨zs, e1, e2⟩ := kn_list [x.kids[i]] (fun k hk => by rw [List.mem_singleton.1 hk]; exact hK _ (List.getElem_mem hi))
    have hl1 : zs.length = 1 := by rw [← List.length_map (f := KN.t), e1]; rfl
    match zs, hl1, e1, e2 with
    | [z], _, e1, e2 =>
      have ez : z.t = x.kids[i] := by simpa using e1
      refine ⟨z, ez, fun j v hv => ?_⟩
      have := e2 0 (by simp) j v hv
      change w.cell? ⟨z.t.b, z.t.o + j, none⟩ = some v at this
      rwa [ez, (hc i hi).1, (hc i hi).2] at this
  unfold AT.ptr AT.roots
  obtain ⟨b, hb⟩ : ∃ b, x.b = b := ⟨_, rfl⟩
  obtain ⟨o, ho⟩ : ∃ o, x.o = o := ⟨_, rfl⟩
  obtain ⟨l, hl⟩ : ∃ l, x.kids = l := ⟨_, rfl⟩
  have hcap : l.length ≤ ck := hl ▸ h0.kcap
  have hsz : l.length ≤ 140737488351232 := hl ▸ h0.ksz
  have hkl : 0 < l.length → ∃ kb ko, pk = some ⟨kb, ko, none⟩ ∧ ∀ i (hi : i < l.length), ∃ z : KN, z.t = l[i] ∧ ∀ j v, z.enc[j]? = some v → w.cell? ⟨kb, ko + i * 6 + j, none⟩ = some v := by subst hl; exact hcells
  rw [hb, ho, hl]
  rw [hb, ho, hl] at c4
  have HKL := Lib.hid hkl
  clear hx h0 hK hcells c0 c1 c2 c3 c5 hb ho hl hkl
  go_enter Tryz.func38, Tryz.ntmps38
  go_wp2_with (fail)
  go_loopw [3, 11] (fun v u wr => ∃ j m : Nat, v = .int .i64 (m : Int) ∧ u = .int .i64 (j : Int) ∧ j ≤ l.length ∧ m ≤ j ∧ Below w.heap.size w wr ∧ Hid ((l.take j).countP (fun k => k.kind == 2) = m)) (fun _ u _ => l.length - (intOf u).toNat)
  case atStart => exact ⟨0, 0, rfl, rfl, Nat.zero_le _, Nat.le_refl _, Below.refl _ _, Lib.hid rfl⟩
  case round =>
    obtain ⟨j, m, rfl, rfl, hj, hm, hB, HJ⟩ := hrel
    by_cases hlt : j < l.length
    · have hi : (j : Int) < (l.length : Int) := by omega
      obtain ⟨q, off, rfl, hc⟩ := HKL.out (by omega)
      obtain ⟨z, hz, hcz⟩ := hc j hlt
      have e0 := t_cell' hB (hcz 0 _ rfl)
      have e1 := t_cell' hB (hcz 1 _ rfl)
      have e2 := t_cell' hB (hcz 2 _ rfl)
      have e3 := t_cell' hB (hcz 3 _ rfl)
      have e4 := t_cell' hB (hcz 4 _ rfl)
      have e5 := t_cell' hB (hcz 5 _ rfl)
      have HS : Hid ((l.take (j + 1)).countP (fun k => k.kind == 2) = m + (if z.t.kind == 2 then 1 else 0)) := Lib.hid (by
        rw [List.take_add_one, List.countP_append, HJ.out, List.getElem?_eq_getElem hlt, ← hz]
        simp [List.countP_cons])
      clear hc hcz hz
      generalize z.t.kind = y at *
      generalize z.t.uri = v1 at *
      generalize z.t.loc = v2 at *
      generalize z.pa = v3 at *
      generalize z.t.attrs.length = v4 at *
      generalize z.ca = v5 at *
      generalize z.pk = v6 at *
      generalize z.t.kids.length = v7 at *
      generalize z.ck = v8 at *
      generalize z.t.text = v9 at *
      rw [Nat.add_zero] at e0
      by_cases y2 : y = 2
      · subst y2
        go_wp2_with (fail)
        go_roundw
        · exact ⟨j + 1, m + 1, rfl, rfl, hlt, by omega, hB.alloc hB.size _, Lib.hid (by rw [HS.out]; rfl)⟩
        · simp only [intOf]
          omega
      · go_wp2_with (fail)
        go_roundw
        · exact ⟨j + 1, m, rfl, rfl, hlt, by omega, hB.alloc hB.size _, Lib.hid (by rw [HS.out]; simp [y2])⟩
        · simp only [intOf]
          omega
    · have hi : ¬ (j : Int) < (l.length : Int) := by omega
      have HE : Hid (l.countP (fun k => k.kind == 2) = m) := Lib.hid (by have := HJ.out; rwa [List.take_of_length_le (by omega)] at this)
      go_wp2_with (fail)
      go_ret
      refine ⟨?_, hB⟩
      rw [HE.out]
      rfl
end Go.Proofs.YtfmlmdfehaajbaaGreatDoor
