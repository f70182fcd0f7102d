/- Proved here: isMisfit says whether a node has what its kind hasn't. -/
import Derived.Test.YtfmlmdfehaajbaaGreatDoorNameOrd
import Derived.Laws.StructEq
namespace Go.Proofs.YtfmlmdfehaajbaaGreatDoor
open Go.RowKit Go.Shelf

set_option maxRecDepth 100000 in
set_option maxHeartbeats 1000000 in
theorem misfit1_any (w : World) (B : Nat) (b o : Nat) (kd : Int) (h1 : w.cell? ⟨B, 0, none⟩ = some (.pointer (some ⟨b, o, none⟩))) (h2 : w.cell? ⟨b, o, none⟩ = some (.int .i64 kd)) (z : KN) :
    Calls Tryz.prog 59 #[.agg z.enc.toArray, .pointer (some ⟨B, 0, none⟩)] w fun e w' => e = .returned (.bool (!(mayH kd z.t.kind))) ∧ Below w.heap.size w w' := by
  have hB := World.block_lt_of_cell? _ _ h1
  have hb := World.block_lt_of_cell? _ _ h2
  obtain ⟨c1, d1⟩ : ∃ c, z.t.kind = c := ⟨_, rfl⟩
  obtain ⟨c2, d2⟩ : ∃ c, Value.string z.t.uri = c := ⟨_, rfl⟩
  obtain ⟨c3, d3⟩ : ∃ c, Value.string z.t.loc = c := ⟨_, rfl⟩
  obtain ⟨c4, d4⟩ : ∃ c, Value.slice z.pa z.t.attrs.length z.ca = c := ⟨_, rfl⟩
  obtain ⟨c5, d5⟩ : ∃ c, Value.slice z.pk z.t.kids.length z.ck = c := ⟨_, rfl⟩
  obtain ⟨c6, d6⟩ : ∃ c, Value.string z.t.text = c := ⟨_, rfl⟩
  unfold KN.enc
  rw [d1, d2, d3, d4, d5, d6]
  clear d1 d2 d3 d4 d5 d6
  change Calls _ _ #[.agg #[_, _, _, _, _, _], _] _ _
  have C := Lib.hid (fun W => mayHave_any kd c1 W)
  go_enter Tryz.func59, Tryz.ntmps59
  go_wp2_with (fail)
  go_quiet ((go_at_call 60; exact Calls.quiet_of_same (C.out _)))
  go_wp2_with (fail)
  go_ret
  exact ⟨rfl, below_drewN' ((Below.refl _ _).alloc (Nat.le_refl _) _) _⟩
theorem name_eql (w : World) (u l v m : ByteArray) : (binOp .eql 23 (.agg #[.string u, .string l]) (.agg #[.string v, .string m])).run Tryz.prog w = .ok (.bool (u == v && l == m)) w := by
  rw [run_eql_struct]
  simp [go_sem, Tryz.underlying23, Go.beq_toListBytes]
  by_cases h1 : u.toList = v.toList <;> by_cases h2 : l.toList = m.toList <;> simp [h1, h2]
theorem name_neq (w : World) (u l v m : ByteArray) : (binOp .neq 23 (.agg #[.string u, .string l]) (.agg #[.string v, .string m])).run Tryz.prog w = .ok (.bool (!(u == v && l == m))) w := by
  rw [run_neq_struct]
  simp [go_sem, Tryz.underlying23, Go.beq_toListBytes]
  by_cases h1 : u.toList = v.toList <;> by_cases h2 : l.toList = m.toList <;> simp [h1, h2]
def noB : ByteArray := ⟨#[]⟩
theorem is_noB (s : ByteArray) : (s == noB) = s.toList.isEmpty := by
  rw [Go.beq_toListBytes]
  have e : noB.toList = [] := by rw [ByteArray.toList_eq]; rfl
  rw [e]
  cases s.toList <;> rfl
def AT.named (t : AT) : Bool := !(t.uri == noB && t.loc == noB)
def AT.misfit (t : AT) : Bool := t.kids.any (fun k => !(mayH t.kind k.kind)) || (if t.kind = 1 then t.named || decide (0 < t.attrs.length) || !(t.text == noB) else if t.kind = 2 then !(t.text == noB) else if t.kind = 5 then !(t.uri == noB) || decide (0 < t.attrs.length) else t.named || decide (0 < t.attrs.length))
theorem kidsAny {W : World} {x : AT} {pk : Option Addr} {ck : Nat} {pa : Option Addr} {ca : Nat} (h : PartsAt W x pa ca pk ck) (hk : ∀ k ∈ x.kids, NodeAt W k) (p : AT → Bool) (g : Nat) (lb : Array Value) (eg : ∀ args w, (callFunc g args).run Tryz.prog w = .ok (.enter g args) w)
    (hp : PredBelow Tryz.prog g lb (fun z : KN => .agg z.enc.toArray) (fun z => p z.t) W) :
    Calls Tryz.prog 58 #[.slice pk x.kids.length ck, .func (.func g) #[] lb] W fun e w' => e = .returned (.bool (x.kids.any p)) ∧ Below W.heap.size W w' := by
  by_cases h0 : 0 < x.kids.length
  · obtain ⟨b, off, rfl, hc⟩ := h.kids h0
    obtain ⟨zs, e, hz⟩ := kn_list x.kids hk
    have hn : zs.length = x.kids.length := by rw [← e, List.length_map]
    have hb : b < W.heap.size := by
      obtain ⟨_, _, _, _, _, c1, _⟩ := hk _ (List.getElem_mem h0)
      have := World.block_lt_of_cell? _ _ c1
      rwa [show (x.kids[0]).b = b from (hc 0 h0).1] at this
    have hs := h.ksz
    refine (Tryz.containsNode (fun w => by simp [go_sem]) (fun w => by simp [go_sem]) KN.enc (fun z => rfl) (fun z => p z.t) g lb eg b off x.kids.length ck zs W hp (by omega) (by omega) hb (fun j hj i v hv => ?_)).mono ?_
    · have hj' : j < x.kids.length := by omega
      have e1 : zs[j]!.t = x.kids[j] := by
        rw [List.getElem_of_eq e.symm, List.getElem_map]
        congr 1
        simp [List.getElem!_eq_getElem?_getD, hj]
      have h2 := hz j hj i v hv
      rwa [e1, (hc j hj').1, (hc j hj').2] at h2
    · rintro e' w' ⟨rfl, hb'⟩
      refine ⟨ret_bb ?_, hb'⟩
      rw [List.take_of_length_le (by omega), ← e, List.any_map]
      rfl
  · have hl0 : x.kids = [] := List.eq_nil_of_length_eq_zero (by omega)
    rw [hl0]
    refine (containsNode_none _ _ _ _ _).mono ?_
    rintro e w' ⟨rfl, rfl⟩
    exact ⟨rfl, Below.refl _ _⟩
set_option maxRecDepth 100000 in
set_option maxHeartbeats 2000000 in
theorem isMisfit_any (w : World) (x : AT) (hx : TreeAt w x) :
    Calls Tryz.prog 31 #[x.ptr] w fun e w' => e = .returned (.bool x.misfit) ∧ Below w.heap.size w w' := by
  obtain ⟨pa, ca, pk, ck, h0, c0, c1, c2, c3, c4, c5⟩ := hx.top
  have hK : ∀ k ∈ x.kids, NodeAt w k := fun k hk => (hx.kids k hk).top
  obtain ⟨b, hb⟩ : ∃ b, x.b = b := ⟨_, rfl⟩
  obtain ⟨o, ho⟩ : ∃ o, x.o = o := ⟨_, rfl⟩
  obtain ⟨kd, hkd⟩ : ∃ kd, x.kind = kd := ⟨_, rfl⟩
  obtain ⟨u, hu⟩ : ∃ u, x.uri = u := ⟨_, rfl⟩
  obtain ⟨l, hl⟩ : ∃ l, x.loc = l := ⟨_, rfl⟩
  obtain ⟨n, hn⟩ : ∃ n, x.attrs.length = n := ⟨_, rfl⟩
  obtain ⟨m, hm⟩ : ∃ m, x.kids.length = m := ⟨_, rfl⟩
  obtain ⟨s, hs⟩ : ∃ s, x.text = s := ⟨_, rfl⟩
  have hbl := World.block_lt_of_cell? _ _ c0
  have C := Lib.hid (fun (W : World) (y : Below w.heap.size w W) (q : W.cell? ⟨w.heap.size, 0, none⟩ = some x.ptr) =>
    kidsAny (h0.stay (Stay.below y)) (fun k hk => (hK k hk).stay (Stay.below y)) (fun k => !(mayH x.kind k.kind)) 59 #[.pointer (some ⟨w.heap.size, 0, none⟩)] (enters_of Tryz.func59 (by kernel_rfl) rfl)
      (fun W' z hz => (misfit1_any W' w.heap.size x.b x.o x.kind (t_cell' hz q) (t_cell' (below_cat5 y hz) c0) z).mono fun e w' h => ⟨h.1, below_cat5 hz h.2⟩))
  obtain ⟨ANS, hA⟩ : ∃ ANS, x.misfit = ANS := ⟨_, rfl⟩
  obtain ⟨KA, hKA⟩ : ∃ KA, x.kids.any (fun k => !(mayH x.kind k.kind)) = KA := ⟨_, rfl⟩
  have HA := Lib.hid (show x.misfit = (KA || (if kd = 1 then !(u == noB && l == noB) || decide (0 < n) || !(s == noB) else if kd = 2 then !(s == noB) else if kd = 5 then !(u == noB) || decide (0 < n) else !(u == noB && l == noB) || decide (0 < n))) by rw [← hKA, ← hkd, ← hu, ← hl, ← hn, ← hs]; rfl)
  rw [hA] at HA ⊢
  rw [hKA] at C
  unfold AT.ptr at C ⊢
  rw [hb, ho] at C ⊢
  rw [hm] at C
  rw [hb, ho, hkd] at c0
  rw [hb, ho, hu] at c1
  rw [hb, ho, hl] at c2
  rw [hb, ho, hn] at c3
  rw [hb, ho, hm] at c4
  rw [hb, ho, hs] at c5
  rw [hb] at hbl
  clear hx h0 hK hb ho hkd hu hl hn hm hs hA hKA
  obtain ⟨N, hN⟩ : ∃ N, (!(u == noB && l == noB)) = N := ⟨_, rfl⟩
  have qN := fun (W : World) => name_neq W u l noB noB
  rw [hN, is_noB s, is_noB u] at HA
  rw [hN] at qN
  unfold noB at qN
  clear hN
  go_enter Tryz.func31, Tryz.ntmps31
  go_wp2_with (fail)
  go_region
  go_wp2_with (fail)
  go_at_call 58
  refine (C.out _ (((Below.refl _ _).alloc (Nat.le_refl _) _).drew) (by go_simp)).mono ?_
  rintro e w' ⟨rfl, hb'⟩
  have hB' := below_cat5 (((Below.refl w.heap.size w).alloc (Nat.le_refl _) _).drew) hb'
  have f0 := t_cell' hB' c0
  have f1 := t_cell' hB' c1
  have f5 := t_cell' hB' c5
  have g0 : w'.cell? ⟨w.heap.size, 0, none⟩ = some (.pointer (some ⟨b, o, none⟩)) := t_cell' hb' (by go_simp)
  have HB := Lib.hid hB'
  clear C hb' hB' c0 c1 c2 c3 c4 c5 hbl
  cases KA
  · by_cases k1 : kd = 1
    · subst k1
      cases N <;> by_cases h0 : 0 < n
      all_goals
        go_wp2_with (fail)
        go_ret
        exact ⟨ret_bb (by have h := HA.out; simp at h; simp [*]), HB.out⟩
    · by_cases k2 : kd = 2
      · subst k2
        go_wp2_with (fail)
        go_ret
        exact ⟨ret_bb (by have h := HA.out; simp at h; simp [*]), HB.out⟩
      · by_cases k5 : kd = 5
        · subst k5
          by_cases h0 : 0 < n <;> cases hu0 : u.toList.isEmpty
          all_goals
            go_wp2_with (fail)
            go_ret
            exact ⟨ret_bb (by have h := HA.out; simp at h; simp [*]), HB.out⟩
        · cases N <;> by_cases h0 : 0 < n
          all_goals
            go_wp2_with (fail)
            go_ret
            exact ⟨ret_bb (by have h := HA.out; simp [k1, k2, k5] at h; simp [*]), HB.out⟩
  · go_wp2_with (fail)
    go_ret
    exact ⟨ret_bb (by have h := HA.out; simp at h; exact h.symm), HB.out⟩
end Go.Proofs.YtfmlmdfehaajbaaGreatDoor
