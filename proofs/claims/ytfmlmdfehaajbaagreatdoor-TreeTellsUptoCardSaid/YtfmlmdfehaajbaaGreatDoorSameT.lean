/- Proved here: the document's Same says whether two trees are the same. -/
import Derived.Test.YtfmlmdfehaajbaaGreatDoorPlainT
import Derived.Test.YtfmlmdfehaajbaaGreatDoorTreeArg
import Derived.Test.YtfmlmdfehaajbaaGreatDoorAsks2
namespace Go.Proofs.YtfmlmdfehaajbaaGreatDoor
open Go.RowKit Go.Shelf

theorem attr_neq (w : World) (u l v u' l' v' : ByteArray) : (binOp .neq 67 (.agg #[.string u, .string l, .string v]) (.agg #[.string u', .string l', .string v'])).run Tryz.prog w = .ok (.bool (!(u == u' && l == l' && v == v'))) w := by
  rw [run_neq_struct]
  simp [go_sem, Tryz.underlying67, Tryz.underlying23, Go.beq_toListBytes]
  by_cases h1 : u.toList = u'.toList <;> by_cases h2 : l.toList = l'.toList <;> by_cases h3 : v.toList = v'.toList <;> simp [h1, h2, h3]
theorem beq_eq (a b : ByteArray) : (a == b) = true ↔ a = b := by
  rw [Go.beq_toListBytes, beq_iff_eq]
  constructor
  · intro h
    rw [ByteArray.toList_eq, ByteArray.toList_eq] at h
    obtain ⟨⟨x⟩⟩ := a
    obtain ⟨⟨y⟩⟩ := b
    exact congrArg (fun l => (⟨⟨l⟩⟩ : ByteArray)) h
  · rintro rfl
    rfl
theorem attrM_eq (a b : AttrM) : (a.uri == b.uri && a.loc == b.loc && a.val == b.val) = true ↔ a = b := by
  simp only [Bool.and_eq_true, beq_eq]
  constructor
  · rintro ⟨⟨h1, h2⟩, h3⟩
    cases a
    cases b
    simp only at h1 h2 h3
    subst h1 h2 h3
    rfl
  · rintro rfl
    exact ⟨⟨rfl, rfl⟩, rfl⟩
/-- It answers whether P. -/
def Says (e : Ending) (P : Prop) : Prop := ∃ r, e = .returned (.bool r) ∧ (r = true ↔ P)
set_option maxRecDepth 100000 in
set_option maxHeartbeats 2000000 in
theorem sameAttrs_any (W : World) (la lb : List AttrM) (pa pb : Option Addr) (ca cb : Nat) (hA : AttrsAt W pa la) (hB : AttrsAt W pb lb) (ha : la.length ≤ 140737488351232) (hb : lb.length ≤ 140737488351232) (hca : la.length ≤ ca) (hcb : lb.length ≤ cb) :
    Calls Tryz.prog 46 #[.slice pa la.length ca, .slice pb lb.length cb] W fun e W' => Says e (la = lb) ∧ Below W.heap.size W W' := by
  by_cases hl : la.length = lb.length
  · obtain ⟨n, hn⟩ : ∃ n, la.length = n := ⟨_, rfl⟩
    have hn2 : lb.length = n := by omega
    have HA := Lib.hid hA
    have HB := Lib.hid hB
    have HN := Lib.hid (And.intro hn hn2)
    rw [hn, hn2]
    rw [hn] at ha hca
    rw [hn2] at hcb
    clear hl hn hn2 hA hB hb
    go_enter Tryz.func46, Tryz.ntmps46
    go_wp2_with (fail)
    go_loopw [13] (fun v wr => ∃ j : Nat, v = .int .i64 (j : Int) ∧ j ≤ n ∧ Hid' (Below W.heap.size W wr ∧ la.take j = lb.take j)) (fun v _ => n - (intOf v).toNat)
    case atStart => exact ⟨0, rfl, Nat.zero_le _, ⟨Below.refl _ _, by rw [List.take_zero, List.take_zero]⟩⟩
    case round =>
      obtain ⟨j, rfl, hj, HI⟩ := hrel
      by_cases hlt : j < n
      · have hi' : (j : Int) < (n : Int) := by omega
        have ha' : j < la.length := by have := HN.out.1; omega
        have hb' : j < lb.length := by have := HN.out.2; omega
        obtain ⟨b1, o1, rfl, h1⟩ := HA.out (by omega)
        obtain ⟨b2, o2, rfl, h2⟩ := HB.out (by omega)
        have c0 := t_cell' HI.out.1 (h1 j ha').1
        have c1 := t_cell' HI.out.1 (h1 j ha').2.1
        have c2 := t_cell' HI.out.1 (h1 j ha').2.2
        have d0 := t_cell' HI.out.1 (h2 j hb').1
        have d1 := t_cell' HI.out.1 (h2 j hb').2.1
        have d2 := t_cell' HI.out.1 (h2 j hb').2.2
        obtain ⟨X, hX⟩ : ∃ X, (la[j].uri == lb[j].uri && la[j].loc == lb[j].loc && la[j].val == lb[j].val) = X := ⟨_, rfl⟩
        have HX := Lib.hid (show X = true ↔ la[j] = lb[j] from by rw [← hX]; exact attrM_eq _ _)
        have qN := fun (w : World) => attr_neq w la[j].uri la[j].loc la[j].val lb[j].uri lb[j].loc lb[j].val
        rw [hX] at qN
        clear h1 h2 hX
        generalize la[j].uri = u1 at *
        generalize la[j].loc = l1 at *
        generalize la[j].val = v1 at *
        generalize lb[j].uri = u2 at *
        generalize lb[j].loc = l2 at *
        generalize lb[j].val = v2 at *
        cases X
        · have HQ : Hid (¬ la[j] = lb[j]) := Lib.hid (fun e => by have := HX.out.2 e; cases this)
          clear HX
          go_wp2_with (fail)
          go_quiet (fail)
          go_wp2_with (fail)
          go_ret
          refine ⟨⟨false, rfl, fun h => (by cases h), fun h => ?_⟩, below_drewN' HI.out.1 _⟩
          exact absurd (List.getElem_of_eq h ha') HQ.out
        · have HQ : Hid (la[j] = lb[j]) := Lib.hid (HX.out.1 rfl)
          clear HX
          go_wp2_with (fail)
          go_quiet (fail)
          go_wp2_with (fail)
          go_roundw
          case rel => exact ⟨j + 1, by go_num, hlt, ⟨below_drewN' HI.out.1 _, by rw [List.take_add_one, List.take_add_one, HI.out.2, List.getElem?_eq_getElem ha', List.getElem?_eq_getElem hb', HQ.out]⟩⟩
          case measure => simp only [intOf]; omega
      · have hi' : ¬ (j : Int) < (n : Int) := by omega
        go_wp2_with (fail)
        go_ret
        have hjn : j = n := by omega
        refine ⟨⟨true, rfl, fun _ => ?_, fun _ => rfl⟩, HI.out.1⟩
        have h := HI.out.2
        rwa [List.take_of_length_le (by have := HN.out.1; omega), List.take_of_length_le (by have := HN.out.2; omega)] at h
  · have hl' : ((la.length : Int) == (lb.length : Int)) = false := by rw [beq_eq_false_iff_ne]; omega
    have hln : ¬ (la.length : Int) = (lb.length : Int) := by omega
    have HL := Lib.hid hl
    have HL2 := Lib.hid (fun (h : la = lb) => hl (congrArg List.length h))
    clear hA hB hl HL
    generalize la.length = n at *
    generalize lb.length = m at *
    go_enter Tryz.func46, Tryz.ntmps46
    go_wp2_with (fail)
    go_ret
    exact ⟨⟨false, rfl, fun h => (by cases h), fun h => absurd h HL2.out⟩, Below.refl _ _⟩
end Go.Proofs.YtfmlmdfehaajbaaGreatDoor
