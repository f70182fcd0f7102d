/- Proved here: what the questions read of a node; isMisfit. -/
import Derived.Test.YtfmlmdfehaajbaaGreatDoorAnyw
import Derived.Test.YtfmlmdfehaajbaaGreatDoorShelfR
import Derived.Deep.QuietTactic
import Derived.BigQuiet
namespace Go.Proofs.YtfmlmdfehaajbaaGreatDoor
open Go.RowKit Go.Shelf

def mayH (kind kid : Int) : Bool := if kid == 2 || kid == 4 || kid == 5 then kind == 1 || kind == 2 else if kid == 3 then kind == 2 else false
theorem ret_bb {a b : Bool} (h : a = b) : Ending.returned (.bool a) = .returned (.bool b) := by rw [h]
theorem mayHave_any (k j : Int) (w : World) : Calls Tryz.prog 60 #[.int .i64 k, .int .i64 j] w fun e w' => e = .returned (.bool (mayH k j)) ∧ w' = w := by
  by_cases a2 : j = 2
  · by_cases k1 : k = 1
    · go_enter Tryz.func60, Tryz.ntmps60
      go_wp2_with (fail)
      go_ret
      exact ⟨ret_bb (by simp [mayH, a2, k1]), rfl⟩
    · by_cases k2 : k = 2
      all_goals
        go_enter Tryz.func60, Tryz.ntmps60
        go_wp2_with (fail)
        go_ret
        exact ⟨ret_bb (by simp [mayH, a2, k1, k2]), rfl⟩
  · by_cases a4 : j = 4
    · by_cases k1 : k = 1
      · go_enter Tryz.func60, Tryz.ntmps60
        go_wp2_with (fail)
        go_ret
        exact ⟨ret_bb (by simp [mayH, a4, k1]), rfl⟩
      · by_cases k2 : k = 2
        all_goals
          go_enter Tryz.func60, Tryz.ntmps60
          go_wp2_with (fail)
          go_ret
          exact ⟨ret_bb (by simp [mayH, a4, k1, k2]), rfl⟩
    · by_cases a5 : j = 5
      · by_cases k1 : k = 1
        · go_enter Tryz.func60, Tryz.ntmps60
          go_wp2_with (fail)
          go_ret
          exact ⟨ret_bb (by simp [mayH, a5, k1]), rfl⟩
        · by_cases k2 : k = 2
          all_goals
            go_enter Tryz.func60, Tryz.ntmps60
            go_wp2_with (fail)
            go_ret
            exact ⟨ret_bb (by simp [mayH, a5, k1, k2]), rfl⟩
      · by_cases a3 : j = 3
        · by_cases k2 : k = 2
          all_goals
            go_enter Tryz.func60, Tryz.ntmps60
            go_wp2_with (fail)
            go_ret
            exact ⟨ret_bb (by simp [mayH, a3, k2]), rfl⟩
        · go_enter Tryz.func60, Tryz.ntmps60
          go_wp2_with (fail)
          go_ret
          exact ⟨ret_bb (by simp [mayH, a2, a3, a4, a5]), rfl⟩

/-- A kid, told by its value. -/
structure KN where
  t : AT
  pa : Option Addr
  ca : Nat
  pk : Option Addr
  ck : Nat
  deriving Inhabited
def KN.enc (z : KN) : List Value := [.int .i64 z.t.kind, .string z.t.uri, .string z.t.loc, .slice z.pa z.t.attrs.length z.ca, .slice z.pk z.t.kids.length z.ck, .string z.t.text]
def AttrM.enc (a : AttrM) : List Value := [.string a.uri, .string a.loc, .string a.val]
theorem kn_list {W : World} : ∀ (ks : List AT), (∀ k ∈ ks, NodeAt W k) → ∃ zs : List KN, zs.map KN.t = ks ∧ ∀ j, j < zs.length → ∀ i v, (zs[j]!.enc)[i]? = some v → W.cell? ⟨zs[j]!.t.b, zs[j]!.t.o + i, none⟩ = some v := fun ks => by
  induction ks with
  | nil => intro _; exact ⟨[], rfl, fun j hj => absurd hj (Nat.not_lt_zero _)⟩
  | cons k r ih =>
    intro h
    obtain ⟨zs, e, hz⟩ := ih (fun k' hk' => h k' (List.mem_cons_of_mem _ hk'))
    obtain ⟨pa, ca, pk, ck, h0, h1, h2, h3, h4, h5, h6⟩ := h k List.mem_cons_self
    refine ⟨⟨k, pa, ca, pk, ck⟩ :: zs, by rw [List.map_cons, e], fun j hj i v hv => ?_⟩
    cases j with
    | zero =>
      change ([_, _, _, _, _, _] : List Value)[i]? = some v at hv
      change W.cell? ⟨k.b, k.o + i, none⟩ = some v
      match i, hv with
      | 0, hv => simp at hv; subst hv; exact h1
      | 1, hv => simp at hv; subst hv; exact h2
      | 2, hv => simp at hv; subst hv; exact h3
      | 3, hv => simp at hv; subst hv; exact h4
      | 4, hv => simp at hv; subst hv; exact h5
      | 5, hv => simp at hv; subst hv; exact h6
      | i + 6, hv => simp at hv
    | succ j =>
      have e2 : (⟨k, pa, ca, pk, ck⟩ :: zs : List KN)[j + 1]! = zs[j]! := by simp [List.getElem!_eq_getElem?_getD]
      rw [e2] at hv ⊢
      exact hz j (by simpa using hj) i v hv
theorem indexNode_none (p : Option Addr) (c g : Nat) (lb : Array Value) (w : World) :
    Calls Tryz.prog 81 #[.slice p 0 c, .func (.func g) #[] lb] w fun e w' => e = .returned (.int .i64 (-1)) ∧ w' = w := by
  go_enter Tryz.func81, Tryz.ntmps81
  go_wp2_with (fail)
  go_loop [8] (fun v => v = .int .i64 0) (fun _ => 0)
  case atStart => rfl
  case round =>
    subst hrel
    go_wp2_with (fail)
    go_ret
    exact ⟨rfl, rfl⟩
theorem containsNode_none (p : Option Addr) (c g : Nat) (lb : Array Value) (w : World) :
    Calls Tryz.prog 58 #[.slice p 0 c, .func (.func g) #[] lb] w fun e w' => e = .returned (.bool false) ∧ w' = w := by
  go_enter Tryz.func58, Tryz.ntmps58
  go_wp2_with (go_at_call 81; refine (indexNode_none _ _ _ _ _).mono ?_; rintro e w' ⟨rfl, rfl⟩)
  go_ret
  exact ⟨rfl, rfl⟩
theorem indexAttr_none (p : Option Addr) (c g : Nat) (lb : Array Value) (w : World) :
    Calls Tryz.prog 83 #[.slice p 0 c, .func (.func g) #[] lb] w fun e w' => e = .returned (.int .i64 (-1)) ∧ w' = w := by
  go_enter Tryz.func83, Tryz.ntmps83
  go_wp2_with (fail)
  go_loop [8] (fun v => v = .int .i64 0) (fun _ => 0)
  case atStart => rfl
  case round =>
    subst hrel
    go_wp2_with (fail)
    go_ret
    exact ⟨rfl, rfl⟩
theorem containsAttr_none (p : Option Addr) (c g : Nat) (lb : Array Value) (w : World) :
    Calls Tryz.prog 64 #[.slice p 0 c, .func (.func g) #[] lb] w fun e w' => e = .returned (.bool false) ∧ w' = w := by
  go_enter Tryz.func64, Tryz.ntmps64
  go_wp2_with (go_at_call 83; refine (indexAttr_none _ _ _ _ _).mono ?_; rintro e w' ⟨rfl, rfl⟩)
  go_ret
  exact ⟨rfl, rfl⟩
/-- Whether something holds of any attribute of a node. -/
theorem anyAttr {α : Type} [Inhabited α] (to : α → AttrM) (p : α → Bool) (g : Nat) (lb : Array Value) (eg : ∀ args w, (callFunc g args).run Tryz.prog w = .ok (.enter g args) w) (W : World) (q : Option Addr) (l : List AttrM) (zs : List α) (hzs : zs.map to = l) (c : Nat) (hl : l.length ≤ 140737488355328) (ha : AttrsAt W q l)
    (hp : PredBelow Tryz.prog g lb (fun x => .agg (to x).enc.toArray) p W) :
    Calls Tryz.prog 64 #[.slice q l.length c, .func (.func g) #[] lb] W fun e w' => e = .returned (.bool (zs.any p)) ∧ Below W.heap.size W w' := by
  by_cases h0 : 0 < l.length
  · obtain ⟨b, off, rfl, hc⟩ := ha h0
    have hn : zs.length = l.length := by rw [← hzs, List.length_map]
    have hb : b < W.heap.size := World.block_lt_of_cell? _ _ (hc 0 h0).1
    refine (Tryz.containsAttr (fun w => by simp [go_sem]) (fun w => by simp [go_sem]) (fun x => (to x).enc) (fun x => rfl) p g lb eg b off l.length c zs W hp (by omega) (by omega) hb (fun j hj i v hv => ?_)).mono ?_
    · have hj' : j < l.length := by omega
      have e1 : to zs[j]! = l[j] := by
        subst hzs
        rw [List.getElem_map]
        congr 1
        simp [List.getElem!_eq_getElem?_getD, hj]
      rw [show (to zs[j]!).enc = [.string l[j].uri, .string l[j].loc, .string l[j].val] by rw [e1]; rfl] at hv
      match i, hv with
      | 0, hv => simp at hv; subst hv; exact (hc j hj').1
      | 1, hv => simp at hv; subst hv; exact (hc j hj').2.1
      | 2, hv => simp at hv; subst hv; exact (hc j hj').2.2
      | i + 3, hv => simp at hv
    · rintro e w' ⟨rfl, hb'⟩
      exact ⟨ret_bb (by rw [List.take_of_length_le (by omega)]), hb'⟩
  · have hl0 : l = [] := List.eq_nil_of_length_eq_zero (by omega)
    subst hl0
    have : zs = [] := by simpa using hzs
    subst this
    refine (containsAttr_none _ _ _ _ _).mono ?_
    rintro e w' ⟨rfl, rfl⟩
    exact ⟨rfl, Below.refl _ _⟩
end Go.Proofs.YtfmlmdfehaajbaaGreatDoor
