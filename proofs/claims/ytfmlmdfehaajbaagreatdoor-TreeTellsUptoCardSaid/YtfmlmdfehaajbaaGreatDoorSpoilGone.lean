/- Proved here: spoiling a node without lists changes nothing. -/
import Derived.Test.YtfmlmdfehaajbaaGreatDoorCopyW
namespace Go.Proofs.YtfmlmdfehaajbaaGreatDoor
open Go.RowKit Go.Shelf

def spoilV : Nat → Value := nodeF 0 ⟨#[]⟩ ⟨#[]⟩ (.slice none 0 0) (.slice none 0 0) ⟨#[103, 111, 110, 101]⟩
/-- A node told by its value, whose lists lie in typed blocks from n on. -/
structure TypedOf (n : Nat) (W : World) (x : AT) (pa : Option Addr) (ca : Nat) (pk : Option Addr) (ck : Nat) : Prop where
  parts : PartsAt W x pa ca pk ck
  attrs : ∀ a, pa = some a → ∃ g, a = ⟨g, 0, none⟩ ∧ n ≤ g ∧ ∃ cur, W.heap[g]? = some (.cells cur 67 (0, 0))
  kids : ∀ a, pk = some a → ∃ g, a = ⟨g, 0, none⟩ ∧ n ≤ g ∧ ∃ cur, W.heap[g]? = some (.cells cur 27 (0, 0))
/-- Where the nodes below the root lie. -/
def Places (n : Nat) (V0 : World) (S : List AT) : Prop := ∀ y ∈ S, n ≤ y.b ∧ y.o % 6 = 0 ∧ ∃ cur, V0.heap[y.b]? = some (.cells cur 27 (0, 0)) ∧ y.o + 6 ≤ cur.size
def OwnCells (V : World) (y : AT) (pa : Option Addr) (ca : Nat) (pk : Option Addr) (ck : Nat) : Prop := ∀ j, j < 6 → V.cell? ⟨y.b, y.o + j, none⟩ = some (nodeF y.kind y.uri y.loc (.slice pa y.attrs.length ca) (.slice pk y.kids.length ck) y.text j)
def SpoiledCells (V : World) (y : AT) : Prop := ∀ j, j < 6 → V.cell? ⟨y.b, y.o + j, none⟩ = some (spoilV j)
structure SInv (n : Nat) (V0 : World) (S : List AT) (V : World) : Prop where
  below : Below n V0 V
  same : ∀ g cur T, n ≤ g → V0.heap[g]? = some (.cells cur T (0, 0)) → ∃ cur', V.heap[g]? = some (.cells cur' T (0, 0)) ∧ cur'.size = cur.size
  node : ∀ y ∈ S, (∃ pa ca pk ck, TypedOf n V0 y pa ca pk ck ∧ OwnCells V y pa ca pk ck) ∨ SpoiledCells V y
theorem SInv.far {n : Nat} {V0 : World} {S : List AT} {V W : World} (h : SInv n V0 S V) (hn : n ≤ V.heap.size) (b : Below V.heap.size V W) : SInv n V0 S W := by
  have cells : ∀ (y : AT) (j : Nat) v, V.cell? ⟨y.b, y.o + j, none⟩ = some v → W.cell? ⟨y.b, y.o + j, none⟩ = some v := fun y j v hv => Stay.below b _ _ hv
  refine ⟨h.below.trans (b.mono hn), fun g cur T h1 h2 => ?_, fun y hy => ?_⟩
  · obtain ⟨cur', h3, h4⟩ := h.same g cur T h1 h2
    exact ⟨cur', (b.block _ (it_lt h3)).trans h3, h4⟩
  · rcases h.node y hy with ⟨pa, ca, pk, ck, h1, h2⟩ | h1
    · exact .inl ⟨pa, ca, pk, ck, h1, fun j hj => cells y j _ (h2 j hj)⟩
    · exact .inr fun j hj => cells y j _ (h1 j hj)
/-- A block of attributes has been written. -/
theorem SInv.attr {n : Nat} {V0 : World} {S : List AT} {V W : World} (h : SInv n V0 S V) (hp : Places n V0 S) {g : Nat} {cur : Array Value} (hg : V0.heap[g]? = some (.cells cur 67 (0, 0))) (hng : n ≤ g) (hoth : ∀ k, k ≠ g → W.heap[k]? = V.heap[k]?) (hrow : ∃ cur', W.heap[g]? = some (.cells cur' 67 (0, 0)) ∧ cur'.size = cur.size)
    (h1 : W.os = V.os) (h2 : W.tape = V.tape) (h3 : W.output = V.output) (h4 : V.heap.size ≤ W.heap.size) : SInv n V0 S W := by
  have cells : ∀ y ∈ S, ∀ (j : Nat) v, V.cell? ⟨y.b, y.o + j, none⟩ = some v → W.cell? ⟨y.b, y.o + j, none⟩ = some v := fun y hy j v hv => by
    obtain ⟨_, _, c, hc, _⟩ := hp y hy
    refine (World.cell?_of_block (hoth y.b (fun e => ?_))).trans hv
    rw [e, hg] at hc
    injection hc with hc
    injection hc with _ hc
    exact absurd hc (by decide)
  refine ⟨⟨h1.trans h.below.os, h2.trans h.below.tape, h3.trans h.below.output, Nat.le_trans h.below.size h4, fun k hk => (hoth k (by omega)).trans (h.below.block k hk)⟩, fun g' c T e1 e2 => ?_, fun y hy => ?_⟩
  · by_cases e : g' = g
    · subst e
      rw [hg] at e2
      injection e2 with e2
      injection e2 with e2 e3
      subst e2 e3
      exact hrow
    · obtain ⟨c', h5, h6⟩ := h.same g' c T e1 e2
      exact ⟨c', (hoth g' e).trans h5, h6⟩
  · rcases h.node y hy with ⟨pa, ca, pk, ck, h5, h6⟩ | h5
    · exact .inl ⟨pa, ca, pk, ck, h5, fun j hj => cells y hy j _ (h6 j hj)⟩
    · exact .inr fun j hj => cells y hy j _ (h5 j hj)
/-- A node has been spoiled. -/
theorem SInv.lay {n : Nat} {V0 : World} {S : List AT} {V W : World} (h : SInv n V0 S V) (hp : Places n V0 S) {z : AT} (hz : z ∈ S) {arr : Array Value} (ha : V.heap[z.b]? = some (.cells arr 27 (0, 0))) (hw : VSt V z.b z.o arr spoilV W) (hnV : n ≤ V.heap.size) (hold : ∀ k, V.heap.size ≤ k → W.heap[k]? = V.heap[k]?) : SInv n V0 S W := by
  obtain ⟨hzn, hz6, cz, hcz, hzs⟩ := hp z hz
  obtain ⟨arr', hr, hsz, hout, hin⟩ := hw.row
  have hoth : ∀ k, k ≠ z.b → W.heap[k]? = V.heap[k]? := fun k hk => by
    by_cases hl : k < V.heap.size
    · exact hw.oth k hl hk
    · exact hold k (by omega)
  refine ⟨⟨hw.os.trans h.below.os, hw.tape.trans h.below.tape, hw.output.trans h.below.output, Nat.le_trans h.below.size hw.size, fun k hk => (hoth k (by omega)).trans (h.below.block k hk)⟩, fun g c T e1 e2 => ?_, fun y hy => ?_⟩
  · obtain ⟨c', h5, h6⟩ := h.same g c T e1 e2
    by_cases e : g = z.b
    · subst e
      rw [ha] at h5
      injection h5 with h5
      injection h5 with h5 h7
      subst h5 h7
      exact ⟨arr', hr, hsz.trans h6⟩
    · exact ⟨c', (hoth g e).trans h5, h6⟩
  · obtain ⟨_, hy6, _⟩ := hp y hy
    by_cases e : y.b = z.b ∧ y.o = z.o
    · refine .inr fun j hj => ?_
      rw [e.1, e.2]
      exact hw.cell j hj
    · have cells : ∀ (j : Nat) v, j < 6 → V.cell? ⟨y.b, y.o + j, none⟩ = some v → W.cell? ⟨y.b, y.o + j, none⟩ = some v := fun j v hj hv => by
        by_cases eb : y.b = z.b
        · have hne : y.o ≠ z.o := fun e2 => e ⟨eb, e2⟩
          rw [eb] at hv ⊢
          rw [cell_of_row _ _ _ _ _ _ ha] at hv
          rw [cell_of_row _ _ _ _ _ _ hr, hout _ (by omega)]
          exact hv
        · exact (World.cell?_of_block (hoth y.b eb)).trans hv
      rcases h.node y hy with ⟨pa, ca, pk, ck, h5, h6⟩ | h5
      · exact .inl ⟨pa, ca, pk, ck, h5, fun j hj => cells j _ hj (h6 j hj)⟩
      · exact .inr fun j hj => cells j _ hj (h5 j hj)
end Go.Proofs.YtfmlmdfehaajbaaGreatDoor
namespace Go.Proofs.YtfmlmdfehaajbaaGreatDoor
open Go.RowKit Go.Shelf

/-- Any six cells of a place. -/
theorem SInv.any {n : Nat} {V0 : World} {S : List AT} {V : World} (h : SInv n V0 S V) {y : AT} (hy : y ∈ S) : ∃ v : Nat → Value, ∀ j, j < 6 → V.cell? ⟨y.b, y.o + j, none⟩ = some (v j) := by
  rcases h.node y hy with ⟨pa, ca, pk, ck, _, h2⟩ | h1
  · exact ⟨_, h2⟩
  · exact ⟨_, h1⟩
def SOut (n : Nat) (V0 : World) (S : List AT) (V : World) (e : Ending) (W : World) : Prop := e = .returned (.tuple #[]) ∧ SInv n V0 S W ∧ V.heap.size ≤ W.heap.size ∧ ∀ k, V0.heap.size ≤ k → k < V.heap.size → W.heap[k]? = V.heap[k]?
set_option maxRecDepth 100000 in
set_option maxHeartbeats 4000000 in
theorem spoil_gone (V : World) : Calls Tryz.prog 20 #[.agg #[.int .i64 0, .string ⟨#[]⟩, .string ⟨#[]⟩, .slice none 0 0, .slice none 0 0, .string ⟨#[103, 111, 110, 101]⟩]] V fun e W => e = .returned (.tuple #[]) ∧ Below V.heap.size V W := by
  go_enter Tryz.func20, Tryz.ntmps20
  go_wp2_with (fail)
  go_loopw [7] (fun v wr => v = .int .i64 0 ∧ Hid' (Below V.heap.size V wr ∧ wr.heap[V.heap.size]? = some (.cells #[.int .i64 0, .string ⟨#[]⟩, .string ⟨#[]⟩, .slice none 0 0, .slice none 0 0, .string ⟨#[103, 111, 110, 101]⟩] 27 (0, 0)))) (fun _ _ => 0)
  case atStart => exact ⟨rfl, (Below.refl _ _).alloc (Nat.le_refl _) _, heap_alloc_new _ _⟩
  case round =>
    obtain ⟨rfl, hb, hr⟩ := hrel
    obtain ⟨U, rfl⟩ : ∃ U, U = wr := ⟨_, rfl⟩
    have HB := Lib.hid (And.intro hb hr)
    have c4 := cell_of_row _ _ 4 _ _ _ hr
    clear hb hr
    go_wp2_with (fail)
    go_loopw [19] (fun v wr => v = .int .i64 0 ∧ Hid' (Below V.heap.size V wr)) (fun _ _ => 0)
    case atStart => exact ⟨rfl, HB.out.1⟩
    case round =>
      obtain ⟨rfl, hb⟩ := hrel
      have HB2 := Lib.hid (show Below V.heap.size V wr from hb)
      clear hb
      go_wp2_with (fail)
      refine ⟨rfl, .tuple #[], ?_, ?_⟩
      · simp [results, Tryz.f20, go_sem]
      · exact ⟨rfl, HB2.out⟩
end Go.Proofs.YtfmlmdfehaajbaaGreatDoor
