/- Proved here: the iterator over a tree's nodes shows them in order, with their paths, as long as a round wants more. -/
import Derived.Test.YtfmlmdfehaajbaaGreatDoorRowsV
import Derived.Lib.Builder
import Derived.Laws.Build
import Derived.Sort.QuietIn
namespace Go.Proofs.YtfmlmdfehaajbaaGreatDoor
open Go.RowKit Go.Shelf
attribute [local go_sem] Oper.semAt_some

theorem infoIntT : (Tryz.prog.info? 3).map (fun i => (i.zero, i.size, i.bytes)) = some (some (.int .i64 0), 1, 8) := by kernel_rfl
theorem infoPtrT : (Tryz.prog.info? 58).map (fun i => (i.zero, i.size, i.bytes)) = some (some (.pointer none), 1, 8) := by kernel_rfl
/-- What a round is shown: a node, its path, and where the path lies. -/
structure Shown (root : AT) where
  p : List Nat
  t : AT
  q : Option Addr
  c : Nat
  mem : (p, t) ∈ AT.flat [] root
def Shown.item {root : AT} (x : Shown root) : List Nat × AT := (x.p, x.t)
def Shown.args {root : AT} (x : Shown root) : Array Value := #[.slice x.q x.p.length x.c, x.t.ptr]
/-- Where the path lies when the round begins. -/
def Shown.pre {root : AT} (n₁ : Nat) (x : Shown root) (W : World) : Prop := HoldsN W x.q x.p ∧ x.p.length ≤ x.c ∧ ∀ b off, x.q = some ⟨b, off, none⟩ → n₁ ≤ b
theorem HoldsN.ckeep {X : Nat → Prop} {W W' : World} {q : Option Addr} {p : List Nat} (h : HoldsN W q p) (k : CKeep X W W') (hx : ∀ b off, q = some ⟨b, off, none⟩ → ¬ X b) : HoldsN W' q p := fun h0 => by
  obtain ⟨b, e, hc⟩ := h h0
  exact ⟨b, e, fun j i hi => k.cell (hx b 0 e) (hc j i hi)⟩
theorem Shown.pre_put {root : AT} {n₁ : Nat} {x : Shown root} {W : World} {l : Nat} {o o' : Obj} (hl : W.heap[l]? = some o) (ho : o.isCells = false) (h : x.pre n₁ W) : x.pre n₁ (W.putObj l o') :=
  ⟨h.1.ckeep (CKeep.putObj (X := fun _ => False) hl ho o') (fun _ _ _ => id), h.2⟩
theorem Stay.ckeep {X : Nat → Prop} {w0 W W' : World} (h : Stay w0 W) (k : CKeep X W W') (hx : ∀ b, b < w0.heap.size → ¬ X b) : Stay w0 W' := fun a v hc => k.cell (hx _ (World.block_lt_of_cell? _ _ hc)) (h a v hc)
theorem Stay.below' {w0 W W' : World} {B : Nat} (h : Stay w0 W) (b : Below B W W') (hB : w0.heap.size ≤ B) : Stay w0 W' := fun a v hc => by
  have hl := World.block_lt_of_cell? _ _ hc
  exact (World.cell?_of_block (b.block a.block (by omega))).trans (h a v hc)
theorem ItStep.grown {n₁ : Nat} {A B : World} {row : Option Nat} (hg : A.grownBy B row) (hr : ∀ k, row = some k → n₁ ≤ k ∧ ∃ o, A.heap[k]? = some o ∧ o.isCells = true) : ItStep n₁ A B :=
  ⟨hg.os, hg.tape, hg.output, hg.size, fun k o hk hc => by
    refine (hg.block k (it_lt hk) (fun e => ?_)).trans hk
    obtain ⟨h1, o', h2, h3⟩ := hr k e.symm
    rcases hc with h | h
    · omega
    · rw [hk] at h2; cases h2; rw [h3] at h; cases h⟩
theorem ItStep.alloc {n₁ : Nat} (A : World) (o : Obj) : ItStep n₁ A (A.alloc o) := ⟨rfl, rfl, rfl, by simp, fun _ _ hk _ => (Below.heap_alloc _ _ _ (it_lt hk)).trans hk⟩
theorem ItStep.below {n₁ : Nat} {A B : World} (h : ItStep n₁ A B) (hn : n₁ ≤ A.heap.size) : Below n₁ A B := ⟨h.os, h.tape, h.output, h.size, fun k hk => by
  have hk' : k < A.heap.size := by omega
  rw [show A.heap[k]? = some (A.heap[k]'hk') from Array.getElem?_eq_getElem hk']
  exact h.keep k _ (Array.getElem?_eq_getElem hk') (.inl hk)⟩
def wayV (root : AT) (rp : List Nat) : List Value := ((AT.way root rp).reverse).map AT.ptr
theorem wayV_length (root : AT) (rp : List Nat) : (wayV root rp).length = rp.length + 1 := by simp [wayV, AT.way_length]
theorem wayV_cons (root : AT) (i : Nat) (rp : List Nat) : wayV root (i :: rp) = wayV root rp ++ [(AT.last root (i :: rp)).ptr] := by
  unfold wayV
  rw [AT.way_cons, List.reverse_cons, List.map_append]
  rfl
theorem wayV_last (root : AT) (rp : List Nat) : (wayV root rp)[rp.length]? = some (AT.last root rp).ptr := by
  unfold wayV
  rw [AT.way_eq, List.reverse_cons, List.map_append]
  have : (((AT.way root rp).tail.reverse).map AT.ptr).length = rp.length := by simp [AT.way_length]
  rw [List.getElem?_append_right (by omega), this]
  simp
theorem pathV_snoc (rp : List Nat) (j : Nat) : pathV (j :: rp).reverse = pathV rp.reverse ++ [.int .i64 (j : Int)] := by simp [pathV]
theorem ptr_one (t : AT) : t.ptr.oneCell' = true := rfl
/-- How the iterator's own lies at the loop's head. -/
structure NSt (root : AT) (w0 : World) (n₁ Bn : Nat) (tb : TypeId) (X : Nat → Prop) (wr : World) (rp : List Nat) (qw : Option Addr) (cw : Nat) (qp : Option Addr) (cp : Nat) : Prop where
  good : AT.Good root rp
  way : OwnV 58 wr n₁ qw cw (wayV root rp)
  path : OwnV 3 wr n₁ qp cp (pathV rp.reverse)
  apart : ∀ b off b' off', qw = some ⟨b, off, none⟩ → qp = some ⟨b', off', none⟩ → b ≠ b'
  stay : Stay w0 wr
  box : wr.heap[Bn]? = some (.cells #[root.ptr] tb (0, 0))
  size : n₁ ≤ wr.heap.size
theorem NSt.ckeep {root : AT} {w0 : World} {n₁ Bn : Nat} {tb : TypeId} {X : Nat → Prop} {wr w' : World} {rp : List Nat} {qw : Option Addr} {cw : Nat} {qp : Option Addr} {cp : Nat} (h : NSt root w0 n₁ Bn tb X wr rp qw cw qp cp) (k : CKeep X wr w') (hX : ∀ b, X b → w0.heap.size ≤ b ∧ b < n₁) (hB : ¬ X Bn) : NSt root w0 n₁ Bn tb X w' rp qw cw qp cp :=
  ⟨h.good, h.way.keep (fun b cur e hh => k.keep _ _ (fun hx => by have := (hX b hx).2; have := (h.way.block b 0 e).1; omega) hh rfl), h.path.keep (fun b cur e hh => k.keep _ _ (fun hx => by have := (hX b hx).2; have := (h.path.block b 0 e).1; omega) hh rfl), h.apart, h.stay.ckeep k (fun b hb hx => by have := (hX b hx).1; omega), k.keep _ _ hB h.box rfl, Nat.le_trans h.size k.size⟩
def natOf : Value → Nat
  | .int _ z => z.toNat
  | _ => 0
def lenOf : Value → Nat
  | .slice _ n _ => n
  | _ => 0
def Hid' (p : Prop) : Prop := p
theorem Hid'.out {p : Prop} (h : Hid' p) : p := h
/-- How much is still to be done. -/
def toDo (root : AT) (vp vn : Value) (w : World) : Nat := 2 * (AT.rest root (pathOf w vp).reverse (natOf vn)).length + lenOf vp
set_option maxRecDepth 100000 in
set_option maxHeartbeats 8000000 in
theorem nodes_C (F : Fence) (n : Nat) (h28 : F.fn 57) (hro : F.round = none) (hn : 1 ≤ n) (root : AT) (w0 W : World) (Bn : Nat) (tb : TypeId) (X : Nat → Prop) (hT : TreeAt w0 root) (hst : Stay w0 W) (hBn : W.heap[Bn]? = some (.cells #[root.ptr] tb (0, 0))) (hBx : ¬ X Bn) (hX : ∀ b, X b → w0.heap.size ≤ b ∧ b < W.heap.size) (hw0 : w0.heap.size ≤ W.heap.size) (hdep : ∀ x ∈ AT.flat [] root, x.1.length ≤ 1000000000) :
    SeqC F n Tryz.prog 57 #[.pointer (some ⟨Bn, 0, none⟩)] (fun x : Shown root => #[.slice x.q x.p.length x.c, x.t.ptr]) (Shown.pre W.heap.size) X (fun xs => xs.map Shown.item = AT.flat [] root) (fun pre => pre.map Shown.item <+: AT.flat [] root) W := by
  cases F
  dsimp only at hro
  subst hro
  intro l J Jx hJ hJx hY h0
  have hbc : W.cell? ⟨Bn, 0, none⟩ = some root.ptr := by rw [cell_of_row _ _ _ _ _ _ hBn]; rfl
  obtain ⟨W1, hW1⟩ : ∃ W1, (W.alloc (.cells #[root.ptr] 58)).alloc (.cells #[] 3) = W1 := ⟨_, rfl⟩
  have hs1 : W1.heap.size = W.heap.size + 2 := by rw [← hW1]; simp
  have hit : ItStep W.heap.size W W1 := by rw [← hW1]; exact (ItStep.alloc _ _).trans (ItStep.alloc _ _)
  have hJ1 : J [] W1 := hJ _ _ _ h0 hit
  obtain ⟨fn0, tmps0, assign0, body0, hy0, hR0⟩ := hY [] ⟨[], root, some ⟨W.heap.size + 1, 0, none⟩, 0, by rw [AT.flat_eq]; simp⟩ W1 hJ1 ⟨fun h => absurd h (Nat.lt_irrefl 0), Nat.le_refl _, fun b off e => by cases e; omega⟩ ⟨_, (AT.flat_start root).symm⟩
  have HY := Lib.hid hY
  have HR0 := Lib.hid hR0
  refine callsIn_of_wp Tryz.func57 rfl h28 ?_ rfl
  simp only [Tryz.ntmps57, List.size_toArray, List.length_cons, List.length_nil, Nat.reduceAdd, Nat.reduceSub, Array.replicate_succ, Array.replicate_zero, List.push_toArray, List.append_toArray, List.nil_append, List.cons_append]
  dsimp only at hy0
  clear hY hR0
  simp only [List.length_nil] at hy0
  have hbc1 : W1.cell? ⟨Bn, 0, none⟩ = some root.ptr := by rw [← hW1]; exact Stay.below (((Below.refl _ _).alloc (Nat.le_refl _) _).alloc (by simp) _) _ _ hbc
  unfold AT.ptr at hbc hy0 hW1 hbc1
  have N1 : NSt root w0 W.heap.size Bn tb X W1 [] (some ⟨W.heap.size, 0, none⟩) 1 (some ⟨W.heap.size + 1, 0, none⟩) 0 := by
    have ha := heap_alloc_new W (.cells #[.pointer (some ⟨root.b, root.o, none⟩)] 58)
    have hb := heap_alloc_new (W.alloc (.cells #[.pointer (some ⟨root.b, root.o, none⟩)] 58)) (.cells #[] 3)
    rw [World.size_alloc, hW1] at hb
    have ha1 : W1.heap[W.heap.size]? = some (.cells #[.pointer (some ⟨root.b, root.o, none⟩)] 58 (0, 0)) := by rw [← hW1]; exact (Below.heap_alloc _ _ _ (by simp)).trans ha
    refine ⟨trivial, ⟨⟨rfl, .inr ⟨_, _, _, rfl, Nat.le_refl _, ha1, Nat.le_refl _, by unfold maxLen; decide, rfl, rfl⟩⟩, Nat.le_refl _, (fun e => by cases e), fun u hu => ?_, by unfold maxLen; decide⟩, ⟨⟨rfl, .inr ⟨_, _, _, rfl, by omega, hb, Nat.le_refl _, by unfold maxLen; decide, rfl, rfl⟩⟩, Nat.le_refl _, (fun e => by cases e), (fun u hu => by cases hu), by unfold maxLen; decide⟩, fun b off b' off' e e' => by cases e; cases e'; omega, hst.below' (hit.below (Nat.le_refl _)) hw0, hit.keep _ _ hBn (.inl (it_lt hBn)), by omega⟩
    have : u = root.ptr := by simpa [wayV, AT.way] using hu
    rw [this]
    rfl
  have HN1 := Lib.hid N1
  have HC0 := Lib.hid hw0
  have HBn := Lib.hid (it_lt hBn)
  have HC := Lib.hid (And.intro hT (And.intro hX (And.intro hBx (And.intro hJ (And.intro hJx hdep)))))
  clear hT hX hBx hJ hJx hdep N1 hst hBn hit hJ1 hw0 h0
  gi_wp2
  refine HR0.out.mono ?_
  rintro e W2 (⟨rfl, hJ2, hk2⟩ | ⟨rfl, hJx2⟩)
  · have HN2 := Lib.hid (And.intro (HN1.out.ckeep hk2 HC.out.2.1 HC.out.2.2.1) hJ2)
    clear hJ2 hk2 HN1 HR0 hy0 hbc hbc1 hW1 hs1
    gi_wp2
    gi_loopw [3, 4, 5] (fun v3 v4 v5 wr => ∃ (pre : List (Shown root)) (rp : List Nat) (j : Nat) (qw : Option Addr) (cw : Nat) (qp : Option Addr) (cp : Nat), v3 = .slice qw (rp.length + 1) cw ∧ v4 = .slice qp rp.length cp ∧ v5 = .int .i64 (j : Int) ∧ j ≤ (AT.last root rp).kids.length ∧
        Hid' (AT.flat [] root = pre.map Shown.item ++ AT.rest root rp j ∧ J pre wr ∧ NSt root w0 W.heap.size Bn tb X wr rp qw cw qp cp)) (fun _ v4 v5 wr => toDo root v4 v5 wr)
    case atStart =>
      exact ⟨[⟨[], root, some ⟨W.heap.size + 1, 0, none⟩, 0, by rw [AT.flat_eq]; simp⟩], [], 0, _, _, _, _, rfl, rfl, rfl, Nat.zero_le _, ⟨AT.flat_start root, HN2.out.2, HN2.out.1⟩⟩
    case round =>
      clear HN2
      obtain ⟨pre, rp, j, qw, cw, qp, cp, rfl, rfl, rfl, hj, hR⟩ := hrel
      have HR := Lib.hid hR.out
      clear hR
      obtain ⟨hf, hJs, hN⟩ := HR.out
      obtain ⟨gw, rfl⟩ := hN.way.form (by rw [wayV_length]; omega)
      have cW := hN.way.cell (wayV_last root rp)
      have hnode := (HC.out.1 _ (AT.last_mem hN.good)).stay hN.stay
      obtain ⟨pa, ca, pk, ck, hpt, _, _, _, _, c4, _⟩ := hnode
      have hlw : rp.length + 1 ≤ cw := by have := hN.way.2.1; rwa [wayV_length] at this
      by_cases hlt : j < (AT.last root rp).kids.length
      · obtain ⟨k, hk⟩ : ∃ k, (AT.last root rp).kids[j]? = some k := ⟨_, List.getElem?_eq_getElem hlt⟩
        obtain ⟨kb, ko, rfl, hkp⟩ := hpt.kid hlt
        have hkk : (AT.last root rp).kids[j] = k := by rw [List.getElem?_eq_getElem hlt] at hk; exact Option.some.inj hk
        rw [hkk] at hkp
        have hlk : AT.last root (j :: rp) = k := by rw [AT.last_cons, List.getD_eq_getElem?_getD, hk]; rfl
        obtain ⟨n0, hn0⟩ : ∃ n0, (AT.last root rp).kids.length = n0 := ⟨_, rfl⟩
        rw [hn0] at c4 hlt hj
        obtain ⟨L, hL⟩ : ∃ L, rp.length = L := ⟨_, rfl⟩
        have hLb : rp.length ≤ 1000000000 := by have := HC.out.2.2.2.2.2 _ (AT.last_flat hN.good); rwa [List.length_reverse] at this
        have hnb : n0 ≤ 140737488351232 := by rw [← hn0]; exact hpt.ksz
        rw [hL] at cW hlw hLb ⊢
        have hjI : (j : Int) < (n0 : Int) := by omega
        obtain ⟨i0, hi0, hz0, hz1, hz2⟩ := info_parts infoPtrT
        obtain ⟨i1, hi1, hy0', hy1, hy2⟩ := info_parts infoIntT
        obtain ⟨g3, c3, w3, hrun3, ho3, hg3, hb3⟩ := appendV (x := k.ptr) Tryz.underlying76 hi0 hz0 hz1 hz2 rfl hN.way rfl hN.size (by rw [wayV_length]; omega)
        have hpath3 : OwnV 3 w3 W.heap.size qp cp (pathV rp.reverse) := hN.path.keep (fun b cur e hh => (hg3.block b (it_lt hh) (fun e2 => by
          have e3 : b = gw := by injection e2
          exact hN.apart gw 0 b 0 rfl e e3.symm)).trans hh)
        have hs3 : W.heap.size ≤ w3.heap.size := Nat.le_trans hN.size hg3.size
        obtain ⟨g4, c4', w4, hrun4, ho4, hg4, hb4⟩ := appendV (x := .int .i64 (j : Int)) Tryz.underlying39 hi1 hy0' hy1 hy2 rfl hpath3 rfl hs3 (by simp [pathV]; omega)
        have hplen : (pathV rp.reverse).length = L := by simp [pathV, hL]
        rw [wayV_length, hL, hkp] at hrun3
        rw [hplen] at hrun4
        have it3 : ItStep W.heap.size wr w3 := ItStep.grown hg3 (fun b e => by
          have e' : b = gw := by injection e with e; exact e.symm
          subst e'
          obtain ⟨h1, _, _, cur, h2⟩ := hN.way.block b 0 rfl
          exact ⟨h1, _, h2, rfl⟩)
        have it4 : ItStep W.heap.size w3 w4 := ItStep.grown hg4 (fun b e => by
          cases qp with
          | none => cases e
          | some a =>
            have e' : a.block = b := by injection e
            obtain ⟨ab, ao, asp⟩ := a
            subst e'
            rcases hpath3.1.2 with ⟨h1, _⟩ | ⟨g', _, _, h1, _⟩
            · cases h1
            · injection h1 with h1
              injection h1 with h1
              injection h1 with h1 h2' h3'
              subst h1 h2' h3'
              obtain ⟨h1, _, _, cur, h2⟩ := hpath3.block ab 0 rfl
              exact ⟨h1, _, h2, rfl⟩)
        have hit34 := it3.trans it4
        have hne : g3 ≠ g4 := fun e => by
          subst e
          have hg3lt := (ho3.block g3 0 rfl).2.1
          rcases hb4 with hb4 | hb4
          · rcases hb3 with hb3 | hb3
            · injection hb3 with hb3
              injection hb3 with hb3
              exact hN.apart gw 0 g3 0 rfl hb4 hb3
            · have := (hN.path.block g3 0 hb4).2.1
              omega
          · omega
        have ho34 : OwnV 58 w4 W.heap.size (some ⟨g3, 0, none⟩) c3 (wayV root (j :: rp)) := by
          rw [wayV_cons, hlk]
          refine ho3.keep (fun b cur e hh => (hg4.block b (it_lt hh) (fun e2 => ?_)).trans hh)
          have eb : g3 = b := by injection e with e; injection e
          subst eb
          cases qp with
          | none => cases e2
          | some a =>
            have e' : g3 = a.block := by injection e2
            rcases hpath3.1.2 with ⟨h1, _⟩ | ⟨g', _, _, h1, _⟩
            · cases h1
            · injection h1 with h1
              injection h1 with h1
              subst h1
              have e'' : g3 = g' := e'
              subst e''
              have hlt3 := (hN.path.block g3 0 rfl).2.1
              rcases hb3 with hb3 | hb3
              · injection hb3 with hb3
                injection hb3 with hb3
                exact hN.apart gw 0 g3 0 rfl rfl hb3
              · omega
        have hgood : AT.Good root (j :: rp) := ⟨by rw [hn0]; exact hlt, hN.good⟩
        have N4 : NSt root w0 W.heap.size Bn tb X w4 (j :: rp) (some ⟨g3, 0, none⟩) c3 (some ⟨g4, 0, none⟩) c4' := by
          refine ⟨hgood, ho34, by rw [pathV_snoc]; exact ho4, fun b off b' off' e e' => by cases e; cases e'; exact hne, hN.stay.below' (hit34.below hN.size) ?_, hit34.keep _ _ hN.box (.inl ?_), Nat.le_trans hN.size hit34.size⟩
          · exact HC0.out
          · exact HBn.out
        have hmem := AT.last_flat hgood
        rw [hlk] at hmem
        have hJ4 := HC.out.2.2.2.1 _ _ _ hJs hit34
        have hpre4 : Shown.pre W.heap.size (⟨(j :: rp).reverse, k, some ⟨g4, 0, none⟩, c4', hmem⟩ : Shown root) w4 := ⟨N4.path.holds, by have := N4.path.2.1; simpa [pathV] using this, fun b off e => by cases e; exact (N4.path.block g4 0 rfl).1⟩
        obtain ⟨fn4, tmps4, assign4, body4, hy4, hR4⟩ := HY.out pre ⟨(j :: rp).reverse, k, some ⟨g4, 0, none⟩, c4', hmem⟩ w4 hJ4 hpre4 ⟨AT.rest root (j :: rp) 0, by rw [hf, AT.rest_kid root rp j hk, List.map_append, List.append_assoc]; simp [Shown.item]⟩
        dsimp only at hy4
        rw [List.length_reverse, List.length_cons, hL, hkp] at hy4
        have HR4 := Lib.hid hR4
        have H4 := Lib.hid (And.intro N4 (And.intro hf (And.intro (AT.rest_kid root rp j hk) (And.intro hN hL))))
        have HRUN3 := Lib.hid hrun3
        have HRUN4 := Lib.hid hrun4
        clear hpt hf hJs hN hj ho3 hg3 hb3 hpath3 hs3 ho4 hg4 hb4 it3 it4 hit34 hne ho34 N4 hJ4 hpre4 hR4 hk hkp hkk hlk hn0 hi0 hz0 hz1 hz2 hi1 hy0' hy1 hy2 hrun3 hrun4 hplen hgood
        unfold AT.ptr at cW
        gi_wp2_with (first | (gi_at_builtin; refine appendIn_eq rfl _ _ 76 rfl _ _ _ _ rfl rfl HRUN3.out ?_) | (gi_at_builtin; refine appendIn_eq rfl _ _ 39 rfl _ _ _ _ rfl rfl HRUN4.out ?_))
        refine HR4.out.mono ?_
        rintro e W5 (⟨rfl, hJ5, hk5⟩ | ⟨rfl, hJx5⟩)
        · have N5 := H4.out.1.ckeep hk5 HC.out.2.1 HC.out.2.2.1
          have H5 := Lib.hid (And.intro N5 hJ5)
          clear N5 hJ5 hk5 HR4 hy4 cW c4
          gi_wp2
          go_roundw
          case rel =>
            refine ⟨pre ++ [⟨(j :: rp).reverse, k, some ⟨g4, 0, none⟩, c4', hmem⟩], j :: rp, 0, _, _, _, _, by rw [List.length_cons, H4.out.2.2.2.2], by rw [List.length_cons, H4.out.2.2.2.2], rfl, Nat.zero_le _, ⟨?_, H5.out.2, H5.out.1⟩⟩
            rw [H4.out.2.1, H4.out.2.2.1, List.map_append, List.append_assoc]
            simp [Shown.item]
          case measure =>
            unfold toDo
            have e1 : pathOf W5 (.slice (some ⟨g4, 0, none⟩) (L + 1) c4') = (j :: rp).reverse := by
              have := pathOf_eq (c := c4') H5.out.1.path.holds (fun e => by cases e)
              rwa [List.length_reverse, List.length_cons, H4.out.2.2.2.2] at this
            have e2 : pathOf wr (.slice qp L cp) = rp.reverse := by
              have := pathOf_eq (c := cp) H4.out.2.2.2.1.path.holds (fun e => by have := H4.out.2.2.2.1.path.nil_path e; simpa [pathV] using this)
              rwa [List.length_reverse, H4.out.2.2.2.2] at this
            rw [e1, e2, List.reverse_reverse, List.reverse_reverse]
            simp only [natOf, lenOf, Int.toNat_natCast, Int.toNat_zero]
            rw [H4.out.2.2.1, List.length_cons]
            omega
        · clear hy4 cW c4 HR4
          gi_wp2
          refine bodyPost_ret (results_none rfl _ _ _) rfl ?_
          refine ⟨⟨_, rfl⟩, .inr ⟨_, ⟨AT.rest root (j :: rp) 0, ?_⟩, hJx5⟩⟩
          rw [H4.out.2.1, H4.out.2.2.1, List.map_append, List.append_assoc]
          simp [Shown.item]
      · obtain ⟨n0, hn0⟩ : ∃ n0, (AT.last root rp).kids.length = n0 := ⟨_, rfl⟩
        have hnb : n0 ≤ 140737488351232 := by rw [← hn0]; exact hpt.ksz
        have hle : (AT.last root rp).kids.length ≤ j := by omega
        rw [hn0] at c4 hj hlt
        have hjI : ¬ (j : Int) < (n0 : Int) := by omega
        unfold AT.ptr at cW
        cases rp with
        | nil =>
          have hfin : AT.flat [] root = pre.map Shown.item := by
            rw [hf, AT.rest_end root j hle, List.append_nil]
          have HF := Lib.hid (And.intro hfin hJs)
          clear hpt hf hJs hN hj hn0 hle hlt hfin HC0 HBn
          simp only [List.length_nil] at cW hlw ⊢
          gi_wp2
          refine bodyPost_ret (results_none rfl _ _ _) rfl ?_
          exact ⟨⟨_, rfl⟩, .inl ⟨pre, HF.out.1.symm, HF.out.2⟩⟩
        | cons i rp =>
          obtain ⟨gp, rfl⟩ := hN.path.form (by simp [pathV])
          have cP : wr.cell? ⟨gp, rp.length, none⟩ = some (.int .i64 (i : Int)) := hN.path.cell (by rw [pathV_snoc, List.getElem?_append_right (by simp [pathV])]; simp [pathV])
          have hlp : rp.length + 1 ≤ cp := by have := hN.path.2.1; simpa [pathV] using this
          have hib : i ≤ 140737488351232 := by
            have hnd := (HC.out.1 _ (AT.last_mem hN.good.2)).stay hN.stay
            obtain ⟨_, _, _, _, hpt2, _⟩ := hnd
            have := hpt2.ksz
            have := hN.good.1
            omega
          have hLb : (i :: rp).length ≤ 1000000000 := by have := HC.out.2.2.2.2.2 _ (AT.last_flat hN.good); rwa [List.length_reverse] at this
          have N4 : NSt root w0 W.heap.size Bn tb X wr rp (some ⟨gw, 0, none⟩) cw (some ⟨gp, 0, none⟩) cp :=
            ⟨hN.good.2, by have := hN.way; rw [wayV_cons] at this; exact this.cut, by have := hN.path; rw [pathV_snoc] at this; exact this.cut, hN.apart, hN.stay, hN.box, hN.size⟩
          have H4 := Lib.hid (And.intro N4 (And.intro hf (And.intro (AT.rest_up root i rp j hle) (And.intro hN (And.intro hJs hN.good.1)))))
          obtain ⟨L, hL⟩ : ∃ L, rp.length = L := ⟨_, rfl⟩
          rw [List.length_cons, hL] at hLb cW hlw
          rw [hL] at cP hlp
          rw [List.length_cons, hL]
          clear hpt hf hJs hN hj hn0 hle hlt N4
          have hL0 : (0 : Int) ≤ (L : Int) := by omega
          have hL1 : (L : Int) ≤ (cw : Int) := by omega
          have hL2 : (L : Int) ≤ (cp : Int) := by omega
          gi_wp2
          gi_quiet (fail)
          have itd : ItStep W.heap.size wr (wr.drewN nq) := ⟨rfl, rfl, rfl, Nat.le_refl _, fun _ _ h _ => h⟩
          have H5 := Lib.hid (And.intro (HC.out.2.2.2.1 _ _ _ H4.out.2.2.2.2.1 itd) (show NSt root w0 W.heap.size Bn tb X (wr.drewN nq) rp (some ⟨gw, 0, none⟩) cw (some ⟨gp, 0, none⟩) cp from ⟨H4.out.1.good, H4.out.1.way, H4.out.1.path, H4.out.1.apart, H4.out.1.stay, H4.out.1.box, H4.out.1.size⟩))
          clear itd
          gi_wp2
          go_roundw
          case rel =>
            refine ⟨pre, rp, i + 1, _, _, _, _, by rw [hL], by rw [hL], by go_num, H4.out.2.2.2.2.2, ⟨?_, H5.out.1, H5.out.2⟩⟩
            rw [H4.out.2.1, H4.out.2.2.1]
          case measure =>
            unfold toDo
            have e1 : pathOf (wr.drewN nq) (.slice (some ⟨gp, 0, none⟩) L cp) = rp.reverse := by
              have := pathOf_eq (c := cp) H5.out.2.path.holds (fun e => by cases e)
              rwa [List.length_reverse, hL] at this
            have e2 : pathOf wr (.slice (some ⟨gp, 0, none⟩) (L + 1) cp) = (i :: rp).reverse := by
              have := pathOf_eq (c := cp) H4.out.2.2.2.1.path.holds (fun e => by cases e)
              rwa [List.length_reverse, List.length_cons, hL] at this
            rw [e1, e2, List.reverse_reverse, List.reverse_reverse]
            have e3 : ((i : Int) + 1).toNat = i + 1 := by omega
            simp only [natOf, lenOf, Int.toNat_natCast, e3]
            rw [H4.out.2.2.1]
            omega
  · clear hy0 hbc hbc1 hW1 hs1
    gi_wp2
    refine bodyPost_ret (results_none rfl _ _ _) rfl ?_
    exact ⟨⟨_, rfl⟩, .inr ⟨_, ⟨_, (AT.flat_start root).symm⟩, hJx2⟩⟩
end Go.Proofs.YtfmlmdfehaajbaaGreatDoor
