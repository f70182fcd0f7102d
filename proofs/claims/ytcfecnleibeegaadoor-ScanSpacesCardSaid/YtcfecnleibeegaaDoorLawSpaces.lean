/- Proved here: the statement ScanSpaces, walked: it answers true of every three texts and every number, in every world that holds what the scanner leans on. -/
import Derived.Test.YtcfecnleibeegaaDoorAllIs
import Derived.Test.YtcfecnleibeegaaDoorSpacesPlain
import Derived.Test.YtcfecnleibeegaaDoorRefSame
import Derived.BigGuardPart
import Derived.Deep.RegionWith
import Derived.Deep.RegionHeld3
namespace Go.Proofs.YtcfecnleibeegaaDoor
open Go.RowKit

def gapOf (x : Nat) : ByteArray := match x % 5 with
  | 0 => ⟨#[32]⟩
  | 1 => ⟨#[10]⟩
  | 2 => ⟨#[13, 10]⟩
  | 3 => ⟨#[9, 32]⟩
  | _ => ⟨#[32, 32]⟩
theorem gap_index0 (W : World) : (Instr.index 35 (.agg #[.string ⟨#[32]⟩, .string ⟨#[10]⟩, .string ⟨#[13, 10]⟩, .string ⟨#[9, 32]⟩, .string ⟨#[32, 32]⟩]) (.int .u8 0)).run Tryd.prog W = .ok (.string ⟨#[32]⟩) W := by kernel_rfl
theorem gap_index1 (W : World) : (Instr.index 35 (.agg #[.string ⟨#[32]⟩, .string ⟨#[10]⟩, .string ⟨#[13, 10]⟩, .string ⟨#[9, 32]⟩, .string ⟨#[32, 32]⟩]) (.int .u8 1)).run Tryd.prog W = .ok (.string ⟨#[10]⟩) W := by kernel_rfl
theorem gap_index2 (W : World) : (Instr.index 35 (.agg #[.string ⟨#[32]⟩, .string ⟨#[10]⟩, .string ⟨#[13, 10]⟩, .string ⟨#[9, 32]⟩, .string ⟨#[32, 32]⟩]) (.int .u8 2)).run Tryd.prog W = .ok (.string ⟨#[13, 10]⟩) W := by kernel_rfl
theorem gap_index3 (W : World) : (Instr.index 35 (.agg #[.string ⟨#[32]⟩, .string ⟨#[10]⟩, .string ⟨#[13, 10]⟩, .string ⟨#[9, 32]⟩, .string ⟨#[32, 32]⟩]) (.int .u8 3)).run Tryd.prog W = .ok (.string ⟨#[9, 32]⟩) W := by kernel_rfl
theorem gap_index4 (W : World) : (Instr.index 35 (.agg #[.string ⟨#[32]⟩, .string ⟨#[10]⟩, .string ⟨#[13, 10]⟩, .string ⟨#[9, 32]⟩, .string ⟨#[32, 32]⟩]) (.int .u8 4)).run Tryd.prog W = .ok (.string ⟨#[32, 32]⟩) W := by kernel_rfl
theorem gap_index (x : Nat) (W : World) : (Instr.index 35 (.agg #[.string ⟨#[32]⟩, .string ⟨#[10]⟩, .string ⟨#[13, 10]⟩, .string ⟨#[9, 32]⟩, .string ⟨#[32, 32]⟩]) (.int .u8 ((x : Int) % 5))).run Tryd.prog W = .ok (.string (gapOf x)) W := by
  have h : x % 5 = 0 ∨ x % 5 = 1 ∨ x % 5 = 2 ∨ x % 5 = 3 ∨ x % 5 = 4 := by omega
  unfold gapOf
  rcases h with h | h | h | h | h
  · rw [show (x : Int) % 5 = 0 by omega, h]; exact gap_index0 W
  · rw [show (x : Int) % 5 = 1 by omega, h]; exact gap_index1 W
  · rw [show (x : Int) % 5 = 2 by omega, h]; exact gap_index2 W
  · rw [show (x : Int) % 5 = 3 by omega, h]; exact gap_index3 W
  · rw [show (x : Int) % 5 = 4 by omega, h]; exact gap_index4 W
theorem gap_ok (x : Nat) : ∃ g, Gap (gapOf x) g := by
  have h : x % 5 = 0 ∨ x % 5 = 1 ∨ x % 5 = 2 ∨ x % 5 = 3 ∨ x % 5 = 4 := by omega
  unfold gapOf
  rcases h with h | h | h | h | h
  · rw [h]; exact ⟨[32], ⟨rfl, by decide, by decide, by decide⟩⟩
  · rw [h]; exact ⟨[10], ⟨rfl, by decide, by decide, by decide⟩⟩
  · rw [h]; exact ⟨[10], ⟨rfl, by decide, by decide, by decide⟩⟩
  · rw [h]; exact ⟨[9, 32], ⟨rfl, by decide, by decide, by decide⟩⟩
  · rw [h]; exact ⟨[32, 32], ⟨rfl, by decide, by decide, by decide⟩⟩
theorem gap_size (x : Nat) : (gapOf x).size ≤ 2 := by
  have h : x % 5 = 0 ∨ x % 5 = 1 ∨ x % 5 = 2 ∨ x % 5 = 3 ∨ x % 5 = 4 := by omega
  unfold gapOf
  rcases h with h | h | h | h | h <;> rw [h] <;> decide
theorem pcells_one {W : World} {g c : Nat} {n v : ByteArray} (h0 : W.cell? ⟨g, 0, none⟩ = some (.string n)) (h1 : W.cell? ⟨g, 1, none⟩ = some (.string v)) : PCells W (.slice (some ⟨g, 0, none⟩) 1 c) [(n, v)] := by
  refine ⟨⟨_, _, rfl⟩, fun i x hx => ?_⟩
  cases i with
  | zero =>
    obtain rfl := Option.some.inj hx
    exact ⟨g, c, rfl, World.block_lt_of_cell? _ _ h0, h0, h1⟩
  | succ i => cases hx
set_option maxHeartbeats 16000000 in
set_option maxRecDepth 100000 in
theorem spaces_walk (name a v : ByteArray) (x : Nat) (w : World) (h1 : name.size ≤ 140737488355328) (h2 : a.size ≤ 140737488355328) (h3 : v.size ≤ 140737488355328) (hL : Leans w) :
    Calls Tryd.prog 4 #[.string name, .string a, .string v, .int .u8 (x : Int)] w fun e w' => e = .returned (.bool true) ∧ Below w.heap.size w w' := by
  have AW := Lib.hid (awake3_any w hL)
  obtain ⟨g, hg⟩ := gap_ok x
  have hgz := gap_size x
  have IDX := gap_index x
  obtain ⟨gap, hgap⟩ : ∃ gap, gapOf x = gap := ⟨_, rfl⟩
  rw [hgap] at hg hgz IDX
  have HG := Lib.hid hg
  have HL := Lib.hid hL
  have hgz2 : gap.size ≤ 140737488355328 := by omega
  clear hgap hg hL hgz
  go_enter Tryd.func4, Tryd.ntmps4
  go_wp2_with (fail)
  refine AW.out.mono ?_
  rintro e w1 ⟨rfl, hb1⟩
  have HB1 := Lib.hid hb1
  clear hb1
  go_upto_region 6 with fail
  obtain ⟨s, hs⟩ : ∃ s, (⟨#[60]⟩ : ByteArray) ++ name ++ ⟨#[32]⟩ ++ a ++ ⟨#[61, 39]⟩ ++ v ++ ⟨#[39, 47, 62]⟩ = s := ⟨_, rfl⟩
  obtain ⟨u, hu⟩ : ∃ u, (⟨#[239, 187, 191, 60]⟩ : ByteArray) ++ name ++ gap ++ a ++ gap ++ ⟨#[61]⟩ ++ gap ++ ⟨#[39]⟩ ++ v ++ ⟨#[39]⟩ ++ gap ++ ⟨#[47, 62]⟩ = u := ⟨_, rfl⟩
  have hsz : s.size ≤ 1000000000000000 := by
    rw [← hs]
    simp only [ByteArray.size_append]
    have e1 : (⟨#[60]⟩ : ByteArray).size = 1 := rfl
    have e2 : (⟨#[32]⟩ : ByteArray).size = 1 := rfl
    have e3 : (⟨#[61, 39]⟩ : ByteArray).size = 2 := rfl
    have e4 : (⟨#[39, 47, 62]⟩ : ByteArray).size = 3 := rfl
    omega
  have huz : u.size ≤ 1000000000000000 := by
    rw [← hu]
    simp only [ByteArray.size_append]
    have e1 : (⟨#[239, 187, 191, 60]⟩ : ByteArray).size = 4 := rfl
    have e2 : (⟨#[61]⟩ : ByteArray).size = 1 := rfl
    have e3 : (⟨#[39]⟩ : ByteArray).size = 1 := rfl
    have e4 : (⟨#[47, 62]⟩ : ByteArray).size = 2 := rfl
    omega
  have hsl : s.data.toList = 60 :: (name.data.toList ++ 32 :: (a.data.toList ++ 61 :: 39 :: (v.data.toList ++ [39, 47, 62]))) := by
    rw [← hs]
    simp
  have hul : u.data.toList = 239 :: 187 :: 191 :: 60 :: (name.data.toList ++ (gap.data.toList ++ (a.data.toList ++ (gap.data.toList ++ 61 :: (gap.data.toList ++ 39 :: (v.data.toList ++ 39 :: (gap.data.toList ++ [47, 62]))))))) := by
    rw [← hu]
    simp
  rw [hs, hu]
  have HS := Lib.hid (And.intro hsl hul)
  clear hs hu hsl hul IDX
  obtain ⟨c1, W1, hcv1, hc1, hbc1, _, hcell1⟩ := bytes_of w1 s
  have hh1 : HoldsB W1 (some ⟨w1.heap.size, 0, none⟩) s := fun _ => ⟨_, _, rfl, hcell1⟩
  have hbW1 := below_cat HB1.out hbc1
  have A1 := Lib.hid (all_is (some ⟨w1.heap.size, 0, none⟩) s c1 W1 hsz hc1 hh1 (HL.out.below hbW1))
  have HBW1 := Lib.hid hbW1
  clear hcell1 hh1 hbW1 hbc1 hc1
  go_wp2_with (fail)
  refine A1.out.mono ?_
  rintro e w2 ⟨q1, n1, d1, k1, e1, rfl, is1, hb2⟩
  have HB2 := Lib.hid (below_cat HBW1.out hb2)
  have IS1 := Lib.hid is1
  clear is1 hb2 hcv1 A1
  obtain ⟨c2, W2, hcv2, hc2, hbc2, _, hcell2⟩ := bytes_of w2 u
  have hh2 : HoldsB W2 (some ⟨w2.heap.size, 0, none⟩) u := fun _ => ⟨_, _, rfl, hcell2⟩
  have hbW2 := below_cat HB2.out hbc2
  have A2 := Lib.hid (all_is (some ⟨w2.heap.size, 0, none⟩) u c2 W2 huz hc2 hh2 (HL.out.below hbW2))
  have HBW2 := Lib.hid (And.intro hbW2 hbc2)
  clear hcell2 hh2 hbW2 hbc2 hc2
  go_wp2_with (fail)
  refine A2.out.mono ?_
  rintro e w3 ⟨q2, n2, d2, k2, e2, rfl, is2, hb3⟩
  have HB3 := Lib.hid (And.intro (below_cat HBW2.out.1 hb3) (below_cat HBW2.out.2 hb3))
  have IS2 := Lib.hid is2
  clear is2 hb3 hcv2 A2
  go_upto_region 8 with fail
  rcases IS1.out with ⟨l, hl, he, hn, tl⟩ | ⟨he, _⟩
  rotate_left
  · have g1 : (e1 == 0) = false := by rw [beq_eq_false_iff_ne]; exact he
    have g2 : (e1 != 0) = true := by rw [bne_iff_ne]; exact he
    clear h1 h2 h3 hgz2 hsz huz
    go_wp2_with (fail)
    go_ret
    exact ⟨rfl, HB3.out.1⟩
  subst he hn
  have hnf : l.length ≤ maxLen := by
    obtain ⟨_, _, t2, _⟩ := tl
    rcases t2.2 with ⟨_, h0⟩ | ⟨g0, c0, cur, _, _, _, h3, h4, _⟩
    · rw [h0]; unfold maxLen; omega
    · omega
  by_cases hl1 : l.length = 1
  rotate_left
  · have g1 : ¬ ((l.length : Nat) : Int) = 1 := by omega
    have g2 : (((l.length : Nat) : Int) == 1) = false := by rw [beq_eq_false_iff_ne]; exact g1
    have g3 : (((l.length : Nat) : Int) != 1) = true := by rw [bne_iff_ne]; exact g1
    clear h1 h2 h3 hgz2 hsz huz hl tl hl1 hnf
    go_wp2_with (fail)
    go_ret
    exact ⟨rfl, HB3.out.1⟩
  obtain ⟨y, rfl⟩ : ∃ y, l = [y] := List.length_eq_one_iff.1 hl1
  rw [hl1] at tl
  obtain ⟨g0, cc, hv, hcc, hcm, hgl, _, pv, hcell⟩ := tl.cell (by simp)
  obtain ⟨rfl, rfl⟩ : q1 = some ⟨g0, 0, none⟩ ∧ d1 = cc := by
    injection hv with h1 _ h3
    exact ⟨h1, h3⟩
  obtain ⟨hpa, x0, x1, x2, x3, x4, x5⟩ := hcell 0 y rfl
  obtain ⟨q3, c3, hpv, hpc, hpm⟩ := hpa.form2
  rw [hpv] at x3 hpa
  have y0 := hb_cell HB3.out.2 x0
  have y1 := hb_cell HB3.out.2 x1
  have y2 := hb_cell HB3.out.2 x2
  have y3 := hb_cell HB3.out.2 x3
  have y4 := hb_cell HB3.out.2 x4
  have y5 := hb_cell HB3.out.2 x5
  simp only [Nat.mul_zero, Nat.zero_add] at y0 y1 y2 y3 y4 y5
  have HPA := Lib.hid hpa
  have HY := Lib.hid hl
  have hl1' : ([y] : List (Nat × Tok)).length = 1 := rfl
  rw [hl1']
  clear hl hv hcell hpa hpv x0 x1 x2 x3 x4 x5 tl hl1 hl1' hnf
  obtain ⟨yn, hyn⟩ : ∃ n, y.2.pairs.length = n := ⟨_, rfl⟩
  rw [hyn] at y3 hpc
  by_cases hp1 : yn = 1
  rotate_left
  · have g1 : ¬ ((yn : Nat) : Int) = 1 := by omega
    have g2 : (((yn : Nat) : Int) == 1) = false := by rw [beq_eq_false_iff_ne]; exact g1
    have g3 : (((yn : Nat) : Int) != 1) = true := by rw [bne_iff_ne]; exact g1
    clear h1 h2 h3 hgz2 hsz huz hyn hp1
    go_wp2_with (fail)
    go_ret
    exact ⟨rfl, HB3.out.1⟩
  subst hp1
  obtain ⟨p, hpp⟩ : ∃ p, y.2.pairs = [p] := List.length_eq_one_iff.1 hyn
  have hpa2 := HPA.out
  rw [hpp] at hpa2
  obtain ⟨g4, c4, hv4, _, _, hg4, _, hcell4⟩ := hpa2.cell (by simp)
  obtain ⟨rfl, rfl⟩ : q3 = some ⟨g4, 0, none⟩ ∧ c3 = c4 := by
    injection hv4 with h1 _ h3
    exact ⟨h1, h3⟩
  obtain ⟨p0, p1⟩ := hcell4 0 p rfl
  have z0 := hb_cell HB3.out.2 p0
  have z1 := hb_cell HB3.out.2 p1
  simp only [Nat.mul_zero, Nat.zero_add] at z0 z1
  have HPP := Lib.hid hpp
  clear hv4 hcell4 p0 p1 hpa2 hyn hpp
  obtain ⟨kd, hkd⟩ : ∃ kd : Nat, y.2.kind = kd := ⟨_, rfl⟩
  rw [hkd] at y0
  by_cases hk4 : kd = 4
  rotate_left
  · have g1 : ¬ ((kd : Nat) : Int) = 4 := by omega
    have g2 : (((kd : Nat) : Int) == 4) = false := by rw [beq_eq_false_iff_ne]; exact g1
    have g3 : (((kd : Nat) : Int) != 4) = true := by rw [bne_iff_ne]; exact g1
    clear h1 h2 h3 hgz2 hsz huz hkd hk4
    go_wp2_with (fail)
    go_ret
    exact ⟨rfl, HB3.out.1⟩
  subst hk4
  have HKD := Lib.hid hkd
  clear hkd
  obtain ⟨pn, val⟩ := p
  by_cases hna : pn = a
  rotate_left
  · have g1 : (pn.toList == a.toList) = false := by rw [← str_dec2]; exact decide_eq_false hna
    have g2 : (pn.toList != a.toList) = true := by rw [bne, g1]; rfl
    have g3 : ¬ pn.toList = a.toList := by
      intro e
      rw [e] at g1
      simp at g1
    clear h1 h2 h3 hgz2 hsz huz hna
    go_wp2_with (fail)
    go_ret
    exact ⟨rfl, HB3.out.1⟩
  subst hna
  obtain ⟨yna, hyna⟩ : ∃ n, y.2.name = n := ⟨_, rfl⟩
  rw [hyna] at y2
  by_cases hnn : yna = name
  rotate_left
  · have g1 : (yna.toList == name.toList) = false := by rw [← str_dec2]; exact decide_eq_false hnn
    have g2 : (yna.toList != name.toList) = true := by rw [bne, g1]; rfl
    have g3 : ¬ yna.toList = name.toList := by
      intro e
      rw [e] at g1
      simp at g1
    clear h1 h2 h3 hgz2 hsz huz hnn hyna
    go_wp2_with (fail)
    go_ret
    exact ⟨rfl, HB3.out.1⟩
  subst hnn
  have HNM := Lib.hid hyna
  clear hyna
  by_cases hz : u.size ≤ 65536
  rotate_left
  · have g1 : (65536 : Int) < (u.size : Int) := by omega
    clear h1 h2 h3 hgz2 hsz hz
    go_wp2_with (fail)
    go_ret
    exact ⟨rfl, HB3.out.1⟩
  have hal := spaces_plain HG.out HS.out.1 HS.out.2 HY.out HKD.out HPP.out HNM.out hz
  obtain ⟨he2, hn2, tl2⟩ : e2 = 0 ∧ n2 = 1 ∧ TokL w3 W2.heap.size (.slice q2 1 d2) [y] := by
    rcases IS2.out with ⟨l2, r1, r2, r3, r4⟩ | ⟨_, k', e', r1⟩
    · rw [hal] at r1
      injection r1 with r1
      subst r1
      have r3' : n2 = 1 := r3
      subst r3'
      exact ⟨r2, rfl, r4⟩
    · rw [hal] at r1
      cases r1
  subst he2 hn2
  obtain ⟨g5, cc5, hv5, hcc5, hcm5, hgl5, _, pv5, hcell5⟩ := tl2.cell (by simp)
  obtain ⟨rfl, rfl⟩ : q2 = some ⟨g5, 0, none⟩ ∧ d2 = cc5 := by
    injection hv5 with h1 _ h3
    exact ⟨h1, h3⟩
  obtain ⟨hpa5, m0, m1, m2, m3, m4, m5⟩ := hcell5 0 y rfl
  rw [HPP.out] at hpa5
  rw [HKD.out] at m0
  rw [HNM.out] at m2
  obtain ⟨g6, c6, hv6, _, _, hg6, _, hcell6⟩ := hpa5.cell (by simp)
  rw [hv6] at m3
  obtain ⟨r0, r1⟩ := hcell6 0 _ rfl
  simp only [Nat.mul_zero, Nat.zero_add, List.length_cons, List.length_nil] at m0 m1 m2 m3 m4 m5 r0 r1
  have hzi : ¬ (65536 : Int) < (u.size : Int) := by omega
  have bl1 := World.block_lt_of_cell? _ _ y0
  have bl2 := World.block_lt_of_cell? _ _ z0
  have bl3 := World.block_lt_of_cell? _ _ m0
  have bl4 := World.block_lt_of_cell? _ _ r0
  have HC2 := Lib.hid (And.intro hcc (And.intro hcm (And.intro hcc5 hcm5)))
  clear hal tl2 hv5 hcell5 hpa5 hv6 hcell6 hg4 hg6 hgl hgl5 h1 h2 h3 hgz2 hsz huz hz hcc hcm hcc5 hcm5 hpc hpm
  have PC1 := Lib.hid (fun W (h : Below w3.heap.size w3 W) => pcells_one (c := c3) (hb_cell h z0) (hb_cell h z1))
  have PC2 := Lib.hid (fun W (h : Below w3.heap.size w3 W) => pcells_one (c := c6) (hb_cell h r0) (hb_cell h r1))
  go_upto_region 10 with fail
  go_region_held3 (fun W => W.cell? ⟨g0, 0, none⟩ = some (.int .i64 ((4 : Nat) : Int)) ∧ W.cell? ⟨g0, 1, none⟩ = some (.int .i64 (y.1 : Int)) ∧ W.cell? ⟨g0, 2, none⟩ = some (.string yna) ∧ W.cell? ⟨g0, 3, none⟩ = some (.slice (some ⟨g4, 0, none⟩) 1 c3) ∧ W.cell? ⟨g0, 4, none⟩ = some (.string y.2.text) ∧ W.cell? ⟨g0, 5, none⟩ = some (.int .i64 (y.2.refs : Int)) ∧
      W.cell? ⟨g5, 0, none⟩ = some (.int .i64 ((4 : Nat) : Int)) ∧ W.cell? ⟨g5, 1, none⟩ = some (.int .i64 (y.1 : Int)) ∧ W.cell? ⟨g5, 2, none⟩ = some (.string yna) ∧ W.cell? ⟨g5, 3, none⟩ = some (.slice (some ⟨g6, 0, none⟩) 1 c6) ∧ W.cell? ⟨g5, 4, none⟩ = some (.string y.2.text) ∧ W.cell? ⟨g5, 5, none⟩ = some (.int .i64 (y.2.refs : Int)) ∧ Below w3.heap.size w3 W)
    (first
      | exact ⟨y0, y1, y2, y3, y4, y5, m0, m1, m2, m3, m4, m5, (Below.refl _ _).drew⟩
      | (go_split_ands
         exact ⟨hb_cell hbe (by assumption), hb_cell hbe (by assumption), hb_cell hbe (by assumption), hb_cell hbe (by assumption), hb_cell hbe (by assumption), hb_cell hbe (by assumption), hb_cell hbe (by assumption), hb_cell hbe (by assumption), hb_cell hbe (by assumption), hb_cell hbe (by assumption), hb_cell hbe (by assumption), hb_cell hbe (by assumption), below_cat (by assumption) hbe⟩))
    (first
      | (go_at_call 9
         go_split_ands
         refine (doc_any _ _ _ _ _ _ [(pn, val)] _ (by first | exact PC1.out _ (by assumption) | exact PC2.out _ (by assumption)) (by simp)).mono ?_
         rintro e w' ⟨pvr, rfl, hr, hbe⟩)
      | (go_at_call 8
         go_split_ands
         refine (refSame_yes _ _ _ _ _ _ _ _ [(pn, val)] _ (by first | exact hr.cells | exact PCells.below (RPairsAt.cells (by assumption)) hbe) (by first | exact hr.cells | exact PCells.below (RPairsAt.cells (by assumption)) hbe) (by simp)).mono ?_
         rintro e w' ⟨rfl, hbe⟩))
  all_goals
    go_split_ands
    go_wp2_with (fail)
    go_ret
    exact ⟨rfl, below_cat HB3.out.1 (by assumption)⟩
end Go.Proofs.YtcfecnleibeegaaDoor
