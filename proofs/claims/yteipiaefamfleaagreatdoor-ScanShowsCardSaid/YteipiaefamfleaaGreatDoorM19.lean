/- Proved here: what Plain and All answer of every slice of bytes. | Proved here: where the cells of tokens, and of pairs, lie. | Proved here: the scan statements' own first look (awake) answers true in every world that holds what the scanner leans on. | Proved here: facts on what scan.All answers: its errors, its places, the form of its slices. | Proved here: what scan.All answers of any bytes, in one form; of too many bytes, too. | Proved here: how many pairs a token may have. -/
import Derived.Test.YteipiaefamfleaaGreatDoorM17
import Derived.Test.YteipiaefamfleaaGreatDoorM18
import Derived.Lib.SlBytesConst
import Derived.Test.YteipiaefamfleaaGreatDoorM1
namespace Go.Proofs.YteipiaefamfleaaGreatDoor
open Go.RowKit

abbrev MARK : Obj := .cells #[.int .u8 239, .int .u8 187, .int .u8 191] 5 (3, 4)
theorem holds_in {w : World} {p : Option Addr} {s : ByteArray} (h : HoldsB w p s) : Lib.BytesIn w p s.size (s.data.toList.map fun b => ((b.toNat : Nat) : Int)) := by
  intro h0
  obtain ⟨b, o, e, hc⟩ := h h0
  refine ⟨b, o, e, fun i hi => ?_⟩
  rw [hc i hi]
  have h1 := get!_of s i hi
  simp [List.getD, h1]
def bareB (b : ByteArray) : ByteArray := if Lib.hasPrefix b.data.toList [239, 187, 191] then b.extract 3 b.size else b
theorem text_bare (b : ByteArray) : textF b = linesB (bareB b) := rfl
theorem bare_size (b : ByteArray) : (bareB b).size ≤ b.size := by
  unfold bareB
  split
  · simp
  · exact Nat.le_refl _
theorem text_size (b : ByteArray) : (textF b).size ≤ b.size := Nat.le_trans (linesB_size _) (bare_size b)
theorem trim_mark (p : Option Addr) (s : ByteArray) (c : Nat) (W : World) (hc : s.size ≤ c) (hp : HoldsB W p s) : ∃ p' c', Lib.trimPrefixV p s.size c (s.data.toList.map fun b => ((b.toNat : Nat) : Int)) [239, 187, 191] = .slice p' (bareB s).size c' ∧ HoldsB W p' (bareB s) := by
  have hx : Lib.bytesOf (s.data.toList.map fun b => ((b.toNat : Nat) : Int)) = s.data.toList := strZ_bytes s
  unfold bareB
  cases hpre : Lib.hasPrefix s.data.toList [239, 187, 191]
  · refine ⟨p, c, ?_, by simpa using hp⟩
    unfold Lib.trimPrefixV
    split
    · unfold Lib.bytesTrimPrefix
      rename_i heq
      injection heq with h1 h2
      subst h1 h2
      rw [hx, show Lib.bytesOf [239, 187, 191] = [239, 187, 191] from rfl, hpre]
      simp
    · simp
  · have hl := (List.isPrefixOf_iff_prefix.1 hpre).length_le
    simp only [List.length_cons, List.length_nil, Array.length_toList] at hl
    have h0 : 0 < s.size := by show 0 < s.data.size; omega
    obtain ⟨b, o, rfl, hcell⟩ := hp h0
    have hsz : (s.extract 3 s.size).size = s.size - 3 := by simp
    refine ⟨if c = 3 then some ⟨b, o, none⟩ else some ⟨b, o + 3, none⟩, c - 3, ?_, ?_⟩
    · show Lib.bytesTrimPrefix b o s.size c _ _ = _
      unfold Lib.bytesTrimPrefix
      rw [hx, show Lib.bytesOf [239, 187, 191] = [239, 187, 191] from rfl, hpre, if_pos rfl, if_pos rfl, hsz]
      unfold Lib.sliceFrom
      rfl
    · rw [if_pos rfl]
      intro h1
      rw [hsz] at h1
      have hss : s.size = s.data.size := rfl
      rw [if_neg (by omega)]
      exact (holds_part (p := some ⟨b, o + 3, none⟩) hcell (Nat.le_refl _) (by omega) (fun _ => rfl)) (by rw [hsz]; omega)
theorem Owns.less {w : World} {B B' g cap : Nat} {s : ByteArray} (h : Owns w B g cap s) (hB : B' ≤ B) : Owns w B' g cap s := by
  obtain ⟨h1, h2, h3, h4⟩ := h
  refine ⟨⟨h1.1, ?_⟩, Nat.le_trans hB h2, h3, h4⟩
  rcases h1.2 with g | ⟨g, c, cur, e, h5, r⟩
  · exact .inl g
  · exact .inr ⟨g, c, cur, e, Nat.le_trans hB h5, r⟩
set_option maxHeartbeats 1000000 in
theorem plain_any (p : Option Addr) (s : ByteArray) (c : Nat) (w : World) (hs : s.size ≤ 140737488355000) (hc : s.size ≤ c) (hp : HoldsB w p s) :
    Calls Tryz.prog 10 #[.slice p s.size c] w (MadeB (textF s) w) := by
  have kc : (convert 22 22 (.slice (some ⟨w.heap.size, 0, none⟩) 3 3)).run Tryz.prog (w.alloc (.cells #[.int .u8 239, .int .u8 187, .int .u8 191] 5)) = .ok (.slice (some ⟨w.heap.size, 0, none⟩) 3 3) (w.alloc MARK) := Lib.run_convert_bytes_const w 22 5 #[.int .u8 239, .int .u8 187, .int .u8 191] 3 3 Tryz.underlying22 Tryz.underlying5
  have hb : Below w.heap.size w (w.alloc MARK) := (Below.refl _ _).alloc (Nat.le_refl _) _
  have TP := Tryz.bytes_TrimPrefix p (some ⟨w.heap.size, 0, none⟩) s.size c 3 3 (s.data.toList.map fun b => ((b.toNat : Nat) : Int)) [239, 187, 191] (w.alloc MARK) (by simp) rfl hc (holds_in (hp.below hb)) (fun _ => ⟨w.heap.size, 0, rfl, fun i hi => by
    rw [Nat.zero_add, cell_of_row _ _ _ _ _ _ (heap_alloc_new w MARK)]
    match i, hi with
    | 0, _ => rfl
    | 1, _ => rfl
    | 2, _ => rfl⟩)
  obtain ⟨p', c', he, hp'⟩ := trim_mark p s c (w.alloc MARK) hc (hp.below hb)
  rw [he] at TP
  have L := lines_any p' (bareB s) c' (w.alloc MARK) (by have := bare_size s; omega) hp'
  rw [← text_bare] at L
  have TH := Lib.hid TP
  have LH := Lib.hid L
  have HB := Lib.hid hb
  clear TP L hb he hp hp' hs hc
  go_enter Tryz.func10, Tryz.ntmps10
  go_wp2_with (fail)
  refine TH.out.mono ?_
  rintro e w2 ⟨rfl, rfl⟩
  go_wp2_with (fail)
  refine LH.out.mono ?_
  rintro e w3 ⟨g, cap, rfl, ho, hb3⟩
  go_wp2_with (fail)
  go_ret
  exact ⟨g, cap, rfl, ho.less (by simp), below_cat HB.out hb3⟩
/-- What All answers, as it lies in memory. -/
def AllPost (w : World) (r : Except (Nat × Nat) (List (Nat × Tok))) (e : Ending) (w' : World) : Prop := match r with
  | .ok l => ∃ v, e = .returned (.tuple #[v, .int .i64 0, .int .i64 0]) ∧ TokL w' w.heap.size v l
  | .error (k, e0) => e = .returned (.tuple #[.slice none 0 0, .int .i64 (k : Int), .int .i64 (e0 : Int)])
set_option maxHeartbeats 1000000 in
theorem all_any (p : Option Addr) (s : ByteArray) (c : Nat) (w : World) (hs : s.size ≤ 140737488355328) (hc : s.size ≤ c) (hp : HoldsB w p s) (hT : Tabs w) (hN : NamedAt w) (hM : MaxAt w) (hA : FoldAt w) :
    Calls Tryz.prog 5 #[.slice p s.size c] w fun e w' => AllPost w (allF s) e w' ∧ Below w.heap.size w w' := by
  obtain ⟨res, hres⟩ : ∃ r, allF s = r := ⟨_, rfl⟩
  rw [hres]
  unfold allF at hres
  by_cases hbig : 65536 < s.size
  · rw [if_pos hbig] at hres
    have HRES := Lib.hid hres
    have hbz : ((s.size : Int) > 65536) := by omega
    have hbd : decide ((65536 : Int) < (s.size : Int)) = true := decide_eq_true (by omega)
    clear hp hT hN hM hA hres hs hc
    go_enter Tryz.func5, Tryz.ntmps5
    go_wp2_with (fail)
    go_ret3
    rw [← HRES.out]
    exact ⟨rfl, Below.refl _ _⟩
  · rw [if_neg hbig] at hres
    have hbz : ¬ (65536 : Int) < (s.size : Int) := by omega
    have hbd : decide ((65536 : Int) < (s.size : Int)) = false := decide_eq_false (by omega)
    have PL := Lib.hid (plain_any p s c w (by omega) hc hp)
    have hts := text_size s
    have HS := Lib.hid (And.intro hts hbig)
    have HW := Lib.hid (And.intro hT (And.intro hN (And.intro hM hA)))
    clear hp hT hN hM hA hs hc hts
    generalize textF s = t at *
    by_cases hf : (faultF t).2 = 0
    · rw [if_neg (by simpa using hf)] at hres
      have FL := Lib.hid (fun q k W hW hk hh => fault_any q t k W hW (by have := HS.out; omega) hk hh)
      have HRES := Lib.hid hres
      generalize faultF t = ft at *
      obtain ⟨fk, fe⟩ := ft
      simp only at hf FL
      subst hf
      clear hres hbig
      go_enter Tryz.func5, Tryz.ntmps5
      go_wp2_with (fail)
      refine PL.out.mono ?_
      rintro e w2 ⟨g, cap, rfl, ho, hb⟩
      have HO := Lib.hid (And.intro ho hb)
      clear ho hb
      go_wp2_with (fail)
      refine (FL.out _ _ w2 (HW.out.1.below HO.out.2) HO.out.1.2.2.2 HO.out.1.holds).mono ?_
      rintro e w3 ⟨rfl, hb3⟩
      have hB3 := below_cat HO.out.2 hb3
      have ho3 := HO.out.1.far hb3
      have TX : Txt w3 g 0 cap t := ⟨ho3.2.2.2, by have := HS.out; omega, fun j hj => by
        obtain ⟨b', o', e, hcc⟩ := ho3.holds (by omega)
        injection e with e
        injection e with e1 e2 _
        subst e1 e2
        exact hcc j hj⟩
      have EE : Env w3 w3.heap.size g 0 cap t := ⟨TX, Nat.le_refl _, ho3.2.2.1, HW.out.1.below hB3, HW.out.2.1.below hB3, by
        obtain ⟨m, hm⟩ := HW.out.2.2.1
        exact ⟨m, hb_cell hB3 hm⟩, HW.out.2.2.2.below hB3⟩
      have TK := Lib.hid (tokens_any t g 0 cap w3 EE res HRES.out)
      have HB3 := Lib.hid hB3
      clear hb3 hB3 ho3 TX EE
      go_wp2_with (fail)
      refine TK.out.mono ?_
      rintro e w4 ⟨hpost, hb4⟩
      have HB4 := Lib.hid (below_cat HB3.out hb4)
      clear TK hb4
      cases res with
      | error ke =>
        obtain ⟨k, e0⟩ := ke
        have he : e = .returned (.tuple #[.slice none 0 0, .int .i64 (k : Int), .int .i64 (e0 : Int)]) := hpost
        subst he
        clear hpost
        go_wp2_with (fail)
        go_ret3
        exact ⟨rfl, HB4.out⟩
      | ok l =>
        obtain ⟨v, he, hl⟩ := hpost
        subst he
        have HL := Lib.hid hl
        clear hl
        go_wp2_with (fail)
        go_ret3
        exact ⟨⟨v, rfl, HL.out.less HB3.out.size⟩, HB4.out⟩
    · rw [if_pos hf] at hres
      have FL := Lib.hid (fun q k W hW hk hh => fault_any q t k W hW (by have := HS.out; omega) hk hh)
      generalize faultF t = ft at *
      obtain ⟨fk, fe⟩ := ft
      simp only at hf hres FL
      have hnb : ((fe : Int) == 0) = false := by rw [beq_eq_false_iff_ne]; omega
      have hnz : ¬ (fe : Int) = 0 := by omega
      have HRES := Lib.hid hres
      clear hf hres hbig
      go_enter Tryz.func5, Tryz.ntmps5
      go_wp2_with (fail)
      refine PL.out.mono ?_
      rintro e w2 ⟨g, cap, rfl, ho, hb⟩
      have HO := Lib.hid (And.intro ho hb)
      clear ho hb
      go_wp2_with (fail)
      refine (FL.out _ _ w2 (HW.out.1.below HO.out.2) HO.out.1.2.2.2 HO.out.1.holds).mono ?_
      rintro e w3 ⟨rfl, hb3⟩
      have HB3 := Lib.hid (below_cat HO.out.2 hb3)
      clear hb3
      go_wp2_with (fail)
      go_ret3
      rw [← HRES.out]
      exact ⟨rfl, HB3.out⟩
end Go.Proofs.YteipiaefamfleaaGreatDoor
namespace Go.Proofs.YteipiaefamfleaaGreatDoor
open Go.RowKit

theorem flat_at {α : Type} (m : Nat) (f : α → List Value) (hf : ∀ z, (f z).length = m) : ∀ (l : List α) (i k : Nat), k < m → (l.flatMap f)[m * i + k]? = (l[i]?).bind fun z => (f z)[k]?
  | [], i, k, _ => by simp
  | z :: l, 0, k, h => by
    rw [List.flatMap_cons, Nat.mul_zero, Nat.zero_add, List.getElem?_append_left (by rw [hf]; exact h)]
    rfl
  | z :: l, i + 1, k, h => by
    rw [List.flatMap_cons, Nat.mul_add, Nat.mul_one, List.getElem?_append_right (by rw [hf]; omega), hf, show m * i + m + k - m = m * i + k by omega, flat_at m f hf l i k h]
    rfl
/-- Where the cells of tokens lie. -/
theorem TokL.cell {w : World} {B : Nat} {v : Value} {l : List (Nat × Tok)} (h : TokL w B v l) (hl : 0 < l.length) : ∃ g c, v = .slice (some ⟨g, 0, none⟩) l.length c ∧ l.length ≤ c ∧ c ≤ maxLen ∧ g < w.heap.size ∧ B ≤ g ∧ ∃ pv : Nat → Value, ∀ i x, l[i]? = some x →
    PairsAt w B (pv i) x.2.pairs ∧ (w.cell? ⟨g, 6 * i, none⟩ = some (.int .i64 (x.2.kind : Int)) ∧ w.cell? ⟨g, 6 * i + 1, none⟩ = some (.int .i64 (x.1 : Int)) ∧ w.cell? ⟨g, 6 * i + 2, none⟩ = some (.string x.2.name) ∧ w.cell? ⟨g, 6 * i + 3, none⟩ = some (pv i) ∧ w.cell? ⟨g, 6 * i + 4, none⟩ = some (.string x.2.text) ∧ w.cell? ⟨g, 6 * i + 5, none⟩ = some (.int .i64 (x.2.refs : Int))) := by
  obtain ⟨pvs, h1, h2, h3⟩ := h
  have hcells := fun g (hv : v.ownBlock = some g) => World.ownsRow.cells h2 hv
  rcases h2.2 with ⟨_, h0⟩ | ⟨g, c, cur, rfl, hb, hg, hlc, hcm, _, _⟩
  · omega
  refine ⟨g, c, rfl, hlc, hcm, (Array.getElem?_eq_some_iff.1 hg).1, hb, fun i => pvs.getD i (.bool false), fun i x hx => ?_⟩
  have hil : i < l.length := (List.getElem?_eq_some_iff.1 hx).1
  have hpi : pvs[i]? = some (pvs.getD i (.bool false)) := by
    rw [List.getElem?_eq_getElem (by omega)]
    simp [List.getD, List.getElem?_eq_getElem (show i < pvs.length by omega)]
  have hz : (l.zip pvs)[i]? = some (x, pvs.getD i (.bool false)) := by
    rw [List.getElem?_zip_eq_some]
    exact ⟨hx, hpi⟩
  refine ⟨h3 _ (List.mem_of_getElem? hz), ?_⟩
  have go : ∀ k u, k < 6 → (tokC x (pvs.getD i (.bool false)))[k]? = some u → w.cell? ⟨g, 6 * i + k, none⟩ = some u := by
    intro k u hk hu
    have hc := hcells g rfl (6 * i + k) u (by
      unfold tokCs
      rw [flat_at 6 (fun z : (Nat × Tok) × Value => tokC z.1 z.2) (fun _ => rfl) _ i k hk, hz]
      exact hu)
    have ha : (⟨g, 0, none⟩ : Addr).add (6 * i + k) = ⟨g, 6 * i + k, none⟩ := by unfold Addr.add; split <;> simp_all
    rw [ha] at hc
    exact hc
  exact ⟨go 0 _ (by omega) rfl, go 1 _ (by omega) rfl, go 2 _ (by omega) rfl, go 3 _ (by omega) rfl, go 4 _ (by omega) rfl, go 5 _ (by omega) rfl⟩
theorem PairsAt.cell {w : World} {B : Nat} {v : Value} {l : List (ByteArray × ByteArray)} (h : PairsAt w B v l) (hl : 0 < l.length) : ∃ g c, v = .slice (some ⟨g, 0, none⟩) l.length c ∧ l.length ≤ c ∧ c ≤ maxLen ∧ g < w.heap.size ∧ B ≤ g ∧ ∀ i x, l[i]? = some x → w.cell? ⟨g, 2 * i, none⟩ = some (.string x.1) ∧ w.cell? ⟨g, 2 * i + 1, none⟩ = some (.string x.2) := by
  have hcells := fun g (hv : v.ownBlock = some g) => World.ownsRow.cells h hv
  rcases h.2 with ⟨_, h0⟩ | ⟨g, c, cur, rfl, hb, hg, hlc, hcm, _, _⟩
  · omega
  refine ⟨g, c, rfl, hlc, hcm, (Array.getElem?_eq_some_iff.1 hg).1, hb, fun i x hx => ?_⟩
  have go : ∀ k u, k < 2 → ([.string x.1, .string x.2] : List Value)[k]? = some u → w.cell? ⟨g, 2 * i + k, none⟩ = some u := by
    intro k u hk hu
    have hc := hcells g rfl (2 * i + k) u (by
      unfold pairsV
      rw [flat_at 2 (fun p : ByteArray × ByteArray => [.string p.1, .string p.2]) (fun _ => rfl) _ i k hk, hx]
      exact hu)
    have ha : (⟨g, 0, none⟩ : Addr).add (2 * i + k) = ⟨g, 2 * i + k, none⟩ := by unfold Addr.add; split <;> simp_all
    rw [ha] at hc
    exact hc
  exact ⟨go 0 _ (by omega) rfl, go 1 _ (by omega) rfl⟩
end Go.Proofs.YteipiaefamfleaaGreatDoor
namespace Go.Proofs.YteipiaefamfleaaGreatDoor
open Go.RowKit

def scanL1 : ByteArray := ⟨#[60, 97, 62, 120, 38, 97, 109, 112, 59, 121, 60, 47, 97, 62]⟩
def scanL2 : ByteArray := ⟨#[60, 97, 32, 98, 61, 39, 49, 39, 32, 98, 61, 39, 50, 39, 62]⟩
theorem scanL1_cell (j : Nat) (h : j < 14) : ((#[.int .u8 60, .int .u8 97, .int .u8 62, .int .u8 120, .int .u8 38, .int .u8 97, .int .u8 109, .int .u8 112, .int .u8 59, .int .u8 121, .int .u8 60, .int .u8 47, .int .u8 97, .int .u8 62] : Array Value))[j]? = some (.int .u8 ((scanL1.get! j).toNat : Int)) := by
  match j, h with
  | 0, _ => rfl
  | 1, _ => rfl
  | 2, _ => rfl
  | 3, _ => rfl
  | 4, _ => rfl
  | 5, _ => rfl
  | 6, _ => rfl
  | 7, _ => rfl
  | 8, _ => rfl
  | 9, _ => rfl
  | 10, _ => rfl
  | 11, _ => rfl
  | 12, _ => rfl
  | 13, _ => rfl
theorem scanL2_cell (j : Nat) (h : j < 15) : ((#[.int .u8 60, .int .u8 97, .int .u8 32, .int .u8 98, .int .u8 61, .int .u8 39, .int .u8 49, .int .u8 39, .int .u8 32, .int .u8 98, .int .u8 61, .int .u8 39, .int .u8 50, .int .u8 39, .int .u8 62] : Array Value))[j]? = some (.int .u8 ((scanL2.get! j).toNat : Int)) := by
  match j, h with
  | 0, _ => rfl
  | 1, _ => rfl
  | 2, _ => rfl
  | 3, _ => rfl
  | 4, _ => rfl
  | 5, _ => rfl
  | 6, _ => rfl
  | 7, _ => rfl
  | 8, _ => rfl
  | 9, _ => rfl
  | 10, _ => rfl
  | 11, _ => rfl
  | 12, _ => rfl
  | 13, _ => rfl
  | 14, _ => rfl

def tokA : Nat × Tok := (0, ⟨2, ⟨#[97]⟩, [], ⟨#[]⟩, 0⟩)
def tokB : Nat × Tok := (3, ⟨5, ⟨#[]⟩, [], ⟨#[120, 38, 121]⟩, 1⟩)
def tokE : Nat × Tok := (10, ⟨3, ⟨#[97]⟩, [], ⟨#[]⟩, 0⟩)
theorem all1 : allF scanL1 = .ok [tokA, tokB, tokE] := by kernel_rfl
theorem all2 : allF scanL2 = .error (0, 27) := by kernel_rfl
/-- All that the scanner leans on, in one. -/
structure Leans (w : World) : Prop where
  tabs : Tabs w
  named : NamedAt w
  max : MaxAt w
  fold : FoldAt w
theorem Leans.below {w W : World} (h : Leans w) (hb : Below w.heap.size w W) : Leans W :=
  ⟨h.tabs.below hb, h.named.below hb, by
    obtain ⟨m, hm⟩ := h.max
    exact ⟨m, hb_cell hb hm⟩, h.fold.below hb⟩
set_option maxHeartbeats 4000000 in
set_option maxRecDepth 100000 in
theorem awake3_any (w : World) (hL : Leans w) : Calls Tryz.prog 4 #[] w fun e w' => e = .returned (.bool true) ∧ Below w.heap.size w w' := by
  have k1 : (convert 22 22 (.slice (some ⟨w.heap.size, 0, none⟩) 14 14)).run Tryz.prog (w.alloc (.cells #[.int .u8 60, .int .u8 97, .int .u8 62, .int .u8 120, .int .u8 38, .int .u8 97, .int .u8 109, .int .u8 112, .int .u8 59, .int .u8 121, .int .u8 60, .int .u8 47, .int .u8 97, .int .u8 62] 5)) = .ok (.slice (some ⟨w.heap.size, 0, none⟩) 14 14) (w.alloc (.cells #[.int .u8 60, .int .u8 97, .int .u8 62, .int .u8 120, .int .u8 38, .int .u8 97, .int .u8 109, .int .u8 112, .int .u8 59, .int .u8 121, .int .u8 60, .int .u8 47, .int .u8 97, .int .u8 62] 5 (14, 15))) := Lib.run_convert_bytes_const w 22 5 #[.int .u8 60, .int .u8 97, .int .u8 62, .int .u8 120, .int .u8 38, .int .u8 97, .int .u8 109, .int .u8 112, .int .u8 59, .int .u8 121, .int .u8 60, .int .u8 47, .int .u8 97, .int .u8 62] 14 14 Tryz.underlying22 Tryz.underlying5
  have hb1 : Below w.heap.size w (w.alloc (.cells #[.int .u8 60, .int .u8 97, .int .u8 62, .int .u8 120, .int .u8 38, .int .u8 97, .int .u8 109, .int .u8 112, .int .u8 59, .int .u8 121, .int .u8 60, .int .u8 47, .int .u8 97, .int .u8 62] 5 (14, 15))) := (Below.refl _ _).alloc (Nat.le_refl _) _
  have A1 := all_any (some ⟨w.heap.size, 0, none⟩) scanL1 14 _ (by decide) (by decide) (fun _ => ⟨w.heap.size, 0, rfl, fun j hj => by
    rw [Nat.zero_add, cell_of_row _ _ _ #[.int .u8 60, .int .u8 97, .int .u8 62, .int .u8 120, .int .u8 38, .int .u8 97, .int .u8 109, .int .u8 112, .int .u8 59, .int .u8 121, .int .u8 60, .int .u8 47, .int .u8 97, .int .u8 62] 5 (14, 15) (heap_alloc_new w _)]
    exact scanL1_cell j hj⟩) (hL.below hb1).tabs (hL.below hb1).named (hL.below hb1).max (hL.below hb1).fold
  rw [all1] at A1
  have AH := Lib.hid A1
  have HB := Lib.hid hb1
  have HL := Lib.hid hL
  clear A1 hb1 hL
  go_enter Tryz.func4, Tryz.ntmps4
  go_wp2_with (fail)
  refine AH.out.mono ?_
  rintro e w1 ⟨hpost, hb⟩
  obtain ⟨v, he, hl⟩ := hpost
  subst he
  have hB1 := below_cat HB.out hb
  obtain ⟨g, c, hv, hlc, hcm, hgl, _, pv, hcell⟩ := hl.cell (by decide)
  rw [show [tokA, tokB, tokE].length = 3 from rfl] at hv hlc
  have x10 : w1.cell? ⟨g, 10, none⟩ = some (.string ⟨#[120, 38, 121]⟩) := (hcell 1 tokB rfl).2.2.2.2.2.1
  have x11 : w1.cell? ⟨g, 11, none⟩ = some (.int .i64 1) := (hcell 1 tokB rfl).2.2.2.2.2.2
  have x12 : w1.cell? ⟨g, 12, none⟩ = some (.int .i64 3) := (hcell 2 tokE rfl).2.1
  have x13 : w1.cell? ⟨g, 13, none⟩ = some (.int .i64 10) := (hcell 2 tokE rfl).2.2.1
  subst hv
  have HX := Lib.hid (And.intro hB1 (And.intro x10 (And.intro x11 (And.intro x12 x13))))
  have HC := Lib.hid (And.intro hlc hcm)
  clear hb hl hB1 hcell x10 x11 x12 x13 hgl k1 AH hlc hcm
  have k2 : (convert 22 22 (.slice (some ⟨w1.heap.size, 0, none⟩) 15 15)).run Tryz.prog (w1.alloc (.cells #[.int .u8 60, .int .u8 97, .int .u8 32, .int .u8 98, .int .u8 61, .int .u8 39, .int .u8 49, .int .u8 39, .int .u8 32, .int .u8 98, .int .u8 61, .int .u8 39, .int .u8 50, .int .u8 39, .int .u8 62] 5)) = .ok (.slice (some ⟨w1.heap.size, 0, none⟩) 15 15) (w1.alloc (.cells #[.int .u8 60, .int .u8 97, .int .u8 32, .int .u8 98, .int .u8 61, .int .u8 39, .int .u8 49, .int .u8 39, .int .u8 32, .int .u8 98, .int .u8 61, .int .u8 39, .int .u8 50, .int .u8 39, .int .u8 62] 5 (15, 16))) := Lib.run_convert_bytes_const w1 22 5 #[.int .u8 60, .int .u8 97, .int .u8 32, .int .u8 98, .int .u8 61, .int .u8 39, .int .u8 49, .int .u8 39, .int .u8 32, .int .u8 98, .int .u8 61, .int .u8 39, .int .u8 50, .int .u8 39, .int .u8 62] 15 15 Tryz.underlying22 Tryz.underlying5
  have hb2 : Below w1.heap.size w1 (w1.alloc (.cells #[.int .u8 60, .int .u8 97, .int .u8 32, .int .u8 98, .int .u8 61, .int .u8 39, .int .u8 49, .int .u8 39, .int .u8 32, .int .u8 98, .int .u8 61, .int .u8 39, .int .u8 50, .int .u8 39, .int .u8 62] 5 (15, 16))) := (Below.refl _ _).alloc (Nat.le_refl _) _
  have hB2 := below_cat HX.out.1 hb2
  have A2 := all_any (some ⟨w1.heap.size, 0, none⟩) scanL2 15 _ (by decide) (by decide) (fun _ => ⟨w1.heap.size, 0, rfl, fun j hj => by
    rw [Nat.zero_add, cell_of_row _ _ _ #[.int .u8 60, .int .u8 97, .int .u8 32, .int .u8 98, .int .u8 61, .int .u8 39, .int .u8 49, .int .u8 39, .int .u8 32, .int .u8 98, .int .u8 61, .int .u8 39, .int .u8 50, .int .u8 39, .int .u8 62] 5 (15, 16) (heap_alloc_new w1 _)]
    exact scanL2_cell j hj⟩) (HL.out.below hB2).tabs (HL.out.below hB2).named (HL.out.below hB2).max (HL.out.below hB2).fold
  rw [all2] at A2
  have AH := Lib.hid A2
  have HB2 := Lib.hid hb2
  clear A2 hb2 hB2
  go_wp2_with (fail)
  refine AH.out.mono ?_
  rintro e w2 ⟨hpost, hb⟩
  have he : e = .returned (.tuple #[.slice none 0 0, .int .i64 ((0 : Nat) : Int), .int .i64 ((27 : Nat) : Int)]) := hpost
  subst he
  have hB3 := below_cat HB2.out hb
  have y10 := hb_cell hB3 HX.out.2.1
  have y11 := hb_cell hB3 HX.out.2.2.1
  have y12 := hb_cell hB3 HX.out.2.2.2.1
  have y13 := hb_cell hB3 HX.out.2.2.2.2
  have hz0 : ((0 : Nat) : Int) = 0 := rfl
  have hz27 : ((27 : Nat) : Int) = 27 := rfl
  rw [hz0, hz27]
  have HB4 := Lib.hid (below_cat HX.out.1 hB3)
  clear hb hpost hB3 k2 AH hz0 hz27
  go_wp2_with (fail)
  go_ret
  exact ⟨rfl, HB4.out⟩
end Go.Proofs.YteipiaefamfleaaGreatDoor
namespace Go.Proofs.YteipiaefamfleaaGreatDoor
open Go.RowKit

theorem toksGo_err_ne (t : ByteArray) : ∀ f k l p e, toksGo t f k l = .error (p, e) → e ≠ 0
  | 0, k, l, p, e, h => by cases h
  | f + 1, k, l, p, e, h => by
    unfold toksGo at h
    split at h
    · rename_i hlt
      split at h
      · rename_i hx
        injection h with h
        injection h with h1 h2
        have := tok_err_ne hlt hx
        omega
      · exact toksGo_err_ne t f _ _ p e h
    · cases h
theorem all_err {s : ByteArray} {k e : Nat} (h : allF s = .error (k, e)) : e ≠ 0 ∧ k ≤ s.size := by
  have hts := text_size s
  unfold allF at h
  split at h
  · injection h with h
    injection h with h1 h2
    omega
  · split at h
    · rename_i hf
      injection h with h
      have hk := fault_le (textF s) (textF s).size 0 (Nat.zero_le _)
      have e1 : (faultF (textF s)).1 = k := by rw [h]
      have e2 : (faultF (textF s)).2 = e := by rw [h]
      rw [e2] at hf
      unfold faultF at e1
      exact ⟨hf, by omega⟩
    · exact ⟨toksGo_err_ne _ _ _ _ _ _ h, Nat.le_trans (toksGo_err _ _ _ _ _ _ (Nat.zero_le _) h) hts⟩
theorem all_ok {s : ByteArray} {l : List (Nat × Tok)} (h : allF s = .ok l) : AccT (textF s) (textF s).size l ∧ s.size ≤ 65536 := by
  unfold allF at h
  split at h
  · cases h
  · rename_i hb
    split at h
    · cases h
    · exact ⟨toks_acc h, by omega⟩
theorem TokL.form2 {w : World} {B : Nat} {v : Value} {l : List (Nat × Tok)} (h : TokL w B v l) : ∃ q c, v = .slice q l.length c := by
  obtain ⟨pvs, _, h2, _⟩ := h
  rcases h2.2 with ⟨rfl, h0⟩ | ⟨g, c, cur, rfl, _⟩
  · exact ⟨none, 0, by rw [h0]⟩
  · exact ⟨_, _, rfl⟩
theorem PairsAt.form2 {w : World} {B : Nat} {v : Value} {l : List (ByteArray × ByteArray)} (h : PairsAt w B v l) : ∃ q c, v = .slice q l.length c ∧ l.length ≤ c ∧ c ≤ maxLen := by
  rcases h.2 with ⟨rfl, h0⟩ | ⟨g, c, cur, rfl, _, _, h3, h4, _⟩
  · exact ⟨none, 0, by rw [h0], by omega, by unfold maxLen; omega⟩
  · exact ⟨_, _, rfl, h3, h4⟩
theorem str_dec2 (a b : ByteArray) : decide (a = b) = (a.toList == b.toList) := by
  rw [Bool.eq_iff_iff, decide_eq_true_eq, beq_iff_eq, Lib.toList_data, Lib.toList_data]
  constructor
  · rintro rfl
    rfl
  · intro e
    exact eq_of_list e
end Go.Proofs.YteipiaefamfleaaGreatDoor
namespace Go.Proofs.YteipiaefamfleaaGreatDoor
open Go.RowKit

theorem bcell {W w1 : World} (hb : Below W.heap.size W w1) : (∀ b o, b < W.heap.size → w1.cell? ⟨b, o, none⟩ = W.cell? ⟨b, o, none⟩) ∧ (∀ b o, b < W.heap.size → w1.frozen? ⟨b, o, none⟩ = W.frozen? ⟨b, o, none⟩) :=
  ⟨fun b o h => hb.cell (p := ⟨b, o, none⟩) h, fun b o h => hb.frozen (p := ⟨b, o, none⟩) h⟩
set_option maxHeartbeats 1000000 in
/-- Of more bytes than may be the scanner tells that. -/
theorem all_long (p : Option Addr) (s : ByteArray) (c : Nat) (w : World) (hs : 65536 < s.size) (hz : s.size ≤ 1000000000000000) :
    Calls Tryz.prog 5 #[.slice p s.size c] w fun e w' => e = .returned (.tuple #[.slice none 0 0, .int .i64 0, .int .i64 6]) ∧ w = w' := by
  have g : (65536 : Int) < (s.size : Int) := by omega
  go_enter Tryz.func5, Tryz.ntmps5
  go_wp2_with (fail)
  go_ret3
  exact ⟨rfl, rfl⟩
/-- What All answers of any bytes, in one form: what stands in the slice, and how it ends. -/
def AllIs (w : World) (s : ByteArray) (q : Option Addr) (n c : Nat) (_k e0 : Int) (w' : World) : Prop := (∃ l, allF s = .ok l ∧ e0 = 0 ∧ n = l.length ∧ TokL w' w.heap.size (.slice q n c) l) ∨ (e0 ≠ 0 ∧ ∃ k' e', allF s = .error (k', e'))
theorem all_is (p : Option Addr) (s : ByteArray) (c : Nat) (w : World) (hs : s.size ≤ 1000000000000000) (hc : s.size ≤ c) (hp : HoldsB w p s) (hL : Leans w) :
    Calls Tryz.prog 5 #[.slice p s.size c] w fun e w' => ∃ q n c k e0, e = .returned (.tuple #[.slice q n c, .int .i64 k, .int .i64 e0]) ∧ AllIs w s q n c k e0 w' ∧ Below w.heap.size w w' := by
  by_cases hb : s.size ≤ 140737488355328
  · refine (all_any p s c w hb hc hp hL.tabs hL.named hL.max hL.fold).mono ?_
    rintro e w' ⟨h, hbe⟩
    cases hr : allF s with
    | error ke =>
      obtain ⟨k, e0⟩ := ke
      rw [hr] at h
      have := (all_err hr).1
      exact ⟨none, 0, 0, k, e0, h, .inr ⟨by omega, k, e0, hr⟩, hbe⟩
    | ok l =>
      rw [hr] at h
      obtain ⟨v, h1, h2⟩ := h
      obtain ⟨q, c2, hv⟩ := h2.form2
      subst hv
      exact ⟨q, _, c2, 0, 0, h1, .inl ⟨l, hr, rfl, rfl, h2⟩, hbe⟩
  · refine (all_long p s c w (by omega) hs).mono ?_
    rintro e w' ⟨h, hw⟩
    subst hw
    exact ⟨none, 0, 0, 0, 6, h, .inr ⟨by omega, 0, 6, by unfold allF; rw [if_pos (by omega)]⟩, Below.refl _ _⟩
end Go.Proofs.YteipiaefamfleaaGreatDoor
namespace Go.Proofs.YteipiaefamfleaaGreatDoor
open Go.RowKit

theorem tag_len (t n : ByteArray) : ∀ f k ps x i, ps.length ≤ k → tagGo t n f k ps = .ok (x, i) → x.pairs.length ≤ i
  | 0, k, ps, x, i, _, h => by cases h
  | f + 1, k, ps, x, i, hp, h => by
    have hw := white_ge t k
    unfold tagGo at h
    split at h
    · injection h with h
      injection h with h1 h2
      subst h1 h2
      show ps.length ≤ _
      omega
    split at h
    · injection h with h
      injection h with h1 h2
      subst h1 h2
      show ps.length ≤ _
      omega
    split at h
    · cases h
    split at h
    · cases h
    · rename_i p m hpair
      have hb := pair_bd hpair
      split at h
      · cases h
      · exact tag_len t n f m (ps ++ [p]) x i (by rw [List.length_append]; simp only [List.length_cons, List.length_nil]; omega) h
theorem end_len {t : ByteArray} {k i : Nat} {ps : List (ByteArray × ByteArray)} {q : Bool} {x : Tok} (h : declEnd t k ps q = .ok (x, i)) : x.pairs.length = ps.length := by
  unfold declEnd at h
  split at h
  · split at h
    · injection h with h
      injection h with h1 h2
      subst h1
      rfl
    · cases h
  · cases h
theorem alone_len {t : ByteArray} {k i : Nat} {ps : List (ByteArray × ByteArray)} {q : Bool} {x : Tok} (h : declAlone t k ps q = .ok (x, i)) : x.pairs.length ≤ ps.length + 1 := by
  unfold declAlone at h
  split at h
  · rw [end_len h]
    omega
  · rw [end_len h, List.length_append]
    simp
theorem decl_len {t : ByteArray} {k i : Nat} {x : Tok} (h : declF t k = .ok (x, i)) : x.pairs.length ≤ 3 := by
  unfold declF at h
  split at h
  · cases h
  · split at h
    · have := alone_len h
      simp only [List.length_cons, List.length_nil] at this
      omega
    · have := alone_len h
      simp only [List.length_cons, List.length_nil] at this
      omega
theorem tok_len {t : ByteArray} {k i : Nat} {x : Tok} (hk : k < t.size) (h : tokF t k = .ok (x, i)) : x.pairs.length ≤ t.size + 3 := by
  have hi := (tok_ok hk h).2.1
  unfold tokF at h
  split at h
  · have := decl_len h
    omega
  split at h
  · unfold commentF at h
    repeat' split at h
    all_goals first
      | (cases h; done)
      | (injection h with h; injection h with h1 h2; subst h1; exact Nat.zero_le _)
  split at h
  · unfold dataF at h
    repeat' split at h
    all_goals first
      | (cases h; done)
      | (injection h with h; injection h with h1 h2; subst h1; exact Nat.zero_le _)
  split at h
  · cases h
  split at h
  · cases h
  split at h
  · unfold instrF at h
    split at h
    · cases h
    · repeat' split at h
      all_goals first
        | (cases h; done)
        | (injection h with h; injection h with h1 h2; subst h1; exact Nat.zero_le _)
  split at h
  · unfold closingF at h
    split at h
    · cases h
    · split at h
      · injection h with h
        injection h with h1 h2
        subst h1
        exact Nat.zero_le _
      · cases h
  split at h
  · unfold tagF at h
    split at h
    · cases h
    · have := tag_len _ _ _ _ _ _ _ (Nat.zero_le _) h
      omega
  · unfold charsF at h
    simp only at h
    split at h
    · injection h with h
      injection h with h1 h2
      subst h1
      exact Nat.zero_le _
    · cases h
theorem toks_len (t : ByteArray) : ∀ f k l l', (∀ x ∈ l, x.2.pairs.length ≤ t.size + 3) → toksGo t f k l = .ok l' → ∀ x ∈ l', x.2.pairs.length ≤ t.size + 3
  | 0, k, l, l', hl, h => by
    injection h with h
    subst h
    exact hl
  | f + 1, k, l, l', hl, h => by
    unfold toksGo at h
    split at h
    · rename_i hk
      split at h
      · cases h
      · rename_i x i hx
        refine toks_len t f i _ l' (fun y hy => ?_) h
        rcases List.mem_append.1 hy with hy | hy
        · exact hl y hy
        · obtain rfl := List.mem_singleton.1 hy
          exact tok_len hk hx
    · injection h with h
      subst h
      exact hl
theorem all_len {s : ByteArray} {l : List (Nat × Tok)} (h : allF s = .ok l) : l.length ≤ 65536 ∧ ∀ x ∈ l, x.2.pairs.length ≤ 65539 := by
  obtain ⟨hacc, hs⟩ := all_ok h
  have hts := text_size s
  constructor
  · apply Decidable.byContradiction
    intro hn
    have hlt : 65536 < l.length := by omega
    have hx : l[65536]? = some l[65536] := List.getElem?_eq_getElem hlt
    have h1 := hacc.rises 65536 _ hx
    have h2 := (hacc.here 65536 _ hx).2.1
    omega
  · unfold allF at h
    split at h
    · cases h
    split at h
    · cases h
    intro x hx
    have := toks_len (textF s) _ _ _ _ (fun y hy => by cases hy) h x hx
    omega
end Go.Proofs.YteipiaefamfleaaGreatDoor
