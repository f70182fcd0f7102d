/- Proved here: the variables that a trail row lists, and the world's shape, give all that trail leans on; a world for the witness; how an argument that is a trail is opened. -/
import Derived.Test.YtpcdcndniibalaaDoorTrailAwake
import Derived.Test.YtpcdcndniibalaaDoorKit
import Derived.Lib.LaidTab
import Derived.Lay
import Derived.Shelf.Vars
import Derived.Deep.Strs
namespace Go.Proofs.YtpcdcndniibalaaDoor
open Go.ChangeShapes Go.WideShapes Go.ChangeAt Go.RowKit
open Go.Lib

def listed : List (String × DataW Unit) := [("math/bits.deBruijn32tab", Rows.laid_math_bits_deBruijn32tab), ("math/bits.deBruijn64tab", Rows.laid_math_bits_deBruijn64tab), ("internal/strconv.uint64pow10", Rows.laid_internal_strconv_uint64pow10), ("unicode/utf8.acceptRanges", Rows.laid_unicode_utf8_acceptRanges), ("strconv.ErrRange", Rows.laid_strconv_ErrRange), ("strconv.ErrSyntax", Rows.laid_strconv_ErrSyntax), ("unicode/utf8.first", Rows.laid_unicode_utf8_first)]
def u8ren : Go.Shelf.Ren := ⟨fun n => n, fun | 5 => 5 | 119 => 92 | 138 => 94 | 139 => 95 | n => n, fun | 3 => 0 | 4 => 1 | n => n⟩
theorem u8types : U8Types Tryd.prog u8ren := { t5 := by kernel_rfl, t119 := by kernel_rfl, t138 := by kernel_rfl, t139 := by kernel_rfl }
theorem u8extra : U8Extra Tryd.prog u8ren := { n3 := by kernel_rfl, n4 := by kernel_rfl, y3 := by kernel_rfl, y4 := by kernel_rfl, c5 := by kernel_rfl, c119 := by kernel_rfl, c138 := by kernel_rfl }
theorem accept_eq : (Rows.laid_unicode_utf8_acceptRanges : DataW Unit) = acceptData := by kernel_rfl
theorem pow_eq : (Rows.laid_internal_strconv_uint64pow10 : DataW Unit) = tabData .u64 Lib.pow10Tab := by kernel_rfl

/-- SOME INT STANDS IN MaxLen: out of the world's shape. -/
theorem max_of {W : World} (h : W.ShapedOpen Tryd.prog) : ∃ m, W.cell? ⟨2, 0, none⟩ = some (.int .i64 m) :=
  cell_of_shapedOpen_int (t := 3) (zero := #[.int .i64 0]) (k := .i64) h (of_decide_eq_true (by kernel_rfl)) (by kernel_rfl) rfl (by kernel_rfl) (by kernel_rfl) (by kernel_rfl)
theorem tabIs_of_reads {P : Program} {W : World} {name : String} {k : IntKind} {zs : List Int} {g : Nat} {t e : TypeId} {n : Nat}
    (hg : P.globalNamed name = some g) (hty : (P.globals[g]?).map (·.type) = some t) (ht : P.underlying t = some (.array n e)) (he : P.underlying e = some (.int k)) (hce : P.cellsOf e = 1) (hct : P.cellsOf t = n)
    (h : VarReads P W name (tabData k zs)) : TabIs P W name k zs := by
  obtain ⟨g', t', cs, fuel, p, hg', ht', hvar, hd⟩ := h
  obtain rfl := Option.some.inj (hg.symm.trans hg')
  obtain rfl := Option.some.inj (hty.symm.trans ht')
  unfold TabIs
  rw [hvar, ← cells_of_tab ht he hce hct hd]
theorem iface_of_reads {P : Program} {W : World} {name : String} {d : DataW Unit} {g : Nat} {t : TypeId} {ms : Array (String × TypeId)}
    (hg : P.globalNamed name = some g) (hty : (P.globals[g]?).map (·.type) = some t) (ht : P.underlying t = some (.interface ms))
    (h : VarReads P W name d) : ∃ ev, W.cell? ⟨g, 0, none⟩ = some ev ∧ (ev = .nilIface ∨ ∃ te pe, ev = .iface te pe) := by
  obtain ⟨g', t', cs, fuel, p, hg', ht', hvar, hd⟩ := h
  obtain rfl := Option.some.inj (hg.symm.trans hg')
  obtain rfl := Option.some.inj (hty.symm.trans ht')
  have hcell := World.var?_cell hg hvar 0
  cases fuel with
  | zero => simp [DataW.trod] at hd
  | succ fuel =>
    obtain ⟨cl⟩ := cs
    match cl, hd, hcell with
    | [], hd, _ => simp [DataW.trod, ht] at hd
    | [v], hd, hcell =>
      refine ⟨v, by simpa using hcell, ?_⟩
      cases v <;> simp [DataW.trod, ht] at hd <;> simp
    | v :: u :: r, hd, _ => cases v <;> simp [DataW.trod, ht] at hd
set_option maxRecDepth 100000 in
/-- ALL THAT trail LEANS ON. -/
theorem leans8_of {W : World} (h : laidMetH Tryd.prog listed W) (hsh : W.ShapedOpen Tryd.prog) : TLeans W := by
  rw [MakeChecks.laidMetH_plain Tryd.prog listed W (by kernel_rfl)] at h
  have h1 := laidMet.reads h (n := "unicode/utf8.first") (d := Rows.laid_unicode_utf8_first) (by simp [listed])
  have h2 := laidMet.reads h (n := "unicode/utf8.acceptRanges") (d := Rows.laid_unicode_utf8_acceptRanges) (by simp [listed])
  have h3 := laidMet.reads h (n := "internal/strconv.uint64pow10") (d := Rows.laid_internal_strconv_uint64pow10) (by simp [listed])
  have h4 := laidMet.reads h (n := "strconv.ErrSyntax") (d := Rows.laid_strconv_ErrSyntax) (by simp [listed])
  have h5 := laidMet.reads h (n := "strconv.ErrRange") (d := Rows.laid_strconv_ErrRange) (by simp [listed])
  rw [accept_eq] at h2
  rw [pow_eq] at h3
  rw [show Rows.laid_unicode_utf8_first = Pinned.utf8First from rfl, Pinned.utf8First_eq] at h1
  exact ⟨utf8Tabs_of_readsT u8types u8extra h1 h2,
    tabIs_of_reads (g := 3) (by kernel_rfl) (by kernel_rfl) Tryd.underlying114 Tryd.underlying99 (by kernel_rfl) (by kernel_rfl) h3,
    max_of hsh,
    iface_of_reads (g := 4) (by kernel_rfl) (by kernel_rfl) Tryd.underlying52 h4,
    iface_of_reads (g := 5) (by kernel_rfl) (by kernel_rfl) Tryd.underlying52 h5⟩

/-- A WORLD FOR THE WITNESS. -/
noncomputable def laidWorld (os : Os) : World := World.laidAll Tryd.prog os listed
theorem laidWorld_os (os : Os) : (laidWorld os).os = os := World.laidAll_os _ _ _
set_option maxRecDepth 100000 in
theorem laidWorld_met (os : Os) (args : Array Value) : laidMet Tryd.prog listed ((laidWorld os).forCall (fun _ _ => 0) ⟨#[], args, []⟩).memory := laidMet_laidAll args (by kernel_rfl) (by kernel_rfl)

/-! ## an argument that is a trail -/
theorem sized_agg {H : Type} {P : Program} {ts : List TypeId} {ds : List (DataW H)} (h : (DataW.weightsEach P ts ds).all (· ≤ reachBytes) = true) {j : Nat} {t : TypeId} {d : DataW H} (ht : ts[j]? = some t) (hd : ds[j]? = some d) : ∀ n ∈ d.weights P t, n ≤ reachBytes := fun n hn => by
  have := List.all_eq_true.1 h _ (DataW.weights_mem_each ht hd n hn)
  simpa using this
set_option maxRecDepth 100000 in
theorem open_trail {H : Type} {enc : TypeId × Value → H} {W : World} {v : Value} {d : DataW H} {p : List MemPlace} {ts : List TypeId} {ds : List (DataW H)} {j : Nat} {base : Nat}
    (hsz : (DataW.weightsEach Tryd.prog ts ds).all (· ≤ reachBytes) = true) (ht : ts[j]? = some 26) (hd : ds[j]? = some d)
    (hval : Value.okWide Tryd.prog W .any base 26 v) (h : DataW.Trod enc Tryd.prog W 0 (fun _ => true) true 26 v d p) :
    ∃ (q : Option Addr) (c : Nat) (t : Tr), v = TrV q c t ∧ TrAt W q c t ∧ (q = none → c = 0) ∧ t.uri.size ≤ 140737488351232 ∧ t.loc.size ≤ 140737488351232 ∧ t.steps.length + t.uri.size + t.loc.size ≤ Rows.uptoBulk d := by
  obtain ⟨arr, rfl, hsize⟩ := okWide_struct Tryd.underlying26 hval
  have hwt := sized_agg hsz ht hd
  obtain ⟨fuel, hf⟩ := h
  obtain ⟨y0, y1, y2, n, hx, hlen, h0, h1, h2⟩ := Deep.trod_struct3 Tryd.underlying26 hf
  have c26 : Tryd.prog.cellsOf 26 = 4 := by kernel_rfl
  have c22 : Tryd.prog.cellsOf 22 = 1 := by kernel_rfl
  have c4 : Tryd.prog.cellsOf 4 = 1 := by kernel_rfl
  have c24 : Tryd.prog.cellsOf 24 = 2 := by kernel_rfl
  have c3 : Tryd.prog.cellsOf 3 = 1 := by kernel_rfl
  have c9 : Tryd.prog.cellsOf 9 = 1 := by kernel_rfl
  have b3 : Tryd.prog.bytesOf 3 = 8 := by kernel_rfl
  rw [c26] at hlen
  obtain ⟨l⟩ := arr
  change l.length = 4 at hlen
  match l, hlen with
  | [x0, x1, x2, x3], _ =>
    change DataW.trod enc Tryd.prog W 0 (fun _ => true) true n 22 (([x0, x1, x2, x3].drop 0).take (Tryd.prog.cellsOf 22)) = some y0 at h0
    change DataW.trod enc Tryd.prog W 0 (fun _ => true) true n 4 (([x0, x1, x2, x3].drop 1).take (Tryd.prog.cellsOf 4)) = some y1 at h1
    change DataW.trod enc Tryd.prog W 0 (fun _ => true) true n 24 (([x0, x1, x2, x3].drop 2).take (Tryd.prog.cellsOf 24)) = some y2 at h2
    rw [c22] at h0
    rw [c4] at h1
    rw [c24] at h2
    change DataW.trod enc Tryd.prog W 0 (fun _ => true) true n 22 [x0] = some y0 at h0
    change DataW.trod enc Tryd.prog W 0 (fun _ => true) true n 4 [x1] = some y1 at h1
    change DataW.trod enc Tryd.prog W 0 (fun _ => true) true n 24 [x2, x3] = some y2 at h2
    obtain ⟨z0, z1, m, rfl, _, k0, k1⟩ := trod_struct2 Tryd.underlying24 h2
    change DataW.trod enc Tryd.prog W 0 (fun _ => true) true m 9 (([x2, x3].drop 0).take (Tryd.prog.cellsOf 9)) = some z0 at k0
    change DataW.trod enc Tryd.prog W 0 (fun _ => true) true m 9 (([x2, x3].drop 1).take (Tryd.prog.cellsOf 9)) = some z1 at k1
    rw [c9] at k0 k1
    change DataW.trod enc Tryd.prog W 0 (fun _ => true) true m 9 [x2] = some z0 at k0
    change DataW.trod enc Tryd.prog W 0 (fun _ => true) true m 9 [x3] = some z1 at k1
    obtain ⟨su, e2, rfl, _⟩ := DataW.trod_string Tryd.underlying9 k0
    obtain ⟨sl, e3, rfl, _⟩ := DataW.trod_string Tryd.underlying9 k1
    obtain ⟨ab, e1, rfl⟩ := DataW.trod_bool Tryd.underlying4 h1
    simp only [List.cons.injEq, and_true] at e1 e2 e3
    subst e1 e2 e3
    simp only [Prod.mk.injEq] at hx
    obtain ⟨rfl, rfl⟩ := hx
    have hr : reachBytes = 140737488351232 := rfl
    have wu : su.size ≤ 140737488351232 := by
      have := hwt su.size (by simp [DataW.weights, DataW.weightsEach, Tryd.underlying26, Tryd.underlying24])
      rw [hr] at this; exact this
    have wl : sl.size ≤ 140737488351232 := by
      have := hwt sl.size (by simp [DataW.weights, DataW.weightsEach, Tryd.underlying26, Tryd.underlying24])
      rw [hr] at this; exact this
    rcases open_ints Tryd.underlying22 Tryd.underlying3 c3 h0 with ⟨hcs, hx0⟩ | ⟨a, len, cap, zs, hcs, _, hl, hm, hz, hx0, hcell, hwz⟩
    · simp only [List.cons.injEq, and_true] at hcs
      subst hcs
      refine ⟨none, 0, ⟨[], ab, su, sl⟩, rfl, ⟨fun h => absurd h (Nat.lt_irrefl 0), Nat.le_refl _, Nat.zero_le _⟩, fun _ => rfl, wu, wl, ?_⟩
      simp [hx0, Rows.uptoBulk, Rows.uptoBulkAll]; omega
    · simp only [List.cons.injEq, and_true] at hcs
      subst hcs
      simp only [if_true] at hz
      have hll : (zs.take len).length = len := by rw [List.length_take]; omega
      have hws := hwt ((len + (cap - len)) * 8) (by
        rw [hx0]
        simp [DataW.weights, DataW.weightsEach, Tryd.underlying26, Tryd.underlying22, b3, lits, List.length_take, List.length_drop, hz, hl, Nat.min_eq_left])
      rw [hr] at hws
      refine ⟨some a, cap, ⟨zs.take len, ab, su, sl⟩, ?_, ⟨fun h => ?_, by rw [hll]; exact hl, by show (zs.take len).length ≤ _; omega⟩, fun e => (by cases e), wu, wl, ?_⟩
      · unfold TrV
        simp only [hll]
      · obtain ⟨b, off, rfl, hc⟩ := ints_at hcell (by simp only [hll] at h; omega)
        refine ⟨b, off, rfl, fun j hj => ?_⟩
        simp only [hll] at hj
        rw [hc j (by omega)]
        simp [List.getD, List.getElem?_take, hj]
      · have hb := bulk_length (lits (H := H) .i64 (zs.take len))
        have hb2 : (lits (H := H) .i64 (zs.take len)).length = len := by simp [lits]; omega
        simp only [hx0, hll, Rows.uptoBulk, Rows.uptoBulkAll]
        simp only [Array.length_toList] at *
        have e1 : su.data.size = su.size := rfl
        have e2 : sl.data.size = sl.size := rfl
        omega
end Go.Proofs.YtpcdcndniibalaaDoor
