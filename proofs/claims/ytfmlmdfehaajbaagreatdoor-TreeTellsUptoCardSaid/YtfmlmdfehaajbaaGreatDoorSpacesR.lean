/- Proved here: Spaces is all spaces of a tree's names, each once, rising, and where they lie. -/
import Derived.Test.YtfmlmdfehaajbaaGreatDoorSpaces
import Derived.Test.YtfmlmdfehaajbaaGreatDoorSortNil
import Derived.Test.YtfmlmdfehaajbaaGreatDoorStrRow
namespace Go.Proofs.YtfmlmdfehaajbaaGreatDoor
open Go.RowKit Go.Shelf
/-- Texts that a slice says. -/
def StrsAt (W : World) (q : Option Addr) (l : List ByteArray) : Prop := 0 < l.length → ∃ b off, q = some ⟨b, off, none⟩ ∧ ∀ j (h : j < l.length), W.cell? ⟨b, off + j, none⟩ = some (.string l[j])
attribute [local go_sem] Oper.semAt_some

set_option maxRecDepth 100000 in
set_option maxHeartbeats 4000000 in
theorem spaces_rise (w : World) (t : AT) (pa : Option Addr) (ca : Nat) (pk : Option Addr) (ck : Nat) (h : PartsAt w t pa ca pk ck) (hk : KidsAt w t) (hc : t.count ≤ 1000000000) (hsum : (t.all.flatMap AT.uris).length ≤ 1000000000) :
    Calls Tryz.prog 12 #[nodeV t pa ca pk ck] w fun e W' => ∃ q cap l, e = .returned (.slice q (List.length l) cap) ∧ l.Nodup ∧ (∀ s, s ∈ l ↔ s ∈ t.all.flatMap AT.uris ∧ s ≠ (⟨#[]⟩ : ByteArray)) ∧ (RiseB l ∧ l.length ≤ cap ∧ StrsAt W' q l) ∧ Below w.heap.size w W' := by
  refine (callsIn_wide (n := 4)).1 ?_
  refine callsIn_of_wp_marks Tryz.func12 rfl trivial ?_ rfl
  simp only [Tryz.ntmps12, List.size_toArray, List.length_cons, List.length_nil, Nat.reduceAdd, Nat.reduceSub, Array.replicate_succ, Array.replicate_zero, List.push_toArray, List.append_toArray, List.nil_append, List.cons_append]
  obtain ⟨w0, hw0⟩ : ∃ w0, w.alloc (.cells (nodeC t pa ca pk ck) 27) = w0 := ⟨_, rfl⟩
  have hT := nodes_at h hk 27
  rw [hw0] at hT
  have hz0 : w0.heap.size = w.heap.size + 1 := by rw [← hw0]; simp
  have hb0 : Below w.heap.size w w0 := by rw [← hw0]; exact (Below.refl _ _).alloc (Nat.le_refl _) _
  have hcnt := put_count t w.heap.size 0
  obtain ⟨root, hroot⟩ : ∃ root, t.put w.heap.size 0 = root := ⟨_, rfl⟩
  have hptr : root.ptr = .pointer (some ⟨w.heap.size, 0, none⟩) := by rw [← hroot]; unfold AT.ptr; rw [put_b, put_o]
  have hsame : (AT.flat [] root).flatMap (fun y => y.2.uris) = t.all.flatMap AT.uris := by
    have e1 : root.all.flatMap AT.uris = t.all.flatMap AT.uris := by
      rw [← hroot, AT.all_eq, AT.all_eq, put_kids]
      cases t
      rfl
    rw [← e1, ← AT.flat_all root [], List.flatMap_map]
  rw [hroot] at hT hcnt
  unfold nodeC at hw0
  unfold nodeV
  have hmm := @run_makeMap Tryz.prog
  obtain ⟨W0, hW0⟩ : ∃ W0, ((w0.alloc (.map #[] 0)).alloc (.cells #[.map (some (w.heap.size + 1))] 64)).alloc (.cells #[.pointer (some ⟨w.heap.size, 0, none⟩)] 58) = W0 := ⟨_, rfl⟩
  have hz : W0.heap.size = w.heap.size + 4 := by rw [← hW0]; simp [hz0]
  have hset : SetL W0 (w.heap.size + 1) 0 [] := by
    have h1 := SetL.made w0
    rw [hz0] at h1
    refine h1.keep ?_
    rw [← hW0, Below.heap_alloc _ _ _ (by simp [hz0]), Below.heap_alloc _ _ _ (by simp [hz0])]
  have hbox : Boxed W0 (w.heap.size + 2) 64 (.map (some (w.heap.size + 1))) := by
    rw [← hW0]
    have := Boxed.new (w0.alloc (.map #[] 0)) 64 (.map (some (w.heap.size + 1)))
    rw [World.size_alloc, hz0] at this
    exact this.alloc _
  have hBn : W0.heap[w.heap.size + 3]? = some (.cells #[root.ptr] 58 (0, 0)) := by
    rw [← hW0, hptr]
    have := heap_alloc_new ((w0.alloc (.map #[] 0)).alloc (.cells #[.map (some (w.heap.size + 1))] 64)) (.cells #[.pointer (some ⟨w.heap.size, 0, none⟩)] 58)
    rwa [World.size_alloc, World.size_alloc, hz0] at this
  have hBW : Below w0.heap.size w0 W0 := by rw [← hW0]; exact (((Below.refl _ _).alloc (Nat.le_refl _) _).alloc (by simp) _).alloc (by simp; omega) _
  have hB : Below w.heap.size w W0 := hb0.trans (hBW.mono (by omega))
  have HH := Lib.hid (And.intro hT (And.intro hBW (And.intro hcnt (And.intro hc (And.intro hsum hsame)))))
  clear h hk hroot hT hBW hcnt hc hb0 hptr hsum hsame
  gi_wp2_with (refine ⟨trivial, ?_⟩; gi_at_call 30; refine (nodes_make Fence.wide _ trivial rfl _ _).mono ?_; rintro e w' ⟨rfl, rfl⟩)
  refine wpIn_rangeFunc_C rfl (by omega) (gf := 57) (lb := #[.pointer (some ⟨w.heap.size + 1 + 1 + 1, 0, none⟩)]) rfl trivial (enters_of Tryz.func57 (by kernel_rfl) rfl)
    (encs := fun x : Shown root => #[.slice x.q x.p.length x.c, x.t.ptr]) (Pre := Shown.pre (W0.heap.size + 2)) (X := fun k => k = w.heap.size + 1) (S := fun xs => xs.map Shown.item = AT.flat [] root) (Sp := fun pre => pre.map Shown.item <+: AT.flat [] root)
    (fun W hsz hb => by
      rw [← hsz]
      have hh := HH.out
      refine nodes_C Fence.wide _ trivial rfl (by omega) root w0 W (w.heap.size + 3) 58 _ hh.1 (Stay.below (hh.2.1.trans (hb.mono (by omega)))) ((hb.block _ (by omega)).trans hBn) (fun e => by have e' : w.heap.size + 3 = w.heap.size + 1 := e; omega) (fun b e => by have e' : b = w.heap.size + 1 := e; omega) (by omega) (fun x hx => ?_)
      have := AT.depth_lt root [] x hx
      rw [hh.2.2.1] at this
      have := hh.2.2.2.1
      simp at *
      omega)
    (fun x W l o o' _ hl ho hp => Shown.pre_put hl ho hp) (fun x => rfl)
    (fun pre W => SetL W (w.heap.size + 1) (urisOf pre).length (urisOf pre) ∧ Boxed W (w.heap.size + 2) 64 (.map (some (w.heap.size + 1))) ∧ Below w.heap.size w W ∧ Below w0.heap.size w0 W ∧ w.heap.size + 4 ≤ W.heap.size) (fun _ _ _ => False)
    (fun s A C hs hb => ⟨hs.1.keep (hb.block _ (by omega)), boxed_low hs.2.1 hb (by omega), hs.2.2.1.trans (hb.mono (by omega)), hs.2.2.2.1.trans (hb.mono (by omega)), Nat.le_trans hs.2.2.2.2 hb.size⟩)
    (fun _ _ _ _ h _ => h)
    ⟨hset, hbox, hB, HH.out.2.1, by omega⟩
    (fun x => { tmps := #[.agg #[.int .i64 t.kind, .string t.uri, .string t.loc, .slice pa t.attrs.length ca, .slice pk t.kids.length ck, .string t.text], .pointer (some ⟨w.heap.size, 0, none⟩), .slice none 0 0, .pointer (some ⟨w.heap.size + 1 + 1, 0, none⟩), undef, x.t.ptr, undef, undef, undef, undef, .map (some (w.heap.size + 1)), .func (.func 57) #[] #[.pointer (some ⟨w.heap.size + 1 + 1 + 1, 0, none⟩)], .slice x.q x.p.length x.c, x.t.ptr, undef, undef, undef, undef, undef, undef, undef, undef, undef, undef, undef, undef, undef, undef, undef, undef, undef, undef, undef, undef, undef, undef, undef, undef, undef, undef, undef, undef, undef, undef, undef, undef, undef, undef, undef, undef, undef], defers := [] }) ?assign ?body ?done ?stop
  case assign =>
    intro l x W K hK
    gi_wp2
    simpa using hK
  case body =>
    rintro l pre x W ⟨hs, hx, hb, hst, hsz⟩ _ hsp hW
    have hlen : (urisOf (pre ++ [x])).length ≤ 1000000000 := by
      have := flatMap_prefix (fun y : List Nat × AT => y.2.uris) hsp
      have hh := HH.out.2.2.2.2.1
      have he := HH.out.2.2.2.2.2
      rw [he] at this
      unfold urisOf
      omega
    have hsn : urisOf (pre ++ [x]) = urisOf pre ++ x.t.uris := urisOf_snoc pre x
    obtain ⟨pa1, ca1, pk1, ck1, hn, n0, n1, n2, n3, n4, n5⟩ := (HH.out.1 _ (AT.flat_mem_all x.mem)).stay (Stay.below hst)
    obtain ⟨o, ho, hoc⟩ := hs.block
    have hul : (urisOf (pre ++ [x])).length = (urisOf pre).length + 1 + x.t.attrs.length := by rw [hsn]; unfold AT.uris; simp; omega
    have hmx : (1000000000 : Nat) < maxLen := by unfold maxLen; omega
    obtain ⟨W1, hrun, hs1, ha1⟩ := (hs.keep (W' := W.drew) rfl).put (by omega) x.t.uri (Nat.le_trans hn.uri (by unfold maxLen; omega))
    have k1 : OutOf (w.heap.size + 1) W W1 := (OutOf.of_at ha1).drew
    have d1 := hx.cell
    have d2 := k1.cell ho hoc d1
    have m3 := k1.cell ho hoc n3
    have hat := hn.attrs
    have hacap := hn.acap
    have hasz := hn.asz
    have heach := hn.each
    have hxu : x.t.uris = x.t.uri :: x.t.attrs.map (·.uri) := rfl
    unfold AT.ptr
    have HB := Lib.hid (And.intro hx (And.intro hb (And.intro hst (And.intro hsz (And.intro hlen (And.intro hsn (And.intro ho (And.intro hoc (And.intro k1 (And.intro hat (And.intro heach (And.intro hs1 (And.intro hul hxu)))))))))))))
    clear hs hx hb hst hsp hlen hsn hn n0 n2 n4 n5 ho hoc k1 hat heach hs1 ha1 hul hxu
    gi_upto_region 4 with (fail)
    try dsimp only
    gi_cut [] from 14 (fun wc => wc = W1)
    case first =>
      gi_region
      all_goals (first | (gi_wp2_with (fail); gi_meet; case rel => rfl) | (refine (by assumption : ∀ a' w', _ → _) _ _ ?_; (repeat apply Exists.intro); exact ⟨rfl, rfl⟩))
    case rest =>
      subst hcut
      obtain ⟨n, hn⟩ : ∃ n, x.t.attrs.length = n := ⟨_, rfl⟩
      rw [hn] at m3 hacap hasz
      have hnn := Lib.hid hn
      have hnm : (urisOf pre).length + 1 + n ≤ 1000000000 := by
        have h1 := HB.out.2.2.2.2.1
        have h2 := HB.out.2.2.2.2.2.2.2.2.2.2.2.2.1
        omega
      clear hrun d1 hn
      gi_wp2_with (fail)
      gi_loopw [26] (fun v wr => ∃ k : Nat, v = .int .i64 (k : Int) ∧ k ≤ n ∧ OutOf (w.heap.size + 1) W wr ∧ Hid (SetL wr (w.heap.size + 1) ((urisOf pre).length + 1 + k) (urisOf pre ++ [x.t.uri] ++ (x.t.attrs.take k).map (·.uri)))) (fun v _ => n - (intOf v).toNat)
      case atStart => exact ⟨0, rfl, Nat.zero_le _, HB.out.2.2.2.2.2.2.2.2.1, Lib.hid (by simpa using HB.out.2.2.2.2.2.2.2.2.2.2.2.1)⟩
      case round =>
        obtain ⟨k, rfl, hkn, hk1, hks⟩ := hrel
        obtain ⟨ho, hoc⟩ := And.intro HB.out.2.2.2.2.2.2.1 HB.out.2.2.2.2.2.2.2.1
        by_cases hlt : k < n
        · have hi : (k : Int) < (n : Int) := by omega
          have hkl : k < x.t.attrs.length := by rw [hnn.out]; exact hlt
          obtain ⟨q, off, rfl, hc⟩ := HB.out.2.2.2.2.2.2.2.2.2.1 (by omega)
          have e0 := hk1.cell ho hoc (hc k hkl).1
          have e1 := hk1.cell ho hoc (hc k hkl).2.1
          have e2 := hk1.cell ho hoc (hc k hkl).2.2
          have e3 := hk1.cell ho hoc HB.out.1.cell
          have hsz1 := (HB.out.2.2.2.2.2.2.2.2.2.2.1 _ (List.getElem_mem hkl)).1
          have htk : (x.t.attrs.take (k + 1)).map (·.uri) = (x.t.attrs.take k).map (·.uri) ++ [x.t.attrs[k].uri] := by
            rw [List.take_add_one, List.getElem?_eq_getElem hkl, List.map_append]
            rfl
          obtain ⟨va, hva⟩ : ∃ va, x.t.attrs[k] = va := ⟨_, rfl⟩
          rw [hva] at e0 e1 e2 hsz1 htk
          have hmb := hks.out.lt
          have halc : SetL (wr.alloc (.cells #[.string va.uri, .string va.loc, .string va.val] 67)) (w.heap.size + 1) ((urisOf pre).length + 1 + k) (urisOf pre ++ [x.t.uri] ++ (x.t.attrs.take k).map (·.uri)) := hks.out.keep (Below.heap_alloc _ _ _ hmb)
          obtain ⟨W2, hrun2, hs2, ha2⟩ := halc.put (by unfold maxLen; omega) va.uri (Nat.le_trans hsz1 (by unfold maxLen; omega))
          have e4 : (wr.alloc (.cells #[.string va.uri, .string va.loc, .string va.val] 67)).cell? ⟨w.heap.size + 1 + 1, 0, none⟩ = some (.map (some (w.heap.size + 1))) := Stay.below ((Below.refl _ wr).alloc (Nat.le_refl _) _) _ _ e3
          have hk2 : OutOf (w.heap.size + 1) W W2 := hk1.trans ((OutOf.below ((Below.refl _ _).alloc (Nat.le_refl _) _)).trans (OutOf.of_at ha2))
          have HR := Lib.hid (And.intro hk2 (And.intro hs2 htk))
          clear hk2 hs2 htk ha2 halc hks hk1 hc hva ho hoc hsz1
          gi_wp2_with (fail)
          go_roundw
          · exact ⟨k + 1, rfl, hlt, HR.out.1, Lib.hid (by rw [HR.out.2.2, ← List.append_assoc]; exact HR.out.2.1)⟩
          · simp only [intOf]
            omega
        · have hi : ¬ (k : Int) < (n : Int) := by omega
          have hkn2 : k = n := by omega
          have hfin : SetL wr (w.heap.size + 1) (urisOf (pre ++ [x])).length (urisOf (pre ++ [x])) := by
            have h1 := hks.out
            rw [hkn2, List.take_of_length_le (Nat.le_of_eq hnn.out), List.append_assoc] at h1
            rw [HB.out.2.2.2.2.2.2.2.2.2.2.2.2.1, HB.out.2.2.2.2.2.1, HB.out.2.2.2.2.2.2.2.2.2.2.2.2.2, hnn.out]
            exact h1
          have HF := Lib.hid hfin
          clear hfin hks
          gi_wp2_with (fail)
          exact ⟨hk1.from (by omega), hk1.ckeep, HF.out, (hk1.other _ (by have := HB.out.2.2.2.1; omega) (by omega)).trans HB.out.1, hk1.low HB.out.2.1 (by omega) (by have := HB.out.2.2.2.1; omega), (by have h9 := hk1.low (n := w0.heap.size) HB.out.2.2.1 (by omega) (by have := HB.out.2.2.2.1; omega); rw [hz0] at h9; exact h9), Nat.le_trans HB.out.2.2.2.1 hk1.size⟩
  case done =>
    rintro D xs W hD hS ⟨hs, hx, hb, hst, hsz⟩ hK
    have hL : urisOf xs = t.all.flatMap AT.uris := by
      unfold urisOf
      rw [hS]
      exact HH.out.2.2.2.2.2
    obtain ⟨L, hLL⟩ : ∃ L, t.all.flatMap AT.uris = L := ⟨_, rfl⟩
    have hN : L.length ≤ 1000000000 := by rw [← hLL]; exact HH.out.2.2.2.2.1
    rw [hL, hLL] at hs
    have HNL := Lib.hid hN
    have hD9 := hD
    have HLL := Lib.hid hLL
    clear hLL
    have HSB : Hid (∀ s ∈ L, s.size ≤ 140737488355328) := Lib.hid (fun s hs => by
      rw [← HLL.out, ← HH.out.2.2.2.2.2] at hs
      obtain ⟨y, hy, hsy⟩ := List.mem_flatMap.1 hs
      obtain ⟨_, _, _, _, hn, _⟩ := HH.out.1 _ (AT.flat_mem_all hy)
      rcases List.mem_cons.1 hsy with rfl | hsy
      · exact Nat.le_trans hn.uri (by decide)
      · obtain ⟨a, ha, rfl⟩ := List.mem_map.1 hsy
        exact Nat.le_trans (hn.each a ha).1 (by decide))
    obtain ⟨o, ho, hoc⟩ := hs.block
    obtain ⟨W1, hdel, hs1, ha1⟩ := hs.del ⟨#[]⟩ (by unfold maxLen; decide)
    have k1 : OutOf (w.heap.size + 1) W W1 := OutOf.of_at ha1
    have d1 := hx.cell
    have d2 := k1.cell ho hoc d1
    obtain ⟨W2, cnt, hrange, hr2, hg2, hz2⟩ := hs1.range
    have k2 : OutOf (w.heap.size + 1) W W2 := k1.trans ⟨hg2.os, hg2.tape, hg2.output, hg2.size, fun k hk _ => hg2.block k hk (by simp)⟩
    obtain ⟨R, hR⟩ : ∃ R, W1.heap.size = R := ⟨_, rfl⟩
    rw [hR] at hrange hr2 hz2
    have hRW : W.heap.size ≤ R := by rw [← hR]; exact k1.size
    have HB := Lib.hid (And.intro hx (And.intro hb (And.intro hst (And.intro hsz (And.intro hK (And.intro k2 (And.intro hr2 (And.intro hz2 (And.intro hRW (And.intro ho hoc))))))))))
    clear hs hx hb hst hK hS hL ho hoc hs1 ha1 k1 hR k2 hr2 hset hbox hBn
    gi_wp2_with (fail)
    gi_loopw [8] (fun v wr => ∃ (acc : List ByteArray) (cnt : Nat) (q : Option Addr) (c : Nat), v = .slice q acc.length c ∧ Hid (SetR wr (w.heap.size + 1) R L.length (L.filter (fun x => decide (¬ x = ⟨#[]⟩))) acc cnt ∧ OwnV 9 wr (R + 1) q c (acc.map Value.string) ∧ OutOf (w.heap.size + 1) W wr)) (fun _ wr => wr.rangeLeft (w.heap.size + 1) R)
    case atStart => exact ⟨[], cnt, none, 0, rfl, Lib.hid ⟨HB.out.2.2.2.2.2.2.1, OwnV.none_at _ _ _, HB.out.2.2.2.2.2.1⟩⟩
    case round =>
      obtain ⟨acc, cn, q, c, rfl, H⟩ := hrel
      rcases H.out.1.next 0 with ⟨hall, hnd, hrun⟩ | ⟨s, W3, cnt', hsL, hrun, hr3, hlt3, hg3, hz3, hen⟩
      · cases q with
        | none =>
          have hc0 := H.out.2.1.2.2.1 rfl
          have ha0 : acc = [] := by
            have := H.out.2.1.2.1
            rw [hc0, List.length_map] at this
            exact List.eq_nil_of_length_eq_zero (by omega)
          subst ha0 hc0
          have hKw : wr.heap[D]? = some (.deferred (some [])) := by
            rw [H.out.2.2.other D (it_lt HB.out.2.2.2.2.1) (by omega)]
            exact HB.out.2.2.2.2.1
          have HKW := Lib.hid hKw
          have HN := Lib.hid (And.intro hall hnd)
          have CS := Lib.hid (sort_0 wr 0)
          clear hall hnd hKw
          simp only [List.length_nil]
          gi_wp2_with (refine ⟨trivial, ?_⟩; gi_at_call 48; refine (callsIn_wide.2 CS.out).mono ?_; rintro e W6 ⟨rfl, hw6⟩; subst hw6)
          have hB6 : Below w.heap.size w wr := H.out.2.2.low HB.out.2.1 (by omega) (by have := HB.out.2.2.2.2.2.2.2.2.1; have := HB.out.2.2.2.1; omega)
          refine ⟨by simp, .inl ⟨_, _, rfl, run_takeDeferred HKW.out, ?_⟩⟩
          refine ⟨_, results_tmp rfl _ _ _, none, 0, [], rfl, List.nodup_nil, fun s => ?_, ⟨List.Pairwise.nil, Nat.le_refl _, fun h => absurd h (Nat.lt_irrefl 0)⟩, hB6.grown (grownBy_putObj' _ D (.deferred none)) hB6.size (fun k e => by cases e; omega)⟩
          rw [HN.out.1 s, List.mem_filter, HLL.out]
          simp
        | some a =>
          obtain ⟨g, rfl⟩ : ∃ g, a = ⟨g, 0, none⟩ := by
            rcases H.out.2.1.1.2 with ⟨e1, _⟩ | ⟨g, _, _, e1, _⟩
            · cases e1
            · injection e1 with e1
              injection e1 with e1
              exact ⟨g, e1⟩
          have hgb := H.out.2.1.block g 0 rfl
          have hlen : acc.length ≤ 1000000000 := Nat.le_trans H.out.1.len (Nat.le_trans (List.length_filter_le _ _) hN)
          have CS := Lib.hid (sortR 9 wr (R + 1) g c acc H.out.2.1 hlen)
          have HN := Lib.hid (And.intro hall (And.intro hnd hgb.1))
          have HGW := Lib.hid hgb.2.1
          have hKw : wr.heap[D]? = some (.deferred (some [])) := by
            rw [H.out.2.2.other D (it_lt HB.out.2.2.2.2.1) (by omega)]
            exact HB.out.2.2.2.2.1
          have HKW := Lib.hid hKw
          clear hall hnd hgb hlen hKw
          gi_wp2_with (refine ⟨trivial, ?_⟩; gi_at_call 48; refine (callsIn_wide.2 CS.out).mono ?_; rintro e W6 ⟨rfl, l, ⟨hp, hrise⟩, hc6, hk6⟩)
          have hDW := it_lt HB.out.2.2.2.2.1
          have hRW := HB.out.2.2.2.2.2.2.2.2.1
          have hK6 : W6.heap[D]? = some (.deferred (some [])) := (hk6.2.2.2.2 D (it_lt HKW.out) (by have := HN.out.2.2; omega)).trans HKW.out
          have hB6 : Below w.heap.size w W6 := by
            have h1 := H.out.2.2.low HB.out.2.1 (by omega) (by omega)
            exact ⟨hk6.1.trans h1.os, hk6.2.1.trans h1.tape, hk6.2.2.1.trans h1.output, Nat.le_trans h1.size hk6.2.2.2.1, fun k hk => (hk6.2.2.2.2 k (by have := h1.size; omega) (by have := HN.out.2.2; omega)).trans (h1.block k hk)⟩
          refine ⟨by simp, .inl ⟨_, _, rfl, run_takeDeferred hK6, ?_⟩⟩
          refine ⟨_, results_tmp rfl _ _ _, some ⟨g, 0, none⟩, c, l, by rw [hp.length_eq]; rfl, hp.nodup_iff.2 HN.out.2.1, fun s => ?_, ⟨hrise, (by rw [hp.length_eq]; have := H.out.2.1.2.1; simpa using this), fun _ => ⟨g, 0, rfl, fun j hj => ?_⟩⟩, hB6.grown (grownBy_putObj' _ D (.deferred none)) hB6.size (fun k e => by cases e; omega)⟩
          · rw [hp.mem_iff, HN.out.1 s, List.mem_filter, HLL.out]
            simp
          · exact (World.cell?_of_block ((grownBy_putObj' W6 D (.deferred none)).block g (Nat.lt_of_lt_of_le HGW.out hk6.2.2.2.1) (fun e => by cases e; have := HN.out.2.2; omega))).trans (hc6 j hj)
      · have hlen := hr3.len
        rw [List.length_append, List.length_singleton] at hlen
        have hle : (L.filter (fun x => decide (¬ x = ⟨#[]⟩))).length ≤ L.length := List.length_filter_le _ _
        have hs8 : s.size ≤ 140737488355328 := HSB.out s (List.mem_filter.1 hsL).1
        have hRw := H.out.1.lt
        have hW1 : w.heap.size + 1 < R := by have := HB.out.2.2.2.2.2.2.2.2.1; omega
        have hown3 : OwnV 9 W3 (R + 1) q c (acc.map Value.string) := H.out.2.1.keep (fun b cur hq hh => by
          have hb9 := (H.out.2.1.block b 0 hq)
          exact (hg3.block b hb9.2.1 (fun e => by injection e with e; omega)).trans hh)
        have hRW := HB.out.2.2.2.2.2.2.2.2.1
        have ho3 : OutOf (w.heap.size + 1) W W3 := H.out.2.2.grown hg3 (fun j e => by injection e with e; omega)
        have HN := Lib.hid (And.intro hr3 (And.intro hlt3 (And.intro hown3 (And.intro ho3 (And.intro hlen (And.intro hle hz3))))))
        clear hsL hr3 hlt3 hg3 hown3 ho3 hlen hle hz3 hRW
        obtain ⟨i1, hi1, hy0, hy1, hy2⟩ := info_parts infoStr
        have HI := Lib.hid (And.intro hi1 (And.intro hy0 (And.intro hy1 hy2)))
        clear hi1 hy0 hy1 hy2
        gi_wp2_with (first | (refine ⟨trivial, ?_⟩; gi_at_call 47; refine (callsIn_wide.2 (clone5 s _ hs8)).mono ?_; rintro e W4 ⟨rfl, hb4⟩; obtain ⟨g5, c5, W5, H5⟩ := round5 HI.out.1 HI.out.2.1 HI.out.2.2.1 HI.out.2.2.2 HN.out.1 HN.out.2.2.1 HN.out.2.2.2.1 hb4 (by have := HN.out.2.2.2.2.1; have := HN.out.2.2.2.2.2.1; have := HNL.out; omega) HB.out.2.2.2.2.2.2.2.2.1 hW1) | (gi_at_builtin; refine appendIn_eq rfl _ _ 35 rfl _ _ _ _ rfl rfl H5.out.1 ?_))
        go_roundw
        · exact ⟨acc ++ [s], cnt', some ⟨g5, 0, none⟩, c5, by rw [List.length_append, List.length_singleton], Lib.hid ⟨H5.out.2.1, by rw [List.map_append]; exact H5.out.2.2.1, H5.out.2.2.2⟩⟩
        · rw [H5.out.2.1.left, H.out.1.left]
          exact HN.out.2.1
  case stop =>
    rintro D c pre W hD hp h hK
    exact h.elim
end Go.Proofs.YtfmlmdfehaajbaaGreatDoor
