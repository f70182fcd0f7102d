/- Proved here: what the program's bytes behind their sum are, and a page's bytes. -/
import Derived.Test.YtlkffignbjpfcaaSheetBits
namespace Go.Proofs.Ytlkffignbjpfcaa
open Go.RowKit

theorem Owns.mono {w : World} {B B' g cap : Nat} {s : ByteArray} (h : Owns w B g cap s) (hB : B' ≤ B) : Owns w B' g cap s := by
  obtain ⟨⟨h1, h2⟩, h3, h4⟩ := h
  refine ⟨⟨h1, ?_⟩, Nat.le_trans hB h3, h4⟩
  rcases h2 with h2 | ⟨g', cap', cur, e, hb, hr⟩
  · exact .inl h2
  · exact .inr ⟨g', cap', cur, e, Nat.le_trans hB hb, hr⟩
theorem NewB.after {l : List UInt8} {w W W' : World} {r : Value} (h : NewB l W r W') (hb : Below w.heap.size w W) : NewB l w r W' := by
  obtain ⟨g, cap, e, ho, hb'⟩ := h
  exact ⟨g, cap, e, ho.mono hb.size, below_cat hb hb'⟩
theorem NewB.below {l : List UInt8} {w W : World} {r : Value} (h : NewB l w r W) : Below w.heap.size w W := by
  obtain ⟨_, _, _, _, hb⟩ := h
  exact hb
/-- A row literal's pieces, one behind the other. -/
theorem concat_lit (l : List Piece) (W : World) (n : Nat) (hn : l.length = n) (row : Array Value) (T : TypeId) (fr : Nat × Nat) (hrow : row.toList = l.map pieceV) (hf : ∀ x ∈ l, Fine W x) (h0 : 0 < (catP l).length) (hz : (catP l).length ≤ 1048576) (hl : l.length ≤ 1024) :
    Calls Try.prog 61 #[.slice (some ⟨W.heap.size, 0, none⟩) n n] (W.alloc (.cells row T fr)) fun e w' => ∃ r, e = .returned r ∧ NewB (catP l) W r w' := by
  subst hn
  have hb : Below W.heap.size W (W.alloc (.cells row T fr)) := (Below.refl _ _).alloc (Nat.le_refl _) _
  refine (concat_any l W.heap.size 0 l.length (W.alloc (.cells row T fr)) (fun j hj => ?_) (fun x hx => (hf x hx).below hb) h0 hz hl).mono fun e w' ⟨r, h1, h2⟩ => ⟨r, h1, h2.after hb⟩
  rw [Nat.zero_add, cell_of_row _ _ _ _ _ _ (heap_alloc_new W _), ← Array.getElem?_toList, hrow, List.getElem?_map, List.getElem?_eq_getElem hj]
  rfl
set_option maxRecDepth 100000 in
set_option maxHeartbeats 2000000 in
theorem seal_any (p : Option Addr) (s : ByteArray) (n c : Nat) (w : World) (hn : s.size = n) (hs : n ≤ 1000000) (hp : HoldsB w p s) (hnil : p = none → c = 0) :
    Calls Try.prog 60 #[.slice p n c] w fun e w' => ∃ r, e = .returned r ∧ NewB (sealL (bl s)) w r w' := by
  have SM := Lib.hid (sum_any p s n c w hn (by omega) hp)
  have hb32 := sumN_lt (bl s)
  have OC := Lib.hid (octets_any (sumN (bl s)) 4 w (by omega) (by omega))
  have HH := Lib.hid (And.intro hp (And.intro hnil (And.intro hn hs)))
  have hi : ((sumN (bl s) : Nat) : Int) < 4294967296 := by omega
  obtain ⟨S, hS⟩ : ∃ S, sumN (bl s) = S := ⟨_, rfl⟩
  rw [hS] at SM OC hi
  have HS := Lib.hid hS
  clear hp hnil hn hs hS hb32
  go_enter Try.func60, Try.ntmps60
  go_wp2_with (fail)
  refine SM.out.mono ?_
  rintro e w' ⟨rfl, rfl⟩
  go_wp2_with (fail)
  refine OC.out.mono ?_
  rintro e W1 ⟨r, rfl, g, cap, rfl, ho, hb⟩
  have H1 := Lib.hid (And.intro ho hb)
  clear ho hb SM OC
  go_wp2_with (fail)
  have hcat : catP [(some ⟨g, 0, none⟩, cap, ofL (numL S 4)), (p, c, s)] = sealL (bl s) := by
    unfold catP sealL
    simp only [List.flatMap_cons, List.flatMap_nil, List.append_nil, bl_ofL]
    rw [HS.out]
  have hz : (sealL (bl s)).length = n + 4 := by rw [sealL_length, bl_length, HH.out.2.2.1]
  have CL := concat_lit [(some ⟨g, 0, none⟩, cap, ofL (numL S 4)), (p, c, s)] W1 2 rfl #[.slice (some ⟨g, 0, none⟩) 4 cap, .slice p n c] 33 (0, 0) (by
      show _ = [Value.slice (some ⟨g, 0, none⟩) (ofL (numL S 4)).size cap, Value.slice p s.size c]
      rw [ofL_size, numL_length, HH.out.2.2.1]) (fun x hx => by
      rcases List.mem_cons.1 hx with rfl | hx
      · exact ⟨H1.out.1.holds, fun e => by cases e⟩
      · rw [List.mem_singleton.1 hx]
        exact ⟨HH.out.1.below H1.out.2, HH.out.2.1⟩) (by rw [hcat, hz]; omega) (by rw [hcat, hz]; have := HH.out.2.2.2; omega) (by show 2 ≤ 1024; decide)
  rw [hcat] at CL
  have HC := Lib.hid CL
  clear CL hcat hz
  refine HC.out.mono ?_
  rintro e W2 ⟨r, rfl, hr⟩
  have HR := Lib.hid (hr.after H1.out.2)
  clear hr HC
  go_wp2_with (fail)
  go_ret
  exact ⟨_, rfl, HR.out⟩
set_option maxRecDepth 100000 in
set_option maxHeartbeats 2000000 in
theorem isSealed_any (b off : Nat) (s : ByteArray) (n c : Nat) (w : World) (hn : s.size = n) (h5 : 5 ≤ n) (hc : n ≤ c) (hs : n ≤ 1000000) (hp : HoldsB w (some ⟨b, off, none⟩) s) :
    Calls Try.prog 64 #[.slice (some ⟨b, off, none⟩) n c] w fun e w' => e = .returned (.bool (sealed (bl s))) ∧ ∃ m, w' = w.drewN m := by
  have e0 : (s.extract 0 4).size = 4 := ext_size s 0 4 (by omega)
  have e4 : (s.extract 4 n).size = n - 4 := ext_size s 4 n (by omega)
  have NB := Lib.hid (fun k => number_any (some ⟨b, off, none⟩) (s.extract 0 4) 4 c (w.drewN k) e0 (by omega) ((hp.part 0 4 (by omega)).drewN k))
  have SB := Lib.hid (fun k => sum_any (some ⟨b, off + 4, none⟩) (s.extract 4 n) (n - 4) (c - 4) (w.drewN k) e4 (by omega) ((hp.part 4 n (by omega)).drewN k))
  have b0 : bl (s.extract 0 4) = (bl s).take 4 := by rw [bl_extract, List.drop_zero]
  have b4 : bl (s.extract 4 n) = (bl s).drop 4 := by rw [bl_extract, List.take_of_length_le (by rw [List.length_drop, bl_length]; omega)]
  have hb32 := sumN_lt ((bl s).drop 4)
  have hE : sealed (bl s) = decide (valN ((bl s).take 4) = sumN ((bl s).drop 4)) := rfl
  rw [hE]
  rw [b0] at NB
  rw [b4] at SB
  clear e0 e4 b0 b4 hE hn hp
  generalize valN ((bl s).take 4) = X at *
  generalize sumN ((bl s).drop 4) = Y at *
  have hc4 : ¬ c = 4 := by omega
  have hc5 : (4 : Int) ≤ (c : Int) := by omega
  have hn5 : (4 : Int) ≤ (n : Int) := by omega
  have hnc : (n : Int) ≤ (c : Int) := by omega
  have hY : (Y : Int) < 4294967296 := by omega
  go_enter Try.func64, Try.ntmps64
  go_wp2_with (fail)
  go_quiet (first | (go_at_call 65; exact Calls.quiet_of_same ((NB.out _).mono fun _ _ h => ⟨h.1, h.2.symm⟩)) | (go_at_call 69; exact Calls.quiet_of_same ((SB.out _).mono fun _ _ h => ⟨h.1, h.2.symm⟩)))
  go_wp2_with (fail)
  go_ret
  exact ⟨ret_bool (by show ((X : Int) == (Y : Int)) = _; rw [Bool.eq_iff_iff, beq_iff_eq, decide_eq_true_eq]; omega), _, rfl⟩
/-- Four pieces. -/
theorem catP_four (a b c d : Piece) : catP [a, b, c, d] = bl a.2.2 ++ (bl b.2.2 ++ (bl c.2.2 ++ bl d.2.2)) := by
  unfold catP
  simp only [List.flatMap_cons, List.flatMap_nil, List.append_nil]
set_option maxRecDepth 100000 in
set_option maxHeartbeats 4000000 in
theorem lay_ok (n stamp : Nat) (p : Option Addr) (s : ByteArray) (m c : Nat) (w : World) (hn : n ≤ 4294967295) (hst : stamp < 18446744073709551616) (hm : s.size = m) (hs : m ≤ 496) (hp : HoldsB w p s) (hnil : p = none → c = 0) :
    Calls Try.prog 41 #[.int .i64 (n : Int), .int .u64 (stamp : Int), .slice p m c] w fun e w' => ∃ r, e = .returned (.tuple #[r, .int .i64 0]) ∧ NewB (pageL n stamp (bl s)) w r w' := by
  have IN := Lib.hid (isNumber_yes n hn w)
  obtain ⟨W0, hmk, ho, hb⟩ := make_full w (496 - m) (by omega)
  have e496 : ((496 - m : Nat) : Int) = 496 - (m : Int) := by omega
  rw [e496] at hmk
  have O4 := Lib.hid (octets_any n 4 W0 (by omega) (by omega))
  have H0 := Lib.hid (And.intro ho hb)
  have HH := Lib.hid (And.intro hp (And.intro hnil (And.intro hm (And.intro hs hst))))
  have hn1 : (n : Int) ≤ 4294967295 := by omega
  have hn0 : (0 : Int) ≤ (n : Int) := by omega
  have hm9 : (m : Int) ≤ 496 := by omega
  clear ho hb hp hnil hm hst e496
  go_enter Try.func41, Try.ntmps41
  go_wp2_with (fail)
  refine IN.out.mono ?_
  rintro e w' ⟨rfl, rfl⟩
  go_wp2_with (fail)
  refine O4.out.mono ?_
  rintro e W1 ⟨r, rfl, g1, c1, rfl, ho, hb⟩
  have H1 := Lib.hid (And.intro ho (below_cat H0.out.2 hb))
  have K1 := Lib.hid hb
  clear ho hb O4
  go_wp2_with (fail)
  refine (octets_any stamp 8 W1 HH.out.2.2.2.2 (by omega)).mono ?_
  rintro e W2 ⟨r, rfl, g2, c2, rfl, ho, hb⟩
  have H2 := Lib.hid (And.intro ho (below_cat H1.out.2 hb))
  have K2 := Lib.hid hb
  clear ho hb
  go_wp2_with (fail)
  have F1 : HoldsB W2 (some ⟨g1, 0, none⟩) (ofL (numL n 4)) := H1.out.1.holds.below K2.out
  have F2 : HoldsB W2 (some ⟨g2, 0, none⟩) (ofL (numL stamp 8)) := H2.out.1.holds
  have F3 : HoldsB W2 p s := HH.out.1.below H2.out.2
  have F0 : HoldsB W2 (some ⟨w.heap.size, 0, none⟩) (ofL (zL (496 - m))) := (H0.out.1.holds.below K1.out).below K2.out
  have hcat : catP [(some ⟨g1, 0, none⟩, c1, ofL (numL n 4)), (some ⟨g2, 0, none⟩, c2, ofL (numL stamp 8)), (p, c, s), (some ⟨w.heap.size, 0, none⟩, 496 - m, ofL (zL (496 - m)))] = numL n 4 ++ (numL stamp 8 ++ fillL (bl s) 496) := by
    rw [catP_four]
    simp only [bl_ofL]
    unfold fillL
    rw [bl_length, HH.out.2.2.1]
  have hz : (numL n 4 ++ (numL stamp 8 ++ fillL (bl s) 496)).length = 508 := by
    rw [List.length_append, List.length_append, numL_length, numL_length, fillL_length (by rw [bl_length, HH.out.2.2.1]; exact HH.out.2.2.2.1)]
  have CL := concat_lit [(some ⟨g1, 0, none⟩, c1, ofL (numL n 4)), (some ⟨g2, 0, none⟩, c2, ofL (numL stamp 8)), (p, c, s), (some ⟨w.heap.size, 0, none⟩, 496 - m, ofL (zL (496 - m)))] W2 4 rfl #[.slice (some ⟨g1, 0, none⟩) 4 c1, .slice (some ⟨g2, 0, none⟩) 8 c2, .slice p m c, .slice (some ⟨w.heap.size, 0, none⟩) (496 - m) (496 - m)] 33 (0, 0) (by
      show _ = [Value.slice (some ⟨g1, 0, none⟩) (ofL (numL n 4)).size c1, Value.slice (some ⟨g2, 0, none⟩) (ofL (numL stamp 8)).size c2, Value.slice p s.size c, Value.slice (some ⟨w.heap.size, 0, none⟩) (ofL (zL (496 - m))).size (496 - m)]
      rw [ofL_size, ofL_size, ofL_size, numL_length, numL_length, HH.out.2.2.1]
      simp [zL]) (fun x hx => by
      simp only [List.mem_cons, List.not_mem_nil, or_false] at hx
      rcases hx with rfl | rfl | rfl | rfl
      · exact ⟨F1, fun e => by cases e⟩
      · exact ⟨F2, fun e => by cases e⟩
      · exact ⟨F3, HH.out.2.1⟩
      · exact ⟨F0, fun e => by cases e⟩) (by rw [hcat, hz]; decide) (by rw [hcat, hz]; decide) (by show 4 ≤ 1024; decide)
  rw [hcat] at CL
  have HC := Lib.hid CL
  have HZ := Lib.hid hz
  clear CL hcat hz F0 F1 F2 F3
  refine HC.out.mono ?_
  rintro e W3 ⟨r, rfl, g3, c3, rfl, ho, hb⟩
  have H3 := Lib.hid (And.intro ho (below_cat H2.out.2 hb))
  rw [HZ.out]
  clear ho hb HC
  go_wp2_with (fail)
  refine (seal_any (some ⟨g3, 0, none⟩) _ 508 c3 W3 (by rw [ofL_size, HZ.out]) (by decide) H3.out.1.holds (fun e => by cases e)).mono ?_
  rintro e W4 ⟨r, rfl, hr⟩
  have HR := Lib.hid (hr.after H3.out.2)
  clear hr
  go_wp2_with (fail)
  go_ret2
  refine ⟨_, rfl, ?_⟩
  have h := HR.out
  rw [bl_ofL] at h
  exact h
set_option maxHeartbeats 1000000 in
theorem lay_arg (n : Int) (h : n < 0 ∨ 4294967295 < n) (st : Int) (p : Option Addr) (m c : Nat) (w : World) :
    Calls Try.prog 41 #[.int .i64 n, .int .u64 st, .slice p m c] w fun e w' => e = .returned (.tuple #[.slice none 0 0, .int .i64 1]) ∧ w = w' := by
  have IN := Lib.hid (isNumber_no n h w)
  clear h
  go_enter Try.func41, Try.ntmps41
  go_wp2_with (fail)
  refine IN.out.mono ?_
  rintro e w' ⟨rfl, rfl⟩
  go_wp2_with (fail)
  go_ret2
  exact ⟨rfl, rfl⟩
set_option maxHeartbeats 1000000 in
theorem lay_long (n : Nat) (hn : n ≤ 4294967295) (st : Int) (p : Option Addr) (m c : Nat) (hm : 496 < m) (w : World) :
    Calls Try.prog 41 #[.int .i64 (n : Int), .int .u64 st, .slice p m c] w fun e w' => e = .returned (.tuple #[.slice none 0 0, .int .i64 6]) ∧ w = w' := by
  have IN := Lib.hid (isNumber_yes n hn w)
  have hm9 : (496 : Int) < (m : Int) := by omega
  clear hn
  go_enter Try.func41, Try.ntmps41
  go_wp2_with (fail)
  refine IN.out.mono ?_
  rintro e w' ⟨rfl, rfl⟩
  go_wp2_with (fail)
  go_ret2
  exact ⟨rfl, rfl⟩
end Go.Proofs.Ytlkffignbjpfcaa
