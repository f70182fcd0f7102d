/- Proved here: At answers a copy of the node at a path, or that there is none. -/
import Derived.Test.YtfmlmdfehaajbaaGreatDoorCopyW
namespace Go.Proofs.YtfmlmdfehaajbaaGreatDoor
open Go.RowKit Go.Shelf

/-- The node at a path. -/
def findA : List Int → AT → Option AT
  | [], t => some t
  | i :: r, t => if h : 0 ≤ i ∧ i.toNat < t.kids.length then findA r (t.kids[i.toNat]'h.2) else none
/-- A path that a slice says. -/
def PathAt (W : World) (q : Option Addr) (l : List Int) : Prop := 0 < l.length → ∃ b off, q = some ⟨b, off, none⟩ ∧ ∀ j (h : j < l.length), W.cell? ⟨b, off + j, none⟩ = some (.int .i64 l[j])
def zeroNode : Value := .agg #[.int .i64 0, .string ⟨#[]⟩, .string ⟨#[]⟩, .slice none 0 0, .slice none 0 0, .string ⟨#[]⟩]
def AtOut (w : World) (r : Option AT) (e : Ending) (W : World) : Prop := Below w.heap.size w W ∧ match r with
  | none => e = .returned (.tuple #[zeroNode, .int .i64 35])
  | some x => ∃ X pa ca pk ck, e = .returned (.tuple #[nodeV X pa ca pk ck, .int .i64 0]) ∧ X.plain = x.plain ∧
    ∀ W', (∀ k, k < W.heap.size → w.heap.size ≤ k → W'.heap[k]? = W.heap[k]?) → PartsAt W' X pa ca pk ck ∧ KidsAt W' X ∧ Built w.heap.size W' X ∧ Typed2 w.heap.size W' pa pk
theorem findA_step {l : List Int} {j : Nat} (hj : j < l.length) (x : AT) : findA (l.drop j) x = if h : 0 ≤ l[j] ∧ l[j].toNat < x.kids.length then findA (l.drop (j + 1)) (x.kids[l[j].toNat]'h.2) else none := by
  rw [List.drop_eq_getElem_cons hj]
  rfl
set_option maxRecDepth 100000 in
set_option maxHeartbeats 8000000 in
theorem at_any (w : World) (t : AT) (pa : Option Addr) (ca : Nat) (pk : Option Addr) (ck : Nat) (h : PartsAt w t pa ca pk ck) (hk : KidsAt w t) (hc : t.count ≤ 1048576) (hF : t.Fits 1048576) (q : Option Addr) (l : List Int) (cl : Nat) (hq : PathAt w q l) (hl : l.length ≤ cl) (hl2 : l.length ≤ 1099511627776) :
    Calls Tryz.prog 21 #[nodeV t pa ca pk ck, .slice q l.length cl] w (AtOut w (findA l (t.put w.heap.size 0))) := by
  obtain ⟨w1, hw1⟩ : ∃ w1, w.alloc (.cells (nodeC t pa ca pk ck) 27) = w1 := ⟨_, rfl⟩
  obtain ⟨w2, hw2⟩ : ∃ w2, w1.alloc (.cells #[.int .i64 0, .string ⟨#[]⟩, .string ⟨#[]⟩, .slice none 0 0, .slice none 0 0, .string ⟨#[]⟩] 27) = w2 := ⟨_, rfl⟩
  have z1 : w1.heap.size = w.heap.size + 1 := by rw [← hw1]; simp
  have z2 : w2.heap.size = w.heap.size + 2 := by rw [← hw2]; simp [z1]
  have b1 : Below w.heap.size w w1 := by rw [← hw1]; exact (Below.refl _ _).alloc (Nat.le_refl _) _
  have b2 : Below w.heap.size w w2 := by rw [← hw2]; exact b1.alloc b1.size _
  have r1 : w1.heap[w.heap.size]? = some (.cells (nodeC t pa ca pk ck) 27 (0, 0)) := by rw [← hw1]; exact heap_alloc_new _ _
  have r1' : w2.heap[w.heap.size]? = some (.cells (nodeC t pa ca pk ck) 27 (0, 0)) := by rw [← hw2]; exact (Below.heap_alloc _ _ _ (it_lt r1)).trans r1
  have r2 : w2.heap[w.heap.size + 1]? = some (.cells #[.int .i64 0, .string ⟨#[]⟩, .string ⟨#[]⟩, .slice none 0 0, .slice none 0 0, .string ⟨#[]⟩] 27 (0, 0)) := by
    rw [← hw2]
    have := heap_alloc_new w1 (.cells #[.int .i64 0, .string ⟨#[]⟩, .string ⟨#[]⟩, .slice none 0 0, .slice none 0 0, .string ⟨#[]⟩] 27)
    rwa [z1] at this
  have hT : TreeAt w2 (t.put w.heap.size 0) := TreeAt.boxed (h.stay (Stay.below b2)) (fun k hk' => (hk k hk').stay (Stay.below b2)) r1'
  have HT := Lib.hid (And.intro hT (And.intro (hF.put w.heap.size 0) (show (t.put w.heap.size 0).count ≤ 1048576 from by rw [put_count]; exact hc)))
  have HQ := Lib.hid (show PathAt w2 q l from fun h0 => by
    obtain ⟨b, off, e, hcell⟩ := hq h0
    exact ⟨b, off, e, fun j hj => Stay.below b2 _ _ (hcell j hj)⟩)
  have HW := Lib.hid (And.intro z1 (And.intro z2 (And.intro b2 r2)))
  obtain ⟨t', ht'⟩ : ∃ t', t.put w.heap.size 0 = t' := ⟨_, rfl⟩
  have HP := Lib.hid (show t'.b = w.heap.size ∧ t'.o = 0 from by rw [← ht']; exact ⟨put_b _ _ _, put_o _ _ _⟩)
  rw [ht'] at HT ⊢
  unfold nodeV
  unfold nodeC at hw1
  clear h hk hc hF z1 z2 b1 b2 r1 r1' r2 hT hq ht'
  go_enter Tryz.func21, Tryz.ntmps21
  go_wp2_with (fail)
  rw [HW.out.1]
  clear hw1 hw2
  go_loopw [6, 11] (fun v6 v11 wr => ∃ (j : Nat) (x : AT), v6 = .pointer (some ⟨x.b, x.o, none⟩) ∧ v11 = .int .i64 (j : Int) ∧ j ≤ l.length ∧ Hid' (TreeAt w2 x ∧ x.Fits 1048576 ∧ x.count ≤ 1048576 ∧ findA (l.drop j) x = findA l t' ∧ Below w2.heap.size w2 wr)) (fun v6 v11 _ => l.length - (intOf v11).toNat)
  case atStart =>
    refine ⟨0, t', ?_, rfl, Nat.zero_le _, HT.out.1, HT.out.2.1, HT.out.2.2, by rw [List.drop_zero], Below.refl _ _⟩
    rw [HP.out.1, HP.out.2]
  case round =>
    obtain ⟨j, x, rfl, rfl, hj, HI⟩ := hrel
    obtain ⟨V, rfl⟩ : ∃ V, V = wr := ⟨_, rfl⟩
    have HIX := Lib.hid (show _ ∧ _ from HI)
    obtain ⟨hTx, hFx, hcx, hfx, hbx⟩ := HI
    obtain ⟨xa, xca, xk, xck, hPx, c0, c1, c2, c3, c4, c5⟩ := hTx.top
    have e0 := Stay.below hbx _ _ c0
    have e1 := Stay.below hbx _ _ c1
    have e2 := Stay.below hbx _ _ c2
    have e3 := Stay.below hbx _ _ c3
    have e4 := Stay.below hbx _ _ c4
    have e5 := Stay.below hbx _ _ c5
    have hkc := hPx.kcap
    have hkl := (hFx x x.self_mem).2.2.2.2.1
    by_cases hlt : j < l.length
    · have hlt' : (j : Int) < (l.length : Int) := by omega
      obtain ⟨qb, qo, rfl, hcell⟩ := HQ.out (by omega)
      have ej := Stay.below hbx _ _ (hcell j hlt)
      have hst := findA_step hlt x
      obtain ⟨i, hi⟩ : ∃ i, l[j] = i := ⟨_, rfl⟩
      rw [hi] at ej
      have hst2 : findA l t' = if h : 0 ≤ i ∧ i.toNat < x.kids.length then findA (l.drop (j + 1)) (x.kids[i.toNat]'h.2) else none := by
        rw [← hfx, hst]
        subst hi
        rfl
      clear hst hcell hi
      have HS := Lib.hid (And.intro hst2 hbx)
      have r2 := (hbx.block _ (by have := HW.out.2.1; omega)).trans HW.out.2.2.2
      by_cases hn : i < 0
      · have HE := Lib.hid (show findA l t' = none from by rw [hst2, dif_neg (by omega)])
        clear hst2
        have f0 : V.frozen? ⟨w.heap.size + 1, 0, none⟩ = false := frozen_of_row _ _ _ _ _ r2
        have s0 := cell_of_row _ _ 0 _ _ _ r2
        have f1 : V.frozen? ⟨w.heap.size + 1, 1, none⟩ = false := frozen_of_row _ _ _ _ _ r2
        have s1 := cell_of_row _ _ 1 _ _ _ r2
        have f2 : V.frozen? ⟨w.heap.size + 1, 2, none⟩ = false := frozen_of_row _ _ _ _ _ r2
        have s2 := cell_of_row _ _ 2 _ _ _ r2
        have f3 : V.frozen? ⟨w.heap.size + 1, 3, none⟩ = false := frozen_of_row _ _ _ _ _ r2
        have s3 := cell_of_row _ _ 3 _ _ _ r2
        have f4 : V.frozen? ⟨w.heap.size + 1, 4, none⟩ = false := frozen_of_row _ _ _ _ _ r2
        have s4 := cell_of_row _ _ 4 _ _ _ r2
        have f5 : V.frozen? ⟨w.heap.size + 1, 5, none⟩ = false := frozen_of_row _ _ _ _ _ r2
        have s5 := cell_of_row _ _ 5 _ _ _ r2
        have HR2 := Lib.hid r2
        clear r2
        go_wp2_with (fail)
        clear f0 f1 f2 f3 f4 f5 s0 s1 s2 s3 s4 s5 e0 e1 e2 e3 e4 e5 ej
        obtain ⟨W4, hW4⟩ : ∃ W4, ((((((V.setCell ⟨w.heap.size + 1, 0, none⟩ (.int .i64 0)).setCell ⟨w.heap.size + 1, 1, none⟩ (.string ⟨#[]⟩)).setCell ⟨w.heap.size + 1, 2, none⟩ (.string ⟨#[]⟩)).setCell ⟨w.heap.size + 1, 3, none⟩ (.slice none 0 0)).setCell ⟨w.heap.size + 1, 4, none⟩ (.slice none 0 0)).setCell ⟨w.heap.size + 1, 5, none⟩ (.string ⟨#[]⟩)) = W4 := ⟨_, rfl⟩
        rw [hW4]
        have r4 : W4.heap[w.heap.size + 1]? = some (.cells #[.int .i64 0, .string ⟨#[]⟩, .string ⟨#[]⟩, .slice none 0 0, .slice none 0 0, .string ⟨#[]⟩] 27 (0, 0)) := by
          rw [← hW4]
          exact set_row6 (k := 5) _ (set_row6 (k := 4) _ (set_row6 (k := 3) _ (set_row6 (k := 2) _ (set_row6 (k := 1) _ (set_row6 (k := 0) _ HR2.out)))))
        have b4 : Below w.heap.size w W4 := by
          rw [← hW4]
          have hb : Below w.heap.size w V := HW.out.2.2.1.trans (HS.out.2.mono (by have := HW.out.2.1; omega))
          exact (((((hb.setCell (p := ⟨w.heap.size + 1, 0, none⟩) (Nat.le_succ _) _).setCell (p := ⟨w.heap.size + 1, 1, none⟩) (Nat.le_succ _) _).setCell (p := ⟨w.heap.size + 1, 2, none⟩) (Nat.le_succ _) _).setCell (p := ⟨w.heap.size + 1, 3, none⟩) (Nat.le_succ _) _).setCell (p := ⟨w.heap.size + 1, 4, none⟩) (Nat.le_succ _) _).setCell (p := ⟨w.heap.size + 1, 5, none⟩) (Nat.le_succ _) _
        clear hW4
        have t0 := cell_of_row _ _ 0 _ _ _ r4
        have t1 := cell_of_row _ _ 1 _ _ _ r4
        have t2 := cell_of_row _ _ 2 _ _ _ r4
        have t3 := cell_of_row _ _ 3 _ _ _ r4
        have t4 := cell_of_row _ _ 4 _ _ _ r4
        have t5 := cell_of_row _ _ 5 _ _ _ r4
        simp at t0 t1 t2 t3 t4 t5
        refine bodyPost_ret (v := .tuple #[zeroNode, .int .i64 35]) ?_ rfl ⟨b4, ?_⟩
        · simp [results, Tryz.f21, go_sem, t0, t1, t2, t3, t4, t5, zeroNode]
        · rw [HE.out]
      · obtain ⟨m, rfl⟩ := Int.eq_ofNat_of_zero_le (show 0 ≤ i by omega)
        have hnn : ¬ ((m : Int) < 0) := hn
        by_cases hm : m < x.kids.length
        · have hmm : (m : Int) < (x.kids.length : Int) := by omega
          have hmn : ¬ ((x.kids.length : Int) ≤ (m : Int)) := by omega
          obtain ⟨kb, ko, rfl, hkk⟩ := hPx.kids (by omega)
          have HK := Lib.hid (And.intro (hkk m hm) (show findA l t' = findA (l.drop (j + 1)) x.kids[m] from by rw [hst2, dif_pos (by constructor; omega; exact hm)]; rfl))
          clear hst2 hkk r2
          go_wp2_with (fail)
          go_roundw
          case rel =>
            obtain ⟨⟨k1, k2⟩, k3⟩ := HK.out
            have hmem : x.kids[m] ∈ x.kids := List.getElem_mem hm
            refine ⟨j + 1, x.kids[m], ?_, by go_num, hlt, hTx.kid hmem, hFx.kid hmem, ?_, k3.symm, hbx⟩
            · rw [k1, k2]
            · have h1 := count_kids' x
              have h2 := counted_le hmem
              omega
          case measure => simp only [intOf]; omega
        · have hmn : (x.kids.length : Int) ≤ (m : Int) := by omega
          have HE := Lib.hid (show findA l t' = none from by rw [hst2, dif_neg (by intro hh; have := hh.2; simp at this; omega)])
          clear hst2
          have f0 : V.frozen? ⟨w.heap.size + 1, 0, none⟩ = false := frozen_of_row _ _ _ _ _ r2
          have s0 := cell_of_row _ _ 0 _ _ _ r2
          have f1 : V.frozen? ⟨w.heap.size + 1, 1, none⟩ = false := frozen_of_row _ _ _ _ _ r2
          have s1 := cell_of_row _ _ 1 _ _ _ r2
          have f2 : V.frozen? ⟨w.heap.size + 1, 2, none⟩ = false := frozen_of_row _ _ _ _ _ r2
          have s2 := cell_of_row _ _ 2 _ _ _ r2
          have f3 : V.frozen? ⟨w.heap.size + 1, 3, none⟩ = false := frozen_of_row _ _ _ _ _ r2
          have s3 := cell_of_row _ _ 3 _ _ _ r2
          have f4 : V.frozen? ⟨w.heap.size + 1, 4, none⟩ = false := frozen_of_row _ _ _ _ _ r2
          have s4 := cell_of_row _ _ 4 _ _ _ r2
          have f5 : V.frozen? ⟨w.heap.size + 1, 5, none⟩ = false := frozen_of_row _ _ _ _ _ r2
          have s5 := cell_of_row _ _ 5 _ _ _ r2
          have HR2 := Lib.hid r2
          clear r2
          go_wp2_with (fail)
          clear f0 f1 f2 f3 f4 f5 s0 s1 s2 s3 s4 s5 e0 e1 e2 e3 e4 e5 ej
          obtain ⟨W4, hW4⟩ : ∃ W4, ((((((V.setCell ⟨w.heap.size + 1, 0, none⟩ (.int .i64 0)).setCell ⟨w.heap.size + 1, 1, none⟩ (.string ⟨#[]⟩)).setCell ⟨w.heap.size + 1, 2, none⟩ (.string ⟨#[]⟩)).setCell ⟨w.heap.size + 1, 3, none⟩ (.slice none 0 0)).setCell ⟨w.heap.size + 1, 4, none⟩ (.slice none 0 0)).setCell ⟨w.heap.size + 1, 5, none⟩ (.string ⟨#[]⟩)) = W4 := ⟨_, rfl⟩
          rw [hW4]
          have r4 : W4.heap[w.heap.size + 1]? = some (.cells #[.int .i64 0, .string ⟨#[]⟩, .string ⟨#[]⟩, .slice none 0 0, .slice none 0 0, .string ⟨#[]⟩] 27 (0, 0)) := by
            rw [← hW4]
            exact set_row6 (k := 5) _ (set_row6 (k := 4) _ (set_row6 (k := 3) _ (set_row6 (k := 2) _ (set_row6 (k := 1) _ (set_row6 (k := 0) _ HR2.out)))))
          have b4 : Below w.heap.size w W4 := by
            rw [← hW4]
            have hb : Below w.heap.size w V := HW.out.2.2.1.trans (HS.out.2.mono (by have := HW.out.2.1; omega))
            exact (((((hb.setCell (p := ⟨w.heap.size + 1, 0, none⟩) (Nat.le_succ _) _).setCell (p := ⟨w.heap.size + 1, 1, none⟩) (Nat.le_succ _) _).setCell (p := ⟨w.heap.size + 1, 2, none⟩) (Nat.le_succ _) _).setCell (p := ⟨w.heap.size + 1, 3, none⟩) (Nat.le_succ _) _).setCell (p := ⟨w.heap.size + 1, 4, none⟩) (Nat.le_succ _) _).setCell (p := ⟨w.heap.size + 1, 5, none⟩) (Nat.le_succ _) _
          clear hW4
          have t0 := cell_of_row _ _ 0 _ _ _ r4
          have t1 := cell_of_row _ _ 1 _ _ _ r4
          have t2 := cell_of_row _ _ 2 _ _ _ r4
          have t3 := cell_of_row _ _ 3 _ _ _ r4
          have t4 := cell_of_row _ _ 4 _ _ _ r4
          have t5 := cell_of_row _ _ 5 _ _ _ r4
          simp at t0 t1 t2 t3 t4 t5
          refine bodyPost_ret (v := .tuple #[zeroNode, .int .i64 35]) ?_ rfl ⟨b4, ?_⟩
          · simp [results, Tryz.f21, go_sem, t0, t1, t2, t3, t4, t5, zeroNode]
          · rw [HE.out]
    · have hlt' : ¬ (j : Int) < (l.length : Int) := by omega
      have hfin : findA l t' = some x := by rw [← hfx, List.drop_eq_nil_of_le (by omega)]; rfl
      have r2 := (hbx.block _ (by have := HW.out.2.1; omega)).trans HW.out.2.2.2
      have HC := Lib.hid ((copy_any V x xa xca xk xck (hPx.stay (Stay.below hbx)) (fun k hk' => (hTx.kids k hk').stay (Stay.below hbx)) hcx hFx).mono (R' := fun e W => ∃ X qa da qk dk, e = .returned (.agg #[.int .i64 X.kind, .string X.uri, .string X.loc, .slice qa X.attrs.length da, .slice qk X.kids.length dk, .string X.text]) ∧ W.heap[w.heap.size + 1]? = some (.cells #[.int .i64 0, .string ⟨#[]⟩, .string ⟨#[]⟩, .slice none 0 0, .slice none 0 0, .string ⟨#[]⟩] 27 (0, 0)) ∧
          Hid' (X.plain = x.plain ∧ Below V.heap.size V W ∧ V.heap.size ≤ X.b ∧ ∀ W', (∀ k, k < W.heap.size → V.heap.size ≤ k → W'.heap[k]? = W.heap[k]?) → PartsAt W' X qa da qk dk ∧ KidsAt W' X ∧ Built V.heap.size W' X ∧ Typed2 V.heap.size W' qa qk)) (fun e W he => by
        obtain ⟨X, qa, da, qk, dk, h1, h2, h3, h4, h5⟩ := he
        exact ⟨X, qa, da, qk, dk, h1, (h3.block _ (it_lt r2)).trans r2, h2, h3, h4, h5⟩))
      unfold nodeV at HC
      have HF := Lib.hid (And.intro hfin hbx)
      clear r2 hfin hTx hFx hcx hfx hbx hPx c0 c1 c2 c3 c4 c5 HIX hkc hkl
      go_wp2_with (go_at_call 19; refine HC.out.mono ?_; rintro e W ⟨X, qa, da, qk, dk, rfl, cr, HB⟩; have f0 : W.frozen? ⟨w.heap.size + 1, 0, none⟩ = false := frozen_of_row _ _ _ _ _ cr; have f1 : W.frozen? ⟨w.heap.size + 1, 1, none⟩ = false := frozen_of_row _ _ _ _ _ cr; have f2 : W.frozen? ⟨w.heap.size + 1, 2, none⟩ = false := frozen_of_row _ _ _ _ _ cr; have f3 : W.frozen? ⟨w.heap.size + 1, 3, none⟩ = false := frozen_of_row _ _ _ _ _ cr; have f4 : W.frozen? ⟨w.heap.size + 1, 4, none⟩ = false := frozen_of_row _ _ _ _ _ cr; have f5 : W.frozen? ⟨w.heap.size + 1, 5, none⟩ = false := frozen_of_row _ _ _ _ _ cr; have s0 := cell_of_row _ _ 0 _ _ _ cr; have s1 := cell_of_row _ _ 1 _ _ _ cr; have s2 := cell_of_row _ _ 2 _ _ _ cr; have s3 := cell_of_row _ _ 3 _ _ _ cr; have s4 := cell_of_row _ _ 4 _ _ _ cr; have s5 := cell_of_row _ _ 5 _ _ _ cr; have HCR := Lib.hid cr; clear cr)
      clear e0 e1 e2 e3 e4 e5 s0 s1 s2 s3 s4 s5 f0 f1 f2 f3 f4 f5
      obtain ⟨W4, hW4⟩ : ∃ W4, ((((((W.setCell ⟨w.heap.size + 1, 0, none⟩ (.int .i64 X.kind)).setCell ⟨w.heap.size + 1, 1, none⟩ (.string X.uri)).setCell ⟨w.heap.size + 1, 2, none⟩ (.string X.loc)).setCell ⟨w.heap.size + 1, 3, none⟩ (.slice qa X.attrs.length da)).setCell ⟨w.heap.size + 1, 4, none⟩ (.slice qk X.kids.length dk)).setCell ⟨w.heap.size + 1, 5, none⟩ (.string X.text)) = W4 := ⟨_, rfl⟩
      rw [hW4]
      have r4 : W4.heap[w.heap.size + 1]? = some (.cells #[.int .i64 X.kind, .string X.uri, .string X.loc, .slice qa X.attrs.length da, .slice qk X.kids.length dk, .string X.text] 27 (0, 0)) := by
        rw [← hW4]
        exact set_row6 (k := 5) _ (set_row6 (k := 4) _ (set_row6 (k := 3) _ (set_row6 (k := 2) _ (set_row6 (k := 1) _ (set_row6 (k := 0) _ HCR.out)))))
      have o4 : ∀ k, k ≠ w.heap.size + 1 → W4.heap[k]? = W.heap[k]? := fun k hne => by
        rw [← hW4]
        exact ((set_oth6 hne).trans ((set_oth6 hne).trans ((set_oth6 hne).trans ((set_oth6 hne).trans ((set_oth6 hne).trans (set_oth6 hne))))))
      have z4 : W4.heap.size = W.heap.size := by rw [← hW4]; simp [World.setCell]
      obtain ⟨hp, hb0, hXb, hfin2⟩ := HB
      have hwV : w.heap.size + 2 ≤ V.heap.size := by have := HF.out.2.size; have := HW.out.2.1; omega
      have hb : Below w.heap.size w W := (HW.out.2.2.1.trans (HF.out.2.mono (by have := HW.out.2.1; omega))).trans (hb0.mono (by omega))
      have b4 : Below w.heap.size w W4 := by
        rw [← hW4]
        exact (((((hb.setCell (p := ⟨w.heap.size + 1, 0, none⟩) (Nat.le_succ _) _).setCell (p := ⟨w.heap.size + 1, 1, none⟩) (Nat.le_succ _) _).setCell (p := ⟨w.heap.size + 1, 2, none⟩) (Nat.le_succ _) _).setCell (p := ⟨w.heap.size + 1, 3, none⟩) (Nat.le_succ _) _).setCell (p := ⟨w.heap.size + 1, 4, none⟩) (Nat.le_succ _) _).setCell (p := ⟨w.heap.size + 1, 5, none⟩) (Nat.le_succ _) _
      clear hW4
      have t0 := cell_of_row _ _ 0 _ _ _ r4
      have t1 := cell_of_row _ _ 1 _ _ _ r4
      have t2 := cell_of_row _ _ 2 _ _ _ r4
      have t3 := cell_of_row _ _ 3 _ _ _ r4
      have t4 := cell_of_row _ _ 4 _ _ _ r4
      have t5 := cell_of_row _ _ 5 _ _ _ r4
      simp at t0 t1 t2 t3 t4 t5
      refine bodyPost_ret (v := .tuple #[.agg #[.int .i64 X.kind, .string X.uri, .string X.loc, .slice qa X.attrs.length da, .slice qk X.kids.length dk, .string X.text], .int .i64 0]) ?_ rfl ⟨b4, ?_⟩
      · simp [results, Tryz.f21, go_sem, t0, t1, t2, t3, t4, t5]
      · rw [HF.out.1]
        refine ⟨X, qa, da, qk, dk, rfl, hp, fun W' hk => ?_⟩
        obtain ⟨h1, h2, h3, h4⟩ := hfin2 W' (fun k hk1 hk2 => (hk k (by omega) (by omega)).trans (o4 k (by omega)))
        exact ⟨h1, h2, h3.less (by omega), h4.stay (by omega) (fun _ _ _ => rfl)⟩
end Go.Proofs.YtfmlmdfehaajbaaGreatDoor
