/- Proved here: the states of SheetPuts' walk: the drum, the long row that is wanted, and the newest head seen. -/
import Derived.Test.YtlkffignbjpfcaaHeadPut
import Derived.Test.YtlkffignbjpfcaaRefDraft
import Derived.Test.YtlkffignbjpfcaaRefHeadAny
import Derived.Test.YtlkffignbjpfcaaOps15
import Derived.Laws.CopyOwn
namespace Go.Proofs.Ytlkffignbjpfcaa
open Go.RowKit

open Go.RowKit in
theorem wpList_copy_touch {P : Program} {w : World} {ops : Array Oper} {rest : List Oper} {o : Oper} {a : Act} {Q : Exit → Act → World → Prop} (hgd : o.guard = none) (d s : Operand) (dT sT : TypeId)
    (ho : o.op = .call { callee := .builtin .copy, args := #[d, s], argTypes := #[dT, sT] }) (elem : TypeId) (hu : P.underlying dT = some (.slice elem)) (hsz : (P.info? elem).map (·.size) = some 1)
    (ad : Addr) (dLen dCap sLen sCap : Nat) (g off : Nat) (hd : a.eval d = .slice (some ⟨g, off, none⟩) dLen dCap) (hs : a.eval s = .slice (some ad) sLen sCap)
    (cur : List Value) (t : TypeId) (hg : w.heap[g]? = some (.cells cur.toArray t (0, 0))) (cs : List Value) (hn : cs.length = Nat.min sLen dLen)
    (hsrc : ∀ j v, cs[j]? = some v → w.cell? (ad.add j) = some v) (hfit : off + cs.length ≤ cur.length) (h1 : ∀ v ∈ cs, v.oneCell' = true)
    (h : ∀ w', Hid (w'.heap[g]? = some (.cells (splice cur off cs).toArray t (0, 0)) ∧ Touch (Only g) w w') → wpList P ops Q rest (a.put o.dst (goInt cs.length)) w') :
    wpList P ops Q (o :: rest) a w := by
  refine wpList_copy_own hgd d s dT sT ho elem hu hsz g off dLen dCap ad sLen sCap hd hs cur.toArray t hg cs hn hsrc (by simpa using hfit) h1 ?_
  refine h _ (Lib.hid ⟨show _ = _ by simpa [splice] using setRow_heap w g _ _ t _ hg, ⟨rfl, rfl, rfl, by simp [World.setRow], fun k _ hne => setRow_other w g k _ (fun e => hne e)⟩⟩)
theorem splice_bytes (L l : List UInt8) (o : Nat) : splice (bytesV (ofL L)) o (bytesV (ofL l)) = bytesV (ofL (spliceL L o l)) := by
  unfold splice spliceL
  rw [bytesV_ofL, bytesV_ofL, bytesV_ofL]
  simp [List.map_append, List.map_take, List.map_drop]
structure PSt (w W : World) (F : Nat → Prop) (G N b : Nat) (Lm Lw : List UInt8) (M : DM) (A R lg ls : Nat) : Prop where
  s : Seen w W F G N b Lm M
  a : W.heap[A]? = some (.cells (bytesV (ofL Lw)).toArray 5 (0, 0))
  r : W.heap[R]? = some (.cells #[.int .i64 (lg : Int), .int .u64 (ls : Int)] 49 (0, 0))
  fa : ¬ F A
  fr : ¬ F R
  wa : w.heap.size ≤ A
  wr : w.heap.size ≤ R
  ne : A ≠ R
  len : Lw.length = 64 * N
theorem PSt.went {w W W' : World} {F F' : Nat → Prop} {G N b b' : Nat} {Lm Lm' Lw : List UInt8} {M M' : DM} {A R lg ls : Nat} (h : PSt w W F G N b Lm Lw M A R lg ls) (s' : Seen w W' F' G N b' Lm' M') (t : Went F F' W W') : PSt w W' F' G N b' Lm' Lw M' A R lg ls := by
  obtain ⟨a1, a2, a3⟩ := t.out h.fa (block_lt h.a)
  obtain ⟨r1, r2, r3⟩ := t.out h.fr (block_lt h.r)
  exact ⟨s', a3.trans h.a, r3.trans h.r, a1, r1, h.wa, h.wr, h.ne, h.len⟩
theorem PSt.on {w W W' : World} {F : Nat → Prop} {G N b b' : Nat} {Lm Lw : List UInt8} {M : DM} {A R lg ls : Nat} (h : PSt w W F G N b Lm Lw M A R lg ls) (hb : Below W.heap.size W W') (hc : b ≤ b') : PSt w W' F G N b' Lm Lw M A R lg ls :=
  h.went (h.s.on hb hc) (Went.of_below hb)
theorem PSt.mono {w W : World} {F : Nat → Prop} {G N b b' : Nat} {Lm Lw : List UInt8} {M : DM} {A R lg ls : Nat} (h : PSt w W F G N b Lm Lw M A R lg ls) (hc : b ≤ b') : PSt w W F G N b' Lm Lw M A R lg ls := h.on (Below.refl _ _) hc
theorem Seen.out {w W W' : World} {F : Nat → Prop} {G N b k : Nat} {L : List UInt8} {M : DM} (h : Seen w W F G N b L M) (t : Touch (Only k) W W') (hF : ¬ F k) (hw : w.heap.size ≤ k) : Seen w W' F G N b L M :=
  ⟨⟨h.d.drum.kept (fun j hj => t.block j (h.d.drum.lt j hj) (fun e => hF (by have e' : j = k := e; rw [← e']; exact hj))) t.size, h.d.below.trans (t.below (fun j e => by have e' : j = k := e; omega) h.d.below.size), h.d.since⟩, h.calm, h.steps, h.loose, h.row⟩
theorem PSt.copied {w W W' : World} {F : Nat → Prop} {G N b : Nat} {Lm Lw L' : List UInt8} {M : DM} {A R lg ls : Nat} (h : PSt w W F G N b Lm Lw M A R lg ls) (ha : W'.heap[A]? = some (.cells (bytesV (ofL L')).toArray 5 (0, 0))) (t : Touch (Only A) W W') (hl : L'.length = 64 * N) : PSt w W' F G N b Lm L' M A R lg ls :=
  ⟨h.s.out t h.fa h.wa, ha, (t.block R (block_lt h.r) (fun e => h.ne (by have e' : R = A := e; exact e'.symm))).trans h.r, h.fa, h.fr, h.wa, h.wr, h.ne, hl⟩
theorem PSt.headed {w W W' : World} {F : Nat → Prop} {G N b : Nat} {Lm Lw : List UInt8} {M : DM} {A R lg ls lg' ls' : Nat} (h : PSt w W F G N b Lm Lw M A R lg ls) (hr : W'.heap[R]? = some (.cells #[.int .i64 (lg' : Int), .int .u64 (ls' : Int)] 49 (0, 0))) (t : Touch (Only R) W W') : PSt w W' F G N b Lm Lw M A R lg' ls' :=
  ⟨h.s.out t h.fr h.wr, (t.block A (block_lt h.a) (fun e => h.ne e)).trans h.a, hr, h.fa, h.fr, h.wa, h.wr, h.ne, h.len⟩
/-- A piece of the long row, as a slice of it. -/
theorem PSt.piece {w W : World} {F : Nat → Prop} {G N b : Nat} {Lm Lw : List UInt8} {M : DM} {A R lg ls : Nat} (h : PSt w W F G N b Lm Lw M A R lg ls) (o n : Nat) (hn : o + n ≤ 64 * N) : HoldsB W (some ⟨A, o, none⟩) (ofL ((Lw.drop o).take n)) := fun _ => by
  refine ⟨A, o, rfl, fun j hj => ?_⟩
  rw [ofL_size, List.length_take, List.length_drop, h.len] at hj
  have e1 : (ofL ((Lw.drop o).take n)).get! j = (ofL Lw).get! (o + j) := by
    have h1 := get!_of (ofL ((Lw.drop o).take n)) j (by rw [ofL_size, List.length_take, List.length_drop, h.len]; exact hj)
    have h2 := get!_of (ofL Lw) (o + j) (by rw [ofL_size, h.len]; omega)
    have q1 : (ofL ((Lw.drop o).take n)).data.toList = (Lw.drop o).take n := bl_ofL _
    have q2 : (ofL Lw).data.toList = Lw := bl_ofL _
    rw [q1, List.getElem?_take, if_pos (by omega), List.getElem?_drop] at h1
    rw [q2] at h2
    rw [h1] at h2
    injection h2
  rw [e1, cell_of_row _ _ _ _ _ _ h.a, List.getElem?_toArray, bytesV_get _ _ (by rw [ofL_size, h.len]; omega)]
theorem piece_size {N : Nat} {Lw : List UInt8} (h : Lw.length = 64 * N) (o n : Nat) (hn : o + n ≤ 64 * N) : (ofL ((Lw.drop o).take n)).size = n := by
  rw [ofL_size, List.length_take, List.length_drop, h]
  omega
theorem putL_length {L : List UInt8} {N bs pg : Nat} {ok : Bool} (hl : Lies N bs pg ok) (h : L.length = 64 * N) (n : Int) (st : Nat) (s : ByteArray) : (putL L bs pg n st s).length = 64 * N := by
  unfold putL putE
  by_cases h1 : n < 0 ∨ (pg : Int) ≤ n
  · rw [if_pos h1, if_neg (by decide)]; exact h
  · rw [if_neg h1]
    by_cases h2 : 496 < s.size
    · rw [if_pos h2, if_neg (by decide)]; exact h
    · rw [if_neg h2, if_pos rfl]
      have hk : n.toNat < pg := by omega
      obtain ⟨_, _, hf⟩ := hl.fits hk
      rw [spliceL_length (by rw [pageL_length (by rw [bl_length]; omega), h]; omega), h]
theorem rdraft_any {N bs pg : Nat} {ok : Bool} (hl : Lies N bs pg ok) (w : World) :
    Calls Try.prog 13 #[.int .i64 (N : Int)] w fun e w' => (∃ lg : Int, e = .returned (.tuple #[.int .i64 lg, .int .i64 (bs : Int), .int .i64 (pg : Int), .bool ok])) ∧ w = w' := by
  cases ok with
  | true =>
    obtain ⟨h1, h2, h3⟩ := hl.yes rfl
    refine (rdraft_ok N h1 (by have := hl.top; omega) w).mono fun e w' ⟨e1, e2⟩ => ⟨⟨((N / 4 : Nat) : Int), by rw [h3, h2]; exact e1⟩, e2⟩
  | false =>
    obtain ⟨h1, h2, h3⟩ := hl.no rfl
    refine (rdraft_arg (N : Int) (.inl (by omega)) w).mono fun e w' ⟨e1, e2⟩ => ⟨⟨0, by rw [h3, h2]; exact e1⟩, e2⟩
theorem make_row (w : World) (n : Nat) (hn : n ≤ 1048576) : (Instr.makeSlice 33 (.int .i64 (n : Int)) (.int .i64 (n : Int))).run Try.prog w = .ok (.slice (some ⟨w.heap.size, 0, none⟩) n n) (w.alloc (.cells (bytesV (ofL (zL n))).toArray 5)) := by
  obtain ⟨i0, hi, hz0, hz1, hz2⟩ := info_parts infoByte
  have hr := run_make (P := Try.prog) w 33 5 i0 (.int .u8 0) Try.underlying33 hi hz0 .i64 .i64 (n : Int) (n : Int) (by omega) (Int.le_refl _) (by rw [hz2]; omega) (by omega)
  rw [hz1, Int.toNat_natCast] at hr
  have e : madeCells (Value.int .u8 0).cells (n * 1) = (bytesV (ofL (zL n))).toArray := by
    apply Array.toList_inj.1
    rw [Nat.mul_one, bytesV_ofL]
    exact (toList_madeCells_one _ _).trans (by simp [zL])
  rw [e] at hr
  exact hr
theorem nowL_new (N : Nat) : nowL (newM N) = zL (64 * N) := by
  have e : (newM N).now = List.replicate N (zeroB 64) := rfl
  unfold nowL
  rw [e]
  induction N with
  | zero => rfl
  | succ n ih =>
    rw [List.replicate_succ, List.flatMap_cons, bl_zero]
    have ih' := ih rfl
    rw [ih']
    unfold zL
    rw [List.replicate_append_replicate]
    congr 1
    omega
theorem calm_new (N : Nat) : Calm (newM N) := ⟨rfl, rfl, Nat.zero_le _, Nat.zero_le _⟩
end Go.Proofs.Ytlkffignbjpfcaa
