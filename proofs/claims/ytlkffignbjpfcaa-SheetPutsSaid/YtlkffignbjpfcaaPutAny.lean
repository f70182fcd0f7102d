/- Proved here: Put of the program on a calm drum: each answer, and the sectors behind it. -/
import Derived.Test.YtlkffignbjpfcaaPutFirst
import Derived.Deep.RegionHeld3
namespace Go.Proofs.Ytlkffignbjpfcaa
open Go.RowKit

theorem dwrite_at {w W : World} {F : Nat → Prop} {G N : Nat} {M : DM} (h : DW w W F G N M) (ht : Tame M) (hoff : M.off = false) (n : Nat) (hn : n < N) (p : Option Addr) (s : ByteArray) (cap : Nat) (hp : HoldsB W p s) (hs : s.size ≤ 64) (hsep : ∀ a, p = some a → ¬ F a.block) :
    Calls Try.prog 23 #[.pointer (some ⟨G, 0, none⟩), .int .i64 (n : Int), .slice p s.size cap] W fun e W' => e = .returned (.int .i64 0) ∧ ∃ F', DW w W' F' G N (M.write n s) ∧ Touch F W W' ∧ ∀ k, F' k → Grow F W W' k :=
  (write_ok W F G N M h.drum ht.steps ht.fuse hoff n hn _ s cap hp hs hsep (by have := ht.loose; omega)).mono fun _ _ ⟨h1, F', h2, h3, h4⟩ => ⟨h1, F', h.next h2 h3 h4, h3, h4⟩
theorem piece_get {l : List UInt8} {k j : Nat} (hk : 64 * k + 64 ≤ l.length) (hj : j < 64) : (pieceB l k).get! j = (ofL l).get! (64 * k + j) := by
  have h1 := get!_of (pieceB l k) j (by rw [pieceB_size hk]; exact hj)
  have h2 := get!_of (ofL l) (64 * k + j) (by rw [ofL_size]; omega)
  have e1 : (pieceB l k).data.toList = (l.drop (64 * k)).take 64 := bl_ofL _
  have e2 : (ofL l).data.toList = l := bl_ofL _
  rw [e1, List.getElem?_take, if_pos hj, List.getElem?_drop] at h1
  rw [e2] at h2
  rw [h1] at h2
  injection h2
theorem piece_holds {W : World} {g : Nat} {l : List UInt8} (h : HoldsB W (some ⟨g, 0, none⟩) (ofL l)) (k : Nat) (hk : 64 * k + 64 ≤ l.length) : HoldsB W (some ⟨g, k * 64, none⟩) (pieceB l k) := fun _ => by
  obtain ⟨b, off, e, hc⟩ := h (by rw [ofL_size]; omega)
  injection e with e
  injection e with e1 e2
  subst e1 e2
  refine ⟨g, k * 64, rfl, fun j hj => ?_⟩
  rw [pieceB_size hk] at hj
  have := hc (64 * k + j) (by rw [ofL_size]; omega)
  rw [piece_get hk hj, ← this]
  congr 2
  omega
/-- The drum's own blocks grew, all else stands. -/
structure Went (F F' : Nat → Prop) (W W' : World) : Prop where
  touch : Touch F W W'
  grow : ∀ k, F' k → Grow F W W' k
theorem Went.refl (F : Nat → Prop) (W : World) : Went F F W W := ⟨Touch.refl _ _, fun _ hk => .inl hk⟩
theorem Went.of_below {F : Nat → Prop} {W W' : World} (hb : Below W.heap.size W W') : Went F F W W' := ⟨Touch.of_below hb, fun _ hk => .inl hk⟩
theorem Went.trans {F F' F'' : Nat → Prop} {a b c : World} (h : Went F F' a b) (k : Went F' F'' b c) : Went F F'' a c :=
  ⟨h.touch.trans k.touch h.grow, fun j hj => by
    rcases k.grow j hj with h1 | h1
    · rcases h.grow j h1 with h2 | h2
      · exact .inl h2
      · exact .inr ⟨h2.1, Nat.lt_of_lt_of_le h2.2 k.touch.size⟩
    · exact .inr ⟨Nat.le_trans h.touch.size h1.1, h1.2⟩⟩
theorem Went.out {F F' : Nat → Prop} {W W' : World} (h : Went F F' W W') {A : Nat} (hA : ¬ F A) (hlt : A < W.heap.size) : ¬ F' A ∧ A < W'.heap.size ∧ W'.heap[A]? = W.heap[A]? :=
  ⟨fun hf => by
    rcases h.grow A hf with h1 | h1
    · exact hA h1
    · omega, Nat.lt_of_lt_of_le hlt h.touch.size, h.touch.block A hlt hA⟩
def PutRel (w W : World) (F : Nat → Prop) (G N f : Nat) (M : DM) (l : List UInt8) (g : Nat) (x : Value) (wr : World) : Prop :=
  ∃ k : Nat, x = .int .i64 (k : Int) ∧ k ≤ 8 ∧ Hid (∃ F', DW w wr F' G N (putM M f l k) ∧ Went F F' W wr ∧ HoldsB wr (some ⟨g, 0, none⟩) (ofL l) ∧ ¬ F' g ∧ g < wr.heap.size)
set_option maxRecDepth 100000 in
set_option maxHeartbeats 8000000 in
theorem put_ok {w W : World} {F : Nat → Prop} {G N bs pg : Nat} {ok : Bool} {M : DM} (h : DW w W F G N M) (hl : Lies N bs pg ok) (hc : Calm M) (h1 : M.steps + 8 ≤ 1000000) (h2 : M.loose.length + 8 ≤ 1000000) (n st : Nat) (hn : n < pg) (hst : st < 18446744073709551616)
    (p : Option Addr) (s : ByteArray) (m c : Nat) (hm : s.size = m) (hs : m ≤ 496) (hp : HoldsB W p s) (hnil : p = none → c = 0) :
    Calls Try.prog 12 #[.pointer (some ⟨G, 0, none⟩), .int .i64 (n : Int), .int .u64 (st : Int), .slice p m c] W fun e W' => e = .returned (.int .i64 0) ∧ ∃ F', DW w W' F' G N (putM M (bs + 8 * n) (pageL n st (bl s)) 8) ∧ Went F F' W W' := by
  obtain ⟨hok, hb2, hfit⟩ := hl.fits hn
  have FO := Lib.hid (first_ok h.drum hl n hn)
  have HH := Lib.hid (And.intro h (And.intro hc (And.intro h1 (And.intro h2 (And.intro hm (And.intro hp hnil))))))
  have hLL : (pageL n st (bl s)).length = 512 := pageL_length (by rw [bl_length, hm]; exact hs)
  have LY := Lib.hid (fun (W' : World) (hb : Below W.heap.size W W') => lay_ok n st p s m c W' (by have := hl.top; omega) hst hm hs (hp.below hb) hnil)
  have hf4 : bs + 8 * n + 8 ≤ 400 := by have := hl.top; omega
  have HFI := Lib.hid hfit
  generalize hf : bs + 8 * n = f at *
  generalize pageL n st (bl s) = l at *
  have HLL := Lib.hid hLL
  clear h hl hc h1 h2 hm hp hnil hLL hok hb2 hfit hf hs hn hst
  go_enter Try.func12, Try.ntmps12
  go_wp2_with (fail)
  refine FO.out.mono ?_
  rintro e W1 ⟨rfl, hb1⟩
  have HB1 := Lib.hid hb1
  clear hb1 FO
  go_wp2_with (fail)
  refine (LY.out _ HB1.out).mono ?_
  rintro e W2 ⟨r, rfl, g, cg, rfl, ho, hb2⟩
  have hg0 := ho.2.1
  have hg1 := ho.2.2.1
  have hcg := ho.2.2.2
  rw [ofL_size, HLL.out] at hcg
  rw [HLL.out]
  have hlt := HH.out.1.drum.lt
  have b12 := cat_b HB1.out hb2
  have sz := HB1.out.size
  have H2 := Lib.hid (show DW w W2 F G N M ∧ Went F F W W2 ∧ HoldsB W2 (some ⟨g, 0, none⟩) (ofL l) ∧ ¬ F g ∧ g < W2.heap.size from ⟨HH.out.1.on b12, Went.of_below b12, ho.holds, fun hf => by have := hlt g hf; omega, hg1⟩)
  clear ho hb2 hg0 hg1 hlt b12 sz LY HB1
  go_wp2_with (fail)
  go_loopw [33] (fun x wr => PutRel w W F G N f M l g x wr) (fun x _ => 8 - (intOf x).toNat)
  case atStart => exact ⟨0, rfl, Nat.zero_le _, Lib.hid ⟨F, H2.out⟩⟩
  case round =>
    clear H2
    obtain ⟨k, rfl, hk, HR⟩ := hrel
    obtain ⟨F', d, hw, hB, hgF, hgl⟩ := HR.out
    by_cases hlt : k < 8
    · have hlt' : (k : Int) < 8 := by omega
      obtain ⟨ck, _, _⟩ := putM_calm HH.out.2.1 f l HH.out.2.2.1 HH.out.2.2.2.1 k (by omega)
      have hps : (pieceB l k).size = 64 := pieceB_size (by rw [HLL.out]; omega)
      have WR := dwrite_at d ck.tame ck.off (f + k) (by have := HFI.out; omega) (some ⟨g, k * 64, none⟩) (pieceB l k) (cg - k * 64) (piece_holds hB k (by rw [HLL.out]; omega)) (by omega) (fun a e => by injection e with e; rw [← e]; exact hgF)
      rw [hps] at WR
      have HWR := Lib.hid WR
      have HS := Lib.hid (And.intro hw (And.intro hB (And.intro hgF hgl)))
      have efk : ((f + k : Nat) : Int) = (f : Int) + (k : Int) := by omega
      have HEF := Lib.hid efk
      rw [efk] at WR
      have HWR := Lib.hid WR
      have hfb : (f : Int) ≤ 400 := by omega
      have hcc : (512 : Int) ≤ (cg : Int) := by omega
      have hne : ¬ cg = k * 64 := by omega
      clear WR ck hps d hw hB hgF hgl HR efk
      go_wp2_with (fail)
      rw [show (k + 1) * 64 - k * 64 = 64 by omega]
      refine HWR.out.mono ?_
      rintro e W4 ⟨rfl, F4, d4, t4, g4⟩
      have hw4 : Went F' F4 wr W4 := ⟨t4, g4⟩
      obtain ⟨q1, q2, q3⟩ := hw4.out HS.out.2.2.1 HS.out.2.2.2
      have hB4 : HoldsB W4 (some ⟨g, 0, none⟩) (ofL l) := HS.out.2.1.touch t4 (fun a e => by injection e with e; rw [← e]; exact HS.out.2.2.1)
      have HN := Lib.hid (show DW w W4 F4 G N (putM M f l (k + 1)) ∧ Went F F4 W W4 ∧ HoldsB W4 (some ⟨g, 0, none⟩) (ofL l) ∧ ¬ F4 g ∧ g < W4.heap.size from ⟨d4, HS.out.1.trans hw4, hB4, q1, q2⟩)
      clear d4 t4 g4 hw4 q1 q2 q3 hB4 HWR HS
      go_wp2_with (fail)
      go_round
      case rel => exact ⟨k + 1, by go_num, by omega, Lib.hid ⟨F4, HN.out⟩⟩
      case measure => simp [intOf]; omega
    · obtain rfl : k = 8 := by omega
      go_wp2_with (fail)
      go_ret
      exact ⟨rfl, F', d, hw⟩
set_option maxRecDepth 100000 in
set_option maxHeartbeats 4000000 in
theorem put_no {W : World} {F : Nat → Prop} {G N bs pg : Nat} {ok : Bool} {M : DM} (h : Drum W F G N M) (hl : Lies N bs pg ok) (n st : Int) (hn : n < 0 ∨ (pg : Int) ≤ n) (p : Option Addr) (m c : Nat) :
    Calls Try.prog 12 #[.pointer (some ⟨G, 0, none⟩), .int .i64 n, .int .u64 st, .slice p m c] W fun e W' => e = .returned (.int .i64 1) ∧ Below W.heap.size W W' := by
  have FO := Lib.hid (first_no h hl n hn)
  clear h hl hn
  go_enter Try.func12, Try.ntmps12
  go_wp2_with (fail)
  refine FO.out.mono ?_
  rintro e W1 ⟨rfl, hb1⟩
  have HB1 := Lib.hid hb1
  clear hb1 FO
  go_wp2_with (fail)
  go_ret
  exact ⟨rfl, HB1.out⟩
set_option maxRecDepth 100000 in
set_option maxHeartbeats 4000000 in
theorem put_long {W : World} {F : Nat → Prop} {G N bs pg : Nat} {ok : Bool} {M : DM} (h : Drum W F G N M) (hl : Lies N bs pg ok) (n : Nat) (st : Int) (hn : n < pg) (p : Option Addr) (m c : Nat) (hm : 496 < m) :
    Calls Try.prog 12 #[.pointer (some ⟨G, 0, none⟩), .int .i64 (n : Int), .int .u64 st, .slice p m c] W fun e W' => e = .returned (.int .i64 6) ∧ Below W.heap.size W W' := by
  have FO := Lib.hid (first_ok h hl n hn)
  have LY := Lib.hid (fun W' => lay_long n (by have := (hl.fits hn).2.2; have := hl.top; omega) st p m c hm W')
  generalize bs + 8 * n = f at *
  clear h hl hn hm
  go_enter Try.func12, Try.ntmps12
  go_wp2_with (fail)
  refine FO.out.mono ?_
  rintro e W1 ⟨rfl, hb1⟩
  have HB1 := Lib.hid hb1
  clear hb1 FO
  go_wp2_with (fail)
  refine (LY.out _).mono ?_
  rintro e W2 ⟨rfl, rfl⟩
  go_wp2_with (fail)
  go_ret
  exact ⟨rfl, HB1.out⟩
/-- What Put answers. -/
def putE (pg : Nat) (n : Int) (m : Nat) : Nat := if n < 0 ∨ (pg : Int) ≤ n then 1 else if 496 < m then 6 else 0
def putL (L : List UInt8) (bs pg : Nat) (n : Int) (st : Nat) (s : ByteArray) : List UInt8 := if putE pg n s.size = 0 then spliceL L (64 * (bs + 8 * n.toNat)) (pageL n.toNat st (bl s)) else L
/-- The drum at some point of the law: calm, few steps, and its sectors as one row. -/
structure Seen (w W : World) (F : Nat → Prop) (G N b : Nat) (L : List UInt8) (M : DM) : Prop where
  d : DW w W F G N M
  calm : Calm M
  steps : M.steps ≤ b
  loose : M.loose.length ≤ b
  row : nowL M = L
theorem Seen.on {w W W' : World} {F : Nat → Prop} {G N b c : Nat} {L : List UInt8} {M : DM} (h : Seen w W F G N b L M) (hb : Below W.heap.size W W') (hc : b ≤ c) : Seen w W' F G N c L M := ⟨h.d.on hb, h.calm, Nat.le_trans h.steps hc, Nat.le_trans h.loose hc, h.row⟩
theorem put_any {w W : World} {F : Nat → Prop} {G N bs pg b : Nat} {ok : Bool} {L : List UInt8} {M : DM} (h : Seen w W F G N b L M) (hl : Lies N bs pg ok) (hb : b ≤ 900000) (n : Int) (st : Nat) (hst : st < 18446744073709551616)
    (p : Option Addr) (s : ByteArray) (m c : Nat) (hm : s.size = m) (hp : HoldsB W p s) (hnil : p = none → c = 0) :
    Calls Try.prog 12 #[.pointer (some ⟨G, 0, none⟩), .int .i64 n, .int .u64 (st : Int), .slice p m c] W fun e W' => e = .returned (.int .i64 (putE pg n m : Int)) ∧ ∃ F' M', Seen w W' F' G N (b + 8) (putL L bs pg n st s) M' ∧ Went F F' W W' := by
  subst hm
  unfold putL putE
  by_cases h1 : n < 0 ∨ (pg : Int) ≤ n
  · rw [if_pos h1, if_neg (by decide)]
    exact (put_no h.d.drum hl n st h1 p s.size c).mono fun e W' ⟨e1, e2⟩ => ⟨e1, F, M, h.on e2 (by omega), Went.of_below e2⟩
  · rw [if_neg h1]
    obtain ⟨k, rfl⟩ : ∃ k : Nat, n = (k : Int) := ⟨n.toNat, by omega⟩
    have hk : k < pg := by omega
    by_cases h2 : 496 < s.size
    · rw [if_pos h2, if_neg (by decide)]
      exact (put_long h.d.drum hl k st hk p s.size c h2).mono fun e W' ⟨e1, e2⟩ => ⟨e1, F, M, h.on e2 (by omega), Went.of_below e2⟩
    · rw [if_neg h2, if_pos rfl, Int.toNat_natCast]
      have hz1 := h.steps
      have hz2 := h.loose
      obtain ⟨_, _, hfit⟩ := hl.fits hk
      refine (put_ok h.d hl h.calm (by omega) (by omega) k st hk hst p s s.size c rfl (by omega) hp hnil).mono fun e W' ⟨e1, F', e2, e3⟩ => ⟨e1, F', _, ⟨e2, ?_, ?_, ?_, ?_⟩, e3⟩
      · exact (putM_calm h.calm _ _ (by omega) (by omega) 8 (Nat.le_refl _)).1
      · rw [(putM_calm h.calm _ _ (by omega) (by omega) 8 (Nat.le_refl _)).2.1]; omega
      · rw [(putM_calm h.calm _ _ (by omega) (by omega) 8 (Nat.le_refl _)).2.2]; omega
      · rw [(putM_whole h.calm (by omega) (by omega) h.d.drum.ok (pageL_length (by rw [bl_length]; omega)) (by omega)).2, h.row]
end Go.Proofs.Ytlkffignbjpfcaa
