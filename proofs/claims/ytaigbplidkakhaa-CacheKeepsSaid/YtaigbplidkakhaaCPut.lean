/- Proved here: Put of a cache: a key that is there, a key with room, a key for which the first goes that may, and where none may go. -/
import Derived.Test.YtaigbplidkakhaaCSet
import Derived.Deep.RegionWith
import Derived.Deep.Cut
namespace Go.Proofs.Ytaigbplidkakhaa
open Go.RowKit Go.ChangeMaps

def sVD (B : Nat → EntV) (a : Nat) (v : Value) (d : Bool) (x : Nat) : EntV := if x = a then ⟨(B a).k, v, d, (B a).p⟩ else B x
theorem CAt.setVD {P : Program} {E T K : TypeId} {W : World} {C r m nb : Nat} {places : Int} {L : List Nat} {B : Nat → EntV} {nx pv : Nat → Nat} {f : Lit → Option Nat} (h : CAt P E T K W C r m places nb L B nx pv f) {a : Nat} (ha : a ∈ L) (v : Value) (d : Bool) :
    CAt P E T K ((W.setCell ⟨a, 1, none⟩ v).setCell ⟨a, 2, none⟩ (.bool d)) C r m places nb L (sVD B a v d) nx pv f := by
  have hCa : C ≠ a := fun e => h.cr (by rw [e]; exact List.mem_cons_of_mem _ ha)
  have hma : m ≠ a := fun e => h.mr (by rw [e]; exact List.mem_cons_of_mem _ ha)
  have hk : ∀ x, (sVD B a v d x).k = (B x).k := fun x => by
    unfold Go.Proofs.Ytaigbplidkakhaa.sVD
    by_cases e : x = a
    · rw [if_pos e, e]
    · rw [if_neg e]
  refine ⟨(set_oth hCa).trans ((set_oth hCa).trans h.blk), h.ring, fun x hx => ?_, h.map.keep ((set_oth hma).trans (set_oth hma)), fun x hx => ?_, fun kl x hf => ?_, h.cr, h.mr, h.cm⟩
  · by_cases e : x = a
    · subst e
      rw [row_put _ (row_put _ (h.nodes x hx))]
      unfold Go.Proofs.Ytaigbplidkakhaa.sVD
      rw [if_pos rfl]
      rfl
    · rw [set_oth e, set_oth e, h.nodes x hx]
      unfold Go.Proofs.Ytaigbplidkakhaa.sVD
      rw [if_neg e]
  · rw [hk]; exact h.keyed x hx
  · rw [hk]; exact h.only kl x hf
theorem setVD_same (B : Nat → EntV) (a : Nat) (v : Value) (d : Bool) : sVD B a v d a = ⟨(B a).k, v, d, (B a).p⟩ := if_pos rfl
theorem setVD_map {B : Nat → EntV} {a : Nat} {v : Value} {d : Bool} {P : List Nat} (h : a ∉ P) : P.map (sVD B a v d) = P.map B := List.map_congr_left (fun x hx => if_neg (fun e => h (by rw [← e]; exact hx)))
theorem Tch.setVD {F : Nat → Prop} {a b : World} (h : Tch F a b) {x : Nat} (hx : F x) (v w : Value) : Tch F a ((b.setCell ⟨x, 1, none⟩ v).setCell ⟨x, 2, none⟩ w) := (h.set (p := ⟨x, 1, none⟩) hx v).set (p := ⟨x, 2, none⟩) hx w
theorem first_split {g : Nat → Bool} : ∀ {P P' Q Q' : List Nat} {a a' : Nat}, P ++ a :: Q = P' ++ a' :: Q' → (∀ y ∈ P, g y = false) → g a = true → (∀ y ∈ P', g y = false) → g a' = true → P = P' ∧ a = a' ∧ Q = Q'
  | [], [], Q, Q', a, a', h, _, _, _, _ => by
    simp at h
    exact ⟨rfl, h.1, h.2⟩
  | [], b :: P', Q, Q', a, a', h, _, h2, h3, _ => by
    simp at h
    have := h3 b (by simp)
    rw [← h.1, h2] at this
    cases this
  | b :: P, [], Q, Q', a, a', h, h1, _, _, h4 => by
    simp at h
    have := h1 b (by simp)
    rw [h.1, h4] at this
    cases this
  | b :: P, b' :: P', Q, Q', a, a', h, h1, h2, h3, h4 => by
    simp at h
    obtain ⟨e1, e2, e3⟩ := first_split h.2 (fun y hy => h1 y (by simp [hy])) h2 (fun y hy => h3 y (by simp [hy])) h4
    exact ⟨by rw [h.1, e1], e2, e3⟩
theorem map_snoc {α β : Type} (g : α → β) (l : List α) (a : α) : (l ++ [a]).map g = l.map g ++ [g a] := by simp
theorem len_lt {n b : Nat} {p q : Int} (hq : q = (b : Int)) (h : (n : Int) < p) (hp : p ≤ q) : n + 1 ≤ b := by omega
theorem Tch.join {F G : Nat → Prop} {a b c : World} (h : Tch F a b) (k : Tch G b c) (hG : ∀ j, j < a.heap.size → G j → F j) : Tch F a c :=
  ⟨k.os.trans h.os, k.tape.trans h.tape, k.output.trans h.output, Nat.le_trans h.size k.size, fun i hi hn => (k.block i (Nat.lt_of_lt_of_le hi h.size) (fun g => hn (hG i hi g))).trans (h.block i hi hn)⟩

/-! KEYS: string -/
theorem putThereS {M : Nat → Prop} {W : World} {C nb : Nat} {places : Int} {p q : List EntS} {e : EntS} (h : CSS M W C places nb (p ++ e :: q)) (k : ByteArray) {kl : Lit} (hk : keyOf Try.prog 9 (.string k) = some kl) (hek : e.k = k) (v : Int) (d : Bool) :
    Calls Try.prog 31 #[PV C, .string k, .int .i64 v, .bool d] W fun x W' => x = .returned (.int .i64 0) ∧ CSS M W' C places nb (p ++ q ++ [⟨k, v, e.d || d, e.p⟩]) ∧ Step M M W W' := by
  obtain ⟨r, m, L, B, nx, pv, f, h1, h2, h3, h4⟩ := h
  obtain ⟨P, a, Q, hL, e1, e2, e3⟩ := map_split h2
  have haL : a ∈ L := by rw [hL]; simp
  have FI := find_anyS h1 k hk
  rw [look_someS h1 haL e2 hk hek] at FI
  have HF := Lib.hid FI
  obtain ⟨ed, hed⟩ : ∃ ed, e.d = ed := ⟨_, rfl⟩
  have HH := Lib.hid (And.intro h1 (And.intro hL (And.intro e1 (And.intro e2 (And.intro e3 (And.intro h3 (And.intro h4 (And.intro haL (And.intro hek hed)))))))))
  clear h1 h2 h3 h4 hk hek FI hL e1 e2 e3 haL hed
  go_enter Try.func31, Try.ntmps31
  go_wp2_with (fail)
  refine HF.out.mono ?_
  rintro x W1 ⟨rfl, hb⟩
  have hS := HH.out.1.below hb
  have hU := use_anyS (hS.setVD HH.out.2.2.2.2.2.2.2.1 (.int .i64 v) (ed || d)) HH.out.2.1
  obtain ⟨_, c1, c2, _, _, _, fz⟩ := hS.nodes.cells (a := a) (List.mem_cons_of_mem _ HH.out.2.2.2.2.2.2.2.1)
  rw [HH.out.2.2.2.1] at c1 c2
  simp only [EntS.enc, HH.out.2.2.2.2.2.2.2.2.2] at c1 c2
  have HB := Lib.hid hb
  clear hb hS HF
  simp only [slotV]
  have HU := Lib.hid hU
  clear hU
  have HX := Lib.hid HH
  clear HH
  cases ed <;>
  · go_wp2_with (fail)
    refine HU.out.mono ?_
    rintro x W2 ⟨rfl, ⟨nx', pv', hS2⟩, t2, z2⟩
    have H2 := Lib.hid (And.intro hS2 t2)
    clear hS2 t2 z2 HU c1 c2
    go_wp2_with (fail)
    go_ret
    obtain ⟨h1, hL, e1, e2, e3, h3, h4, haL, hek, hed⟩ := HX.out.out
    have hnL : L.Nodup := (List.nodup_cons.1 h1.ring.nodup).2
    rw [hL, List.nodup_append, List.nodup_cons] at hnL
    have haP : a ∉ P := fun hm => hnL.2.2 a hm a List.mem_cons_self rfl
    have haQ : a ∉ Q := hnL.2.1.1
    refine ⟨rfl, ⟨r, m, _, _, nx', pv', f, H2.out.1, ?_, fun k hk => h3 k (Mine.of_mem (fun x hx => ?_) k hk), by simpa using h4⟩, ((Tch.of_below HB.out).setVD (h3 a (.inr (.inr (List.mem_cons_of_mem _ haL)))) _ _).trans (H2.out.2.mono h3), fun k hk => .inl hk⟩
    · rw [List.map_append, List.map_append, setVD_map haP, setVD_map haQ, List.map_singleton, setVD_same, e2, e1, e3, hed]
      subst hek
      simp [EntS.enc]
    · rw [hL]
      simp at hx ⊢
      rcases hx with h | h | h <;> simp [h]
def EntS.goes (e : EntS) : Bool := !e.d && decide (e.p = 0)
theorem goes_allS {P : List Nat} {B : Nat → EntV} {p : List EntS} (h : P.map B = p.map EntS.enc) (hp : ∀ y ∈ p, y.goes = false) : ∀ y ∈ P, Goes (B y) = false := fun y hy => by
  have hm : B y ∈ p.map EntS.enc := by rw [← h]; exact List.mem_map_of_mem hy
  obtain ⟨e, he, hE⟩ := List.mem_map.1 hm
  rw [← hE]
  exact hp e he
theorem keys_ofS {L : List Nat} {B : Nat → EntV} {l : List EntS} (h : L.map B = l.map EntS.enc) : ∀ x ∈ L, ∃ k : ByteArray, (B x).k = .string k := fun x hx => by
  have hm : B x ∈ l.map EntS.enc := by rw [← h]; exact List.mem_map_of_mem hx
  obtain ⟨e, he, hE⟩ := List.mem_map.1 hm
  exact ⟨e.k, by rw [← hE]; rfl⟩
theorem evictS (w : World) {C r m nb : Nat} {places : Int} {L : List Nat} {B : Nat → EntV} {nx pv : Nat → Nat} {f : Lit → Option Nat} (h : CAt Try.prog 98 95 9 w C r m places nb L B nx pv f) (hkv : ∀ x ∈ L, ∃ k : ByteArray, (B x).k = .string k) (hlen : L.length ≤ 65536) {P Q : List Nat} {z : Nat} (hL : L = P ++ z :: Q) (hP : ∀ y ∈ P, Goes (B y) = false) (hz : Goes (B z) = true) :
    Calls Try.prog 55 #[PV C] w fun x W' => x = .returned (.bool true) ∧ (∃ nx' pv' kl, CAt Try.prog 98 95 9 W' C r m places nb (P ++ Q) B nx' pv' (updO f kl none)) ∧ Tch (Mine C r m L) w W' := by
  refine (makePlaceS w h hkv hlen).mono ?_
  rintro x W' (⟨rfl, p, a, q, e, h1, h2, ⟨nx', pv', kl, _, h3⟩, t⟩ | ⟨_, hn, _⟩)
  · obtain ⟨rfl, rfl, rfl⟩ := first_split (hL.symm.trans e) hP hz h1 h2
    exact ⟨rfl, ⟨nx', pv', kl, h3⟩, t⟩
  · have := hn z (by rw [hL]; simp)
    rw [hz] at this
    cases this
theorem putRoomS {M : Nat → Prop} {W : World} {C nb : Nat} {places : Int} {l : List EntS} (h : CSS M W C places nb l) (k : ByteArray) {kl : Lit} (hk : keyOf Try.prog 9 (.string k) = some kl) (hn : ∀ e ∈ l, e.k ≠ k) (hr : (l.length : Int) < places) (hp : places ≤ 65536) (hnb : nb < maxLen) (v : Int) (d : Bool) :
    Calls Try.prog 31 #[PV C, .string k, .int .i64 v, .bool d] W fun x W' => x = .returned (.int .i64 0) ∧ ∃ M', CSS M' W' C places (nb + 1) (l ++ [⟨k, v, d, 0⟩]) ∧ Step M M' W W' := by
  have H65 := Lib.hid (len_lt (b := 65536) rfl hr hp)
  obtain ⟨r, m, L, B, nx, pv, f, h1, h2, h3, h4⟩ := h
  have hf := look_noneS h1 h2 hk hn
  have FI := find_anyS h1 k hk
  rw [hf] at FI
  have HF := Lib.hid FI
  have hlen : L.length = l.length := by simpa using congrArg List.length h2
  have HH := Lib.hid (And.intro h1 (And.intro h2 (And.intro h3 (And.intro h4 (And.intro hf (And.intro hk (And.intro hnb hlen)))))))
  clear h1 h2 h3 h4 hk hn FI hf hlen hnb
  go_enter Try.func31, Try.ntmps31
  go_wp2_with (fail)
  refine HF.out.mono ?_
  rintro x W1 ⟨rfl, hb⟩
  have hbd : Below W.heap.size W W1.drew := hb.drew
  have hS := HH.out.1.below hbd
  obtain ⟨c0, c1, _, _, _⟩ := hS.cells
  rw [HH.out.2.2.2.2.2.2.2] at c1
  have hltW := hS.lt
  have hA := add_newS hS k HH.out.2.2.2.2.2.1 HH.out.2.2.2.2.1 HH.out.2.2.2.2.2.2.1 (by rw [HH.out.2.2.2.2.2.2.2]; exact HH.out.2.2.2.1)
  obtain ⟨a, ha⟩ : ∃ a, W1.drew.heap.size = a := ⟨_, rfl⟩
  rw [ha] at hA hltW
  have haW : W.heap.size ≤ a := by rw [← ha]; exact hbd.size
  have HL := Lib.hid (And.intro hltW haW)
  have HA := Lib.hid hA
  have HB := Lib.hid hbd
  clear hb hbd hS HF hA ha hltW haW
  simp only [slotV]
  have hdec : decide (places ≤ (l.length : Int)) = false := decide_eq_false (by omega)
  have hnle : ¬ places ≤ (l.length : Int) := by omega
  go_upto_region 5 with (fail)
  refine wp_region_held_drew (S := fun W' => W'.cell? ⟨C, 0, none⟩ = some (.int .i64 places) ∧ W'.cell? ⟨C, 1, none⟩ = some (.int .i64 (l.length : Int))) (by kernel_rfl) ⟨c0, c1⟩ (fun hHeld => ?_)
  clear c0 c1
  refine wpAnyH_take (i := 0) (oi := _) (v := ?v0) rfl (by kernel_rfl) (by kernel_rfl) (by kernel_rfl) (fun _ _ _ h => h) (Or.inl ⟨by rfl, ?hy0⟩) (by assumption) ?rest0
  case hy0 =>
    intro W hSw
    clear hSw
    go_simp
    try (with_reducible rfl)
  try simp only [Act.put, List.getElem_toArray, List.getElem_cons_zero, List.getElem_cons_succ, List.setIfInBounds_toArray, List.set_cons_zero, List.set_cons_succ]
  refine wpAnyH_take (i := 1) (oi := _) (v := ?v1) rfl (by kernel_rfl) (by kernel_rfl) (by kernel_rfl) (fun _ _ _ h => h) (Or.inl ⟨by rfl, ?hy1⟩) (by assumption) ?rest1
  case hy1 =>
    intro W hSw
    clear hSw
    go_simp
    try (with_reducible rfl)
  try simp only [Act.put, List.getElem_toArray, List.getElem_cons_zero, List.getElem_cons_succ, List.setIfInBounds_toArray, List.set_cons_zero, List.set_cons_succ]
  refine wpAnyH_take (i := 2) (oi := _) (v := ?v2) rfl (by kernel_rfl) (by kernel_rfl) (by kernel_rfl) (fun _ _ _ h => h) (Or.inl ⟨by rfl, ?hy2⟩) (by assumption) ?rest2
  case hy2 =>
    intro W hSw
    clear hSw
    go_simp
    try (with_reducible rfl)
  try simp only [Act.put, List.getElem_toArray, List.getElem_cons_zero, List.getElem_cons_succ, List.setIfInBounds_toArray, List.set_cons_zero, List.set_cons_succ]
  refine wpAnyH_take (i := 3) (oi := _) (v := ?v3) rfl (by kernel_rfl) (by kernel_rfl) (by kernel_rfl) (fun _ _ _ h => h) (Or.inl ⟨by rfl, ?hy3⟩) (by assumption) ?rest3
  case hy3 =>
    intro W hSw
    obtain ⟨e0, e1⟩ := hSw
    go_simp
    try (with_reducible rfl)
  try simp only [Act.put, List.getElem_toArray, List.getElem_cons_zero, List.getElem_cons_succ, List.setIfInBounds_toArray, List.set_cons_zero, List.set_cons_succ]
  refine wpAnyH_take (i := 4) (oi := _) (v := ?v4) rfl (by kernel_rfl) (by kernel_rfl) (by kernel_rfl) (fun _ _ _ h => h) (Or.inl ⟨by rfl, ?hy4⟩) (by assumption) ?rest4
  case hy4 =>
    intro W hSw
    clear hSw
    go_simp
    try (with_reducible rfl)
  try simp only [Act.put, List.getElem_toArray, List.getElem_cons_zero, List.getElem_cons_succ, List.setIfInBounds_toArray, List.set_cons_zero, List.set_cons_succ]
  refine wpAnyH_take (i := 5) (oi := _) (v := ?v5) rfl (by kernel_rfl) (by kernel_rfl) (by kernel_rfl) (fun _ _ _ h => h) (Or.inl ⟨by rfl, ?hy5⟩) (by assumption) ?rest5
  case hy5 =>
    intro W hSw
    clear hSw
    go_simp
    try (with_reducible rfl)
  try simp only [Act.put, List.getElem_toArray, List.getElem_cons_zero, List.getElem_cons_succ, List.setIfInBounds_toArray, List.set_cons_zero, List.set_cons_succ]
  refine wpAnyH_take (i := 6) (oi := _) (v := ?v6) rfl (by kernel_rfl) (by kernel_rfl) (by kernel_rfl) (fun _ _ _ h => h) (Or.inl ⟨by rfl, ?hy6⟩) (by assumption) ?rest6
  case hy6 =>
    intro W hSw
    clear hSw
    go_simp
    try (with_reducible rfl)
  try simp only [Act.put, List.getElem_toArray, List.getElem_cons_zero, List.getElem_cons_succ, List.setIfInBounds_toArray, List.set_cons_zero, List.set_cons_succ]
  refine wpAnyH_take (i := 7) (oi := _) (v := ?v7) rfl (by kernel_rfl) (by kernel_rfl) (by kernel_rfl) (fun _ _ _ h => h) (Or.inl ⟨by rfl, ?hy7⟩) (by assumption) ?rest7
  case hy7 =>
    intro W hSw
    obtain ⟨e0, e1⟩ := hSw
    go_simp
    try (with_reducible rfl)
  try simp only [Act.put, List.getElem_toArray, List.getElem_cons_zero, List.getElem_cons_succ, List.setIfInBounds_toArray, List.set_cons_zero, List.set_cons_succ]
  refine wpAnyH_take (i := 8) (oi := _) (v := .bool false) rfl (by kernel_rfl) (by kernel_rfl) (by kernel_rfl) (fun _ _ _ h => h) (Or.inl ⟨by rfl, ?hy8⟩) (by assumption) ?rest8
  case hy8 =>
    intro W hSw
    clear hSw
    go_simp
    try (with_reducible rfl)
  try simp only [Act.put, List.getElem_toArray, List.getElem_cons_zero, List.getElem_cons_succ, List.setIfInBounds_toArray, List.set_cons_zero, List.set_cons_succ]
  refine wpAnyH_take (i := 9) (oi := _) (v := ?v9) rfl (by kernel_rfl) (by kernel_rfl) (by kernel_rfl) (fun _ _ _ h => h) (Or.inl ⟨by rfl, ?hy9⟩) (by assumption) ?rest9
  case hy9 =>
    intro W hSw
    clear hSw
    go_simp
    try (with_reducible rfl)
  try simp only [Act.put, List.getElem_toArray, List.getElem_cons_zero, List.getElem_cons_succ, List.setIfInBounds_toArray, List.set_cons_zero, List.set_cons_succ]
  refine wpAnyH_take (i := 10) (oi := _) (v := _) rfl (by kernel_rfl) (by kernel_rfl) (by kernel_rfl) (fun _ _ _ h => h) (Or.inr ⟨by rfl, rfl⟩) (by assumption) ?rest10
  try simp only [Act.put, List.getElem_toArray, List.getElem_cons_zero, List.getElem_cons_succ, List.setIfInBounds_toArray, List.set_cons_zero, List.set_cons_succ]
  refine wpAnyH_take (i := 11) (oi := _) (v := _) rfl (by kernel_rfl) (by kernel_rfl) (by kernel_rfl) (fun _ _ _ h => h) (Or.inr ⟨by rfl, rfl⟩) (by assumption) ?rest11
  try simp only [Act.put, List.getElem_toArray, List.getElem_cons_zero, List.getElem_cons_succ, List.setIfInBounds_toArray, List.set_cons_zero, List.set_cons_succ]
  refine wpAnyH_take (i := 12) (oi := _) (v := _) rfl (by kernel_rfl) (by kernel_rfl) (by kernel_rfl) (fun _ _ _ h => h) (Or.inr ⟨by rfl, rfl⟩) (by assumption) ?rest12
  try simp only [Act.put, List.getElem_toArray, List.getElem_cons_zero, List.getElem_cons_succ, List.setIfInBounds_toArray, List.set_cons_zero, List.set_cons_succ]
  refine wpAnyH_take (i := 13) (oi := _) (v := ?v13) rfl (by kernel_rfl) (by kernel_rfl) (by kernel_rfl) (fun _ _ _ h => h) (Or.inl ⟨by rfl, ?hy13⟩) (by assumption) ?rest13
  case hy13 =>
    intro W hSw
    clear hSw
    go_simp
    try (with_reducible rfl)
  try simp only [Act.put, List.getElem_toArray, List.getElem_cons_zero, List.getElem_cons_succ, List.setIfInBounds_toArray, List.set_cons_zero, List.set_cons_succ]

  refine wpAnyH_done (by kernel_rfl) ?_ _
  clear hHeld
  go_wp2_with (fail)
  refine HA.out.mono ?_
  rintro x W3 ⟨rfl, ⟨nx3, pv3, hS3⟩, t3⟩
  have HQ := Lib.hid (And.intro HH.out.2.2.1 (And.intro HH.out.2.1 (And.intro (Tch.of_below (F := M) HB.out) HL.out)))
  have haL : a ∉ L := fun hm => by have := HQ.out.2.2.2.1 a (.inr (.inr (List.mem_cons_of_mem _ hm))); omega
  have hU := use_anyS (hS3.setVD (a := a) (by simp) (.int .i64 v) d) (p := L) (q := []) rfl
  obtain ⟨_, c1, c2, _, _, _, fz⟩ := hS3.nodes.cells (a := a) (by simp)
  simp only [if_pos] at c1 c2
  have H3 := Lib.hid (And.intro hS3 (And.intro t3 haL))
  have HU := Lib.hid hU
  clear hS3 t3 haL hU HA
  go_wp2_with (fail)
  refine HU.out.mono ?_
  rintro x W4 ⟨rfl, ⟨nx', pv', hS4⟩, t4, z4⟩
  have H4 := Lib.hid (And.intro hS4 t4)
  clear hS4 t4 z4 HU c1 c2 fz
  go_wp2_with (fail)
  go_ret
  obtain ⟨h3, h2, ht, hlt, haW⟩ := HQ.out
  obtain ⟨hS3, t3, haL⟩ := H3.out
  obtain ⟨hS4, t4⟩ := H4.out
  have htt : Tch M W W4 := by
    refine Tch.join (G := Mine C r m (L ++ [a])) (Tch.setOut (Tch.setOut (ht.trans (t3.mono h3)) haW _) haW _) t4 (fun j hj hm => ?_)
    rcases hm with hm | hm | hm
    · exact h3 j (.inl hm)
    · exact h3 j (.inr (.inl hm))
    · refine h3 j (.inr (.inr ?_))
      rcases List.mem_cons.1 hm with hm | hm
      · rw [hm]; simp
      · rcases List.mem_append.1 hm with hm | hm
        · exact List.mem_cons_of_mem _ hm
        · exact absurd hj (by rw [List.mem_singleton.1 hm]; omega)
  have ha4 : a < W4.heap.size := heap_lt (hS4.nodes a (by simp))
  refine ⟨rfl, fun j => M j ∨ j = a, ⟨r, m, _, _, nx', pv', _, hS4, ?_, fun j hj => ?_, ?_⟩, htt, fun j hj => ?_⟩
  · rw [List.append_nil]
    refine (map_snoc _ _ a).trans (Eq.trans ?_ (map_snoc _ _ _).symm)
    rw [setVD_map haL, setVD_same, ← h2]
    simp only [if_pos]
    refine congr (congrArg _ ?_) rfl
    exact List.map_congr_left (fun x hx => if_neg (fun e => haL (by rw [← e]; exact hx)))
  · rcases hj with hm | hm | hm
    · exact .inl (h3 j (.inl hm))
    · exact .inl (h3 j (.inr (.inl hm)))
    · rw [List.append_nil] at hm
      rcases List.mem_cons.1 hm with hm | hm
      · exact .inl (h3 j (.inr (.inr (by rw [hm]; simp))))
      · rcases List.mem_append.1 hm with hm | hm
        · exact .inl (h3 j (.inr (.inr (List.mem_cons_of_mem _ hm))))
        · exact .inr (List.mem_singleton.1 hm)
  · rw [List.length_append]; exact H65.out
  · rcases hj with hj | rfl
    · exact .inl hj
    · exact .inr ⟨haW, ha4⟩
theorem putEvictS {M : Nat → Prop} {W : World} {C nb : Nat} {places : Int} {p q : List EntS} {e : EntS} (h : CSS M W C places nb (p ++ e :: q)) (k : ByteArray) {kl : Lit} (hk : keyOf Try.prog 9 (.string k) = some kl) (hn : ∀ y ∈ p ++ e :: q, y.k ≠ k) (hr : places ≤ ((p ++ e :: q).length : Int)) (hpn : ∀ y ∈ p, y.goes = false) (hg : e.goes = true) (hnb : nb < maxLen) (v : Int) (d : Bool) :
    Calls Try.prog 31 #[PV C, .string k, .int .i64 v, .bool d] W fun x W' => x = .returned (.int .i64 0) ∧ ∃ M', CSS M' W' C places (nb + 1) (p ++ q ++ [⟨k, v, d, 0⟩]) ∧ Step M M' W W' := by
  obtain ⟨r, m, L, B, nx, pv, f, h1, h2, h3, h4⟩ := h
  have H65 := Lib.hid (show (p ++ q).length + 1 ≤ 65536 by rw [List.length_append, List.length_cons] at h4; rw [List.length_append]; omega)
  obtain ⟨P, z, Q, hL, e1, e2, e3⟩ := map_split h2
  have hf := look_noneS h1 h2 hk hn
  have FI := find_anyS h1 k hk
  rw [hf] at FI
  have HF := Lib.hid FI
  have hlen : L.length = (p ++ e :: q).length := by simpa using congrArg List.length h2
  have hPn : ∀ y ∈ P, Goes (B y) = false := goes_allS e1 hpn
  have hz : Goes (B z) = true := by rw [e2]; exact hg
  have hkv := keys_ofS h2
  have hL65 : L.length ≤ 65536 := by rw [hlen]; exact h4
  have HH := Lib.hid (And.intro h1 (And.intro hL (And.intro e1 (And.intro e3 (And.intro h3 (And.intro hf (And.intro hk (And.intro hnb (And.intro hlen (And.intro hPn (And.intro hz (And.intro hkv hL65))))))))))))
  clear h1 h2 h3 h4 hk hn FI hf hlen hnb hL e1 e2 e3 hPn hz hkv hpn hg hL65
  go_enter Try.func31, Try.ntmps31
  go_wp2_with (fail)
  refine HF.out.mono ?_
  rintro x W1 ⟨rfl, hb⟩
  have hbd : Below W.heap.size W W1.drew := hb.drew
  have hS := HH.out.1.below hbd
  obtain ⟨c0, c1, _, _, _⟩ := hS.cells
  rw [HH.out.2.2.2.2.2.2.2.2.1] at c1
  have HP := Lib.hid (evictS W1.drew hS HH.out.2.2.2.2.2.2.2.2.2.2.2.1 HH.out.2.2.2.2.2.2.2.2.2.2.2.2 HH.out.2.1 HH.out.2.2.2.2.2.2.2.2.2.1 HH.out.2.2.2.2.2.2.2.2.2.2.1)
  have HB := Lib.hid (And.intro hbd hS)
  clear hb hbd hS HF
  obtain ⟨n, hnl⟩ : ∃ n, (p ++ e :: q).length = n := ⟨_, rfl⟩
  rw [hnl] at c1 hr
  simp only [slotV]
  have hdec : decide (places ≤ (n : Int)) = true := decide_eq_true hr
  go_upto_region 5 with (fail)
  refine wp_region_held_drew (S := fun W' => W'.cell? ⟨C, 0, none⟩ = some (.int .i64 places)) (by kernel_rfl) c0 (fun hHeld => ?_)
  clear c0
  refine wpAnyH_take (i := 0) (oi := _) (v := ?v0) rfl (by kernel_rfl) (by kernel_rfl) (by kernel_rfl) (fun _ _ _ h => h) (Or.inl ⟨by rfl, ?hy0⟩) (by assumption) ?rest0
  case hy0 =>
    intro W hSw
    clear hSw
    go_simp
    try (with_reducible rfl)
  try simp only [Act.put, List.getElem_toArray, List.getElem_cons_zero, List.getElem_cons_succ, List.setIfInBounds_toArray, List.set_cons_zero, List.set_cons_succ]
  refine wpAnyH_take (i := 1) (oi := _) (v := ?v1) rfl (by kernel_rfl) (by kernel_rfl) (by kernel_rfl) (fun _ _ _ h => h) (Or.inl ⟨by rfl, ?hy1⟩) (by assumption) ?rest1
  case hy1 =>
    intro W hSw
    clear hSw
    go_simp
    try (with_reducible rfl)
  try simp only [Act.put, List.getElem_toArray, List.getElem_cons_zero, List.getElem_cons_succ, List.setIfInBounds_toArray, List.set_cons_zero, List.set_cons_succ]
  refine wpAnyH_take (i := 2) (oi := _) (v := ?v2) rfl (by kernel_rfl) (by kernel_rfl) (by kernel_rfl) (fun _ _ _ h => h) (Or.inl ⟨by rfl, ?hy2⟩) (by assumption) ?rest2
  case hy2 =>
    intro W hSw
    clear hSw
    go_simp
    try (with_reducible rfl)
  try simp only [Act.put, List.getElem_toArray, List.getElem_cons_zero, List.getElem_cons_succ, List.setIfInBounds_toArray, List.set_cons_zero, List.set_cons_succ]
  refine wpAnyH_take (i := 4) (oi := _) (v := ?v4) rfl (by kernel_rfl) (by kernel_rfl) (by kernel_rfl) (fun _ _ _ h => h) (Or.inl ⟨by rfl, ?hy4⟩) (by assumption) ?rest4
  case hy4 =>
    intro W hSw
    clear hSw
    go_simp
    try (with_reducible rfl)
  try simp only [Act.put, List.getElem_toArray, List.getElem_cons_zero, List.getElem_cons_succ, List.setIfInBounds_toArray, List.set_cons_zero, List.set_cons_succ]
  refine wpAnyH_take (i := 5) (oi := _) (v := ?v5) rfl (by kernel_rfl) (by kernel_rfl) (by kernel_rfl) (fun _ _ _ h => h) (Or.inl ⟨by rfl, ?hy5⟩) (by assumption) ?rest5
  case hy5 =>
    intro W hSw
    clear hSw
    go_simp
    try (with_reducible rfl)
  try simp only [Act.put, List.getElem_toArray, List.getElem_cons_zero, List.getElem_cons_succ, List.setIfInBounds_toArray, List.set_cons_zero, List.set_cons_succ]
  refine wpAnyH_take (i := 6) (oi := _) (v := ?v6) rfl (by kernel_rfl) (by kernel_rfl) (by kernel_rfl) (fun _ _ _ h => h) (Or.inl ⟨by rfl, ?hy6⟩) (by assumption) ?rest6
  case hy6 =>
    intro W hSw
    clear hSw
    go_simp
    try (with_reducible rfl)
  try simp only [Act.put, List.getElem_toArray, List.getElem_cons_zero, List.getElem_cons_succ, List.setIfInBounds_toArray, List.set_cons_zero, List.set_cons_succ]
  refine wpAnyH_take (i := 7) (oi := _) (v := ?v7) rfl (by kernel_rfl) (by kernel_rfl) (by kernel_rfl) (fun _ _ _ h => h) (Or.inl ⟨by rfl, ?hy7⟩) (by assumption) ?rest7
  case hy7 =>
    intro W hSw
    skip
    go_simp
    try (with_reducible rfl)
  try simp only [Act.put, List.getElem_toArray, List.getElem_cons_zero, List.getElem_cons_succ, List.setIfInBounds_toArray, List.set_cons_zero, List.set_cons_succ]

  refine wpAnyH_ready (rs := [3]) (by kernel_rfl) (by simp) ?_
  refine AllReadyH.cons (o := _) rfl (fun K hK => ?_) AllReadyH.nil
  go_simp
  refine hK.out _ _ hHeld (fun _ => ?_)
  clear hK K
  try simp only [Act.put, List.getElem_toArray, List.getElem_cons_zero, List.getElem_cons_succ, List.setIfInBounds_toArray, List.set_cons_zero, List.set_cons_succ]
  refine wpAnyH_take (i := 8) (oi := _) (v := .bool true) rfl (by kernel_rfl) (by kernel_rfl) (by kernel_rfl) (fun _ _ _ h => h) (Or.inl ⟨by rfl, ?hy8⟩) (by assumption) ?rest8
  case hy8 =>
    intro W hSw
    clear hSw
    go_simp
    try (with_reducible rfl)
  try simp only [Act.put, List.getElem_toArray, List.getElem_cons_zero, List.getElem_cons_succ, List.setIfInBounds_toArray, List.set_cons_zero, List.set_cons_succ]
  refine wpAnyH_take (i := 9) (oi := _) (v := ?v9) rfl (by kernel_rfl) (by kernel_rfl) (by kernel_rfl) (fun _ _ _ h => h) (Or.inl ⟨by rfl, ?hy9⟩) (by assumption) ?rest9
  case hy9 =>
    intro W hSw
    clear hSw
    go_simp
    try (with_reducible rfl)
  try simp only [Act.put, List.getElem_toArray, List.getElem_cons_zero, List.getElem_cons_succ, List.setIfInBounds_toArray, List.set_cons_zero, List.set_cons_succ]
  refine wpAnyH_take (i := 10) (oi := _) (v := ?v10) rfl (by kernel_rfl) (by kernel_rfl) (by kernel_rfl) (fun _ _ _ h => h) (Or.inl ⟨by rfl, ?hy10⟩) (by assumption) ?rest10
  case hy10 =>
    intro W hSw
    clear hSw
    go_simp
    try (with_reducible rfl)
  try simp only [Act.put, List.getElem_toArray, List.getElem_cons_zero, List.getElem_cons_succ, List.setIfInBounds_toArray, List.set_cons_zero, List.set_cons_succ]

  refine wpAnyH_ready (rs := [11]) (by kernel_rfl) (by simp) ?_
  refine AllReadyH.cons (o := _) rfl (fun K hK => ?_) AllReadyH.nil
  go_simp
  with_reducible (refine HP.out.mono ?_)
  rintro x W5 ⟨rfl, ⟨nx5, pv5, kl5, hS5⟩, t5⟩
  refine hK.out _ _ hS5.cells.1 (fun hHeld5 => ?_)
  have hlt5 := hS5.lt
  have hA := add_newS hS5 k HH.out.2.2.2.2.2.2.1 (by unfold updO; split; rfl; exact HH.out.2.2.2.2.2.1) HH.out.2.2.2.2.2.2.2.1 (by have := H65.out; have e9 := congrArg List.length HH.out.2.2.1; have e8 := congrArg List.length HH.out.2.2.2.1; simp at e9 e8 this ⊢; omega)
  obtain ⟨a, ha⟩ : ∃ a, W5.heap.size = a := ⟨_, rfl⟩
  rw [ha] at hA hlt5
  have htt5 : Tch M W W5 := (Tch.of_below HB.out.1).trans (t5.mono HH.out.2.2.2.2.1)
  have haW : W.heap.size ≤ a := by rw [← ha]; exact htt5.size
  have HQ := Lib.hid (And.intro (show ∀ j, Mine C r m (P ++ Q) j → M j from fun j hj => HH.out.2.2.2.2.1 j (Mine.of_mem (fun x hx => by rw [HH.out.2.1]; simp at hx ⊢; rcases hx with h | h <;> simp [h]) j hj)) (And.intro (show (P ++ Q).map B = (p ++ q).map EntS.enc by rw [List.map_append, List.map_append, HH.out.2.2.1, HH.out.2.2.2.1]) (And.intro htt5 (And.intro hlt5 haW))))
  have HA := Lib.hid hA
  clear hK K hHeld hA hlt5 hS5 t5 htt5 haW HP c1 ha
  try simp only [Act.put, List.getElem_toArray, List.getElem_cons_zero, List.getElem_cons_succ, List.setIfInBounds_toArray, List.set_cons_zero, List.set_cons_succ]
  have hHeld := hHeld5
  clear hHeld5
  refine wpAnyH_take (i := 12) (oi := _) (v := .bool false) rfl (by kernel_rfl) (by kernel_rfl) (by kernel_rfl) (fun _ _ _ h => h) (Or.inl ⟨by rfl, ?hy12⟩) (by assumption) ?rest12
  case hy12 =>
    intro W hSw
    clear hSw
    go_simp
    try (with_reducible rfl)
  try simp only [Act.put, List.getElem_toArray, List.getElem_cons_zero, List.getElem_cons_succ, List.setIfInBounds_toArray, List.set_cons_zero, List.set_cons_succ]
  refine wpAnyH_take (i := 13) (oi := _) (v := ?v13) rfl (by kernel_rfl) (by kernel_rfl) (by kernel_rfl) (fun _ _ _ h => h) (Or.inl ⟨by rfl, ?hy13⟩) (by assumption) ?rest13
  case hy13 =>
    intro W hSw
    clear hSw
    go_simp
    try (with_reducible rfl)
  try simp only [Act.put, List.getElem_toArray, List.getElem_cons_zero, List.getElem_cons_succ, List.setIfInBounds_toArray, List.set_cons_zero, List.set_cons_succ]

  refine wpAnyH_done (by kernel_rfl) ?_ _
  clear hHeld
  go_wp2_with (fail)
  refine HA.out.mono ?_
  rintro x W3 ⟨rfl, ⟨nx3, pv3, hS3⟩, t3⟩
  have haL : a ∉ (P ++ Q) := fun hm => by have := HQ.out.2.2.2.1 a (.inr (.inr (List.mem_cons_of_mem _ hm))); omega
  have hU := use_anyS (hS3.setVD (a := a) (by simp) (.int .i64 v) d) (p := (P ++ Q)) (q := []) rfl
  obtain ⟨_, c1, c2, _, _, _, fz⟩ := hS3.nodes.cells (a := a) (by simp)
  simp only [if_pos] at c1 c2
  have H3 := Lib.hid (And.intro hS3 (And.intro t3 haL))
  have HU := Lib.hid hU
  clear hS3 t3 haL hU HA
  go_wp2_with (fail)
  refine HU.out.mono ?_
  rintro x W4 ⟨rfl, ⟨nx', pv', hS4⟩, t4, z4⟩
  have H4 := Lib.hid (And.intro hS4 t4)
  clear hS4 t4 z4 HU c1 c2 fz
  go_wp2_with (fail)
  go_ret
  obtain ⟨h3, h2, ht, hlt, haW⟩ := HQ.out
  obtain ⟨hS3, t3, haL⟩ := H3.out
  obtain ⟨hS4, t4⟩ := H4.out
  have htt : Tch M W W4 := by
    refine Tch.join (G := Mine C r m ((P ++ Q) ++ [a])) (Tch.setOut (Tch.setOut (ht.trans (t3.mono h3)) haW _) haW _) t4 (fun j hj hm => ?_)
    rcases hm with hm | hm | hm
    · exact h3 j (.inl hm)
    · exact h3 j (.inr (.inl hm))
    · refine h3 j (.inr (.inr ?_))
      rcases List.mem_cons.1 hm with hm | hm
      · rw [hm]; simp
      · rcases List.mem_append.1 hm with hm | hm
        · exact List.mem_cons_of_mem _ hm
        · exact absurd hj (by rw [List.mem_singleton.1 hm]; omega)
  have ha4 : a < W4.heap.size := heap_lt (hS4.nodes a (by simp))
  refine ⟨rfl, fun j => M j ∨ j = a, ⟨r, m, _, _, nx', pv', _, hS4, ?_, fun j hj => ?_, ?_⟩, htt, fun j hj => ?_⟩
  · rw [List.append_nil]
    refine (map_snoc _ _ a).trans (Eq.trans ?_ (map_snoc _ _ _).symm)
    rw [setVD_map haL, setVD_same, ← h2]
    simp only [if_pos]
    refine congr (congrArg _ ?_) rfl
    exact List.map_congr_left (fun x hx => if_neg (fun e => haL (by rw [← e]; exact hx)))
  · rcases hj with hm | hm | hm
    · exact .inl (h3 j (.inl hm))
    · exact .inl (h3 j (.inr (.inl hm)))
    · rw [List.append_nil] at hm
      rcases List.mem_cons.1 hm with hm | hm
      · exact .inl (h3 j (.inr (.inr (by rw [hm]; simp))))
      · rcases List.mem_append.1 hm with hm | hm
        · exact .inl (h3 j (.inr (.inr (List.mem_cons_of_mem _ hm))))
        · exact .inr (List.mem_singleton.1 hm)
  · rw [List.length_append]; exact H65.out
  · rcases hj with hj | rfl
    · exact .inl hj
    · exact .inr ⟨haW, ha4⟩
theorem fullS (w : World) {C r m nb : Nat} {places : Int} {L : List Nat} {B : Nat → EntV} {nx pv : Nat → Nat} {f : Lit → Option Nat} (h : CAt Try.prog 98 95 9 w C r m places nb L B nx pv f) (hkv : ∀ x ∈ L, ∃ k : ByteArray, (B x).k = .string k) (hlen : L.length ≤ 65536) (hN : ∀ y ∈ L, Goes (B y) = false) :
    Calls Try.prog 55 #[PV C] w fun x W' => x = .returned (.bool false) ∧ Below w.heap.size w W' := by
  refine (makePlaceS w h hkv hlen).mono ?_
  rintro x W' (⟨_, p, a, q, e, _, h2, _⟩ | ⟨rfl, _, hb⟩)
  · have := hN a (by rw [e]; simp)
    rw [h2] at this
    cases this
  · exact ⟨rfl, hb⟩
theorem putFullS {M : Nat → Prop} {W : World} {C nb : Nat} {places : Int} {l : List EntS} (h : CSS M W C places nb l) (k : ByteArray) {kl : Lit} (hk : keyOf Try.prog 9 (.string k) = some kl) (hn : ∀ y ∈ l, y.k ≠ k) (hr : places ≤ (l.length : Int)) (hg : ∀ y ∈ l, y.goes = false) (v : Int) (d : Bool) :
    Calls Try.prog 31 #[PV C, .string k, .int .i64 v, .bool d] W fun x W' => x = .returned (.int .i64 4) ∧ CSS M W' C places nb l ∧ Step M M W W' := by
  have HC := Lib.hid h
  obtain ⟨r, m, L, B, nx, pv, f, h1, h2, h3, h4⟩ := h
  have hf := look_noneS h1 h2 hk hn
  have FI := find_anyS h1 k hk
  rw [hf] at FI
  have HF := Lib.hid FI
  have hlen : L.length = l.length := by simpa using congrArg List.length h2
  have HH := Lib.hid (And.intro h1 (And.intro hlen (And.intro (keys_ofS h2) (And.intro (show L.length ≤ 65536 by rw [hlen]; exact h4) (goes_allS h2 hg)))))
  clear h1 h2 h3 h4 hk hn FI hf hlen hg
  go_enter Try.func31, Try.ntmps31
  go_wp2_with (fail)
  refine HF.out.mono ?_
  rintro x W1 ⟨rfl, hb⟩
  have hbd : Below W.heap.size W W1.drew := hb.drew
  have hS := HH.out.1.below hbd
  obtain ⟨c0, c1, _, _, _⟩ := hS.cells
  rw [HH.out.2.1] at c1
  have HP := Lib.hid (fullS W1.drew hS HH.out.2.2.1 HH.out.2.2.2.1 HH.out.2.2.2.2)
  have HB := Lib.hid (And.intro hbd hS)
  clear hb hbd hS HF
  obtain ⟨n, hnl⟩ : ∃ n, l.length = n := ⟨_, rfl⟩
  rw [hnl] at c1 hr
  simp only [slotV]
  have hdec : decide (places ≤ (n : Int)) = true := decide_eq_true hr
  go_upto_region 5 with (fail)
  refine wp_region_held_drew (S := fun W' => W'.cell? ⟨C, 0, none⟩ = some (.int .i64 places)) (by kernel_rfl) c0 (fun hHeld => ?_)
  clear c0
  refine wpAnyH_take (i := 0) (oi := _) (v := ?v0) rfl (by kernel_rfl) (by kernel_rfl) (by kernel_rfl) (fun _ _ _ h => h) (Or.inl ⟨by rfl, ?hy0⟩) (by assumption) ?rest0
  case hy0 =>
    intro W hSw
    clear hSw
    go_simp
    try (with_reducible rfl)
  try simp only [Act.put, List.getElem_toArray, List.getElem_cons_zero, List.getElem_cons_succ, List.setIfInBounds_toArray, List.set_cons_zero, List.set_cons_succ]
  refine wpAnyH_take (i := 1) (oi := _) (v := ?v1) rfl (by kernel_rfl) (by kernel_rfl) (by kernel_rfl) (fun _ _ _ h => h) (Or.inl ⟨by rfl, ?hy1⟩) (by assumption) ?rest1
  case hy1 =>
    intro W hSw
    clear hSw
    go_simp
    try (with_reducible rfl)
  try simp only [Act.put, List.getElem_toArray, List.getElem_cons_zero, List.getElem_cons_succ, List.setIfInBounds_toArray, List.set_cons_zero, List.set_cons_succ]
  refine wpAnyH_take (i := 2) (oi := _) (v := ?v2) rfl (by kernel_rfl) (by kernel_rfl) (by kernel_rfl) (fun _ _ _ h => h) (Or.inl ⟨by rfl, ?hy2⟩) (by assumption) ?rest2
  case hy2 =>
    intro W hSw
    clear hSw
    go_simp
    try (with_reducible rfl)
  try simp only [Act.put, List.getElem_toArray, List.getElem_cons_zero, List.getElem_cons_succ, List.setIfInBounds_toArray, List.set_cons_zero, List.set_cons_succ]
  refine wpAnyH_take (i := 4) (oi := _) (v := ?v4) rfl (by kernel_rfl) (by kernel_rfl) (by kernel_rfl) (fun _ _ _ h => h) (Or.inl ⟨by rfl, ?hy4⟩) (by assumption) ?rest4
  case hy4 =>
    intro W hSw
    clear hSw
    go_simp
    try (with_reducible rfl)
  try simp only [Act.put, List.getElem_toArray, List.getElem_cons_zero, List.getElem_cons_succ, List.setIfInBounds_toArray, List.set_cons_zero, List.set_cons_succ]
  refine wpAnyH_take (i := 5) (oi := _) (v := ?v5) rfl (by kernel_rfl) (by kernel_rfl) (by kernel_rfl) (fun _ _ _ h => h) (Or.inl ⟨by rfl, ?hy5⟩) (by assumption) ?rest5
  case hy5 =>
    intro W hSw
    clear hSw
    go_simp
    try (with_reducible rfl)
  try simp only [Act.put, List.getElem_toArray, List.getElem_cons_zero, List.getElem_cons_succ, List.setIfInBounds_toArray, List.set_cons_zero, List.set_cons_succ]
  refine wpAnyH_take (i := 6) (oi := _) (v := ?v6) rfl (by kernel_rfl) (by kernel_rfl) (by kernel_rfl) (fun _ _ _ h => h) (Or.inl ⟨by rfl, ?hy6⟩) (by assumption) ?rest6
  case hy6 =>
    intro W hSw
    clear hSw
    go_simp
    try (with_reducible rfl)
  try simp only [Act.put, List.getElem_toArray, List.getElem_cons_zero, List.getElem_cons_succ, List.setIfInBounds_toArray, List.set_cons_zero, List.set_cons_succ]
  refine wpAnyH_take (i := 7) (oi := _) (v := ?v7) rfl (by kernel_rfl) (by kernel_rfl) (by kernel_rfl) (fun _ _ _ h => h) (Or.inl ⟨by rfl, ?hy7⟩) (by assumption) ?rest7
  case hy7 =>
    intro W hSw
    skip
    go_simp
    try (with_reducible rfl)
  try simp only [Act.put, List.getElem_toArray, List.getElem_cons_zero, List.getElem_cons_succ, List.setIfInBounds_toArray, List.set_cons_zero, List.set_cons_succ]

  refine wpAnyH_ready (rs := [3]) (by kernel_rfl) (by simp) ?_
  refine AllReadyH.cons (o := _) rfl (fun K hK => ?_) AllReadyH.nil
  go_simp
  refine hK.out _ _ hHeld (fun _ => ?_)
  clear hK K
  try simp only [Act.put, List.getElem_toArray, List.getElem_cons_zero, List.getElem_cons_succ, List.setIfInBounds_toArray, List.set_cons_zero, List.set_cons_succ]
  refine wpAnyH_take (i := 8) (oi := _) (v := .bool true) rfl (by kernel_rfl) (by kernel_rfl) (by kernel_rfl) (fun _ _ _ h => h) (Or.inl ⟨by rfl, ?hy8⟩) (by assumption) ?rest8
  case hy8 =>
    intro W hSw
    clear hSw
    go_simp
    try (with_reducible rfl)
  try simp only [Act.put, List.getElem_toArray, List.getElem_cons_zero, List.getElem_cons_succ, List.setIfInBounds_toArray, List.set_cons_zero, List.set_cons_succ]
  refine wpAnyH_take (i := 9) (oi := _) (v := ?v9) rfl (by kernel_rfl) (by kernel_rfl) (by kernel_rfl) (fun _ _ _ h => h) (Or.inl ⟨by rfl, ?hy9⟩) (by assumption) ?rest9
  case hy9 =>
    intro W hSw
    clear hSw
    go_simp
    try (with_reducible rfl)
  try simp only [Act.put, List.getElem_toArray, List.getElem_cons_zero, List.getElem_cons_succ, List.setIfInBounds_toArray, List.set_cons_zero, List.set_cons_succ]
  refine wpAnyH_take (i := 10) (oi := _) (v := ?v10) rfl (by kernel_rfl) (by kernel_rfl) (by kernel_rfl) (fun _ _ _ h => h) (Or.inl ⟨by rfl, ?hy10⟩) (by assumption) ?rest10
  case hy10 =>
    intro W hSw
    clear hSw
    go_simp
    try (with_reducible rfl)
  try simp only [Act.put, List.getElem_toArray, List.getElem_cons_zero, List.getElem_cons_succ, List.setIfInBounds_toArray, List.set_cons_zero, List.set_cons_succ]

  refine wpAnyH_ready (rs := [11]) (by kernel_rfl) (by simp) ?_
  refine AllReadyH.cons (o := _) rfl (fun K hK => ?_) AllReadyH.nil
  go_simp
  with_reducible (refine HP.out.mono ?_)
  rintro x W5 ⟨rfl, b5⟩
  refine hK.out _ _ (HB.out.2.below b5).cells.1 (fun hHeld5 => ?_)
  have HB5 := Lib.hid (bcat HB.out.1 b5)
  clear hK K hHeld b5 HP c1
  try simp only [Act.put, List.getElem_toArray, List.getElem_cons_zero, List.getElem_cons_succ, List.setIfInBounds_toArray, List.set_cons_zero, List.set_cons_succ]
  have hHeld := hHeld5
  clear hHeld5
  refine wpAnyH_take (i := 12) (oi := _) (v := .bool true) rfl (by kernel_rfl) (by kernel_rfl) (by kernel_rfl) (fun _ _ _ h => h) (Or.inl ⟨by rfl, ?hy12⟩) (by assumption) ?rest12
  case hy12 =>
    intro W hSw
    clear hSw
    go_simp
    try (with_reducible rfl)
  try simp only [Act.put, List.getElem_toArray, List.getElem_cons_zero, List.getElem_cons_succ, List.setIfInBounds_toArray, List.set_cons_zero, List.set_cons_succ]
  refine wpAnyH_take (i := 13) (oi := _) (v := ?v13) rfl (by kernel_rfl) (by kernel_rfl) (by kernel_rfl) (fun _ _ _ h => h) (Or.inl ⟨by rfl, ?hy13⟩) (by assumption) ?rest13
  case hy13 =>
    intro W hSw
    clear hSw
    go_simp
    try (with_reducible rfl)
  try simp only [Act.put, List.getElem_toArray, List.getElem_cons_zero, List.getElem_cons_succ, List.setIfInBounds_toArray, List.set_cons_zero, List.set_cons_succ]

  refine wpAnyH_done (by kernel_rfl) ?_ _
  clear hHeld
  go_wp2_with (fail)
  go_ret
  have t : Tch (fun _ => False) W W5 := Tch.of_below HB5.out
  exact ⟨rfl, HC.out.tch t (fun _ _ => id), t.mono (fun _ h => h.elim), fun k hk => .inl hk⟩

/-! KEYS: int -/
theorem putThereI {M : Nat → Prop} {W : World} {C nb : Nat} {places : Int} {p q : List EntI} {e : EntI} (h : CSI M W C places nb (p ++ e :: q)) (k : Int) {kl : Lit} (hk : keyOf Try.prog 3 (.int .i64 k) = some kl) (hek : e.k = k) (v : Int) (d : Bool) :
    Calls Try.prog 15 #[PV C, .int .i64 k, .int .i64 v, .bool d] W fun x W' => x = .returned (.int .i64 0) ∧ CSI M W' C places nb (p ++ q ++ [⟨k, v, e.d || d, e.p⟩]) ∧ Step M M W W' := by
  obtain ⟨r, m, L, B, nx, pv, f, h1, h2, h3, h4⟩ := h
  obtain ⟨P, a, Q, hL, e1, e2, e3⟩ := map_split h2
  have haL : a ∈ L := by rw [hL]; simp
  have FI := find_anyI h1 k hk
  rw [look_someI h1 haL e2 hk hek] at FI
  have HF := Lib.hid FI
  obtain ⟨ed, hed⟩ : ∃ ed, e.d = ed := ⟨_, rfl⟩
  have HH := Lib.hid (And.intro h1 (And.intro hL (And.intro e1 (And.intro e2 (And.intro e3 (And.intro h3 (And.intro h4 (And.intro haL (And.intro hek hed)))))))))
  clear h1 h2 h3 h4 hk hek FI hL e1 e2 e3 haL hed
  go_enter Try.func15, Try.ntmps15
  go_wp2_with (fail)
  refine HF.out.mono ?_
  rintro x W1 ⟨rfl, hb⟩
  have hS := HH.out.1.below hb
  have hU := use_anyI (hS.setVD HH.out.2.2.2.2.2.2.2.1 (.int .i64 v) (ed || d)) HH.out.2.1
  obtain ⟨_, c1, c2, _, _, _, fz⟩ := hS.nodes.cells (a := a) (List.mem_cons_of_mem _ HH.out.2.2.2.2.2.2.2.1)
  rw [HH.out.2.2.2.1] at c1 c2
  simp only [EntI.enc, HH.out.2.2.2.2.2.2.2.2.2] at c1 c2
  have HB := Lib.hid hb
  clear hb hS HF
  simp only [slotV]
  have HU := Lib.hid hU
  clear hU
  have HX := Lib.hid HH
  clear HH
  cases ed <;>
  · go_wp2_with (fail)
    refine HU.out.mono ?_
    rintro x W2 ⟨rfl, ⟨nx', pv', hS2⟩, t2, z2⟩
    have H2 := Lib.hid (And.intro hS2 t2)
    clear hS2 t2 z2 HU c1 c2
    go_wp2_with (fail)
    go_ret
    obtain ⟨h1, hL, e1, e2, e3, h3, h4, haL, hek, hed⟩ := HX.out.out
    have hnL : L.Nodup := (List.nodup_cons.1 h1.ring.nodup).2
    rw [hL, List.nodup_append, List.nodup_cons] at hnL
    have haP : a ∉ P := fun hm => hnL.2.2 a hm a List.mem_cons_self rfl
    have haQ : a ∉ Q := hnL.2.1.1
    refine ⟨rfl, ⟨r, m, _, _, nx', pv', f, H2.out.1, ?_, fun k hk => h3 k (Mine.of_mem (fun x hx => ?_) k hk), by simpa using h4⟩, ((Tch.of_below HB.out).setVD (h3 a (.inr (.inr (List.mem_cons_of_mem _ haL)))) _ _).trans (H2.out.2.mono h3), fun k hk => .inl hk⟩
    · rw [List.map_append, List.map_append, setVD_map haP, setVD_map haQ, List.map_singleton, setVD_same, e2, e1, e3, hed]
      subst hek
      simp [EntI.enc]
    · rw [hL]
      simp at hx ⊢
      rcases hx with h | h | h <;> simp [h]
def EntI.goes (e : EntI) : Bool := !e.d && decide (e.p = 0)
theorem goes_allI {P : List Nat} {B : Nat → EntV} {p : List EntI} (h : P.map B = p.map EntI.enc) (hp : ∀ y ∈ p, y.goes = false) : ∀ y ∈ P, Goes (B y) = false := fun y hy => by
  have hm : B y ∈ p.map EntI.enc := by rw [← h]; exact List.mem_map_of_mem hy
  obtain ⟨e, he, hE⟩ := List.mem_map.1 hm
  rw [← hE]
  exact hp e he
theorem keys_ofI {L : List Nat} {B : Nat → EntV} {l : List EntI} (h : L.map B = l.map EntI.enc) : ∀ x ∈ L, ∃ k : Int, (B x).k = .int .i64 k := fun x hx => by
  have hm : B x ∈ l.map EntI.enc := by rw [← h]; exact List.mem_map_of_mem hx
  obtain ⟨e, he, hE⟩ := List.mem_map.1 hm
  exact ⟨e.k, by rw [← hE]; rfl⟩
theorem evictI (w : World) {C r m nb : Nat} {places : Int} {L : List Nat} {B : Nat → EntV} {nx pv : Nat → Nat} {f : Lit → Option Nat} (h : CAt Try.prog 74 67 3 w C r m places nb L B nx pv f) (hkv : ∀ x ∈ L, ∃ k : Int, (B x).k = .int .i64 k) (hlen : L.length ≤ 65536) {P Q : List Nat} {z : Nat} (hL : L = P ++ z :: Q) (hP : ∀ y ∈ P, Goes (B y) = false) (hz : Goes (B z) = true) :
    Calls Try.prog 43 #[PV C] w fun x W' => x = .returned (.bool true) ∧ (∃ nx' pv' kl, CAt Try.prog 74 67 3 W' C r m places nb (P ++ Q) B nx' pv' (updO f kl none)) ∧ Tch (Mine C r m L) w W' := by
  refine (makePlaceI w h hkv hlen).mono ?_
  rintro x W' (⟨rfl, p, a, q, e, h1, h2, ⟨nx', pv', kl, _, h3⟩, t⟩ | ⟨_, hn, _⟩)
  · obtain ⟨rfl, rfl, rfl⟩ := first_split (hL.symm.trans e) hP hz h1 h2
    exact ⟨rfl, ⟨nx', pv', kl, h3⟩, t⟩
  · have := hn z (by rw [hL]; simp)
    rw [hz] at this
    cases this
theorem putRoomI {M : Nat → Prop} {W : World} {C nb : Nat} {places : Int} {l : List EntI} (h : CSI M W C places nb l) (k : Int) {kl : Lit} (hk : keyOf Try.prog 3 (.int .i64 k) = some kl) (hn : ∀ e ∈ l, e.k ≠ k) (hr : (l.length : Int) < places) (hp : places ≤ 65536) (hnb : nb < maxLen) (v : Int) (d : Bool) :
    Calls Try.prog 15 #[PV C, .int .i64 k, .int .i64 v, .bool d] W fun x W' => x = .returned (.int .i64 0) ∧ ∃ M', CSI M' W' C places (nb + 1) (l ++ [⟨k, v, d, 0⟩]) ∧ Step M M' W W' := by
  have H65 := Lib.hid (len_lt (b := 65536) rfl hr hp)
  obtain ⟨r, m, L, B, nx, pv, f, h1, h2, h3, h4⟩ := h
  have hf := look_noneI h1 h2 hk hn
  have FI := find_anyI h1 k hk
  rw [hf] at FI
  have HF := Lib.hid FI
  have hlen : L.length = l.length := by simpa using congrArg List.length h2
  have HH := Lib.hid (And.intro h1 (And.intro h2 (And.intro h3 (And.intro h4 (And.intro hf (And.intro hk (And.intro hnb hlen)))))))
  clear h1 h2 h3 h4 hk hn FI hf hlen hnb
  go_enter Try.func15, Try.ntmps15
  go_wp2_with (fail)
  refine HF.out.mono ?_
  rintro x W1 ⟨rfl, hb⟩
  have hbd : Below W.heap.size W W1.drew := hb.drew
  have hS := HH.out.1.below hbd
  obtain ⟨c0, c1, _, _, _⟩ := hS.cells
  rw [HH.out.2.2.2.2.2.2.2] at c1
  have hltW := hS.lt
  have hA := add_newI hS k HH.out.2.2.2.2.2.1 HH.out.2.2.2.2.1 HH.out.2.2.2.2.2.2.1 (by rw [HH.out.2.2.2.2.2.2.2]; exact HH.out.2.2.2.1)
  obtain ⟨a, ha⟩ : ∃ a, W1.drew.heap.size = a := ⟨_, rfl⟩
  rw [ha] at hA hltW
  have haW : W.heap.size ≤ a := by rw [← ha]; exact hbd.size
  have HL := Lib.hid (And.intro hltW haW)
  have HA := Lib.hid hA
  have HB := Lib.hid hbd
  clear hb hbd hS HF hA ha hltW haW
  simp only [slotV]
  have hdec : decide (places ≤ (l.length : Int)) = false := decide_eq_false (by omega)
  have hnle : ¬ places ≤ (l.length : Int) := by omega
  go_upto_region 5 with (fail)
  refine wp_region_held_drew (S := fun W' => W'.cell? ⟨C, 0, none⟩ = some (.int .i64 places) ∧ W'.cell? ⟨C, 1, none⟩ = some (.int .i64 (l.length : Int))) (by kernel_rfl) ⟨c0, c1⟩ (fun hHeld => ?_)
  clear c0 c1
  refine wpAnyH_take (i := 0) (oi := _) (v := ?v0) rfl (by kernel_rfl) (by kernel_rfl) (by kernel_rfl) (fun _ _ _ h => h) (Or.inl ⟨by rfl, ?hy0⟩) (by assumption) ?rest0
  case hy0 =>
    intro W hSw
    clear hSw
    go_simp
    try (with_reducible rfl)
  try simp only [Act.put, List.getElem_toArray, List.getElem_cons_zero, List.getElem_cons_succ, List.setIfInBounds_toArray, List.set_cons_zero, List.set_cons_succ]
  refine wpAnyH_take (i := 1) (oi := _) (v := ?v1) rfl (by kernel_rfl) (by kernel_rfl) (by kernel_rfl) (fun _ _ _ h => h) (Or.inl ⟨by rfl, ?hy1⟩) (by assumption) ?rest1
  case hy1 =>
    intro W hSw
    clear hSw
    go_simp
    try (with_reducible rfl)
  try simp only [Act.put, List.getElem_toArray, List.getElem_cons_zero, List.getElem_cons_succ, List.setIfInBounds_toArray, List.set_cons_zero, List.set_cons_succ]
  refine wpAnyH_take (i := 2) (oi := _) (v := ?v2) rfl (by kernel_rfl) (by kernel_rfl) (by kernel_rfl) (fun _ _ _ h => h) (Or.inl ⟨by rfl, ?hy2⟩) (by assumption) ?rest2
  case hy2 =>
    intro W hSw
    clear hSw
    go_simp
    try (with_reducible rfl)
  try simp only [Act.put, List.getElem_toArray, List.getElem_cons_zero, List.getElem_cons_succ, List.setIfInBounds_toArray, List.set_cons_zero, List.set_cons_succ]
  refine wpAnyH_take (i := 3) (oi := _) (v := ?v3) rfl (by kernel_rfl) (by kernel_rfl) (by kernel_rfl) (fun _ _ _ h => h) (Or.inl ⟨by rfl, ?hy3⟩) (by assumption) ?rest3
  case hy3 =>
    intro W hSw
    obtain ⟨e0, e1⟩ := hSw
    go_simp
    try (with_reducible rfl)
  try simp only [Act.put, List.getElem_toArray, List.getElem_cons_zero, List.getElem_cons_succ, List.setIfInBounds_toArray, List.set_cons_zero, List.set_cons_succ]
  refine wpAnyH_take (i := 4) (oi := _) (v := ?v4) rfl (by kernel_rfl) (by kernel_rfl) (by kernel_rfl) (fun _ _ _ h => h) (Or.inl ⟨by rfl, ?hy4⟩) (by assumption) ?rest4
  case hy4 =>
    intro W hSw
    clear hSw
    go_simp
    try (with_reducible rfl)
  try simp only [Act.put, List.getElem_toArray, List.getElem_cons_zero, List.getElem_cons_succ, List.setIfInBounds_toArray, List.set_cons_zero, List.set_cons_succ]
  refine wpAnyH_take (i := 5) (oi := _) (v := ?v5) rfl (by kernel_rfl) (by kernel_rfl) (by kernel_rfl) (fun _ _ _ h => h) (Or.inl ⟨by rfl, ?hy5⟩) (by assumption) ?rest5
  case hy5 =>
    intro W hSw
    clear hSw
    go_simp
    try (with_reducible rfl)
  try simp only [Act.put, List.getElem_toArray, List.getElem_cons_zero, List.getElem_cons_succ, List.setIfInBounds_toArray, List.set_cons_zero, List.set_cons_succ]
  refine wpAnyH_take (i := 6) (oi := _) (v := ?v6) rfl (by kernel_rfl) (by kernel_rfl) (by kernel_rfl) (fun _ _ _ h => h) (Or.inl ⟨by rfl, ?hy6⟩) (by assumption) ?rest6
  case hy6 =>
    intro W hSw
    clear hSw
    go_simp
    try (with_reducible rfl)
  try simp only [Act.put, List.getElem_toArray, List.getElem_cons_zero, List.getElem_cons_succ, List.setIfInBounds_toArray, List.set_cons_zero, List.set_cons_succ]
  refine wpAnyH_take (i := 7) (oi := _) (v := ?v7) rfl (by kernel_rfl) (by kernel_rfl) (by kernel_rfl) (fun _ _ _ h => h) (Or.inl ⟨by rfl, ?hy7⟩) (by assumption) ?rest7
  case hy7 =>
    intro W hSw
    obtain ⟨e0, e1⟩ := hSw
    go_simp
    try (with_reducible rfl)
  try simp only [Act.put, List.getElem_toArray, List.getElem_cons_zero, List.getElem_cons_succ, List.setIfInBounds_toArray, List.set_cons_zero, List.set_cons_succ]
  refine wpAnyH_take (i := 8) (oi := _) (v := .bool false) rfl (by kernel_rfl) (by kernel_rfl) (by kernel_rfl) (fun _ _ _ h => h) (Or.inl ⟨by rfl, ?hy8⟩) (by assumption) ?rest8
  case hy8 =>
    intro W hSw
    clear hSw
    go_simp
    try (with_reducible rfl)
  try simp only [Act.put, List.getElem_toArray, List.getElem_cons_zero, List.getElem_cons_succ, List.setIfInBounds_toArray, List.set_cons_zero, List.set_cons_succ]
  refine wpAnyH_take (i := 9) (oi := _) (v := ?v9) rfl (by kernel_rfl) (by kernel_rfl) (by kernel_rfl) (fun _ _ _ h => h) (Or.inl ⟨by rfl, ?hy9⟩) (by assumption) ?rest9
  case hy9 =>
    intro W hSw
    clear hSw
    go_simp
    try (with_reducible rfl)
  try simp only [Act.put, List.getElem_toArray, List.getElem_cons_zero, List.getElem_cons_succ, List.setIfInBounds_toArray, List.set_cons_zero, List.set_cons_succ]
  refine wpAnyH_take (i := 10) (oi := _) (v := _) rfl (by kernel_rfl) (by kernel_rfl) (by kernel_rfl) (fun _ _ _ h => h) (Or.inr ⟨by rfl, rfl⟩) (by assumption) ?rest10
  try simp only [Act.put, List.getElem_toArray, List.getElem_cons_zero, List.getElem_cons_succ, List.setIfInBounds_toArray, List.set_cons_zero, List.set_cons_succ]
  refine wpAnyH_take (i := 11) (oi := _) (v := _) rfl (by kernel_rfl) (by kernel_rfl) (by kernel_rfl) (fun _ _ _ h => h) (Or.inr ⟨by rfl, rfl⟩) (by assumption) ?rest11
  try simp only [Act.put, List.getElem_toArray, List.getElem_cons_zero, List.getElem_cons_succ, List.setIfInBounds_toArray, List.set_cons_zero, List.set_cons_succ]
  refine wpAnyH_take (i := 12) (oi := _) (v := _) rfl (by kernel_rfl) (by kernel_rfl) (by kernel_rfl) (fun _ _ _ h => h) (Or.inr ⟨by rfl, rfl⟩) (by assumption) ?rest12
  try simp only [Act.put, List.getElem_toArray, List.getElem_cons_zero, List.getElem_cons_succ, List.setIfInBounds_toArray, List.set_cons_zero, List.set_cons_succ]
  refine wpAnyH_take (i := 13) (oi := _) (v := ?v13) rfl (by kernel_rfl) (by kernel_rfl) (by kernel_rfl) (fun _ _ _ h => h) (Or.inl ⟨by rfl, ?hy13⟩) (by assumption) ?rest13
  case hy13 =>
    intro W hSw
    clear hSw
    go_simp
    try (with_reducible rfl)
  try simp only [Act.put, List.getElem_toArray, List.getElem_cons_zero, List.getElem_cons_succ, List.setIfInBounds_toArray, List.set_cons_zero, List.set_cons_succ]

  refine wpAnyH_done (by kernel_rfl) ?_ _
  clear hHeld
  go_wp2_with (fail)
  refine HA.out.mono ?_
  rintro x W3 ⟨rfl, ⟨nx3, pv3, hS3⟩, t3⟩
  have HQ := Lib.hid (And.intro HH.out.2.2.1 (And.intro HH.out.2.1 (And.intro (Tch.of_below (F := M) HB.out) HL.out)))
  have haL : a ∉ L := fun hm => by have := HQ.out.2.2.2.1 a (.inr (.inr (List.mem_cons_of_mem _ hm))); omega
  have hU := use_anyI (hS3.setVD (a := a) (by simp) (.int .i64 v) d) (p := L) (q := []) rfl
  obtain ⟨_, c1, c2, _, _, _, fz⟩ := hS3.nodes.cells (a := a) (by simp)
  simp only [if_pos] at c1 c2
  have H3 := Lib.hid (And.intro hS3 (And.intro t3 haL))
  have HU := Lib.hid hU
  clear hS3 t3 haL hU HA
  go_wp2_with (fail)
  refine HU.out.mono ?_
  rintro x W4 ⟨rfl, ⟨nx', pv', hS4⟩, t4, z4⟩
  have H4 := Lib.hid (And.intro hS4 t4)
  clear hS4 t4 z4 HU c1 c2 fz
  go_wp2_with (fail)
  go_ret
  obtain ⟨h3, h2, ht, hlt, haW⟩ := HQ.out
  obtain ⟨hS3, t3, haL⟩ := H3.out
  obtain ⟨hS4, t4⟩ := H4.out
  have htt : Tch M W W4 := by
    refine Tch.join (G := Mine C r m (L ++ [a])) (Tch.setOut (Tch.setOut (ht.trans (t3.mono h3)) haW _) haW _) t4 (fun j hj hm => ?_)
    rcases hm with hm | hm | hm
    · exact h3 j (.inl hm)
    · exact h3 j (.inr (.inl hm))
    · refine h3 j (.inr (.inr ?_))
      rcases List.mem_cons.1 hm with hm | hm
      · rw [hm]; simp
      · rcases List.mem_append.1 hm with hm | hm
        · exact List.mem_cons_of_mem _ hm
        · exact absurd hj (by rw [List.mem_singleton.1 hm]; omega)
  have ha4 : a < W4.heap.size := heap_lt (hS4.nodes a (by simp))
  refine ⟨rfl, fun j => M j ∨ j = a, ⟨r, m, _, _, nx', pv', _, hS4, ?_, fun j hj => ?_, ?_⟩, htt, fun j hj => ?_⟩
  · rw [List.append_nil]
    refine (map_snoc _ _ a).trans (Eq.trans ?_ (map_snoc _ _ _).symm)
    rw [setVD_map haL, setVD_same, ← h2]
    simp only [if_pos]
    refine congr (congrArg _ ?_) rfl
    exact List.map_congr_left (fun x hx => if_neg (fun e => haL (by rw [← e]; exact hx)))
  · rcases hj with hm | hm | hm
    · exact .inl (h3 j (.inl hm))
    · exact .inl (h3 j (.inr (.inl hm)))
    · rw [List.append_nil] at hm
      rcases List.mem_cons.1 hm with hm | hm
      · exact .inl (h3 j (.inr (.inr (by rw [hm]; simp))))
      · rcases List.mem_append.1 hm with hm | hm
        · exact .inl (h3 j (.inr (.inr (List.mem_cons_of_mem _ hm))))
        · exact .inr (List.mem_singleton.1 hm)
  · rw [List.length_append]; exact H65.out
  · rcases hj with hj | rfl
    · exact .inl hj
    · exact .inr ⟨haW, ha4⟩
theorem putEvictI {M : Nat → Prop} {W : World} {C nb : Nat} {places : Int} {p q : List EntI} {e : EntI} (h : CSI M W C places nb (p ++ e :: q)) (k : Int) {kl : Lit} (hk : keyOf Try.prog 3 (.int .i64 k) = some kl) (hn : ∀ y ∈ p ++ e :: q, y.k ≠ k) (hr : places ≤ ((p ++ e :: q).length : Int)) (hpn : ∀ y ∈ p, y.goes = false) (hg : e.goes = true) (hnb : nb < maxLen) (v : Int) (d : Bool) :
    Calls Try.prog 15 #[PV C, .int .i64 k, .int .i64 v, .bool d] W fun x W' => x = .returned (.int .i64 0) ∧ ∃ M', CSI M' W' C places (nb + 1) (p ++ q ++ [⟨k, v, d, 0⟩]) ∧ Step M M' W W' := by
  obtain ⟨r, m, L, B, nx, pv, f, h1, h2, h3, h4⟩ := h
  have H65 := Lib.hid (show (p ++ q).length + 1 ≤ 65536 by rw [List.length_append, List.length_cons] at h4; rw [List.length_append]; omega)
  obtain ⟨P, z, Q, hL, e1, e2, e3⟩ := map_split h2
  have hf := look_noneI h1 h2 hk hn
  have FI := find_anyI h1 k hk
  rw [hf] at FI
  have HF := Lib.hid FI
  have hlen : L.length = (p ++ e :: q).length := by simpa using congrArg List.length h2
  have hPn : ∀ y ∈ P, Goes (B y) = false := goes_allI e1 hpn
  have hz : Goes (B z) = true := by rw [e2]; exact hg
  have hkv := keys_ofI h2
  have hL65 : L.length ≤ 65536 := by rw [hlen]; exact h4
  have HH := Lib.hid (And.intro h1 (And.intro hL (And.intro e1 (And.intro e3 (And.intro h3 (And.intro hf (And.intro hk (And.intro hnb (And.intro hlen (And.intro hPn (And.intro hz (And.intro hkv hL65))))))))))))
  clear h1 h2 h3 h4 hk hn FI hf hlen hnb hL e1 e2 e3 hPn hz hkv hpn hg hL65
  go_enter Try.func15, Try.ntmps15
  go_wp2_with (fail)
  refine HF.out.mono ?_
  rintro x W1 ⟨rfl, hb⟩
  have hbd : Below W.heap.size W W1.drew := hb.drew
  have hS := HH.out.1.below hbd
  obtain ⟨c0, c1, _, _, _⟩ := hS.cells
  rw [HH.out.2.2.2.2.2.2.2.2.1] at c1
  have HP := Lib.hid (evictI W1.drew hS HH.out.2.2.2.2.2.2.2.2.2.2.2.1 HH.out.2.2.2.2.2.2.2.2.2.2.2.2 HH.out.2.1 HH.out.2.2.2.2.2.2.2.2.2.1 HH.out.2.2.2.2.2.2.2.2.2.2.1)
  have HB := Lib.hid (And.intro hbd hS)
  clear hb hbd hS HF
  obtain ⟨n, hnl⟩ : ∃ n, (p ++ e :: q).length = n := ⟨_, rfl⟩
  rw [hnl] at c1 hr
  simp only [slotV]
  have hdec : decide (places ≤ (n : Int)) = true := decide_eq_true hr
  go_upto_region 5 with (fail)
  refine wp_region_held_drew (S := fun W' => W'.cell? ⟨C, 0, none⟩ = some (.int .i64 places)) (by kernel_rfl) c0 (fun hHeld => ?_)
  clear c0
  refine wpAnyH_take (i := 0) (oi := _) (v := ?v0) rfl (by kernel_rfl) (by kernel_rfl) (by kernel_rfl) (fun _ _ _ h => h) (Or.inl ⟨by rfl, ?hy0⟩) (by assumption) ?rest0
  case hy0 =>
    intro W hSw
    clear hSw
    go_simp
    try (with_reducible rfl)
  try simp only [Act.put, List.getElem_toArray, List.getElem_cons_zero, List.getElem_cons_succ, List.setIfInBounds_toArray, List.set_cons_zero, List.set_cons_succ]
  refine wpAnyH_take (i := 1) (oi := _) (v := ?v1) rfl (by kernel_rfl) (by kernel_rfl) (by kernel_rfl) (fun _ _ _ h => h) (Or.inl ⟨by rfl, ?hy1⟩) (by assumption) ?rest1
  case hy1 =>
    intro W hSw
    clear hSw
    go_simp
    try (with_reducible rfl)
  try simp only [Act.put, List.getElem_toArray, List.getElem_cons_zero, List.getElem_cons_succ, List.setIfInBounds_toArray, List.set_cons_zero, List.set_cons_succ]
  refine wpAnyH_take (i := 2) (oi := _) (v := ?v2) rfl (by kernel_rfl) (by kernel_rfl) (by kernel_rfl) (fun _ _ _ h => h) (Or.inl ⟨by rfl, ?hy2⟩) (by assumption) ?rest2
  case hy2 =>
    intro W hSw
    clear hSw
    go_simp
    try (with_reducible rfl)
  try simp only [Act.put, List.getElem_toArray, List.getElem_cons_zero, List.getElem_cons_succ, List.setIfInBounds_toArray, List.set_cons_zero, List.set_cons_succ]
  refine wpAnyH_take (i := 4) (oi := _) (v := ?v4) rfl (by kernel_rfl) (by kernel_rfl) (by kernel_rfl) (fun _ _ _ h => h) (Or.inl ⟨by rfl, ?hy4⟩) (by assumption) ?rest4
  case hy4 =>
    intro W hSw
    clear hSw
    go_simp
    try (with_reducible rfl)
  try simp only [Act.put, List.getElem_toArray, List.getElem_cons_zero, List.getElem_cons_succ, List.setIfInBounds_toArray, List.set_cons_zero, List.set_cons_succ]
  refine wpAnyH_take (i := 5) (oi := _) (v := ?v5) rfl (by kernel_rfl) (by kernel_rfl) (by kernel_rfl) (fun _ _ _ h => h) (Or.inl ⟨by rfl, ?hy5⟩) (by assumption) ?rest5
  case hy5 =>
    intro W hSw
    clear hSw
    go_simp
    try (with_reducible rfl)
  try simp only [Act.put, List.getElem_toArray, List.getElem_cons_zero, List.getElem_cons_succ, List.setIfInBounds_toArray, List.set_cons_zero, List.set_cons_succ]
  refine wpAnyH_take (i := 6) (oi := _) (v := ?v6) rfl (by kernel_rfl) (by kernel_rfl) (by kernel_rfl) (fun _ _ _ h => h) (Or.inl ⟨by rfl, ?hy6⟩) (by assumption) ?rest6
  case hy6 =>
    intro W hSw
    clear hSw
    go_simp
    try (with_reducible rfl)
  try simp only [Act.put, List.getElem_toArray, List.getElem_cons_zero, List.getElem_cons_succ, List.setIfInBounds_toArray, List.set_cons_zero, List.set_cons_succ]
  refine wpAnyH_take (i := 7) (oi := _) (v := ?v7) rfl (by kernel_rfl) (by kernel_rfl) (by kernel_rfl) (fun _ _ _ h => h) (Or.inl ⟨by rfl, ?hy7⟩) (by assumption) ?rest7
  case hy7 =>
    intro W hSw
    skip
    go_simp
    try (with_reducible rfl)
  try simp only [Act.put, List.getElem_toArray, List.getElem_cons_zero, List.getElem_cons_succ, List.setIfInBounds_toArray, List.set_cons_zero, List.set_cons_succ]

  refine wpAnyH_ready (rs := [3]) (by kernel_rfl) (by simp) ?_
  refine AllReadyH.cons (o := _) rfl (fun K hK => ?_) AllReadyH.nil
  go_simp
  refine hK.out _ _ hHeld (fun _ => ?_)
  clear hK K
  try simp only [Act.put, List.getElem_toArray, List.getElem_cons_zero, List.getElem_cons_succ, List.setIfInBounds_toArray, List.set_cons_zero, List.set_cons_succ]
  refine wpAnyH_take (i := 8) (oi := _) (v := .bool true) rfl (by kernel_rfl) (by kernel_rfl) (by kernel_rfl) (fun _ _ _ h => h) (Or.inl ⟨by rfl, ?hy8⟩) (by assumption) ?rest8
  case hy8 =>
    intro W hSw
    clear hSw
    go_simp
    try (with_reducible rfl)
  try simp only [Act.put, List.getElem_toArray, List.getElem_cons_zero, List.getElem_cons_succ, List.setIfInBounds_toArray, List.set_cons_zero, List.set_cons_succ]
  refine wpAnyH_take (i := 9) (oi := _) (v := ?v9) rfl (by kernel_rfl) (by kernel_rfl) (by kernel_rfl) (fun _ _ _ h => h) (Or.inl ⟨by rfl, ?hy9⟩) (by assumption) ?rest9
  case hy9 =>
    intro W hSw
    clear hSw
    go_simp
    try (with_reducible rfl)
  try simp only [Act.put, List.getElem_toArray, List.getElem_cons_zero, List.getElem_cons_succ, List.setIfInBounds_toArray, List.set_cons_zero, List.set_cons_succ]
  refine wpAnyH_take (i := 10) (oi := _) (v := ?v10) rfl (by kernel_rfl) (by kernel_rfl) (by kernel_rfl) (fun _ _ _ h => h) (Or.inl ⟨by rfl, ?hy10⟩) (by assumption) ?rest10
  case hy10 =>
    intro W hSw
    clear hSw
    go_simp
    try (with_reducible rfl)
  try simp only [Act.put, List.getElem_toArray, List.getElem_cons_zero, List.getElem_cons_succ, List.setIfInBounds_toArray, List.set_cons_zero, List.set_cons_succ]

  refine wpAnyH_ready (rs := [11]) (by kernel_rfl) (by simp) ?_
  refine AllReadyH.cons (o := _) rfl (fun K hK => ?_) AllReadyH.nil
  go_simp
  with_reducible (refine HP.out.mono ?_)
  rintro x W5 ⟨rfl, ⟨nx5, pv5, kl5, hS5⟩, t5⟩
  refine hK.out _ _ hS5.cells.1 (fun hHeld5 => ?_)
  have hlt5 := hS5.lt
  have hA := add_newI hS5 k HH.out.2.2.2.2.2.2.1 (by unfold updO; split; rfl; exact HH.out.2.2.2.2.2.1) HH.out.2.2.2.2.2.2.2.1 (by have := H65.out; have e9 := congrArg List.length HH.out.2.2.1; have e8 := congrArg List.length HH.out.2.2.2.1; simp at e9 e8 this ⊢; omega)
  obtain ⟨a, ha⟩ : ∃ a, W5.heap.size = a := ⟨_, rfl⟩
  rw [ha] at hA hlt5
  have htt5 : Tch M W W5 := (Tch.of_below HB.out.1).trans (t5.mono HH.out.2.2.2.2.1)
  have haW : W.heap.size ≤ a := by rw [← ha]; exact htt5.size
  have HQ := Lib.hid (And.intro (show ∀ j, Mine C r m (P ++ Q) j → M j from fun j hj => HH.out.2.2.2.2.1 j (Mine.of_mem (fun x hx => by rw [HH.out.2.1]; simp at hx ⊢; rcases hx with h | h <;> simp [h]) j hj)) (And.intro (show (P ++ Q).map B = (p ++ q).map EntI.enc by rw [List.map_append, List.map_append, HH.out.2.2.1, HH.out.2.2.2.1]) (And.intro htt5 (And.intro hlt5 haW))))
  have HA := Lib.hid hA
  clear hK K hHeld hA hlt5 hS5 t5 htt5 haW HP c1 ha
  try simp only [Act.put, List.getElem_toArray, List.getElem_cons_zero, List.getElem_cons_succ, List.setIfInBounds_toArray, List.set_cons_zero, List.set_cons_succ]
  have hHeld := hHeld5
  clear hHeld5
  refine wpAnyH_take (i := 12) (oi := _) (v := .bool false) rfl (by kernel_rfl) (by kernel_rfl) (by kernel_rfl) (fun _ _ _ h => h) (Or.inl ⟨by rfl, ?hy12⟩) (by assumption) ?rest12
  case hy12 =>
    intro W hSw
    clear hSw
    go_simp
    try (with_reducible rfl)
  try simp only [Act.put, List.getElem_toArray, List.getElem_cons_zero, List.getElem_cons_succ, List.setIfInBounds_toArray, List.set_cons_zero, List.set_cons_succ]
  refine wpAnyH_take (i := 13) (oi := _) (v := ?v13) rfl (by kernel_rfl) (by kernel_rfl) (by kernel_rfl) (fun _ _ _ h => h) (Or.inl ⟨by rfl, ?hy13⟩) (by assumption) ?rest13
  case hy13 =>
    intro W hSw
    clear hSw
    go_simp
    try (with_reducible rfl)
  try simp only [Act.put, List.getElem_toArray, List.getElem_cons_zero, List.getElem_cons_succ, List.setIfInBounds_toArray, List.set_cons_zero, List.set_cons_succ]

  refine wpAnyH_done (by kernel_rfl) ?_ _
  clear hHeld
  go_wp2_with (fail)
  refine HA.out.mono ?_
  rintro x W3 ⟨rfl, ⟨nx3, pv3, hS3⟩, t3⟩
  have haL : a ∉ (P ++ Q) := fun hm => by have := HQ.out.2.2.2.1 a (.inr (.inr (List.mem_cons_of_mem _ hm))); omega
  have hU := use_anyI (hS3.setVD (a := a) (by simp) (.int .i64 v) d) (p := (P ++ Q)) (q := []) rfl
  obtain ⟨_, c1, c2, _, _, _, fz⟩ := hS3.nodes.cells (a := a) (by simp)
  simp only [if_pos] at c1 c2
  have H3 := Lib.hid (And.intro hS3 (And.intro t3 haL))
  have HU := Lib.hid hU
  clear hS3 t3 haL hU HA
  go_wp2_with (fail)
  refine HU.out.mono ?_
  rintro x W4 ⟨rfl, ⟨nx', pv', hS4⟩, t4, z4⟩
  have H4 := Lib.hid (And.intro hS4 t4)
  clear hS4 t4 z4 HU c1 c2 fz
  go_wp2_with (fail)
  go_ret
  obtain ⟨h3, h2, ht, hlt, haW⟩ := HQ.out
  obtain ⟨hS3, t3, haL⟩ := H3.out
  obtain ⟨hS4, t4⟩ := H4.out
  have htt : Tch M W W4 := by
    refine Tch.join (G := Mine C r m ((P ++ Q) ++ [a])) (Tch.setOut (Tch.setOut (ht.trans (t3.mono h3)) haW _) haW _) t4 (fun j hj hm => ?_)
    rcases hm with hm | hm | hm
    · exact h3 j (.inl hm)
    · exact h3 j (.inr (.inl hm))
    · refine h3 j (.inr (.inr ?_))
      rcases List.mem_cons.1 hm with hm | hm
      · rw [hm]; simp
      · rcases List.mem_append.1 hm with hm | hm
        · exact List.mem_cons_of_mem _ hm
        · exact absurd hj (by rw [List.mem_singleton.1 hm]; omega)
  have ha4 : a < W4.heap.size := heap_lt (hS4.nodes a (by simp))
  refine ⟨rfl, fun j => M j ∨ j = a, ⟨r, m, _, _, nx', pv', _, hS4, ?_, fun j hj => ?_, ?_⟩, htt, fun j hj => ?_⟩
  · rw [List.append_nil]
    refine (map_snoc _ _ a).trans (Eq.trans ?_ (map_snoc _ _ _).symm)
    rw [setVD_map haL, setVD_same, ← h2]
    simp only [if_pos]
    refine congr (congrArg _ ?_) rfl
    exact List.map_congr_left (fun x hx => if_neg (fun e => haL (by rw [← e]; exact hx)))
  · rcases hj with hm | hm | hm
    · exact .inl (h3 j (.inl hm))
    · exact .inl (h3 j (.inr (.inl hm)))
    · rw [List.append_nil] at hm
      rcases List.mem_cons.1 hm with hm | hm
      · exact .inl (h3 j (.inr (.inr (by rw [hm]; simp))))
      · rcases List.mem_append.1 hm with hm | hm
        · exact .inl (h3 j (.inr (.inr (List.mem_cons_of_mem _ hm))))
        · exact .inr (List.mem_singleton.1 hm)
  · rw [List.length_append]; exact H65.out
  · rcases hj with hj | rfl
    · exact .inl hj
    · exact .inr ⟨haW, ha4⟩
theorem fullI (w : World) {C r m nb : Nat} {places : Int} {L : List Nat} {B : Nat → EntV} {nx pv : Nat → Nat} {f : Lit → Option Nat} (h : CAt Try.prog 74 67 3 w C r m places nb L B nx pv f) (hkv : ∀ x ∈ L, ∃ k : Int, (B x).k = .int .i64 k) (hlen : L.length ≤ 65536) (hN : ∀ y ∈ L, Goes (B y) = false) :
    Calls Try.prog 43 #[PV C] w fun x W' => x = .returned (.bool false) ∧ Below w.heap.size w W' := by
  refine (makePlaceI w h hkv hlen).mono ?_
  rintro x W' (⟨_, p, a, q, e, _, h2, _⟩ | ⟨rfl, _, hb⟩)
  · have := hN a (by rw [e]; simp)
    rw [h2] at this
    cases this
  · exact ⟨rfl, hb⟩
theorem putFullI {M : Nat → Prop} {W : World} {C nb : Nat} {places : Int} {l : List EntI} (h : CSI M W C places nb l) (k : Int) {kl : Lit} (hk : keyOf Try.prog 3 (.int .i64 k) = some kl) (hn : ∀ y ∈ l, y.k ≠ k) (hr : places ≤ (l.length : Int)) (hg : ∀ y ∈ l, y.goes = false) (v : Int) (d : Bool) :
    Calls Try.prog 15 #[PV C, .int .i64 k, .int .i64 v, .bool d] W fun x W' => x = .returned (.int .i64 4) ∧ CSI M W' C places nb l ∧ Step M M W W' := by
  have HC := Lib.hid h
  obtain ⟨r, m, L, B, nx, pv, f, h1, h2, h3, h4⟩ := h
  have hf := look_noneI h1 h2 hk hn
  have FI := find_anyI h1 k hk
  rw [hf] at FI
  have HF := Lib.hid FI
  have hlen : L.length = l.length := by simpa using congrArg List.length h2
  have HH := Lib.hid (And.intro h1 (And.intro hlen (And.intro (keys_ofI h2) (And.intro (show L.length ≤ 65536 by rw [hlen]; exact h4) (goes_allI h2 hg)))))
  clear h1 h2 h3 h4 hk hn FI hf hlen hg
  go_enter Try.func15, Try.ntmps15
  go_wp2_with (fail)
  refine HF.out.mono ?_
  rintro x W1 ⟨rfl, hb⟩
  have hbd : Below W.heap.size W W1.drew := hb.drew
  have hS := HH.out.1.below hbd
  obtain ⟨c0, c1, _, _, _⟩ := hS.cells
  rw [HH.out.2.1] at c1
  have HP := Lib.hid (fullI W1.drew hS HH.out.2.2.1 HH.out.2.2.2.1 HH.out.2.2.2.2)
  have HB := Lib.hid (And.intro hbd hS)
  clear hb hbd hS HF
  obtain ⟨n, hnl⟩ : ∃ n, l.length = n := ⟨_, rfl⟩
  rw [hnl] at c1 hr
  simp only [slotV]
  have hdec : decide (places ≤ (n : Int)) = true := decide_eq_true hr
  go_upto_region 5 with (fail)
  refine wp_region_held_drew (S := fun W' => W'.cell? ⟨C, 0, none⟩ = some (.int .i64 places)) (by kernel_rfl) c0 (fun hHeld => ?_)
  clear c0
  refine wpAnyH_take (i := 0) (oi := _) (v := ?v0) rfl (by kernel_rfl) (by kernel_rfl) (by kernel_rfl) (fun _ _ _ h => h) (Or.inl ⟨by rfl, ?hy0⟩) (by assumption) ?rest0
  case hy0 =>
    intro W hSw
    clear hSw
    go_simp
    try (with_reducible rfl)
  try simp only [Act.put, List.getElem_toArray, List.getElem_cons_zero, List.getElem_cons_succ, List.setIfInBounds_toArray, List.set_cons_zero, List.set_cons_succ]
  refine wpAnyH_take (i := 1) (oi := _) (v := ?v1) rfl (by kernel_rfl) (by kernel_rfl) (by kernel_rfl) (fun _ _ _ h => h) (Or.inl ⟨by rfl, ?hy1⟩) (by assumption) ?rest1
  case hy1 =>
    intro W hSw
    clear hSw
    go_simp
    try (with_reducible rfl)
  try simp only [Act.put, List.getElem_toArray, List.getElem_cons_zero, List.getElem_cons_succ, List.setIfInBounds_toArray, List.set_cons_zero, List.set_cons_succ]
  refine wpAnyH_take (i := 2) (oi := _) (v := ?v2) rfl (by kernel_rfl) (by kernel_rfl) (by kernel_rfl) (fun _ _ _ h => h) (Or.inl ⟨by rfl, ?hy2⟩) (by assumption) ?rest2
  case hy2 =>
    intro W hSw
    clear hSw
    go_simp
    try (with_reducible rfl)
  try simp only [Act.put, List.getElem_toArray, List.getElem_cons_zero, List.getElem_cons_succ, List.setIfInBounds_toArray, List.set_cons_zero, List.set_cons_succ]
  refine wpAnyH_take (i := 4) (oi := _) (v := ?v4) rfl (by kernel_rfl) (by kernel_rfl) (by kernel_rfl) (fun _ _ _ h => h) (Or.inl ⟨by rfl, ?hy4⟩) (by assumption) ?rest4
  case hy4 =>
    intro W hSw
    clear hSw
    go_simp
    try (with_reducible rfl)
  try simp only [Act.put, List.getElem_toArray, List.getElem_cons_zero, List.getElem_cons_succ, List.setIfInBounds_toArray, List.set_cons_zero, List.set_cons_succ]
  refine wpAnyH_take (i := 5) (oi := _) (v := ?v5) rfl (by kernel_rfl) (by kernel_rfl) (by kernel_rfl) (fun _ _ _ h => h) (Or.inl ⟨by rfl, ?hy5⟩) (by assumption) ?rest5
  case hy5 =>
    intro W hSw
    clear hSw
    go_simp
    try (with_reducible rfl)
  try simp only [Act.put, List.getElem_toArray, List.getElem_cons_zero, List.getElem_cons_succ, List.setIfInBounds_toArray, List.set_cons_zero, List.set_cons_succ]
  refine wpAnyH_take (i := 6) (oi := _) (v := ?v6) rfl (by kernel_rfl) (by kernel_rfl) (by kernel_rfl) (fun _ _ _ h => h) (Or.inl ⟨by rfl, ?hy6⟩) (by assumption) ?rest6
  case hy6 =>
    intro W hSw
    clear hSw
    go_simp
    try (with_reducible rfl)
  try simp only [Act.put, List.getElem_toArray, List.getElem_cons_zero, List.getElem_cons_succ, List.setIfInBounds_toArray, List.set_cons_zero, List.set_cons_succ]
  refine wpAnyH_take (i := 7) (oi := _) (v := ?v7) rfl (by kernel_rfl) (by kernel_rfl) (by kernel_rfl) (fun _ _ _ h => h) (Or.inl ⟨by rfl, ?hy7⟩) (by assumption) ?rest7
  case hy7 =>
    intro W hSw
    skip
    go_simp
    try (with_reducible rfl)
  try simp only [Act.put, List.getElem_toArray, List.getElem_cons_zero, List.getElem_cons_succ, List.setIfInBounds_toArray, List.set_cons_zero, List.set_cons_succ]

  refine wpAnyH_ready (rs := [3]) (by kernel_rfl) (by simp) ?_
  refine AllReadyH.cons (o := _) rfl (fun K hK => ?_) AllReadyH.nil
  go_simp
  refine hK.out _ _ hHeld (fun _ => ?_)
  clear hK K
  try simp only [Act.put, List.getElem_toArray, List.getElem_cons_zero, List.getElem_cons_succ, List.setIfInBounds_toArray, List.set_cons_zero, List.set_cons_succ]
  refine wpAnyH_take (i := 8) (oi := _) (v := .bool true) rfl (by kernel_rfl) (by kernel_rfl) (by kernel_rfl) (fun _ _ _ h => h) (Or.inl ⟨by rfl, ?hy8⟩) (by assumption) ?rest8
  case hy8 =>
    intro W hSw
    clear hSw
    go_simp
    try (with_reducible rfl)
  try simp only [Act.put, List.getElem_toArray, List.getElem_cons_zero, List.getElem_cons_succ, List.setIfInBounds_toArray, List.set_cons_zero, List.set_cons_succ]
  refine wpAnyH_take (i := 9) (oi := _) (v := ?v9) rfl (by kernel_rfl) (by kernel_rfl) (by kernel_rfl) (fun _ _ _ h => h) (Or.inl ⟨by rfl, ?hy9⟩) (by assumption) ?rest9
  case hy9 =>
    intro W hSw
    clear hSw
    go_simp
    try (with_reducible rfl)
  try simp only [Act.put, List.getElem_toArray, List.getElem_cons_zero, List.getElem_cons_succ, List.setIfInBounds_toArray, List.set_cons_zero, List.set_cons_succ]
  refine wpAnyH_take (i := 10) (oi := _) (v := ?v10) rfl (by kernel_rfl) (by kernel_rfl) (by kernel_rfl) (fun _ _ _ h => h) (Or.inl ⟨by rfl, ?hy10⟩) (by assumption) ?rest10
  case hy10 =>
    intro W hSw
    clear hSw
    go_simp
    try (with_reducible rfl)
  try simp only [Act.put, List.getElem_toArray, List.getElem_cons_zero, List.getElem_cons_succ, List.setIfInBounds_toArray, List.set_cons_zero, List.set_cons_succ]

  refine wpAnyH_ready (rs := [11]) (by kernel_rfl) (by simp) ?_
  refine AllReadyH.cons (o := _) rfl (fun K hK => ?_) AllReadyH.nil
  go_simp
  with_reducible (refine HP.out.mono ?_)
  rintro x W5 ⟨rfl, b5⟩
  refine hK.out _ _ (HB.out.2.below b5).cells.1 (fun hHeld5 => ?_)
  have HB5 := Lib.hid (bcat HB.out.1 b5)
  clear hK K hHeld b5 HP c1
  try simp only [Act.put, List.getElem_toArray, List.getElem_cons_zero, List.getElem_cons_succ, List.setIfInBounds_toArray, List.set_cons_zero, List.set_cons_succ]
  have hHeld := hHeld5
  clear hHeld5
  refine wpAnyH_take (i := 12) (oi := _) (v := .bool true) rfl (by kernel_rfl) (by kernel_rfl) (by kernel_rfl) (fun _ _ _ h => h) (Or.inl ⟨by rfl, ?hy12⟩) (by assumption) ?rest12
  case hy12 =>
    intro W hSw
    clear hSw
    go_simp
    try (with_reducible rfl)
  try simp only [Act.put, List.getElem_toArray, List.getElem_cons_zero, List.getElem_cons_succ, List.setIfInBounds_toArray, List.set_cons_zero, List.set_cons_succ]
  refine wpAnyH_take (i := 13) (oi := _) (v := ?v13) rfl (by kernel_rfl) (by kernel_rfl) (by kernel_rfl) (fun _ _ _ h => h) (Or.inl ⟨by rfl, ?hy13⟩) (by assumption) ?rest13
  case hy13 =>
    intro W hSw
    clear hSw
    go_simp
    try (with_reducible rfl)
  try simp only [Act.put, List.getElem_toArray, List.getElem_cons_zero, List.getElem_cons_succ, List.setIfInBounds_toArray, List.set_cons_zero, List.set_cons_succ]

  refine wpAnyH_done (by kernel_rfl) ?_ _
  clear hHeld
  go_wp2_with (fail)
  go_ret
  have t : Tch (fun _ => False) W W5 := Tch.of_below HB5.out
  exact ⟨rfl, HC.out.tch t (fun _ _ => id), t.mono (fun _ h => h.elim), fun k hk => .inl hk⟩
end Go.Proofs.Ytaigbplidkakhaa
