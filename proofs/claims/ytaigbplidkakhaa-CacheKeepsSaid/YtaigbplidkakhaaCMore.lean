/- Proved here: Drop, Pin, Unpin and Clean of a cache of ints: a key that is there, a key that is not. -/
import Derived.Test.YtaigbplidkakhaaCPut
namespace Go.Proofs.Ytaigbplidkakhaa
open Go.RowKit Go.ChangeMaps

def sDP (B : Nat → EntV) (a : Nat) (d : Bool) (p : Nat) (x : Nat) : EntV := if x = a then ⟨(B a).k, (B a).v, d, p⟩ else B x
theorem sDP_key (B : Nat → EntV) (a : Nat) (d : Bool) (p : Nat) (x : Nat) : (sDP B a d p x).k = (B x).k := by
  unfold sDP
  by_cases e : x = a
  · rw [if_pos e, e]
  · rw [if_neg e]
theorem sDP_same (B : Nat → EntV) (a : Nat) (d : Bool) (p : Nat) : sDP B a d p a = ⟨(B a).k, (B a).v, d, p⟩ := if_pos rfl
theorem sDP_map {B : Nat → EntV} {a : Nat} {d : Bool} {p : Nat} {P : List Nat} (h : a ∉ P) : P.map (sDP B a d p) = P.map B := List.map_congr_left (fun x hx => if_neg (fun e => h (by rw [← e]; exact hx)))
theorem CAt.body {P : Program} {E T K : TypeId} {W W' : World} {C r m nb : Nat} {places : Int} {L : List Nat} {B : Nat → EntV} {nx pv : Nat → Nat} {f : Lit → Option Nat} (h : CAt P E T K W C r m places nb L B nx pv f) {a : Nat} (ha : a ∈ L) (d : Bool) (p : Nat)
    (hs : ∀ k, k ≠ a → W'.heap[k]? = W.heap[k]?) (hb : W'.heap[a]? = some (.cells (entC ⟨(B a).k, (B a).v, d, p⟩ (PV (pv a)) (PV (nx a))) E (0, 0))) : CAt P E T K W' C r m places nb L (sDP B a d p) nx pv f := by
  have hCa : C ≠ a := fun e => h.cr (by rw [e]; exact List.mem_cons_of_mem _ ha)
  have hma : m ≠ a := fun e => h.mr (by rw [e]; exact List.mem_cons_of_mem _ ha)
  refine ⟨(hs C hCa).trans h.blk, h.ring, fun x hx => ?_, h.map.keep (hs m hma), fun x hx => ?_, fun kl x hf => ?_, h.cr, h.mr, h.cm⟩
  · by_cases e : x = a
    · subst e
      rw [hb, sDP_same]
    · rw [hs x e, h.nodes x hx]
      unfold sDP
      rw [if_neg e]
  · rw [sDP_key]; exact h.keyed x hx
  · rw [sDP_key]; exact h.only kl x hf
theorem noneDrop {M : Nat → Prop} {W : World} {C nb : Nat} {places : Int} {l : List EntI} (h : CSI M W C places nb l) (k : Int) {kl : Lit} (hk : keyOf Try.prog 3 (.int .i64 k) = some kl) (hn : ∀ e ∈ l, e.k ≠ k) :
    Calls Try.prog 22 #[PV C, .int .i64 k] W fun x W' => x = .returned (.bool false) ∧ CSI M W' C places nb l ∧ Step M M W W' := by
  have HH := Lib.hid h
  obtain ⟨r, m, L, B, nx, pv, f, h1, h2, h3, h4⟩ := h
  have FI := find_anyI h1 k hk
  rw [look_noneI h1 h2 hk hn] at FI
  have HF := Lib.hid FI
  clear h1 h2 h3 h4 hk hn FI
  go_enter Try.func22, Try.ntmps22
  go_wp2_with (fail)
  refine HF.out.mono ?_
  rintro x W1 ⟨rfl, hb⟩
  have HB := Lib.hid hb
  clear hb
  simp only [slotV]
  go_wp2_with (fail)
  go_ret
  have t : Tch (fun _ => False) W W1 := Tch.of_below HB.out
  exact ⟨rfl, HH.out.tch t (fun _ _ => id), t.mono (fun _ h => h.elim), fun k hk => .inl hk⟩
theorem nonePin {M : Nat → Prop} {W : World} {C nb : Nat} {places : Int} {l : List EntI} (h : CSI M W C places nb l) (k : Int) {kl : Lit} (hk : keyOf Try.prog 3 (.int .i64 k) = some kl) (hn : ∀ e ∈ l, e.k ≠ k) :
    Calls Try.prog 16 #[PV C, .int .i64 k] W fun x W' => x = .returned (.bool false) ∧ CSI M W' C places nb l ∧ Step M M W W' := by
  have HH := Lib.hid h
  obtain ⟨r, m, L, B, nx, pv, f, h1, h2, h3, h4⟩ := h
  have FI := find_anyI h1 k hk
  rw [look_noneI h1 h2 hk hn] at FI
  have HF := Lib.hid FI
  clear h1 h2 h3 h4 hk hn FI
  go_enter Try.func16, Try.ntmps16
  go_wp2_with (fail)
  refine HF.out.mono ?_
  rintro x W1 ⟨rfl, hb⟩
  have HB := Lib.hid hb
  clear hb
  simp only [slotV]
  go_wp2_with (fail)
  go_ret
  have t : Tch (fun _ => False) W W1 := Tch.of_below HB.out
  exact ⟨rfl, HH.out.tch t (fun _ _ => id), t.mono (fun _ h => h.elim), fun k hk => .inl hk⟩
theorem noneUnpin {M : Nat → Prop} {W : World} {C nb : Nat} {places : Int} {l : List EntI} (h : CSI M W C places nb l) (k : Int) {kl : Lit} (hk : keyOf Try.prog 3 (.int .i64 k) = some kl) (hn : ∀ e ∈ l, e.k ≠ k) :
    Calls Try.prog 17 #[PV C, .int .i64 k] W fun x W' => x = .returned (.bool false) ∧ CSI M W' C places nb l ∧ Step M M W W' := by
  have HH := Lib.hid h
  obtain ⟨r, m, L, B, nx, pv, f, h1, h2, h3, h4⟩ := h
  have FI := find_anyI h1 k hk
  rw [look_noneI h1 h2 hk hn] at FI
  have HF := Lib.hid FI
  clear h1 h2 h3 h4 hk hn FI
  go_enter Try.func17, Try.ntmps17
  go_wp2_with (fail)
  refine HF.out.mono ?_
  rintro x W1 ⟨rfl, hb⟩
  have HB := Lib.hid hb
  clear hb
  simp only [slotV]
  go_wp2_with (fail)
  go_ret
  have t : Tch (fun _ => False) W W1 := Tch.of_below HB.out
  exact ⟨rfl, HH.out.tch t (fun _ _ => id), t.mono (fun _ h => h.elim), fun k hk => .inl hk⟩
theorem noneClean {M : Nat → Prop} {W : World} {C nb : Nat} {places : Int} {l : List EntI} (h : CSI M W C places nb l) (k : Int) {kl : Lit} (hk : keyOf Try.prog 3 (.int .i64 k) = some kl) (hn : ∀ e ∈ l, e.k ≠ k) :
    Calls Try.prog 18 #[PV C, .int .i64 k] W fun x W' => x = .returned (.bool false) ∧ CSI M W' C places nb l ∧ Step M M W W' := by
  have HH := Lib.hid h
  obtain ⟨r, m, L, B, nx, pv, f, h1, h2, h3, h4⟩ := h
  have FI := find_anyI h1 k hk
  rw [look_noneI h1 h2 hk hn] at FI
  have HF := Lib.hid FI
  clear h1 h2 h3 h4 hk hn FI
  go_enter Try.func18, Try.ntmps18
  go_wp2_with (fail)
  refine HF.out.mono ?_
  rintro x W1 ⟨rfl, hb⟩
  have HB := Lib.hid hb
  clear hb
  simp only [slotV]
  go_wp2_with (fail)
  go_ret
  have t : Tch (fun _ => False) W W1 := Tch.of_below HB.out
  exact ⟨rfl, HH.out.tch t (fun _ _ => id), t.mono (fun _ h => h.elim), fun k hk => .inl hk⟩
theorem thereClean0 {M : Nat → Prop} {W : World} {C nb : Nat} {places : Int} {p q : List EntI} {e : EntI} (h : CSI M W C places nb (p ++ e :: q)) (k : Int) {kl : Lit} (hk : keyOf Try.prog 3 (.int .i64 k) = some kl) (hek : e.k = k) (hd : e.d = false) :
    Calls Try.prog 18 #[PV C, .int .i64 k] W fun x W' => x = .returned (.bool false) ∧ CSI M W' C places nb (p ++ e :: q) ∧ Step M M W W' := by
  obtain ⟨r, m, L, B, nx, pv, f, h1, h2, h3, h4⟩ := h
  obtain ⟨P, a, Q, hL, e1, e2, e3⟩ := map_split h2
  have haL : a ∈ L := by rw [hL]; simp
  have FI := find_anyI h1 k hk
  rw [look_someI h1 haL e2 hk hek] at FI
  have HF := Lib.hid FI
  have HH := Lib.hid (And.intro h1 (And.intro hL (And.intro e1 (And.intro e2 (And.intro e3 (And.intro h3 (And.intro h4 haL)))))))
  clear h1 h2 h3 h4 hk hek FI hL e1 e2 e3 haL
  go_enter Try.func18, Try.ntmps18
  go_wp2_with (fail)
  refine HF.out.mono ?_
  rintro x W1 ⟨rfl, hb⟩
  have hS := HH.out.1.below hb
  have hNd := hS.nodes a (List.mem_cons_of_mem _ HH.out.2.2.2.2.2.2.2)
  obtain ⟨_, _, c2, c3, _, _, fz⟩ := hS.nodes.cells (a := a) (List.mem_cons_of_mem _ HH.out.2.2.2.2.2.2.2)
  rw [HH.out.2.2.2.1] at c2 c3
  simp only [EntI.enc] at c2 c3
  have HB := Lib.hid (And.intro hb (And.intro hS hNd))
  clear hb hS hNd HF
  simp only [slotV]
  rw [hd] at c2
  go_wp2_with (fail)
  go_ret
  obtain ⟨h1, hL, e1, e2, e3, h3, h4, haL⟩ := HH.out
  obtain ⟨hb, hS, hNd⟩ := HB.out
  exact ⟨rfl, ⟨r, m, L, B, nx, pv, f, hS, by rw [hL, List.map_append, List.map_append, List.map_cons, List.map_cons, e1, e2, e3], h3, h4⟩, Tch.of_below hb, fun k hk => .inl hk⟩
theorem thereClean1 {M : Nat → Prop} {W : World} {C nb : Nat} {places : Int} {p q : List EntI} {e : EntI} (h : CSI M W C places nb (p ++ e :: q)) (k : Int) {kl : Lit} (hk : keyOf Try.prog 3 (.int .i64 k) = some kl) (hek : e.k = k) (hd : e.d = true) :
    Calls Try.prog 18 #[PV C, .int .i64 k] W fun x W' => x = .returned (.bool true) ∧ CSI M W' C places nb (p ++ ⟨e.k, e.v, false, e.p⟩ :: q) ∧ Step M M W W' := by
  obtain ⟨r, m, L, B, nx, pv, f, h1, h2, h3, h4⟩ := h
  obtain ⟨P, a, Q, hL, e1, e2, e3⟩ := map_split h2
  have haL : a ∈ L := by rw [hL]; simp
  have FI := find_anyI h1 k hk
  rw [look_someI h1 haL e2 hk hek] at FI
  have HF := Lib.hid FI
  have HH := Lib.hid (And.intro h1 (And.intro hL (And.intro e1 (And.intro e2 (And.intro e3 (And.intro h3 (And.intro h4 haL)))))))
  clear h1 h2 h3 h4 hk hek FI hL e1 e2 e3 haL
  go_enter Try.func18, Try.ntmps18
  go_wp2_with (fail)
  refine HF.out.mono ?_
  rintro x W1 ⟨rfl, hb⟩
  have hS := HH.out.1.below hb
  have hNd := hS.nodes a (List.mem_cons_of_mem _ HH.out.2.2.2.2.2.2.2)
  obtain ⟨_, _, c2, c3, _, _, fz⟩ := hS.nodes.cells (a := a) (List.mem_cons_of_mem _ HH.out.2.2.2.2.2.2.2)
  rw [HH.out.2.2.2.1] at c2 c3
  simp only [EntI.enc] at c2 c3
  have HB := Lib.hid (And.intro hb (And.intro hS hNd))
  clear hb hS hNd HF
  simp only [slotV]
  rw [hd] at c2
  go_wp2_with (fail)
  go_ret
  obtain ⟨h1, hL, e1, e2, e3, h3, h4, haL⟩ := HH.out
  obtain ⟨hb, hS, hNd⟩ := HB.out
  have hnL : L.Nodup := (List.nodup_cons.1 h1.ring.nodup).2
  rw [hL, List.nodup_append, List.nodup_cons] at hnL
  have haP : a ∉ P := fun hm => hnL.2.2 a hm a List.mem_cons_self rfl
  have haQ : a ∉ Q := hnL.2.1.1
  refine ⟨rfl, ⟨r, m, L, sDP B a (false) (e.p), nx, pv, f, hS.body haL _ _ (fun k hk => set_oth hk) ?_, ?_, h3, by simpa using h4⟩, (Tch.of_below hb).set (p := ⟨a, 2, none⟩) (h3 a (.inr (.inr (List.mem_cons_of_mem _ haL)))) _, fun k hk => .inl hk⟩
  · rw [row_put _ hNd, e2]
    rfl
  · rw [hL, List.map_append, List.map_append, List.map_cons, List.map_cons, sDP_map haP, sDP_map haQ, sDP_same, e1, e2, e3]
    rfl
theorem thereUnpin0 {M : Nat → Prop} {W : World} {C nb : Nat} {places : Int} {p q : List EntI} {e : EntI} (h : CSI M W C places nb (p ++ e :: q)) (k : Int) {kl : Lit} (hk : keyOf Try.prog 3 (.int .i64 k) = some kl) (hek : e.k = k) (hp : e.p = 0) :
    Calls Try.prog 17 #[PV C, .int .i64 k] W fun x W' => x = .returned (.bool false) ∧ CSI M W' C places nb (p ++ e :: q) ∧ Step M M W W' := by
  obtain ⟨r, m, L, B, nx, pv, f, h1, h2, h3, h4⟩ := h
  obtain ⟨P, a, Q, hL, e1, e2, e3⟩ := map_split h2
  have haL : a ∈ L := by rw [hL]; simp
  have FI := find_anyI h1 k hk
  rw [look_someI h1 haL e2 hk hek] at FI
  have HF := Lib.hid FI
  have HH := Lib.hid (And.intro h1 (And.intro hL (And.intro e1 (And.intro e2 (And.intro e3 (And.intro h3 (And.intro h4 haL)))))))
  clear h1 h2 h3 h4 hk hek FI hL e1 e2 e3 haL
  go_enter Try.func17, Try.ntmps17
  go_wp2_with (fail)
  refine HF.out.mono ?_
  rintro x W1 ⟨rfl, hb⟩
  have hS := HH.out.1.below hb
  have hNd := hS.nodes a (List.mem_cons_of_mem _ HH.out.2.2.2.2.2.2.2)
  obtain ⟨_, _, c2, c3, _, _, fz⟩ := hS.nodes.cells (a := a) (List.mem_cons_of_mem _ HH.out.2.2.2.2.2.2.2)
  rw [HH.out.2.2.2.1] at c2 c3
  simp only [EntI.enc] at c2 c3
  have HB := Lib.hid (And.intro hb (And.intro hS hNd))
  clear hb hS hNd HF
  simp only [slotV]
  rw [hp] at c3
  go_wp2_with (fail)
  go_ret
  obtain ⟨h1, hL, e1, e2, e3, h3, h4, haL⟩ := HH.out
  obtain ⟨hb, hS, hNd⟩ := HB.out
  exact ⟨rfl, ⟨r, m, L, B, nx, pv, f, hS, by rw [hL, List.map_append, List.map_append, List.map_cons, List.map_cons, e1, e2, e3], h3, h4⟩, Tch.of_below hb, fun k hk => .inl hk⟩
theorem thereUnpin1 {M : Nat → Prop} {W : World} {C nb : Nat} {places : Int} {p q : List EntI} {e : EntI} (h : CSI M W C places nb (p ++ e :: q)) (k : Int) {kl : Lit} (hk : keyOf Try.prog 3 (.int .i64 k) = some kl) (hek : e.k = k) (hp : e.p ≠ 0) (hb : e.p ≤ 1000000) :
    Calls Try.prog 17 #[PV C, .int .i64 k] W fun x W' => x = .returned (.bool true) ∧ CSI M W' C places nb (p ++ ⟨e.k, e.v, e.d, e.p - 1⟩ :: q) ∧ Step M M W W' := by
  obtain ⟨r, m, L, B, nx, pv, f, h1, h2, h3, h4⟩ := h
  obtain ⟨P, a, Q, hL, e1, e2, e3⟩ := map_split h2
  have haL : a ∈ L := by rw [hL]; simp
  have FI := find_anyI h1 k hk
  rw [look_someI h1 haL e2 hk hek] at FI
  have HF := Lib.hid FI
  have HH := Lib.hid (And.intro h1 (And.intro hL (And.intro e1 (And.intro e2 (And.intro e3 (And.intro h3 (And.intro h4 haL)))))))
  clear h1 h2 h3 h4 hk hek FI hL e1 e2 e3 haL
  go_enter Try.func17, Try.ntmps17
  go_wp2_with (fail)
  refine HF.out.mono ?_
  rintro x W1 ⟨rfl, hb⟩
  have hS := HH.out.1.below hb
  have hNd := hS.nodes a (List.mem_cons_of_mem _ HH.out.2.2.2.2.2.2.2)
  obtain ⟨_, _, c2, c3, _, _, fz⟩ := hS.nodes.cells (a := a) (List.mem_cons_of_mem _ HH.out.2.2.2.2.2.2.2)
  rw [HH.out.2.2.2.1] at c2 c3
  simp only [EntI.enc] at c2 c3
  have HB := Lib.hid (And.intro hb (And.intro hS hNd))
  clear hb hS hNd HF
  simp only [slotV]
  obtain ⟨n, hn⟩ : ∃ n, e.p = n + 1 := ⟨e.p - 1, by omega⟩
  rw [hn] at c3 hb
  have hsub : wrap64 (((n + 1 : Nat) : Int) - 1) = (n : Int) := by unfold wrap64; omega
  go_wp2_with (fail)
  go_ret
  have hn1 : e.p - 1 = n := by omega
  rw [hn1]
  obtain ⟨h1, hL, e1, e2, e3, h3, h4, haL⟩ := HH.out
  obtain ⟨hb, hS, hNd⟩ := HB.out
  have hnL : L.Nodup := (List.nodup_cons.1 h1.ring.nodup).2
  rw [hL, List.nodup_append, List.nodup_cons] at hnL
  have haP : a ∉ P := fun hm => hnL.2.2 a hm a List.mem_cons_self rfl
  have haQ : a ∉ Q := hnL.2.1.1
  refine ⟨rfl, ⟨r, m, L, sDP B a (e.d) (n), nx, pv, f, hS.body haL _ _ (fun k hk => set_oth hk) ?_, ?_, h3, by simpa using h4⟩, (Tch.of_below hb).set (p := ⟨a, 3, none⟩) (h3 a (.inr (.inr (List.mem_cons_of_mem _ haL)))) _, fun k hk => .inl hk⟩
  · rw [row_put _ hNd, e2]
    rfl
  · rw [hL, List.map_append, List.map_append, List.map_cons, List.map_cons, sDP_map haP, sDP_map haQ, sDP_same, e1, e2, e3]
    rfl
theorem therePin {M : Nat → Prop} {W : World} {C nb : Nat} {places : Int} {p q : List EntI} {e : EntI} (h : CSI M W C places nb (p ++ e :: q)) (k : Int) {kl : Lit} (hk : keyOf Try.prog 3 (.int .i64 k) = some kl) (hek : e.k = k) (hb : e.p ≤ 1000000) :
    Calls Try.prog 16 #[PV C, .int .i64 k] W fun x W' => x = .returned (.bool true) ∧ CSI M W' C places nb (p ++ ⟨e.k, e.v, e.d, e.p + 1⟩ :: q) ∧ Step M M W W' := by
  obtain ⟨r, m, L, B, nx, pv, f, h1, h2, h3, h4⟩ := h
  obtain ⟨P, a, Q, hL, e1, e2, e3⟩ := map_split h2
  have haL : a ∈ L := by rw [hL]; simp
  have FI := find_anyI h1 k hk
  rw [look_someI h1 haL e2 hk hek] at FI
  have HF := Lib.hid FI
  have HH := Lib.hid (And.intro h1 (And.intro hL (And.intro e1 (And.intro e2 (And.intro e3 (And.intro h3 (And.intro h4 haL)))))))
  clear h1 h2 h3 h4 hk hek FI hL e1 e2 e3 haL
  go_enter Try.func16, Try.ntmps16
  go_wp2_with (fail)
  refine HF.out.mono ?_
  rintro x W1 ⟨rfl, hb⟩
  have hS := HH.out.1.below hb
  have hNd := hS.nodes a (List.mem_cons_of_mem _ HH.out.2.2.2.2.2.2.2)
  obtain ⟨_, _, c2, c3, _, _, fz⟩ := hS.nodes.cells (a := a) (List.mem_cons_of_mem _ HH.out.2.2.2.2.2.2.2)
  rw [HH.out.2.2.2.1] at c2 c3
  simp only [EntI.enc] at c2 c3
  have HB := Lib.hid (And.intro hb (And.intro hS hNd))
  clear hb hS hNd HF
  simp only [slotV]
  have hadd : wrap64 ((e.p : Int) + 1) = ((e.p + 1 : Nat) : Int) := by unfold wrap64; omega
  go_wp2_with (fail)
  go_ret
  obtain ⟨h1, hL, e1, e2, e3, h3, h4, haL⟩ := HH.out
  obtain ⟨hb, hS, hNd⟩ := HB.out
  have hnL : L.Nodup := (List.nodup_cons.1 h1.ring.nodup).2
  rw [hL, List.nodup_append, List.nodup_cons] at hnL
  have haP : a ∉ P := fun hm => hnL.2.2 a hm a List.mem_cons_self rfl
  have haQ : a ∉ Q := hnL.2.1.1
  refine ⟨rfl, ⟨r, m, L, sDP B a (e.d) (e.p + 1), nx, pv, f, hS.body haL _ _ (fun k hk => set_oth hk) ?_, ?_, h3, by simpa using h4⟩, (Tch.of_below hb).set (p := ⟨a, 3, none⟩) (h3 a (.inr (.inr (List.mem_cons_of_mem _ haL)))) _, fun k hk => .inl hk⟩
  · rw [row_put _ hNd, e2]
    rfl
  · rw [hL, List.map_append, List.map_append, List.map_cons, List.map_cons, sDP_map haP, sDP_map haQ, sDP_same, e1, e2, e3]
    rfl
theorem thereDrop0 {M : Nat → Prop} {W : World} {C nb : Nat} {places : Int} {p q : List EntI} {e : EntI} (h : CSI M W C places nb (p ++ e :: q)) (k : Int) {kl : Lit} (hk : keyOf Try.prog 3 (.int .i64 k) = some kl) (hek : e.k = k) (hp : e.p ≠ 0) :
    Calls Try.prog 22 #[PV C, .int .i64 k] W fun x W' => x = .returned (.bool false) ∧ CSI M W' C places nb (p ++ e :: q) ∧ Step M M W W' := by
  obtain ⟨r, m, L, B, nx, pv, f, h1, h2, h3, h4⟩ := h
  obtain ⟨P, a, Q, hL, e1, e2, e3⟩ := map_split h2
  have haL : a ∈ L := by rw [hL]; simp
  have FI := find_anyI h1 k hk
  rw [look_someI h1 haL e2 hk hek] at FI
  have HF := Lib.hid FI
  have HH := Lib.hid (And.intro h1 (And.intro hL (And.intro e1 (And.intro e2 (And.intro e3 (And.intro h3 (And.intro h4 haL)))))))
  clear h1 h2 h3 h4 hk hek FI hL e1 e2 e3 haL
  go_enter Try.func22, Try.ntmps22
  go_wp2_with (fail)
  refine HF.out.mono ?_
  rintro x W1 ⟨rfl, hb⟩
  have hS := HH.out.1.below hb
  have hNd := hS.nodes a (List.mem_cons_of_mem _ HH.out.2.2.2.2.2.2.2)
  obtain ⟨_, _, c2, c3, _, _, fz⟩ := hS.nodes.cells (a := a) (List.mem_cons_of_mem _ HH.out.2.2.2.2.2.2.2)
  rw [HH.out.2.2.2.1] at c2 c3
  simp only [EntI.enc] at c2 c3
  have HB := Lib.hid (And.intro hb (And.intro hS hNd))
  clear hb hS hNd HF
  simp only [slotV]
  have hpp : (0 : Int) < (e.p : Int) := by omega
  go_wp2_with (fail)
  go_ret
  obtain ⟨h1, hL, e1, e2, e3, h3, h4, haL⟩ := HH.out
  obtain ⟨hb, hS, hNd⟩ := HB.out
  exact ⟨rfl, ⟨r, m, L, B, nx, pv, f, hS, by rw [hL, List.map_append, List.map_append, List.map_cons, List.map_cons, e1, e2, e3], h3, h4⟩, Tch.of_below hb, fun k hk => .inl hk⟩
theorem thereDrop1 {M : Nat → Prop} {W : World} {C nb : Nat} {places : Int} {p q : List EntI} {e : EntI} (h : CSI M W C places nb (p ++ e :: q)) (k : Int) {kl : Lit} (hk : keyOf Try.prog 3 (.int .i64 k) = some kl) (hek : e.k = k) (hp : e.p = 0) :
    Calls Try.prog 22 #[PV C, .int .i64 k] W fun x W' => x = .returned (.bool true) ∧ CSI M W' C places nb (p ++ q) ∧ Step M M W W' := by
  obtain ⟨r, m, L, B, nx, pv, f, h1, h2, h3, h4⟩ := h
  obtain ⟨P, a, Q, hL, e1, e2, e3⟩ := map_split h2
  have haL : a ∈ L := by rw [hL]; simp
  have FI := find_anyI h1 k hk
  rw [look_someI h1 haL e2 hk hek] at FI
  have HF := Lib.hid FI
  have HH := Lib.hid (And.intro h1 (And.intro hL (And.intro e1 (And.intro e2 (And.intro e3 (And.intro h3 (And.intro h4 haL)))))))
  have HKV := Lib.hid (And.intro (show (B a).k = .int .i64 k by rw [e2, ← hek]; rfl) hk)
  clear h1 h2 h3 h4 hk hek FI hL e1 e2 e3 haL
  go_enter Try.func22, Try.ntmps22
  go_wp2_with (fail)
  refine HF.out.mono ?_
  rintro x W1 ⟨rfl, hb⟩
  have hS := HH.out.1.below hb
  have hNd := hS.nodes a (List.mem_cons_of_mem _ HH.out.2.2.2.2.2.2.2)
  obtain ⟨_, _, c2, c3, _, _, fz⟩ := hS.nodes.cells (a := a) (List.mem_cons_of_mem _ HH.out.2.2.2.2.2.2.2)
  rw [HH.out.2.2.2.1] at c2 c3
  simp only [EntI.enc] at c2 c3
  have HB := Lib.hid (And.intro hb (And.intro hS hNd))
  clear hb hS hNd HF
  simp only [slotV]
  rw [hp] at c3
  have HT := Lib.hid (take_anyI HB.out.2.1 HH.out.2.1 k HKV.out.1 HKV.out.2 (by have e9 := congrArg List.length HH.out.2.1; have e8 := congrArg List.length HH.out.2.2.1; have e7 := congrArg List.length HH.out.2.2.2.2.1; have := HH.out.2.2.2.2.2.2.1; simp at e9 e8 e7 this; omega))
  go_wp2_with (fail)
  refine HT.out.mono ?_
  rintro x W2 ⟨rfl, ⟨nx', pv', h2⟩, t2⟩
  have H2 := Lib.hid (And.intro h2 t2)
  clear h2 t2 HT
  go_wp2_with (fail)
  go_ret
  obtain ⟨h1, hL, e1, e2, e3, h3, h4, haL⟩ := HH.out
  obtain ⟨hb, hS, hNd⟩ := HB.out
  refine ⟨rfl, ⟨r, m, P ++ Q, B, nx', pv', _, H2.out.1, by rw [List.map_append, List.map_append, e1, e3], fun j hj => h3 j (Mine.of_mem (fun x hx => ?_) j hj), ?_⟩, (Tch.of_below hb).trans (H2.out.2.mono h3), fun k hk => .inl hk⟩
  · rw [hL]
    simp at hx ⊢
    rcases hx with h | h <;> simp [h]
  · simp at h4 ⊢
    omega
end Go.Proofs.Ytaigbplidkakhaa
