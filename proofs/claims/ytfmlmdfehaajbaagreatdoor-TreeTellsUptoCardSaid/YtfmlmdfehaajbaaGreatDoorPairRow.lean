/- Proved here: a row of pairs of pointers of the call's own: made longer by one, made shorter by one; what Copy owes stands when the row of pairs moves. -/
import Derived.Test.YtfmlmdfehaajbaaGreatDoorVisit
namespace Go.Proofs.YtfmlmdfehaajbaaGreatDoor
open Go.RowKit Go.Shelf

/-- A node of a tree whose lists lie in blocks of their own, from n on. -/
def TypedAt (n : Nat) (W : World) (x : AT) : Prop := ∃ pa ca pk ck, PartsAt W x pa ca pk ck ∧
  (W.cell? ⟨x.b, x.o, none⟩ = some (.int .i64 x.kind) ∧ W.cell? ⟨x.b, x.o + 1, none⟩ = some (.string x.uri) ∧ W.cell? ⟨x.b, x.o + 2, none⟩ = some (.string x.loc) ∧
  W.cell? ⟨x.b, x.o + 3, none⟩ = some (.slice pa x.attrs.length ca) ∧ W.cell? ⟨x.b, x.o + 4, none⟩ = some (.slice pk x.kids.length ck) ∧ W.cell? ⟨x.b, x.o + 5, none⟩ = some (.string x.text)) ∧
  (∀ a, pa = some a → ∃ g, a = ⟨g, 0, none⟩ ∧ n ≤ g ∧ ∃ cur, W.heap[g]? = some (.cells cur 67 (0, 0))) ∧
  (∀ a, pk = some a → ∃ g, a = ⟨g, 0, none⟩ ∧ n ≤ g ∧ ∃ cur, W.heap[g]? = some (.cells cur 27 (0, 0)))
def Built (n : Nat) (W : World) (X : AT) : Prop := ∀ x ∈ X.all, TypedAt n W x
theorem Built.tree {n : Nat} {W : World} {X : AT} (h : Built n W X) : TreeAt W X := fun x hx => by
  obtain ⟨pa, ca, pk, ck, h1, h2, _⟩ := h x hx
  exact ⟨pa, ca, pk, ck, h1, h2⟩
theorem Built.mk {n : Nat} {W : World} {X : AT} (h : TypedAt n W X) (hk : ∀ k ∈ X.kids, Built n W k) : Built n W X := fun x hx => by
  rw [AT.all_eq, AT.alls_eq] at hx
  rcases List.mem_cons.1 hx with rfl | hx
  · exact h
  · obtain ⟨k, h1, h2⟩ := List.mem_flatMap.1 hx
    exact hk k h1 x h2
/-- A node that is owed: the source's, and where its copy is to lie. -/
structure Owe where
  x : AT
  d : Nat
  q : Nat
/-- The cells that are owed. -/
def Owed (ps : List Owe) (k j : Nat) : Prop := ∃ p ∈ ps, p.d = k ∧ p.q ≤ j ∧ j < p.q + 6
/-- A later world: blocks are of their kinds and sizes, cells stand but those owed; t: the block of the list of what is owed. -/
def Agr (t : Option Nat) (ps : List Owe) (W W' : World) : Prop := ∀ k arr T, some k ≠ t → W.heap[k]? = some (.cells arr T (0, 0)) → ∃ arr', W'.heap[k]? = some (.cells arr' T (0, 0)) ∧ arr'.size = arr.size ∧ ∀ j, ¬ Owed ps k j → arr'[j]? = arr[j]?
def Filled (n : Nat) (W' : World) (ps : List Owe) : Prop := ∀ p ∈ ps, ∃ X : AT, X.b = p.d ∧ X.o = p.q ∧ Built n W' X ∧ X.plain = p.x.plain
/-- Where a node is owed there is room for it. -/
structure Room (W : World) (p : Owe) : Prop where
  row : ∃ arr, W.heap[p.d]? = some (.cells arr 27 (0, 0)) ∧ p.q + 6 ≤ arr.size ∧ ∀ j, j < 6 → arr[p.q + j]? = some (zeroV j)
  six : p.q % 6 = 0
/-- How Copy stands: what is owed, and that it is all. -/
structure CSt (n O : Nat) (t : AT) (tb : Option Nat) (ps : List Owe) (W : World) : Prop where
  room : ∀ p ∈ ps, Room W p
  apart : ∀ (i j : Nat) (h : i < ps.length) (g : j < ps.length), ps[i].d = ps[j].d → ps[i].q = ps[j].q → i = j
  free : ∀ p ∈ ps, some p.d ≠ tb
  fin : ∀ W', Agr tb ps W W' → Filled n W' ps → ∃ X : AT, X.b = O ∧ X.o = 0 ∧ Built n W' X ∧ X.plain = t.plain
/-- The kids of a node, owed in a row. -/
def oweKids (K : Nat) (ks : List AT) : List Owe := (List.range ks.length).map (fun i => ⟨ks[i]!, K, i * 6⟩)
theorem oweKids_len (K : Nat) (ks : List AT) : (oweKids K ks).length = ks.length := by simp [oweKids]
theorem oweKids_at (K : Nat) (ks : List AT) (i : Nat) (h : i < (oweKids K ks).length) (h' : i < ks.length) : (oweKids K ks)[i] = ⟨ks[i], K, i * 6⟩ := by
  simp only [oweKids, List.getElem_map, List.getElem_range]
  rw [getElem!_pos ks i h']
theorem oweKids_mem {K : Nat} {ks : List AT} {p : Owe} (h : p ∈ oweKids K ks) : ∃ i, ∃ (h : i < ks.length), p = ⟨ks[i], K, i * 6⟩ := by
  obtain ⟨i, hi, rfl⟩ := List.mem_iff_getElem.1 h
  have h' : i < ks.length := by rwa [oweKids_len] at hi
  exact ⟨i, h', oweKids_at K ks i hi h'⟩
/-- One node has been laid; its kids are owed now. -/
theorem CSt.laid {n O : Nat} {t : AT} {tb : Option Nat} {ps : List Owe} {p : Owe} {W W2 : World} {arr : Array Value} (h : CSt n O t tb (ps ++ [p]) W) (hn : n ≤ W.heap.size) (hr : W.heap[p.d]? = some (.cells arr 27 (0, 0)))
    (hF : p.x.Fits 1048576) {pa0 : Option Addr} {ca0 : Nat} {pk0 : Option Addr} {ck0 : Nat} {w0 : World} (hP : PartsAt w0 p.x pa0 ca0 pk0 ck0) (htb : ∀ k, tb = some k → k < W.heap.size) {e : Ending} (hv : VisitOut W p.x p.d p.q arr e W2) :
    ∃ K, CSt n O t tb (ps ++ oweKids K p.x.kids) W2 ∧ (0 < p.x.kids.length → ∃ ck, W2.cell? ⟨p.d, p.q + 4, none⟩ = some (.slice (some ⟨K, 0, none⟩) p.x.kids.length ck) ∧ p.x.kids.length ≤ ck ∧ W.heap.size ≤ K) := by
  obtain ⟨_, qa, da, qk, dk, hV, hA, hda, hdn, hty, hkids⟩ := hv
  obtain ⟨arr2, hr2, hsz2, hout2, hin2⟩ := hV.row
  have hlen : (ps ++ [p]).length = ps.length + 1 := by simp
  have hps : ∀ (i : Nat) (hi : i < ps.length), (ps ++ [p])[i]'(by omega) = ps[i] := fun i hi => List.getElem_append_left hi
  have hpl : (ps ++ [p])[ps.length]'(by omega) = p := by simp
  have hdp : ∀ r ∈ ps, r.d = p.d → r.q ≠ p.q := fun r hr' e1 e2 => by
    obtain ⟨i, hi, rfl⟩ := List.mem_iff_getElem.1 hr'
    have := h.apart i ps.length (by omega) (by omega) (by rw [hps i hi, hpl]; exact e1) (by rw [hps i hi, hpl]; exact e2)
    omega
  have six : ∀ r ∈ ps ++ [p], r.q % 6 = 0 := fun r hr' => (h.room r hr').six
  have oldlt : ∀ r ∈ ps ++ [p], r.d < W.heap.size := fun r hr' => by
    obtain ⟨a, h1, _⟩ := (h.room r hr').row
    exact it_lt h1
  have hplt := oldlt p (by simp)
  -- rooms of the rest stand
  have keep : ∀ r ∈ ps, Room W2 r := fun r hr' => by
    obtain ⟨a, h1, h2, h3⟩ := (h.room r (by simp [hr'])).row
    have h6 := six r (by simp [hr'])
    have p6 := six p (by simp)
    by_cases e : r.d = p.d
    · have hne := hdp r hr' e
      rw [e] at h1
      rw [hr] at h1
      injection h1 with h1
      injection h1 with h1
      subst h1
      exact ⟨⟨arr2, by rw [e]; exact hr2, by omega, fun j hj => by rw [hout2 (r.q + j) (by omega)]; exact h3 j hj⟩, h6⟩
    · exact ⟨⟨a, (hV.oth r.d (it_lt h1) e).trans h1, h2, h3⟩, h6⟩
  -- what an agreeing world of the new state is for the old one
  have agree : ∀ (K : Nat) (W' : World), (0 < p.x.kids.length → W.heap.size ≤ K) → Agr tb (ps ++ oweKids K p.x.kids) W2 W' → Agr tb (ps ++ [p]) W W' := fun K W' hK ha k a T hk ho => by
    have hkl := it_lt ho
    have hnk : ∀ j, ¬ Owed (ps ++ [p]) k j → ¬ Owed (ps ++ oweKids K p.x.kids) k j := fun j hno ⟨r, hr', e1, e2⟩ => by
      rcases List.mem_append.1 hr' with hr' | hr'
      · exact hno ⟨r, by simp [hr'], e1, e2⟩
      · obtain ⟨i, hi, rfl⟩ := oweKids_mem hr'
        have : W.heap.size ≤ K := hK (by omega)
        have e1' : K = k := e1
        omega
    by_cases e : k = p.d
    · subst e
      rw [hr] at ho
      injection ho with ho
      injection ho with h1 h2
      subst h1 h2
      obtain ⟨a', h3, h4, h5⟩ := ha p.d arr2 _ hk hr2
      refine ⟨a', h3, h4.trans hsz2, fun j hno => ?_⟩
      have hj : j < p.q ∨ p.q + 6 ≤ j := by
        apply Classical.byContradiction
        intro hc
        exact hno ⟨p, by simp, rfl, by omega, by omega⟩
      exact (h5 j (hnk j hno)).trans (hout2 j hj)
    · have h1 := (hV.oth k hkl e).trans ho
      obtain ⟨a', h3, h4, h5⟩ := ha k a T hk h1
      exact ⟨a', h3, h4, fun j hno => h5 j (hnk j hno)⟩
  -- the node itself
  have node : ∀ (K : Nat) (W' : World) (Xs : List AT), (0 < p.x.kids.length → W.heap.size ≤ K) → (∃ dk', qk = (if p.x.kids.length = 0 then qk else some ⟨K, 0, none⟩) ∧ dk' = dk ∧ p.x.kids.length ≤ dk ∧ (qk = none → dk = 0)) → (∀ a, qk = some a → ∃ g, a = ⟨g, 0, none⟩ ∧ W.heap.size ≤ g ∧ ∃ cur, W2.heap[g]? = some (.cells cur 27 (0, 0))) → Agr tb (ps ++ oweKids K p.x.kids) W2 W' → Xs.length = p.x.kids.length →
      (∀ i (hi : i < Xs.length), Xs[i].b = K ∧ Xs[i].o = i * 6) → (∀ X ∈ Xs, Built n W' X) → Built n W' (.node p.d p.q p.x.kind p.x.uri p.x.loc p.x.attrs p.x.text Xs) := fun K W' Xs hK hqk hqt ha hxl hxa hxb => by
    refine Built.mk ?_ hxb
    obtain ⟨_, hq1, _, hq2, hq3⟩ := hqk
    have p6 := six p (by simp)
    have hdt : some p.d ≠ tb := h.free p (by simp)
    obtain ⟨a', h3, h4, h5⟩ := ha p.d arr2 _ hdt hr2
    have own : ∀ j, j < 6 → ¬ Owed (ps ++ oweKids K p.x.kids) p.d (p.q + j) := fun j hj ⟨r, hr', e1, e2, e3⟩ => by
      rcases List.mem_append.1 hr' with hr' | hr'
      · have r6 := six r (by simp [hr'])
        have hne := hdp r hr' e1
        omega
      · obtain ⟨i, hi, rfl⟩ := oweKids_mem hr'
        have : W.heap.size ≤ K := hK (by omega)
        have e1' : K = p.d := e1
        omega
    have cell : ∀ j, j < 6 → W'.cell? ⟨p.d, p.q + j, none⟩ = some (nodeF p.x.kind p.x.uri p.x.loc (.slice qa p.x.attrs.length da) (.slice qk p.x.kids.length dk) p.x.text j) := fun j hj => by
      rw [cell_of_row _ _ _ _ _ _ h3, h5 _ (own j hj)]
      exact hin2 j hj
    have hAW : AttrsAt W' qa p.x.attrs := fun h0 => by
      obtain ⟨g, off, e1, hc⟩ := hA h0
      obtain ⟨g', e2, e3, cur, e4⟩ := hty _ e1
      injection e2 with e5 e6
      subst e5
      have hgt : some g ≠ tb := fun e => by have := htb g e.symm; omega
      obtain ⟨a2, h6, h7, h8⟩ := ha g cur _ hgt e4
      have hno : ∀ j, ¬ Owed (ps ++ oweKids K p.x.kids) g j := fun j ⟨r, hr', e7, _⟩ => by
        rcases List.mem_append.1 hr' with hr' | hr'
        · have := oldlt r (by simp [hr'])
          omega
        · obtain ⟨i, hi, rfl⟩ := oweKids_mem hr'
          have e7' : K = g := e7
          rw [if_neg (by omega)] at hq1
          obtain ⟨g2, e8, _, cur2, e9⟩ := hqt _ hq1
          injection e8 with e8
          subst e8
          rw [e7', e4] at e9
          injection e9 with e9
          injection e9 with _ e10
          exact absurd e10 (by decide)
      have cells : ∀ j v, W2.cell? ⟨g, j, none⟩ = some v → W'.cell? ⟨g, j, none⟩ = some v := fun j v hv => by
        rw [cell_of_row _ _ _ _ _ _ e4] at hv
        rw [cell_of_row _ _ _ _ _ _ h6, h8 j (hno j)]
        exact hv
      exact ⟨g, off, e1, fun j hj => ⟨cells _ _ (hc j hj).1, cells _ _ (hc j hj).2.1, cells _ _ (hc j hj).2.2⟩⟩
    have c0 := cell 0 (by decide)
    rw [Nat.add_zero] at c0
    have hfx := hF p.x p.x.self_mem
    refine ⟨qa, da, qk, dk, ⟨hAW, hda, hdn, fun h0 => ?_, ?_, hq3, hP.kind, hP.uri, hP.loc, hP.text, hP.asz, ?_, hP.each⟩, ⟨c0, cell 1 (by decide), cell 2 (by decide), cell 3 (by decide), ?_, cell 5 (by decide)⟩, fun a e1 => ?_, fun a e1 => ?_⟩
    · have h0' : 0 < Xs.length := h0
      rw [if_neg (by omega)] at hq1
      exact ⟨K, 0, hq1, fun i hi => by rw [Nat.zero_add]; exact hxa i hi⟩
    · show Xs.length ≤ dk
      omega
    · show Xs.length ≤ _
      have := hP.ksz
      omega
    · show W'.cell? ⟨p.d, p.q + 4, none⟩ = some (.slice qk Xs.length dk)
      rw [hxl]
      exact cell 4 (by decide)
    · obtain ⟨g, e2, e3, cur, e4⟩ := hty a e1
      have hgt : some g ≠ tb := fun e => by have := htb g e.symm; omega
      obtain ⟨a2, h6, _⟩ := ha g cur _ hgt e4
      exact ⟨g, e2, by omega, a2, h6⟩
    · obtain ⟨g, e2, e3, cur, e4⟩ := hqt a e1
      have hgt : some g ≠ tb := fun e => by have := htb g e.symm; omega
      obtain ⟨a2, h6, _⟩ := ha g cur _ hgt e4
      exact ⟨g, e2, by omega, a2, h6⟩
  rcases hkids with ⟨hqn, hd0, hk0⟩ | ⟨K, hqK, hdK, hKW, ak, hak, haks, hakz⟩
  · have hl0 : p.x.kids.length = 0 := by rw [hk0]; rfl
    have hempty : oweKids 0 p.x.kids = [] := List.eq_nil_of_length_eq_zero (by rw [oweKids_len]; exact hl0)
    refine ⟨0, ⟨fun r hr' => ?_, fun i j hi hj e1 e2 => ?_, fun r hr' => ?_, fun W' ha hf => ?_⟩, fun h0 => by omega⟩
    · rw [hempty, List.append_nil] at hr'
      exact keep r hr'
    · simp only [hempty, List.append_nil] at hi hj e1 e2
      exact h.apart i j (by omega) (by omega) (by rw [hps i hi, hps j hj]; exact e1) (by rw [hps i hi, hps j hj]; exact e2)
    · rw [hempty, List.append_nil] at hr'
      exact h.free r (by simp [hr'])
    · refine h.fin W' (agree 0 W' (fun h0 => by omega) ha) (fun r hr' => ?_)
      rcases List.mem_append.1 hr' with hr' | hr'
      · exact hf r (by simp [hr'])
      · rw [List.mem_singleton.1 hr']
        refine ⟨_, rfl, rfl, node 0 W' [] (fun h0 => by omega) ⟨dk, by rw [if_pos hl0], rfl, by omega, fun _ => hd0⟩ (fun a e => by rw [hqn] at e; cases e) ha hl0.symm (fun i hi => by simp at hi) (fun X hX => by cases hX), ?_⟩
        exact AT.plain_same rfl rfl rfl rfl rfl (by rw [hk0]; rfl)
  · refine ⟨K, ⟨fun r hr' => ?_, fun i j hi hj e1 e2 => ?_, fun r hr' => ?_, fun W' ha hf => ?_⟩, fun h0 => ⟨dk, ?_, by omega, hKW⟩⟩
    · rcases List.mem_append.1 hr' with hr' | hr'
      · exact keep r hr'
      · obtain ⟨i, hi, rfl⟩ := oweKids_mem hr'
        exact ⟨⟨ak, hak, by show i * 6 + 6 ≤ ak.size; have : (i + 1) * 6 ≤ p.x.kids.length * 6 := Nat.mul_le_mul_right 6 hi; omega, fun j hj => hakz i j hi hj⟩, by show i * 6 % 6 = 0; omega⟩
    · rw [List.length_append, oweKids_len] at hi hj
      by_cases hi' : i < ps.length
      · have ei : (ps ++ oweKids K p.x.kids)[i]'(by rw [List.length_append, oweKids_len]; exact hi) = ps[i] := List.getElem_append_left hi'
        by_cases hj' : j < ps.length
        · have ej : (ps ++ oweKids K p.x.kids)[j]'(by rw [List.length_append, oweKids_len]; exact hj) = ps[j] := List.getElem_append_left hj'
          rw [ei, ej] at e1 e2
          exact h.apart i j (by omega) (by omega) (by rw [hps i hi', hps j hj']; exact e1) (by rw [hps i hi', hps j hj']; exact e2)
        · have hj2 : j - ps.length < p.x.kids.length := by omega
          have ej : (ps ++ oweKids K p.x.kids)[j]'(by rw [List.length_append, oweKids_len]; exact hj) = ⟨p.x.kids[j - ps.length], K, (j - ps.length) * 6⟩ := by
            rw [List.getElem_append_right (by omega), oweKids_at _ _ _ _ hj2]
          rw [ei, ej] at e1
          have := oldlt ps[i] (by simp)
          have e1' : ps[i].d = K := e1
          omega
      · have hi2 : i - ps.length < p.x.kids.length := by omega
        have ei : (ps ++ oweKids K p.x.kids)[i]'(by rw [List.length_append, oweKids_len]; exact hi) = ⟨p.x.kids[i - ps.length], K, (i - ps.length) * 6⟩ := by
          rw [List.getElem_append_right (by omega), oweKids_at _ _ _ _ hi2]
        by_cases hj' : j < ps.length
        · have ej : (ps ++ oweKids K p.x.kids)[j]'(by rw [List.length_append, oweKids_len]; exact hj) = ps[j] := List.getElem_append_left hj'
          rw [ei, ej] at e1
          have := oldlt ps[j] (by simp)
          have e1' : K = ps[j].d := e1
          omega
        · have hj2 : j - ps.length < p.x.kids.length := by omega
          have ej : (ps ++ oweKids K p.x.kids)[j]'(by rw [List.length_append, oweKids_len]; exact hj) = ⟨p.x.kids[j - ps.length], K, (j - ps.length) * 6⟩ := by
            rw [List.getElem_append_right (by omega), oweKids_at _ _ _ _ hj2]
          rw [ei, ej] at e2
          have e2' : (i - ps.length) * 6 = (j - ps.length) * 6 := e2
          omega
    · rcases List.mem_append.1 hr' with hr' | hr'
      · exact h.free r (by simp [hr'])
      · obtain ⟨i, hi, rfl⟩ := oweKids_mem hr'
        intro e
        have := htb K e.symm
        omega
    · refine h.fin W' (agree K W' (fun _ => hKW) ha) (fun r hr' => ?_)
      rcases List.mem_append.1 hr' with hr' | hr'
      · exact hf r (by simp [hr'])
      · rw [List.mem_singleton.1 hr']
        have hall : ∀ i, i < p.x.kids.length → ∃ X : AT, (∀ (h : i < p.x.kids.length), X.b = K ∧ X.o = i * 6 ∧ Built n W' X ∧ X.plain = p.x.kids[i].plain) := fun i hi => by
          have hm : (⟨p.x.kids[i], K, i * 6⟩ : Owe) ∈ ps ++ oweKids K p.x.kids := by
            refine List.mem_append_right _ ?_
            have := oweKids_at K p.x.kids i (by rw [oweKids_len]; exact hi) hi
            rw [← this]
            exact List.getElem_mem _
          obtain ⟨X, h1, h2, h3, h4⟩ := hf _ hm
          exact ⟨X, fun _ => ⟨h1, h2, h3, h4⟩⟩
        obtain ⟨V, hVV⟩ := Go.Deep.choose_lt (α := AT) hall
        refine ⟨_, rfl, rfl, node K W' ((List.range p.x.kids.length).map V) (fun _ => hKW) ⟨dk, ?_, rfl, by omega, fun e => by rw [hqK] at e; cases e⟩ (fun a e => ?_) ha (by simp) (fun i hi => ?_) (fun X hX => ?_), ?_⟩
        · split
          · rfl
          · exact hqK
        · rw [hqK] at e
          injection e with e
          exact ⟨K, e.symm, hKW, ak, hak⟩
        · have hi' : i < p.x.kids.length := by simpa using hi
          rw [List.getElem_map, List.getElem_range]
          exact ⟨(hVV i hi' hi').1, (hVV i hi' hi').2.1⟩
        · obtain ⟨i, hi, rfl⟩ := List.mem_map.1 hX
          exact (hVV i (List.mem_range.1 hi) (List.mem_range.1 hi)).2.2.1
        · refine AT.plain_same rfl rfl rfl rfl rfl ?_
          show ((List.range p.x.kids.length).map V).map AT.plain = p.x.kids.map AT.plain
          apply List.ext_getElem (by simp)
          intro i h1 h2
          have hi' : i < p.x.kids.length := by simpa using h2
          rw [List.getElem_map, List.getElem_map, List.getElem_range, List.getElem_map]
          exact (hVV i hi' hi').2.2.2
    · rw [cell_of_row _ _ _ _ _ _ hr2, hin2 4 (by decide), hqK]
      rfl
end Go.Proofs.YtfmlmdfehaajbaaGreatDoor
namespace Go.Proofs.YtfmlmdfehaajbaaGreatDoor
open Go.RowKit Go.Shelf

/-- Two nodes by their places. -/
structure PA where
  b : Nat
  o : Nat
  d : Nat
  q : Nat
def PA.enc (z : PA) : List Value := [.pointer (some ⟨z.b, z.o, none⟩), .pointer (some ⟨z.d, z.q, none⟩)]
def encP (zs : List PA) : List Value := zs.flatMap PA.enc
theorem encP_len (zs : List PA) : (encP zs).length = zs.length * 2 := by
  induction zs with
  | nil => rfl
  | cons z r ih =>
    unfold encP at ih ⊢
    rw [List.flatMap_cons, List.length_append, ih, List.length_cons]
    show 2 + r.length * 2 = _
    omega
theorem encP_cat (zs ys : List PA) : encP (zs ++ ys) = encP zs ++ encP ys := List.flatMap_append
theorem encP_one (z : PA) : encP [z] = z.enc := by unfold encP; simp
theorem encP_at : ∀ (zs : List PA) (i j : Nat) (h : i < zs.length), j < 2 → (encP zs)[i * 2 + j]? = zs[i].enc[j]? := fun zs => by
  induction zs with
  | nil => intro i j h; simp at h
  | cons z r ih =>
    intro i j h hj
    unfold encP
    rw [List.flatMap_cons]
    have hl : z.enc.length = 2 := rfl
    cases i with
    | zero =>
      rw [List.getElem?_append_left (by rw [hl]; omega), Nat.zero_mul, Nat.zero_add]
      rfl
    | succ i =>
      rw [List.getElem?_append_right (by rw [hl]; omega), hl, show (i + 1) * 2 + j - 2 = i * 2 + j by omega]
      exact ih i j (by simpa using h) hj
theorem encP_one' (zs : List PA) : ∀ u ∈ encP zs, u.oneCell' = true := fun u hu => by
  obtain ⟨z, _, h⟩ := List.mem_flatMap.1 hu
  unfold PA.enc at h
  simp only [List.mem_cons, List.mem_nil_iff, or_false] at h
  rcases h with rfl | rfl <;> rfl
theorem infoPair : (Tryz.prog.info? 92).map (fun i => (i.zero, i.size)) = some (some (.agg #[.pointer none, .pointer none]), 2) := by kernel_rfl
theorem info_pair : ∃ i0, Tryz.prog.info? 92 = some i0 ∧ i0.zero = some (.agg #[.pointer none, .pointer none]) ∧ i0.size = 2 := by
  have h := infoPair
  obtain ⟨i0, h1, h2⟩ := Option.map_eq_some_iff.1 h
  simp only [Prod.mk.injEq] at h2
  exact ⟨i0, h1, h2.1, h2.2⟩
/-- A row of pairs of the call's own. -/
def OwnP (W : World) (B : Nat) (q : Option Addr) (c : Nat) (zs : List PA) : Prop := W.ownsRow B 92 2 (.slice q zs.length c) zs.length (encP zs) ∧ zs.length ≤ c ∧ (q = none → c = 0) ∧ c ≤ maxLen
theorem OwnP.block {W : World} {B : Nat} {q : Option Addr} {c : Nat} {zs : List PA} (h : OwnP W B q c zs) : ∀ b off, q = some ⟨b, off, none⟩ → B ≤ b ∧ b < W.heap.size ∧ off = 0 ∧ ∃ cur, W.heap[b]? = some (.cells cur 92 (0, 0)) := fun b off e => by
  rcases h.1.2 with ⟨e1, _⟩ | ⟨g, cap, cur, e1, hb, hh, _⟩
  · injection e1 with e2
    rw [e] at e2
    cases e2
  · injection e1 with e2
    rw [e] at e2
    injection e2 with e2
    injection e2 with e3 e4
    subst e3 e4
    exact ⟨hb, it_lt hh, rfl, cur, hh⟩
theorem OwnP.form {W : World} {B : Nat} {q : Option Addr} {c : Nat} {zs : List PA} (h : OwnP W B q c zs) (h0 : 0 < zs.length) : ∃ g, q = some ⟨g, 0, none⟩ := by
  rcases h.1.2 with ⟨_, e⟩ | ⟨g, cap, cur, e1, _⟩
  · omega
  · injection e1 with e2
    exact ⟨g, e2⟩
theorem OwnP.keep {W W' : World} {B : Nat} {q : Option Addr} {c : Nat} {zs : List PA} (h : OwnP W B q c zs) (hk : ∀ b, q = some ⟨b, 0, none⟩ → W'.heap[b]? = W.heap[b]?) : OwnP W' B q c zs := by
  refine ⟨⟨h.1.1, ?_⟩, h.2⟩
  rcases h.1.2 with e | ⟨g, cap, cur, e1, hb, hh, hr⟩
  · exact .inl e
  · have e2 : q = some ⟨g, 0, none⟩ := by injection e1
    exact .inr ⟨g, cap, cur, e1, hb, (hk g e2).trans hh, hr⟩
theorem OwnP.below {W W' : World} {B : Nat} {q : Option Addr} {c : Nat} {zs : List PA} (h : OwnP W B q c zs) (b : Below W.heap.size W W') : OwnP W' B q c zs :=
  h.keep (fun g e => b.block g (h.block g 0 e).2.1)
theorem OwnP.cell {W : World} {B g c : Nat} {zs : List PA} (h : OwnP W B (some ⟨g, 0, none⟩) c zs) {i j : Nat} (hi : i < zs.length) (hj : j < 2) : W.cell? ⟨g, i * 2 + j, none⟩ = zs[i].enc[j]? := by
  rw [World.ownsRow.cellAt h.1 (i * 2 + j) (by omega), encP_at zs i j hi hj]
theorem OwnP.last {W : World} {B g c : Nat} {zs : List PA} {z : PA} (h : OwnP W B (some ⟨g, 0, none⟩) c (zs ++ [z])) : W.cell? ⟨g, zs.length * 2, none⟩ = some (.pointer (some ⟨z.b, z.o, none⟩)) ∧ W.cell? ⟨g, zs.length * 2 + 1, none⟩ = some (.pointer (some ⟨z.d, z.q, none⟩)) := by
  have h0 := h.cell (i := zs.length) (j := 0) (by simp) (by decide)
  have h1 := h.cell (i := zs.length) (j := 1) (by simp) (by decide)
  have e : (zs ++ [z])[zs.length]'(by simp) = z := by simp
  rw [e] at h0 h1
  exact ⟨h0, h1⟩
theorem OwnP.cut {W : World} {B : Nat} {q : Option Addr} {c : Nat} {zs : List PA} {z : PA} (h : OwnP W B q c (zs ++ [z])) : OwnP W B q c zs := by
  obtain ⟨⟨h1, h2⟩, h3, h4, h6⟩ := h
  rw [List.length_append, List.length_singleton] at h2 h3
  refine ⟨⟨encP_len zs, ?_⟩, by omega, h4, h6⟩
  rcases h2 with ⟨_, e⟩ | ⟨g, cap, cur, e1, hb, hh, hn, hm, hs, ht⟩
  · omega
  · injection e1 with e2 e3 e4
    subst e2 e4
    refine .inr ⟨g, c, cur, rfl, hb, hh, by omega, hm, hs, ?_⟩
    have := congrArg (List.take (zs.length * 2)) ht
    rw [List.take_take, encP_cat, List.take_left' (encP_len zs)] at this
    rwa [Nat.min_eq_left (by omega)] at this
/-- A row of one pair that has been made just now. -/
theorem OwnP.one (W : World) (z : PA) {B : Nat} (hB : B ≤ W.heap.size) : OwnP (W.alloc (.cells z.enc.toArray 92)) B (some ⟨W.heap.size, 0, none⟩) 1 [z] := by
  refine ⟨⟨encP_len [z], .inr ⟨W.heap.size, 1, z.enc.toArray, rfl, hB, heap_alloc_new W _, Nat.le_refl _, by unfold maxLen; omega, rfl, ?_⟩⟩, Nat.le_refl _, (fun e => by cases e), by unfold maxLen; omega⟩
  rw [encP_one]
  rfl
theorem appendP {w : World} {B : Nat} {q : Option Addr} {c : Nat} {zs : List PA} {z : PA} (h : OwnP w B q c zs) (hB : B ≤ w.heap.size) (hsz : zs.length ≤ 8388608) :
    ∃ g cap w', (∀ ty, (Builtin.append_ #[93, 93] ty #[.slice q zs.length c, .slice (some ⟨w.heap.size, 0, none⟩) 1 1]).run Tryz.prog (w.alloc (.cells z.enc.toArray 92)) = .ok (.slice (some ⟨g, 0, none⟩) (zs.length + 1) cap) w') ∧
      OwnP w' B (some ⟨g, 0, none⟩) cap (zs ++ [z]) ∧ w.grownBy w' (Value.slice q zs.length c).ownBlock ∧ (q = some ⟨g, 0, none⟩ ∨ g = w.heap.size + 1) := by
  obtain ⟨i0, hi, hz0, hz1⟩ := info_pair
  have hby : i0.bytes ≤ 1000000 := by
    have e : (Tryz.prog.info? 92).map (fun i => decide (i.bytes ≤ 1000000)) = some true := by kernel_rfl
    rw [hi] at e
    simpa using e
  have hown := World.ownsRow.alloc h.1 (.cells z.enc.toArray 92)
  have hcells : ∀ j u, (encP [z])[j]? = some u → (w.alloc (.cells z.enc.toArray 92)).cell? ((⟨w.heap.size, 0, none⟩ : Addr).add j) = some u := by
    intro j u hu
    have ha : (⟨w.heap.size, 0, none⟩ : Addr).add j = ⟨w.heap.size, j, none⟩ := by unfold Addr.add; split <;> simp_all
    rw [encP_one] at hu
    rw [ha, cell_of_row _ _ _ _ _ _ (heap_alloc_new w _), ← hu]
    simp
  obtain ⟨v', w', hrun, hown', hgrow, hne, hblk⟩ := run_append_own_at (P := Tryz.prog) (w := w.alloc (.cells z.enc.toArray 92)) B 93 93 92 i0 _ 2 i0.bytes Tryz.underlying93 hi hz0 hz1 rfl rfl (by decide) _ zs.length (encP zs) hown ⟨w.heap.size, 0, none⟩ 1 1 (encP [z]) (encP_len [z]) hcells (encP_one' [z])
    (by unfold maxLen; omega) (Nat.le_trans (Nat.mul_le_mul (show zs.length + 1 ≤ 8388609 by omega) hby) (by decide)) (by rw [World.size_alloc]; omega)
  rw [← encP_cat] at hown'
  have hv : v' ≠ .slice none 0 0 := fun e => by
    have := (hne.1 e).2
    cases this
  have hgr : w.grownBy w' (Value.slice q zs.length c).ownBlock := ⟨hgrow.os, hgrow.tape, hgrow.output, by have := hgrow.size; rw [World.size_alloc] at this; omega, fun k hk hr => (hgrow.block k (by rw [World.size_alloc]; omega) hr).trans (((Below.refl _ w).alloc (Nat.le_refl _) _).block k hk)⟩
  rcases hown'.2 with ⟨e, _⟩ | ⟨g, cap, cur, rfl, hb, hh, hc, h1, h2⟩
  · exact absurd e hv
  · refine ⟨g, cap, w', fun ty => by rw [← hrun]; rfl, ⟨by rw [List.length_append]; exact hown', by rw [List.length_append]; exact hc, (fun e => by cases e), h1⟩, hgr, ?_⟩
    rcases hblk with e | e
    · cases q with
      | none => cases e
      | some a =>
        obtain ⟨g', rfl⟩ : ∃ g', a = ⟨g', 0, none⟩ := by
          rcases h.1.2 with ⟨e1, _⟩ | ⟨g', _, _, e1, _⟩
          · cases e1
          · injection e1 with e1
            injection e1 with e1
            exact ⟨g', e1⟩
        injection e with e
        exact .inl (by rw [show g' = g from e.symm])
    · injection e with e
      exact .inr (by rw [World.size_alloc] at e; exact e)
/-- What is owed stands when only the row of pairs changes, or lies elsewhere now. -/
theorem CSt.move {n O : Nat} {t : AT} {tb tb' : Option Nat} {ps : List Owe} {W W2 : World} (h : CSt n O t tb ps W) (hk : ∀ k, k < W.heap.size → some k ≠ tb → W2.heap[k]? = W.heap[k]?) (ht : tb' = tb ∨ ∃ g, tb' = some g ∧ W.heap.size ≤ g) : CSt n O t tb' ps W2 := by
  have hne : ∀ k, k < W.heap.size → some k ≠ tb → some k ≠ tb' := fun k hl hk' e => by
    rcases ht with e2 | ⟨g, e2, hg⟩
    · exact hk' (e.trans e2)
    · rw [e2] at e
      injection e with e
      omega
  refine ⟨fun p hp => ?_, h.apart, fun p hp => ?_, fun W' ha hf => h.fin W' (fun k arr T h1 h2 => ?_) hf⟩
  · obtain ⟨arr, h1, h2⟩ := (h.room p hp).row
    exact ⟨⟨arr, (hk _ (it_lt h1) (h.free p hp)).trans h1, h2⟩, (h.room p hp).six⟩
  · obtain ⟨arr, h1, h2⟩ := (h.room p hp).row
    exact hne _ (it_lt h1) (h.free p hp)
  · have hl := it_lt h2
    exact ha k arr T (hne k hl h1) ((hk k hl h1).trans h2)
end Go.Proofs.YtfmlmdfehaajbaaGreatDoor
