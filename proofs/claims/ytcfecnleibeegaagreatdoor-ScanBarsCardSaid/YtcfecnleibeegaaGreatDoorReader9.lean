/- Proved here: the reader's written, whatever stands there, and its qualified: what they read, where they leave the reader. -/
import Derived.Test.YtcfecnleibeegaaGreatDoorReader8
import Derived.Test.YtcfecnleibeegaaGreatDoorSplitAny
namespace Go.Proofs.YtcfecnleibeegaaGreatDoor
open Go.RowKit

/-- A name's end, as a call answers it: read, or refused. -/
def NamePost (R b off cap : Nat) (t : ByteArray) (r : Except Nat (ByteArray × Nat)) (e : Ending) (w' : World) : Prop := match r with
  | .ok (n, i) => e = .returned (.tuple #[.string n, .int .i64 0]) ∧ Rd w' R (rv b off cap t) i
  | .error e0 => e = .returned (.tuple #[.string ⟨#[]⟩, .int .i64 (e0 : Int)]) ∧ ∃ j, j ≤ t.size ∧ Rd w' R (rv b off cap t) j
theorem written_any (t : ByteArray) (b off cap R k : Nat) (w0 w : World) (E : Env w0 R b off cap t) (hB : Below w0.heap.size w0 w) (h : Rd w R (rv b off cap t) k) (hk : k ≤ t.size) :
    Calls Tryz.prog 76 #[.pointer (some ⟨R, 0, none⟩)] w fun e w' => NamePost R b off cap t (nameF t k) e w' ∧ Moved R w w' := by
  cases hq : nameF t k with
  | error e0 =>
    refine (written_no t b off cap R k e0 w0 w E hB h hq).mono ?_
    rintro e w' ⟨h1, h2, h3⟩
    exact ⟨⟨h1, k, hk, h2⟩, h3⟩
  | ok p =>
    obtain ⟨n, i⟩ := p
    refine (written_yes t n b off cap R k i w0 w E hB h hq).mono ?_
    rintro e w' ⟨h1, h2, h3⟩
    exact ⟨⟨h1, h2⟩, h3⟩

set_option maxHeartbeats 1000000 in
theorem qual_any (t : ByteArray) (b off cap R k : Nat) (w0 w : World) (E : Env w0 R b off cap t) (hB : Below w0.heap.size w0 w) (h : Rd w R (rv b off cap t) k) (hk : k ≤ t.size) :
    Calls Tryz.prog 78 #[.pointer (some ⟨R, 0, none⟩)] w fun e w' => NamePost R b off cap t (qualF t k) e w' ∧ Moved R w w' := by
  cases hn : nameF t k with
  | error e0 =>
    have hq : qualF t k = .error e0 := by unfold qualF; rw [hn]
    have he := name_err hn
    subst he
    have W := Lib.hid (written_no t b off cap R k 23 w0 w E hB h hn)
    rw [hq]
    clear hq hn h E hB
    go_enter Tryz.func78, Tryz.ntmps78
    go_wp2_with (fail)
    refine W.out.mono ?_
    rintro e w1 ⟨rfl, hr, hm⟩
    go_wp2_with (fail)
    go_ret2
    exact ⟨⟨rfl, k, hk, hr⟩, hm⟩
  | ok p =>
    obtain ⟨n, i⟩ := p
    obtain ⟨n1, n2, n3, _⟩ := name_ok hn
    have W := Lib.hid (written_yes t n b off cap R k i w0 w E hB h hn)
    have hns : n.size ≤ 140737488355328 := by
      have := E.txt.small
      rw [n3]
      simp
      omega
    have S := Lib.hid (fun W' (y : Below w0.heap.size w0 W') => split_any n W' (E.tabs.below y) hns)
    have HE := Lib.hid (And.intro E hB)
    cases hs : (splitF n).2.2
    · have hq : qualF t k = .error 24 := by unfold qualF; rw [hn]; simp [hs]
      rw [hq]
      rw [hs] at S
      clear hq hn h E hB hs n3 hns
      go_enter Tryz.func78, Tryz.ntmps78
      go_wp2_with (fail)
      refine W.out.mono ?_
      rintro e w1 ⟨rfl, hr, hm⟩
      have HB := HE.out.1.go HE.out.2 hm
      go_wp2_with (fail)
      refine (S.out _ HB).mono ?_
      rintro e w2 ⟨rfl, hb⟩
      go_wp2_with (fail)
      go_ret2
      exact ⟨⟨rfl, i, n2, hr.below hb⟩, hm.trans (Moved.of_below hb)⟩
    · have hq : qualF t k = .ok (n, i) := by unfold qualF; rw [hn]; simp [hs]
      rw [hq]
      rw [hs] at S
      clear hq hn h E hB hs n3 hns
      go_enter Tryz.func78, Tryz.ntmps78
      go_wp2_with (fail)
      refine W.out.mono ?_
      rintro e w1 ⟨rfl, hr, hm⟩
      have HB := HE.out.1.go HE.out.2 hm
      go_wp2_with (fail)
      refine (S.out _ HB).mono ?_
      rintro e w2 ⟨rfl, hb⟩
      go_wp2_with (fail)
      go_ret2
      exact ⟨⟨rfl, hr.below hb⟩, hm.trans (Moved.of_below hb)⟩
end Go.Proofs.YtcfecnleibeegaaGreatDoor
