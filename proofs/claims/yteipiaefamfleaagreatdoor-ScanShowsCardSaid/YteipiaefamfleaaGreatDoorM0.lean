/- Proved here: the document's three sets of numbers (chars, starts, parts) as plain Lean functions, and small facts on them; no program is named. | Proved here: IsChar, IsStart, IsPart and the document's Char, Start, Part answer the same plain functions charB, startB, partB, at every number, and leave the world as it was. | Proved here: plain facts on the document's reading of one character's UTF-8 (rdN: the number and how many bytes; 0, 0: none begins here); no program is named. | Proved here: plain facts that join Go's decoder of UTF-8 with the document's reading of one character; no program is named. | Proved here: char.Next answers nextF (the char, the place behind it, the error) at every place of every slice of bytes, and what was there stays. | Proved here: what every statement's row needs: that the dump is its own, and how much a reading holds. | Proved here: what every statement's row needs: how an argument of bytes is opened. | Proved here: the listed table of references with names, as it is read, lies in the variable's cells: five words, and what each stands for. | Proved here: plain facts on names (nameB: is it a name?): a name is valid UTF-8, a step at a time; no program is named. | Proved here: plain facts on the first place of any bytes that is no char (faultF); no program is named. | Proved here: plain facts on digits and on numbers written in them; no program is named. | Proved here: a name holds no colon, so that a qualified name parts at its first one alone; no program is named. | Proved here: plain facts on references with names; no program is named. | Proved here: plain facts on what texts and values say from place to place; no program is named. | Proved here: the parts of a qualified name, as a plain function; no program is named. | Proved here: plain facts on how line ends are made one byte; no program is named. | Proved here: plain functions on bytes that say what the scanner reads at a place, and small facts on them; no program is named. | Proved here: bytes made a string are the string of these bytes. | Proved here: at this program, the library's contracts on strings.Builder (WriteByte, WriteString, WriteRune, String) and on bytes.HasPrefix; each is one application of the library's own theorem. | Proved here: what a string made bytes is: a new row that holds them. | Proved here: the scanner's reader: how it lies in memory, what its small methods (ended, isBlank) answer, what they leave. | Proved here: plain facts on how texts and values are written; no program is named. | Proved here: the reader's take, blanks and equals: what they read, where they leave the reader. | Proved here: the reader's equals: where it leaves the reader. | Proved here: plain facts on the words of references, as the document looks for them: just those that Expand finds; no program is named. | Proved here: the reader's upTo: what it reads, where it leaves the reader. -/
import Derived.WalkKit
import Derived.Test.YteipiaefamfleaaGreatDoorProg
import Derived.BigGuardPart
import Derived.Lib.Hide
import Derived.Deep.Light
import Derived.Lib.DecodeN
import Derived.Shelf.Unicode.DecodeSlow
import Derived.Test.YteipiaefamfleaaGreatDoorShelf
import Derived.Below
import Derived.Test.YteipiaefamfleaaGreatDoorRows
import Derived.ProofKit
import Derived.OpenShut
import Derived.Deep.DeepHandedRow
import Derived.MakeChecks
import Derived.SizedLaws
import Derived.PinnedBridge
import Derived.Lib.LaidU8T
import Derived.ChangeSame
import Derived.Lib.ValidLaws
import Derived.Lib.ValidAsc
import Derived.Lib.IndexLaws
import Derived.Lib.Strings
import Derived.Lib.Bytes
import Derived.Lib.RuneBytes
import Derived.Lib.IndexMore
import Derived.Lib.Fold
import Derived.Laws.BytesArg
import Derived.Laws.IdiomStrings
import Derived.Shelf.Strings.Builder1
import Derived.Shelf.Strings.BuilderF
import Derived.Shelf.Strings.BuilderK
import Derived.Shelf.Strings.BuilderRune
import Derived.Shelf.Bytes.SlSmallAll
import Derived.Lib.ConvBytes
import Derived.Lib.SmallJoins
import Derived.Laws.AppendOwn
import Derived.Deep.QuietTactic
import Derived.BigQuiet
import Derived.Deep.RegionWith
import Derived.Laws.Rows
import Derived.Lib.UnsafeStr
import Derived.Lib.AppendStr
import Derived.Test.YteipiaefamfleaaGreatDoorShelfS
namespace Go.Proofs.YteipiaefamfleaaGreatDoor
open Go.RowKit

def charB (r : Int) : Bool := decide (r = 9 ∨ r = 10 ∨ r = 13 ∨ (32 ≤ r ∧ r ≤ 55295) ∨ (57344 ≤ r ∧ r ≤ 65533) ∨ (65536 ≤ r ∧ r ≤ 1114111))
def startB (r : Int) : Bool := decide ((65 ≤ r ∧ r ≤ 90) ∨ r = 95 ∨ (97 ≤ r ∧ r ≤ 122) ∨ (192 ≤ r ∧ r ≤ 214) ∨ (216 ≤ r ∧ r ≤ 246) ∨ (248 ≤ r ∧ r ≤ 767) ∨ (880 ≤ r ∧ r ≤ 893) ∨ (895 ≤ r ∧ r ≤ 8191) ∨ (8204 ≤ r ∧ r ≤ 8205) ∨ (8304 ≤ r ∧ r ≤ 8591) ∨ (11264 ≤ r ∧ r ≤ 12271) ∨ (12289 ≤ r ∧ r ≤ 55295) ∨ (63744 ≤ r ∧ r ≤ 64975) ∨ (65008 ≤ r ∧ r ≤ 65533) ∨ (65536 ≤ r ∧ r ≤ 983039))
def partB (r : Int) : Bool := startB r || decide (r = 45 ∨ r = 46 ∨ (48 ≤ r ∧ r ≤ 57) ∨ r = 183 ∨ (768 ≤ r ∧ r ≤ 879) ∨ (8255 ≤ r ∧ r ≤ 8256))
def btw (lo hi r : Int) : Bool := decide (lo ≤ r ∧ r ≤ hi)
theorem startB_eq (r : Int) : startB r = (btw 65 90 r || (r == 95) || btw 97 122 r || btw 192 214 r || btw 216 246 r || btw 248 767 r || btw 880 893 r || btw 895 8191 r || btw 8204 8205 r || btw 8304 8591 r || btw 11264 12271 r || btw 12289 55295 r || btw 63744 64975 r || btw 65008 65533 r || btw 65536 983039 r) := by
  unfold startB btw; rw [Bool.eq_iff_iff]; simp only [decide_eq_true_eq, Bool.or_eq_true, beq_iff_eq]; omega
theorem partB_eq (r : Int) : partB r = (startB r || (r == 45) || (r == 46) || btw 48 57 r || (r == 183) || btw 768 879 r || btw 8255 8256 r) := by
  unfold partB btw; generalize startB r = s; cases s <;> (rw [Bool.eq_iff_iff]; simp only [decide_eq_true_eq, Bool.or_eq_true, beq_iff_eq]; simp; try omega)
theorem partB_ref (r : Int) : partB r = (startB r || decide (r = 45 ∨ r = 46 ∨ (48 ≤ r ∧ r ≤ 57) ∨ r = 183 ∨ (768 ≤ r ∧ r ≤ 879) ∨ r = 8255 ∨ r = 8256)) := by
  unfold partB; generalize startB r = s; cases s <;> (rw [Bool.eq_iff_iff]; simp only [decide_eq_true_eq, Bool.or_eq_true]; simp; try omega)
theorem ret_bool {a b : Bool} (h : a = b) : Ending.returned (.bool a) = .returned (.bool b) := by rw [h]

end Go.Proofs.YteipiaefamfleaaGreatDoor
namespace Go.Proofs.YteipiaefamfleaaGreatDoor
open Go.RowKit


set_option maxHeartbeats 1000000 in
theorem isChar (r : Int) (w : World) :
    Calls Tryz.prog 24 #[.int .i32 r] w fun e w' => e = .returned (.bool (charB r)) ∧ w = w' := by
  obtain ⟨p, hp⟩ : ∃ p, charB r = p := ⟨_, rfl⟩
  have HP := Lib.hid hp
  rw [hp]; clear hp
  go_enter Tryz.func24, Tryz.ntmps24
  go_wp2
  all_goals go_ret
  all_goals refine ⟨ret_bool ?_, rfl⟩
  all_goals ((rw [← HP.out]; unfold charB; rw [Bool.eq_iff_iff]; go_light); (first | (simp; done) | (simp; omega) | omega))


theorem between_any (r lo hi : Int) (w : World) :
    Calls Tryz.prog 36 #[.int .i32 r, .int .i32 lo, .int .i32 hi] w fun e w' => e = .returned (.bool (btw lo hi r)) ∧ w = w' := by
  go_enter Tryz.func36, Tryz.ntmps36
  go_wp2
  all_goals go_ret
  all_goals exact ⟨ret_bool (by unfold btw; rw [Bool.eq_iff_iff]; first | (simp; done) | (simp; omega) | omega), rfl⟩
set_option maxHeartbeats 1000000 in
theorem isStart (r : Int) (w : World) :
    Calls Tryz.prog 62 #[.int .i32 r] w fun e w' => e = .returned (.bool (startB r)) ∧ w = w' := by
  have HE := Lib.hid (startB_eq r)
  go_enter Tryz.func62, Tryz.ntmps62
  go_wp2_with (go_at_call 36; refine (between_any _ _ _ _).mono ?_; rintro e w' ⟨rfl, rfl⟩)
  all_goals go_ret
  all_goals refine ⟨ret_bool ?_, rfl⟩
  all_goals (rw [HE.out]; simp [*])

set_option maxHeartbeats 1000000 in
theorem isPart (r : Int) (w : World) :
    Calls Tryz.prog 63 #[.int .i32 r] w fun e w' => e = .returned (.bool (partB r)) ∧ w = w' := by
  have HE := Lib.hid (partB_eq r)
  go_enter Tryz.func63, Tryz.ntmps63
  go_wp2_with (first | (go_at_call 36; refine (between_any _ _ _ _).mono ?_; rintro e w' ⟨rfl, rfl⟩) | (go_at_call 62; refine (isStart _ _).mono ?_; rintro e w' ⟨rfl, rfl⟩))
  all_goals go_ret
  all_goals refine ⟨ret_bool ?_, rfl⟩
  all_goals (rw [HE.out]; simp [*])



end Go.Proofs.YteipiaefamfleaaGreatDoor
namespace Go.Proofs.YteipiaefamfleaaGreatDoor
open Go.RowKit

/-- The character at a place with n bytes from it on, which begin x0, x1, x2, x3, and how many bytes it has; (0, 0): none. -/
def rdN (n x0 x1 x2 x3 : Nat) : Nat × Nat := if x0 < 128 then (x0, 1) else if (Lib.decodeN n x0 x1 x2 x3).2 = 1 then (0, 0) else Lib.decodeN n x0 x1 x2 x3
def cont (x : Nat) : Prop := 128 ≤ x ∧ x ≤ 191

theorem rd_ascii {n x0 x1 x2 x3 : Nat} (h : x0 < 128) : rdN n x0 x1 x2 x3 = (x0, 1) := by unfold rdN; rw [if_pos h]
theorem rd_none {n x0 x1 x2 x3 : Nat} (h : (128 ≤ x0 ∧ x0 < 192) ∨ 248 ≤ x0) (hx : x0 < 256) : rdN n x0 x1 x2 x3 = (0, 0) := by
  unfold rdN Lib.decodeN
  repeat' split
  all_goals first | rfl | omega
theorem rd2_no {n x0 x1 x2 x3 : Nat} (h : 192 ≤ x0 ∧ x0 < 224) (hb : n < 2 ∨ x1 < 128 ∨ 191 < x1 ∨ 64 * (x0 - 192) + (x1 - 128) < 128) : rdN n x0 x1 x2 x3 = (0, 0) := by
  unfold rdN Lib.decodeN
  repeat' split
  all_goals first | rfl | omega
theorem rd2_yes {n x0 x1 x2 x3 : Nat} (h : 192 ≤ x0 ∧ x0 < 224) (hn : 2 ≤ n) (h1 : 128 ≤ x1) (h2 : x1 ≤ 191) (hb : 128 ≤ 64 * (x0 - 192) + (x1 - 128)) : rdN n x0 x1 x2 x3 = (64 * (x0 - 192) + (x1 - 128), 2) := by
  have hd : Lib.decodeN n x0 x1 x2 x3 = (64 * (x0 - 192) + (x1 - 128), 2) := by
    unfold Lib.decodeN
    repeat' split
    all_goals first | (exfalso; omega) | (apply Prod.ext <;> simp only <;> omega)
  unfold rdN
  rw [if_neg (by omega), hd, if_neg (by simp)]
def v3 (x0 x1 x2 : Nat) : Nat := 64 * (64 * (x0 - 224) + (x1 - 128)) + (x2 - 128)
theorem rd3_no {n x0 x1 x2 x3 : Nat} (h : 224 ≤ x0 ∧ x0 < 240) (hb : n < 3 ∨ x1 < 128 ∨ 191 < x1 ∨ x2 < 128 ∨ 191 < x2 ∨ v3 x0 x1 x2 < 2048 ∨ (55296 ≤ v3 x0 x1 x2 ∧ v3 x0 x1 x2 ≤ 57343)) : rdN n x0 x1 x2 x3 = (0, 0) := by
  unfold v3 at hb
  unfold rdN Lib.decodeN
  repeat' split
  all_goals first | rfl | omega
theorem rd3_yes {n x0 x1 x2 x3 : Nat} (h : 224 ≤ x0 ∧ x0 < 240) (hn : 3 ≤ n) (h1 : 128 ≤ x1) (h2 : x1 ≤ 191) (h3 : 128 ≤ x2) (h4 : x2 ≤ 191) (hb : 2048 ≤ v3 x0 x1 x2) (hc : v3 x0 x1 x2 < 55296 ∨ 57343 < v3 x0 x1 x2) :
    rdN n x0 x1 x2 x3 = (v3 x0 x1 x2, 3) := by
  have hd : Lib.decodeN n x0 x1 x2 x3 = (v3 x0 x1 x2, 3) := by
    unfold v3 at hb hc ⊢
    unfold Lib.decodeN
    repeat' split
    all_goals first | (exfalso; omega) | (apply Prod.ext <;> simp only <;> omega)
  unfold rdN
  rw [if_neg (by omega), hd, if_neg (by simp)]
def v4 (x0 x1 x2 x3 : Nat) : Nat := 64 * (64 * (64 * (x0 - 240) + (x1 - 128)) + (x2 - 128)) + (x3 - 128)
theorem rd4_no {n x0 x1 x2 x3 : Nat} (h : 240 ≤ x0 ∧ x0 < 248) (hb : n < 4 ∨ x1 < 128 ∨ 191 < x1 ∨ x2 < 128 ∨ 191 < x2 ∨ x3 < 128 ∨ 191 < x3 ∨ v4 x0 x1 x2 x3 < 65536 ∨ 1114111 < v4 x0 x1 x2 x3) : rdN n x0 x1 x2 x3 = (0, 0) := by
  unfold v4 at hb
  unfold rdN Lib.decodeN
  repeat' split
  all_goals first | rfl | omega
theorem rd4_yes {n x0 x1 x2 x3 : Nat} (h : 240 ≤ x0 ∧ x0 < 248) (hn : 4 ≤ n) (h1 : 128 ≤ x1) (h2 : x1 ≤ 191) (h3 : 128 ≤ x2) (h4 : x2 ≤ 191) (h5 : 128 ≤ x3) (h6 : x3 ≤ 191) (hb : 65536 ≤ v4 x0 x1 x2 x3) (hc : v4 x0 x1 x2 x3 ≤ 1114111) :
    rdN n x0 x1 x2 x3 = (v4 x0 x1 x2 x3, 4) := by
  have hd : Lib.decodeN n x0 x1 x2 x3 = (v4 x0 x1 x2 x3, 4) := by
    unfold v4 at hb hc ⊢
    unfold Lib.decodeN
    repeat' split
    all_goals first | (exfalso; omega) | (apply Prod.ext <;> simp only <;> omega)
  unfold rdN
  rw [if_neg (by omega), hd, if_neg (by simp)]
theorem ret_ii {k l : IntKind} {a b c d : Int} (h : a = c) (h' : b = d) : Ending.returned (.tuple #[.int k a, .int l b]) = .returned (.tuple #[.int k c, .int l d]) := by rw [h, h']
end Go.Proofs.YteipiaefamfleaaGreatDoor
namespace Go.Proofs.YteipiaefamfleaaGreatDoor
open Go.RowKit

/-- What begins at a place of s: the number, and how many bytes; (0, 0): nothing. -/
def rd (s : ByteArray) (at_ : Nat) : Nat × Nat := rdN (s.size - at_) (s.get! at_).toNat (s.get! (at_ + 1)).toNat (s.get! (at_ + 2)).toNat (s.get! (at_ + 3)).toNat
/-- What Next answers within s: the char, the place behind, the error. -/
def nextF (s : ByteArray) (at_ : Nat) : Nat × Nat × Nat :=
  if (rd s at_).2 = 0 then (0, 0, 20) else if charB (rd s at_).1 then ((rd s at_).1, at_ + (rd s at_).2, 0) else (0, 0, 21)

theorem get!_extract (s : ByteArray) (at_ j : Nat) (h : at_ ≤ s.size) : (s.extract at_ s.size).get! j = s.get! (at_ + j) := by
  by_cases hj : at_ + j < s.size
  · have h1 : j < (s.extract at_ s.size).size := by simp; omega
    have e1 : (s.extract at_ s.size).get! j = (s.extract at_ s.size)[j] := by
      show (s.extract at_ s.size).data[j]! = _
      rw [getElem!_pos _ _ (by simpa using h1)]; rfl
    have e2 : s.get! (at_ + j) = s[at_ + j] := by
      show s.data[at_ + j]! = _
      rw [getElem!_pos _ _ (by simpa using hj)]; rfl
    rw [e1, e2, ByteArray.getElem_extract]
  · have e1 : (s.extract at_ s.size).get! j = default := by
      show (s.extract at_ s.size).data[j]! = _
      exact getElem!_neg _ _ (by simp; omega)
    have e2 : s.get! (at_ + j) = default := by
      show s.data[at_ + j]! = _
      exact getElem!_neg _ _ (by simp; omega)
    rw [e1, e2]

theorem decodeN_bd (n x0 x1 x2 x3 : Nat) (h0 : x0 < 256) : 1 ≤ (Lib.decodeN n x0 x1 x2 x3).2 ∧ (Lib.decodeN n x0 x1 x2 x3).2 ≤ 4 ∧ (Lib.decodeN n x0 x1 x2 x3).1 ≤ 1114111 := by
  unfold Lib.decodeN
  repeat' split
  all_goals (simp only; omega)
theorem decodeN_fits (n x0 x1 x2 x3 : Nat) (h : 0 < n) : (Lib.decodeN n x0 x1 x2 x3).2 ≤ n := by
  unfold Lib.decodeN
  repeat' split
  all_goals (simp only; omega)
theorem decodeN_one (n x0 x1 x2 x3 : Nat) (h : 128 ≤ x0) (h1 : (Lib.decodeN n x0 x1 x2 x3).2 = 1) : (Lib.decodeN n x0 x1 x2 x3).1 = 65533 := by
  revert h1
  unfold Lib.decodeN
  repeat' split
  all_goals first | (intro _; rfl) | (intro h1; exfalso; simp only at h1; omega) | omega

theorem decodeGo_at (s : ByteArray) (at_ : Nat) (h : at_ < s.size) : Lib.decodeGo (s.extract at_ s.size) = Lib.decodeN (s.size - at_) (s.get! at_).toNat (s.get! (at_ + 1)).toNat (s.get! (at_ + 2)).toNat (s.get! (at_ + 3)).toNat := by
  have hz : (s.extract at_ s.size).size = s.size - at_ := by simp
  unfold Lib.decodeGo
  rw [if_neg (by rw [hz]; omega), Lib.decode_at, hz, get!_extract _ _ _ (by omega), get!_extract _ _ _ (by omega), get!_extract _ _ _ (by omega), get!_extract _ _ _ (by omega)]
  rfl
theorem decode_rd (s : ByteArray) (at_ : Nat) : Utf8.decode s at_ = Lib.decodeN (s.size - at_) (s.get! at_).toNat (s.get! (at_ + 1)).toNat (s.get! (at_ + 2)).toNat (s.get! (at_ + 3)).toNat := Lib.decode_at s at_

/-- WHAT Go's DECODER SAYS, in the document's terms: the character, or fffd of one byte just where none begins. -/
theorem rd_of_decode (n x0 x1 x2 x3 : Nat) (h0 : x0 < 256) :
    ((Lib.decodeN n x0 x1 x2 x3) = (65533, 1) ∧ rdN n x0 x1 x2 x3 = (0, 0)) ∨
    (rdN n x0 x1 x2 x3 = Lib.decodeN n x0 x1 x2 x3 ∧ ¬ ((Lib.decodeN n x0 x1 x2 x3).1 = 65533 ∧ (Lib.decodeN n x0 x1 x2 x3).2 = 1)) := by
  unfold rdN
  by_cases h : x0 < 128
  · right
    have e : Lib.decodeN n x0 x1 x2 x3 = (x0, 1) := by unfold Lib.decodeN; rw [if_pos h]
    rw [if_pos h, e]
    exact ⟨rfl, fun g => by simp only at g; omega⟩
  · by_cases h1 : (Lib.decodeN n x0 x1 x2 x3).2 = 1
    · left
      rw [if_neg h, if_pos h1]
      exact ⟨Prod.ext (decodeN_one n x0 x1 x2 x3 (by omega) h1) h1, rfl⟩
    · right
      rw [if_neg h, if_neg h1]
      exact ⟨rfl, fun g => h1 g.2⟩
end Go.Proofs.YteipiaefamfleaaGreatDoor
namespace Go.Proofs.YteipiaefamfleaaGreatDoor
open Go.RowKit

/-- The library's two tables lie in this world as their text lays them. -/
def Tabs (w : World) : Prop := Lib.Utf8Tabs 0 1 w
theorem Tabs.below {w w' : World} (h : Tabs w) (hb : Below w.heap.size w w') : Tabs w' := Utf8Tabs_below h hb
theorem ret_iii {k l m : IntKind} {a b c a' b' c' : Int} (h : a = a' ∧ b = b' ∧ c = c') : Ending.returned (.tuple #[.int k a, .int l b, .int m c]) = .returned (.tuple #[.int k a', .int l b', .int m c']) := by rw [h.1, h.2.1, h.2.2]

theorem next_out (p : Option Addr) (n cap : Nat) (at_ : Int) (w : World) (h : at_ < 0 ∨ (n : Int) ≤ at_) :
    Calls Tryz.prog 18 #[.slice p n cap, .int .i64 at_] w fun e w' => e = .returned (.tuple #[.int .i32 0, .int .i64 0, .int .i64 1]) ∧ w = w' := by
  go_enter Tryz.func18, Tryz.ntmps18
  go_wp2_with (fail)
  all_goals first | (exfalso; omega) | (go_ret3; exact ⟨rfl, rfl⟩)

set_option maxHeartbeats 1000000 in
theorem next_walk (n b off cap at_ : Nat) (R K r k e : Int) (w : World) (hat : at_ < n) (hcap : at_ < cap) (hn : n ≤ 140737488355328) (_hnc : n ≤ cap) (hK : 1 ≤ K) (hK' : K ≤ 4)
    (cD : Calls Tryz.prog 23 #[.slice (some ⟨b, off + at_, none⟩) (n - at_) (cap - at_)] w fun e w' => e = .returned (.tuple #[.int .i32 R, .int .i64 K]) ∧ Below w.heap.size w w')
    (h : (R = 65533 ∧ K = 1 ∧ r = 0 ∧ k = 0 ∧ e = 20) ∨ (¬ (R = 65533 ∧ K = 1) ∧ charB R = true ∧ r = R ∧ k = at_ + K ∧ e = 0) ∨ (¬ (R = 65533 ∧ K = 1) ∧ charB R = false ∧ r = 0 ∧ k = 0 ∧ e = 21)) :
    Calls Tryz.prog 18 #[.slice (some ⟨b, off, none⟩) n cap, .int .i64 (at_ : Int)] w fun e' w' => e' = .returned (.tuple #[.int .i32 r, .int .i64 k, .int .i64 e]) ∧ Below w.heap.size w w' := by
  have hat' : (at_ : Int) < (n : Int) := by omega
  have CD := Lib.hid cD
  clear cD
  have cI := isChar R
  rcases h with ⟨h1, h2, h3⟩ | ⟨h1, h2, h3⟩ | ⟨h1, h2, h3⟩
  · subst h1 h2
    have H := Lib.hid h3
    clear h3 cI
    go_enter Tryz.func18, Tryz.ntmps18
    go_wp2_with (go_at_call 23; refine (CD.out).mono ?_; rintro e w' ⟨rfl, hb⟩)
    all_goals first | (exfalso; omega) | (go_ret3; exact ⟨ret_iii (by have := H.out; omega), hb⟩)
  · rw [h2] at cI
    have H := Lib.hid h3
    have CI := Lib.hid cI
    clear h3 h2 cI
    by_cases hR : R = 65533
    · subst hR
      have hK1 : (K == 1) = false := by simp; omega
      go_enter Tryz.func18, Tryz.ntmps18
      go_wp2_with (first | (go_at_call 23; refine (CD.out).mono ?_; rintro e w' ⟨rfl, hb⟩) | (go_at_call 24; refine (CI.out _).mono ?_; rintro e w' ⟨rfl, rfl⟩))
      all_goals first | (exfalso; omega) | (go_ret3; exact ⟨ret_iii (by have := H.out; omega), hb⟩)
    · have hR1 : (R == 65533) = false := by simp; omega
      clear hR h1
      go_enter Tryz.func18, Tryz.ntmps18
      go_wp2_with (first | (go_at_call 23; refine (CD.out).mono ?_; rintro e w' ⟨rfl, hb⟩) | (go_at_call 24; refine (CI.out _).mono ?_; rintro e w' ⟨rfl, rfl⟩))
      all_goals first | (exfalso; omega) | (go_ret3; exact ⟨ret_iii (by have := H.out; omega), hb⟩)
  · rw [h2] at cI
    have H := Lib.hid h3
    have CI := Lib.hid cI
    clear h3 h2 cI
    by_cases hR : R = 65533
    · subst hR
      have hK1 : (K == 1) = false := by simp; omega
      go_enter Tryz.func18, Tryz.ntmps18
      go_wp2_with (first | (go_at_call 23; refine (CD.out).mono ?_; rintro e w' ⟨rfl, hb⟩) | (go_at_call 24; refine (CI.out _).mono ?_; rintro e w' ⟨rfl, rfl⟩))
      all_goals first | (exfalso; omega) | (go_ret3; exact ⟨ret_iii (by have := H.out; omega), hb⟩)
    · have hR1 : (R == 65533) = false := by simp; omega
      clear hR h1
      go_enter Tryz.func18, Tryz.ntmps18
      go_wp2_with (first | (go_at_call 23; refine (CD.out).mono ?_; rintro e w' ⟨rfl, hb⟩) | (go_at_call 24; refine (CI.out _).mono ?_; rintro e w' ⟨rfl, rfl⟩))
      all_goals first | (exfalso; omega) | (go_ret3; exact ⟨ret_iii (by have := H.out; omega), hb⟩)

theorem next_in (s : ByteArray) (b off cap at_ : Nat) (w : World) (hT : Tabs w) (hs : s.size ≤ 140737488355328) (hcap : s.size ≤ cap) (hat : at_ < s.size) (hp : ∀ j, j < s.size → w.cell? ⟨b, off + j, none⟩ = some (.int .u8 (s.get! j).toNat)) :
    Calls Tryz.prog 18 #[.slice (some ⟨b, off, none⟩) s.size cap, .int .i64 (at_ : Int)] w fun e w' => e = .returned (.tuple #[.int .i32 ((nextF s at_).1 : Int), .int .i64 ((nextF s at_).2.1 : Int), .int .i64 ((nextF s at_).2.2 : Int)]) ∧ Below w.heap.size w w' := by
  have hz : (s.extract at_ s.size).size = s.size - at_ := by simp
  have cD := Tryz.decodeRune (s.extract at_ s.size) b (off + at_) (cap - at_) w hT (fun j hj => by
    rw [get!_extract _ _ _ (by omega), Nat.add_assoc]; exact hp (at_ + j) (by omega))
  rw [hz, decodeGo_at s at_ hat] at cD
  have l0 : (s.get! at_).toNat < 256 := (s.get! at_).toNat_lt
  have hb := decodeN_bd (s.size - at_) (s.get! at_).toNat (s.get! (at_ + 1)).toNat (s.get! (at_ + 2)).toNat (s.get! (at_ + 3)).toNat l0
  have hr := rd_of_decode (s.size - at_) (s.get! at_).toNat (s.get! (at_ + 1)).toNat (s.get! (at_ + 2)).toNat (s.get! (at_ + 3)).toNat l0
  refine next_walk s.size b off cap at_ _ _ _ _ _ w hat (by omega) hs hcap ?_ ?_ cD ?_
  · omega
  · omega
  unfold nextF rd
  generalize Lib.decodeN (s.size - at_) (s.get! at_).toNat (s.get! (at_ + 1)).toNat (s.get! (at_ + 2)).toNat (s.get! (at_ + 3)).toNat = d at *
  generalize rdN (s.size - at_) (s.get! at_).toNat (s.get! (at_ + 1)).toNat (s.get! (at_ + 2)).toNat (s.get! (at_ + 3)).toNat = q at *
  rcases hr with ⟨rfl, rfl⟩ | ⟨rfl, hq⟩
  · left; simp
  · have hz2 : ¬ q.2 = 0 := by omega
    cases hc : charB (q.1 : Int)
    · right; right; simp [hz2]; omega
    · right; left; simp [hz2]; omega
end Go.Proofs.YteipiaefamfleaaGreatDoor
namespace Go.Proofs.YteipiaefamfleaaGreatDoor
open Go.ChangeShapes Go.WideShapes Go.ChangeAt Go.RowKit

theorem own : ownKnob Tryz.prog.godebug = none := by kernel_rfl
theorem laidOut : laidOutB Tryz.prog = true := by kernel_rfl
theorem bulk_one {H : Type} (d : DataW H) : 1 ≤ Rows.uptoBulk d := by
  cases d with
  | lit l => cases l <;> simp [Rows.uptoBulk]
  | _ => simp [Rows.uptoBulk]
theorem bulk_length {H : Type} : ∀ l : List (DataW H), l.length ≤ Rows.uptoBulkAll l
  | [] => by simp [Rows.uptoBulkAll]
  | d :: l => by
    have h1 := bulk_one d
    have h2 := bulk_length l
    simp only [Rows.uptoBulkAll, List.length_cons]
    omega
theorem bulk_part {H : Type} {d : DataW H} : ∀ {l : List (DataW H)}, d ∈ l → Rows.uptoBulk d ≤ Rows.uptoBulkAll l
  | [], h => by cases h
  | x :: l, h => by
    simp only [Rows.uptoBulkAll]
    rcases List.mem_cons.1 h with rfl | h
    · omega
    · have := bulk_part h
      omega
theorem bulk_bound {H : Type} {l : List (DataW H)} (hk : Rows.uptoSmall H l = true) {d : DataW H} (h : d ∈ l) : Rows.uptoBulk d ≤ 1048576 :=
  Nat.le_trans (bulk_part h) (of_decide_eq_true hk)

end Go.Proofs.YteipiaefamfleaaGreatDoor
namespace Go.Proofs.YteipiaefamfleaaGreatDoor
open Go.ChangeShapes Go.WideShapes Go.ChangeAt Go.RowKit
open Go.Lib

theorem cellsByte : Tryz.prog.cellsOf 5 = 1 := by kernel_rfl

/-- These bytes stand behind this address (nothing is asked of none). -/
def HoldsB (w : World) (p : Option Addr) (s : ByteArray) : Prop := 0 < s.size → ∃ b off, p = some ⟨b, off, none⟩ ∧ ∀ j, j < s.size → w.cell? ⟨b, off + j, none⟩ = some (.int .u8 (s.get! j).toNat)

theorem below_cat {a b c : World} (h : Below a.heap.size a b) (k : Below b.heap.size b c) : Below a.heap.size a c := h.trans (k.mono h.size)
theorem hb_cell {w W : World} {a : Addr} {v : Value} (h : Below w.heap.size w W) (hc : w.cell? a = some v) : W.cell? a = some v :=
  (h.cell (World.block_lt_of_cell? _ _ hc)).trans hc
theorem HoldsB.below {w W : World} {p : Option Addr} {s : ByteArray} (h : HoldsB w p s) (hb : Below w.heap.size w W) : HoldsB W p s := fun h0 => by
  obtain ⟨b, off, e, hc⟩ := h h0
  exact ⟨b, off, e, fun j hj => hb_cell hb (hc j hj)⟩

theorem open_bytes {H : Type} {enc : TypeId × Value → H} {W : World} {a0 : Option Addr} {len cap : Nat} {d0 : DataW H} {p : List MemPlace} {ts : List TypeId} {ds : List (DataW H)} {j : Nat}
    (hsz : (DataW.weightsEach Tryz.prog ts ds).all (· ≤ reachBytes) = true) (ht : ts[j]? = some 22) (hd : ds[j]? = some d0)
    (h0 : DataW.Trod enc Tryz.prog W 0 (fun _ => true) true 22 (.slice a0 len cap) d0 p) :
    ∃ s : ByteArray, s.size = len ∧ len ≤ cap ∧ len ≤ 140737488351232 ∧ HoldsB W a0 s ∧ (a0 = none → cap = 0) ∧ len ≤ Rows.uptoBulk d0 := by
  obtain ⟨fuel, hf⟩ := h0
  rcases open_ints Tryz.underlying22 Tryz.underlying5 cellsByte hf with ⟨hcs, hx⟩ | ⟨a, len', cap', zs, hcs, _, hl, hm, hz, hx, hcell, hwz⟩
  · simp [Value.cells] at hcs
    obtain ⟨rfl, rfl, rfl⟩ := hcs
    exact ⟨⟨#[]⟩, rfl, Nat.le_refl _, by omega, fun h => absurd h (by decide), fun _ => rfl, Nat.zero_le _⟩
  · simp [Value.cells] at hcs
    obtain ⟨rfl, rfl, rfl⟩ := hcs
    simp only [Prod.mk.injEq] at hx
    obtain ⟨rfl, rfl⟩ := hx
    simp only [if_true] at hz
    have hb : Tryz.prog.bytesOf 5 = 1 := by kernel_rfl
    have hw := sized_slice hsz ht hd Tryz.underlying22
    have hr : reachBytes = 140737488351232 := rfl
    rw [hb, hr] at hw
    simp only [lits, List.length_map, List.length_take, List.length_drop] at hw
    have byte : ∀ j, j < zs.length → 0 ≤ zs.getD j 0 ∧ zs.getD j 0 < 256 := fun j hj => by
      have h1 := hwz (zs.getD j 0) (by simp [List.getD, hj])
      have h2 : IntKind.u8.min = 0 := rfl
      have h3 : IntKind.u8.max = 255 := rfl
      simp only [Lit.wf, Bool.and_eq_true, decide_eq_true_eq] at h1
      omega
    refine ⟨⟨((zs.take len).map fun n => UInt8.ofNat n.toNat).toArray⟩, by simp [ByteArray.size]; omega, by omega, by omega, fun h => ?_, (fun h => by cases h), ?_⟩
    rotate_left
    · have h1 := bulk_length (lits (H := H) .u8 (zs.take len))
      have h2 : (lits (H := H) .u8 (zs.take len)).length = len := by simp [lits]; omega
      simp only [Rows.uptoBulk]
      omega
    have hlen : 0 < len := by simp [ByteArray.size] at h; omega
    obtain ⟨b, off, rfl, hc⟩ := ints_at hcell (by omega)
    refine ⟨b, off, rfl, fun j hj => ?_⟩
    have hj' : j < len := by simp [ByteArray.size] at hj; omega
    rw [hc j (by omega)]
    have e : (ByteArray.mk ((zs.take len).map fun n => UInt8.ofNat n.toNat).toArray).get! j = UInt8.ofNat (zs.getD j 0).toNat := by
      show (((zs.take len).map fun n => UInt8.ofNat n.toNat).toArray)[j]! = _
      rw [getElem!_pos _ _ (by simp; omega)]
      simp [List.getD, show j < zs.length by omega]
    have := byte j (by omega)
    have e3 : ((UInt8.ofNat (zs.getD j 0).toNat).toNat : Int) = zs.getD j 0 := by
      rw [UInt8.toNat_ofNat']
      omega
    rw [e, e3]
end Go.Proofs.YteipiaefamfleaaGreatDoor
namespace Go.Proofs.YteipiaefamfleaaGreatDoor
open Go.ChangeShapes Go.WideShapes Go.ChangeAt Go.RowKit
open Go.Lib

def wordOf : Nat → ByteArray
  | 0 => ⟨#[38, 108, 116, 59]⟩
  | 1 => ⟨#[38, 103, 116, 59]⟩
  | 2 => ⟨#[38, 97, 109, 112, 59]⟩
  | 3 => ⟨#[38, 97, 112, 111, 115, 59]⟩
  | _ => ⟨#[38, 113, 117, 111, 116, 59]⟩
def charOf : Nat → Int
  | 0 => 60
  | 1 => 62
  | 2 => 38
  | 3 => 39
  | _ => 34
def NamedAt (W : World) : Prop := ∀ k, k < 5 → W.cell? ⟨6, 2 * k, none⟩ = some (.string (wordOf k)) ∧ W.cell? ⟨6, 2 * k + 1, none⟩ = some (.int .i32 (charOf k))
theorem NamedAt.below {w W : World} (h : NamedAt w) (hb : Below w.heap.size w W) : NamedAt W := fun k hk => ⟨hb_cell hb (h k hk).1, hb_cell hb (h k hk).2⟩

set_option maxRecDepth 100000 in
theorem named_of {W : World} (h : VarReads Tryz.prog W "lectern/refer.named" Rows.laid_lectern_refer_named) : NamedAt W := by
  obtain ⟨g, t, cs, fuel, p, hg, hty, hvar, hd⟩ := h
  obtain rfl := Option.some.inj ((show Tryz.prog.globalNamed "lectern/refer.named" = some 6 by kernel_rfl).symm.trans hg)
  obtain rfl := Option.some.inj ((show (Tryz.prog.globals[(6 : Nat)]?).map (·.type) = some 132 by kernel_rfl).symm.trans hty)
  have c2 : Tryz.prog.cellsOf 131 = 2 := by kernel_rfl
  have c1 : Tryz.prog.cellsOf 9 = 1 := by kernel_rfl
  have c1' : Tryz.prog.cellsOf 21 = 1 := by kernel_rfl
  intro k hk
  obtain ⟨fuel', d, q, hdi, he⟩ := array_elem Tryz.underlying132 hd k hk
  have hd' : d = .agg [.lit (.string (wordOf k).data.toList), .lit (.int .i32 (charOf k))] := by
    match k, hk, hdi with
    | 0, _, hdi => exact (Option.some.inj hdi).symm
    | 1, _, hdi => exact (Option.some.inj hdi).symm
    | 2, _, hdi => exact (Option.some.inj hdi).symm
    | 3, _, hdi => exact (Option.some.inj hdi).symm
    | 4, _, hdi => exact (Option.some.inj hdi).symm
  subst hd'
  obtain ⟨y0, y1, n, hx, hl, h0, h1⟩ := trod_struct2 Tryz.underlying131 he
  obtain ⟨s, e0, e1, _⟩ := DataW.trod_string Tryz.underlying9 h0
  obtain ⟨z, e2, e3, _⟩ := DataW.trod_int Tryz.underlying21 h1
  subst e1 e3
  simp only [Prod.mk.injEq, DataW.agg.injEq, List.cons.injEq, DataW.lit.injEq, Lit.string.injEq, Lit.int.injEq, true_and, and_true] at hx
  obtain ⟨⟨hs, hz⟩, _⟩ := hx
  have es : s = wordOf k := by
    apply ByteArray.ext
    exact Array.ext' hs.symm
  subst es
  rw [c2, c1] at e0
  rw [c2, c1'] at e2
  have g0 := congrArg (·[0]?) e0
  have g1 := congrArg (·[0]?) e2
  simp only [List.getElem?_take, List.getElem?_drop] at g0 g1
  constructor
  · rw [World.var?_cell hg hvar (2 * k), ← Array.getElem?_toList]
    simpa [Nat.mul_comm] using g0
  · rw [World.var?_cell hg hvar (2 * k + 1), ← Array.getElem?_toList, hz]
    simpa [Nat.mul_comm] using g1
end Go.Proofs.YteipiaefamfleaaGreatDoor
namespace Go.Proofs.YteipiaefamfleaaGreatDoor
open Go.RowKit

/-- From pos on, in at most b steps: each character may stand in a name, and the first may begin one. -/
def nameGo (s : ByteArray) : Nat → Nat → Bool
  | 0, _ => true
  | b + 1, pos => if pos < s.size then
      (if (rd s pos).2 = 0 then false else if partB (rd s pos).1 = false then false else if pos = 0 ∧ startB (rd s pos).1 = false then false else nameGo s b (pos + (rd s pos).2)) else true
def nameB (s : ByteArray) : Bool := if s.size = 0 ∨ 100 < s.size then false else nameGo s s.size 0
def validAt (s : ByteArray) (pos : Nat) : Bool := Lib.validD (s.data.toList.drop pos)

theorem decode_drop (s : ByteArray) (pos : Nat) (h : pos ≤ s.size) : Utf8.decode s pos = Lib.decodeL (s.data.toList.drop pos) := by
  have e : (⟨(s.data.toList.drop pos).toArray⟩ : ByteArray) = s.extract pos s.size := by
    rw [← Lib.ext_list]
  unfold Lib.decodeL
  rw [e, decode_rd, decode_rd, get!_extract _ _ _ h, get!_extract _ _ _ h, get!_extract _ _ _ h, get!_extract _ _ _ h, Lib.ext_size]
  rfl

theorem decode_cases (s : ByteArray) (pos : Nat) :
    (Utf8.decode s pos = (65533, 1) ∧ rd s pos = (0, 0)) ∨ (rd s pos = Utf8.decode s pos ∧ ¬ ((Utf8.decode s pos).1 = 65533 ∧ (Utf8.decode s pos).2 = 1)) := by
  rw [decode_rd]
  exact rd_of_decode _ _ _ _ _ (s.get! pos).toNat_lt

theorem valid_step (s : ByteArray) (pos : Nat) (h : pos < s.size) : validAt s pos = if (rd s pos).2 = 0 then false else validAt s (pos + (rd s pos).2) := by
  have hne : s.data.toList.drop pos ≠ [] := by
    intro e
    have := congrArg List.length e
    have hz : s.data.toList.length = s.size := by simp
    simp [List.length_drop] at this
    omega
  unfold validAt
  rw [Lib.validD_step _ hne, ← decode_drop s pos (by omega), List.drop_drop]
  have hw : 1 ≤ (Utf8.decode s pos).2 := by rw [decode_drop s pos (by omega)]; exact Lib.decodeL_width _
  rcases decode_cases s pos with ⟨e, r⟩ | ⟨r, hn⟩
  · rw [e, r]; rfl
  · rw [if_neg hn, r, if_neg (by omega)]

theorem name_valid (s : ByteArray) : ∀ (b pos : Nat), s.size ≤ pos + b → nameGo s b pos = true → validAt s pos = true
  | 0, pos, hb, _ => by
    unfold validAt
    rw [List.drop_eq_nil_of_le (by simp; omega)]; rfl
  | b + 1, pos, hb, h => by
    by_cases hp : pos < s.size
    · unfold nameGo at h
      rw [if_pos hp] at h
      rw [valid_step s pos hp]
      split at h
      · cases h
      · rename_i hr
        rw [if_neg hr]
        split at h
        · cases h
        split at h
        · cases h
        exact name_valid s b _ (by omega) h
    · unfold validAt
      rw [List.drop_eq_nil_of_le (by simp; omega)]; rfl

theorem name_false_of_invalid (s : ByteArray) (h : Lib.validD s.data.toList = false) (b : Nat) (hb : s.size ≤ b) : nameGo s b 0 = false := by
  cases g : nameGo s b 0
  · rfl
  · have := name_valid s b 0 (by omega) g
    unfold validAt at this
    rw [List.drop_zero] at this
    rw [this] at h
    cases h

theorem nameGo_end (s : ByteArray) (b pos : Nat) (h : ¬ pos < s.size) : nameGo s b pos = true := by
  cases b with
  | zero => rfl
  | succ b => unfold nameGo; rw [if_neg h]
theorem nameGo_step (s : ByteArray) (b pos : Nat) (h : pos < s.size) (h0 : (rd s pos).2 ≠ 0) (h1 : partB (rd s pos).1 = true) (h2 : pos = 0 → startB (rd s pos).1 = true) : nameGo s (b + 1) pos = nameGo s b (pos + (rd s pos).2) := by
  rw [nameGo, if_pos h, if_neg h0, if_neg (by rw [h1]; simp), if_neg (by rintro ⟨g, g'⟩; rw [h2 g] at g'; cases g')]
theorem nameGo_bad (s : ByteArray) (b pos : Nat) (h : pos < s.size) (h0 : (rd s pos).2 = 0 ∨ partB (rd s pos).1 = false ∨ (pos = 0 ∧ startB (rd s pos).1 = false)) : nameGo s (b + 1) pos = false := by
  rw [nameGo, if_pos h]
  rcases h0 with h0 | h0 | ⟨h0, h1⟩
  · rw [if_pos h0]
  · simp [h0]
  · subst h0
    simp [h1]
theorem start_part {r : Int} (h : startB r = true) : partB r = true := by unfold partB; rw [h]; rfl
theorem rd_le (s : ByteArray) (pos : Nat) (h : pos < s.size) : pos + (rd s pos).2 ≤ s.size := by
  have hf := decodeN_fits (s.size - pos) (s.get! pos).toNat (s.get! (pos + 1)).toNat (s.get! (pos + 2)).toNat (s.get! (pos + 3)).toNat (by omega)
  rcases decode_cases s pos with ⟨_, r⟩ | ⟨r, _⟩
  · rw [r]; simp; omega
  · rw [r, decode_rd]; omega
theorem rd_bd (s : ByteArray) (pos : Nat) : (rd s pos).1 ≤ 1114111 ∧ (rd s pos).2 ≤ 4 := by
  have hb := decodeN_bd (s.size - pos) (s.get! pos).toNat (s.get! (pos + 1)).toNat (s.get! (pos + 2)).toNat (s.get! (pos + 3)).toNat (s.get! pos).toNat_lt
  rcases decode_cases s pos with ⟨_, r⟩ | ⟨r, _⟩
  · rw [r]; simp
  · rw [r, decode_rd]; exact ⟨hb.2.2, hb.2.1⟩
end Go.Proofs.YteipiaefamfleaaGreatDoor
namespace Go.Proofs.YteipiaefamfleaaGreatDoor
open Go.RowKit

/-- From pos on, in at most b steps: the first fault's place and its error; (0, 0): none. -/
def faultGo (s : ByteArray) : Nat → Nat → Nat × Nat
  | 0, _ => (0, 0)
  | b + 1, pos => if pos < s.size then (if (rd s pos).2 = 0 then (pos, 20) else if charB (rd s pos).1 = false then (pos, 21) else faultGo s b (pos + (rd s pos).2)) else (0, 0)
def faultF (s : ByteArray) : Nat × Nat := faultGo s s.size 0
theorem faultGo_end (s : ByteArray) (b pos : Nat) (h : ¬ pos < s.size) : faultGo s b pos = (0, 0) := by
  cases b with
  | zero => rfl
  | succ b => unfold faultGo; rw [if_neg h]
theorem faultGo_bad (s : ByteArray) (b pos : Nat) (h : pos < s.size) (h0 : (rd s pos).2 = 0) : faultGo s (b + 1) pos = (pos, 20) := by
  rw [faultGo, if_pos h, if_pos h0]
theorem faultGo_no (s : ByteArray) (b pos : Nat) (h : pos < s.size) (h0 : (rd s pos).2 ≠ 0) (h1 : charB (rd s pos).1 = false) : faultGo s (b + 1) pos = (pos, 21) := by
  rw [faultGo, if_pos h, if_neg h0, if_pos h1]
theorem faultGo_step (s : ByteArray) (b pos : Nat) (h : pos < s.size) (h0 : (rd s pos).2 ≠ 0) (h1 : charB (rd s pos).1 = true) : faultGo s (b + 1) pos = faultGo s b (pos + (rd s pos).2) := by
  rw [faultGo, if_pos h, if_neg h0, if_neg (by rw [h1]; simp)]
end Go.Proofs.YteipiaefamfleaaGreatDoor
namespace Go.Proofs.YteipiaefamfleaaGreatDoor
open Go.RowKit

/-- A hexadecimal digit's number; 16: it is none. -/
def digZ (c : Int) : Int := if 48 ≤ c ∧ c ≤ 57 then c - 48 else if 97 ≤ c ∧ c ≤ 102 then c - 87 else if 65 ≤ c ∧ c ≤ 70 then c - 55 else 16
/-- The same, as the document has it: -1: it is none. -/
def hexZ (c : Int) : Int := if digZ c < 16 then digZ c else -1
theorem digZ_bd (c : Int) : 0 ≤ digZ c ∧ digZ c ≤ 16 := by
  unfold digZ
  repeat' split
  all_goals omega
def by_ (s : ByteArray) (k : Nat) : Int := (s.get! k).toNat
theorem by_bd (s : ByteArray) (k : Nat) : 0 ≤ by_ s k ∧ by_ s k < 256 := by
  unfold by_
  have := (s.get! k).toNat_lt
  omega

/-- The digits from pos on, n so far: the number (held at 1114112), and the place behind. -/
def numGo (s : ByteArray) (base : Nat) : Nat → Nat → Nat → Nat × Nat
  | 0, pos, n => (n, pos)
  | k + 1, pos, n => if pos < s.size ∧ digZ (by_ s pos) < base then numGo s base k (pos + 1) (min (n * base + (digZ (by_ s pos)).toNat) 1114112) else (n, pos)
theorem numGo_end (s : ByteArray) (base k pos n : Nat) (h : ¬ (pos < s.size ∧ digZ (by_ s pos) < base)) : numGo s base k pos n = (n, pos) := by
  cases k with
  | zero => rfl
  | succ k => rw [numGo, if_neg h]
theorem numGo_step (s : ByteArray) (base k pos n : Nat) (h : pos < s.size) (h2 : digZ (by_ s pos) < base) : numGo s base (k + 1) pos n = numGo s base k (pos + 1) (min (n * base + (digZ (by_ s pos)).toNat) 1114112) := by
  rw [numGo, if_pos ⟨h, h2⟩]
/-- What a number stands for that is over at a place. -/
def numOut (s : ByteArray) (first : Nat) (r : Nat × Nat) : Int × Int × Int :=
  if r.2 = first ∨ r.2 = s.size ∨ by_ s r.2 ≠ 59 then (0, 0, 22) else if charB r.1 then (r.1, r.2 + 1, 0) else (0, 0, 21)
def numF (s : ByteArray) (at_ : Nat) : Int × Int × Int :=
  if at_ < s.size ∧ by_ s at_ = 120 then numOut s (at_ + 1) (numGo s 16 s.size (at_ + 1) 0) else numOut s at_ (numGo s 10 s.size at_ 0)
end Go.Proofs.YteipiaefamfleaaGreatDoor
namespace Go.Proofs.YteipiaefamfleaaGreatDoor
open Go.RowKit

theorem rdN_bytes (n x0 x1 x2 x3 : Nat) (h0 : x0 < 256) (h1 : x1 < 256) (h2 : x2 < 256) (h3 : x3 < 256) (h : (rdN n x0 x1 x2 x3).2 ≠ 0) :
    ((rdN n x0 x1 x2 x3) = (x0, 1) ∧ x0 < 128) ∨ (2 ≤ (rdN n x0 x1 x2 x3).2 ∧ (rdN n x0 x1 x2 x3).2 ≤ 4 ∧ 128 ≤ x0 ∧ 128 ≤ x1 ∧ (3 ≤ (rdN n x0 x1 x2 x3).2 → 128 ≤ x2) ∧ (4 ≤ (rdN n x0 x1 x2 x3).2 → 128 ≤ x3)) := by
  by_cases a : x0 < 128
  · left; exact ⟨rd_ascii a, a⟩
  · right
    by_cases g1 : (Lib.decodeN n x0 x1 x2 x3).2 = 1
    · unfold rdN at h; rw [if_neg a, if_pos g1] at h; exact absurd rfl h
    · have e : rdN n x0 x1 x2 x3 = Lib.decodeN n x0 x1 x2 x3 := by unfold rdN; rw [if_neg a, if_neg g1]
      rw [e]
      revert g1
      unfold Lib.decodeN
      repeat' split
      all_goals (intro g1; first | exact absurd rfl g1 | (simp only; omega))

theorem name_nocolon (s : ByteArray) : ∀ (b pos : Nat), s.size ≤ pos + b → nameGo s b pos = true → ∀ j, pos ≤ j → j < s.size → (s.get! j).toNat ≠ 58
  | 0, pos, hb, _, j, h1, h2 => by omega
  | b + 1, pos, hb, h, j, h1, h2 => by
    have hp : pos < s.size := by omega
    unfold nameGo at h
    rw [if_pos hp] at h
    split at h
    · cases h
    rename_i hr
    split at h
    · cases h
    rename_i hpart
    split at h
    · cases h
    by_cases hj : pos + (rd s pos).2 ≤ j
    · exact name_nocolon s b _ (by omega) h j hj h2
    · have hx := rdN_bytes (s.size - pos) (s.get! pos).toNat (s.get! (pos + 1)).toNat (s.get! (pos + 2)).toNat (s.get! (pos + 3)).toNat (s.get! pos).toNat_lt (s.get! (pos + 1)).toNat_lt (s.get! (pos + 2)).toNat_lt (s.get! (pos + 3)).toNat_lt hr
      have ed : rdN (s.size - pos) (s.get! pos).toNat (s.get! (pos + 1)).toNat (s.get! (pos + 2)).toNat (s.get! (pos + 3)).toNat = rd s pos := rfl
      rw [ed] at hx
      rcases hx with ⟨hx, ha⟩ | ⟨k1, k2, k3, k4, k5, k6⟩
      · rw [hx] at hj hpart
        have : j = pos := by simp only at hj; omega
        subst this
        intro e
        rw [e] at hpart
        exact hpart (by decide)
      · have : j = pos ∨ j = pos + 1 ∨ (j = pos + 2 ∧ 3 ≤ (rd s pos).2) ∨ (j = pos + 3 ∧ 4 ≤ (rd s pos).2) := by omega
        rcases this with rfl | rfl | ⟨rfl, g⟩ | ⟨rfl, g⟩
        · omega
        · omega
        · have := k5 g; omega
        · have := k6 g; omega

theorem nameB_nocolon (s : ByteArray) (h : nameB s = true) (j : Nat) (hj : j < s.size) : (s.get! j).toNat ≠ 58 := by
  unfold nameB at h
  split at h
  · cases h
  · exact name_nocolon s s.size 0 (by omega) h j (Nat.zero_le _) hj

theorem get!_of (s : ByteArray) (j : Nat) (hj : j < s.size) : s.data.toList[j]? = some (s.get! j) := by
  have e : s.get! j = s.data[j]'hj := by
    show s.data[j]! = _
    rw [getElem!_pos s.data j hj]
  rw [e]
  simp [Array.getElem?_eq_getElem (show j < s.data.size from hj)]
theorem u8_eq {x : UInt8} (h : x.toNat = 58) : x = 58 := by
  apply UInt8.toNat_inj.1
  rw [h]; rfl

theorem name_index (s : ByteArray) (h : nameB s = true) : Lib.indexByte s.data.toList 58 = -1 := by
  have hg := Lib.indexByte_ge s.data.toList 58
  by_cases hi : Lib.indexByte s.data.toList 58 = -1
  · exact hi
  · obtain ⟨i, hi'⟩ : ∃ i : Nat, Lib.indexByte s.data.toList 58 = i := ⟨(Lib.indexByte s.data.toList 58).toNat, by omega⟩
    have h1 := (Lib.indexByte_some hi').1
    have h2 : i < s.size := by have := (List.getElem?_eq_some_iff.1 h1).1; simpa using this
    rw [get!_of s i h2] at h1
    exact absurd (by rw [Option.some.inj h1]; rfl) (nameB_nocolon s h i h2)

/-- The first colon stands at i0, none ahead of it. -/
theorem first_colon (q : ByteArray) (i0 : Nat) (h : Lib.indexByte q.data.toList 58 = i0) : i0 < q.size ∧ (q.get! i0).toNat = 58 ∧ ∀ j, j < i0 → (q.get! j).toNat ≠ 58 := by
  obtain ⟨h1, h2⟩ := Lib.indexByte_some h
  have hi : i0 < q.size := by have := (List.getElem?_eq_some_iff.1 h1).1; simpa using this
  refine ⟨hi, ?_, fun j hj e => h2 j hj ?_⟩
  · rw [get!_of q i0 hi] at h1
    rw [Option.some.inj h1]; rfl
  · rw [get!_of q j (by omega), u8_eq e]
theorem no_colon (q : ByteArray) (h : Lib.indexByte q.data.toList 58 = -1) (j : Nat) (hj : j < q.size) : (q.get! j).toNat ≠ 58 := fun e => Lib.indexByte_none h j (by rw [get!_of q j hj, u8_eq e])

/-- What stands ahead of a later colon holds a colon: it is no name. -/
theorem later_colon (q : ByteArray) (i0 k : Nat) (h : (q.get! i0).toNat = 58) (hk : i0 < k) (hq : k < q.size) : nameB (q.extract 0 k) = false := by
  cases g : nameB (q.extract 0 k)
  · rfl
  · have hz : (q.extract 0 k).size = k := by simp; omega
    have := nameB_nocolon _ g i0 (by omega)
    have e : (q.extract 0 k).get! i0 = q.get! i0 := by
      have e1 : (q.extract 0 k).get! i0 = (q.extract 0 k)[i0]'(by omega) := by
        show (q.extract 0 k).data[i0]! = _
        rw [getElem!_pos (q.extract 0 k).data i0 (by show i0 < (q.extract 0 k).size; omega)]; rfl
      have e2 : q.get! i0 = q[i0]'(by omega) := by
        show q.data[i0]! = _
        rw [getElem!_pos q.data i0 (by show i0 < q.size; omega)]; rfl
      rw [e1, e2, ByteArray.getElem_extract]
      simp
    rw [e] at this
    exact absurd h this
end Go.Proofs.YteipiaefamfleaaGreatDoor
namespace Go.Proofs.YteipiaefamfleaaGreatDoor
open Go.RowKit

/-- Does the k-th word stand at this place? -/
def pfxB (s : ByteArray) (at_ k : Nat) : Bool := Lib.hasPrefix (s.data.toList.drop at_) (wordOf k).data.toList
/-- What the last m words say of a place. -/
def namedGo (s : ByteArray) (at_ : Nat) : Nat → Int × Int × Int
  | 0 => (0, 0, 22)
  | m + 1 => if pfxB s at_ (4 - m) then (charOf (4 - m), (at_ : Int) + ((wordOf (4 - m)).size : Int), 0) else namedGo s at_ m
/-- What Expand answers at a place within where an ampersand stands. -/
def expF (s : ByteArray) (at_ : Nat) : Int × Int × Int := if at_ + 1 < s.size ∧ by_ s (at_ + 1) = 35 then numF s (at_ + 2) else namedGo s at_ 5
def tailZ (s : ByteArray) (at_ : Nat) : List Int := (List.range (s.size - at_)).map fun j => by_ s (at_ + j)
theorem tailZ_length (s : ByteArray) (at_ : Nat) : (tailZ s at_).length = s.size - at_ := by simp [tailZ]
theorem tailZ_get (s : ByteArray) (at_ i : Nat) (h : i < s.size - at_) : (tailZ s at_).getD i 0 = by_ s (at_ + i) := by
  simp [tailZ, List.getD, h]
theorem tailZ_bytes (s : ByteArray) (at_ : Nat) : Lib.bytesOf (tailZ s at_) = s.data.toList.drop at_ := by
  apply List.ext_getElem?
  intro i
  unfold Lib.bytesOf tailZ
  by_cases h : i < s.size - at_
  · have h1 := get!_of s (at_ + i) (by omega)
    rw [List.getElem?_drop, h1]
    simp only [List.map_map, List.getElem?_map, List.getElem?_range h, Option.map_some, Function.comp]
    congr 1
    unfold by_
    simp
  · rw [List.getElem?_eq_none (by simp; omega), List.getElem?_eq_none (by simp; omega)]
end Go.Proofs.YteipiaefamfleaaGreatDoor
namespace Go.Proofs.YteipiaefamfleaaGreatDoor
open Go.RowKit

def bothF (s : ByteArray) (at_ : Nat) : Int × Int × Int := if by_ s at_ = 60 then (0, 0, 23) else if by_ s at_ = 38 then expF s at_ else ((nextF s at_).1, (nextF s at_).2.1, (nextF s at_).2.2)
/-- Do ]]> stand at this place? -/
def closeB (s : ByteArray) (at_ : Nat) : Bool := Lib.hasPrefix (s.data.toList.drop at_) [93, 93, 62]
def stepT (s : ByteArray) (at_ : Nat) : Int × Int × Int := if closeB s at_ then (0, 0, 23) else bothF s at_
def stepV (s : ByteArray) (at_ : Nat) : Int × Int × Int := if by_ s at_ = 9 ∨ by_ s at_ = 10 ∨ by_ s at_ = 13 then (32, at_ + 1, 0) else bothF s at_
def readGo (step : Nat → Int × Int × Int) (n : Nat) : Nat → Nat → List UInt8 → List UInt8 × Nat × Int
  | 0, _, out => (out, 0, 0)
  | k + 1, pos, out => if pos < n then (if (step pos).2.2 = 0 then readGo step n k (step pos).2.1.toNat (out ++ Lib.encodeRune (step pos).1) else ([], pos, (step pos).2.2)) else (out, 0, 0)
def readF (step : Nat → Int × Int × Int) (n : Nat) : List UInt8 × Nat × Int := readGo step n n 0 []
theorem readGo_end (step : Nat → Int × Int × Int) (n k pos : Nat) (out : List UInt8) (h : ¬ pos < n) : readGo step n k pos out = (out, 0, 0) := by
  cases k with
  | zero => rfl
  | succ k => rw [readGo, if_neg h]
theorem readGo_bad (step : Nat → Int × Int × Int) (n k pos : Nat) (out : List UInt8) (h : pos < n) (he : ¬ (step pos).2.2 = 0) : readGo step n (k + 1) pos out = ([], pos, (step pos).2.2) := by rw [readGo, if_pos h, if_neg he]
theorem readGo_step (step : Nat → Int × Int × Int) (n k pos : Nat) (out : List UInt8) (h : pos < n) (he : (step pos).2.2 = 0) : readGo step n (k + 1) pos out = readGo step n k (step pos).2.1.toNat (out ++ Lib.encodeRune (step pos).1) := by rw [readGo, if_pos h, if_pos he]

/-- A right step goes on, stays within, and says no more than it takes. -/
def StepOk (n pos : Nat) (r : Int × Int × Int) : Prop := r.2.2 = 0 → (pos : Int) < r.2.1 ∧ r.2.1 ≤ n ∧ 0 ≤ r.1 ∧ r.1 ≤ 1114111 ∧ (pos : Int) + (Lib.encodeRune r.1).length ≤ r.2.1
theorem encode_len (r : Int) : (Lib.encodeRune r).length = (Lib.encodeRuneZ r).length := by simp [Lib.encodeRune]
theorem encode_len4 (r : Int) : (Lib.encodeRune r).length ≤ 4 := by
  rw [encode_len]
  exact (Lib.encodeRuneZ_length r).2
theorem encode_len1 (r : Int) (h0 : 0 ≤ r) (h1 : r ≤ 127) : (Lib.encodeRune r).length = 1 := by rw [encode_len, Lib.encodeRuneZ_one h0 h1]; rfl
theorem encode_len2 (r : Int) (h0 : 0 ≤ r) (h1 : r ≤ 2047) : (Lib.encodeRune r).length ≤ 2 := by
  by_cases h : r ≤ 127
  · rw [encode_len1 r h0 h]; omega
  · rw [encode_len, Lib.encodeRuneZ_two (by omega) h1]; simp
theorem encode_len3 (r : Int) (h0 : 0 ≤ r) (h1 : r ≤ 65535) : (Lib.encodeRune r).length ≤ 3 := by
  by_cases h : r ≤ 2047
  · have := encode_len2 r h0 h; omega
  · by_cases g : 55296 ≤ r ∧ r ≤ 57343
    · rw [encode_len, Lib.encodeRuneZ_bad (.inr (.inl g))]; simp
    · rw [encode_len, Lib.encodeRuneZ_three (by omega)]; simp
theorem rd_value (n x0 x1 x2 x3 : Nat) (h0 : x0 < 256) : ((rdN n x0 x1 x2 x3).2 ≤ 1 → (rdN n x0 x1 x2 x3).1 ≤ 127) ∧ ((rdN n x0 x1 x2 x3).2 ≤ 2 → (rdN n x0 x1 x2 x3).1 ≤ 2047) ∧ ((rdN n x0 x1 x2 x3).2 ≤ 3 → (rdN n x0 x1 x2 x3).1 ≤ 65535) := by
  by_cases a : x0 < 128
  · rw [rd_ascii a]
    simp only
    omega
  by_cases a2 : x0 < 192 ∨ 248 ≤ x0
  · rw [rd_none (by omega) h0]
    simp
  by_cases a3 : x0 < 224
  · by_cases g : n < 2 ∨ x1 < 128 ∨ 191 < x1 ∨ 64 * (x0 - 192) + (x1 - 128) < 128
    · rw [rd2_no (by omega) g]; simp
    · rw [rd2_yes (by omega) (by omega) (by omega) (by omega) (by omega)]
      simp only
      omega
  by_cases a4 : x0 < 240
  · by_cases g : n < 3 ∨ x1 < 128 ∨ 191 < x1 ∨ x2 < 128 ∨ 191 < x2 ∨ v3 x0 x1 x2 < 2048 ∨ (55296 ≤ v3 x0 x1 x2 ∧ v3 x0 x1 x2 ≤ 57343)
    · rw [rd3_no (by omega) g]; simp
    · rw [rd3_yes (by omega) (by omega) (by omega) (by omega) (by omega) (by omega) (by omega) (by omega)]
      unfold v3
      simp only
      omega
  · by_cases g : n < 4 ∨ x1 < 128 ∨ 191 < x1 ∨ x2 < 128 ∨ 191 < x2 ∨ x3 < 128 ∨ 191 < x3 ∨ v4 x0 x1 x2 x3 < 65536 ∨ 1114111 < v4 x0 x1 x2 x3
    · rw [rd4_no (by omega) g]; simp
    · rw [rd4_yes (by omega) (by omega) (by omega) (by omega) (by omega) (by omega) (by omega) (by omega) (by omega) (by omega)]
      simp only
      omega
theorem rd_encode_le (s : ByteArray) (pos : Nat) (h0 : (rd s pos).2 ≠ 0) : (Lib.encodeRune ((rd s pos).1 : Int)).length ≤ (rd s pos).2 := by
  have h := rd_value (s.size - pos) (s.get! pos).toNat (s.get! (pos + 1)).toNat (s.get! (pos + 2)).toNat (s.get! (pos + 3)).toNat (s.get! pos).toNat_lt
  obtain ⟨h1, h2, h3⟩ := h
  change ((rd s pos).2 ≤ 1 → (rd s pos).1 ≤ 127) at h1
  change ((rd s pos).2 ≤ 2 → (rd s pos).1 ≤ 2047) at h2
  change ((rd s pos).2 ≤ 3 → (rd s pos).1 ≤ 65535) at h3
  generalize rd s pos = d at *
  have h4 := encode_len4 (d.1 : Int)
  by_cases c1 : d.2 ≤ 1
  · rw [encode_len1 _ (by omega) (by have := h1 c1; omega)]; omega
  · by_cases c2 : d.2 ≤ 2
    · have := encode_len2 (d.1 : Int) (by omega) (by have := h2 c2; omega); omega
    · by_cases c3 : d.2 ≤ 3
      · have := encode_len3 (d.1 : Int) (by omega) (by have := h3 c3; omega); omega
      · omega
theorem numGo_bd (s : ByteArray) (base : Nat) : ∀ (k pos n : Nat), pos ≤ s.size → pos ≤ (numGo s base k pos n).2 ∧ (numGo s base k pos n).2 ≤ s.size
  | 0, pos, n, h => ⟨Nat.le_refl _, h⟩
  | k + 1, pos, n, h => by
    rw [numGo]
    split
    · rename_i g
      have := numGo_bd s base k (pos + 1) (min (n * base + (digZ (by_ s pos)).toNat) 1114112) (by omega)
      omega
    · exact ⟨Nat.le_refl _, h⟩
theorem charB_bd {n : Nat} (h : charB (n : Int) = true) : n ≤ 1114111 := by
  unfold charB at h
  have := of_decide_eq_true h
  omega
theorem numOut_ok' (s : ByteArray) (at_ first base : Nat) (ha : at_ + 2 ≤ first) (hf : first ≤ s.size) : StepOk s.size at_ (numOut s first (numGo s base s.size first 0)) := by
  have hb := numGo_bd s base s.size first 0 hf
  generalize numGo s base s.size first 0 = A at *
  obtain ⟨n, p⟩ := A
  simp only at hb
  intro he
  unfold numOut at he ⊢
  split at he
  · exact absurd he (by decide)
  · rename_i h1
    rw [if_neg h1]
    split at he
    · rename_i h2
      rw [if_pos h2]
      simp only [not_or] at h1
      have := charB_bd h2
      have := encode_len4 (n : Int)
      simp only
      omega
    · exact absurd he (by decide)
theorem numF_ok (s : ByteArray) (at_ : Nat) (h : at_ + 1 < s.size) : StepOk s.size at_ (numF s (at_ + 2)) := by
  unfold numF
  split
  · exact numOut_ok' s at_ (at_ + 2 + 1) 16 (by omega) (by omega)
  · exact numOut_ok' s at_ (at_ + 2) 10 (by omega) (by omega)
theorem pfx_le {s : ByteArray} {at_ : Nat} {p : List UInt8} (h : Lib.hasPrefix (s.data.toList.drop at_) p = true) : p.length ≤ s.size - at_ := by
  have h1 := (List.isPrefixOf_iff_prefix.1 h).length_le
  simpa using h1
theorem wordOf_len (k : Nat) : 4 ≤ (wordOf k).data.toList.length := by
  match k with
  | 0 => decide
  | 1 => decide
  | 2 => decide
  | 3 => decide
  | _ + 4 => show 4 ≤ (⟨#[38, 113, 117, 111, 116, 59]⟩ : ByteArray).data.toList.length; decide
theorem charOf_bd (k : Nat) : 0 ≤ charOf k ∧ charOf k ≤ 127 := by
  match k with
  | 0 => decide
  | 1 => decide
  | 2 => decide
  | 3 => decide
  | _ + 4 => show 0 ≤ (34 : Int) ∧ (34 : Int) ≤ 127; decide
theorem namedGo_ok (s : ByteArray) (at_ : Nat) (h : at_ < s.size) : ∀ m, StepOk s.size at_ (namedGo s at_ m)
  | 0 => fun he => absurd (show (22 : Int) = 0 from he) (by decide)
  | m + 1 => by
    rw [namedGo]
    split
    · rename_i hp
      intro _
      have h1 := pfx_le hp
      have h2 := wordOf_len (4 - m)
      have h3 := charOf_bd (4 - m)
      have h4 := encode_len4 (charOf (4 - m))
      have h5 : (wordOf (4 - m)).data.toList.length = (wordOf (4 - m)).size := by simp
      simp only
      omega
    · exact namedGo_ok s at_ h m
theorem bothF_ok (s : ByteArray) (at_ : Nat) (h : at_ < s.size) : StepOk s.size at_ (bothF s at_) := by
  unfold bothF
  split
  · exact fun he => absurd he (by decide)
  · split
    · unfold expF
      split
      · rename_i g
        exact numF_ok s at_ g.1
      · exact namedGo_ok s at_ h 5
    · intro he
      have h1 := rd_encode_le s at_
      have h2 := rd_le s at_ h
      revert he
      unfold nextF
      split
      · intro he; exact absurd he (by decide)
      · rename_i g
        split
        · rename_i g2
          intro _
          have := charB_bd g2
          have := h1 g
          simp only
          omega
        · intro he; exact absurd he (by decide)
theorem stepT_ok (s : ByteArray) (at_ : Nat) (h : at_ < s.size) : StepOk s.size at_ (stepT s at_) := by
  unfold stepT
  split
  · exact fun he => absurd he (by decide)
  · exact bothF_ok s at_ h
theorem stepV_ok (s : ByteArray) (at_ : Nat) (h : at_ < s.size) : StepOk s.size at_ (stepV s at_) := by
  unfold stepV
  split
  · intro _
    have := encode_len1 32 (by omega) (by omega)
    simp only
    omega
  · exact bothF_ok s at_ h
end Go.Proofs.YteipiaefamfleaaGreatDoor
namespace Go.Proofs.YteipiaefamfleaaGreatDoor
open Go.RowKit

def sEmpty : ByteArray := ⟨#[]⟩
def splitF (q : ByteArray) : ByteArray × ByteArray × Bool :=
  if 0 ≤ Lib.indexByte q.data.toList 58 then
    (if nameB (q.extract 0 (Lib.indexByte q.data.toList 58).toNat) = true ∧ nameB (q.extract ((Lib.indexByte q.data.toList 58).toNat + 1) q.size) = true
      then (q.extract 0 (Lib.indexByte q.data.toList 58).toNat, q.extract ((Lib.indexByte q.data.toList 58).toNat + 1) q.size, true) else (sEmpty, sEmpty, false))
  else if nameB q then (sEmpty, q, true) else (sEmpty, sEmpty, false)
end Go.Proofs.YteipiaefamfleaaGreatDoor
namespace Go.Proofs.YteipiaefamfleaaGreatDoor
open Go.RowKit

/-- All line ends made one 10: a 13 goes if a 10 stands behind it, else it becomes a 10. -/
def linesL : List UInt8 → List UInt8
  | [] => []
  | c :: t => if c ≠ 13 then c :: linesL t else if t.head? = some 10 then linesL t else 10 :: linesL t
/-- The same, told from behind: a 13 becomes a 10, and a 10 goes if a 13 stands ahead of it (prev: the byte ahead). -/
def refL : UInt8 → List UInt8 → List UInt8
  | _, [] => []
  | p, c :: t => if c = 13 then 10 :: refL 13 t else if c = 10 ∧ p = 13 then refL c t else c :: refL c t

theorem lines_ref : ∀ (l : List UInt8), (∀ p, p ≠ 13 → linesL l = refL p l) ∧ linesL (13 :: l) = 10 :: refL 13 l
  | [] => ⟨fun _ _ => rfl, rfl⟩
  | c :: t => by
    obtain ⟨h1, h2⟩ := lines_ref t
    have e : ∀ p, p ≠ 13 → linesL (c :: t) = refL p (c :: t) := by
      intro p hp
      by_cases hc : c = 13
      · subst hc
        rw [h2, refL, if_pos rfl]
      · rw [refL, if_neg hc, if_neg (by rintro ⟨_, g⟩; exact hp g), linesL, if_pos hc, h1 c hc]
    refine ⟨e, ?_⟩
    rw [linesL, if_neg (by simp)]
    by_cases hc : c = 10
    · subst hc
      rw [if_pos (show (10 :: t).head? = some 10 from rfl), e 0 (by decide), refL, if_neg (by decide), if_neg (by rintro ⟨_, g⟩; exact absurd g (by decide))]
      rw [refL, if_neg (by decide), if_pos ⟨rfl, rfl⟩]
    · rw [if_neg (by simp [hc]), e 0 (by decide)]
      congr 1
      rw [refL, refL]
      by_cases h13 : c = 13
      · rw [if_pos h13, if_pos h13]
      · rw [if_neg h13, if_neg h13, if_neg (by rintro ⟨g, _⟩; exact hc g), if_neg (by rintro ⟨g, _⟩; exact hc g)]
theorem lines_eq (l : List UInt8) : linesL l = refL 0 l := (lines_ref l).1 0 (by decide)

theorem lines_len : ∀ l : List UInt8, (linesL l).length ≤ l.length
  | [] => Nat.le_refl _
  | c :: t => by
    have := lines_len t
    rw [linesL]
    repeat' split
    all_goals simp only [List.length_cons]
    all_goals omega

theorem drop_cons (s : ByteArray) (k : Nat) (h : k < s.size) : s.data.toList.drop k = s.get! k :: s.data.toList.drop (k + 1) := by
  have h1 := get!_of s k h
  obtain ⟨h2, h3⟩ := List.getElem?_eq_some_iff.1 h1
  rw [List.drop_eq_getElem_cons h2, h3]
theorem head_drop (s : ByteArray) (k : Nat) : (s.data.toList.drop k).head? = if k < s.size then some (s.get! k) else none := by
  by_cases h : k < s.size
  · rw [if_pos h, drop_cons s k h]; rfl
  · rw [if_neg h, List.drop_eq_nil_of_le (by simp; omega)]; rfl

def linesB (s : ByteArray) : ByteArray := ⟨(linesL s.data.toList).toArray⟩
theorem linesB_list (s : ByteArray) : (linesB s).data.toList = linesL s.data.toList := by simp [linesB]
theorem linesB_size (s : ByteArray) : (linesB s).size ≤ s.size := by
  have := lines_len s.data.toList
  show ((linesL s.data.toList).toArray).size ≤ _
  simp at this ⊢
  exact this
theorem list_push (o : ByteArray) (x : UInt8) : (o ++ ⟨#[x]⟩).data.toList = o.data.toList ++ [x] := by simp
theorem eq_of_list {a b : ByteArray} (h : a.data.toList = b.data.toList) : a = b := by
  apply ByteArray.ext
  exact Array.ext' h

/-- What the search from the front holds after k bytes. -/
def LAcc (s o : ByteArray) (k : Nat) : Prop := o.data.toList ++ linesL (s.data.toList.drop k) = linesL s.data.toList
theorem lacc_zero (s : ByteArray) : LAcc s ⟨#[]⟩ 0 := by unfold LAcc; simp
theorem lacc_end (s o : ByteArray) (k : Nat) (h : ¬ k < s.size) (ha : LAcc s o k) : o = linesB s := by
  unfold LAcc at ha
  rw [List.drop_eq_nil_of_le (by simp; omega)] at ha
  apply eq_of_list
  rw [linesB_list, ← ha]
  simp [linesL]
theorem lacc_other (s o : ByteArray) (k : Nat) (h : k < s.size) (hc : s.get! k ≠ 13) (ha : LAcc s o k) : LAcc s (o ++ ⟨#[s.get! k]⟩) (k + 1) := by
  unfold LAcc at ha ⊢
  rw [drop_cons s k h, linesL, if_pos hc] at ha
  rw [list_push, List.append_assoc]
  exact ha
theorem lacc_end13 (s o : ByteArray) (k : Nat) (h : k < s.size) (hc : s.get! k = 13) (hn : ¬ (k + 1 < s.size ∧ s.get! (k + 1) = 10)) (ha : LAcc s o k) : LAcc s (o ++ ⟨#[10]⟩) (k + 1) := by
  unfold LAcc at ha ⊢
  rw [drop_cons s k h, linesL, if_neg (by rw [hc]; simp), if_neg] at ha
  · rw [list_push, List.append_assoc]
    exact ha
  · rw [head_drop]
    split
    · rename_i g
      intro e
      exact hn ⟨g, Option.some.inj e⟩
    · simp
theorem lacc_skip (s o : ByteArray) (k : Nat) (h : k < s.size) (hc : s.get! k = 13) (h1 : k + 1 < s.size) (h2 : s.get! (k + 1) = 10) (ha : LAcc s o k) : LAcc s o (k + 1) := by
  unfold LAcc at ha ⊢
  rw [drop_cons s k h, linesL, if_neg (by rw [hc]; simp), if_pos (by rw [head_drop, if_pos h1, h2])] at ha
  exact ha

/-- What the document's own way holds after k bytes (prev: the byte ahead). -/
def prevOf (s : ByteArray) (k : Nat) : UInt8 := if k = 0 then 0 else s.get! (k - 1)
def RAcc (s o : ByteArray) (k : Nat) : Prop := o.data.toList ++ refL (prevOf s k) (s.data.toList.drop k) = linesL s.data.toList
theorem racc_zero (s : ByteArray) : RAcc s ⟨#[]⟩ 0 := by
  unfold RAcc
  rw [lines_eq]
  simp [prevOf]
theorem racc_end (s o : ByteArray) (k : Nat) (h : ¬ k < s.size) (ha : RAcc s o k) : o = linesB s := by
  unfold RAcc at ha
  rw [List.drop_eq_nil_of_le (by simp; omega)] at ha
  apply eq_of_list
  rw [linesB_list, ← ha]
  simp [refL]
theorem prev_succ (s : ByteArray) (k : Nat) : prevOf s (k + 1) = s.get! k := by unfold prevOf; rw [if_neg (by omega)]; rfl
theorem racc_13 (s o : ByteArray) (k : Nat) (h : k < s.size) (hc : s.get! k = 13) (ha : RAcc s o k) : RAcc s (o ++ ⟨#[10]⟩) (k + 1) := by
  unfold RAcc at ha ⊢
  rw [drop_cons s k h, refL, if_pos hc] at ha
  rw [list_push, List.append_assoc, prev_succ, hc]
  exact ha
theorem racc_skip (s o : ByteArray) (k : Nat) (h : k < s.size) (hc : s.get! k = 10) (hp : prevOf s k = 13) (ha : RAcc s o k) : RAcc s o (k + 1) := by
  unfold RAcc at ha ⊢
  rw [drop_cons s k h, refL, if_neg (by rw [hc]; decide), if_pos ⟨hc, hp⟩] at ha
  rw [prev_succ]
  exact ha
theorem racc_other (s o : ByteArray) (k : Nat) (h : k < s.size) (hc : s.get! k ≠ 13) (hn : ¬ (s.get! k = 10 ∧ prevOf s k = 13)) (ha : RAcc s o k) : RAcc s (o ++ ⟨#[s.get! k]⟩) (k + 1) := by
  unfold RAcc at ha ⊢
  rw [drop_cons s k h, refL, if_neg hc, if_neg hn] at ha
  rw [list_push, List.append_assoc, prev_succ]
  exact ha
end Go.Proofs.YteipiaefamfleaaGreatDoor
namespace Go.Proofs.YteipiaefamfleaaGreatDoor
open Go.RowKit

def isB (x : UInt8) : Bool := x == 32 || x == 9 || x == 10 || x == 13
/-- The place behind the white space at a place. -/
def whiteTo (t : ByteArray) (k : Nat) : Nat := k + ((t.data.toList.drop k).takeWhile isB).length
def seesB (t : ByteArray) (k : Nat) (s : List UInt8) : Bool := Lib.hasPrefix (t.data.toList.drop k) s
/-- The first place from k on at which s begins. -/
def findF (t : ByteArray) (k : Nat) (s : List UInt8) : Option Nat := if Lib.index (t.data.toList.drop k) s < 0 then none else some (k + (Lib.index (t.data.toList.drop k) s).toNat)
def equalsF (t : ByteArray) (k : Nat) : Option Nat := if seesB t (whiteTo t k) [61] then some (whiteTo t (whiteTo t k + 1)) else none
def quotedF (t : ByteArray) (k : Nat) : Option (ByteArray × Nat) :=
  if seesB t k [39] then (findF t (k + 1) [39]).map fun i => (t.extract (k + 1) i, i + 1)
  else if seesB t k [34] then (findF t (k + 1) [34]).map fun i => (t.extract (k + 1) i, i + 1)
  else none
/-- Where the row of parts and colons from k on ends. -/
def partsGo (t : ByteArray) : Nat → Nat → Nat
  | 0, k => k
  | f + 1, k => if k < t.size ∧ (nextF t k).2.2 = 0 ∧ ((nextF t k).1 = 58 ∨ partB ((nextF t k).1 : Nat) = true) then partsGo t f (nextF t k).2.1 else k
/-- A written name: it, the place behind it. -/
def nameF (t : ByteArray) (k : Nat) : Except Nat (ByteArray × Nat) :=
  if k < t.size ∧ (nextF t k).2.2 = 0 ∧ ((nextF t k).1 = 58 ∨ startB ((nextF t k).1 : Nat) = true) then .ok (t.extract k (partsGo t t.size k), partsGo t t.size k) else .error 23
def qualF (t : ByteArray) (k : Nat) : Except Nat (ByteArray × Nat) :=
  match nameF t k with
  | .error e => .error e
  | .ok (n, i) => if (splitF n).2.2 then .ok (n, i) else .error 24
def pairF (t : ByteArray) (k : Nat) : Except Nat ((ByteArray × ByteArray) × Nat) :=
  match qualF t k with
  | .error e => .error e
  | .ok (n, i) =>
    match equalsF t i with
    | none => .error 23
    | some j =>
      match quotedF t j with
      | none => .error 23
      | some (raw, m) => if (readF (stepV raw) raw.size).2.2 = 0 then .ok ((n, ⟨(readF (stepV raw) raw.size).1.toArray⟩), m) else .error (readF (stepV raw) raw.size).2.2.toNat

structure Tok where
  kind : Nat
  name : ByteArray
  pairs : List (ByteArray × ByteArray)
  text : ByteArray
  refs : Nat

def tagGo (t n : ByteArray) : Nat → Nat → List (ByteArray × ByteArray) → Except Nat (Tok × Nat)
  | 0, _, _ => .error 0
  | f + 1, k, ps =>
    if seesB t (whiteTo t k) [62] then .ok (⟨2, n, ps, ⟨#[]⟩, 0⟩, whiteTo t k + 1)
    else if seesB t (whiteTo t k) [47, 62] then .ok (⟨4, n, ps, ⟨#[]⟩, 0⟩, whiteTo t k + 2)
    else if whiteTo t k = k then .error 23
    else match pairF t (whiteTo t k) with
      | .error e => .error e
      | .ok (p, i) => if ps.any (fun q => decide (q.1 = p.1)) then .error 27 else tagGo t n f i (ps ++ [p])
def tagF (t : ByteArray) (k : Nat) : Except Nat (Tok × Nat) :=
  match qualF t k with
  | .error e => .error e
  | .ok (n, i) => tagGo t n (t.size + 1) i []
def closingF (t : ByteArray) (k : Nat) : Except Nat (Tok × Nat) :=
  match qualF t k with
  | .error e => .error e
  | .ok (n, i) => if seesB t (whiteTo t i) [62] then .ok (⟨3, n, [], ⟨#[]⟩, 0⟩, whiteTo t i + 1) else .error 23
def xmlB (n : ByteArray) : Bool := Lib.equalFold n.data.toList [120, 109, 108]
def instrF (t : ByteArray) (k : Nat) : Except Nat (Tok × Nat) :=
  match nameF t k with
  | .error e => .error e
  | .ok (n, i) =>
    if nameB n = false then .error 24
    else if xmlB n then .error 29
    else if whiteTo t i = i ∧ seesB t i [63, 62] = false then .error 23
    else match findF t (whiteTo t i) [63, 62] with
      | none => .error 23
      | some j => .ok (⟨8, n, [], t.extract (whiteTo t i) j, 0⟩, j + 2)
def commentF (t : ByteArray) (k : Nat) : Except Nat (Tok × Nat) :=
  match findF t k [45, 45] with
  | none => .error 23
  | some i => if seesB t (i + 2) [62] then .ok (⟨7, ⟨#[]⟩, [], t.extract k i, 0⟩, i + 3) else .error 23
def dataF (t : ByteArray) (k : Nat) : Except Nat (Tok × Nat) :=
  match findF t k [93, 93, 62] with
  | none => .error 23
  | some i => .ok (⟨6, ⟨#[]⟩, [], t.extract k i, 0⟩, i + 3)
def charsTo (t : ByteArray) (k : Nat) : Nat := (findF t k [60]).getD t.size
def charsF (t : ByteArray) (k : Nat) : Except Nat (Tok × Nat) :=
  let raw := t.extract k (charsTo t k)
  if (readF (stepT raw) raw.size).2.2 = 0 then .ok (⟨5, ⟨#[]⟩, [], ⟨(readF (stepT raw) raw.size).1.toArray⟩, raw.data.toList.count 38⟩, charsTo t k) else .error (readF (stepT raw) raw.size).2.2.toNat
/-- A pair of the declaration: white space, a word, equals, a quoted value that is right. -/
def propF (t : ByteArray) (k : Nat) (word : List UInt8) (right : ByteArray → Bool) : Option ((ByteArray × ByteArray) × Nat) :=
  if whiteTo t k = k ∨ seesB t (whiteTo t k) word = false then none
  else match equalsF t (whiteTo t k + word.length) with
    | none => none
    | some i =>
      match quotedF t i with
      | none => none
      | some (raw, m) => if right raw then some ((⟨word.toArray⟩, raw), m) else none
def digitB (c : UInt8) : Bool := decide (48 ≤ c.toNat ∧ c.toNat ≤ 57)
def letterB (c : UInt8) : Bool := decide ((97 ≤ c.toNat ∧ c.toNat ≤ 122) ∨ (65 ≤ c.toNat ∧ c.toNat ≤ 90))
def versionB (s : ByteArray) : Bool := Lib.hasPrefix s.data.toList [49, 46] && decide (2 < s.size) && (s.data.toList.drop 2).all digitB
def encodingB (s : ByteArray) : Bool := decide (0 < s.size) && letterB (s.get! 0) && s.data.toList.all fun c => letterB c || digitB c || c == 46 || c == 95 || c == 45
def aloneB (s : ByteArray) : Bool := decide (s = ⟨#[121, 101, 115]⟩) || decide (s = ⟨#[110, 111]⟩)
def utf8B (s : ByteArray) : Bool := Lib.equalFold s.data.toList [85, 84, 70, 45, 56]
def declEnd (t : ByteArray) (k : Nat) (ps : List (ByteArray × ByteArray)) (right : Bool) : Except Nat (Tok × Nat) :=
  if seesB t (whiteTo t k) [63, 62] then (if right then .ok (⟨1, ⟨#[]⟩, ps, ⟨#[]⟩, 0⟩, whiteTo t k + 2) else .error 25) else .error 23
def declAlone (t : ByteArray) (k : Nat) (ps : List (ByteArray × ByteArray)) (right : Bool) : Except Nat (Tok × Nat) :=
  match propF t k [115, 116, 97, 110, 100, 97, 108, 111, 110, 101] aloneB with
  | none => declEnd t k ps right
  | some (p, i) => declEnd t i (ps ++ [p]) right
def declF (t : ByteArray) (k : Nat) : Except Nat (Tok × Nat) :=
  match propF t k [118, 101, 114, 115, 105, 111, 110] versionB with
  | none => .error 23
  | some (v, i) =>
    match propF t i [101, 110, 99, 111, 100, 105, 110, 103] encodingB with
    | none => declAlone t i [v] true
    | some (c, j) => declAlone t j [v, c] (utf8B c.2)
def opensB (t : ByteArray) (k : Nat) : Bool := decide (k = 0) && seesB t 0 [60, 63, 120, 109, 108] && decide (5 < t.size) && isB (t.get! 5)
/-- The token at a place within: it, the place behind it; or its error. -/
def tokF (t : ByteArray) (k : Nat) : Except Nat (Tok × Nat) :=
  if opensB t k then declF t (k + 5)
  else if seesB t k [60, 33, 45, 45] then commentF t (k + 4)
  else if seesB t k [60, 33, 91, 67, 68, 65, 84, 65, 91] then dataF t (k + 9)
  else if seesB t k [60, 33, 68, 79, 67, 84, 89, 80, 69] then .error 25
  else if seesB t k [60, 33] then .error 23
  else if seesB t k [60, 63] then instrF t (k + 2)
  else if seesB t k [60, 47] then closingF t (k + 2)
  else if seesB t k [60] then tagF t (k + 1)
  else charsF t k
def toksGo (t : ByteArray) : Nat → Nat → List (Nat × Tok) → Except (Nat × Nat) (List (Nat × Tok))
  | 0, _, l => .ok l
  | f + 1, k, l =>
    if k < t.size then
      match tokF t k with
      | .error e => .error (k, e)
      | .ok (x, i) => toksGo t f i (l ++ [(k, x)])
    else .ok l
def toksF (t : ByteArray) : Except (Nat × Nat) (List (Nat × Tok)) := toksGo t t.size 0 []
def markB : ByteArray := ⟨#[239, 187, 191]⟩
def textF (b : ByteArray) : ByteArray := linesB (if Lib.hasPrefix b.data.toList [239, 187, 191] then b.extract 3 b.size else b)
/-- What All answers. -/
def allF (b : ByteArray) : Except (Nat × Nat) (List (Nat × Tok)) :=
  if 65536 < b.size then .error (0, 6)
  else if (faultF (textF b)).2 ≠ 0 then .error (faultF (textF b)) else toksF (textF b)
end Go.Proofs.YteipiaefamfleaaGreatDoor
namespace Go.Proofs.YteipiaefamfleaaGreatDoor
open Go.RowKit

theorem conv_str {w : World} {p : Option Addr} {s : ByteArray} (h : HoldsB w p s) (c : Nat) (hz : p = none → s.size = 0) : (convert 22 9 (.slice p s.size c)).run Tryz.prog w = .ok (.string s) w := by
  cases p with
  | none =>
    have e : s = ⟨#[]⟩ := by
      apply ByteArray.ext
      exact Array.eq_empty_of_size_eq_zero (hz rfl)
    subst e
    exact run_convert_bytes_nil w 22 5 Tryz.underlying22 Tryz.underlying5 0 c 9 Tryz.underlying9
  | some a =>
    have hl : s.data.toList.length = s.size := by simp
    have hr := run_convert_bytes_back (P := Tryz.prog) w 22 9 5 a c s.data.toList Tryz.underlying22 Tryz.underlying5 Tryz.underlying9 (fun j hj => by
      obtain ⟨b, off, e, hc⟩ := h (by omega)
      obtain rfl := Option.some.inj e
      have ha : (⟨b, off, none⟩ : Addr).add j = ⟨b, off + j, none⟩ := by unfold Addr.add; split <;> simp_all
      rw [ha, hc j (by omega)]
      have h1 := get!_of s j (by omega)
      obtain ⟨h2, h3⟩ := List.getElem?_eq_some_iff.1 h1
      rw [← h3])
    rw [hl] at hr
    exact hr
theorem holds_none {w : World} {p : Option Addr} {s : ByteArray} (h : HoldsB w p s) : p = none → s.size = 0 := fun e => by
  rcases Nat.eq_zero_or_pos s.size with h0 | h0
  · exact h0
  · obtain ⟨_, _, e', _⟩ := h h0
    rw [e] at e'; cases e'
end Go.Proofs.YteipiaefamfleaaGreatDoor
namespace Go.Proofs
open Go.Shelf
def Tryz.shelfRen : Go.Shelf.Ren := ⟨fun
  | 115 => 34
  | 116 => 22
  | 168 => 84
  | 169 => 85
  | 240 => 93
  | 242 => 94
  | 276 => 97
  | 278 => 98
  | n => n, fun | 0 => 0 | 3 => 3 | 4 => 4 | 5 => 5 | 9 => 9 | 20 => 20 | 21 => 21 | 37 => 22 | 46 => 82 | 51 => 118 | 70 => 109 | 72 => 111 | 75 => 113 | 80 => 116 | 127 => 127 | 164 => 129 | n => n, fun | n => n⟩
theorem Tryz.lays168 : Go.Proofs.Lays.n168 Tryz.prog Tryz.shelfRen := {
  mixed := by kernel_rfl
  f168 := Tryz.func84.trans (congrArg some (by kernel_rfl))
  f240 := Tryz.func93.trans (congrArg some (by kernel_rfl))
  f242 := Tryz.func94.trans (congrArg some (by kernel_rfl))
  f276 := Tryz.func97.trans (congrArg some (by kernel_rfl))
  f278 := Tryz.func98.trans (congrArg some (by kernel_rfl))
  t0 := Tryz.underlying0
  a0 := Tryz.isAgg0
  z0 := Tryz.sizeOf0
  v0 := Tryz.zeroValue0
  t3 := Tryz.underlying3
  a3 := Tryz.isAgg3
  z3 := Tryz.sizeOf3
  v3 := Tryz.zeroValue3
  t4 := Tryz.underlying4
  a4 := Tryz.isAgg4
  z4 := Tryz.sizeOf4
  v4 := Tryz.zeroValue4
  t5 := Tryz.underlying5
  a5 := Tryz.isAgg5
  z5 := Tryz.sizeOf5
  v5 := Tryz.zeroValue5
  t9 := Tryz.underlying9
  a9 := Tryz.isAgg9
  z9 := Tryz.sizeOf9
  v9 := Tryz.zeroValue9
  t20 := Tryz.underlying20
  a20 := Tryz.isAgg20
  z20 := Tryz.sizeOf20
  v20 := Tryz.zeroValue20
  t21 := Tryz.underlying21
  a21 := Tryz.isAgg21
  z21 := Tryz.sizeOf21
  v21 := Tryz.zeroValue21
  t37 := Tryz.underlying22
  a37 := Tryz.isAgg22
  z37 := Tryz.sizeOf22
  v37 := Tryz.zeroValue22
  t46 := Tryz.underlying82
  a46 := Tryz.isAgg82
  z46 := Tryz.sizeOf82
  v46 := Tryz.zeroValue82
  t51 := Tryz.underlying118
  a51 := Tryz.isAgg118
  z51 := Tryz.sizeOf118
  v51 := Tryz.zeroValue118
  t70 := Tryz.underlying109
  a70 := Tryz.isAgg109
  z70 := Tryz.sizeOf109
  v70 := Tryz.zeroValue109
  t72 := Tryz.underlying111
  a72 := Tryz.isAgg111
  z72 := Tryz.sizeOf111
  v72 := Tryz.zeroValue111
  t75 := Tryz.underlying113
  a75 := Tryz.isAgg113
  z75 := Tryz.sizeOf113
  v75 := Tryz.zeroValue113
  t164 := Tryz.underlying129
  a164 := Tryz.isAgg129
  z164 := Tryz.sizeOf129
  v164 := Tryz.zeroValue129 }
theorem Tryz.lays169 : Go.Proofs.Lays.n169 Tryz.prog Tryz.shelfRen := {
  mixed := by kernel_rfl
  f169 := Tryz.func85.trans (congrArg some (by kernel_rfl))
  t0 := Tryz.underlying0
  a0 := Tryz.isAgg0
  z0 := Tryz.sizeOf0
  v0 := Tryz.zeroValue0
  t3 := Tryz.underlying3
  a3 := Tryz.isAgg3
  z3 := Tryz.sizeOf3
  v3 := Tryz.zeroValue3
  t9 := Tryz.underlying9
  a9 := Tryz.isAgg9
  z9 := Tryz.sizeOf9
  v9 := Tryz.zeroValue9
  t37 := Tryz.underlying22
  a37 := Tryz.isAgg22
  z37 := Tryz.sizeOf22
  v37 := Tryz.zeroValue22
  t70 := Tryz.underlying109
  a70 := Tryz.isAgg109
  z70 := Tryz.sizeOf109
  v70 := Tryz.zeroValue109
  t72 := Tryz.underlying111
  a72 := Tryz.isAgg111
  z72 := Tryz.sizeOf111
  v72 := Tryz.zeroValue111
  t127 := Tryz.underlying127
  a127 := Tryz.isAgg127
  z127 := Tryz.sizeOf127
  v127 := Tryz.zeroValue127 }
theorem Tryz.laysnb116 : Go.Proofs.Lays.nb116 Tryz.prog Tryz.shelfRen := {
  mixed := by kernel_rfl
  f115 := Tryz.func34.trans (congrArg some (by kernel_rfl))
  f116 := Tryz.func22.trans (congrArg some (by kernel_rfl))
  t3 := Tryz.underlying3
  a3 := Tryz.isAgg3
  z3 := Tryz.sizeOf3
  v3 := Tryz.zeroValue3
  t4 := Tryz.underlying4
  a4 := Tryz.isAgg4
  z4 := Tryz.sizeOf4
  v4 := Tryz.zeroValue4
  t9 := Tryz.underlying9
  a9 := Tryz.isAgg9
  z9 := Tryz.sizeOf9
  v9 := Tryz.zeroValue9
  t37 := Tryz.underlying22
  a37 := Tryz.isAgg22
  z37 := Tryz.sizeOf22
  v37 := Tryz.zeroValue22
  t5 := Tryz.underlying5
  a5 := Tryz.isAgg5
  z5 := Tryz.sizeOf5
  v5 := Tryz.zeroValue5 }
theorem Tryz.builderExtra : Builder.Extra Tryz.prog Tryz.shelfRen := {
  sizeBuilder := by kernel_rfl
  liesBuilder := by kernel_rfl
  t5 := Tryz.underlying5
  a5 := Tryz.isAgg5
  z5 := Tryz.sizeOf5
  v5 := Tryz.zeroValue5
  infoByte := by kernel_rfl
  cellsByte := by kernel_rfl
  sizeByte := by kernel_rfl
  neB5 := by decide }
open Go.RowKit in
theorem Tryz.Builder_String_any_k (B b : Nat) (l : List UInt8) (w : World) (h : Lib.IsBuilderF 111 5 B b (Lib.byteCells l) w) (hBw : B ≤ w.heap.size) :
    Calls Tryz.prog 85 #[.pointer (some ⟨b, 0, none⟩)] w fun e w' => e = .returned (.string ⟨l.toArray⟩) ∧ (Lib.IsBuilderF 111 5 B b (Lib.byteCells l) w' ∧ Below B w w' ∧ Lib.OthersKept 5 (some b) w w') := Any.Builder_String_any_k Tryz.lays169 Tryz.builderExtra B b l w h hBw
open Go.RowKit in
theorem Tryz.Builder_WriteRune_k (B b : Nat) (bs : List Value) (r : Int) (hr0 : -2147483648 ≤ r) (hr1 : r ≤ 2147483647) (w : World) (h : Lib.IsBuilderF 111 5 B b bs w) (hlen : bs.length + 4 ≤ 140737488355328) (hBw : B ≤ w.heap.size) :
    Calls Tryz.prog 84 #[.pointer (some ⟨b, 0, none⟩), .int .i32 r] w fun e w' => e = .returned (.tuple #[.int .i64 (Lib.runeCells r).length, .nilIface]) ∧ (Lib.BuilderAtF 111 5 B b (.pointer (some ⟨b, 0, none⟩)) (bs ++ Lib.runeCells r) w' ∧ Below B w w' ∧ Lib.OthersKept 5 (some b) w w') := Any.Builder_WriteRune_k Tryz.lays168 Tryz.builderExtra B b bs r hr0 hr1 w h hlen hBw
theorem Tryz.bytes_HasPrefix_all (p1 p2 : Option Addr) (n c m d : Nat) (xs ys : List Int) (w : World) (hx : xs.length = n) (hy : ys.length = m) (hnc : n ≤ c) (h1 : Lib.BytesIn w p1 n xs) (h2 : Lib.BytesIn w p2 m ys) :
    Calls Tryz.prog 22 #[.slice p1 n c, .slice p2 m d] w fun e w' => e = .returned (.bool (Lib.hasPrefix (Lib.bytesOf xs) (Lib.bytesOf ys))) ∧ w' = w := Any.bytes_HasPrefix_all Tryz.laysnb116 p1 p2 n c m d xs ys w hx hy hnc h1 h2
end Go.Proofs
namespace Go.Proofs.YteipiaefamfleaaGreatDoor
open Go.RowKit

/-- '[]byte(s)': a new row that holds the bytes. -/
theorem bytes_of (w : World) (s : ByteArray) : ∃ (cap : Nat) (W : World), (convert 9 22 (.string s)).run Tryz.prog w = .ok (.slice (some ⟨w.heap.size, 0, none⟩) s.size cap) W ∧ s.size ≤ cap ∧ Below w.heap.size w W ∧ W.heap.size = w.heap.size + 1 ∧
    ∀ j, j < s.size → W.cell? ⟨w.heap.size, 0 + j, none⟩ = some (.int .u8 (s.get! j).toNat) := by
  refine ⟨_, _, Lib.run_convert_string_bytes w 9 22 5 s Tryz.underlying9 Tryz.underlying22 Tryz.underlying5, grownCap_ge _ _ _ _, Joins.below_bytesWorld _ w _ s (Nat.le_refl _), Lib.bytesWorld_size w _ s, fun j hj => ?_⟩
  rw [Nat.zero_add, Lib.bytesWorld_cell w _ s j hj]
  have e : s.data.toList.getD j 0 = s.get! j := by
    show _ = s.data[j]!
    rw [getElem!_pos s.data j hj]
    simp [List.getD, Array.getElem?_eq_getElem (show j < s.data.size from hj)]
  rw [e]

end Go.Proofs.YteipiaefamfleaaGreatDoor
namespace Go.Proofs.YteipiaefamfleaaGreatDoor
open Go.RowKit

/-- The reader's block: its text, its place. -/
def Rd (w : World) (R : Nat) (v : Value) (k : Nat) : Prop := w.heap[R]? = some (.cells #[v, .int .i64 (k : Int)] 51)
theorem Rd.text {w : World} {R : Nat} {v : Value} {k : Nat} (h : Rd w R v k) : w.cell? ⟨R, 0, none⟩ = some v := by
  rw [cell_of_row _ _ _ _ _ _ h]; rfl
theorem Rd.place {w : World} {R : Nat} {v : Value} {k : Nat} (h : Rd w R v k) : w.cell? ⟨R, 1, none⟩ = some (.int .i64 (k : Int)) := by
  rw [cell_of_row _ _ _ _ _ _ h]; rfl
/-- Only the reader's block has changed of what was there. -/
def Moved (R : Nat) (w w' : World) : Prop := w.grownBy w' (some R)
theorem Moved.refl (R : Nat) (w : World) : Moved R w w := ⟨rfl, rfl, rfl, Nat.le_refl _, fun _ _ _ => rfl⟩
theorem Moved.trans {R : Nat} {a b c : World} (h : Moved R a b) (g : Moved R b c) : Moved R a c :=
  ⟨g.os.trans h.os, g.tape.trans h.tape, g.output.trans h.output, Nat.le_trans h.size g.size, fun k hk hr => (g.block k (Nat.lt_of_lt_of_le hk h.size) hr).trans (h.block k hk hr)⟩
theorem Moved.of_below {R : Nat} {a b : World} (h : Below a.heap.size a b) : Moved R a b := ⟨h.os, h.tape, h.output, h.size, fun k hk _ => h.block k hk⟩
theorem Moved.below {B R : Nat} {a b c : World} (h : Moved R b c) (g : Below B a b) (hB : B ≤ a.heap.size) (hR : B ≤ R) : Below B a c :=
  ⟨h.os.trans g.os, h.tape.trans g.tape, h.output.trans g.output, Nat.le_trans g.size h.size, fun k hk => (h.block k (Nat.lt_of_lt_of_le hk (Nat.le_trans hB g.size)) (fun e => by injection e with e; omega)).trans (g.block k hk)⟩
theorem Moved.drewN (R q : Nat) (w : World) : Moved R w (w.drewN q) := by
  exact ⟨rfl, rfl, rfl, Nat.le_refl _, fun _ _ _ => rfl⟩
theorem Rd.drewN {w : World} {R : Nat} {v : Value} {k : Nat} (h : Rd w R v k) (q : Nat) : Rd (w.drewN q) R v k := by
  unfold Rd at h ⊢
  simpa using h
theorem Rd.below {w w' : World} {R : Nat} {v : Value} {k : Nat} (h : Rd w R v k) (hb : Below w.heap.size w w') : Rd w' R v k := by
  have hR : R < w.heap.size := (Array.getElem?_eq_some_iff.1 h).1
  unfold Rd at h ⊢
  rw [hb.block R hR]
  exact h
theorem Rd.set {w : World} {R : Nat} {v : Value} {k : Nat} (h : Rd w R v k) (j : Nat) : Rd (w.setCell ⟨R, 1, none⟩ (.int .i64 (j : Int))) R v j ∧ Moved R w (w.setCell ⟨R, 1, none⟩ (.int .i64 (j : Int))) := by
  have hR : R < w.heap.size := (Array.getElem?_eq_some_iff.1 h).1
  constructor
  · unfold Rd at h ⊢
    show (w.heap.modify R _)[R]? = _
    rw [Array.getElem?_modify, if_pos rfl, h]
    rfl
  · refine ⟨rfl, rfl, rfl, by simp [World.setCell], fun i _ hi => ?_⟩
    have : R ≠ i := fun e => hi (by rw [e])
    simp [World.setCell, Array.getElem?_modify, this]

def isBZ (x : Int) : Bool := x == 32 || x == 9 || x == 10 || x == 13
theorem isBlank_any (x : Int) (w : World) : Calls Tryz.prog 38 #[.int .u8 x] w fun e w' => e = .returned (.bool (isBZ x)) ∧ w = w' := by
  obtain ⟨p, hp⟩ : ∃ p, isBZ x = p := ⟨_, rfl⟩
  have HP := Lib.hid hp
  rw [hp]; clear hp
  go_enter Tryz.func38, Tryz.ntmps38
  go_wp2
  all_goals go_ret
  all_goals refine ⟨ret_bool ?_, rfl⟩
  all_goals ((rw [← HP.out]; unfold isBZ; simp_all))
theorem ended_any (R cap n k : Nat) (p : Option Addr) (w : World) (h : Rd w R (.slice p n cap) k) :
    Calls Tryz.prog 19 #[.pointer (some ⟨R, 0, none⟩)] w fun e w' => e = .returned (.bool ((k : Int) == (n : Int))) ∧ ∃ q, w' = w.drewN q := by
  have h0 := h.text
  have h1 := h.place
  go_enter Tryz.func19, Tryz.ntmps19
  go_wp2_with (fail)
  go_quiet (fail)
  go_wp2_with (fail)
  go_ret
  exact ⟨rfl, _, rfl⟩

theorem strZ_bytes (s : ByteArray) : Lib.bytesOf ((s.data.toList.map fun b => ((b.toNat : Nat) : Int))) = s.data.toList := by
  unfold Lib.bytesOf
  rw [List.map_map]
  conv => rhs; rw [← List.map_id s.data.toList]
  apply List.map_congr_left
  intro x _
  simp
/-- bytes.HasPrefix of what is left of the text. -/
theorem prefix_rest (t s : ByteArray) (p : Option Addr) (b off cap k g c : Nat) (W : World) (hcap : t.size ≤ cap) (hk : k ≤ t.size) (hp : ∀ j, j < t.size → W.cell? ⟨b, off + j, none⟩ = some (.int .u8 (by_ t j))) (hpa : k < t.size → p = some ⟨b, off + k, none⟩)
    (hw : ∀ j, j < s.size → W.cell? ⟨g, 0 + j, none⟩ = some (.int .u8 (s.get! j).toNat)) :
    Calls Tryz.prog 22 #[.slice p (t.size - k) (cap - k), .slice (some ⟨g, 0, none⟩) s.size c] W fun e w' => e = .returned (.bool (seesB t k s.data.toList)) ∧ W = w' := by
  refine (Tryz.bytes_HasPrefix_all p (some ⟨g, 0, none⟩) (t.size - k) (cap - k) s.size c (tailZ t k) (s.data.toList.map fun b => ((b.toNat : Nat) : Int)) W (tailZ_length t k) (by simp) (by omega) ?_ ?_).mono ?_
  · intro h0
    refine ⟨b, off + k, hpa (by omega), fun i hi => ?_⟩
    rw [tailZ_get t k i hi, Nat.add_assoc]
    exact hp (k + i) (by omega)
  · intro _
    refine ⟨g, 0, rfl, fun i hi => ?_⟩
    rw [hw i hi]
    have h1 := get!_of s i hi
    simp [List.getD, h1]
  · rintro e w' ⟨rfl, rfl⟩
    refine ⟨?_, rfl⟩
    rw [tailZ_bytes, strZ_bytes]
    rfl
set_option maxHeartbeats 1600000 in
set_option maxRecDepth 100000 in
theorem sees_any (t s : ByteArray) (b off cap R k : Nat) (w : World) (h : Rd w R (.slice (some ⟨b, off, none⟩) t.size cap) k) (hk : k ≤ t.size) (hcap : t.size ≤ cap) (hp : ∀ j, j < t.size → w.cell? ⟨b, off + j, none⟩ = some (.int .u8 (by_ t j))) :
    Calls Tryz.prog 37 #[.pointer (some ⟨R, 0, none⟩), .string s] w fun e w' => e = .returned (.bool (seesB t k s.data.toList)) ∧ Below w.heap.size w w' := by
  obtain ⟨kc, W2, hcv, hkc, hb2, hsz2, hwc⟩ := bytes_of w.drew s
  rw [show w.drew.heap.size = w.heap.size from rfl] at hcv hwc
  have hB2 : Below w.heap.size w W2 := below_cat ((Below.refl _ _).drew) hb2
  have h0 := h.text
  have h1 := h.place
  have r0 := hb_cell hB2 h0
  have r1 := hb_cell hB2 h1
  by_cases hne : cap = k
  · obtain rfl : k = t.size := by omega
    obtain rfl : cap = t.size := by omega
    clear hne
    have PX := Lib.hid (prefix_rest t s (some ⟨b, off, none⟩) b off t.size t.size w.heap.size kc W2 hcap hk (fun j hj => hb_cell hB2 (hp j hj)) (fun e => by omega) hwc)
    rw [Nat.sub_self] at PX
    have HB := Lib.hid hB2
    clear hp hwc hsz2 hb2 h hcap hk hB2
    go_enter Tryz.func37, Tryz.ntmps37
    go_wp2_with (fail)
    go_region_with (go_at_call 22; refine (PX.out).mono ?_; rintro e w' ⟨rfl, rfl⟩)
    all_goals (go_wp2_with (fail); go_ret; exact ⟨rfl, HB.out⟩)
  · have hbs : (k : Int) ≤ (cap : Int) := by omega
    have hbn : (0 : Int) ≤ (k : Int) := by omega
    have hbl : (k : Int) ≤ (t.size : Int) := by omega
    have PX := Lib.hid (prefix_rest t s (some ⟨b, off + k, none⟩) b off cap k w.heap.size kc W2 hcap hk (fun j hj => hb_cell hB2 (hp j hj)) (fun _ => rfl) hwc)
    have HB := Lib.hid hB2
    clear hp hwc hsz2 hb2 h hcap hk hB2
    go_enter Tryz.func37, Tryz.ntmps37
    go_wp2_with (fail)
    go_region_with (go_at_call 22; refine (PX.out).mono ?_; rintro e w' ⟨rfl, rfl⟩)
    all_goals (go_wp2_with (fail); go_ret; exact ⟨rfl, HB.out⟩)
end Go.Proofs.YteipiaefamfleaaGreatDoor
namespace Go.Proofs.YteipiaefamfleaaGreatDoor
open Go.RowKit

/-- How a byte of a text is written that can't stand for itself; and one of a value. -/
def escT (c : Int) : ByteArray := if c == 38 then ⟨#[38, 97, 109, 112, 59]⟩ else if c == 60 then ⟨#[38, 108, 116, 59]⟩ else if c == 62 then ⟨#[38, 103, 116, 59]⟩ else if c == 13 then ⟨#[38, 35, 49, 51, 59]⟩ else ⟨#[]⟩
def escV (c : Int) : ByteArray := if c == 38 then ⟨#[38, 97, 109, 112, 59]⟩ else if c == 60 then ⟨#[38, 108, 116, 59]⟩ else if c == 34 then ⟨#[38, 113, 117, 111, 116, 59]⟩ else if c == 9 then ⟨#[38, 35, 57, 59]⟩ else if c == 10 then ⟨#[38, 35, 49, 48, 59]⟩ else if c == 13 then ⟨#[38, 35, 49, 51, 59]⟩ else ⟨#[]⟩

/-- The bytes that are written for one; and for all. -/
def oneL (esc : Int → ByteArray) (x : UInt8) : List UInt8 := if esc x.toNat = ⟨#[]⟩ then [x] else (esc x.toNat).data.toList
def writtenL (esc : Int → ByteArray) (l : List UInt8) : List UInt8 := l.flatMap (oneL esc)
def writtenB (esc : Int → ByteArray) (s : ByteArray) : ByteArray := ⟨(writtenL esc s.data.toList).toArray⟩
theorem escT_size (c : Int) : (escT c).size ≤ 6 := by
  unfold escT
  repeat' split
  all_goals decide
theorem escV_size (c : Int) : (escV c).size ≤ 6 := by
  unfold escV
  repeat' split
  all_goals decide
/-- What is written behind k bytes. -/
def WAcc (esc : Int → ByteArray) (s : ByteArray) (k : Nat) (out : List UInt8) : Prop := out ++ writtenL esc (s.data.toList.drop k) = writtenL esc s.data.toList
theorem wacc_zero (esc : Int → ByteArray) (s : ByteArray) : WAcc esc s 0 [] := by unfold WAcc; simp
theorem drop_at (s : ByteArray) (k : Nat) (h : k < s.size) : s.data.toList.drop k = s.get! k :: s.data.toList.drop (k + 1) := by
  have h1 := get!_of s k h
  obtain ⟨h2, h3⟩ := List.getElem?_eq_some_iff.1 h1
  rw [List.drop_eq_getElem_cons h2, h3]
theorem wacc_end (esc : Int → ByteArray) (s : ByteArray) (k : Nat) (out : List UInt8) (h : ¬ k < s.size) (ha : WAcc esc s k out) : out = writtenL esc s.data.toList := by
  unfold WAcc at ha
  rw [List.drop_eq_nil_of_le (by simp; omega)] at ha
  rw [← ha]
  simp [writtenL]
theorem wacc_self (esc : Int → ByteArray) (s : ByteArray) (k : Nat) (out : List UInt8) (h : k < s.size) (he : esc (by_ s k) = ⟨#[]⟩) (ha : WAcc esc s k out) : WAcc esc s (k + 1) (out ++ [s.get! k]) := by
  unfold WAcc at ha ⊢
  rw [drop_at s k h] at ha
  unfold writtenL at ha ⊢
  rw [List.flatMap_cons] at ha
  have e : oneL esc (s.get! k) = [s.get! k] := by unfold oneL; exact if_pos he
  rw [e] at ha
  rw [List.append_assoc]
  exact ha
theorem wacc_esc (esc : Int → ByteArray) (s : ByteArray) (k : Nat) (out : List UInt8) (h : k < s.size) (he : ¬ esc (by_ s k) = ⟨#[]⟩) (ha : WAcc esc s k out) : WAcc esc s (k + 1) (out ++ (esc (by_ s k)).data.toList) := by
  unfold WAcc at ha ⊢
  rw [drop_at s k h] at ha
  unfold writtenL at ha ⊢
  rw [List.flatMap_cons] at ha
  have e : oneL esc (s.get! k) = (esc (by_ s k)).data.toList := by unfold oneL; exact if_neg he
  rw [e] at ha
  rw [List.append_assoc]
  exact ha
theorem by_get (s : ByteArray) (k : Nat) (h : k < s.size) : by_ s k = ((s[k]).toNat : Int) := by
  unfold by_
  show ((s.data[k]!).toNat : Int) = _
  rw [getElem!_pos s.data k h]
  rfl
theorem str_some {t : ByteArray} (h : ¬ t = ⟨#[]⟩) : t.toList.isEmpty = false := by
  rw [Lib.toList_data]
  cases he : t.data.toList with
  | nil =>
    exfalso
    apply h
    apply ByteArray.ext
    exact Array.toList_eq_nil_iff.1 he
  | cons _ _ => rfl
theorem byteCells_append (a b : List UInt8) : Lib.byteCells (a ++ b) = Lib.byteCells a ++ Lib.byteCells b := by simp [Lib.byteCells]
theorem byteCells_str (t : ByteArray) : Lib.strCells t = Lib.byteCells t.data.toList := rfl
theorem byteCells_length (a : List UInt8) : (Lib.byteCells a).length = a.length := by simp [Lib.byteCells]
end Go.Proofs.YteipiaefamfleaaGreatDoor
namespace Go.Proofs.YteipiaefamfleaaGreatDoor
open Go.RowKit

theorem Rd.free {w : World} {R : Nat} {v : Value} {k : Nat} (h : Rd w R v k) : w.frozen? ⟨R, 1, none⟩ = false := by
  unfold Rd at h
  simp [World.frozen?, h]
/-- The text lies there. -/
structure Txt (w : World) (b off cap : Nat) (t : ByteArray) : Prop where
  room : t.size ≤ cap
  small : t.size ≤ 4194304
  cells : ∀ j, j < t.size → w.cell? ⟨b, off + j, none⟩ = some (.int .u8 (by_ t j))
theorem Txt.moved {w w' : World} {R b off cap : Nat} {t : ByteArray} (h : Txt w b off cap t) (hm : Moved R w w') (hb : b ≠ R) : Txt w' b off cap t :=
  ⟨h.room, h.small, fun j hj => by
    have hc := h.cells j hj
    have hlt : b < w.heap.size := World.block_lt_of_cell? _ _ hc
    rw [World.cell?_of_block (hm.block b hlt (fun e => by injection e with e; exact hb e))]
    exact hc⟩
abbrev rv (b off cap : Nat) (t : ByteArray) : Value := .slice (some ⟨b, off, none⟩) t.size cap
theorem cast_add (a b : Nat) : ((a + b : Nat) : Int) = (a : Int) + (b : Int) := Int.natCast_add a b
theorem take_yes (t s : ByteArray) (b off cap R k : Nat) (w : World) (h : Rd w R (rv b off cap t) k) (hk : k ≤ t.size) (hx : Txt w b off cap t) (hs : s.size ≤ 100) (hy : seesB t k s.data.toList = true) :
    Calls Tryz.prog 27 #[.pointer (some ⟨R, 0, none⟩), .string s] w fun e w' => e = .returned (.bool true) ∧ Rd w' R (rv b off cap t) (k + s.size) ∧ Moved R w w' := by
  have S := Lib.hid (sees_any t s b off cap R k w h hk hx.room hx.cells)
  rw [hy] at S
  have H := Lib.hid h
  have hsm := hx.small
  clear hy hx h
  go_enter Tryz.func27, Tryz.ntmps27
  go_wp2_with (fail)
  refine S.out.mono ?_
  rintro e w1 ⟨rfl, hb1⟩
  have hr := H.out.below hb1
  have h0 := hr.text
  have h1 := hr.place
  have hf := hr.free
  have hset := hr.set (k + s.size)
  rw [cast_add] at hset
  have HSET := Lib.hid hset
  have HB := Lib.hid hb1
  clear hr hb1 hset
  go_wp2_with (fail)
  go_ret
  exact ⟨rfl, HSET.out.1, (Moved.of_below HB.out).trans HSET.out.2⟩
theorem take_no (t s : ByteArray) (b off cap R k : Nat) (w : World) (h : Rd w R (rv b off cap t) k) (hk : k ≤ t.size) (hx : Txt w b off cap t) (hy : seesB t k s.data.toList = false) :
    Calls Tryz.prog 27 #[.pointer (some ⟨R, 0, none⟩), .string s] w fun e w' => e = .returned (.bool false) ∧ Rd w' R (rv b off cap t) k ∧ Moved R w w' := by
  have S := Lib.hid (sees_any t s b off cap R k w h hk hx.room hx.cells)
  rw [hy] at S
  have H := Lib.hid h
  clear hy hx h
  go_enter Tryz.func27, Tryz.ntmps27
  go_wp2_with (fail)
  refine S.out.mono ?_
  rintro e w1 ⟨rfl, hb1⟩
  have HB := Lib.hid hb1
  clear hb1
  go_wp2_with (fail)
  go_ret
  exact ⟨rfl, H.out.below HB.out, Moved.of_below HB.out⟩
/-- Both, in one. -/
theorem take_any (t s : ByteArray) (b off cap R k : Nat) (w : World) (h : Rd w R (rv b off cap t) k) (hk : k ≤ t.size) (hx : Txt w b off cap t) (hs : s.size ≤ 100) :
    Calls Tryz.prog 27 #[.pointer (some ⟨R, 0, none⟩), .string s] w fun e w' => e = .returned (.bool (seesB t k s.data.toList)) ∧ Rd w' R (rv b off cap t) (if seesB t k s.data.toList then k + s.size else k) ∧ Moved R w w' := by
  cases hy : seesB t k s.data.toList
  · exact take_no t s b off cap R k w h hk hx hy
  · exact take_yes t s b off cap R k w h hk hx hs hy

/-- Where the reader stands. -/
def placeOf (w : World) (R : Nat) : Nat := match w.cell? ⟨R, 1, none⟩ with
  | some v => (intOf v).toNat
  | none => 0
theorem Rd.placeOf {w : World} {R : Nat} {v : Value} {k : Nat} (h : Rd w R v k) : placeOf w R = k := by
  unfold Proofs.YteipiaefamfleaaGreatDoor.placeOf
  rw [h.place]
  simp [intOf]
theorem white_step {t : ByteArray} {k : Nat} (h : k < t.size) (hb : isB (t.get! k) = true) : whiteTo t k = whiteTo t (k + 1) := by
  unfold whiteTo
  rw [drop_at t k h, List.takeWhile_cons_of_pos hb]
  simp only [List.length_cons]
  omega
theorem white_stop {t : ByteArray} {k : Nat} (h : k < t.size) (hb : isB (t.get! k) = false) : whiteTo t k = k := by
  unfold whiteTo
  rw [drop_at t k h, List.takeWhile_cons_of_neg (by rw [hb]; simp)]
  rfl
theorem white_end {t : ByteArray} {k : Nat} (h : ¬ k < t.size) : whiteTo t k = k := by
  unfold whiteTo
  rw [List.drop_eq_nil_of_le (by simp; omega)]
  rfl
theorem isBZ_is (t : ByteArray) (k : Nat) : isBZ (by_ t k) = isB (t.get! k) := by
  unfold isBZ isB by_
  have go : ∀ n : Nat, n < 256 → (((t.get! k).toNat : Int) == (n : Int)) = (t.get! k == UInt8.ofNat n) := fun n hn => by
    rw [Bool.eq_iff_iff, beq_iff_eq, beq_iff_eq]
    constructor
    · intro e
      have e2 : (t.get! k).toNat = n := by omega
      rw [← e2]
      simp
    · intro e
      rw [e, UInt8.toNat_ofNat']
      omega
  rw [show (32 : Int) = ((32 : Nat) : Int) from rfl, show (9 : Int) = ((9 : Nat) : Int) from rfl, show (10 : Int) = ((10 : Nat) : Int) from rfl, show (13 : Int) = ((13 : Nat) : Int) from rfl, go 32 (by decide), go 9 (by decide), go 10 (by decide), go 13 (by decide)]
  rfl
theorem quiet_more {P : Program} {f : FuncId} {args : Array Value} {w : World} {n : Nat} {v : Value} (h : Calls P f args (w.drewN n) fun e w' => e = .returned v ∧ ∃ q, w' = (w.drewN n).drewN q) : Calls P f args (w.drewN n) fun e w' => e = .returned v ∧ ∃ m, w' = w.drewN m :=
  Calls.quiet_of h

set_option maxHeartbeats 2000000 in
set_option maxRecDepth 100000 in
theorem blanks_any (t : ByteArray) (b off cap R k : Nat) (w : World) (h : Rd w R (rv b off cap t) k) (hk : k ≤ t.size) (hx : Txt w b off cap t) (hbR : b ≠ R) :
    Calls Tryz.prog 43 #[.pointer (some ⟨R, 0, none⟩)] w fun e w' => e = .returned (.bool (decide (k < whiteTo t k))) ∧ Rd w' R (rv b off cap t) (whiteTo t k) ∧ Moved R w w' := by
  have h1 := h.place
  have H := Lib.hid h
  have HX := Lib.hid hx
  clear h hx
  go_enter Tryz.func43, Tryz.ntmps43
  go_wp2_with (fail)
  clear h1
  go_loopw [] (fun wr => ∃ j, Rd wr R (rv b off cap t) j ∧ Moved R w wr ∧ j ≤ t.size ∧ whiteTo t j = whiteTo t k) (fun wr => t.size - placeOf wr R)
  case atStart => exact ⟨k, H.out, Moved.refl _ _, hk, rfl⟩
  case round =>
    obtain ⟨j, hr, hm, hj, hw⟩ := hrel
    have hx := HX.out.moved hm hbR
    have hsm := HX.out.small
    have E := Lib.hid (fun W (g : Rd W R (rv b off cap t) j) => ended_any R cap t.size j _ W g)
    have h0 := hr.text
    have h1 := hr.place
    have hf := hr.free
    by_cases hlt : j < t.size
    · have hc := hx.cells j hlt
      have he : ((j : Int) == (t.size : Int)) = false := by rw [beq_eq_false_iff_ne]; omega
      have hlz : (j : Int) < (t.size : Int) := by omega
      have HR := Lib.hid hr
      rw [he] at E
      have B := Lib.hid (fun W => isBlank_any (by_ t j) W)
      rw [isBZ_is] at B
      generalize by_ t j = x at *
      cases hb : isB (t.get! j)
      · rw [hb] at B
        have hst := white_stop hlt hb
        have hres : decide (k < j) = decide (k < whiteTo t k) := by rw [← hw, hst]
        have HRES := Lib.hid hres
        have HW := Lib.hid (hst.symm.trans hw)
        have HM := Lib.hid hm
        clear hr hx hm hst hw hres
        go_wp2_with (fail)
        go_quiet (first | (go_at_call 19; exact quiet_more (E.out _ (HR.out.drewN _))) | (go_at_call 38; exact Calls.quiet_of_same ((B.out _).mono fun _ _ h => ⟨h.1, h.2.symm⟩)))
        go_wp2_with (fail)
        go_ret
        exact ⟨by rw [← HRES.out]; rfl, by rw [← HW.out]; exact HR.out.drewN _, HM.out.trans (Moved.drewN _ _ _)⟩
      · rw [hb] at B
        have hst := white_step hlt hb
        have HM := Lib.hid hm
        have hset := fun q => (HR.out.drewN q).set (j + 1)
        rw [show ((j + 1 : Nat) : Int) = (j : Int) + 1 from rfl] at hset
        have HSET := Lib.hid hset
        have HW := Lib.hid (hst.symm.trans hw)
        clear hr hx hm hst hw hset
        go_wp2_with (fail)
        go_quiet (first | (go_at_call 19; exact quiet_more (E.out _ (HR.out.drewN _))) | (go_at_call 38; exact Calls.quiet_of_same ((B.out _).mono fun _ _ h => ⟨h.1, h.2.symm⟩)))
        go_wp2_with (fail)
        go_roundw
        case rel =>
          go_light
          exact ⟨j + 1, (HSET.out _).1, (HM.out.trans (Moved.drewN _ _ _)).trans (HSET.out _).2, by omega, HW.out⟩
        case measure =>
          go_light
          rw [(HSET.out _).1.placeOf, HR.out.placeOf]
          omega
    · obtain rfl : j = t.size := by omega
      have he : ((t.size : Int) == (t.size : Int)) = true := by simp
      have hst := white_end hlt
      have hres : decide (k < t.size) = decide (k < whiteTo t k) := by rw [← hw, hst]
      have HRES := Lib.hid hres
      have HW := Lib.hid (hst.symm.trans hw)
      have HM := Lib.hid hm
      have HR := Lib.hid hr
      rw [he] at E
      clear hr hx hm hst hw hres hlt he hj
      go_wp2_with (fail)
      go_quiet (first | (go_at_call 19; exact quiet_more (E.out _ (HR.out.drewN _))))
      go_wp2_with (fail)
      go_ret
      exact ⟨by rw [← HRES.out]; rfl, by rw [← HW.out]; exact HR.out.drewN _, HM.out.trans (Moved.drewN _ _ _)⟩
end Go.Proofs.YteipiaefamfleaaGreatDoor
namespace Go.Proofs.YteipiaefamfleaaGreatDoor
open Go.RowKit

theorem white_le {t : ByteArray} {k : Nat} (h : k ≤ t.size) : whiteTo t k ≤ t.size := by
  unfold whiteTo
  have h1 := (List.takeWhile_prefix isB (l := t.data.toList.drop k)).length_le
  have h2 : (t.data.toList.drop k).length = t.size - k := by simp
  omega
theorem white_ge (t : ByteArray) (k : Nat) : k ≤ whiteTo t k := Nat.le_add_right _ _
theorem sees_room {t : ByteArray} {k : Nat} {s : List UInt8} (hk : k ≤ t.size) (h : seesB t k s = true) : k + s.length ≤ t.size := by
  have h1 := (List.isPrefixOf_iff_prefix.1 h).length_le
  have h2 : (t.data.toList.drop k).length = t.size - k := by simp
  omega
theorem equals_yes (t : ByteArray) (b off cap R k j : Nat) (w : World) (h : Rd w R (rv b off cap t) k) (hk : k ≤ t.size) (hx : Txt w b off cap t) (hbR : b ≠ R) (hj : equalsF t k = some j) :
    Calls Tryz.prog 53 #[.pointer (some ⟨R, 0, none⟩)] w fun e w' => e = .returned (.bool true) ∧ Rd w' R (rv b off cap t) j ∧ Moved R w w' := by
  unfold equalsF at hj
  split at hj
  · rename_i hs
    injection hj with hj
    have hl := sees_room (white_le hk) hs
    have B1 := Lib.hid (blanks_any t b off cap R k w h hk hx hbR)
    have T := Lib.hid (fun W g (y : Txt W b off cap t) => take_yes t ⟨#[61]⟩ b off cap R (whiteTo t k) W g (white_le hk) y (by decide) hs)
    have B2 := Lib.hid (fun W g (y : Txt W b off cap t) => blanks_any t b off cap R (whiteTo t k + 1) W g hl y hbR)
    rw [hj] at B2
    have HX := Lib.hid hx
    clear hx h hs hj
    go_enter Tryz.func53, Tryz.ntmps53
    go_wp2_with (fail)
    refine B1.out.mono ?_
    rintro e w1 ⟨rfl, hr1, hm1⟩
    go_wp2_with (fail)
    refine (T.out w1 hr1 (HX.out.moved hm1 hbR)).mono ?_
    rintro e w2 ⟨rfl, hr2, hm2⟩
    have hm := hm1.trans hm2
    clear hr1 hm1 hm2
    go_wp2_with (fail)
    refine (B2.out w2 hr2 (HX.out.moved hm hbR)).mono ?_
    rintro e w3 ⟨rfl, hr3, hm3⟩
    go_wp2_with (fail)
    go_ret
    exact ⟨rfl, hr3, hm.trans hm3⟩
  · cases hj
theorem equals_no (t : ByteArray) (b off cap R k : Nat) (w : World) (h : Rd w R (rv b off cap t) k) (hk : k ≤ t.size) (hx : Txt w b off cap t) (hbR : b ≠ R) (hj : equalsF t k = none) :
    Calls Tryz.prog 53 #[.pointer (some ⟨R, 0, none⟩)] w fun e w' => e = .returned (.bool false) ∧ (∃ j, j ≤ t.size ∧ Rd w' R (rv b off cap t) j) ∧ Moved R w w' := by
  unfold equalsF at hj
  split at hj
  · cases hj
  · rename_i hs
    rw [Bool.not_eq_true] at hs
    have B1 := Lib.hid (blanks_any t b off cap R k w h hk hx hbR)
    have T := Lib.hid (fun W g (y : Txt W b off cap t) => take_no t ⟨#[61]⟩ b off cap R (whiteTo t k) W g (white_le hk) y hs)
    have HX := Lib.hid hx
    have HL := white_le hk
    clear hx h hs hj
    go_enter Tryz.func53, Tryz.ntmps53
    go_wp2_with (fail)
    refine B1.out.mono ?_
    rintro e w1 ⟨rfl, hr1, hm1⟩
    go_wp2_with (fail)
    refine (T.out w1 hr1 (HX.out.moved hm1 hbR)).mono ?_
    rintro e w2 ⟨rfl, hr2, hm2⟩
    have hm := hm1.trans hm2
    clear hr1 hm1 hm2
    go_wp2_with (fail)
    go_ret
    exact ⟨rfl, ⟨_, HL, hr2⟩, hm⟩
end Go.Proofs.YteipiaefamfleaaGreatDoor
namespace Go.Proofs.YteipiaefamfleaaGreatDoor
open Go.RowKit

/-- The words behind an ampersand. -/
def wrdL : Nat → List UInt8
  | 0 => [108, 116, 59]
  | 1 => [103, 116, 59]
  | 2 => [97, 109, 112, 59]
  | 3 => [97, 112, 111, 115, 59]
  | _ => [113, 117, 111, 116, 59]
def wB (s : ByteArray) (a k : Nat) : Bool := decide (a + (wrdL k).length ≤ s.size) && ((s.extract a (a + (wrdL k).length)).toList == wrdL k)
def wordGo (s : ByteArray) (a : Nat) : Nat → Int × Int
  | 0 => (0, 0)
  | m + 1 => if wB s a (4 - m) then (charOf (4 - m), (a : Int) + ((wrdL (4 - m)).length : Int)) else wordGo s a m
theorem wordGo_yes (s : ByteArray) (a m : Nat) (h : wB s a (4 - m) = true) : wordGo s a (m + 1) = (charOf (4 - m), (a : Int) + ((wrdL (4 - m)).length : Int)) := by rw [wordGo, if_pos h]
theorem wordGo_no (s : ByteArray) (a m : Nat) (h : wB s a (4 - m) = false) : wordGo s a (m + 1) = wordGo s a m := by rw [wordGo, if_neg (by rw [h]; simp)]
theorem extract_list (s : ByteArray) (a n : Nat) : (s.extract a (a + n)).toList = (s.data.toList.drop a).take n := by
  rw [Lib.toList_data, ByteArray.data_extract, Array.toList_extract]
  simp [List.extract, Nat.add_sub_cancel_left]
theorem wB_eq (s : ByteArray) (a k : Nat) : wB s a k = Lib.hasPrefix (s.data.toList.drop a) (wrdL k) := by
  unfold wB Lib.hasPrefix
  rw [extract_list, Bool.eq_iff_iff, List.isPrefixOf_iff_prefix, Bool.and_eq_true, decide_eq_true_eq, beq_iff_eq]
  constructor
  · rintro ⟨_, h⟩
    rw [← h]
    exact List.take_prefix _ _
  · intro h
    have h1 := h.length_le
    have h2 := List.prefix_iff_eq_take.1 h
    refine ⟨?_, h2.symm⟩
    have h3 : 0 < (wrdL k).length := by
      match k with
      | 0 => decide
      | 1 => decide
      | 2 => decide
      | 3 => decide
      | _ + 4 => show 0 < [(113 : UInt8), 117, 111, 116, 59].length; decide
    simp at h1
    omega
theorem word_pfx (k : Nat) : (wordOf k).data.toList = 38 :: wrdL k := by
  match k with
  | 0 => rfl
  | 1 => rfl
  | 2 => rfl
  | 3 => rfl
  | _ + 4 => rfl
theorem get_of_by {s : ByteArray} {k : Nat} {n : Nat} (hn : n < 256) (h : by_ s k = (n : Int)) : s.get! k = UInt8.ofNat n := by
  apply UInt8.toNat_inj.1
  unfold by_ at h
  rw [UInt8.toNat_ofNat']
  omega
theorem pfx_word (s : ByteArray) (at_ k : Nat) (h : at_ < s.size) (h38 : by_ s at_ = 38) : pfxB s at_ k = wB s (at_ + 1) k := by
  rw [wB_eq]
  unfold pfxB Lib.hasPrefix
  rw [word_pfx, drop_at s at_ h, get_of_by (n := 38) (by decide) h38]
  simp [List.isPrefixOf]
theorem wrd_size (k : Nat) : (wordOf k).size = (wrdL k).length + 1 := by
  have h := congrArg List.length (word_pfx k)
  simpa using h
/-- What the document's words say is what the table's say. -/
theorem word_named (s : ByteArray) (at_ : Nat) (h : at_ < s.size) (h38 : by_ s at_ = 38) : ∀ m, (wordGo s (at_ + 1) m = (0, 0) ∧ namedGo s at_ m = (0, 0, 22)) ∨ (0 < (wordGo s (at_ + 1) m).2 ∧ namedGo s at_ m = ((wordGo s (at_ + 1) m).1, (wordGo s (at_ + 1) m).2, 0))
  | 0 => .inl ⟨rfl, rfl⟩
  | m + 1 => by
    rw [wordGo, namedGo, pfx_word s at_ _ h h38]
    split
    · right
      rw [wrd_size]
      refine ⟨?_, ?_⟩
      · simp only; omega
      · simp only [Prod.mk.injEq, true_and, and_true]; omega
    · exact word_named s at_ h h38 m
end Go.Proofs.YteipiaefamfleaaGreatDoor
namespace Go.Proofs.YteipiaefamfleaaGreatDoor
open Go.RowKit

def MaxAt (w : World) : Prop := ∃ m, w.cell? ⟨5, 0, none⟩ = some (.int .i64 m)
/-- Six cells of the library's table of capitals and small letters: those of x, m, l. -/
def FoldAt (w : World) : Prop := ∀ k v : Nat, (k, v) ∈ [(120, 88), (88, 120), (109, 77), (77, 109), (108, 76), (76, 108)] → w.cell? ⟨2, k, none⟩ = some (.int .u16 (v : Int))
theorem FoldAt.below {w W : World} (h : FoldAt w) (hb : Below w.heap.size w W) : FoldAt W := fun k v hk => hb_cell hb (h k v hk)
/-- Where all that the scanner leans on stands: a world ahead of the reader. -/
structure Env (w0 : World) (R b off cap : Nat) (t : ByteArray) : Prop where
  txt : Txt w0 b off cap t
  far : w0.heap.size ≤ R
  blk : b < w0.heap.size
  tabs : Tabs w0
  named : NamedAt w0
  max : MaxAt w0
  fold : FoldAt w0
theorem Env.ne {w0 : World} {R b off cap : Nat} {t : ByteArray} (E : Env w0 R b off cap t) : b ≠ R := by
  have h1 := E.far
  have h2 := E.blk
  omega
theorem Env.at_ {w0 w : World} {R b off cap : Nat} {t : ByteArray} (E : Env w0 R b off cap t) (hb : Below w0.heap.size w0 w) : Txt w b off cap t :=
  ⟨E.txt.room, E.txt.small, fun j hj => hb_cell hb (E.txt.cells j hj)⟩
theorem Env.maxed {w0 w : World} {R b off cap : Nat} {t : ByteArray} (E : Env w0 R b off cap t) (hb : Below w0.heap.size w0 w) : MaxAt w := by
  obtain ⟨m, hm⟩ := E.max
  exact ⟨m, hb_cell hb hm⟩
theorem Env.go {w0 w w' : World} {R b off cap : Nat} {t : ByteArray} (E : Env w0 R b off cap t) (hb : Below w0.heap.size w0 w) (hm : Moved R w w') : Below w0.heap.size w0 w' :=
  ⟨hm.os.trans hb.os, hm.tape.trans hb.tape, hm.output.trans hb.output, Nat.le_trans hb.size hm.size, fun k hk => (hm.block k (Nat.lt_of_lt_of_le hk hb.size) (fun e => by injection e with e; have := E.far; omega)).trans (hb.block k hk)⟩

theorem tailZ_byte (t : ByteArray) (k : Nat) : ∀ x ∈ tailZ t k, 0 ≤ x ∧ x < 256 := by
  intro x hx
  unfold tailZ at hx
  obtain ⟨j, _, rfl⟩ := List.mem_map.1 hx
  exact by_bd t (k + j)
theorem strZ_byte (s : ByteArray) : ∀ x ∈ (s.data.toList.map fun b => ((b.toNat : Nat) : Int)), 0 ≤ x ∧ x < 256 := by
  intro x hx
  obtain ⟨y, _, rfl⟩ := List.mem_map.1 hx
  have := y.toNat_lt
  omega
/-- bytes.Cut of what is left of the text. -/
theorem cut_rest (t s : ByteArray) (p : Option Addr) (b off cap k g c : Nat) (w W : World) (hB : Below w.heap.size w W) (hs0 : 0 < s.size) (hmax : MaxAt W) (hsm : t.size ≤ 4194304) (hss : s.size ≤ 100) (hcap : t.size ≤ cap) (hk : k ≤ t.size) (hp : ∀ j, j < t.size → W.cell? ⟨b, off + j, none⟩ = some (.int .u8 (by_ t j))) (hpn : ∃ a, p = some a) (hpa : k < t.size → p = some ⟨b, off + k, none⟩)
    (hw : ∀ j, j < s.size → W.cell? ⟨g, 0 + j, none⟩ = some (.int .u8 (s.get! j).toNat)) :
    Calls Tryz.prog 50 #[.slice p (t.size - k) (cap - k), .slice (some ⟨g, 0, none⟩) s.size c] W fun e w' => e = .returned (Lib.cutV p (t.size - k) (cap - k) s.size (Lib.index (t.data.toList.drop k) s.data.toList)) ∧ Below w.heap.size w w' := by
  obtain ⟨m, hm⟩ := hmax
  obtain ⟨a, rfl⟩ := hpn
  refine (Tryz.bytes_Cut (some a) (some ⟨g, 0, none⟩) (t.size - k) (cap - k) s.size c (tailZ t k) (s.data.toList.map fun b => ((b.toNat : Nat) : Int)) m W (tailZ_length t k) (by simp) (tailZ_byte t k) (strZ_byte s) ?_ ?_ (fun e => by cases e) (by omega) (by omega) (by omega) hm).mono ?_
  · intro h0
    refine ⟨b, off + k, hpa (by omega), fun i hi => ?_⟩
    rw [tailZ_get t k i hi, Nat.add_assoc]
    exact hp (k + i) (by omega)
  · intro _
    refine ⟨g, 0, rfl, fun i hi => ?_⟩
    rw [hw i hi]
    have h1 := get!_of s i hi
    simp [List.getD, h1]
  · rintro e w' ⟨rfl, q, rfl⟩
    refine ⟨?_, hB.trans ⟨rfl, rfl, rfl, Nat.le_refl _, fun _ _ => rfl⟩⟩
    rw [tailZ_bytes, strZ_bytes]
/-- Where sep stands first in what is left. -/
theorem find_some {t : ByteArray} {k i : Nat} {s : List UInt8} (hk : k ≤ t.size) (h : findF t k s = some i) : Lib.index (t.data.toList.drop k) s = ((i - k : Nat) : Int) ∧ k ≤ i ∧ i + s.length ≤ t.size := by
  unfold findF at h
  split at h
  · cases h
  · rename_i g
    injection h with h
    have hr := Lib.index_room (t.data.toList.drop k) s (by omega)
    have hl : (t.data.toList.drop k).length = t.size - k := by simp
    omega
theorem find_none {t : ByteArray} {k : Nat} {s : List UInt8} (h : findF t k s = none) : Lib.index (t.data.toList.drop k) s < 0 := by
  unfold findF at h
  split at h
  · assumption
  · cases h
theorem holds_part {W : World} {b off k i : Nat} {t : ByteArray} {p : Option Addr} (hp : ∀ j, j < t.size → W.cell? ⟨b, off + j, none⟩ = some (.int .u8 (by_ t j))) (hi : i ≤ t.size) (hki : k ≤ i) (hpa : k < t.size → p = some ⟨b, off + k, none⟩) : HoldsB W p (t.extract k i) := by
  intro h0
  have hsz : (t.extract k i).size = i - k := by simp; omega
  refine ⟨b, off + k, hpa (by omega), fun j hj => ?_⟩
  rw [Nat.add_assoc, hp (k + j) (by omega)]
  have e : (t.extract k i).get! j = t.get! (k + j) := by
    have h1 := get!_of (t.extract k i) j hj
    have h2 := get!_of t (k + j) (by omega)
    have h3 : (t.extract k i).data.toList[j]? = t.data.toList[k + j]? := by
      have e1 := extract_list t k (i - k)
      rw [Lib.toList_data, show k + (i - k) = i by omega] at e1
      rw [e1, List.getElem?_take_of_lt (by omega), List.getElem?_drop]
    rw [h3, h2] at h1
    exact (Option.some.inj h1).symm
  rw [e]
  rfl

set_option maxHeartbeats 4000000 in
set_option maxRecDepth 100000 in
theorem upTo_yes (t s : ByteArray) (b off cap R k i : Nat) (w0 w : World) (E : Env w0 R b off cap t) (hB : Below w0.heap.size w0 w) (h : Rd w R (rv b off cap t) k) (hk : k ≤ t.size) (hs0 : 0 < s.size) (hss : s.size ≤ 100) (hi : findF t k s.data.toList = some i) :
    Calls Tryz.prog 45 #[.pointer (some ⟨R, 0, none⟩), .string s] w fun e w' => (∃ q c, e = .returned (.tuple #[.slice q (i - k) c, .bool true]) ∧ HoldsB w' q (t.extract k i) ∧ i - k ≤ c ∧ q ≠ none) ∧ Rd w' R (rv b off cap t) (i + s.size) ∧ Moved R w w' := by
  have hx := E.at_ hB
  obtain ⟨kc, W2, hcv, hkc, hb2, hsz2, hwc⟩ := bytes_of w.drew s
  rw [show w.drew.heap.size = w.heap.size from rfl] at hcv hwc
  have hB2 : Below w.heap.size w W2 := below_cat ((Below.refl _ _).drew) hb2
  have hM2 : Moved R w W2 := Moved.of_below hB2
  have h0 := h.text
  have h1 := h.place
  have r0 := hb_cell hB2 h0
  have r1 := hb_cell hB2 h1
  obtain ⟨f1, f2, f3⟩ := find_some hk hi
  have hsl : s.data.toList.length = s.size := by simp
  rw [hsl] at f3
  have hcells : ∀ j, j < t.size → W2.cell? ⟨b, off + j, none⟩ = some (.int .u8 (by_ t j)) := fun j hj => hb_cell hB2 (hx.cells j hj)
  have hne : ¬ cap = k := by
    have := hx.room
    omega
  have hbs : (k : Int) ≤ (cap : Int) := by have := hx.room; omega
  have hbn : (0 : Int) ≤ (k : Int) := by omega
  have hbl : (k : Int) ≤ (t.size : Int) := by omega
  have PX := cut_rest t s (some ⟨b, off + k, none⟩) b off cap k w.heap.size kc w W2 hB2 hs0 (E.maxed (E.go hB hM2)) hx.small hss hx.room hk hcells ⟨_, rfl⟩ (fun _ => rfl) hwc
  obtain ⟨rest, hrest⟩ : ∃ v, Lib.fromV (some ⟨b, off + k, none⟩) (t.size - k) (cap - k) (i - k + s.size) = v := ⟨_, rfl⟩
  rw [f1, Lib.cutV, if_pos (by omega), Int.toNat_natCast, hrest] at PX
  have HP := Lib.hid PX
  have KEEP := Lib.hid (And.intro h (And.intro hx (And.intro E.ne (And.intro f2 f3))))
  have hsm : i + s.size ≤ 4194304 := by have := hx.small; omega
  have hik : ((i - k : Nat) : Int) = (i : Int) - (k : Int) := by omega
  clear PX hcells hx hB2 hM2 hb2 hsz2 hwc f1 f3 hsl hrest h E hB hk hi
  go_enter Tryz.func45, Tryz.ntmps45
  go_wp2_with (fail)
  go_region_with (go_at_call 50; refine (HP.out).mono ?_; rintro e w' ⟨rfl, hw'⟩)
  all_goals
    have hr := KEEP.out.1.below hw'
    have h0' := hr.text
    have h1' := hr.place
    have hf' := hr.free
    have HSET := Lib.hid (hr.set (i + s.size))
    have HW := Lib.hid hw'
    clear hr hw' h0 h1 r0 r1
    go_wp2_with (fail)
    go_ret2
    obtain ⟨_, k2, k3, k4, k5⟩ := KEEP.out
    have fin : ∀ X : Int, X = ((i + s.size : Nat) : Int) → HoldsB (w'.setCell ⟨R, 1, none⟩ (.int .i64 X)) (some ⟨b, off + k, none⟩) (t.extract k i) ∧ Rd (w'.setCell ⟨R, 1, none⟩ (.int .i64 X)) R (rv b off cap t) (i + s.size) ∧ Moved R w (w'.setCell ⟨R, 1, none⟩ (.int .i64 X)) := by
      rintro X rfl
      have hm := (Moved.of_below HW.out).trans HSET.out.2
      exact ⟨holds_part (k2.moved hm k3).cells (by omega) k4 (fun _ => rfl), HSET.out.1, hm⟩
    have hroom := k2.room
    refine ⟨⟨_, _, rfl, (fin _ ?_).1, by omega, fun e => by cases e⟩, (fin _ ?_).2.1, (fin _ ?_).2.2⟩
    all_goals omega
end Go.Proofs.YteipiaefamfleaaGreatDoor
