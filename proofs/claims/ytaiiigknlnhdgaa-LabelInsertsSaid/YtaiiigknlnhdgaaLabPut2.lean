/- Proved here: what a writer of bits does: a bit more. -/
import Derived.Test.YtaiiigknlnhdgaaLabPut
namespace Go.Proofs.Ytaiiigknlnhdgaa
open Go.RowKit

set_option maxRecDepth 100000 in
set_option maxHeartbeats 2000000 in
theorem put_old (w : World) (B G : Nat) (bs : List Bool) (b : Bool) (q : Option Addr) (c : Nat) (h : WrS w B G bs q c) (hn : bs.length ≤ 1099511627776) (h8 : ¬ bs.length % 8 = 0) :
    Calls Try.prog 54 #[.pointer (some ⟨G, 0, none⟩), .int .i64 (b2n b : Int)] w (PutPost w B G (bs ++ [b])) := by
  obtain ⟨c0, c1, f0, f1⟩ := h.cells
  obtain ⟨hblk, hown, hlt, hle⟩ := h
  obtain ⟨n, hL⟩ : ∃ n, bs.length = n := ⟨_, rfl⟩
  rw [hL] at hn h8 c0 c1 hblk
  have t8 : ((n : Int) % 8 == 0) = false := by rw [beq_eq_false_iff_ne]; omega
  obtain ⟨k, hk8⟩ : ∃ k, n / 8 = k := ⟨_, rfl⟩
  obtain ⟨r, hr8⟩ : ∃ r, n % 8 = r := ⟨_, rfl⟩
  have hr : r < 8 := by omega
  have hq : (n : Int) / 8 = (k : Int) := by omega
  have hkk : (k : Int) ≤ 137438953472 := by omega
  have hnn : (n : Int) ≤ 1099511627776 := by omega
  have hr' : (n : Int) % 8 = (r : Int) := by omega
  have hm : (n + 7) / 8 = k + 1 := by omega
  rw [hm] at hblk c0
  have hlen : (packB bs).length = k + 1 := by rw [packB_length, hL]; omega
  obtain ⟨g, rfl, hBg, hgs, e2, i2⟩ := hown.at (j := k) (by omega)
  obtain ⟨X, hX⟩ : ∃ X, (packB bs).getD k 0 = X := ⟨_, rfl⟩
  rw [hX] at e2
  have HX := Lib.hid hX
  have hX2 : X < 256 := by
    rw [← hX, packB_getD _ _ (by omega)]; exact byte8_lt _
  have HF := Lib.hid (And.intro hblk (And.intro hown (And.intro hlen (And.intro hL (And.intro hlt (And.intro hBg hle))))))
  have HQ := Lib.hid (And.intro hk8 (And.intro hr8 hr))
  go_enter Try.func54, Try.ntmps54
  go_wp2_with (fail)
  clear hblk hown hL hlen hm hn h8 hk8 hr8 t8 hX
  go_region
  obtain ⟨x, hx⟩ : ∃ x, bits BinOp.or IntKind.u8 (X : Int) ((b2n b : Int) % 256 * 2 ^ (7 - r) % 256) = x := ⟨_, rfl⟩
  rw [hx]
  have hgG : g ≠ G := by have := HF.out.2.2.2.2.2.1; have := HF.out.2.2.2.2.1; omega
  have hr1 := (Below.heap_setCell w ⟨g, k, none⟩ (.int .u8 x) G (fun e => hgG e.symm)).trans HF.out.1
  have j1 : ((w.setCell ⟨g, k, none⟩ (.int .u8 x)).drew).cell? ⟨G, 1, none⟩ = some (.int .i64 (n : Int)) := by
    show (w.setCell ⟨g, k, none⟩ (.int .u8 x)).cell? ⟨G, 1, none⟩ = _
    simp [World.cell?, hr1]
  have j2 : ((w.setCell ⟨g, k, none⟩ (.int .u8 x)).drew).frozen? ⟨G, 1, none⟩ = false := by
    show (w.setCell ⟨g, k, none⟩ (.int .u8 x)).frozen? ⟨G, 1, none⟩ = _
    simp [World.frozen?, hr1]
  clear hr1
  go_wp2_with (fail)
  go_end0
  obtain ⟨hblk, hown, hlen, hL, hlt, hBg, hle⟩ := HF.out
  obtain ⟨hk8, hr8, hr⟩ := HQ.out
  refine ⟨rfl, put_done hblk hown hlen hL hk8 (by omega) (fun j hj => ?_) hlt hle hBg (Goes.refl B G w) x ?_ _ rfl⟩
  · rw [packB_length] at hj
    rw [packB_getD _ _ hj]
  · rw [← hx, hr8, HX.out]
    have h1 := shl_bit b r hr
    have h2 := shl_lt b r hr
    rw [h1]
    exact u8_or_nat X _ hX2 h2
theorem put_any (w : World) (B G : Nat) (bs : List Bool) (b : Bool) (q : Option Addr) (c : Nat) (h : WrS w B G bs q c) (hn : bs.length ≤ 1099511627776) :
    Calls Try.prog 54 #[.pointer (some ⟨G, 0, none⟩), .int .i64 (b2n b : Int)] w (PutPost w B G (bs ++ [b])) := by
  by_cases h8 : bs.length % 8 = 0
  · exact put_new w B G bs b q c h hn h8
  · exact put_old w B G bs b q c h hn h8
theorem Goes.trans {B G : Nat} {a b c : World} (h : Goes B G a b) (k : Goes B G b c) : Goes B G a c :=
  ⟨k.1.trans h.1, k.2.1.trans h.2.1, k.2.2.1.trans h.2.2.1, Nat.le_trans h.2.2.2.1 k.2.2.2.1, fun j hj hG => (k.2.2.2.2 j hj hG).trans (h.2.2.2.2 j hj hG)⟩
end Go.Proofs.Ytaiiigknlnhdgaa
