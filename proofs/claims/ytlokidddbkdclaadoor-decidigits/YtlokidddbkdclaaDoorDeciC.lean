/-
  Contract of package deci's function appendGroup, for every text of bytes in a block of the caller's and every word: the last nine digits of the word are behind what was; nothing below that block turns.
-/
import Derived.Test.YtlokidddbkdclaaDoorDeciPad
import Derived.Test.YtlokidddbkdclaaDoorDeciRef
import Derived.Test.YtlokidddbkdclaaDoorBytesW
namespace Go.Proofs.YtlokidddbkdclaaDoor
open Go.RowKit

theorem pad_next (g t : Nat) (ht : t < 9) : pad (9 - t) (g / 10 ^ t) = pad (9 - (t + 1)) (g / 10 ^ (t + 1)) ++ [UInt8.ofNat (48 + g / 10 ^ t % 10)] := by
  rw [show 9 - t = (9 - (t + 1)) + 1 by omega, pad, Nat.pow_succ, Nat.div_div_eq_div_mul]

set_option maxHeartbeats 4000000 in
theorem deci_appendGroup (n₀ : Nat) (a : Option Addr) (n c : Nat) (bs : List UInt8) (g : Int) (w : World) (h : RowB n₀ w (.slice a n c) n bs) (h0 : n₀ ≤ w.heap.size) (hn : n ≤ 1000000000) (g0 : 0 ≤ g) (g1 : g < 4294967296) :
    Calls Tryd.prog 30 #[.slice a n c, .int .u32 g] w fun e w' => ∃ (a' : Option Addr) (c' : Nat), e = .returned (.slice a' (n + 9) c') ∧ RowB n₀ w' (.slice a' (n + 9) c') (n + 9) (bs ++ pad 9 g.toNat) ∧ Below n₀ w w' := by
  have HI : Hid (RowB n₀ w (.slice a n c) n bs ∧ n₀ ≤ w.heap.size ∧ n ≤ 1000000000) := ⟨h, h0, hn⟩
  clear h h0 hn
  go_enter Tryd.func30, Tryd.ntmps30
  go_wp2
  go_loopg [0, 5] 9 (fun k s0 s5 v => ∃ (a0 : Option Addr) (m c0 : Nat), k ≤ 9 ∧ s0 = .slice a0 m c0 ∧ s5 = .int .u32 ((10 ^ k / 10 : Nat) : Int) ∧ m + k = n + 9 ∧ RowB n₀ v (.slice a0 m c0) m (bs ++ pad (9 - k) (g.toNat / 10 ^ k)) ∧ Below n₀ w v)
  case atStart =>
    obtain ⟨i1, i2, i3⟩ := HI.out
    refine ⟨a, n, c, Nat.le_refl _, rfl, rfl, rfl, ?_, Below.refl _ _⟩
    rw [Nat.sub_self]
    simpa [pad] using i1
  case round =>
    obtain ⟨a0, m, c0, hk, rfl, rfl, hm, r0, b0⟩ := hrel
    cases gk with
    | zero =>
      obtain rfl : m = n + 9 := by omega
      rw [Nat.sub_zero, Nat.pow_zero, Nat.div_one] at r0
      rw [show ((10 ^ 0 / 10 : Nat) : Int) = 0 from rfl]
      clear hm hk
      go_wp2
      go_ret
      exact ⟨_, _, rfl, r0, b0⟩
    | succ t =>
      have hn2 := HI.out.2.2
      have hpt : 10 ^ (t + 1) / 10 = 10 ^ t := by rw [Nat.pow_succ]; omega
      have hp1 : 10 ^ t ≤ 10 ^ 8 := Nat.pow_le_pow_right (by omega) (by omega)
      have hp0 : 0 < 10 ^ t := Nat.pow_pos (by omega)
      have HP := pad_next g.toNat t (by omega)
      have HU : Hid (((10 ^ t / 10 : Nat) : Int) = ((10 ^ t : Nat) : Int) / 10) := by show _ = _; rw [Int.natCast_ediv]; rfl
      rw [hpt]
      have e1 : ((g.toNat / 10 ^ t % 10 : Nat) : Int) = g / ((10 ^ t : Nat) : Int) % 10 := by
        rw [Int.natCast_emod, Int.natCast_ediv, Int.toNat_of_nonneg g0]; rfl
      have hd : ((UInt8.ofNat (48 + g.toNat / 10 ^ t % 10)).toNat : Int) = 48 + g / ((10 ^ t : Nat) : Int) % 10 := by rw [digit_nat, ← e1]; omega
      generalize UInt8.ofNat (48 + g.toNat / 10 ^ t % 10) = b at HP hd
      have HP2 : Hid (pad (9 - t) (g.toNat / 10 ^ t) = pad (9 - (t + 1)) (g.toNat / 10 ^ (t + 1)) ++ [b]) := HP
      have u1 : ((10 ^ t : Nat) : Int) ≤ 100000000 := by
        have : (10 : Nat) ^ 8 = 100000000 := rfl
        omega
      have u0 : 0 < ((10 ^ t : Nat) : Int) := by omega
      generalize ((10 ^ t : Nat) : Int) = u at u0 u1 hd HU
      have hsz := Nat.le_trans HI.out.2.1 b0.size
      generalize hl : bs ++ pad (9 - (t + 1)) (g.toNat / 10 ^ (t + 1)) = l at r0
      have HL : Hid (bs ++ pad (9 - (t + 1)) (g.toNat / 10 ^ (t + 1)) = l) := hl
      have q0 : 0 ≤ g / u := Int.ediv_nonneg g0 (by omega)
      have q1 : g / u ≤ g := Int.ediv_le_self _ g0
      clear hpt hp1 hp0 HP e1 hl HI
      have hm1 : m + 1 ≤ 35184372088832 := by omega
      go_wp2_with (at_builtin; refine wpl_append_byte (.tmp 10) (.tmp 17) rfl rfl n₀ wr _ m l b (48 + g / u % 10) hd rfl rfl r0 hsz (m + 1) rfl hm1 ?_; intro a6 c6 w6 r6 b6)
      go_roundg t
      case measure => omega
      case rel => exact ⟨_, _, _, by omega, rfl, by rw [HU.out], by omega, by rw [HP2.out, ← List.append_assoc, HL.out]; exact r6, b0.trans b6⟩
end Go.Proofs.YtlokidddbkdclaaDoor
