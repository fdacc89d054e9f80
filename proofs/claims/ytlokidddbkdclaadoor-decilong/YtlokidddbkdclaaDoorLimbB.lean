/-
  Contracts of limb.Bits and limb.Low, for every word and every list of words: how many binary digits, how many words without the 0s at the end; memory stays.
-/
import Derived.Test.YtlokidddbkdclaaDoorLimb
import Derived.Lib.BitFns
namespace Go.Proofs.YtlokidddbkdclaaDoor
open Go.RowKit

theorem ret_int {k : IntKind} {a b : Int} (h : a = b) : Ending.returned (.int k a) = .returned (.int k b) := by rw [h]

set_option maxRecDepth 100000 in
theorem bits_len32 (a : Int) (w : World) (h0 : 0 ≤ a) (h1 : a < 4294967296) :
    Calls Tryd.prog 56 #[.int .u32 a] w fun e w' => e = .returned (.int .i64 (Lib.bitLen a.toNat)) ∧ w = w' := by
  by_cases c1 : 65536 ≤ a
  · by_cases c2 : 256 ≤ a / 65536
    · have i0 : 0 ≤ a / 65536 / 256 := by omega
      have i1 : a / 65536 / 256 ≤ 255 := by omega
      have E : Hid (Lib.len8 (a / 65536 / 256) = (Lib.bitLen (a.toNat / 2 ^ 24) : Int)) := by
        show _ = _
        rw [Lib.len8_of _ i0 i1, show (a / 65536 / 256).toNat = a.toNat / 2 ^ 24 by omega]
      have S : Hid (Lib.bitLen a.toNat = 24 + Lib.bitLen (a.toNat / 2 ^ 24)) := Lib.bitLen_shift 24 a.toNat (by omega) (by omega)
      have l0 : 0 ≤ Lib.len8 (a / 65536 / 256) := by rw [E.out]; omega
      have l1 : Lib.len8 (a / 65536 / 256) ≤ 8 := by rw [E.out]; have := Lib.bitLen_le (a.toNat / 2 ^ 24) 8 (by omega) (by omega); omega
      go_enter Tryd.func56, Tryd.ntmps56
      go_wp2
      go_ret
      exact ⟨ret_int (by rw [E.out, S.out]; omega), rfl⟩
    · have i0 : 0 ≤ a / 65536 := by omega
      have i1 : a / 65536 ≤ 255 := by omega
      have E : Hid (Lib.len8 (a / 65536) = (Lib.bitLen (a.toNat / 2 ^ 16) : Int)) := by
        show _ = _
        rw [Lib.len8_of _ i0 i1, show (a / 65536).toNat = a.toNat / 2 ^ 16 by omega]
      have S : Hid (Lib.bitLen a.toNat = 16 + Lib.bitLen (a.toNat / 2 ^ 16)) := Lib.bitLen_shift 16 a.toNat (by omega) (by omega)
      have l0 : 0 ≤ Lib.len8 (a / 65536) := by rw [E.out]; omega
      have l1 : Lib.len8 (a / 65536) ≤ 8 := by rw [E.out]; have := Lib.bitLen_le (a.toNat / 2 ^ 16) 8 (by omega) (by omega); omega
      go_enter Tryd.func56, Tryd.ntmps56
      go_wp2
      go_ret
      exact ⟨ret_int (by rw [E.out, S.out]; omega), rfl⟩
  · by_cases c2 : 256 ≤ a
    · have i0 : 0 ≤ a / 256 := by omega
      have i1 : a / 256 ≤ 255 := by omega
      have E : Hid (Lib.len8 (a / 256) = (Lib.bitLen (a.toNat / 2 ^ 8) : Int)) := by
        show _ = _
        rw [Lib.len8_of _ i0 i1, show (a / 256).toNat = a.toNat / 2 ^ 8 by omega]
      have S : Hid (Lib.bitLen a.toNat = 8 + Lib.bitLen (a.toNat / 2 ^ 8)) := Lib.bitLen_shift 8 a.toNat (by omega) (by omega)
      have l0 : 0 ≤ Lib.len8 (a / 256) := by rw [E.out]; omega
      have l1 : Lib.len8 (a / 256) ≤ 8 := by rw [E.out]; have := Lib.bitLen_le (a.toNat / 2 ^ 8) 8 (by omega) (by omega); omega
      go_enter Tryd.func56, Tryd.ntmps56
      go_wp2
      go_ret
      exact ⟨ret_int (by rw [E.out, S.out]; omega), rfl⟩
    · have i1 : a ≤ 255 := by omega
      have E : Hid (Lib.len8 a = (Lib.bitLen a.toNat : Int)) := Lib.len8_of _ h0 i1
      have l0 : 0 ≤ Lib.len8 a := by rw [E.out]; omega
      have l1 : Lib.len8 a ≤ 8 := by rw [E.out]; have := Lib.bitLen_le a.toNat 8 (by omega) (by omega); omega
      go_enter Tryd.func56, Tryd.ntmps56
      go_wp2
      go_ret
      exact ⟨ret_int (by rw [E.out]), rfl⟩

theorem limb_bits (a : Int) (w : World) (h0 : 0 ≤ a) (h1 : a < 4294967296) :
    Calls Tryd.prog 36 #[.int .u32 a] w fun e w' => e = .returned (.int .i64 (Lib.bitLen a.toNat)) ∧ w = w' := by
  go_enter Tryd.func36, Tryd.ntmps36
  go_wp2_with (go_at_call 56; refine (bits_len32 a w h0 h1).mono ?_; rintro e w' ⟨rfl, rfl⟩)
  go_ret
  exact ⟨rfl, rfl⟩

/-- How many of the first n words there are without the 0s at the end. -/
def lowN (zs : List Int) : Nat → Nat
  | 0 => 0
  | n + 1 => if zs.getD n 0 = 0 then lowN zs n else n + 1
theorem lowN_le (zs : List Int) (n : Nat) : lowN zs n ≤ n := by
  induction n with
  | zero => simp [lowN]
  | succ n ih => simp only [lowN]; split <;> omega
theorem lowN_zero {zs : List Int} {n : Nat} (h : zs.getD n 0 = 0) : lowN zs (n + 1) = lowN zs n := by simp only [lowN]; rw [if_pos h]
theorem lowN_keep {zs : List Int} {n : Nat} (h : zs.getD n 0 ≠ 0) : lowN zs (n + 1) = n + 1 := by simp only [lowN]; rw [if_neg h]

/-- The slice (a, n) reads as the integers zs: it is empty, or its cells hold them. -/
def Reads (k : IntKind) (w : World) (a : Option Addr) (n : Nat) (zs : List Int) : Prop :=
  zs.length = n ∧ (n = 0 ∨ ∃ b off, a = some ⟨b, off, none⟩ ∧ ∀ i, i < n → w.cell? ⟨b, off + i, none⟩ = some (.int k (zs.getD i 0)))

theorem limb_low (a : Option Addr) (n cap : Nat) (zs : List Int) (w : World) (hr : Reads .u32 w a n zs) (hn : n ≤ 9223372036854775807) :
    Calls Tryd.prog 35 #[.slice a n cap] w fun e w' => e = .returned (.int .i64 (lowN zs n)) ∧ w = w' := by
  obtain ⟨-, rfl | ⟨b, off, rfl, hc⟩⟩ := hr
  · go_enter Tryd.func35, Tryd.ntmps35
    go_wp2
    go_loop [3] (fun s => s = .int .i64 0) (fun _ => 0)
    case atStart => exact rfl
    case round =>
      subst hrel
      go_wp2
      go_ret
      exact ⟨rfl, rfl⟩
  · go_enter Tryd.func35, Tryd.ntmps35
    go_wp2
    go_loop [3] (fun s => ∃ k : Nat, k ≤ n ∧ s = .int .i64 k ∧ lowN zs k = lowN zs n) (fun s => (intOf s).toNat)
    case atStart => exact ⟨n, Nat.le_refl _, rfl, rfl⟩
    case round =>
      obtain ⟨k, hk, rfl, hl⟩ := hrel
      have HL : Hid (lowN zs k = lowN zs n) := hl
      clear hl
      match k, hk, HL with
      | 0, hk, HL =>
        clear hc
        go_wp2
        go_ret
        exact ⟨ret_int (by rw [← HL.out]; simp [lowN]), rfl⟩
      | k + 1, hk, HL =>
        have hck := hc k (by omega)
        by_cases hz : zs.getD k 0 = 0
        · rw [hz] at hck
          have HZ : Hid (zs.getD k 0 = 0) := hz
          clear hz hc
          go_wp2
          go_round
          case rel => exact ⟨k, by omega, by go_num, by rw [← lowN_zero HZ.out]; exact HL.out⟩
          case measure => simp [intOf]
        · have HZ : Hid (zs.getD k 0 ≠ 0) := hz
          generalize zs.getD k 0 = z at hck hz
          have hz' : (z == 0) = false := by simpa using hz
          clear hz hc
          go_wp2
          go_ret
          exact ⟨ret_int (by rw [← HL.out, lowN_keep HZ.out]; rfl), rfl⟩
end Go.Proofs.YtlokidddbkdclaaDoor
