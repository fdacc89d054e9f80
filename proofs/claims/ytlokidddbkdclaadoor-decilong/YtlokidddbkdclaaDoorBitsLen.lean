/-
  Contracts of the standard library's bits.Len64 and bits.Len, for every number of 64 bits: how many binary digits it has; memory stays.
-/
import Derived.Test.YtlokidddbkdclaaDoorLimbB
namespace Go.Proofs.YtlokidddbkdclaaDoor
open Go.RowKit

theorem len8_shift (a y : Int) (s : Nat) (h0 : 0 ≤ a) (h1 : a < 18446744073709551616) (y0 : 0 ≤ y) (y1 : y ≤ 255) (hy : y.toNat = a.toNat / 2 ^ s) (hs : 2 ^ s ≤ a.toNat ∨ s = 0) :
    Hid (Lib.len8 y + s = Lib.bitLen a.toNat) ∧ 0 ≤ Lib.len8 y ∧ Lib.len8 y ≤ 8 := by
  have e : Lib.len8 y = (Lib.bitLen (a.toNat / 2 ^ s) : Int) := by rw [Lib.len8_of _ y0 y1, hy]
  have l1 : Lib.bitLen (a.toNat / 2 ^ s) ≤ 8 := Lib.bitLen_le _ 8 (by omega) (by rw [← hy]; omega)
  refine ⟨?_, by omega, by omega⟩
  show _ = _
  rw [e]
  rcases hs with hs | rfl
  · rw [Lib.bitLen_shift s a.toNat hs (by omega)]; omega
  · simp

set_option maxRecDepth 100000 in
theorem bits_len64 (a : Int) (w : World) (h0 : 0 ≤ a) (h1 : a < 18446744073709551616) :
    Calls Tryd.prog 57 #[.int .u64 a] w fun e w' => e = .returned (.int .i64 (Lib.bitLen a.toNat)) ∧ w = w' := by
  by_cases c1 : 4294967296 ≤ a
  · by_cases c2 : 65536 ≤ a / 4294967296
    · by_cases c3 : 256 ≤ a / 4294967296 / 65536
      · have i0 : 0 ≤ a / 4294967296 / 65536 / 256 := by omega
        have i1 : a / 4294967296 / 65536 / 256 ≤ 255 := by omega
        obtain ⟨E, l0, l1⟩ := len8_shift a _ 56 h0 h1 i0 i1 (by omega) (.inl (by omega))
        go_enter Tryd.func57, Tryd.ntmps57
        go_wp2
        go_ret
        exact ⟨ret_int (by have := E.out; omega), rfl⟩
      · have i0 : 0 ≤ a / 4294967296 / 65536 := by omega
        have i1 : a / 4294967296 / 65536 ≤ 255 := by omega
        obtain ⟨E, l0, l1⟩ := len8_shift a _ 48 h0 h1 i0 i1 (by omega) (.inl (by omega))
        go_enter Tryd.func57, Tryd.ntmps57
        go_wp2
        go_ret
        exact ⟨ret_int (by have := E.out; omega), rfl⟩
    · by_cases c3 : 256 ≤ a / 4294967296
      · have i0 : 0 ≤ a / 4294967296 / 256 := by omega
        have i1 : a / 4294967296 / 256 ≤ 255 := by omega
        obtain ⟨E, l0, l1⟩ := len8_shift a _ 40 h0 h1 i0 i1 (by omega) (.inl (by omega))
        go_enter Tryd.func57, Tryd.ntmps57
        go_wp2
        go_ret
        exact ⟨ret_int (by have := E.out; omega), rfl⟩
      · have i0 : 0 ≤ a / 4294967296 := by omega
        have i1 : a / 4294967296 ≤ 255 := by omega
        obtain ⟨E, l0, l1⟩ := len8_shift a _ 32 h0 h1 i0 i1 (by omega) (.inl (by omega))
        go_enter Tryd.func57, Tryd.ntmps57
        go_wp2
        go_ret
        exact ⟨ret_int (by have := E.out; omega), rfl⟩
  · by_cases c2 : 65536 ≤ a
    · by_cases c3 : 256 ≤ a / 65536
      · have i0 : 0 ≤ a / 65536 / 256 := by omega
        have i1 : a / 65536 / 256 ≤ 255 := by omega
        obtain ⟨E, l0, l1⟩ := len8_shift a _ 24 h0 h1 i0 i1 (by omega) (.inl (by omega))
        go_enter Tryd.func57, Tryd.ntmps57
        go_wp2
        go_ret
        exact ⟨ret_int (by have := E.out; omega), rfl⟩
      · have i0 : 0 ≤ a / 65536 := by omega
        have i1 : a / 65536 ≤ 255 := by omega
        obtain ⟨E, l0, l1⟩ := len8_shift a _ 16 h0 h1 i0 i1 (by omega) (.inl (by omega))
        go_enter Tryd.func57, Tryd.ntmps57
        go_wp2
        go_ret
        exact ⟨ret_int (by have := E.out; omega), rfl⟩
    · by_cases c3 : 256 ≤ a
      · have i0 : 0 ≤ a / 256 := by omega
        have i1 : a / 256 ≤ 255 := by omega
        obtain ⟨E, l0, l1⟩ := len8_shift a _ 8 h0 h1 i0 i1 (by omega) (.inl (by omega))
        go_enter Tryd.func57, Tryd.ntmps57
        go_wp2
        go_ret
        exact ⟨ret_int (by have := E.out; omega), rfl⟩
      · have i1 : a ≤ 255 := by omega
        obtain ⟨E, l0, l1⟩ := len8_shift a _ 0 h0 h1 h0 i1 (by simp) (.inr rfl)
        go_enter Tryd.func57, Tryd.ntmps57
        go_wp2
        go_ret
        exact ⟨ret_int (by have := E.out; omega), rfl⟩

theorem bits_len (a : Int) (w : World) (h0 : 0 ≤ a) (h1 : a < 18446744073709551616) :
    Calls Tryd.prog 40 #[.int .u64 a] w fun e w' => e = .returned (.int .i64 (Lib.bitLen a.toNat)) ∧ w = w' := by
  go_enter Tryd.func40, Tryd.ntmps40
  go_wp2_with (go_at_call 57; refine (bits_len64 a w h0 h1).mono ?_; rintro e w' ⟨rfl, rfl⟩)
  go_ret
  exact ⟨rfl, rfl⟩
end Go.Proofs.YtlokidddbkdclaaDoor
