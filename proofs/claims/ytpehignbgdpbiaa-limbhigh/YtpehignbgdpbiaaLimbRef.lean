/-
  Contracts of the document's own answers for words (package talwegref01: Add, Sub, Mul, Div, Bits, Low), for every word and list: the same plain integers as package limb's; memory stays.
-/
import Derived.Test.YtpehignbgdpbiaaLimbB
namespace Go.Proofs.Ytpehignbgdpbiaa
open Go.RowKit

theorem ref_add (a b c : Int) (w : World) (h0 : 0 ≤ a) (h1 : a < 4294967296) (h2 : 0 ≤ b) (h3 : b < 4294967296) (h4 : 0 ≤ c) (h5 : c < 4294967296) :
    Calls Try.prog 12 #[.int .u32 a, .int .u32 b, .int .u32 c] w fun e w' => e = .returned (.tuple #[.int .u32 ((a + b + c) % 4294967296), .int .u32 ((a + b + c) / 4294967296)]) ∧ w = w' := by
  go_enter Try.func12, Try.ntmps12
  go_wp2
  go_ret2
  exact ⟨rfl, rfl⟩

theorem ref_sub (a b c : Int) (w : World) (h0 : 0 ≤ a) (h1 : a < 4294967296) (h2 : 0 ≤ b) (h3 : b < 4294967296) (h4 : 0 ≤ c) (h5 : c < 4294967296) :
    Calls Try.prog 14 #[.int .u32 a, .int .u32 b, .int .u32 c] w fun e w' => e = .returned (.tuple #[.int .u32 ((a - b - c) % 4294967296), .int .u32 (-((a - b - c) / 4294967296))]) ∧ w = w' := by
  go_enter Try.func14, Try.ntmps14
  go_wp2
  go_loop [8, 10] (fun n o => ∃ k : Nat, n = .int .u64 (a + k * 4294967296) ∧ o = .int .u32 k ∧ (k = 0 ∨ a + (k - 1) * 4294967296 < b + c)) (fun _ o => 3 - (intOf o).toNat)
  case atStart => exact ⟨0, by simp, rfl, .inl rfl⟩
  case round =>
    obtain ⟨k, rfl, rfl, hk⟩ := hrel
    have hk3 : k ≤ 2 := by omega
    by_cases hlt : a + k * 4294967296 < b + c
    · have hk2 : k ≤ 1 := by omega
      clear hk
      go_wp2
      go_round
      case rel => exact ⟨k + 1, by congr 1; omega, by go_num, .inr (by omega)⟩
      case measure => simp [intOf]; omega
    · have HK : Hid (k = 0 ∨ a + (k - 1) * 4294967296 < b + c) := hk
      clear hk
      go_wp2
      go_ret2
      have := HK.out
      exact ⟨ret_two (by omega) (by omega), rfl⟩

theorem ref_mul (a b c d : Int) (w : World) (h0 : 0 ≤ a) (h1 : a < 4294967296) (h2 : 0 ≤ b) (h3 : b < 4294967296) (h4 : 0 ≤ c) (h5 : c < 4294967296) (h6 : 0 ≤ d) (h7 : d < 4294967296) :
    Calls Try.prog 16 #[.int .u32 a, .int .u32 b, .int .u32 c, .int .u32 d] w fun e w' => e = .returned (.tuple #[.int .u32 ((a * b + c + d) / 4294967296), .int .u32 ((a * b + c + d) % 4294967296)]) ∧ w = w' := by
  have m0 : 0 ≤ a * b := Int.mul_nonneg h0 h2
  have m1 : a * b ≤ 4294967295 * 4294967295 := Int.mul_le_mul (by omega) (by omega) h2 (by omega)
  go_enter Try.func16, Try.ntmps16
  go_wp2
  go_ret2
  exact ⟨rfl, rfl⟩

theorem ref_div_no (a b d : Int) (w : World) (h : d ≤ a) :
    Calls Try.prog 18 #[.int .u32 a, .int .u32 b, .int .u32 d] w fun e w' => e = .returned (.tuple #[.int .u32 0, .int .u32 0, .bool false]) ∧ w = w' := by
  go_enter Try.func18, Try.ntmps18
  go_wp2
  go_ret3
  exact ⟨rfl, rfl⟩

theorem ref_bits (a : Int) (w : World) (h0 : 0 ≤ a) (h1 : a < 4294967296) :
    Calls Try.prog 20 #[.int .u32 a] w fun e w' => e = .returned (.int .i64 (Lib.bitLen a.toNat)) ∧ w = w' := by
  have hle := Lib.bitLen_le a.toNat 32 (by omega) (by omega)
  generalize hB : Lib.bitLen a.toNat = B at hle
  have HB : Hid (Lib.bitLen a.toNat = B) := hB
  clear hB
  go_enter Try.func20, Try.ntmps20
  go_wp2
  go_loop [0, 3] (fun x n => ∃ y k : Nat, y < 4294967296 ∧ x = .int .u32 y ∧ n = .int .i64 k ∧ k + Lib.bitLen y = B) (fun x _ => (intOf x).toNat)
  case atStart => exact ⟨a.toNat, 0, by omega, by congr 1; omega, rfl, by rw [HB.out]; omega⟩
  case round =>
    obtain ⟨y, k, hy, rfl, rfl, hk⟩ := hrel
    have hk32 : k ≤ 32 := by omega
    have HK : Hid (k + Lib.bitLen y = B) := hk
    clear hk
    by_cases hz : 0 < y
    · go_wp2
      go_round
      case rel => exact ⟨y / 2, k + 1, by omega, by congr 1, by go_num, by have := HK.out; rw [Lib.bitLen_half y (by omega) (by omega)] at this; omega⟩
      case measure => simp [intOf]; omega
    · have : y = 0 := by omega
      subst this
      go_wp2
      go_ret
      exact ⟨ret_int (by rw [← HK.out]; simp [Lib.bitLen, Lib.bitLenAux]), rfl⟩

theorem ref_low (a : Option Addr) (n cap : Nat) (zs : List Int) (w : World) (hr : Reads .u32 w a n zs) (hn : n ≤ 9223372036854775807) :
    Calls Try.prog 22 #[.slice a n cap] w fun e w' => e = .returned (.int .i64 (lowN zs n)) ∧ w = w' := by
  obtain ⟨-, rfl | ⟨b, off, rfl, hc⟩⟩ := hr
  · go_enter Try.func22, Try.ntmps22
    go_wp2
    go_loop [3, 4] (fun s i => s = .int .i64 0 ∧ i = .int .i64 0) (fun _ _ => 0)
    case atStart => exact ⟨rfl, rfl⟩
    case round =>
      obtain ⟨rfl, rfl⟩ := hrel
      go_wp2
      go_ret
      exact ⟨rfl, rfl⟩
  · go_enter Try.func22, Try.ntmps22
    go_wp2
    go_loop [3, 4] (fun s i => ∃ k m : Nat, k ≤ n ∧ i = .int .i64 k ∧ s = .int .i64 m ∧ lowN zs k = m) (fun _ i => n - (intOf i).toNat)
    case atStart => exact ⟨0, 0, by omega, rfl, rfl, rfl⟩
    case round =>
      obtain ⟨k, m, hk, rfl, rfl, hl⟩ := hrel
      have HL : Hid (lowN zs k = m) := hl
      clear hl
      by_cases hlt : k < n
      · have hck := hc k hlt
        by_cases hz : zs.getD k 0 = 0
        · rw [hz] at hck
          have HZ : Hid (zs.getD k 0 = 0) := hz
          clear hz hc
          go_wp2
          go_round
          case rel => exact ⟨k + 1, m, by omega, by go_num, rfl, by rw [lowN_zero HZ.out]; exact HL.out⟩
          case measure => simp [intOf]; omega
        · have HZ : Hid (zs.getD k 0 ≠ 0) := hz
          generalize zs.getD k 0 = z at hck hz
          have hz' : (z == 0) = false := by simpa using hz
          clear hz hc
          go_wp2
          go_round
          case rel => exact ⟨k + 1, k + 1, by omega, by go_num, by go_num, lowN_keep HZ.out⟩
          case measure => simp [intOf]; omega
      · have HE : Hid (k = n) := (by omega : k = n)
        clear hc
        go_wp2
        go_ret
        exact ⟨ret_int (by rw [← HE.out, HL.out]), rfl⟩
end Go.Proofs.Ytpehignbgdpbiaa
