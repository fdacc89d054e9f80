/-
  Contract of the document's division of two words by one, bit by bit (talwegref01.Div): where the upper word is less than the divisor it answers quotient and rest; memory stays.
-/
import Derived.Test.YtpehignbgdpbiaaLimbRef
namespace Go.Proofs.Ytpehignbgdpbiaa
open Go.RowKit

theorem half_pow (n m : Nat) : n / 2 ^ m = 2 * (n / 2 ^ (m + 1)) + n / 2 ^ m % 2 := by
  rw [Nat.pow_succ, ← Nat.div_div_eq_div_mul]; omega

theorem refdiv_step {N q r d b : Nat} {m : Nat} (h : q * d + r = N / 2 ^ (m + 1)) (hb : N / 2 ^ m % 2 = b) : (2 * q) * d + (2 * r + b) = N / 2 ^ m := by
  have e := half_pow N m
  rw [hb, ← h] at e
  rw [e, Nat.mul_assoc]; omega

theorem hi_lo_bit (hi lo m : Nat) (hm : m < 32) : (hi * 4294967296 + lo) / 2 ^ m % 2 = lo / 2 ^ m % 2 := by
  have e : hi * 4294967296 = 2 ^ m * (hi * 2 ^ (31 - m) * 2) := by
    rw [show (4294967296 : Nat) = 2 ^ m * (2 ^ (31 - m) * 2) by rw [← Nat.pow_succ, ← Nat.pow_add]; rw [show m + (31 - m + 1) = 32 by omega]]
    rw [Nat.mul_left_comm, ← Nat.mul_assoc hi]
  rw [e, Nat.mul_add_div (Nat.two_pow_pos _)]
  omega

theorem and_one_u32 (x : Nat) (h : x < 4294967296) : bits BinOp.and IntKind.u32 (x : Int) 1 = ((x % 2 : Nat) : Int) := by
  have h1 : (BitVec.ofInt 32 (x : Int)).toNat = x := by
    rw [BitVec.ofInt_natCast, BitVec.toNat_ofNat]; exact Nat.mod_eq_of_lt h
  have h2 : (BitVec.ofInt 32 (1 : Int)).toNat = 1 := by decide
  show IntKind.u32.wrap ((BitVec.ofInt 32 (x : Int) &&& BitVec.ofInt 32 (1 : Int)).toNat : Int) = _
  rw [BitVec.toNat_and, h1, h2, IntKind.wrap_u32, Nat.and_one_is_mod]
  omega

theorem bit_yes {lo m : Nat} (h : lo < 4294967296) (hb : lo / 2 ^ m % 2 = 1) : (bits BinOp.and IntKind.u32 ((lo : Int) / 2 ^ m) 1 == 1) = true := by
  have e : ((lo : Int) / 2 ^ m) = ((lo / 2 ^ m : Nat) : Int) := by simp
  rw [e, and_one_u32 _ (Nat.lt_of_le_of_lt (Nat.div_le_self _ _) h), hb]; rfl
theorem bit_no {lo m : Nat} (h : lo < 4294967296) (hb : lo / 2 ^ m % 2 = 0) : (bits BinOp.and IntKind.u32 ((lo : Int) / 2 ^ m) 1 == 1) = false := by
  have e : ((lo : Int) / 2 ^ m) = ((lo / 2 ^ m : Nat) : Int) := by simp
  rw [e, and_one_u32 _ (Nat.lt_of_le_of_lt (Nat.div_le_self _ _) h), hb]; rfl

theorem ret_three {k l : IntKind} {a b c d : Int} {x : Bool} (h : a = c) (g : b = d) : Ending.returned (.tuple #[.int k a, .int l b, .bool x]) = .returned (.tuple #[.int k c, .int l d, .bool x]) := by rw [h, g]

theorem quot_of {Q d R N : Nat} (h : Q * d + R = N) (hR : R < d) : N / d = Q ∧ N % d = R := by
  subst h
  have hd : 0 < d := by omega
  constructor
  · rw [Nat.mul_comm, Nat.mul_add_div hd, Nat.div_eq_of_lt hR]; omega
  · rw [Nat.mul_comm, Nat.mul_add_mod, Nat.mod_eq_of_lt hR]

theorem step_no {Q m : Nat} (hm : m + 1 ≤ 32) (h : Q < 2 ^ (32 - (m + 1))) : 2 * Q + 1 < 2 ^ (32 - m) := by
  rw [show 32 - m = 32 - (m + 1) + 1 by omega, Nat.pow_succ]; omega

theorem step_yes {Q d R b x : Nat} (h : (2 * Q) * d + (2 * R + b) = x) (hd : d ≤ 2 * R + b) : (2 * Q + 1) * d + (2 * R + b - d) = x := by
  rw [Nat.add_mul]; omega

set_option maxHeartbeats 400000 in
theorem ref_div (hi lo d : Nat) (w : World) (h1 : hi < d) (h3 : lo < 4294967296) (h5 : d < 4294967296) :
    Calls Try.prog 18 #[.int .u32 hi, .int .u32 lo, .int .u32 d] w fun e w' => e = .returned (.tuple #[.int .u32 ((hi * 4294967296 + lo) / d : Nat), .int .u32 ((hi * 4294967296 + lo) % d : Nat), .bool true]) ∧ w = w' := by
  obtain ⟨N, hN⟩ : ∃ N, hi * 4294967296 + lo = N := ⟨_, rfl⟩
  rw [hN]
  have HN : Hid (hi * 4294967296 + lo = N) := hN
  clear hN
  go_enter Try.func18, Try.ntmps18
  go_wp2
  go_loop [9, 10, 11] (fun r q i => ∃ R Q m : Nat, m ≤ 32 ∧ r = .int .u64 R ∧ q = .int .u64 Q ∧ i = .int .i64 ((m : Int) - 1) ∧ R < d ∧ Q < 2 ^ (32 - m) ∧ Q * d + R = N / 2 ^ m) (fun _ _ i => (intOf i + 1).toNat)
  case atStart => exact ⟨hi, 0, 32, by omega, rfl, rfl, rfl, h1, by simp, by rw [← HN.out]; omega⟩
  case round =>
    obtain ⟨R, Q, m, hm, rfl, rfl, rfl, hR, hQ, he⟩ := hrel
    match m, hm, hQ, he with
    | 0, hm, hQ, he =>
      have HE : Hid (Q * d + R = N) := by rw [Nat.pow_zero, Nat.div_one] at he; exact he
      clear he
      have hQ' : Q < 4294967296 := by simpa using hQ
      clear hQ
      go_wp2
      go_ret3
      exact ⟨ret_three (by rw [← (quot_of HE.out hR).1]; simp) (by rw [← (quot_of HE.out hR).2]; simp), rfl⟩
    | m + 1, hm, hQ, he =>
      have hQ32 : Q < 4294967296 := Nat.lt_of_lt_of_le hQ (Nat.pow_le_pow_right (n := 2) (by omega) (by omega : 32 - (m + 1) ≤ 32))
      have HQ : Hid (2 * Q + 1 < 2 ^ (32 - m)) := step_no hm hQ
      have HB := hi_lo_bit hi lo m (by omega)
      rw [HN.out] at HB
      rcases (by omega : lo / 2 ^ m % 2 = 0 ∨ lo / 2 ^ m % 2 = 1) with hb | hb
      · have HE : Hid (2 * Q * d + (2 * R + 0) = N / 2 ^ m) := refdiv_step he (by rw [HB, hb])
        have ht := bit_no h3 hb
        clear he hQ HB hb
        go_wp2
        · go_round
          case rel => exact ⟨2 * R - d, 2 * Q + 1, m, by omega, by congr 1; omega, by go_num, rfl, by omega, HQ.out, step_yes HE.out (by omega)⟩
          case measure => simp [intOf]
        · go_round
          case rel => exact ⟨2 * R, 2 * Q, m, by omega, by go_num, by go_num, rfl, by omega, by have := HQ.out; omega, HE.out⟩
          case measure => simp [intOf]
      · have HE : Hid (2 * Q * d + (2 * R + 1) = N / 2 ^ m) := refdiv_step he (by rw [HB, hb])
        have ht := bit_yes h3 hb
        clear he hQ HB hb
        go_wp2
        · go_round
          case rel => exact ⟨2 * R + 1 - d, 2 * Q + 1, m, by omega, by congr 1; omega, by go_num, rfl, by omega, HQ.out, step_yes HE.out (by omega)⟩
          case measure => simp [intOf]
        · go_round
          case rel => exact ⟨2 * R + 1, 2 * Q, m, by omega, by go_num, by go_num, rfl, by omega, by have := HQ.out; omega, HE.out⟩
          case measure => simp [intOf]
end Go.Proofs.Ytpehignbgdpbiaa
