/-
  Contract of package nat's function Small, for every list of words: the number, if it is below 2^64; memory stays.
-/
import Derived.Test.YtapfoefeplmgnaaNatB
import Derived.Laws.Bits64b
namespace Go.Proofs.Ytapfoefeplmgnaa
open Go.RowKit

theorem or_zero (z : Int) (z0 : 0 ≤ z) (z1 : z < 4294967296) : bits BinOp.or IntKind.u64 0 z = z := by
  obtain ⟨y, rfl⟩ : ∃ y : Nat, z = y := ⟨z.toNat, by omega⟩
  have h := bits_or_u64_nat 0 y (by omega) (by omega)
  simpa using h
/-- A word set beside a lower number. -/
theorem or_word (s : Nat) (z : Int) (z0 : 0 ≤ z) (z1 : z < 4294967296) (hs : s < 4294967296) : bits BinOp.or IntKind.u64 (s : Int) (z * 4294967296) = s + z * 4294967296 := by
  obtain ⟨y, rfl⟩ : ∃ y : Nat, z = y := ⟨z.toNat, by omega⟩
  have h := bits_or_u64_nat s (y * 4294967296) (by omega) (by omega)
  have e : s ||| y * 4294967296 = s + y * 4294967296 := by
    rw [Nat.or_comm, Nat.mul_comm, show (4294967296 : Nat) = 2 ^ 32 from rfl, ← Nat.two_pow_add_eq_or_of_lt (by omega)]; omega
  rw [e] at h
  simpa using h

set_option maxHeartbeats 1000000 in
theorem nat_small (a : Option Addr) (n c : Nat) (zs : List Int) (w : World) (h : IsWords w (.slice a n c) zs) (hz : Wd zs) (hv : val zs < 18446744073709551616) :
    Calls Try.prog 26 #[.slice a n c] w fun e w' => e = .returned (.tuple #[.int .u64 (val zs), .bool true]) ∧ w = w' := by
  have R := nat_right' a n c zs w h hz
  have hL := (h.low hz).2.2
  have hL2 : nl (val zs) ≤ 2 := nl_le 2 _ hv
  have hr := (h.right hz).reads.1
  have hw := wd_natOf (val zs)
  have EV : Hid (val (natOf (val zs)) = val zs) := val_natOf (val zs)
  have hl : (natOf (val zs)).length = nl (val zs) := rfl
  generalize nl (val zs) = L at R hL hL2 hr hl
  generalize natOf (val zs) = ys at hr hw EV hl
  clear h hz
  go_enter Try.func26, Try.ntmps26
  go_wp2_with (go_at_call 37; with_reducible refine Calls.mono R ?_; rintro e w1 ⟨rfl, rfl⟩)
  go_loop [4, 13] (fun s i => ∃ k : Nat, k ≤ L ∧ i = .int .i64 k ∧ s = .int .u64 (val (ys.take k))) (fun _ i => L - (intOf i).toNat)
  case atStart => exact ⟨0, by omega, rfl, rfl⟩
  case round =>
    obtain ⟨k, hk, rfl, rfl⟩ := hrel
    by_cases hlt : k < L
    · rcases hr.2 with h0 | ⟨b, off, rfl, hc⟩
      · omega
      have hck := hc k hlt
      obtain ⟨z0, z1⟩ := wd_getD hw k
      have E : Hid (val (ys.take (k + 1)) = val (ys.take k) + (ys.getD k 0).toNat * 4294967296 ^ k) := val_take_succ ys k
      have hp := val_take_lt ys hw k
      clear hr hc hw R hv
      generalize ys.getD k 0 = z at hck z0 z1 E
      obtain rfl | rfl : k = 0 ∨ k = 1 := by omega
      · have e0 : val (ys.take 0) = 0 := rfl
        rw [e0] at E ⊢
        clear hp
        rw [show ((0 : Nat) : Int) = 0 from rfl]
        rw [Nat.add_zero] at hck
        go_wp2
        go_round
        case rel => exact ⟨1, by omega, rfl, val_int (by rw [E.out, or_zero z z0 z1]; omega)⟩
        case measure => simp [intOf]; omega
      · generalize val (ys.take 1) = s at E hp ⊢
        have HP : Hid (s < 4294967296) := (by omega : s < 4294967296)
        clear hp
        go_wp2
        go_round
        case rel => exact ⟨2, by omega, rfl, val_int (by rw [E.out, or_word s z z0 z1 HP.out]; omega)⟩
        case measure => simp [intOf]; omega
    · have e : ys.take k = ys := List.take_of_length_le (by omega)
      rw [e]
      clear hr hw R hv
      go_wp2
      go_ret2
      exact ⟨ret_ib (by rw [EV.out]), rfl⟩
set_option maxHeartbeats 1000000 in
theorem nat_small_no (a : Option Addr) (n c : Nat) (zs : List Int) (w : World) (h : IsWords w (.slice a n c) zs) (hz : Wd zs) (hv : 18446744073709551616 ≤ val zs) :
    Calls Try.prog 26 #[.slice a n c] w fun e w' => e = .returned (.tuple #[.int .u64 0, .bool false]) ∧ w = w' := by
  have R := nat_right' a n c zs w h hz
  have hL := (h.low hz).2.2
  have hL2 := nl_big _ hv
  generalize nl (val zs) = L at R hL hL2
  clear h hz hv
  go_enter Try.func26, Try.ntmps26
  go_wp2_with (go_at_call 37; with_reducible refine Calls.mono R ?_; rintro e w1 ⟨rfl, rfl⟩)
  go_ret2
  exact ⟨rfl, rfl⟩
end Go.Proofs.Ytapfoefeplmgnaa
