/-
  Contract of package split's function firstGuess, for every two lists of words: a digit's first guess is not less than the right one. Memory that was there stays.
-/
import Derived.Test.YtapfoefeplmgnaaSplitA
import Derived.Deep.RegionWith
import Derived.Deep.DrawnRows
namespace Go.Proofs.Ytapfoefeplmgnaa
open Go.RowKit

/-- By the highest words a digit is not more than the guess. -/
theorem guess_le {ss ys : List Int} {t n : Nat} {h1 h0 b1 : Int} (hs : Wd ss) (hb : 0 < b1) (e1 : ss.getD (t + n + 1) 0 = h1) (e0 : ss.getD (t + n) 0 = h0) (eb : ys.getD n 0 = b1) (hl : ys.length = n + 1) (hv : val ss < 4294967296 ^ (t + (n + 1) + 1))
    (q : Nat) (hq : q * val ys * 4294967296 ^ t ≤ val ss) : (q : Int) ≤ (h1 * 4294967296 + h0) / b1 := by
  have w1 := wd_getD hs (t + n + 1)
  have w0 := wd_getD hs (t + n)
  rw [e1] at w1
  rw [e0] at w0
  have s1 : val ss = val (ss.take (t + n)) + (h0.toNat + 4294967296 * h1.toNat) * 4294967296 ^ (t + n) := by
    have a1 := val_take_all ss (t + n + 1 + 1) (by rw [show t + n + 1 + 1 = t + (n + 1) + 1 by omega]; exact hv)
    rw [val_take_succ, val_take_succ, e1, e0, Nat.pow_succ] at a1
    rw [← a1, Nat.add_mul, Nat.mul_comm (4294967296 ^ (t + n)), ← Nat.mul_assoc, Nat.mul_comm h1.toNat]
    omega
  have s2 := val_take_lt ss hs (t + n)
  have s3 : b1.toNat * 4294967296 ^ n ≤ val ys := by
    have a1 : ys.take (n + 1) = ys := List.take_of_length_le (by omega)
    have a2 := val_take_succ ys n
    rw [a1, eb] at a2
    omega
  have s4 : q * b1.toNat * 4294967296 ^ (t + n) ≤ val ss := by
    refine Nat.le_trans ?_ hq
    rw [Nat.pow_add, Nat.mul_comm (4294967296 ^ t), ← Nat.mul_assoc, Nat.mul_assoc q]
    exact Nat.mul_le_mul_right _ (Nat.mul_le_mul_left _ s3)
  have s5 : q * b1.toNat * 4294967296 ^ (t + n) < (h0.toNat + 4294967296 * h1.toNat + 1) * 4294967296 ^ (t + n) := by
    rw [Nat.add_mul (h0.toNat + 4294967296 * h1.toNat) 1]
    omega
  have s6 := Nat.lt_of_mul_lt_mul_right s5
  rw [Int.le_ediv_iff_mul_le hb]
  have s7 : (q : Int) * b1 = ((q * b1.toNat : Nat) : Int) := by
    rw [Int.natCast_mul, Int.toNat_of_nonneg (by omega)]
  rw [s7]
  omega

section
attribute [local go_sem ↓] Go.wp_at_zero Go.wp_at_succ
set_option maxHeartbeats 2000000 in
theorem split_guess (W : World) (g M t n N c C : Nat) (ss : List Int) (a : Option Addr) (ys : List Int) (w : World) (o : Own W w (.slice (some ⟨g, 0, none⟩) M M) M ss) (wS : Wd ss)
    (h : IsWords w (.slice a N c) ys) (hz : Wd ys) (hN : N = n + 1) (hM : t + N + 1 ≤ M) (hM2 : M ≤ 35184372088832) (hv : val ss < 4294967296 ^ (t + N + 1)) (htop : ys.getD n 0 ≠ 0) :
    Calls Try.prog 48 #[.slice (some ⟨g, t, none⟩) (N + 1) C, .slice a N c] w fun e w' => ∃ G : Int, e = .returned (.int .u32 G) ∧ 0 ≤ G ∧ G < 4294967296 ∧ Below w.heap.size w w' ∧
      ∀ q : Nat, q < 4294967296 → q * val ys * 4294967296 ^ t ≤ val ss → (q : Int) ≤ G := by
  obtain ⟨z0, z1⟩ := wd_getD hz n
  have hG := fun h1 h0 b1 hb e1 e0 eb => guess_le (ss := ss) (ys := ys) (t := t) (n := n) (h1 := h1) (h0 := h0) (b1 := b1) wS hb e1 e0 eb (by rw [h.len, hN]) (by rw [← hN]; exact hv)
  have hc1 := (o.cell (t + N) (by omega)).1
  have hc0 := (o.cell (t + n) (by omega)).1
  obtain ⟨x0, x1⟩ := wd_getD wS (t + N)
  obtain ⟨y0, y1⟩ := wd_getD wS (t + n)
  rcases h.reads.1.2 with h0 | ⟨b, off, rfl, hcz⟩
  · omega
  have hcb := hcz n (by omega)
  clear hcz h hz hv wS o
  generalize ys.getD n 0 = bt at hcb hG z0 z1 htop
  have eN : t + n + 1 = t + N := by omega
  rw [eN] at hG
  generalize ss.getD (t + N) 0 = h1 at hc1 hG x0 x1
  generalize ss.getD (t + n) 0 = h0 at hc0 hG y0 y1
  have HG := hG _ _ _ (by omega) rfl rfl rfl
  clear hG
  have e1 : (N : Int) - 1 = n := by omega
  have n1 : n < N := by omega
  have n2 : N < N + 1 := by omega
  have n3 : n < N + 1 := by omega
  have n4 : n ≤ N := by omega
  have n5 : (n : Int) < (N : Int) + 1 := by omega
  have n7 : IntKind.i64.wrap (n : Int) = n := by rw [IntKind.wrap_i64]; omega
  clear hN eN
  have D1 : w.drew.cell? ⟨g, t + N, none⟩ = some (.int .u32 h1) := hc1
  have D0 : w.drew.cell? ⟨g, t + n, none⟩ = some (.int .u32 h0) := hc0
  have DB : w.drew.cell? ⟨b, off + n, none⟩ = some (.int .u32 bt) := hcb
  have AC : Calls Try.prog 36 #[.int .u32 h1, .int .u32 h0, .int .u32 bt] w.drew fun e w' => ∃ (G R : Int) (ok : Bool), e = .returned (.tuple #[.int .u32 G, .int .u32 R, .bool ok]) ∧ Below w.heap.size w w' ∧
      (ok = false ∨ ok = true ∧ 0 ≤ G ∧ G < 4294967296 ∧ Hid (∀ q : Nat, q * val ys * 4294967296 ^ t ≤ val ss → (q : Int) ≤ G)) := by
    by_cases hlt : h1 < bt
    · have q0 : 0 ≤ (h1 * 4294967296 + h0) / bt := Int.ediv_nonneg (by omega) (by omega)
      have q1 : (h1 * 4294967296 + h0) / bt < 4294967296 := Int.ediv_lt_of_lt_mul (by omega) (by omega)
      refine (limb_div h1 h0 bt w.drew x0 hlt y0 y1 z1).mono ?_
      rintro e w3 ⟨rfl, b3⟩
      exact ⟨_, _, _, rfl, (Below.refl _ w).drew.trans b3, .inr ⟨rfl, q0, q1, HG⟩⟩
    · refine (limb_div_no h1 h0 bt w.drew (by omega)).mono ?_
      rintro e w3 ⟨rfl, b3⟩
      exact ⟨_, _, _, rfl, (Below.refl _ w).drew.trans b3, .inl rfl⟩
  clear HG hc0 hc1 hcb
  go_enter Try.func48, Try.ntmps48
  go_wp2
  go_region_with (first
    | (go_at_call 36; with_reducible refine Calls.mono AC ?_; rintro e w3 ⟨G, R, ok, rfl, b3, hok⟩))
  all_goals
    rcases hok with rfl | ⟨rfl, q0, q1, HH⟩
    · go_wp2
      go_ret
      exact ⟨4294967295, rfl, by omega, by omega, b3, fun q hq _ => by omega⟩
    · go_wp2
      go_ret
      exact ⟨G, rfl, q0, q1, b3, fun q _ hq => HH.out q hq⟩
end
end Go.Proofs.Ytapfoefeplmgnaa
