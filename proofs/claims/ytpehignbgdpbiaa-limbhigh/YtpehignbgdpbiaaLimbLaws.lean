/-
  The walks of the statements over package limb alone: LimbAdds, LimbMuls, LimbDivs, LimbBack, LimbWhole return true for all words; memory that was there stays.
-/
import Derived.Test.YtpehignbgdpbiaaLimbAwake
import Derived.OpenShut
namespace Go.Proofs.Ytpehignbgdpbiaa
open Go.RowKit

theorem wf_u32 {a : Int} (h : (Lit.int .u32 a).wf = true) : 0 ≤ a ∧ a < 4294967296 := by
  simp [Lit.wf, IntKind.min, IntKind.max, IntKind.signed, IntKind.bits] at h; omega

set_option maxHeartbeats 1000000 in
theorem law_LimbAdds (a b c : Int) (h0 : (Lit.int .u32 a).wf = true) (h1 : (Lit.int .u32 b).wf = true) (h2 : (Lit.int .u32 c).wf = true) (w : World) :
    Calls Try.prog 3 #[.int .u32 a, .int .u32 b, .int .u32 c] w fun e w' => e = .returned (.bool true) ∧ Below w.heap.size w w' := by
  obtain ⟨a0, a1⟩ := wf_u32 h0
  obtain ⟨b0, b1⟩ := wf_u32 h1
  obtain ⟨c0, c1⟩ := wf_u32 h2
  clear h0 h1 h2
  go_enter Try.func3, Try.ntmps3
  go_wp2_with (first
    | (go_at_call 10; refine (limb_awake _).mono ?_; rintro e w0 ⟨rfl, x0⟩)
    | (go_at_call 11; refine (limb_add a b c _ a0 a1 b0 b1 c0 c1).mono ?_; rintro e w1 ⟨rfl, x1⟩)
    | (go_at_call 13; refine (limb_sub a b c _ a0 a1 b0 b1 c0 c1).mono ?_; rintro e w2 ⟨rfl, x2⟩)
    | (go_at_call 12; refine (ref_add a b c _ a0 a1 b0 b1 c0 c1).mono ?_; rintro e w3 ⟨rfl, rfl⟩)
    | (go_at_call 14; refine (ref_sub a b c _ a0 a1 b0 b1 c0 c1).mono ?_; rintro e w4 ⟨rfl, rfl⟩))
  go_ret
  exact ⟨rfl, below_more (below_more x0 x1) x2⟩

set_option maxHeartbeats 1000000 in
theorem law_LimbMuls (a b c d : Int) (h0 : (Lit.int .u32 a).wf = true) (h1 : (Lit.int .u32 b).wf = true) (h2 : (Lit.int .u32 c).wf = true) (h3 : (Lit.int .u32 d).wf = true) (w : World) :
    Calls Try.prog 4 #[.int .u32 a, .int .u32 b, .int .u32 c, .int .u32 d] w fun e w' => e = .returned (.bool true) ∧ Below w.heap.size w w' := by
  obtain ⟨a0, a1⟩ := wf_u32 h0
  obtain ⟨b0, b1⟩ := wf_u32 h1
  obtain ⟨c0, c1⟩ := wf_u32 h2
  obtain ⟨d0, d1⟩ := wf_u32 h3
  clear h0 h1 h2 h3
  go_enter Try.func4, Try.ntmps4
  go_wp2_with (first
    | (go_at_call 10; refine (limb_awake _).mono ?_; rintro e w0 ⟨rfl, x0⟩)
    | (go_at_call 15; refine (limb_mul a b c d _ a0 a1 b0 b1 c0 c1 d0 d1).mono ?_; rintro e w1 ⟨rfl, x1⟩)
    | (go_at_call 16; refine (ref_mul a b c d _ a0 a1 b0 b1 c0 c1 d0 d1).mono ?_; rintro e w3 ⟨rfl, rfl⟩))
  go_ret
  exact ⟨rfl, below_more x0 x1⟩

set_option maxHeartbeats 1000000 in
theorem law_LimbDivs (a b d : Int) (h0 : (Lit.int .u32 a).wf = true) (h1 : (Lit.int .u32 b).wf = true) (h2 : (Lit.int .u32 d).wf = true) (w : World) :
    Calls Try.prog 5 #[.int .u32 a, .int .u32 b, .int .u32 d] w fun e w' => e = .returned (.bool true) ∧ Below w.heap.size w w' := by
  obtain ⟨a0, a1⟩ := wf_u32 h0
  obtain ⟨b0, b1⟩ := wf_u32 h1
  obtain ⟨d0, d1⟩ := wf_u32 h2
  clear h0 h1 h2
  by_cases h : d ≤ a
  · go_enter Try.func5, Try.ntmps5
    go_wp2_with (first
      | (go_at_call 10; refine (limb_awake _).mono ?_; rintro e w0 ⟨rfl, x0⟩)
      | (go_at_call 17; refine (limb_div_no a b d _ h).mono ?_; rintro e w1 ⟨rfl, x1⟩)
      | (go_at_call 18; refine (ref_div_no a b d _ h).mono ?_; rintro e w3 ⟨rfl, rfl⟩))
    go_ret
    exact ⟨rfl, below_more x0 x1⟩
  · obtain ⟨A, rfl⟩ : ∃ A : Nat, a = A := ⟨a.toNat, by omega⟩
    obtain ⟨B, rfl⟩ : ∃ B : Nat, b = B := ⟨b.toNat, by omega⟩
    obtain ⟨D, rfl⟩ : ∃ D : Nat, d = D := ⟨d.toNat, by omega⟩
    go_enter Try.func5, Try.ntmps5
    go_wp2_with (first
      | (go_at_call 10; refine (limb_awake _).mono ?_; rintro e w0 ⟨rfl, x0⟩)
      | (go_at_call 17; refine (limb_div A B D _ a0 (by omega) b0 b1 d1).mono ?_; rintro e w1 ⟨rfl, x1⟩)
      | (go_at_call 18; refine (ref_div A B D _ (by omega) (by omega) (by omega)).mono ?_; rintro e w3 ⟨rfl, rfl⟩))
    go_ret
    exact ⟨rfl, below_more x0 x1⟩

set_option maxHeartbeats 1000000 in
theorem law_LimbBack (a b c : Int) (h0 : (Lit.int .u32 a).wf = true) (h1 : (Lit.int .u32 b).wf = true) (h2 : (Lit.int .u32 c).wf = true) (w : World) :
    Calls Try.prog 7 #[.int .u32 a, .int .u32 b, .int .u32 c] w fun e w' => e = .returned (.bool true) ∧ Below w.heap.size w w' := by
  obtain ⟨a0, a1⟩ := wf_u32 h0
  obtain ⟨b0, b1⟩ := wf_u32 h1
  obtain ⟨c0, c1⟩ := wf_u32 h2
  clear h0 h1 h2
  have e1 : ((a + b + c) % 4294967296 - b - c) % 4294967296 = a := by omega
  have e2 : -(((a + b + c) % 4294967296 - b - c) / 4294967296) = (a + b + c) / 4294967296 := by omega
  have e3 : c + a + b = a + b + c := by omega
  have e4 : ((a - b - c) % 4294967296 + b + c) % 4294967296 = a := by omega
  have e5 : ((a - b - c) % 4294967296 + b + c) / 4294967296 = -((a - b - c) / 4294967296) := by omega
  have e6 : (a + b + c) / 4294967296 ≤ 2 := by omega
  go_enter Try.func7, Try.ntmps7
  go_wp2_with (first
    | (go_at_call 10; refine (limb_awake _).mono ?_; rintro e w0 ⟨rfl, x0⟩)
    | (go_at_call 11; refine (limb_add _ _ _ _ (by omega) (by omega) (by omega) (by omega) (by omega) (by omega)).mono ?_; rintro e w1 ⟨rfl, y⟩; replace x0 := below_more x0 y; clear y)
    | (go_at_call 13; refine (limb_sub _ _ _ _ (by omega) (by omega) (by omega) (by omega) (by omega) (by omega)).mono ?_; rintro e w1 ⟨rfl, y⟩; replace x0 := below_more x0 y; clear y))
  go_ret
  exact ⟨rfl, x0⟩

theorem limb_mul_eq (a b c d H L : Int) (w : World) (h0 : 0 ≤ a) (h1 : a < 4294967296) (h2 : 0 ≤ b) (h3 : b < 4294967296) (h4 : 0 ≤ c) (h5 : c < 4294967296) (h6 : 0 ≤ d) (h7 : d < 4294967296)
    (e : a * b + c + d = H * 4294967296 + L) (l0 : 0 ≤ L) (l1 : L < 4294967296) :
    Calls Try.prog 15 #[.int .u32 a, .int .u32 b, .int .u32 c, .int .u32 d] w fun e w' => e = .returned (.tuple #[.int .u32 H, .int .u32 L]) ∧ Below w.heap.size w w' := by
  have m := limb_mul a b c d w h0 h1 h2 h3 h4 h5 h6 h7
  rw [e, show (H * 4294967296 + L) / 4294967296 = H by omega, show (H * 4294967296 + L) % 4294967296 = L by omega] at m
  exact m

theorem limb_div_eq (a b d Q R : Int) (w : World) (h0 : 0 ≤ a) (h1 : a < d) (h2 : 0 ≤ b) (h3 : b < 4294967296) (h5 : d < 4294967296)
    (e : Q * d + R = a * 4294967296 + b) (r0 : 0 ≤ R) (r1 : R < d) :
    Calls Try.prog 17 #[.int .u32 a, .int .u32 b, .int .u32 d] w fun e w' => e = .returned (.tuple #[.int .u32 Q, .int .u32 R, .bool true]) ∧ Below w.heap.size w w' := by
  have m := limb_div a b d w h0 h1 h2 h3 h5
  have q : (a * 4294967296 + b) / d = Q := by
    rw [← e, Int.add_comm, Int.add_mul_ediv_right _ _ (by omega), Int.ediv_eq_zero_of_lt r0 r1]; omega
  have r : (a * 4294967296 + b) % d = R := by
    rw [← e, Int.add_comm, Int.add_mul_emod_self_right, Int.emod_eq_of_lt r0 r1]
  rw [q, r] at m
  exact m

theorem whole_div {a b l : Int} (a0 : 0 ≤ a) (l0 : 0 ≤ l) (l1 : l < 4294967296) (h : a < b) :
    ∃ Q R, 0 ≤ Q ∧ Q < 4294967296 ∧ 0 ≤ R ∧ R < b ∧ Q * b + R = a * 4294967296 + l := by
  refine ⟨(a * 4294967296 + l) / b, (a * 4294967296 + l) % b, Int.ediv_nonneg (by omega) (by omega), Int.ediv_lt_of_lt_mul (by omega) (by omega), Int.emod_nonneg _ (by omega), Int.emod_lt_of_pos _ (by omega), ?_⟩
  rw [Int.mul_comm]; exact Int.mul_ediv_add_emod _ _

theorem whole_mul {a b c : Int} (a0 : 0 ≤ a) (a1 : a < 4294967296) (b0 : 0 ≤ b) (b1 : b < 4294967296) (c0 : 0 ≤ c) (c1 : c < 4294967296) :
    ∃ H L, 0 ≤ H ∧ H < 4294967296 ∧ 0 ≤ L ∧ L < 4294967296 ∧ a * b + c = H * 4294967296 + L ∧ (c < b → H < b) := by
  have m0 : 0 ≤ a * b := Int.mul_nonneg a0 b0
  have m1 : a * b ≤ 4294967295 * b := Int.mul_le_mul_of_nonneg_right (by omega) (by omega)
  exact ⟨(a * b + c) / 4294967296, (a * b + c) % 4294967296, by omega, by omega, by omega, by omega, by omega, by omega⟩

set_option maxHeartbeats 1000000 in
theorem law_LimbWhole (a b c l : Int) (h0 : (Lit.int .u32 a).wf = true) (h1 : (Lit.int .u32 b).wf = true) (h2 : (Lit.int .u32 c).wf = true) (h3 : (Lit.int .u32 l).wf = true) (w : World) :
    Calls Try.prog 8 #[.int .u32 a, .int .u32 b, .int .u32 c, .int .u32 l] w fun e w' => e = .returned (.bool true) ∧ Below w.heap.size w w' := by
  obtain ⟨a0, a1⟩ := wf_u32 h0
  obtain ⟨b0, b1⟩ := wf_u32 h1
  obtain ⟨c0, c1⟩ := wf_u32 h2
  obtain ⟨l0, l1⟩ := wf_u32 h3
  clear h0 h1 h2 h3
  obtain ⟨H, L, H0, H1, L0, L1, eq, Hb⟩ := whole_mul a0 a1 b0 b1 c0 c1
  have EQ : Hid (a * b + c = H * 4294967296 + L) := eq
  clear eq
  by_cases hcb : c < b
  · have Hb := Hb hcb
    by_cases hab : a < b
    · obtain ⟨Q, R, Q0, Q1, R0, R1, eq⟩ := whole_div a0 l0 l1 hab
      have EQ2 : Hid (Q * b + R = a * 4294967296 + l) := eq
      clear eq
      have M1 := fun v => limb_mul_eq a b c 0 H L v a0 a1 b0 b1 c0 c1 (by omega) (by omega) (by have := EQ.out; omega) L0 L1
      have D1 := fun v => limb_div_eq H L b a c v H0 Hb L0 L1 b1 EQ.out c0 hcb
      have D2 := fun v => limb_div_eq a l b Q R v a0 hab l0 l1 b1 EQ2.out R0 R1
      have M2 := fun v => limb_mul_eq Q b R 0 a l v Q0 Q1 b0 b1 R0 (by omega) (by omega) (by omega) (by have := EQ2.out; omega) l0 l1
      go_enter Try.func8, Try.ntmps8
      go_wp2_with (first
        | (go_at_call 10; refine (limb_awake _).mono ?_; rintro e w0 ⟨rfl, x0⟩)
        | (go_at_call 15; with_reducible refine Calls.mono (M1 _) ?_; rintro e w1 ⟨rfl, y⟩; replace x0 := below_more x0 y; clear y)
        | (go_at_call 17; with_reducible refine Calls.mono (D1 _) ?_; rintro e w1 ⟨rfl, y⟩; replace x0 := below_more x0 y; clear y)
        | (go_at_call 17; with_reducible refine Calls.mono (D2 _) ?_; rintro e w1 ⟨rfl, y⟩; replace x0 := below_more x0 y; clear y)
        | (go_at_call 15; with_reducible refine Calls.mono (M2 _) ?_; rintro e w1 ⟨rfl, y⟩; replace x0 := below_more x0 y; clear y))
      go_ret
      exact ⟨rfl, x0⟩
    · have M1 := fun v => limb_mul_eq a b c 0 H L v a0 a1 b0 b1 c0 c1 (by omega) (by omega) (by have := EQ.out; omega) L0 L1
      have D1 := fun v => limb_div_eq H L b a c v H0 Hb L0 L1 b1 EQ.out c0 hcb
      have DN := fun v => limb_div_no a l b v (by omega : b ≤ a)
      go_enter Try.func8, Try.ntmps8
      go_wp2_with (first
        | (go_at_call 10; refine (limb_awake _).mono ?_; rintro e w0 ⟨rfl, x0⟩)
        | (go_at_call 15; with_reducible refine Calls.mono (M1 _) ?_; rintro e w1 ⟨rfl, y⟩; replace x0 := below_more x0 y; clear y)
        | (go_at_call 17; with_reducible refine Calls.mono (D1 _) ?_; rintro e w1 ⟨rfl, y⟩; replace x0 := below_more x0 y; clear y)
        | (go_at_call 17; with_reducible refine Calls.mono (DN _) ?_; rintro e w1 ⟨rfl, y⟩; replace x0 := below_more x0 y; clear y))
      go_ret
      exact ⟨rfl, x0⟩
  · by_cases hab : a < b
    · obtain ⟨Q, R, Q0, Q1, R0, R1, eq⟩ := whole_div a0 l0 l1 hab
      have EQ2 : Hid (Q * b + R = a * 4294967296 + l) := eq
      clear eq
      have M1 := fun v => limb_mul_eq a b c 0 H L v a0 a1 b0 b1 c0 c1 (by omega) (by omega) (by have := EQ.out; omega) L0 L1
      have D2 := fun v => limb_div_eq a l b Q R v a0 hab l0 l1 b1 EQ2.out R0 R1
      have M2 := fun v => limb_mul_eq Q b R 0 a l v Q0 Q1 b0 b1 R0 (by omega) (by omega) (by omega) (by have := EQ2.out; omega) l0 l1
      go_enter Try.func8, Try.ntmps8
      go_wp2_with (first
        | (go_at_call 10; refine (limb_awake _).mono ?_; rintro e w0 ⟨rfl, x0⟩)
        | (go_at_call 15; with_reducible refine Calls.mono (M1 _) ?_; rintro e w1 ⟨rfl, y⟩; replace x0 := below_more x0 y; clear y)
        | (go_at_call 17; with_reducible refine Calls.mono (D2 _) ?_; rintro e w1 ⟨rfl, y⟩; replace x0 := below_more x0 y; clear y)
        | (go_at_call 15; with_reducible refine Calls.mono (M2 _) ?_; rintro e w1 ⟨rfl, y⟩; replace x0 := below_more x0 y; clear y))
      go_ret
      exact ⟨rfl, x0⟩
    · have M1 := fun v => limb_mul_eq a b c 0 H L v a0 a1 b0 b1 c0 c1 (by omega) (by omega) (by have := EQ.out; omega) L0 L1
      have DN := fun v => limb_div_no a l b v (by omega : b ≤ a)
      go_enter Try.func8, Try.ntmps8
      go_wp2_with (first
        | (go_at_call 10; refine (limb_awake _).mono ?_; rintro e w0 ⟨rfl, x0⟩)
        | (go_at_call 15; with_reducible refine Calls.mono (M1 _) ?_; rintro e w1 ⟨rfl, y⟩; replace x0 := below_more x0 y; clear y)
        | (go_at_call 17; with_reducible refine Calls.mono (DN _) ?_; rintro e w1 ⟨rfl, y⟩; replace x0 := below_more x0 y; clear y))
      go_ret
      exact ⟨rfl, x0⟩

end Go.Proofs.Ytpehignbgdpbiaa
