/-
  Plain mathematics of leaps down two numbers' divisions by their heads (Collins' bound), and of the greatest common divisor. No conditions of the program.
-/
import Derived.Test.YtpcfelknjcggiaaNatMath
namespace Go.Proofs.Ytpcfelknjcggiaa

/-- X and Y are the heads of A and B: what is left below them is less than one of the heads' units. -/
def Heads (X Y A B : Int) : Prop := ∃ P α β : Int, 0 ≤ α ∧ α < P ∧ 0 ≤ β ∧ β < P ∧ A = X * P + α ∧ B = Y * P + β

/-- What a share is of two numbers, with its sign. -/
def shr (s a b A B : Int) : Int := s * (a * A - b * B)

/-- Where a leap stands. -/
structure Leap (X Y x y a b c d s : Int) : Prop where
  sg : s = 1 ∨ s = -1
  hx : x = shr s a b X Y
  hy : y = shr (-s) c d X Y
  hX : d * x + b * y = X
  y0 : 0 ≤ y
  yx : y ≤ x
  a0 : 0 ≤ a
  b0 : 0 ≤ b
  c0 : 0 ≤ c
  cd : c ≤ d
  bd : b ≤ d
  d1 : 1 ≤ d
  ab : a ≤ b ∨ (s = 1 ∧ a = 1 ∧ b = 0 ∧ c = 0 ∧ d = 1)
  g : ∀ A B : Int, Int.gcd (shr s a b A B) (shr (-s) c d A B) = Int.gcd A B
  u : (s = 1 ∧ c = 0 ∧ d = 1) ∨ ∀ A B : Int, Heads X Y A B → shr s a b A B ≤ B

theorem Leap.start {X Y : Int} (h0 : 0 ≤ Y) (h : Y ≤ X) : Leap X Y X Y 1 0 0 1 1 := by
  refine ⟨.inl rfl, ?_, ?_, ?_, h0, h, ?_, ?_, ?_, ?_, ?_, ?_, ?_, ?_, .inl ⟨rfl, rfl, rfl⟩⟩ <;> simp [shr]

/-- The bound: the next two are of the numbers themselves what they are of the heads. -/
theorem Leap.sure {X Y x y a b c d s A B : Int} (h : Leap X Y x y a b c d s) (h1 : d ≤ y) (h2 : b + d ≤ x - y) (hh : Heads X Y A B) :
    0 ≤ shr (-s) c d A B ∧ shr (-s) c d A B < shr s a b A B := by
  obtain ⟨P, α, β, α0, α1, β0, β1, rfl, rfl⟩ := hh
  obtain ⟨sg, hx, hy, -, -, -, a0, b0, c0, cd, bd, d1, ab, -, -⟩ := h
  have p1 : 0 ≤ (y - d) * P := Int.mul_nonneg (by omega) (by omega)
  have p2 : 0 ≤ (x - y - (b + d)) * P := Int.mul_nonneg (by omega) (by omega)
  rcases sg with rfl | rfl
  · have p3 : 0 ≤ (d - c) * α := Int.mul_nonneg (by omega) (by omega)
    have p4 : 0 ≤ d * (P - α) := Int.mul_nonneg (by omega) (by omega)
    have p5 : 0 ≤ d * β := Int.mul_nonneg (by omega) (by omega)
    have p6 : 0 < (b + d) * (P - β) := Int.mul_pos (by omega) (by omega)
    have p7 : 0 ≤ (a + c) * α := Int.mul_nonneg (by omega) (by omega)
    unfold shr at *
    subst hx hy
    grind
  · have : a ≤ b := by omega
    have p3 : 0 ≤ c * α := Int.mul_nonneg (by omega) (by omega)
    have p4 : 0 ≤ d * (P - β) := Int.mul_nonneg (by omega) (by omega)
    have p5 : 0 ≤ (b + d - (a + c)) * α := Int.mul_nonneg (by omega) (by omega)
    have p6 : 0 < (b + d) * (P - α) := Int.mul_pos (by omega) (by omega)
    have p7 : 0 ≤ (b + d) * β := Int.mul_nonneg (by omega) (by omega)
    unfold shr at *
    subst hx hy
    grind

theorem gcd_step (u v q : Int) : Int.gcd v (u - q * v) = Int.gcd u v := by
  rw [Int.gcd_comm v]
  rw [show u - q * v = u + (-q) * v by rw [Int.neg_mul]; omega]
  exact Int.gcd_add_mul_right_left _ _ _

/-- One step further down. -/
theorem Leap.next {X Y x y a b c d s : Int} (h : Leap X Y x y a b c d s) (h1 : d ≤ y) (h2 : b + d ≤ x - y) :
    Leap X Y y (x % y) c d (a + x / y * c) (b + x / y * d) (-s) := by
  have hs := fun A B => h.sure (A := A) (B := B) h1 h2
  obtain ⟨sg, hx, hy, hX, y0, yx, a0, b0, c0, cd, bd, d1, ab, g, u⟩ := h
  have q1 : 1 ≤ x / y := by
    rw [Int.le_ediv_iff_mul_le (by omega)]; omega
  have e : x % y = x - x / y * y := by rw [Int.mul_comm]; exact Int.emod_def x y
  have r0 := Int.emod_nonneg x (show y ≠ 0 by omega)
  have r1 := Int.emod_lt_of_pos x (show 0 < y by omega)
  generalize x / y = q at *
  generalize x % y = r at *
  have qc : 0 ≤ q * c := Int.mul_nonneg (by omega) (by omega)
  have qd : d ≤ q * d := by have : 0 ≤ (q - 1) * d := Int.mul_nonneg (by omega) (by omega); grind
  have qcd : q * c ≤ q * d := Int.mul_le_mul_of_nonneg_left cd (by omega)
  refine ⟨by omega, ?_, ?_, ?_, r0, by omega, c0, by omega, by omega, ?_, by omega, by omega, .inl cd, ?_, ?_⟩
  · exact hy
  · rw [e, hx, hy]; unfold shr; grind
  · rw [e, ← hX]; grind
  · rcases ab with ab | ⟨-, rfl, rfl, rfl, rfl⟩ <;> omega
  · intro A B
    have e2 : shr (- -s) (a + q * c) (b + q * d) A B = shr s a b A B - q * shr (-s) c d A B := by unfold shr; grind
    rw [e2, gcd_step, g]
  · right
    intro A B hh
    have := hs A B hh
    rcases u with ⟨rfl, rfl, rfl⟩ | u
    · simp [shr]
    · have := u A B hh; omega

/-- What a leap's numbers are not above. -/
theorem Leap.most {X Y x y a b c d s : Int} (h : Leap X Y x y a b c d s) (h1 : 1 ≤ x) : d ≤ X ∧ x ≤ X := by
  have p1 : 0 ≤ b * y := Int.mul_nonneg h.b0 h.y0
  have p2 : 0 ≤ (d - 1) * x := Int.mul_nonneg (by have := h.d1; omega) (by omega)
  have p3 : 0 ≤ d * (x - 1) := Int.mul_nonneg (by have := h.d1; omega) (by omega)
  have := h.hX
  constructor <;> grind
theorem Leap.sum {X Y x y a b c d s : Int} (h : Leap X Y x y a b c d s) (h1 : d ≤ y) : b + d ≤ X := by
  have := h.d1
  have := h.yx
  have p1 : 0 ≤ b * (y - 1) := Int.mul_nonneg h.b0 (by omega)
  have p3 : 0 ≤ d * (x - 1) := Int.mul_nonneg (by omega) (by omega)
  have := h.hX
  grind
theorem Leap.half {X Y x y a b c d s : Int} (h : Leap X Y x y a b c d s) (h1 : d ≤ y) (hX : X < 18446744073709551616) : d < 4294967296 := by
  have := h.d1
  have := h.yx
  have p1 : 0 ≤ b * y := Int.mul_nonneg h.b0 h.y0
  have p3 : 0 ≤ d * (x - d) := Int.mul_nonneg (by omega) (by omega)
  have e := h.hX
  rcases Int.lt_or_le d 4294967296 with h2 | h2
  · exact h2
  · have p4 : 0 ≤ (d - 4294967296) * (d + 4294967296) := Int.mul_nonneg (by omega) (by omega)
    grind

/-- What leaping answers, where it leaps: two shares below 2^32, of which the second one is less than the first one, that one not above B, and both have A's and B's common divisor. -/
def Leapt (X Y a b c d : Int) : Prop :=
  (0 ≤ a ∧ a < 4294967296) ∧ (0 ≤ b ∧ b < 4294967296) ∧ (0 ≤ c ∧ c < 4294967296) ∧ (0 ≤ d ∧ d < 4294967296) ∧
  ∀ A B : Nat, Heads X Y A B → Nat.gcd (a * A - b * B).natAbs (c * A - d * B).natAbs = Nat.gcd A B ∧ (c * A - d * B).natAbs < (a * A - b * B).natAbs ∧ (a * A - b * B).natAbs ≤ B

theorem natAbs_shr {s a b A B : Int} (h : s = 1 ∨ s = -1) : (shr s a b A B).natAbs = (a * A - b * B).natAbs := by
  unfold shr; rcases h with rfl | rfl <;> omega

theorem Leap.leapt {X Y x y a b c d s : Int} (h : Leap X Y x y a b c d s) (h1 : d ≤ y) (h2 : b + d ≤ x - y) (hX : X < 18446744073709551616) (hc : c ≠ 0) : Leapt X Y a b c d := by
  have hd := h.half h1 hX
  have hs := fun A B => h.sure (A := A) (B := B) h1 h2
  obtain ⟨sg, -, -, -, -, -, a0, b0, c0, cd, bd, d1, ab, g, u⟩ := h
  have u := u.resolve_left (by omega)
  refine ⟨by omega, by omega, by omega, by omega, fun A B hh => ?_⟩
  have g := g A B
  have u := u A B hh
  have hs := hs A B hh
  unfold Int.gcd at g
  rw [natAbs_shr sg, natAbs_shr (by omega)] at g
  have e1 := natAbs_shr (a := a) (b := b) (A := A) (B := B) sg
  have e2 := natAbs_shr (s := -s) (a := c) (b := d) (A := A) (B := B) (by omega)
  refine ⟨by simpa using g, by omega, by omega⟩
end Go.Proofs.Ytpcfelknjcggiaa
