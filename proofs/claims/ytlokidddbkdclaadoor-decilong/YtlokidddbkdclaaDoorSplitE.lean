/-
  Contract of package split's function Div, for every two lists of words: what goes in and what is left, as numbers, or that it can't be told. Memory that was there stays, and what is answered is the call's own.
-/
import Derived.Test.YtlokidddbkdclaaDoorSplitD
import Derived.Test.YtlokidddbkdclaaDoorTimesD
import Derived.Test.YtlokidddbkdclaaDoorNatCmp
namespace Go.Proofs.YtlokidddbkdclaaDoor
open Go.RowKit

/-- What Div answers: two slices of the call's own, the lists of Q and R. -/
def AnsDiv (W : World) (Q R : Nat) (e : Ending) (w' : World) : Prop := ∃ a1 c1 a2 c2, e = .returned (.tuple #[.slice a1 (nl Q) c1, .slice a2 (nl R) c2, .bool true]) ∧ Own W w' (.slice a1 (nl Q) c1) (nl Q) (natOf Q) ∧ Own W w' (.slice a2 (nl R) c2) (nl R) (natOf R)

theorem pow_le_nl {D n : Nat} (h : nl D = n + 1) : 4294967296 ^ n ≤ D := by
  rcases Nat.lt_or_ge D (4294967296 ^ n) with h1 | h1
  · have := nl_le n D h1; omega
  · exact h1

theorem nl_eq_zero {n : Nat} (h : nl n = 0) : n = 0 := by
  have := lt_nl n
  rw [h] at this
  simpa using this

/-- A quotient's words. -/
theorem quot_lt {A D L n : Nat} (hA : A < 4294967296 ^ L) (hD : nl D = n + 1) (k : Nat) (hk : L ≤ k + n) : A / D < 4294967296 ^ k := by
  have h1 := pow_le_nl hD
  rw [Nat.div_lt_iff_lt_mul (by have : 0 < 4294967296 ^ n := Nat.pow_pos (by omega); omega)]
  have h2 : 4294967296 ^ k * 4294967296 ^ n ≤ 4294967296 ^ k * D := Nat.mul_le_mul_left _ h1
  rw [← Nat.pow_add] at h2
  have h3 : 4294967296 ^ L ≤ 4294967296 ^ (k + n) := Nat.pow_le_pow_right (by omega) hk
  omega

/-- The bits that bring a number's highest one into its word's highest place. -/
theorem up_fits {D n : Nat} (hD : nl D = n + 1) : ∃ u v : Nat, 1 ≤ v ∧ v ≤ 32 ∧ u + v = 32 ∧ nbits ((natOf D).getD n 0).toNat = v ∧ nl (D * 2 ^ u) = n + 1 := by
  have h0 := getD_top D n hD
  obtain ⟨z0, z1⟩ := wd_getD (wd_natOf D) n
  have h1 : nbits ((natOf D).getD n 0).toNat ≤ 32 := nbits_le 32 _ (by omega)
  have h2 : 1 ≤ nbits ((natOf D).getD n 0).toNat := by rw [nbits_pos (by omega)]; omega
  have h3 := nbits_top (natOf D) (wd_natOf D) n (by have := right_nat D; rw [show (natOf D).length = nl D from rfl, this, hD])
  rw [val_natOf] at h3
  refine ⟨32 - nbits ((natOf D).getD n 0).toNat, nbits ((natOf D).getD n 0).toNat, h2, h1, by omega, rfl, ?_⟩
  generalize nbits ((natOf D).getD n 0).toNat = v at *
  have h4 : nl D ≤ nl (D * 2 ^ (32 - v)) := nl_mono (Nat.le_mul_of_pos_right _ (Nat.pow_pos (by omega)))
  have h5 : nl (D * 2 ^ (32 - v)) ≤ n + 1 := by
    refine nl_le _ _ ?_
    have h6 := lt_nbits D
    rw [h3] at h6
    have h7 : D * 2 ^ (32 - v) < 2 ^ (32 * n + v) * 2 ^ (32 - v) := Nat.mul_lt_mul_of_pos_right h6 (Nat.pow_pos (by omega))
    rw [← Nat.pow_add] at h7
    rw [pow_word, show 32 * (n + 1) = 32 * n + v + (32 - v) by omega]
    exact h7
  omega

/-- Two slices of which one was made behind the other. -/
theorem own_apart {V w w' : World} {g n c : Nat} {xs : List Int} {a : Option Addr} {m d : Nat} {ys : List Int} (h : Own V w (.slice (some ⟨g, 0, none⟩) n c) n xs) (k : Own w w' (.slice a m d) m ys) (hn : 0 < n) (hm : 0 < m) : Apart g a := by
  obtain ⟨g', rfl⟩ := k.at0 hm
  have h1 := (h.cell 0 hn).2.2.2
  have h2 := (k.cell 0 hm).2.2.1
  intro x hx
  simp only [Option.some.injEq] at hx
  rw [← hx]
  show g' ≠ g
  omega

theorem div_up (A D k : Nat) (hk : 0 < k) : A * k = A / D * (D * k) + A % D * k ∧ (0 < D → A % D * k < D * k) ∧ A % D * k / k = A % D := by
  refine ⟨?_, fun hD => Nat.mul_lt_mul_of_pos_right (Nat.mod_lt _ hD) hk, Nat.mul_div_cancel _ hk⟩
  rw [← Nat.mul_assoc, ← Nat.add_mul, Nat.mul_comm (A / D), Nat.div_add_mod]

end Go.Proofs.YtlokidddbkdclaaDoor
