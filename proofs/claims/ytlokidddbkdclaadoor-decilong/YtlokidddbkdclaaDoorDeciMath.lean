/-
  Plain mathematics of decimal digits: the digits of a number, the number of digits, and how both belong together. No conditions of the program.
-/
import Derived.Test.YtlokidddbkdclaaDoorNatMath
namespace Go.Proofs.YtlokidddbkdclaaDoor

/-- A list is built at its end. -/
theorem snoc_ind {α : Type} {p : List α → Prop} (h0 : p []) (h1 : ∀ l a, p l → p (l ++ [a])) (l : List α) : p l := by
  rw [← List.reverse_reverse l]
  induction l.reverse with
  | nil => exact h0
  | cons a m ih => rw [List.reverse_cons]; exact h1 _ _ ih

/-- The digits of a number, the highest one first; none of 0. -/
def dg (n : Nat) : List UInt8 := if n = 0 then [] else dg (n / 10) ++ [UInt8.ofNat (48 + n % 10)]
/-- The text of a number. -/
def decOf (n : Nat) : List UInt8 := if n = 0 then [48] else dg n
/-- The number of digits, the highest one first. -/
def valD (l : List UInt8) : Nat := l.foldl (fun a c => 10 * a + (c.toNat - 48)) 0
/-- All are digits. -/
abbrev DigS (l : List UInt8) : Prop := ∀ c ∈ l, 48 ≤ c.toNat ∧ c.toNat ≤ 57
/-- A text that is a number's. -/
abbrev Num (l : List UInt8) : Prop := l ≠ [] ∧ DigS l ∧ (l.head? = some 48 → l.length ≤ 1)

theorem dg_zero : dg 0 = [] := by unfold dg; simp
theorem dg_pos {n : Nat} (h : 0 < n) : dg n = dg (n / 10) ++ [UInt8.ofNat (48 + n % 10)] := by
  conv => lhs; unfold dg
  rw [if_neg (by omega)]
theorem decOf_zero : decOf 0 = [48] := rfl
theorem decOf_pos {n : Nat} (h : 0 < n) : decOf n = dg n := if_neg (by omega)
theorem digit_nat (n : Nat) : (UInt8.ofNat (48 + n % 10)).toNat = 48 + n % 10 := by
  simp; omega
theorem valD_nil : valD [] = 0 := rfl
theorem valD_snoc (l : List UInt8) (c : UInt8) : valD (l ++ [c]) = 10 * valD l + (c.toNat - 48) := by
  unfold valD; rw [List.foldl_append]; rfl
theorem valD_append (l m : List UInt8) : valD (l ++ m) = valD l * 10 ^ m.length + valD m := by
  refine snoc_ind (p := fun m => valD (l ++ m) = valD l * 10 ^ m.length + valD m) ?_ ?_ m
  · simp [valD_nil]
  · intro m c ih
    rw [← List.append_assoc, valD_snoc, ih, valD_snoc, List.length_append, List.length_singleton, Nat.pow_succ]; grind
theorem valD_one (c : UInt8) : valD [c] = c.toNat - 48 := by rw [← List.nil_append [c], valD_snoc, valD_nil]; omega
theorem valD_cons (c : UInt8) (l : List UInt8) : valD (c :: l) = (c.toNat - 48) * 10 ^ l.length + valD l := by
  rw [show c :: l = [c] ++ l from rfl, valD_append, valD_one]
theorem valD_dg (n : Nat) : valD (dg n) = n := by
  induction n using Nat.strongRecOn with
  | ind n ih =>
    rcases Nat.eq_zero_or_pos n with rfl | h
    · rw [dg_zero]; rfl
    · rw [dg_pos h, valD_snoc, ih _ (by omega), digit_nat]; omega
theorem valD_decOf (n : Nat) : valD (decOf n) = n := by
  rcases Nat.eq_zero_or_pos n with rfl | h
  · rfl
  · rw [decOf_pos h, valD_dg]
theorem digS_append {l m : List UInt8} : DigS (l ++ m) ↔ DigS l ∧ DigS m := by
  unfold DigS; simp only [List.mem_append]
  exact ⟨fun h => ⟨fun c hc => h c (.inl hc), fun c hc => h c (.inr hc)⟩, fun h c hc => hc.elim (h.1 c) (h.2 c)⟩
theorem digS_one {c : UInt8} : DigS [c] ↔ 48 ≤ c.toNat ∧ c.toNat ≤ 57 := by unfold DigS; simp
theorem digS_cons {c : UInt8} {l : List UInt8} : DigS (c :: l) ↔ (48 ≤ c.toNat ∧ c.toNat ≤ 57) ∧ DigS l := by
  rw [show c :: l = [c] ++ l from rfl, digS_append, digS_one]
theorem digS_dg (n : Nat) : DigS (dg n) := by
  induction n using Nat.strongRecOn with
  | ind n ih =>
    rcases Nat.eq_zero_or_pos n with rfl | h
    · rw [dg_zero]; intro c hc; cases hc
    · rw [dg_pos h, digS_append, digS_one, digit_nat]; exact ⟨ih _ (by omega), by omega⟩
theorem digS_decOf (n : Nat) : DigS (decOf n) := by
  rcases Nat.eq_zero_or_pos n with rfl | h
  · rw [decOf_zero, digS_one]; decide
  · rw [decOf_pos h]; exact digS_dg n
theorem dg_ne {n : Nat} (h : 0 < n) : dg n ≠ [] := by rw [dg_pos h]; simp
theorem decOf_ne (n : Nat) : decOf n ≠ [] := by
  rcases Nat.eq_zero_or_pos n with rfl | h
  · rw [decOf_zero]; simp
  · rw [decOf_pos h]; exact dg_ne h
theorem head_append {l m : List UInt8} (h : l ≠ []) : (l ++ m).head? = l.head? := by
  cases l with
  | nil => exact absurd rfl h
  | cons a l => rfl
theorem dg_head (n : Nat) : (dg n).head? ≠ some 48 := by
  induction n using Nat.strongRecOn with
  | ind n ih =>
    rcases Nat.eq_zero_or_pos n with rfl | h
    · rw [dg_zero]; simp
    · rw [dg_pos h]
      rcases Nat.eq_zero_or_pos (n / 10) with h0 | h0
      · rw [h0, dg_zero, List.nil_append, List.head?_cons]
        intro e
        have e2 := congrArg UInt8.toNat (Option.some.inj e)
        rw [digit_nat] at e2
        have : (48 : UInt8).toNat = 48 := rfl
        omega
      · rw [head_append (dg_ne h0)]; exact ih _ (by omega)
theorem num_decOf (n : Nat) : Num (decOf n) := by
  refine ⟨decOf_ne n, digS_decOf n, fun h => ?_⟩
  rcases Nat.eq_zero_or_pos n with rfl | h0
  · simp [decOf_zero]
  · rw [decOf_pos h0] at h; exact absurd h (dg_head n)
theorem ofNat_digit {c : UInt8} (h : 48 ≤ c.toNat) : UInt8.ofNat (48 + (c.toNat - 48)) = c := by
  rw [show 48 + (c.toNat - 48) = c.toNat by omega]; simp
theorem dg_valD {l : List UInt8} (h : DigS l) (h0 : l.head? ≠ some 48) : dg (valD l) = l := by
  revert h h0
  refine snoc_ind (p := fun l => DigS l → l.head? ≠ some 48 → dg (valD l) = l) ?_ ?_ l
  · intro _ _; rw [valD_nil, dg_zero]
  · intro l c ih h h0
    obtain ⟨h1, h2⟩ := digS_append.1 h
    rw [digS_one] at h2
    rw [valD_snoc]
    have hp : 0 < 10 * valD l + (c.toNat - 48) := by
      rcases Nat.eq_zero_or_pos (10 * valD l + (c.toNat - 48)) with e | e
      · have e1 : valD l = 0 := by omega
        have e2 : c = 48 := by
          have : c.toNat = 48 := by omega
          exact UInt8.toNat_inj.1 this
        by_cases hl : l = []
        · rw [hl, e2] at h0; simp at h0
        · rw [head_append hl] at h0
          have := ih h1 h0
          rw [e1, dg_zero] at this
          exact absurd this.symm hl
      · exact e
    rw [dg_pos hp, show (10 * valD l + (c.toNat - 48)) / 10 = valD l by omega, show (10 * valD l + (c.toNat - 48)) % 10 = c.toNat - 48 by omega, ofNat_digit h2.1]
    by_cases hl : l = []
    · rw [hl, valD_nil, dg_zero]
    · rw [head_append hl] at h0; rw [ih h1 h0]
theorem decOf_valD {l : List UInt8} (h : Num l) : decOf (valD l) = l := by
  obtain ⟨h1, h2, h3⟩ := h
  by_cases h0 : l.head? = some 48
  · have hl := h3 h0
    match l, h1, h0, hl with
    | [c], _, h0, _ => simp at h0; subst h0; rfl
  · have e := dg_valD h2 h0
    rw [decOf_pos ?_]
    · exact e
    · rcases Nat.eq_zero_or_pos (valD l) with e2 | e2
      · rw [e2, dg_zero] at e; exact absurd e.symm h1
      · exact e2
theorem valD_lt {l : List UInt8} (h : DigS l) : valD l < 10 ^ l.length := by
  revert h
  refine snoc_ind (p := fun l => DigS l → valD l < 10 ^ l.length) ?_ ?_ l
  · intro _; simp [valD_nil]
  · intro l c ih h
    obtain ⟨h1, h2⟩ := digS_append.1 h
    rw [digS_one] at h2
    have := ih h1
    rw [valD_snoc, List.length_append, List.length_singleton, Nat.pow_succ]
    omega
theorem lt_decOf (n : Nat) : n < 10 ^ (decOf n).length := by
  have := valD_lt (digS_decOf n)
  rwa [valD_decOf] at this
theorem dg_len_le {n k : Nat} (h : n < 10 ^ k) : (dg n).length ≤ k := by
  induction k generalizing n with
  | zero => rw [Nat.pow_zero] at h; obtain rfl : n = 0 := by omega
            rw [dg_zero]; simp
  | succ k ih =>
    rcases Nat.eq_zero_or_pos n with rfl | h0
    · rw [dg_zero]; simp
    · rw [dg_pos h0, List.length_append, List.length_singleton]
      have := ih (n := n / 10) (by rw [Nat.pow_succ] at h; omega)
      omega
theorem decOf_len_le {n k : Nat} (h : n < 10 ^ k) (hk : 1 ≤ k) : (decOf n).length ≤ k := by
  rcases Nat.eq_zero_or_pos n with rfl | h0
  · simpa [decOf_zero] using hk
  · rw [decOf_pos h0]; exact dg_len_le h
theorem decOf_len_pos (n : Nat) : 1 ≤ (decOf n).length := by
  have := List.length_pos_iff.2 (decOf_ne n); omega
theorem decOf_len_mono {n m : Nat} (h : n ≤ m) : (decOf n).length ≤ (decOf m).length :=
  decOf_len_le (Nat.lt_of_le_of_lt h (lt_decOf m)) (decOf_len_pos m)
theorem ge_decOf (n : Nat) : 10 ^ ((decOf n).length - 1) ≤ n ∨ (decOf n).length = 1 := by
  rcases Nat.lt_or_ge n (10 ^ ((decOf n).length - 1)) with h | h
  · right
    have h1 := decOf_len_pos n
    rcases Nat.lt_or_ge 1 (decOf n).length with h2 | h2
    · have := decOf_len_le h (by omega)
      omega
    · omega
  · exact .inl h
theorem num_append {a : Nat} (ha : 0 < a) (l : List UInt8) (hl : DigS l) : Num (decOf a ++ l) := by
  refine ⟨by simp [decOf_ne a], digS_append.2 ⟨digS_decOf a, hl⟩, fun h => ?_⟩
  rw [head_append (decOf_ne a), decOf_pos ha] at h
  exact absurd h (dg_head a)
end Go.Proofs.YtlokidddbkdclaaDoor
