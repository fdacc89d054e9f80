/-
  Plain mathematics, of no program: lists of 32-bit words as numbers; the one list of a number; how many bits; what adding, taking away and holding against each other do to them. Conditions: each word is in its range.
-/
import Derived.Test.YtnmohojmoienbaaCame
namespace Go.Proofs.Ytnmohojmoienbaa

/-- The number of a list of words, the lowest one first. -/
def val : List Int → Nat
  | [] => 0
  | z :: zs => z.toNat + 4294967296 * val zs

/-- Each is a word. -/
def Wd (zs : List Int) : Prop := ∀ z ∈ zs, 0 ≤ z ∧ z < 4294967296

/-- The list of a number, without a 0 at its end. -/
def natOf (n : Nat) : List Int := if h : n = 0 then [] else ((n % 4294967296 : Nat) : Int) :: natOf (n / 4294967296)

/-- How many words a number has. -/
def nl (n : Nat) : Nat := (natOf n).length

/-- How many bits a number has. -/
def nbits (n : Nat) : Nat := if h : n = 0 then 0 else 1 + nbits (n / 2)

theorem natOf_zero : natOf 0 = [] := by rw [natOf]; simp
theorem natOf_pos {n : Nat} (h : n ≠ 0) : natOf n = ((n % 4294967296 : Nat) : Int) :: natOf (n / 4294967296) := by rw [natOf]; simp [h]

theorem val_natOf (n : Nat) : val (natOf n) = n := by
  induction n using Nat.strongRecOn with
  | _ n ih =>
    by_cases h : n = 0
    · rw [h, natOf_zero]; rfl
    · rw [natOf_pos h, val, ih (n / 4294967296) (by omega)]; omega

theorem wd_nil : Wd [] := by intro z hz; simp at hz
theorem wd_cons {z : Int} {zs : List Int} (h : Wd (z :: zs)) : 0 ≤ z ∧ z < 4294967296 ∧ Wd zs :=
  ⟨(h z (by simp)).1, (h z (by simp)).2, fun y hy => h y (by simp [hy])⟩
theorem wd_cons' {z : Int} {zs : List Int} (h0 : 0 ≤ z) (h1 : z < 4294967296) (h : Wd zs) : Wd (z :: zs) := by
  intro y hy
  rcases List.mem_cons.1 hy with rfl | hy
  · exact ⟨h0, h1⟩
  · exact h y hy
theorem wd_append {a b : List Int} (ha : Wd a) (hb : Wd b) : Wd (a ++ b) := by
  intro z hz
  rcases List.mem_append.1 hz with h | h
  · exact ha z h
  · exact hb z h
theorem wd_take {a : List Int} (ha : Wd a) (k : Nat) : Wd (a.take k) := fun z hz => ha z (List.mem_of_mem_take hz)
theorem wd_drop {a : List Int} (ha : Wd a) (k : Nat) : Wd (a.drop k) := fun z hz => ha z (List.mem_of_mem_drop hz)
theorem wd_zeros (k : Nat) : Wd (List.replicate k 0) := fun z hz => by rw [List.eq_of_mem_replicate hz]; omega
theorem wd_set {a : List Int} (ha : Wd a) (k : Nat) {y : Int} (h0 : 0 ≤ y) (h1 : y < 4294967296) : Wd (a.set k y) := by
  intro z hz
  rcases List.mem_or_eq_of_mem_set hz with h | rfl
  · exact ha z h
  · exact ⟨h0, h1⟩
theorem wd_one {z : Int} (h0 : 0 ≤ z) (h1 : z < 4294967296) : Wd [z] := wd_cons' h0 h1 wd_nil
theorem wd_getD {a : List Int} (ha : Wd a) (k : Nat) : 0 ≤ a.getD k 0 ∧ a.getD k 0 < 4294967296 := by
  by_cases h : k < a.length
  · have : a.getD k 0 = a[k] := by simp [List.getD_eq_getElem?_getD, h]
    rw [this]; exact ha _ (List.getElem_mem h)
  · have : a.getD k 0 = 0 := by simp [List.getD_eq_getElem?_getD, List.getElem?_eq_none (Nat.le_of_not_lt h)]
    rw [this]; omega
theorem wd_natOf (n : Nat) : Wd (natOf n) := by
  induction n using Nat.strongRecOn with
  | _ n ih =>
    by_cases h : n = 0
    · rw [h, natOf_zero]; exact wd_nil
    · rw [natOf_pos h]; exact wd_cons' (by omega) (by omega) (ih _ (by omega))

theorem lowN_cons (z : Int) (zs : List Int) : ∀ n, lowN (z :: zs) (n + 1) = if lowN zs n = 0 then (if z = 0 then 0 else 1) else lowN zs n + 1
  | 0 => by simp [lowN]
  | n + 1 => by
    have ih := lowN_cons z zs n
    have e : (z :: zs).getD (n + 1) 0 = zs.getD n 0 := by simp [List.getD_eq_getElem?_getD]
    by_cases h : zs.getD n 0 = 0
    · rw [lowN_zero (n := n + 1) (by rw [e]; exact h), lowN_zero h, ih]
    · rw [lowN_keep (n := n + 1) (by rw [e]; exact h), lowN_keep h]; simp

theorem natOf_val (zs : List Int) (h : Wd zs) : natOf (val zs) = zs.take (lowN zs zs.length) := by
  induction zs with
  | nil => simp [val, natOf_zero]
  | cons z zs ih =>
    obtain ⟨h0, h1, hz⟩ := wd_cons h
    have e := ih hz
    have hle := lowN_le zs zs.length
    rw [List.length_cons, lowN_cons]
    by_cases hl : lowN zs zs.length = 0
    · have hv : val zs = 0 := by rw [← val_natOf (val zs), e, hl]; rfl
      rw [if_pos hl]
      by_cases hz0 : z = 0
      · rw [if_pos hz0]; simp [val, hv, hz0, natOf_zero]
      · rw [if_neg hz0]
        have hn : z.toNat ≠ 0 := by omega
        have e1 : val (z :: zs) = z.toNat := by simp [val, hv]
        rw [e1, natOf_pos hn, show z.toNat / 4294967296 = 0 by omega, natOf_zero]
        simp; omega
    · have hv : val zs ≠ 0 := by
        intro hv
        rw [hv, natOf_zero] at e
        have := congrArg List.length e
        simp [List.length_take] at this
        omega
      rw [if_neg hl]
      have hn : val (z :: zs) ≠ 0 := by simp only [val]; omega
      rw [natOf_pos hn, List.take_succ_cons]
      have e1 : val (z :: zs) % 4294967296 = z.toNat := by simp only [val]; omega
      have e2 : val (z :: zs) / 4294967296 = val zs := by simp only [val]; omega
      rw [e1, e2, e]
      congr 1; omega

theorem nl_val (zs : List Int) (h : Wd zs) : nl (val zs) = lowN zs zs.length := by
  unfold nl; rw [natOf_val zs h, List.length_take]; have := lowN_le zs zs.length; omega
theorem nl_val_le (zs : List Int) (h : Wd zs) : nl (val zs) ≤ zs.length := by rw [nl_val zs h]; exact lowN_le _ _
theorem val_take_low (zs : List Int) (h : Wd zs) : val (zs.take (lowN zs zs.length)) = val zs := by rw [← natOf_val zs h, val_natOf]
theorem natOf_take (zs : List Int) (h : Wd zs) : natOf (val zs) = zs.take (nl (val zs)) := by rw [nl_val zs h]; exact natOf_val zs h

theorem val_lt (zs : List Int) (h : Wd zs) : val zs < 4294967296 ^ zs.length := by
  induction zs with
  | nil => simp [val]
  | cons z zs ih =>
    obtain ⟨h0, h1, hz⟩ := wd_cons h
    have := ih hz
    rw [List.length_cons, Nat.pow_succ, val]
    generalize 4294967296 ^ zs.length = p at this
    omega

theorem nl_zero : nl 0 = 0 := by unfold nl; rw [natOf_zero]; rfl
theorem nl_le : ∀ (k n : Nat), n < 4294967296 ^ k → nl n ≤ k
  | 0, n, h => by rw [Nat.pow_zero] at h; rw [show n = 0 by omega, nl_zero]; omega
  | k + 1, n, h => by
    by_cases h0 : n = 0
    · rw [h0, nl_zero]; omega
    · unfold nl
      rw [natOf_pos h0, List.length_cons]
      have : nl (n / 4294967296) ≤ k := nl_le k _ (by rw [Nat.pow_succ] at h; generalize 4294967296 ^ k = p at h ⊢; omega)
      unfold nl at this; omega
theorem lt_nl (n : Nat) : n < 4294967296 ^ nl n := by
  have := val_lt (natOf n) (wd_natOf n)
  rw [val_natOf] at this; exact this
theorem nl_mono {a b : Nat} (h : a ≤ b) : nl a ≤ nl b := nl_le _ _ (Nat.lt_of_le_of_lt h (lt_nl b))
theorem nl_add (a b : Nat) : nl (a + b) ≤ max (nl a) (nl b) + 1 := by
  refine nl_le _ _ ?_
  have h1 : a < 4294967296 ^ max (nl a) (nl b) := Nat.lt_of_lt_of_le (lt_nl a) (Nat.pow_le_pow_right (by omega) (Nat.le_max_left _ _))
  have h2 : b < 4294967296 ^ max (nl a) (nl b) := Nat.lt_of_lt_of_le (lt_nl b) (Nat.pow_le_pow_right (by omega) (Nat.le_max_right _ _))
  rw [Nat.pow_succ]
  generalize 4294967296 ^ max (nl a) (nl b) = p at h1 h2 ⊢
  omega
theorem lt_of_nl {a b : Nat} (h : nl a < nl b) : a < b := by
  rcases Nat.lt_or_ge a b with h1 | h1
  · exact h1
  · have := nl_mono h1; omega

theorem nl_big (n : Nat) (h : 18446744073709551616 ≤ n) : 2 < nl n := by
  rcases Nat.lt_or_ge 2 (nl n) with h1 | h1
  · exact h1
  · have := lt_nl n
    have : 4294967296 ^ nl n ≤ 4294967296 ^ 2 := Nat.pow_le_pow_right (by omega) h1
    omega

theorem val_append (a b : List Int) : val (a ++ b) = val a + 4294967296 ^ a.length * val b := by
  induction a with
  | nil => simp [val]
  | cons z a ih =>
    rw [List.cons_append, val, val, ih, List.length_cons, Nat.pow_succ, Nat.mul_comm (4294967296 ^ a.length) 4294967296, Nat.mul_assoc, Nat.mul_add]
    omega
theorem val_snoc (a : List Int) (z : Int) : val (a ++ [z]) = val a + z.toNat * 4294967296 ^ a.length := by
  rw [val_append]; simp [val, Nat.mul_comm]
theorem val_zeros (k : Nat) : val (List.replicate k 0) = 0 := by
  induction k with
  | zero => rfl
  | succ k ih => rw [List.replicate_succ, val, ih]; rfl
theorem val_append_zeros (a : List Int) (k : Nat) : val (a ++ List.replicate k 0) = val a := by rw [val_append, val_zeros]; simp
theorem val_split (a : List Int) (m : Nat) : val a = val (a.take m) + 4294967296 ^ m * val (a.drop m) := by
  by_cases h : m ≤ a.length
  · have := val_append (a.take m) (a.drop m)
    rw [List.take_append_drop, List.length_take, Nat.min_eq_left h] at this
    exact this
  · rw [List.take_of_length_le (by omega), List.drop_eq_nil_of_le (by omega)]; simp [val]
theorem val_drop (a : List Int) (m : Nat) : val (a.drop m) = (a.getD m 0).toNat + 4294967296 * val (a.drop (m + 1)) := by
  by_cases h : m < a.length
  · rw [List.drop_eq_getElem_cons h, val]; simp [List.getD_eq_getElem?_getD, h]
  · rw [List.drop_eq_nil_of_le (by omega), List.drop_eq_nil_of_le (by omega)]
    simp [val, List.getD_eq_getElem?_getD, List.getElem?_eq_none (Nat.le_of_not_lt h)]
theorem val_take_succ (a : List Int) (k : Nat) : val (a.take (k + 1)) = val (a.take k) + (a.getD k 0).toNat * 4294967296 ^ k := by
  by_cases h : k < a.length
  · rw [List.take_succ_eq_append_getElem h, val_snoc, List.length_take, Nat.min_eq_left (by omega)]
    simp [List.getD_eq_getElem?_getD, h]
  · rw [List.take_of_length_le (by omega), List.take_of_length_le (by omega)]
    simp [List.getD_eq_getElem?_getD, List.getElem?_eq_none (Nat.le_of_not_lt h)]
theorem val_set : ∀ (a : List Int) (k : Nat) (y : Int), k < a.length → val (a.set k y) + (a.getD k 0).toNat * 4294967296 ^ k = val a + y.toNat * 4294967296 ^ k
  | [], k, y, h => by simp at h
  | z :: a, 0, y, h => by simp [val]; omega
  | z :: a, k + 1, y, h => by
    have ih := val_set a k y (by simpa using h)
    have e : (z :: a).getD (k + 1) 0 = a.getD k 0 := by simp [List.getD_eq_getElem?_getD]
    rw [List.set_cons_succ, val, val, e, Nat.pow_succ, ← Nat.mul_assoc, ← Nat.mul_assoc]
    generalize (a.getD k 0).toNat * 4294967296 ^ k = p at ih ⊢
    generalize y.toNat * 4294967296 ^ k = q at ih ⊢
    omega
theorem val_take_lt (a : List Int) (h : Wd a) (m : Nat) : val (a.take m) < 4294967296 ^ m := by
  have h1 := val_lt (a.take m) (wd_take h m)
  exact Nat.lt_of_lt_of_le h1 (Nat.pow_le_pow_right (by omega) (by rw [List.length_take]; omega))
theorem val_take_all (a : List Int) (m : Nat) (hm : val a < 4294967296 ^ m) : val (a.take m) = val a := by
  have h1 := val_split a m
  have : val (a.drop m) = 0 := by
    rcases Nat.eq_zero_or_pos (val (a.drop m)) with h | h
    · exact h
    · have := Nat.mul_le_mul_left (4294967296 ^ m) h
      omega
  rw [this] at h1; omega
theorem val_take_le (a : List Int) (m : Nat) : val (a.take m) ≤ val a := by
  have h1 := val_split a m; omega

/-- Where the higher words are one, a lower word decides. -/
theorem val_decides (a b : List Int) (ha : Wd a) (m : Nat) (hd : val (a.drop (m + 1)) = val (b.drop (m + 1))) (hm : a.getD m 0 < b.getD m 0) : val a < val b := by
  have h1 := val_split a m
  have h2 := val_split b m
  have h3 := val_take_lt a ha m
  have h4 := (wd_getD ha m).1
  rw [val_drop, hd] at h1
  rw [val_drop b m] at h2
  have h5 : (a.getD m 0).toNat + 4294967296 * val (b.drop (m + 1)) + 1 ≤ (b.getD m 0).toNat + 4294967296 * val (b.drop (m + 1)) := by omega
  have h6 := Nat.mul_le_mul_left (4294967296 ^ m) h5
  rw [Nat.mul_add, Nat.mul_one] at h6
  omega

/-- One word's step of a sum. -/
theorem add_step {p : Nat} {S S' A B x y b c c' : Nat} (hs : S' + x * p = S + y * p) (hi : S + c * p = A + B) (hy : y + 4294967296 * c' = x + b + c) :
    S' + c' * (p * 4294967296) = A + (B + b * p) := by
  have e : (y + 4294967296 * c') * p = (x + b + c) * p := by rw [hy]
  rw [Nat.add_mul, Nat.add_mul, Nat.add_mul] at e
  have e2 : c' * (p * 4294967296) = 4294967296 * c' * p := by rw [Nat.mul_comm p, ← Nat.mul_assoc, Nat.mul_comm c']
  rw [e2]; omega
/-- One word's step of a difference. -/
theorem sub_step {p : Nat} {S S' A B x y b c c' : Nat} (hs : S' + x * p = S + y * p) (hi : S + B = A + c * p) (hy : y + b + c = x + 4294967296 * c') :
    S' + (B + b * p) = A + c' * (p * 4294967296) := by
  have e : (y + b + c) * p = (x + 4294967296 * c') * p := by rw [hy]
  rw [Nat.add_mul, Nat.add_mul, Nat.add_mul] at e
  have e2 : c' * (p * 4294967296) = 4294967296 * c' * p := by rw [Nat.mul_comm p, ← Nat.mul_assoc, Nat.mul_comm c']
  rw [e2]; omega

theorem natOf_inj {a b : Nat} (h : natOf a = natOf b) : a = b := by rw [← val_natOf a, h, val_natOf]

theorem nbits_zero : nbits 0 = 0 := by rw [nbits]; simp
theorem nbits_pos {n : Nat} (h : n ≠ 0) : nbits n = 1 + nbits (n / 2) := by rw [nbits]; simp [h]
theorem nbits_shift : ∀ (k x : Nat), 2 ^ k ≤ x → nbits x = k + nbits (x / 2 ^ k)
  | 0, x, _ => by simp
  | k + 1, x, h => by
    rw [Nat.pow_succ] at h
    have h2 : 2 ^ k ≤ x / 2 := by generalize 2 ^ k = p at h ⊢; omega
    have hp : 0 < 2 ^ k := Nat.pow_pos (by omega)
    rw [nbits_pos (by omega), nbits_shift k (x / 2) h2, Nat.div_div_eq_div_mul, Nat.pow_succ, Nat.mul_comm 2]
    omega
theorem nbits_bitLen (x : Nat) (h : x < 18446744073709551616) : Lib.bitLen x = nbits x := by
  induction x using Nat.strongRecOn with
  | _ x ih =>
    by_cases h0 : x = 0
    · rw [h0, nbits_zero]; rfl
    · rw [nbits_pos h0, Lib.bitLen_half x h0 h, ih (x / 2) (by omega) (by omega)]
theorem lt_nbits (n : Nat) : n < 2 ^ nbits n := by
  induction n using Nat.strongRecOn with
  | _ n ih =>
    by_cases h0 : n = 0
    · rw [h0]; exact Nat.pow_pos (by omega)
    · have := ih (n / 2) (by omega)
      rw [nbits_pos h0, Nat.pow_add]
      generalize 2 ^ nbits (n / 2) = p at this
      omega
theorem nbits_le : ∀ (k n : Nat), n < 2 ^ k → nbits n ≤ k
  | 0, n, h => by rw [Nat.pow_zero] at h; rw [show n = 0 by omega, nbits_zero]; omega
  | k + 1, n, h => by
    by_cases h0 : n = 0
    · rw [h0, nbits_zero]; omega
    · rw [nbits_pos h0]
      have := nbits_le k (n / 2) (by rw [Nat.pow_succ] at h; generalize 2 ^ k = p at h ⊢; omega)
      omega
theorem pow_word (k : Nat) : 4294967296 ^ k = 2 ^ (32 * k) := by rw [Nat.pow_mul]

/-- The bits of a list whose highest word isn't 0. -/
theorem nbits_top (zs : List Int) (h : Wd zs) (k : Nat) (hk : lowN zs zs.length = k + 1) : nbits (val zs) = 32 * k + nbits (zs.getD k 0).toNat := by
  have hl := lowN_le zs zs.length
  have h0 : val zs = val (zs.take (k + 1)) := by rw [← hk, val_take_low zs h]
  have h1 := val_take_succ zs k
  have h2 := val_take_lt zs h k
  have h3 : zs.getD k 0 ≠ 0 := by
    rcases lowN_top zs zs.length with h | h
    · omega
    · rw [hk] at h; simpa using h
  have h4 := (wd_getD h k).1
  have hp : 0 < 4294967296 ^ k := Nat.pow_pos (by omega)
  have h5 : 1 * 4294967296 ^ k ≤ (zs.getD k 0).toNat * 4294967296 ^ k := Nat.mul_le_mul_right _ (by omega)
  have e : val zs / 4294967296 ^ k = (zs.getD k 0).toNat := by
    rw [h0, h1, Nat.add_mul_div_right _ _ hp, Nat.div_eq_of_lt h2]; omega
  rw [nbits_shift (32 * k) (val zs) (by rw [← pow_word]; omega), ← pow_word, e]
theorem nl_pos {A : Nat} (h : 0 < A) : 0 < nl A := by
  rcases Nat.eq_zero_or_pos (nl A) with h0 | h0
  · have := lt_nl A; rw [h0] at this; omega
  · exact h0
end Go.Proofs.Ytnmohojmoienbaa
