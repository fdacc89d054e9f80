/-
  Contracts of package nat's functions right, word, Right and of the standard library's Compare, for every list of words: what each answers; memory stays.
-/
import Derived.Test.YtnmohojmoienbaaNatMath
namespace Go.Proofs.Ytnmohojmoienbaa
open Go.RowKit

theorem IsWords.len {w : World} {a : Option Addr} {n c : Nat} {zs : List Int} (h : IsWords w (.slice a n c) zs) : zs.length = n := h.reads.1.1
theorem IsWords.cap {w : World} {a : Option Addr} {n c : Nat} {zs : List Int} (h : IsWords w (.slice a n c) zs) : n ≤ c ∧ c ≤ 9223372036854775807 := by
  rcases h with ⟨e, rfl⟩ | ⟨x, cap, e, h1, h2, -⟩
  · simp only [Value.slice.injEq] at e; omega
  · simp only [Value.slice.injEq] at e; unfold maxLen at h2; omega

theorem IsWords.take {w : World} {a : Option Addr} {n c : Nat} {zs : List Int} (h : IsWords w (.slice a n c) zs) (k : Nat) (hk : k ≤ n) : IsWords w (.slice a k c) (zs.take k) := by
  have hl := h.len
  rcases h with ⟨e, rfl⟩ | ⟨x, cap, e, h1, h2, hc⟩
  · simp only [Value.slice.injEq] at e
    obtain ⟨rfl, rfl, rfl⟩ := e
    obtain rfl : k = 0 := by omega
    exact .inl ⟨rfl, rfl⟩
  · simp only [Value.slice.injEq] at e
    obtain ⟨rfl, rfl, rfl⟩ := e
    have e2 : (zs.take k).length = k := by rw [List.length_take]; omega
    refine .inr ⟨x, c, by rw [e2], by omega, h2, fun i hi => ?_⟩
    rw [e2] at hi
    rw [hc i (by omega)]
    simp [List.getD_eq_getElem?_getD, hi]

theorem Own.take {W w : World} {a : Option Addr} {n c : Nat} {xs : List Int} (h : Own W w (.slice a n c) n xs) (k : Nat) (hk : k ≤ n) : Own W w (.slice a k c) k (xs.take k) := by
  have hl := h.length
  refine ⟨⟨?_, ?_⟩, h.2⟩
  · simp [List.length_take]; omega
  · rcases h.1.2 with ⟨e, rfl⟩ | ⟨g, cap, cur, e, hb, hg, hnc, hcm, hcs, ht⟩
    · simp only [Value.slice.injEq] at e
      obtain ⟨rfl, -, rfl⟩ := e
      obtain rfl : k = 0 := by omega
      exact .inl ⟨rfl, rfl⟩
    · simp only [Value.slice.injEq] at e
      obtain ⟨rfl, -, rfl⟩ := e
      refine .inr ⟨g, c, cur, rfl, hb, hg, by omega, hcm, hcs, ?_⟩
      rw [Nat.mul_one] at ht ⊢
      rw [List.map_take, ← ht, List.take_take, Nat.min_eq_left hk]

theorem ret_bool {a b : Bool} (h : a = b) : Ending.returned (.bool a) = .returned (.bool b) := by rw [h]


/-- -1, 0 or 1. -/
def sgn (a b : Int) : Int := if a < b then -1 else if b < a then 1 else 0
theorem sgn_lt {a b : Int} (h : a < b) : sgn a b = -1 := by unfold sgn; rw [if_pos h]
theorem sgn_gt {a b : Int} (h : b < a) : sgn a b = 1 := by unfold sgn; rw [if_neg (by omega), if_pos h]
theorem sgn_eq {a b : Int} (h : a = b) : sgn a b = 0 := by unfold sgn; rw [if_neg (by omega), if_neg (by omega)]
theorem sgn_bd (a b : Int) : -1 ≤ sgn a b ∧ sgn a b ≤ 1 := by unfold sgn; split <;> (try split) <;> omega

end Go.Proofs.Ytnmohojmoienbaa
