/-
  Contracts of package nat's functions right, word, Right and of the standard library's Compare, for every list of words: what each answers; memory stays.
-/
import Derived.Test.YtlokidddbkdclaaDoorNatMath
namespace Go.Proofs.YtlokidddbkdclaaDoor
open Go.RowKit

theorem IsWords.len {w : World} {a : Option Addr} {n c : Nat} {zs : List Int} (h : IsWords w (.slice a n c) zs) : zs.length = n := h.reads.1.1
theorem IsWords.cap {w : World} {a : Option Addr} {n c : Nat} {zs : List Int} (h : IsWords w (.slice a n c) zs) : n ≤ c ∧ c ≤ 9223372036854775807 := by
  rcases h with ⟨e, rfl⟩ | ⟨x, cap, e, h1, h2, -⟩
  · simp only [Value.slice.injEq] at e; omega
  · simp only [Value.slice.injEq] at e; unfold maxLen at h2; omega

theorem IsWords.take {w : World} {a : Option Addr} {n c : Nat} {zs : List Int} (h : IsWords w (.slice a n c) zs) (k : Nat) (hk : k ≤ n) : IsWords w (.slice a k c) (zs.take k) := by
  have hl := h.len
  rcases h with ⟨e, rfl⟩ | ⟨x, cap, e, h1, h2, hc⟩
  · simp only [Value.slice.injEq] at e
    obtain ⟨rfl, rfl, rfl⟩ := e
    obtain rfl : k = 0 := by omega
    exact .inl ⟨rfl, rfl⟩
  · simp only [Value.slice.injEq] at e
    obtain ⟨rfl, rfl, rfl⟩ := e
    have e2 : (zs.take k).length = k := by rw [List.length_take]; omega
    refine .inr ⟨x, c, by rw [e2], by omega, h2, fun i hi => ?_⟩
    rw [e2] at hi
    rw [hc i (by omega)]
    simp [List.getD_eq_getElem?_getD, hi]

theorem Own.take {W w : World} {a : Option Addr} {n c : Nat} {xs : List Int} (h : Own W w (.slice a n c) n xs) (k : Nat) (hk : k ≤ n) : Own W w (.slice a k c) k (xs.take k) := by
  have hl := h.length
  refine ⟨⟨?_, ?_⟩, h.2⟩
  · simp [List.length_take]; omega
  · rcases h.1.2 with ⟨e, rfl⟩ | ⟨g, cap, cur, e, hb, hg, hnc, hcm, hcs, ht⟩
    · simp only [Value.slice.injEq] at e
      obtain ⟨rfl, -, rfl⟩ := e
      obtain rfl : k = 0 := by omega
      exact .inl ⟨rfl, rfl⟩
    · simp only [Value.slice.injEq] at e
      obtain ⟨rfl, -, rfl⟩ := e
      refine .inr ⟨g, c, cur, rfl, hb, hg, by omega, hcm, hcs, ?_⟩
      rw [Nat.mul_one] at ht ⊢
      rw [List.map_take, ← ht, List.take_take, Nat.min_eq_left hk]

theorem nat_right (a : Option Addr) (n c : Nat) (zs : List Int) (w : World) (h : IsWords w (.slice a n c) zs) (L : Nat) (hL : lowN zs n = L) :
    Calls Tryd.prog 32 #[.slice a n c] w fun e w' => e = .returned (.slice a L c) ∧ w = w' := by
  have hle : L ≤ n := by rw [← hL]; exact lowN_le _ _
  have hcap := h.cap
  have C := limb_low_words a n c zs w h
  rw [hL] at C
  have h1 : (0 : Int) ≤ L := by omega
  have h2 : (L : Int) ≤ c := by omega
  have hs : a = none → L = 0 ∧ c = 0 := by
    rintro rfl
    rcases h with ⟨e, rfl⟩ | ⟨x, cap, e, -⟩
    · simp only [Value.slice.injEq] at e; omega
    · simp at e
  clear h hL
  rcases a with _ | x
  · obtain ⟨rfl, rfl⟩ := hs rfl
    go_enter Tryd.func32, Tryd.ntmps32
    go_wp2_with (go_at_call 35; with_reducible refine Calls.mono C ?_; rintro e w1 ⟨rfl, rfl⟩)
    go_ret
    exact ⟨rfl, rfl⟩
  · clear hs
    go_enter Tryd.func32, Tryd.ntmps32
    go_wp2_with (go_at_call 35; with_reducible refine Calls.mono C ?_; rintro e w1 ⟨rfl, rfl⟩)
    go_ret
    exact ⟨rfl, rfl⟩

theorem nat_word (a : Option Addr) (n c : Nat) (zs : List Int) (w : World) (h : IsWords w (.slice a n c) zs) (k : Nat) (hk : k ≤ 9223372036854775807) (z : Int) (hz : zs.getD k 0 = z) :
    Calls Tryd.prog 42 #[.slice a n c, .int .i64 k] w fun e w' => e = .returned (.int .u32 z) ∧ w = w' := by
  obtain ⟨⟨hl, hr⟩, hn⟩ := h.reads
  by_cases hlt : k < n
  · rcases hr with h0 | ⟨b, off, rfl, hc⟩
    · omega
    · have hck := hc k hlt
      rw [hz] at hck
      clear hc hz h
      go_enter Tryd.func42, Tryd.ntmps42
      go_wp2
      go_ret
      exact ⟨rfl, rfl⟩
  · have : z = 0 := by rw [← hz]; simp [List.getD_eq_getElem?_getD, List.getElem?_eq_none (by omega : zs.length ≤ k)]
    subst this
    clear h hr hz
    go_enter Tryd.func42, Tryd.ntmps42
    go_wp2
    go_ret
    exact ⟨rfl, rfl⟩

theorem ret_bool {a b : Bool} (h : a = b) : Ending.returned (.bool a) = .returned (.bool b) := by rw [h]

theorem nat_Right (a : Option Addr) (n c : Nat) (zs : List Int) (w : World) (h : IsWords w (.slice a n c) zs) (r : Bool) (hr : decide (lowN zs n = n) = r) :
    Calls Tryd.prog 17 #[.slice a n c] w fun e w' => e = .returned (.bool r) ∧ w = w' := by
  have C := limb_low_words a n c zs w h
  have hle := lowN_le zs n
  have hn := h.reads.2
  clear h
  generalize lowN zs n = L at C hle hr
  subst hr
  go_enter Tryd.func17, Tryd.ntmps17
  go_wp2_with (go_at_call 35; with_reducible refine Calls.mono C ?_; rintro e w1 ⟨rfl, rfl⟩)
  go_ret
  exact ⟨ret_bool (by rw [Bool.eq_iff_iff]; simp; omega), rfl⟩

/-- -1, 0 or 1. -/
def sgn (a b : Int) : Int := if a < b then -1 else if b < a then 1 else 0
theorem sgn_lt {a b : Int} (h : a < b) : sgn a b = -1 := by unfold sgn; rw [if_pos h]
theorem sgn_gt {a b : Int} (h : b < a) : sgn a b = 1 := by unfold sgn; rw [if_neg (by omega), if_pos h]
theorem sgn_eq {a b : Int} (h : a = b) : sgn a b = 0 := by unfold sgn; rw [if_neg (by omega), if_neg (by omega)]
theorem sgn_bd (a b : Int) : -1 ≤ sgn a b ∧ sgn a b ≤ 1 := by unfold sgn; split <;> (try split) <;> omega

theorem nan_int (a : Int) (w : World) : Calls Tryd.prog 54 #[.int .i64 a] w fun e w' => e = .returned (.bool false) ∧ w = w' := by
  go_enter Tryd.func54, Tryd.ntmps54
  go_wp2
  go_ret
  exact ⟨by simp, rfl⟩
theorem nan_u32 (a : Int) (w : World) : Calls Tryd.prog 55 #[.int .u32 a] w fun e w' => e = .returned (.bool false) ∧ w = w' := by
  go_enter Tryd.func55, Tryd.ntmps55
  go_wp2
  go_ret
  exact ⟨by simp, rfl⟩

theorem compare_int (a b : Int) (w : World) : Calls Tryd.prog 33 #[.int .i64 a, .int .i64 b] w fun e w' => e = .returned (.int .i64 (sgn a b)) ∧ w = w' := by
  rcases Int.lt_trichotomy a b with h | h | h
  · go_enter Tryd.func33, Tryd.ntmps33
    go_wp2_with (go_at_call 54; refine (nan_int _ _).mono ?_; rintro e w1 ⟨rfl, rfl⟩)
    go_ret
    exact ⟨ret_int (sgn_lt h).symm, rfl⟩
  · subst h
    go_enter Tryd.func33, Tryd.ntmps33
    go_wp2_with (go_at_call 54; refine (nan_int _ _).mono ?_; rintro e w1 ⟨rfl, rfl⟩)
    go_ret
    exact ⟨ret_int (sgn_eq rfl).symm, rfl⟩
  · have h' : ¬ a < b := by omega
    go_enter Tryd.func33, Tryd.ntmps33
    go_wp2_with (go_at_call 54; refine (nan_int _ _).mono ?_; rintro e w1 ⟨rfl, rfl⟩)
    go_ret
    exact ⟨ret_int (sgn_gt h).symm, rfl⟩
theorem compare_u32 (a b : Int) (w : World) : Calls Tryd.prog 34 #[.int .u32 a, .int .u32 b] w fun e w' => e = .returned (.int .i64 (sgn a b)) ∧ w = w' := by
  rcases Int.lt_trichotomy a b with h | h | h
  · go_enter Tryd.func34, Tryd.ntmps34
    go_wp2_with (go_at_call 55; refine (nan_u32 _ _).mono ?_; rintro e w1 ⟨rfl, rfl⟩)
    go_ret
    exact ⟨ret_int (sgn_lt h).symm, rfl⟩
  · subst h
    go_enter Tryd.func34, Tryd.ntmps34
    go_wp2_with (go_at_call 55; refine (nan_u32 _ _).mono ?_; rintro e w1 ⟨rfl, rfl⟩)
    go_ret
    exact ⟨ret_int (sgn_eq rfl).symm, rfl⟩
  · have h' : ¬ a < b := by omega
    go_enter Tryd.func34, Tryd.ntmps34
    go_wp2_with (go_at_call 55; refine (nan_u32 _ _).mono ?_; rintro e w1 ⟨rfl, rfl⟩)
    go_ret
    exact ⟨ret_int (sgn_gt h).symm, rfl⟩
end Go.Proofs.YtlokidddbkdclaaDoor
