/-
  Contracts of package split's functions Div and Small, and of the document's own answers for them, whether it can be told or not, with the numbers named; lists of one word.
-/
import Derived.Test.YtlokidddbkdclaaDoorSplitE
import Derived.Test.YtlokidddbkdclaaDoorSplitRef
import Derived.Test.YtlokidddbkdclaaDoorTimesMore
namespace Go.Proofs.YtlokidddbkdclaaDoor
open Go.RowKit

theorem nat_word1 {x : Nat} (h0 : 0 < x) (h1 : x < 4294967296) : natOf x = [(x : Int)] ∧ nl x = 1 := by
  have e : natOf x = [(x : Int)] := by rw [natOf_pos (by omega), Nat.mod_eq_of_lt h1, Nat.div_eq_of_lt h1, natOf_zero]
  exact ⟨e, by unfold nl; rw [e]; rfl⟩

/-- What Div answers, whether it can be told or not. -/
def AnsDivB (W : World) (Q R : Nat) (r : Bool) (e : Ending) (w' : World) : Prop := ∃ a1 c1 a2 c2, e = .returned (.tuple #[.slice a1 (nl Q) c1, .slice a2 (nl R) c2, .bool r]) ∧ Own W w' (.slice a1 (nl Q) c1) (nl Q) (natOf Q) ∧ Own W w' (.slice a2 (nl R) c2) (nl R) (natOf R)
/-- What Small answers, whether it can be told or not. -/
def AnsSmallB (W : World) (Q : Nat) (R : Int) (r : Bool) (e : Ending) (w' : World) : Prop := ∃ a1 c1, e = .returned (.tuple #[.slice a1 (nl Q) c1, .int .u32 R, .bool r]) ∧ Own W w' (.slice a1 (nl Q) c1) (nl Q) (natOf Q)
/-- What is left, or 0. -/
def rest (A D : Nat) : Nat := if D = 0 then 0 else A % D

theorem nil_nl {W w : World} (h : Below W.heap.size W w) : Own W w (.slice none (nl 0) 0) (nl 0) (natOf 0) := by
  rw [nl_zero, natOf_zero]; exact Own.nil h

theorem ref_div_any {a : Option Addr} {n c : Nat} {zs : List Int} {b : Option Addr} {m d : Nat} {ys : List Int} {w : World} (h : IsWords w (.slice a n c) zs) (hz : Wd zs) (g : IsWords w (.slice b m d) ys) (gz : Wd ys) (hn : n ≤ 100000000) (hm : m ≤ 100000000) (A D : Nat) (hA : val zs = A) (hD : val ys = D) :
    Calls Tryd.prog 47 #[.slice a n c, .slice b m d] w (AnsDivB w (A / D) (rest A D) (decide (0 < D))) := by
  rcases Nat.eq_zero_or_pos D with h0 | h0
  · subst h0
    refine (ref_div_no a n c b m d ys w g gz (by omega) hD).mono ?_
    rintro e w1 ⟨rfl, b1⟩
    rw [Nat.div_zero, show rest A 0 = 0 from rfl]
    exact ⟨none, 0, none, 0, by rw [nl_zero]; rfl, nil_nl b1, nil_nl b1⟩
  · have e : rest A D = A % D := if_neg (by omega)
    rw [e, show decide (0 < D) = true from decide_eq_true h0]
    subst hA hD
    exact ref_div a n c zs b m d ys w h hz g gz hn hm h0
theorem split_small_any {a : Option Addr} {n c : Nat} {zs : List Int} {d : Int} {w : World} (h : IsWords w (.slice a n c) zs) (hz : Wd zs) (hn : n ≤ 35184372088832) (d0 : 0 ≤ d) (d1 : d < 4294967296) (A D : Nat) (hA : val zs = A) (hD : d.toNat = D) :
    Calls Tryd.prog 49 #[.slice a n c, .int .u32 d] w (AnsSmallB w (A / D) ((rest A D : Nat) : Int) (decide (0 < D))) := by
  rcases Nat.eq_zero_or_pos D with h0 | h0
  · obtain rfl : d = 0 := by omega
    subst h0
    refine (split_small_no a n c w).mono ?_
    rintro e w1 ⟨rfl, rfl⟩
    rw [Nat.div_zero, show rest A 0 = 0 from rfl]
    exact ⟨none, 0, by rw [nl_zero]; rfl, nil_nl (Below.refl _ _)⟩
  · have e : rest A D = A % D := if_neg (by omega)
    rw [e, show decide (0 < D) = true from decide_eq_true h0]
    subst hA hD
    exact split_small a n c zs d w h hz hn (by omega) d1
theorem ref_small_any {a : Option Addr} {n c : Nat} {zs : List Int} {d : Int} {w : World} (h : IsWords w (.slice a n c) zs) (hz : Wd zs) (hn : n ≤ 100000000) (d0 : 0 ≤ d) (d1 : d < 4294967296) (A D : Nat) (hA : val zs = A) (hD : d.toNat = D) :
    Calls Tryd.prog 27 #[.slice a n c, .int .u32 d] w (AnsSmallB w (A / D) ((rest A D : Nat) : Int) (decide (0 < D))) := by
  rcases Nat.eq_zero_or_pos D with h0 | h0
  · obtain rfl : d = 0 := by omega
    subst h0
    refine (ref_small_no a n c w).mono ?_
    rintro e w1 ⟨rfl, b1⟩
    rw [Nat.div_zero, show rest A 0 = 0 from rfl]
    exact ⟨none, 0, by rw [nl_zero]; rfl, nil_nl b1⟩
  · have e : rest A D = A % D := if_neg (by omega)
    rw [e, show decide (0 < D) = true from decide_eq_true h0]
    subst hA hD
    exact ref_small4 a n c zs d w h hz hn (by omega) d1
end Go.Proofs.YtlokidddbkdclaaDoor
