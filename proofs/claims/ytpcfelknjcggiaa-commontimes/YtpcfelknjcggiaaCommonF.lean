/-
  Contracts of package common's functions Lcm, Apart and Lowest, for every two lists of words, as numbers; memory that was there stays, and lists that are answered are the call's own.
-/
import Derived.Test.YtpcfelknjcggiaaCommonE
namespace Go.Proofs.Ytpcfelknjcggiaa
open Go.RowKit

/-- The first one of lowest terms, or 0. -/
def low1 (A B : Nat) : Nat := if B = 0 then 0 else A / Nat.gcd A B

set_option maxHeartbeats 1000000 in
theorem common_lcm {a : Option Addr} {m c : Nat} {xs : List Int} {b : Option Addr} {m' d : Nat} {ys : List Int} {w : World} (h : IsWords w (.slice a m c) xs) (hx : Wd xs) (k : IsWords w (.slice b m' d) ys) (hy : Wd ys) (hm : m ≤ 1000000000) (hm' : m' ≤ 1000000000) (A B : Nat) (hA : val xs = A) (hB : val ys = B) :
    Calls Try.prog 15 #[.slice a m c, .slice b m' d] w (Ans w (A / Nat.gcd A B * B)) := by
  have G := common_gcd h hx k hy hm hm' (Nat.gcd A B) (by rw [hA, hB])
  unfold Ans at G
  have hq : nl (A / Nat.gcd A B) ≤ 1000000000 := Nat.le_trans (nl_mono (Nat.div_le_self _ _)) (by rw [← hA]; exact nl_small hx _ (by rw [h.len]; exact hm))
  have D := fun v g1 c1 (hb : Below w.heap.size w v) (hg : IsWords v (.slice g1 (nl (Nat.gcd A B)) c1) (natOf (Nat.gcd A B))) => split_div_any (h.below hb) hx hg (wd_natOf _) (by omega) A (Nat.gcd A B) hA (val_natOf _)
  unfold AnsDivB at D
  have M := fun v q1 c1 (hb : Below w.heap.size w v) (hg : IsWords v (.slice q1 (nl (A / Nat.gcd A B)) c1) (natOf (A / Nat.gcd A B))) => times_mul' hg (wd_natOf _) (k.below hb) hy (by omega) (by omega) (A / Nat.gcd A B * B) (by rw [val_natOf, hB])
  unfold Ans at M
  generalize A / Nat.gcd A B * B = N at M ⊢
  generalize A / Nat.gcd A B = X at D M hq
  generalize rest A (Nat.gcd A B) = Y at D
  generalize decide (0 < Nat.gcd A B) = r at D
  generalize Nat.gcd A B = g at G D
  clear h k hx hy hm hm' hA hB hq
  go_enter Try.func15, Try.ntmps15
  go_wp2_with (first
    | (go_at_call 14; (with_reducible refine Calls.mono G ?_); rintro e w1 ⟨a1, c1, rfl, o1⟩)
    | (go_at_call 19; (with_reducible refine Calls.mono (D w1 _ _ o1.below o1.words) ?_); rintro e w2 ⟨a2, c2, a3, c3, rfl, o2, o3⟩)
    | (go_at_call 22; (with_reducible refine Calls.mono (M w2 _ _ (below_more o1.below o2.below) o2.words) ?_); rintro e w3 ⟨a4, c4, rfl, o4⟩))
  go_ret
  exact ⟨_, _, rfl, o4.outer (below_more o1.below o2.below)⟩

set_option maxHeartbeats 1000000 in
theorem common_apart {a : Option Addr} {m c : Nat} {xs : List Int} {b : Option Addr} {m' d : Nat} {ys : List Int} {w : World} (h : IsWords w (.slice a m c) xs) (hx : Wd xs) (k : IsWords w (.slice b m' d) ys) (hy : Wd ys) (hm : m ≤ 1000000000) (hm' : m' ≤ 1000000000) (r : Bool) (hr : decide (Nat.gcd (val xs) (val ys) = 1) = r) :
    Calls Try.prog 17 #[.slice a m c, .slice b m' d] w fun e w' => e = .returned (.bool r) ∧ Below w.heap.size w w' := by
  have G := common_gcd h hx k hy hm hm' _ rfl
  unfold Ans at G
  have hr2 : Nat.gcd (val xs) (val ys) = 1 ↔ r = true := by rw [← hr]; simp
  clear hr
  generalize Nat.gcd (val xs) (val ys) = g at G hr2
  have O := fun v => nat_of 1 v (by omega) (by omega)
  unfold Ans at O
  rw [show (1 : Int).toNat = 1 from rfl] at O
  have C := fun v a1 c1 a2 c2 (p : IsWords v (.slice a1 (nl g) c1) (natOf g)) (q : IsWords v (.slice a2 (nl 1) c2) (natOf 1)) => nat_cmp' p (wd_natOf g) q (wd_natOf 1) (sgn g 1) (by rw [val_natOf, val_natOf]; rfl)
  have hs : decide (sgn (g : Int) 1 = 0) = r := by
    rw [Bool.eq_iff_iff]
    simp only [decide_eq_true_eq]
    rw [← hr2]
    rcases Int.lt_trichotomy (g : Int) 1 with h | h | h
    · rw [sgn_lt h]; omega
    · rw [sgn_eq h]; omega
    · rw [sgn_gt h]; omega
  generalize sgn (g : Int) 1 = s at C hs
  generalize nl 1 = k1 at O C
  generalize natOf 1 = z1 at O C
  clear h k hx hy hm hm' hr2
  go_enter Try.func17, Try.ntmps17
  go_wp2_with (first
    | (go_at_call 14; (with_reducible refine Calls.mono G ?_); rintro e w1 ⟨a1, c1, rfl, o1⟩)
    | (go_at_call 33; (with_reducible refine Calls.mono (O w1) ?_); rintro e w2 ⟨a2, c2, rfl, o2⟩)
    | (go_at_call 32; (with_reducible refine Calls.mono (C w2 _ _ _ _ (o1.more o2.below).words o2.words) ?_); rintro e w3 ⟨rfl, b3⟩))
  go_ret
  exact ⟨ret_bool (by rw [← hs]; rw [Bool.eq_iff_iff]; simp), below_more (below_more o1.below o2.below) b3⟩

set_option maxHeartbeats 1000000 in
theorem common_lowest {a : Option Addr} {m c : Nat} {xs : List Int} {b : Option Addr} {m' d : Nat} {ys : List Int} {w : World} (h : IsWords w (.slice a m c) xs) (hx : Wd xs) (k : IsWords w (.slice b m' d) ys) (hy : Wd ys) (hm : m ≤ 1000000000) (hm' : m' ≤ 1000000000) (A B : Nat) (hA : val xs = A) (hB : val ys = B) :
    Calls Try.prog 12 #[.slice a m c, .slice b m' d] w (AnsDivB w (low1 A B) (B / Nat.gcd A B) (decide (0 < B))) := by
  have N := nat_bits' k hy (by omega) _ rfl
  rw [hB] at N
  rcases Nat.eq_zero_or_pos B with h0 | h0
  · subst h0
    rw [nbits_zero, show ((0 : Nat) : Int) = 0 from rfl] at N
    rw [show low1 A 0 = 0 from rfl, Nat.zero_div, show decide (0 < 0) = false from rfl]
    have E := nil_nl (Below.refl w.heap.size w)
    unfold AnsDivB
    rw [nl_zero] at E ⊢
    clear h k hx hy hm hm' hA hB
    go_enter Try.func12, Try.ntmps12
    go_wp2_with (go_at_call 18; (with_reducible refine Calls.mono N ?_); rintro e w1 ⟨rfl, rfl⟩)
    go_ret3
    exact ⟨_, _, _, _, rfl, E, E⟩
  · have hb0 : ((nbits B : Int) == 0) = false := by
      have := lt_nbits B
      have : nbits B ≠ 0 := fun e => by rw [e] at this; omega
      simp; omega
    have e1 : low1 A B = A / Nat.gcd A B := if_neg (by omega)
    rw [e1, show decide (0 < B) = true from decide_eq_true h0]
    have G := common_gcd h hx k hy hm hm' (Nat.gcd A B) (by rw [hA, hB])
    unfold Ans at G
    have hg : 0 < Nat.gcd A B := Nat.gcd_pos_of_pos_right _ h0
    have D1 := fun v g1 c1 (hb : Below w.heap.size w v) (hg : IsWords v (.slice g1 (nl (Nat.gcd A B)) c1) (natOf (Nat.gcd A B))) => split_div_any (h.below hb) hx hg (wd_natOf _) (by omega) A (Nat.gcd A B) hA (val_natOf _)
    have D2 := fun v g1 c1 (hb : Below w.heap.size w v) (hg : IsWords v (.slice g1 (nl (Nat.gcd A B)) c1) (natOf (Nat.gcd A B))) => split_div_any (k.below hb) hy hg (wd_natOf _) (by omega) B (Nat.gcd A B) hB (val_natOf _)
    unfold AnsDivB at D1 D2 ⊢
    generalize A / Nat.gcd A B = X at D1 ⊢
    generalize B / Nat.gcd A B = Y at D2 ⊢
    generalize rest A (Nat.gcd A B) = R1 at D1
    generalize rest B (Nat.gcd A B) = R2 at D2
    generalize decide (0 < Nat.gcd A B) = r at D1 D2
    generalize Nat.gcd A B = g at G D1 D2
    generalize (nbits B : Int) = nb at N hb0
    clear h k hx hy hm hm' hA hB hg e1 h0
    go_enter Try.func12, Try.ntmps12
    go_wp2_with (first
      | (go_at_call 18; (with_reducible refine Calls.mono N ?_); rintro e w1 ⟨rfl, rfl⟩)
      | (go_at_call 14; (with_reducible refine Calls.mono G ?_); rintro e w1 ⟨a1, c1, rfl, o1⟩)
      | (go_at_call 19; (with_reducible refine Calls.mono (D1 w1 _ _ o1.below o1.words) ?_); rintro e w2 ⟨a2, c2, a3, c3, rfl, o2, o3⟩)
      | (go_at_call 19; (with_reducible refine Calls.mono (D2 w2 _ _ (below_more o1.below o2.below) (o1.more o2.below).words) ?_); rintro e w3 ⟨a4, c4, a5, c5, rfl, o4, o5⟩))
    go_ret3
    exact ⟨_, _, _, _, rfl, (o2.more o4.below).outer o1.below, o4.outer (below_more o1.below o2.below)⟩
end Go.Proofs.Ytpcfelknjcggiaa
