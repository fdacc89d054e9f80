/-
  The chapter's examples of package common come out as told (function awake of the statements); memory that was there stays.
-/
import Derived.Test.YtpcfelknjcggiaaCommonF
import Derived.Test.YtpcfelknjcggiaaNatRef
namespace Go.Proofs.Ytpcfelknjcggiaa
open Go.RowKit

set_option maxHeartbeats 4000000 in
theorem common_awake (w : World) : Calls Try.prog 8 #[] w fun e w' => e = .returned (.bool true) ∧ Below w.heap.size w w' := by
  have W12 : Wd [12] := wd_one (by omega) (by omega)
  have W18 : Wd [18] := wd_one (by omega) (by omega)
  have v12 : val [12] = 12 := by simp [val]
  have v18 : val [18] = 18 := by simp [val]
  have L := fun v (p : IsWords v (.slice (some ⟨w.heap.size, 0, none⟩) 1 1) [12]) (q : IsWords v (.slice (some ⟨w.heap.size + 1, 0, none⟩) 1 1) [18]) => common_lowest p W12 q W18 (by omega) (by omega) 12 18 v12 v18
  have G := fun v (p : IsWords v (.slice (some ⟨w.heap.size, 0, none⟩) 1 1) [12]) (q : IsWords v (.slice (some ⟨w.heap.size + 1, 0, none⟩) 1 1) [18]) => common_gcd p W12 q W18 (by omega) (by omega) 6 (by rw [v12, v18]; rfl)
  have M := fun v (p : IsWords v (.slice (some ⟨w.heap.size, 0, none⟩) 1 1) [12]) (q : IsWords v (.slice (some ⟨w.heap.size + 1, 0, none⟩) 1 1) [18]) => common_lcm p W12 q W18 (by omega) (by omega) 12 18 v12 v18
  have AP := fun v a1 c1 a2 c2 (p : IsWords v (.slice a1 1 c1) [2]) (q : IsWords v (.slice a2 1 c2) [3]) => common_apart p (wd_one (by omega) (by omega)) q (wd_one (by omega) (by omega)) (by omega) (by omega) true (by simp [val])
  obtain ⟨n2, l2⟩ := nat_word1 (x := 2) (by omega) (by omega)
  obtain ⟨n3, l3⟩ := nat_word1 (x := 3) (by omega) (by omega)
  obtain ⟨n6, l6⟩ := nat_word1 (x := 6) (by omega) (by omega)
  obtain ⟨n36, l36⟩ := nat_word1 (x := 36) (by omega) (by omega)
  unfold AnsDivB at L
  unfold Ans at G M
  simp only [show low1 12 18 = 2 from rfl, show 18 / Nat.gcd 12 18 = 3 from rfl, show decide (0 < 18) = true from rfl, l2, n2, l3, n3, show ((2 : Nat) : Int) = 2 from rfl, show ((3 : Nat) : Int) = 3 from rfl] at L
  simp only [l6, n6, show ((6 : Nat) : Int) = 6 from rfl] at G
  simp only [show 12 / Nat.gcd 12 18 * 18 = 36 from rfl, l36, n36, show ((36 : Nat) : Int) = 36 from rfl] at M
  clear n2 l2 n3 l3 n6 l6 n36 l36 v12 v18 W12 W18
  have L2 := fun v => lit_words v [2] 1 rfl (by decide)
  have L3 := fun v => lit_words v [3] 1 rfl (by decide)
  have L6 := fun v => lit_words v [6] 1 rfl (by decide)
  have L36 := fun v => lit_words v [36] 1 rfl (by decide)
  have P := lit_words2 w [12] [18] 1 1 rfl rfl (by decide)
  have Q := lit_words (w.alloc (.cells ([12].map (Value.int .u32)).toArray 27)) [18] 1 rfl (by decide)
  simp only [List.map_cons, List.map_nil] at L2 L3 L6 L36 P Q
  rw [World.size_alloc] at Q
  have bV : Below w.heap.size w ((w.alloc (.cells #[.int .u32 12] 27)).alloc (.cells #[.int .u32 18] 27)) := ((Below.refl _ w).alloc (Nat.le_refl _) _).alloc (by simp) _
  go_enter Try.func8, Try.ntmps8
  go_wp2_with (first
    | (go_at_call 12; (with_reducible refine Calls.mono (L _ P Q) ?_); rintro e w1 ⟨a1, c1, a2, c2, rfl, o1, o2⟩; have P1 := P.below o1.below; have Q1 := Q.below o1.below; have b1 := below_more bV o1.below; have b0 := bV; clear P Q bV)
    | (go_at_call 14; (with_reducible refine Calls.mono (G _ P1 Q1) ?_); rintro e w2 ⟨a3, c3, rfl, o3⟩; have P2 := P1.below o3.below; have Q2 := Q1.below o3.below; have b2 := below_more b1 o3.below; have x2 := o1.more o3.below; have y2 := o2.more o3.below)
    | (go_at_call 11; (with_reducible refine Calls.mono (ref_words _ _ _ _ _ _ _ _ _ (o3.alloc _).words (L6 w2) true (by simp)) ?_); rintro e w3 ⟨rfl, b3⟩; have a3 := Below.refl w2.heap.size w2 |>.alloc (Nat.le_refl _) (.cells #[.int .u32 6] 27); have d3 := below_more a3 b3; have P3 := P2.below d3; have Q3 := Q2.below d3; have x3 := x2.more d3; have y3 := y2.more d3; have b3' := below_more b2 d3)
    | (go_at_call 15; (with_reducible refine Calls.mono (M _ P3 Q3) ?_); rintro e w4 ⟨a4, c4, rfl, o4⟩; have x4 := x3.more o4.below; have y4 := y3.more o4.below; have b4 := below_more b3' o4.below)
    | (go_at_call 11; (with_reducible refine Calls.mono (ref_words _ _ _ _ _ _ _ _ _ (o4.alloc _).words (L36 w4) true (by simp)) ?_); rintro e w5 ⟨rfl, b5⟩; have x5 := (x4.alloc _).more b5; have y5 := (y4.alloc _).more b5)
    | (go_at_call 11; (with_reducible refine Calls.mono (ref_words _ _ _ _ _ _ _ _ _ (x5.alloc _).words (L2 w5) true (by simp)) ?_); rintro e w6 ⟨rfl, b6⟩; have x6 := (x5.alloc _).more b6; have y6 := (y5.alloc _).more b6)
    | (go_at_call 11; (with_reducible refine Calls.mono (ref_words _ _ _ _ _ _ _ _ _ (y6.alloc _).words (L3 w6) true (by simp)) ?_); rintro e w7 ⟨rfl, b7⟩; have x7 := (x6.alloc _).more b7; have y7 := (y6.alloc _).more b7)
    | (go_at_call 17; (with_reducible refine Calls.mono (AP w7 _ _ _ _ x7.words y7.words) ?_); rintro e w8 ⟨rfl, b8⟩; have x8 := x7.more b8))
  go_ret
  exact ⟨rfl, below_more b0 x8.below⟩
end Go.Proofs.Ytpcfelknjcggiaa
