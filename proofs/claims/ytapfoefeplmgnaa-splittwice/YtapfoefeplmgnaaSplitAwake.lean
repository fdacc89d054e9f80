/-
  The chapter's examples of package split come out as told (function awake of the statements); memory that was there stays.
-/
import Derived.Test.YtapfoefeplmgnaaNatMore
import Derived.Test.YtapfoefeplmgnaaNatRef
import Derived.Test.YtapfoefeplmgnaaSplitG
import Derived.Test.YtapfoefeplmgnaaSplitMore
namespace Go.Proofs.Ytapfoefeplmgnaa
open Go.RowKit

set_option maxHeartbeats 4000000 in
theorem split_awake (w : World) : Calls Try.prog 9 #[] w fun e w' => e = .returned (.bool true) ∧ Below w.heap.size w w' := by
  have A := split_small _ 2 2 [0, 1] 10 _ (lit_words w [0, 1] 2 rfl (by decide)) (wd_cons' (by omega) (by omega) (wd_one (by omega) (by omega))) (by omega) (by omega) (by omega)
  have ha : val [0, 1] / (10 : Int).toNat = 429496729 := by decide
  have ha2 : val [0, 1] % (10 : Int).toNat = 6 := by decide
  have D := fun v => split_div (lit_words2 v [7] [7] 1 1 rfl rfl (by decide)) (wd_one (by omega) (by omega)) (lit_words _ [7] 1 rfl (by decide)) (wd_one (by omega) (by omega)) (by omega) 7 7 (by simp [val]) (by simp [val]) (by omega)
  have H := fun v => split_half _ 1 1 [9] _ (lit_words v [9] 1 rfl (by decide)) (wd_one (by omega) (by omega)) (by omega) 9 (by simp [val])
  have R := fun v => split_root (lit_words v [24] 1 rfl (by decide)) (wd_one (by omega) (by omega)) (by omega) 24 4 (by simp [val]) (by omega) (by omega)
  obtain ⟨n1, l1⟩ := nat_word1 (x := 429496729) (by omega) (by omega)
  obtain ⟨n2, l2⟩ := nat_word1 (x := 1) (by omega) (by omega)
  obtain ⟨n3, l3⟩ := nat_word1 (x := 4) (by omega) (by omega)
  unfold AnsSmall at A
  unfold AnsDiv at D
  unfold Ans at R
  rw [ha, ha2, l1, n1] at A
  simp only [show 7 / 7 = 1 from rfl, show 7 % 7 = 0 from rfl, l2, n2, nl_zero, natOf_zero] at D
  simp only [show 9 / 2 = 4 from rfl, l3, n3] at H
  simp only [l3, n3] at R
  clear ha ha2 l1 l2 l3 n1 n2 n3
  have LA := fun v => lit_words v [429496729] 1 rfl (by decide)
  have LB := fun v => lit_words v [1] 1 rfl (by decide)
  have LC := fun v => lit_words v [4] 1 rfl (by decide)
  simp only [List.map_cons, List.map_nil] at A D H R LA LB LC
  have hsz : ∀ v : World, (v.alloc (.cells #[.int .u32 7] 23)).heap.size = v.heap.size + 1 := fun v => by simp
  simp only [hsz] at D
  clear hsz
  go_enter Try.func9, Try.ntmps9
  go_wp2_with (first
    | (go_at_call 13; (with_reducible refine Calls.mono A ?_); rintro e w1 ⟨a1, c1, rfl, o1⟩)
    | (go_at_call 11; (with_reducible refine Calls.mono (D _) ?_); rintro e w2 ⟨a2, c2, a3, c3, rfl, o2, o2'⟩; have p2 := ((o1.alloc _).alloc _).more o2.below)
    | (go_at_call 23; (with_reducible refine Calls.mono (H _) ?_); rintro e w3 ⟨a4, c4, rfl, o3⟩; have p3 := (p2.alloc _).more o3.below; have q3 := (o2.alloc _).more o3.below)
    | (go_at_call 15; (with_reducible refine Calls.mono (ref_words _ _ _ _ _ _ _ _ _ (p3.alloc _).words (LA w3) true (by simp)) ?_); rintro e w4 ⟨rfl, b4⟩; have p4 := (p3.alloc _).more b4; have q4 := (q3.alloc _).more b4; have h4 := (o3.alloc _).more b4)
    | (go_at_call 15; (with_reducible refine Calls.mono (ref_words _ _ _ _ _ _ _ _ _ (q4.alloc _).words (LB w4) true (by simp)) ?_); rintro e w5 ⟨rfl, b5⟩; have p5 := (p4.alloc _).more b5; have h5 := (h4.alloc _).more b5)
    | (go_at_call 15; (with_reducible refine Calls.mono (ref_words _ _ _ _ _ _ _ _ _ (h5.alloc _).words (LC w5) true (by simp)) ?_); rintro e w6 ⟨rfl, b6⟩; have p6 := (p5.alloc _).more b6)
    | (go_at_call 22; (with_reducible refine Calls.mono (R _) ?_); rintro e w7 ⟨a7, c7, rfl, o7⟩; have p7 := (p6.alloc _).more o7.below)
    | (go_at_call 15; (with_reducible refine Calls.mono (ref_words _ _ _ _ _ _ _ _ _ (o7.alloc _).words (LC w7) true (by simp)) ?_); rintro e w8 ⟨rfl, b8⟩; have p8 := (p7.alloc _).more b8))
  go_ret
  refine ⟨rfl, ?_⟩
  exact ((Below.refl _ w).alloc (Nat.le_refl _) _).trans (p8.below.mono (by simp))
end Go.Proofs.Ytapfoefeplmgnaa
