/-
  The chapter's examples of package times come out as told (function awake of the statements); memory that was there stays.
-/
import Derived.Test.YtglidhiabdnfeaaNatMore
import Derived.Test.YtglidhiabdnfeaaNatRef
import Derived.Test.YtglidhiabdnfeaaTimesC
import Derived.Test.YtglidhiabdnfeaaTimesD
namespace Go.Proofs.Ytglidhiabdnfeaa
open Go.RowKit

theorem nat_square : natOf 18446744065119617025 = [1, 4294967294] := natOf_lit [1, 4294967294] (wd_cons' (by omega) (by omega) (wd_one (by omega) (by omega))) (by simp [val]) (by simp [lowN])
theorem nat_1000 : natOf 1000 = [1000] := natOf_lit [1000] (wd_one (by omega) (by omega)) (by simp [val]) (by simp [lowN])
theorem nat_16 : natOf 16 = [16] := natOf_lit [16] (wd_one (by omega) (by omega)) (by simp [val]) (by simp [lowN])
theorem nat_up : natOf 12884901888 = [0, 3] := natOf_lit [0, 3] (wd_cons' (by omega) (by omega) (wd_one (by omega) (by omega))) (by simp [val]) (by simp [lowN])

set_option maxHeartbeats 4000000 in
theorem times_awake (w : World) : Calls Try.prog 9 #[] w fun e w' => e = .returned (.bool true) ∧ Below w.heap.size w w' := by
  have A := times_mul _ 1 1 [4294967295] _ 1 1 [4294967295] _ (lit_words2 w [4294967295] [4294967295] 1 1 rfl rfl (by decide)) (wd_one (by omega) (by omega)) (lit_words _ [4294967295] 1 rfl (by decide)) (wd_one (by omega) (by omega)) (by omega) (by omega)
  have hs : val [4294967295] * val [4294967295] = 18446744065119617025 := by simp [val]
  have P := fun v => times_pow _ 1 1 [10] 3 _ (lit_words v [10] 1 rfl (by decide)) (wd_one (by omega) (by omega)) (by omega) (by omega) (by omega) (.inr (by
    have h1 := nl_val_le [10] (wd_one (by omega) (by omega))
    have h2 : nl (val [10]) * (3 : Int).toNat ≤ 1 * (3 : Int).toNat := Nat.mul_le_mul_right _ h1
    exact Nat.le_trans h2 (by decide)))
  have hp : val [10] ^ (3 : Int).toNat = 1000 := by decide
  have O := fun v => times_one _ 1 1 [3] 5 1 _ (lit_words v [3] 1 rfl (by decide)) (wd_one (by omega) (by omega)) (by omega) (by omega) (by omega) (by omega) (by omega)
  have ho : val [3] * (5 : Int).toNat + (1 : Int).toNat = 16 := by decide
  have S := fun v => times_shift _ 1 1 [3] 32 _ (lit_words v [3] 1 rfl (by decide)) (wd_one (by omega) (by omega)) (by omega) 32 (.inr (.inl ⟨by omega, by omega, rfl⟩))
  have hsh : val [3] * 2 ^ (32 : Int).toNat = 12884901888 := by decide
  have l1 : nl 18446744065119617025 = 2 := by unfold nl; rw [nat_square]; rfl
  have l2 : nl 1000 = 1 := by unfold nl; rw [nat_1000]; rfl
  have l3 : nl 16 = 1 := by unfold nl; rw [nat_16]; rfl
  have l4 : nl 12884901888 = 2 := by unfold nl; rw [nat_up]; rfl
  unfold Ans at A O S
  unfold AnsOk at P
  rw [hs, l1, nat_square] at A
  rw [hp, l2, nat_1000] at P
  rw [ho, l3, nat_16] at O
  rw [hsh, l4, nat_up] at S
  clear hs hp ho hsh l1 l2 l3 l4
  have LA := fun v => lit_words v [1, 4294967294] 2 rfl (by decide)
  have LP := fun v => lit_words v [1000] 1 rfl (by decide)
  have LO := fun v => lit_words v [16] 1 rfl (by decide)
  have LS := fun v => lit_words v [0, 3] 2 rfl (by decide)
  simp only [List.map_cons, List.map_nil] at A P O S LA LP LO LS
  have hsz : (w.alloc (.cells #[.int .u32 4294967295] 23)).heap.size = w.heap.size + 1 := by simp
  rw [hsz] at A
  clear hsz
  go_enter Try.func9, Try.ntmps9
  go_wp2_with (first
    | (go_at_call 12; (with_reducible refine Calls.mono A ?_); rintro e w1 ⟨a1, c1, rfl, o1⟩)
    | (go_at_call 17; (with_reducible refine Calls.mono (P _) ?_); rintro e w2 ⟨a2, c2, rfl, o2⟩; have p2 := (o1.alloc _).more o2.below)
    | (go_at_call 11; (with_reducible refine Calls.mono (ref_words _ _ _ _ _ _ _ _ _ (p2.alloc _).words (LA w2) true (by simp)) ?_); rintro e w3 ⟨rfl, b3⟩; have p3 := (p2.alloc _).more b3; have q3 := (o2.alloc _).more b3)
    | (go_at_call 11; (with_reducible refine Calls.mono (ref_words _ _ _ _ _ _ _ _ _ (q3.alloc _).words (LP w3) true (by simp)) ?_); rintro e w4 ⟨rfl, b4⟩; have p4 := (p3.alloc _).more b4)
    | (go_at_call 14; (with_reducible refine Calls.mono (O _) ?_); rintro e w5 ⟨a5, c5, rfl, o5⟩; have p5 := (p4.alloc _).more o5.below)
    | (go_at_call 11; (with_reducible refine Calls.mono (ref_words _ _ _ _ _ _ _ _ _ (o5.alloc _).words (LO w5) true (by simp)) ?_); rintro e w6 ⟨rfl, b6⟩; have p6 := (p5.alloc _).more b6)
    | (go_at_call 19; (with_reducible refine Calls.mono (S _) ?_); rintro e w7 ⟨a7, c7, rfl, o7⟩; have p7 := (p6.alloc _).more o7.below)
    | (go_at_call 11; (with_reducible refine Calls.mono (ref_words _ _ _ _ _ _ _ _ _ (o7.alloc _).words (LS w7) true (by simp)) ?_); rintro e w8 ⟨rfl, b8⟩; have p8 := (p7.alloc _).more b8))
  go_ret
  refine ⟨rfl, ?_⟩
  exact (((Below.refl _ w).alloc (Nat.le_refl _) _).alloc (by simp) _).trans (p8.below.mono (by simp; omega))
end Go.Proofs.Ytglidhiabdnfeaa
