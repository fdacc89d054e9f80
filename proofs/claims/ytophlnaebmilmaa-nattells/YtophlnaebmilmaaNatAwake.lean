/-
  The chapter's examples of package nat come out as told (function awake of the statements); memory that was there stays.
-/
import Derived.Test.YtophlnaebmilmaaNatMore
import Derived.Test.YtophlnaebmilmaaNatSmall0
import Derived.Test.YtophlnaebmilmaaNatRef
namespace Go.Proofs.Ytophlnaebmilmaa
open Go.RowKit

theorem nat_one : natOf 4294967296 = [0, 1] := natOf_lit [0, 1] (wd_cons' (by omega) (by omega) (wd_one (by omega) (by omega))) (by simp [val]) (by simp [lowN])
theorem nat_five : natOf 4294967301 = [5, 1] := natOf_lit [5, 1] (wd_cons' (by omega) (by omega) (wd_one (by omega) (by omega))) (by simp [val]) (by simp [lowN])

set_option maxHeartbeats 4000000 in
theorem nat_awake (w : World) : Calls Try.prog 9 #[] w fun e w' => e = .returned (.bool true) ∧ Below w.heap.size w w' := by
  have A := nat_add _ 1 1 [4294967295] _ 1 1 [1] _ (lit_words2 w [4294967295] [1] 1 1 rfl rfl (by decide)) (wd_one (by omega) (by omega)) (lit_words _ [1] 1 rfl (by decide)) (wd_one (by omega) (by omega)) (by omega) (by omega)
  have hs : val [4294967295] + val [1] = 4294967296 := by simp [val]
  have hv : val [0, 1] = 4294967296 := by simp [val]
  have hl2 : nl 4294967296 = 2 := by unfold nl; rw [nat_one]; rfl
  have hl3 : nl 4294967301 = 2 := by unfold nl; rw [nat_five]; rfl
  have hw : Wd [0, 1] := wd_cons' (by omega) (by omega) (wd_one (by omega) (by omega))
  have hb : nbits (val [0, 1]) = 33 := by
    rw [nbits_top [0, 1] hw 1 (by simp [lowN])]
    simp [nbits]
  unfold Ans at A
  rw [hs, hl2, nat_one] at A
  have S := fun a c v (h : IsWords v (.slice a 2 c) [0, 1]) => nat_small a 2 c [0, 1] v h hw (by rw [hv]; omega)
  have R := fun a c v (h : IsWords v (.slice a 2 c) [0, 1]) => nat_Right a 2 c [0, 1] v h true (by simp [lowN])
  have B := fun a c v (h : IsWords v (.slice a 2 c) [0, 1]) => nat_bits a 2 c [0, 1] v h hw (by omega)
  have C := fun a c v (h : IsWords v (.slice a 2 c) [0, 1]) => nat_cmp a 2 c [0, 1] none 0 0 [] v h hw (.inl ⟨rfl, rfl⟩) wd_nil
  have O := fun v => nat_of 4294967301 v (by omega) (by omega)
  rw [hb] at B
  rw [hv] at S C
  have hsg : sgn ((4294967296 : Nat) : Int) ((val [] : Nat) : Int) = 1 := sgn_gt (by simp [val])
  rw [hsg] at C
  unfold Ans at O
  rw [show (4294967301 : Int).toNat = 4294967301 from rfl, hl3, nat_five] at O
  clear hs hv hl2 hl3 hw hb hsg
  have L5 := fun v => lit_words v [5, 1] 2 rfl (by decide)
  have L0 := fun v => lit_words v [0, 1] 2 rfl (by decide)
  simp only [List.map_cons, List.map_nil] at A L5 L0
  have hsz : (w.alloc (.cells #[.int .u32 4294967295] 40)).heap.size = w.heap.size + 1 := by simp
  rw [hsz] at A
  clear hsz
  go_enter Try.func9, Try.ntmps9
  go_wp2_with (first
    | (go_at_call 26; (with_reducible refine Calls.mono A ?_); rintro e w1 ⟨a1, c1, rfl, o1⟩)
    | (go_at_call 10; (with_reducible refine Calls.mono (S _ _ _ o1.words) ?_); rintro e v1 ⟨rfl, rfl⟩)
    | (go_at_call 17; (with_reducible refine Calls.mono (O _) ?_); rintro e w2 ⟨a2, c2, rfl, o2⟩; have p2 := o1.more o2.below)
    | (go_at_call 14; (with_reducible refine Calls.mono (ref_words _ _ _ _ _ _ _ _ _ (o2.alloc _).words (L5 w2) true (by simp)) ?_); rintro e w3 ⟨rfl, b3⟩; have p3 := (p2.alloc _).more b3)
    | (go_at_call 14; (with_reducible refine Calls.mono (ref_words _ _ _ _ _ _ _ _ _ (p3.alloc _).words (L0 w3) true (by simp)) ?_); rintro e w4 ⟨rfl, b4⟩; have p4 := (p3.alloc _).more b4)
    | (go_at_call 13; (with_reducible refine Calls.mono (R _ _ _ p4.words) ?_); rintro e v1 ⟨rfl, rfl⟩)
    | (go_at_call 19; (with_reducible refine Calls.mono (B _ _ _ p4.words) ?_); rintro e v1 ⟨rfl, rfl⟩)
    | (go_at_call 24; (with_reducible refine Calls.mono (C _ _ _ p4.words) ?_); rintro e w5 ⟨rfl, b5⟩))
  go_ret
  refine ⟨rfl, ?_⟩
  have h := p4.more b5
  exact (((Below.refl _ w).alloc (Nat.le_refl _) _).alloc (by simp) _).trans (h.below.mono (by simp; omega))
end Go.Proofs.Ytophlnaebmilmaa
