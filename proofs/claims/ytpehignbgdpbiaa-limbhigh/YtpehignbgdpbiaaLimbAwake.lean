/-
  The chapter's examples of package limb come out as told (function awake of the statements); memory that was there stays.
-/
import Derived.Test.YtpehignbgdpbiaaLimbRefDiv
namespace Go.Proofs.Ytpehignbgdpbiaa
open Go.RowKit

theorem bcell {W w1 : World} (hb : Below W.heap.size W w1) : (∀ b o, b < W.heap.size → w1.cell? ⟨b, o, none⟩ = W.cell? ⟨b, o, none⟩) ∧ (∀ b o, b < W.heap.size → w1.frozen? ⟨b, o, none⟩ = W.frozen? ⟨b, o, none⟩) :=
  ⟨fun b o h => hb.cell (p := ⟨b, o, none⟩) h, fun b o h => hb.frozen (p := ⟨b, o, none⟩) h⟩

theorem below_more {a b c : World} (h : Below a.heap.size a b) (k : Below b.heap.size b c) : Below a.heap.size a c := h.trans (k.mono h.size)

theorem reads3 (x y z : Int) (w : World) (t : TypeId) : Reads .u32 (w.alloc (.cells #[.int .u32 x, .int .u32 y, .int .u32 z] t)) (some ⟨w.heap.size, 0, none⟩) 3 [x, y, z] := by
  refine ⟨rfl, .inr ⟨_, _, rfl, fun i hi => ?_⟩⟩
  match i, hi with
  | 0, _ => simp
  | 1, _ => simp
  | 2, _ => simp

set_option maxHeartbeats 1000000 in
theorem limb_awake (w : World) : Calls Try.prog 10 #[] w fun e w' => e = .returned (.bool true) ∧ Below w.heap.size w w' := by
  go_enter Try.func10, Try.ntmps10
  go_wp2_with (first
    | (go_at_call 11; refine (limb_add 4294967295 1 1 _ (by omega) (by omega) (by omega) (by omega) (by omega) (by omega)).mono ?_; rintro e w1 ⟨rfl, b1⟩)
    | (go_at_call 13; refine (limb_sub 0 1 0 _ (by omega) (by omega) (by omega) (by omega) (by omega) (by omega)).mono ?_; rintro e w2 ⟨rfl, b2⟩)
    | (go_at_call 15; refine (limb_mul 2147483648 4 7 0 _ (by omega) (by omega) (by omega) (by omega) (by omega) (by omega) (by omega) (by omega)).mono ?_; rintro e w3 ⟨rfl, b3⟩)
    | (go_at_call 17; refine (limb_div 2 7 4 _ (by omega) (by omega) (by omega) (by omega) (by omega)).mono ?_; rintro e w4 ⟨rfl, b4⟩)
    | (go_at_call 19; refine (limb_bits 5 _ (by omega) (by omega)).mono ?_; rintro e w5 ⟨rfl, rfl⟩)
    | (go_at_call 21; refine (limb_low _ 3 _ [0, 1, 0] _ (reads3 0 1 0 _ _) (by omega)).mono ?_; rintro e w6 ⟨rfl, rfl⟩))
  go_ret
  have b := below_more (below_more (below_more b1 b2) b3) b4
  exact ⟨rfl, b.alloc b.size _⟩
end Go.Proofs.Ytpehignbgdpbiaa
