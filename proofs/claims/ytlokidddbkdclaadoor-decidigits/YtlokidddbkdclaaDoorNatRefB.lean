/-
  Contracts of the document's own answers for numbers (package talwegref02: Trim, Of, Small, Bits), for every list of words and every number: as numbers; memory that was there stays, and what is answered is the call's own.
-/
import Derived.Test.YtlokidddbkdclaaDoorNatRef
namespace Go.Proofs.YtlokidddbkdclaaDoor
open Go.RowKit

theorem ref_low_nl (a : Option Addr) (n c : Nat) (zs : List Int) (w : World) (h : IsWords w (.slice a n c) zs) (hz : Wd zs) :
    Calls Tryd.prog 46 #[.slice a n c] w fun e w' => e = .returned (.int .i64 (nl (val zs))) ∧ w = w' := by
  have C := ref_low a n c zs w h.reads.1 h.reads.2
  rw [(h.low hz).1] at C
  exact C

theorem take_snoc {zs : List Int} {k : Nat} (h : k < zs.length) : zs.take k ++ [zs.getD k 0] = zs.take (k + 1) := by
  rw [List.take_succ_eq_append_getElem h]; simp [List.getD_eq_getElem?_getD, h]

set_option maxHeartbeats 1000000 in
theorem ref_trim (a : Option Addr) (n c : Nat) (zs : List Int) (w : World) (h : IsWords w (.slice a n c) zs) (hz : Wd zs) (hn : n ≤ 1000000000000) :
    Calls Tryd.prog 26 #[.slice a n c] w (Ans w (val zs)) := by
  have C := ref_low_nl a n c zs w h hz
  have hl := h.low hz
  have hL := hl.2.2
  have hr := h.reads.1
  have HE : Hid (zs.take (nl (val zs)) = natOf (val zs)) := hl.2.1
  unfold Ans
  generalize nl (val zs) = L at C hL HE
  clear hl h hz
  go_enter Tryd.func26, Tryd.ntmps26
  go_wp2_with (go_at_call 46; with_reducible refine Calls.mono C ?_; rintro e w1 ⟨rfl, rfl⟩)
  clear C
  go_loopw [4, 5] (fun s i v => ∃ (k : Nat) (oa : Option Addr) (oc : Nat), k ≤ L ∧ i = .int .i64 k ∧ s = .slice oa k oc ∧ Own w v (.slice oa k oc) k (zs.take k)) (fun _ i _ => L - (intOf i).toNat)
  case atStart => exact ⟨0, none, 0, by omega, rfl, rfl, Own.nil (Below.refl _ _)⟩
  case round =>
    obtain ⟨k, oa, oc, hk, rfl, rfl, o⟩ := hrel
    by_cases hlt : k < L
    · rcases hr.2 with h0 | ⟨b1, o1, rfl, hc1⟩
      · omega
      have h1 := hc1 k (by omega)
      rw [← o.below.cell (p := ⟨b1, o1 + k, none⟩) (World.block_lt_of_cell? w _ h1)] at h1
      have HT : Hid (zs.take k ++ [zs.getD k 0] = zs.take (k + 1)) := take_snoc (by rw [hr.1]; omega)
      clear hc1 hr
      generalize zs.getD k 0 = z at h1 HT
      generalize zs.take k = xs at o HT
      go_wp2_with (first
        | (at_builtin; refine wpl_append_words (.tmp 13) (.tmp 18) rfl rfl w _ _ _ k 1 xs [z] rfl rfl (o.alloc _) (lit_words _ [z] 1 rfl (by decide)) rfl (k + 1) rfl (by omega) ?_; intro a1 c1 w1 o1 g1))
      go_roundw
      case rel => exact ⟨k + 1, a1, c1, by omega, by go_num, rfl, by rw [← HT.out]; exact o1⟩
      case measure => simp [intOf]; omega
    · obtain rfl : k = L := by omega
      rw [HE.out] at o
      clear hr HE
      go_wp2
      go_ret
      exact ⟨_, _, rfl, o⟩



end Go.Proofs.YtlokidddbkdclaaDoor
