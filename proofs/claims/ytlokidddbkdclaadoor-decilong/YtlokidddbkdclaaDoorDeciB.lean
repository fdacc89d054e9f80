/-
  Contract of package deci's function groups, for every list of up to a million words: the number's digits by nine, the lowest ones first; memory that was there stays.
-/
import Derived.Test.YtlokidddbkdclaaDoorDeciPad
import Derived.Test.YtlokidddbkdclaaDoorDeciRef
import Derived.Test.YtlokidddbkdclaaDoorRowW
namespace Go.Proofs.YtlokidddbkdclaaDoor
open Go.RowKit

/-- Words that are a number's digits by nine, the lowest ones first: m of them. -/
def Grps (N m : Nat) (zs : List Int) : Prop := zs.length = m ∧ ∀ i, i < m → zs.getD i 0 = ((N / 1000000000 ^ i % 1000000000 : Nat) : Int)

theorem grps_nil (N : Nat) : Grps N 0 [] := ⟨rfl, fun i h => absurd h (Nat.not_lt_zero i)⟩
theorem grps_more {N m : Nat} {zs : List Int} (h : Grps N m zs) : Grps N (m + 1) (zs ++ [((N / 1000000000 ^ m % 1000000000 : Nat) : Int)]) := by
  refine ⟨by rw [List.length_append, h.1, List.length_singleton], fun i hi => ?_⟩
  rcases Nat.lt_or_ge i m with h1 | h1
  · rw [List.getD_eq_getElem?_getD, List.getElem?_append_left (by rw [h.1]; exact h1), ← List.getD_eq_getElem?_getD]; exact h.2 i h1
  · obtain rfl : i = m := by omega
    rw [List.getD_eq_getElem?_getD, List.getElem?_append_right (by rw [h.1]; exact Nat.le_refl _), h.1, Nat.sub_self]; rfl
/-- As long as something is left there are fewer than two groups a word. -/
theorem grps_few {N m : Nat} (h : 0 < N / 1000000000 ^ m) : m < 2 * nl N := by
  have h1 : 1000000000 ^ m ≤ N := by
    rcases Nat.lt_or_ge N (1000000000 ^ m) with h2 | h2
    · rw [Nat.div_eq_of_lt h2] at h; omega
    · exact h2
  have h2 : 65536 ^ m ≤ 1000000000 ^ m := Nat.pow_le_pow_left (by omega) m
  have h3 := lt_nl N
  have h4 : 4294967296 ^ nl N = 65536 ^ (2 * nl N) := by rw [Nat.pow_mul]
  rw [h4] at h3
  exact (Nat.pow_lt_pow_iff_right (by omega : 1 < 65536)).1 (by omega)

set_option maxHeartbeats 4000000 in
theorem deci_groups {a : Option Addr} {n c : Nat} {zs : List Int} {w : World} (h : IsWords w (.slice a n c) zs) (hz : Wd zs) (hn : n ≤ 1000000) (N : Nat) (hN : val zs = N) :
    Calls Tryd.prog 29 #[.slice a n c] w fun e w' => ∃ (a' : Option Addr) (m c' : Nat) (ys : List Int), e = .returned (.slice a' m c') ∧ Own w w' (.slice a' m c') m ys ∧ Grps N m ys ∧ N < 1000000000 ^ m ∧ m ≤ 2000000 := by
  have lN : nl N ≤ 1000000 := by rw [← hN]; exact nl_small hz _ (by rw [h.len]; exact hn)
  have HL : Hid (nl N ≤ 1000000) := lN
  have HI : Hid (IsWords w (.slice a n c) zs ∧ Wd zs ∧ n ≤ 1000000 ∧ val zs = N) := ⟨h, hz, hn, hN⟩
  clear h hz hn hN lN
  go_enter Tryd.func29, Tryd.ntmps29
  go_wp2
  go_loopg [0, 3] N (fun X s0 s3 v => ∃ (a0 : Option Addr) (n0 c0 : Nat) (xs : List Int) (a3 : Option Addr) (m c3 : Nat) (ys : List Int), s0 = .slice a0 n0 c0 ∧ s3 = .slice a3 m c3 ∧ IsWords v (.slice a0 n0 c0) xs ∧ Wd xs ∧ n0 ≤ 1000000 ∧ val xs = X ∧ Own w v (.slice a3 m c3) m ys ∧ Grps N m ys ∧ X = N / 1000000000 ^ m ∧ m ≤ 2000000)
  case atStart =>
    obtain ⟨i1, i2, i3, i4⟩ := HI.out
    exact ⟨_, _, _, zs, none, 0, 0, [], rfl, rfl, i1, i2, i3, i4, Own.nil (Below.refl _ _), grps_nil N, by simp, by omega⟩
  case round =>
    obtain ⟨a0, n0, c0, xs, a3, m, c3, ys, rfl, rfl, i0, hw, hn0, hX, o3, hg, hX2, hm⟩ := hrel
    clear HI
    have B1 := fun (N1 : Int) (e : (nbits (val xs) : Int) = N1) => nat_bits' i0 hw (by omega) N1 e
    rw [hX] at B1
    rcases Nat.eq_zero_or_pos gk with h0 | h0
    · subst h0
      have B2 := B1 0 (by rw [nbits_zero]; rfl)
      have HQ : Hid (N < 1000000000 ^ m) := by
        show N < _
        rcases Nat.lt_or_ge N (1000000000 ^ m) with h2 | h2
        · exact h2
        · have := Nat.div_pos h2 (Nat.pow_pos (by omega)); omega
      clear B1 hX2 hX i0 hw
      go_wp2_with (go_at_call 18; (with_reducible refine Calls.mono B2 ?_); rintro e w1 ⟨rfl, rfl⟩)
      go_ret
      exact ⟨_, _, _, ys, rfl, o3, hg, HQ.out, hm⟩
    · obtain ⟨nb, hnb, nb0⟩ : ∃ nb : Int, (nbits gk : Int) = nb ∧ 0 < nb := ⟨_, rfl, by rw [nbits_pos (by omega)]; omega⟩
      have B2 := B1 nb hnb
      have S := split_small a0 n0 c0 xs 1000000000 wr i0 hw (by omega) (by omega) (by omega)
      rw [hX, show (1000000000 : Int).toNat = 1000000000 from rfl] at S
      unfold AnsSmall at S
      have hlt : m < 2 * nl N := grps_few (by rw [← hX2]; exact h0)
      obtain ⟨r, hr⟩ : ∃ r : Int, ((gk % 1000000000 : Nat) : Int) = r := ⟨_, rfl⟩
      have HG : Hid (Grps N (m + 1) (ys ++ [r])) := by
        show Grps N (m + 1) _
        rw [← hr, hX2]; exact grps_more hg
      have HX : Hid (gk / 1000000000 = N / 1000000000 ^ (m + 1)) := by
        show _ = _
        rw [hX2, Nat.pow_succ, Nat.div_div_eq_div_mul]
      have HM : Hid (m + 1 ≤ 2000000 ∧ nl (gk / 1000000000) ≤ 1000000 ∧ 0 < gk) := ⟨by have := HL.out; omega, Nat.le_trans (nl_mono (Nat.le_trans (Nat.div_le_self _ _) (by rw [hX2]; exact Nat.div_le_self _ _))) HL.out, h0⟩
      have hm1 : m + 1 ≤ 35184372088832 := by omega
      rw [hr] at S
      clear B1 hX2 hX i0 hw hg hr hnb hn0 h0 hlt hm
      go_wp2_with (first
        | (go_at_call 18; (with_reducible refine Calls.mono B2 ?_); rintro e w1 ⟨rfl, rfl⟩)
        | (go_at_call 49; (with_reducible refine Calls.mono S ?_); rintro e w2 ⟨a4, c4, rfl, o4⟩; have o5 := o3.more o4.below)
        | (at_builtin; refine wpl_append_words (.tmp 14) (.tmp 16) rfl rfl w _ _ _ m 1 ys [r] rfl rfl (o5.alloc _) (lit_words w2 [r] 1 rfl (by decide)) rfl (m + 1) rfl hm1 ?_; intro a6 c6 w6 o6 g6))
      obtain ⟨m1, m2, m3⟩ := HM.out
      go_roundg (gk / 1000000000)
      case measure => omega
      case rel =>
        have r4 : Row wr.heap.size w6 (.slice a4 (nl (gk / 1000000000)) c4) (nl (gk / 1000000000)) (natOf (gk / 1000000000)) := ((o4.alloc _).row (Nat.le_refl _)).grown g6 (fun k hk => o3.row_lt k hk)
        exact ⟨_, _, _, _, _, _, _, _, rfl, rfl, r4.words, wd_natOf _, m2, val_natOf _, o6, HG.out, HX.out, m1⟩
end Go.Proofs.YtlokidddbkdclaaDoor
