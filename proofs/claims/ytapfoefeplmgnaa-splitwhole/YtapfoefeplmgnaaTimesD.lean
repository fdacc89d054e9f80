/-
  Contract of package times's function Shift, for every list of words and every number of bits: the list of the number times the power of two; memory that was there stays, and what is answered is the call's own.
-/
import Derived.Test.YtapfoefeplmgnaaTimesB
import Derived.Deep.RegionWith
import Derived.Deep.DrawnRows
namespace Go.Proofs.Ytapfoefeplmgnaa
open Go.RowKit
attribute [local go_sem ↓] Go.wp_at_zero Go.wp_at_succ

theorem times_cut' (g M t n : Nat) (T : Int) (w : World) (hT : T = t) (h : t + n + 1 ≤ M) (hM : M ≤ 35184372088832) :
    Calls Try.prog 44 #[.slice (some ⟨g, 0, none⟩) M M, .int .i64 T, .int .i64 n] w fun e w' => e = .returned (.slice (some ⟨g, t, none⟩) (n + 1) (n + 1)) ∧ w = w' := by
  subst hT; exact times_cut g M t n w h hM

set_option maxHeartbeats 2000000 in
/-- N is the number of bits that counts. -/
theorem times_shift (a : Option Addr) (n c : Nat) (zs : List Int) (s : Int) (w : World) (h : IsWords w (.slice a n c) zs) (hz : Wd zs) (hn : n ≤ 1000000000000) (N : Int) (hN : s ≤ 0 ∧ N = 0 ∨ 0 ≤ s ∧ s ≤ 100000 ∧ N = s ∨ 100000 ≤ s ∧ N = 100000) :
    Calls Try.prog 29 #[.slice a n c, .int .i64 s] w (Ans w (val zs * 2 ^ N.toNat)) := by
  have R1 := times_right a n c zs w h hz
  have S1 := h.right hz
  have b1 := (h.low hz).2.2
  have hv := lt_nl (val zs)
  have wP := wd_natOf (val zs)
  have EV : Hid (val (natOf (val zs)) = val zs) := val_natOf (val zs)
  clear h hz
  generalize val zs = A at *
  generalize nl A = L at R1 S1 b1 hv
  generalize natOf A = ps at S1 wP EV
  have HV : Hid (A < 4294967296 ^ L) := hv
  clear hv
  obtain ⟨p, hp1, hp2⟩ : ∃ p : Nat, (p : Int) ≤ N / 32 ∧ N / 32 ≤ p := ⟨(N / 32).toNat, by omega, by omega⟩
  obtain ⟨r, hr1, hr2⟩ : ∃ r : Nat, (r : Int) ≤ N % 32 ∧ N % 32 ≤ r := ⟨(N % 32).toNat, by omega, by omega⟩
  obtain ⟨M, hM1, hM2⟩ : ∃ M : Nat, M ≤ p + L + 1 ∧ p + L + 1 ≤ M := ⟨_, Nat.le_refl _, Nat.le_refl _⟩
  have r32 : r < 32 := by omega
  have X1 : 2 ^ r < 4294967296 := Nat.pow_lt_pow_right (n := 32) (a := 2) (by omega) r32
  have HE : Hid (A * 2 ^ r * 4294967296 ^ p = A * 2 ^ N.toNat) := by
    show _ = _
    rw [pow_word, Nat.mul_assoc, ← Nat.pow_add]
    congr 2; omega
  have HF : Hid (A * 2 ^ r * 4294967296 ^ p < 4294967296 ^ (p + L + 1)) := by
    have h1 := one_fits (n := L) HV.out X1 (c := 0) (by omega)
    rw [Nat.zero_add] at h1
    rw [show p + L + 1 = (L + 1) + p by omega, Nat.pow_add _ (L + 1) p]
    exact Nat.mul_lt_mul_of_pos_right h1 (Nat.pow_pos (by omega))
  have CT := fun (T : Int) (hT : T = p) g v => times_cut' g M p L T v hT (by omega) (by omega)
  have K := fun g v (X : Int) (hX : X = (2 ^ r : Nat)) (o : Own w v (.slice (some ⟨g, 0, none⟩) M M) M (List.replicate M 0)) => times_line w g M p L c _ a ps X v o (wd_zeros M) S1 wP (by rw [hX]; exact Int.natCast_nonneg _) (by rw [hX]; exact Int.ofNat_lt.2 X1) (by omega) (by omega) (by rw [val_zeros, EV.out, hX, Int.toNat_natCast, Nat.zero_add]; exact HF.out)
  have RR := fun g v (rs : List Int) (o : Own w v (.slice (some ⟨g, 0, none⟩) M M) M rs) (hr : Wd rs) => times_right _ _ _ rs v o.words hr
  rcases (by omega : s < 0 ∧ N = 0 ∨ 0 ≤ s ∧ s ≤ 100000 ∧ N = s ∨ 100000 < s ∧ N = 100000) with ⟨hs, hN⟩ | ⟨hs0, hs1, hN⟩ | ⟨hs, hN⟩
  case' inl => have XW : Hid (IntKind.u32.wrap 1 = (2 ^ r : Nat)) := by show _ = _; rw [show r = 0 by omega]; rfl
  case' inr.inl =>
    have ht : s.tmod 32 = r := by rw [Int.tmod_eq_emod_of_nonneg hs0]; omega
    have XW : Hid (IntKind.u32.wrap (2 ^ r) = (2 ^ r : Nat)) := by
      show _ = _
      have e : ((2 ^ r : Nat) : Int) = 2 ^ r := by simp
      rw [← e, IntKind.wrap_u32]
      generalize 2 ^ r = x at X1 ⊢
      omega
  case' inr.inr => have XW : Hid (IntKind.u32.wrap 1 = (2 ^ r : Nat)) := by show _ = _; rw [show r = 0 by omega]; rfl
  all_goals
    have hN1 : s < 0 ∧ N ≤ 0 ∨ 0 ≤ s ∧ s ≤ 100000 ∧ N ≤ s ∧ s ≤ N ∨ 100000 < s ∧ 100000 ≤ N := by omega
    clear hN
    go_enter Try.func29, Try.ntmps29
    go_wp2_with (first
      | (go_at_call 42; with_reducible refine Calls.mono R1 ?_; rintro e w1 ⟨rfl, rfl⟩)
      | (at_make; refine wpl_make_words (.tmp 18) rfl rfl w w M _ rfl (by omega) (by omega) (Below.refl _ _) ?_; intro g w1 hg o1))
    go_region_with (first
      | (go_at_call 44; (with_reducible refine Calls.mono (CT _ (by omega) _ _) ?_); rintro e w3 ⟨rfl, rfl⟩)
      | (go_at_call 43; (with_reducible refine Calls.mono (K _ _ _ XW.out o1.drew) ?_); rintro e w4 ⟨rfl, rs, o4, h4, E4⟩; have E5 : Hid (val rs = A * 2 ^ N.toNat) := (by show _ = _; rw [E4, val_zeros, EV.out, XW.out, Int.toNat_natCast, Nat.zero_add]; exact HE.out); clear E4))
    all_goals
      go_wp2_with (first
        | (go_at_call 42; (with_reducible refine Calls.mono (RR _ _ _ o4 h4) ?_); rintro e w5 ⟨rfl, rfl⟩))
      go_ret
      have o6 := o4.right h4
      rw [E5.out] at o6 ⊢
      exact ⟨_, _, rfl, o6⟩
end Go.Proofs.Ytapfoefeplmgnaa
