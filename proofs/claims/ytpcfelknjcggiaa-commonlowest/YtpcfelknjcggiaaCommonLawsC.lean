/-
  The walk of the statement CommonLowest: for all lists of words it returns true; memory that was there stays.
-/
import Derived.Test.YtpcfelknjcggiaaCommonLawsA
namespace Go.Proofs.Ytpcfelknjcggiaa
open Go.RowKit

theorem low1_pos {A B : Nat} (h : 0 < B) : low1 A B = A / Nat.gcd A B := if_neg (by omega)
theorem gcd_one_div {A B : Nat} (h : 0 < B) : Nat.gcd (A / Nat.gcd A B) (B / Nat.gcd A B) = 1 := by
  have hg := Nat.gcd_pos_of_pos_right A h
  rw [Nat.gcd_div (Nat.gcd_dvd_left _ _) (Nat.gcd_dvd_right _ _), Nat.div_self hg]
theorem low_cross {A B : Nat} (h : 0 < B) : A / Nat.gcd A B * B = A * (B / Nat.gcd A B) := by
  have hg := Nat.gcd_pos_of_pos_right A h
  obtain ⟨x, hx⟩ := Nat.gcd_dvd_left A B
  obtain ⟨y, hy⟩ := Nat.gcd_dvd_right A B
  generalize Nat.gcd A B = g at *
  subst hx hy
  rw [Nat.mul_div_cancel_left _ hg, Nat.mul_div_cancel_left _ hg]
  grind
theorem low_times {A B C : Nat} (h : 0 < C) : A * C / Nat.gcd (A * C) (B * C) = A / Nat.gcd A B := by
  rw [Nat.gcd_mul_right, Nat.mul_div_mul_right _ _ h]
theorem low_div_pos {A B : Nat} (h : 0 < B) : 0 < B / Nat.gcd A B := Nat.div_pos (Nat.gcd_le_right _ h) (Nat.gcd_pos_of_pos_right A h)

set_option maxHeartbeats 8000000 in
theorem law_CommonLowest (a : Option Addr) (len cap : Nat) (zs : List Int) (b : Option Addr) (len1 cap1 : Nat) (zs1 : List Int) (d : Option Addr) (len2 cap2 : Nat) (zs2 : List Int) (w : World) (h0 : CameIn .u32 w a len cap zs) (h1 : CameIn .u32 w b len1 cap1 zs1) (h2 : CameIn .u32 w d len2 cap2 zs2) :
    Calls Try.prog 7 #[.slice a len cap, .slice b len1 cap1, .slice d len2 cap2] w fun e w' => e = .returned (.bool true) ∧ Below w.heap.size w w' := by
  have P := came_words h0
  have hw := came_wd h0
  have Q := came_words h1
  have gw := came_wd h1
  have D := came_words h2
  have dw := came_wd h2
  generalize zs.take len = xs at P hw
  generalize zs1.take len1 = ys at Q gw
  generalize zs2.take len2 = ds at D dw
  clear h0 h1 h2
  by_cases hf : len ≤ 8 ∧ len1 ≤ 8
  case neg =>
    have F := fun v => ref_few a len cap b len1 cap1 8 v false (by simpa using hf)
    clear P Q D hf
    go_enter Try.func7, Try.ntmps7
    go_wp2_with (first
      | (go_at_call 8; refine (common_awake _).mono ?_; rintro e u0 ⟨rfl, b0⟩)
      | (go_at_call 9; (with_reducible refine Calls.mono (F _) ?_); rintro e v1 ⟨rfl, rfl⟩))
    go_ret
    exact ⟨rfl, b0⟩
  case pos =>
  have F := fun v => ref_few a len cap b len1 cap1 8 v true (by simpa using hf)
  by_cases hd : len2 ≤ 8
  case neg =>
    clear P Q D hf
    go_enter Try.func7, Try.ntmps7
    go_wp2_with (first
      | (go_at_call 8; refine (common_awake _).mono ?_; rintro e u0 ⟨rfl, b0⟩)
      | (go_at_call 9; (with_reducible refine Calls.mono (F _) ?_); rintro e v1 ⟨rfl, rfl⟩))
    go_ret
    exact ⟨rfl, b0⟩
  case pos =>
  have B1 := fun v (q : IsWords v (.slice b len1 cap1) ys) => nat_bits' q gw (by omega) _ rfl
  have B2 := fun v (q : IsWords v (.slice d len2 cap2) ds) => nat_bits' q dw (by omega) _ rfl
  have hb1 : ((nbits (val ys) : Int) == 0) = decide (val ys = 0) := by
    rcases Nat.eq_zero_or_pos (val ys) with e | e
    · rw [e, nbits_zero]; rfl
    · rw [nbits_pos (by omega), decide_eq_false (by omega)]; simp; omega
  have hb2 : ((nbits (val ds) : Int) == 0) = decide (val ds = 0) := by
    rcases Nat.eq_zero_or_pos (val ds) with e | e
    · rw [e, nbits_zero]; rfl
    · rw [nbits_pos (by omega), decide_eq_false (by omega)]; simp; omega
  generalize (nbits (val ys) : Int) = n1 at B1 hb1
  generalize (nbits (val ds) : Int) = n2 at B2 hb2
  by_cases hz : val ys = 0 ∨ val ds = 0
  case pos =>
    rcases (by omega : val ys = 0 ∨ (val ys ≠ 0 ∧ val ds = 0)) with e | ⟨e1, e⟩
    case' inl =>
      rw [decide_eq_true e] at hb1
      clear hb2
    case' inr =>
      rw [decide_eq_true e] at hb2
      rw [decide_eq_false e1] at hb1
    all_goals
      clear hf hz e
      go_enter Try.func7, Try.ntmps7
      go_wp2_with (first
        | (go_at_call 8; refine (common_awake _).mono ?_; rintro e u0 ⟨rfl, b0⟩; have q0 := Q.below b0; have d0 := D.below b0)
        | (go_at_call 9; (with_reducible refine Calls.mono (F _) ?_); rintro e v1 ⟨rfl, rfl⟩)
        | (go_at_call 18; (with_reducible refine Calls.mono (B1 _ q0) ?_); rintro e v1 ⟨rfl, rfl⟩)
        | (go_at_call 18; (with_reducible refine Calls.mono (B2 _ d0) ?_); rintro e v1 ⟨rfl, rfl⟩))
      go_ret
      exact ⟨rfl, b0⟩
  case neg =>
  have hY : 0 < val ys := by omega
  have hC : 0 < val ds := by omega
  rw [decide_eq_false (by omega)] at hb1 hb2
  have lx : nl (val xs) ≤ 8 := nl_small hw _ (by rw [P.len]; omega)
  have ly : nl (val ys) ≤ 8 := nl_small gw _ (by rw [Q.len]; omega)
  have lz : nl (val ds) ≤ 8 := nl_small dw _ (by rw [D.len]; omega)
  have lx2 : nl (val xs / Nat.gcd (val xs) (val ys)) ≤ 8 := Nat.le_trans (nl_mono (Nat.div_le_self _ _)) lx
  have ly2 : nl (val ys / Nat.gcd (val xs) (val ys)) ≤ 8 := Nat.le_trans (nl_mono (Nat.div_le_self _ _)) ly
  have l1 := nl_mul (val xs) (val ds)
  have l2 := nl_mul (val ys) (val ds)
  have h1 := gcd_one_div (A := val xs) hY
  have h2 := low_div_pos (A := val xs) hY
  have h3 : 0 < val ys * val ds := Nat.mul_pos hY hC
  have L1 := fun v (p : IsWords v (.slice a len cap) xs) (q : IsWords v (.slice b len1 cap1) ys) => common_lowest p hw q gw (by omega) (by omega) _ _ rfl rfl
  rw [low1_pos hY, decide_eq_true hY] at L1
  have L2 := fun v a1 c1 a2 c2 (p : IsWords v (.slice a1 (nl (val xs / Nat.gcd (val xs) (val ys))) c1) (natOf (val xs / Nat.gcd (val xs) (val ys)))) (q : IsWords v (.slice a2 (nl (val ys / Nat.gcd (val xs) (val ys))) c2) (natOf (val ys / Nat.gcd (val xs) (val ys)))) => common_lowest p (wd_natOf _) q (wd_natOf _) (by omega) (by omega) _ _ (val_natOf _) (val_natOf _)
  rw [low1_pos h2, decide_eq_true h2, h1, Nat.div_one, Nat.div_one] at L2
  have L3 := fun v a1 c1 a2 c2 (p : IsWords v (.slice a1 (nl (val xs * val ds)) c1) (natOf (val xs * val ds))) (q : IsWords v (.slice a2 (nl (val ys * val ds)) c2) (natOf (val ys * val ds))) => common_lowest p (wd_natOf _) q (wd_natOf _) (by omega) (by omega) _ _ (val_natOf _) (val_natOf _)
  rw [low1_pos h3, decide_eq_true h3, low_times hC, show val ys * val ds / Nat.gcd (val xs * val ds) (val ys * val ds) = val ys / Nat.gcd (val xs) (val ys) by rw [Nat.gcd_mul_right, Nat.mul_div_mul_right _ _ hC]] at L3
  have M1 := fun v (p : IsWords v (.slice a len cap) xs) (q : IsWords v (.slice d len2 cap2) ds) => times_mul' p hw q dw (by omega) (by omega) _ rfl
  have M2 := fun v (p : IsWords v (.slice b len1 cap1) ys) (q : IsWords v (.slice d len2 cap2) ds) => times_mul' p gw q dw (by omega) (by omega) _ rfl
  have M3 := fun v a1 c1 (p : IsWords v (.slice a1 (nl (val xs / Nat.gcd (val xs) (val ys))) c1) (natOf (val xs / Nat.gcd (val xs) (val ys)))) (q : IsWords v (.slice b len1 cap1) ys) => times_mul' p (wd_natOf _) q gw (by omega) (by omega) (val xs / Nat.gcd (val xs) (val ys) * val ys) (by rw [val_natOf])
  have M4 := fun v a1 c1 (p : IsWords v (.slice a len cap) xs) (q : IsWords v (.slice a1 (nl (val ys / Nat.gcd (val xs) (val ys))) c1) (natOf (val ys / Nat.gcd (val xs) (val ys)))) => times_mul' p hw q (wd_natOf _) (by omega) (by omega) (val xs / Nat.gcd (val xs) (val ys) * val ys) (by rw [val_natOf, low_cross hY])
  have AP := fun v a1 c1 a2 c2 (p : IsWords v (.slice a1 (nl (val xs / Nat.gcd (val xs) (val ys))) c1) (natOf (val xs / Nat.gcd (val xs) (val ys)))) (q : IsWords v (.slice a2 (nl (val ys / Nat.gcd (val xs) (val ys))) c2) (natOf (val ys / Nat.gcd (val xs) (val ys)))) => common_apart p (wd_natOf _) q (wd_natOf _) (by omega) (by omega) true (decide_eq_true (by rw [val_natOf, val_natOf]; exact h1))
  unfold AnsDivB at L1 L2 L3
  unfold Ans at M1 M2 M3 M4
  generalize val xs / Nat.gcd (val xs) (val ys) * val ys = K1 at M3 M4
  generalize val xs / Nat.gcd (val xs) (val ys) = K2 at L1 L2 L3 M3 AP h1 lx2
  generalize val ys / Nat.gcd (val xs) (val ys) = K3 at L1 L2 L3 M4 AP h1 h2 ly2
  generalize val xs * val ds = K4 at M1 L3 l1
  generalize val ys * val ds = K5 at M2 L3 l2 h3
  clear lx ly lz lx2 ly2 l1 l2 h1 h2 h3 hY hC hz hf
  go_enter Try.func7, Try.ntmps7
  go_wp2_with (first
    | (go_at_call 8; refine (common_awake _).mono ?_; rintro e u0 ⟨rfl, b0⟩; have p0 := P.below b0; have q0 := Q.below b0; have d0 := D.below b0)
    | (go_at_call 9; (with_reducible refine Calls.mono (F _) ?_); rintro e v1 ⟨rfl, rfl⟩)
    | (go_at_call 18; (with_reducible refine Calls.mono (B1 _ q0) ?_); rintro e v1 ⟨rfl, rfl⟩)
    | (go_at_call 18; (with_reducible refine Calls.mono (B2 _ d0) ?_); rintro e v1 ⟨rfl, rfl⟩)
    | (go_at_call 12; (with_reducible refine Calls.mono (L1 _ p0 q0) ?_); rintro e w1 ⟨a1, c1, a2, c2, rfl, o1, o2⟩; have p1 := p0.below o1.below; have q1 := q0.below o1.below; have d1 := d0.below o1.below)
    | (go_at_call 12; (with_reducible refine Calls.mono (L2 _ _ _ _ _ o1.words o2.words) ?_); rintro e w2 ⟨a3, c3, a4, c4, rfl, o3, o4⟩; have p2 := p1.below o3.below; have q2 := q1.below o3.below; have d2 := d1.below o3.below; have x2 := o1.more o3.below; have y2 := o2.more o3.below; have u2 := o3; have v2 := o4)
    | (go_at_call 22; (with_reducible refine Calls.mono (M1 _ p2 d2) ?_); rintro e w3 ⟨a5, c5, rfl, o5⟩; replace p2 := p2.below o5.below; replace q2 := q2.below o5.below; replace d2 := d2.below o5.below; replace x2 := x2.more o5.below; replace y2 := y2.more o5.below; replace u2 := u2.more o5.below; replace v2 := v2.more o5.below)
    | (go_at_call 22; (with_reducible refine Calls.mono (M2 _ q2 d2) ?_); rintro e w4 ⟨a6, c6, rfl, o6⟩; replace p2 := p2.below o6.below; replace q2 := q2.below o6.below; replace x2 := x2.more o6.below; replace y2 := y2.more o6.below; replace u2 := u2.more o6.below; replace v2 := v2.more o6.below; have s4 := o5.more o6.below)
    | (go_at_call 12; (with_reducible refine Calls.mono (L3 _ _ _ _ _ s4.words o6.words) ?_); rintro e w5 ⟨a7, c7, a8, c8, rfl, o7, o8⟩; replace p2 := p2.below o7.below; replace q2 := q2.below o7.below; replace x2 := x2.more o7.below; replace y2 := y2.more o7.below; replace u2 := u2.more o7.below; replace v2 := v2.more o7.below; have k5 := o7; have l5 := o8)
    | (go_at_call 22; (with_reducible refine Calls.mono (M3 _ _ _ x2.words q2) ?_); rintro e w6 ⟨a9, c9, rfl, o9⟩; replace p2 := p2.below o9.below; replace x2 := x2.more o9.below; replace y2 := y2.more o9.below; replace u2 := u2.more o9.below; replace v2 := v2.more o9.below; replace k5 := k5.more o9.below; replace l5 := l5.more o9.below)
    | (go_at_call 22; (with_reducible refine Calls.mono (M4 _ _ _ p2 y2.words) ?_); rintro e w7 ⟨a10, c10, rfl, o10⟩; replace x2 := x2.more o10.below; replace y2 := y2.more o10.below; replace u2 := u2.more o10.below; replace v2 := v2.more o10.below; replace k5 := k5.more o10.below; replace l5 := l5.more o10.below; have m7 := o9.more o10.below)
    | (go_at_call 11; (with_reducible refine Calls.mono (ref_words _ _ _ _ _ _ _ _ _ m7.words o10.words true (by simp)) ?_); rintro e w8 ⟨rfl, b8⟩; replace x2 := x2.more b8; replace y2 := y2.more b8; replace u2 := u2.more b8; replace v2 := v2.more b8; replace k5 := k5.more b8; replace l5 := l5.more b8)
    | (go_at_call 17; (with_reducible refine Calls.mono (AP _ _ _ _ _ x2.words y2.words) ?_); rintro e w9 ⟨rfl, b9⟩; replace x2 := x2.more b9; replace y2 := y2.more b9; replace u2 := u2.more b9; replace v2 := v2.more b9; replace k5 := k5.more b9; replace l5 := l5.more b9)
    | (go_at_call 11; (with_reducible refine Calls.mono (ref_words _ _ _ _ _ _ _ _ _ u2.words x2.words true (by simp)) ?_); rintro e w10 ⟨rfl, b10⟩; replace x2 := x2.more b10; replace y2 := y2.more b10; replace v2 := v2.more b10; replace k5 := k5.more b10; replace l5 := l5.more b10)
    | (go_at_call 11; (with_reducible refine Calls.mono (ref_words _ _ _ _ _ _ _ _ _ v2.words y2.words true (by simp)) ?_); rintro e w11 ⟨rfl, b11⟩; replace x2 := x2.more b11; replace y2 := y2.more b11; replace k5 := k5.more b11; replace l5 := l5.more b11)
    | (go_at_call 11; (with_reducible refine Calls.mono (ref_words _ _ _ _ _ _ _ _ _ k5.words x2.words true (by simp)) ?_); rintro e w12 ⟨rfl, b12⟩; replace x2 := x2.more b12; replace y2 := y2.more b12; replace l5 := l5.more b12)
    | (go_at_call 11; (with_reducible refine Calls.mono (ref_words _ _ _ _ _ _ _ _ _ l5.words y2.words true (by simp)) ?_); rintro e w13 ⟨rfl, b13⟩; replace y2 := y2.more b13))
  go_ret
  exact ⟨rfl, below_more b0 y2.below⟩
end Go.Proofs.Ytpcfelknjcggiaa
