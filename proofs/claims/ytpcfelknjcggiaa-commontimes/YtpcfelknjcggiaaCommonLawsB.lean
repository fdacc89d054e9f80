/-
  The walks of the statements CommonTimes and CommonProduct: for all lists of words they return true; memory that was there stays.
-/
import Derived.Test.YtpcfelknjcggiaaCommonLawsA
namespace Go.Proofs.Ytpcfelknjcggiaa
open Go.RowKit

theorem gcd_add_right' (A B : Nat) : Nat.gcd A (A + B) = Nat.gcd A B := by
  rw [Nat.add_comm]; exact Nat.gcd_add_self_right _ _

set_option maxHeartbeats 8000000 in
theorem law_CommonTimes (a : Option Addr) (len cap : Nat) (zs : List Int) (b : Option Addr) (len1 cap1 : Nat) (zs1 : List Int) (d : Option Addr) (len2 cap2 : Nat) (zs2 : List Int) (w : World) (h0 : CameIn .u32 w a len cap zs) (h1 : CameIn .u32 w b len1 cap1 zs1) (h2 : CameIn .u32 w d len2 cap2 zs2) :
    Calls Try.prog 5 #[.slice a len cap, .slice b len1 cap1, .slice d len2 cap2] w fun e w' => e = .returned (.bool true) ∧ Below w.heap.size w w' := by
  have P := came_words h0
  have hw := came_wd h0
  have Q := came_words h1
  have gw := came_wd h1
  have D := came_words h2
  have dw := came_wd h2
  generalize zs.take len = xs at P hw
  generalize zs1.take len1 = ys at Q gw
  generalize zs2.take len2 = ds at D dw
  clear h0 h1 h2
  by_cases hf : len ≤ 8 ∧ len1 ≤ 8
  case neg =>
    have F := fun v => ref_few a len cap b len1 cap1 8 v false (by simpa using hf)
    clear P Q D hf
    go_enter Try.func5, Try.ntmps5
    go_wp2_with (first
      | (go_at_call 8; refine (common_awake _).mono ?_; rintro e u0 ⟨rfl, b0⟩)
      | (go_at_call 9; (with_reducible refine Calls.mono (F _) ?_); rintro e v1 ⟨rfl, rfl⟩))
    go_ret
    exact ⟨rfl, b0⟩
  case pos =>
  have F := fun v => ref_few a len cap b len1 cap1 8 v true (by simpa using hf)
  by_cases hd : len2 ≤ 8
  case neg =>
    clear P Q D hf
    go_enter Try.func5, Try.ntmps5
    go_wp2_with (first
      | (go_at_call 8; refine (common_awake _).mono ?_; rintro e u0 ⟨rfl, b0⟩)
      | (go_at_call 9; (with_reducible refine Calls.mono (F _) ?_); rintro e v1 ⟨rfl, rfl⟩))
    go_ret
    exact ⟨rfl, b0⟩
  case pos =>
  have lx : nl (val xs) ≤ 8 := nl_small hw _ (by rw [P.len]; omega)
  have ly : nl (val ys) ≤ 8 := nl_small gw _ (by rw [Q.len]; omega)
  have lz : nl (val ds) ≤ 8 := nl_small dw _ (by rw [D.len]; omega)
  have lg : nl (Nat.gcd (val xs) (val ys)) ≤ 8 := by
    rcases Nat.eq_zero_or_pos (val xs) with e | e
    · rw [e, Nat.gcd_zero_left]; exact ly
    · exact Nat.le_trans (nl_mono (Nat.gcd_le_left _ e)) lx
  have lS : nl (val xs - val ys) ≤ 8 := Nat.le_trans (nl_mono (Nat.sub_le _ _)) lx
  have l1 := nl_mul (val xs) (val ds)
  have l2 := nl_mul (val ys) (val ds)
  have l4 : nl (val xs + val ys) ≤ 9 := by
    refine nl_le 9 _ ?_
    have h1 := lt_nl (val xs)
    have h2 := lt_nl (val ys)
    have h3 : 4294967296 ^ nl (val xs) ≤ 4294967296 ^ 8 := Nat.pow_le_pow_right (by omega) lx
    have h4 : 4294967296 ^ nl (val ys) ≤ 4294967296 ^ 8 := Nat.pow_le_pow_right (by omega) ly
    rw [Nat.pow_succ]
    generalize 4294967296 ^ 8 = t at h3 h4
    omega
  have G1 := fun v (p : IsWords v (.slice a len cap) xs) (q : IsWords v (.slice b len1 cap1) ys) => common_gcd p hw q gw (by omega) (by omega) _ rfl
  have S1 := fun v (p : IsWords v (.slice a len cap) xs) (q : IsWords v (.slice b len1 cap1) ys) => nat_sub_any p hw q gw (by omega) _ _ rfl rfl
  have G2 := fun v a1 c1 (p : IsWords v (.slice a1 (nl (val xs - val ys)) c1) (natOf (val xs - val ys))) (q : IsWords v (.slice b len1 cap1) ys) => common_gcd p (wd_natOf _) q gw (by omega) (by omega) _ rfl
  have M1 := fun v (p : IsWords v (.slice a len cap) xs) (q : IsWords v (.slice d len2 cap2) ds) => times_mul' p hw q dw (by omega) (by omega) _ rfl
  have M2 := fun v (p : IsWords v (.slice b len1 cap1) ys) (q : IsWords v (.slice d len2 cap2) ds) => times_mul' p gw q dw (by omega) (by omega) _ rfl
  have G3 := fun v a1 c1 a2 c2 (p : IsWords v (.slice a1 (nl (val xs * val ds)) c1) (natOf (val xs * val ds))) (q : IsWords v (.slice a2 (nl (val ys * val ds)) c2) (natOf (val ys * val ds))) => common_gcd p (wd_natOf _) q (wd_natOf _) (by omega) (by omega) (Nat.gcd (val xs) (val ys) * val ds) (by rw [val_natOf, val_natOf, Nat.gcd_mul_right])
  have M3 := fun v a1 c1 (p : IsWords v (.slice a1 (nl (Nat.gcd (val xs) (val ys))) c1) (natOf (Nat.gcd (val xs) (val ys)))) (q : IsWords v (.slice d len2 cap2) ds) => times_mul' p (wd_natOf _) q dw (by omega) (by omega) (Nat.gcd (val xs) (val ys) * val ds) (by rw [val_natOf])
  have A1 := fun v (p : IsWords v (.slice a len cap) xs) (q : IsWords v (.slice b len1 cap1) ys) => nat_add' p hw q gw (by omega) (by omega) _ rfl
  have G4 := fun v a1 c1 (p : IsWords v (.slice a len cap) xs) (q : IsWords v (.slice a1 (nl (val xs + val ys)) c1) (natOf (val xs + val ys))) => common_gcd p hw q (wd_natOf _) (by omega) (by omega) (Nat.gcd (val xs) (val ys)) (by rw [val_natOf, gcd_add_right'])
  have hS : decide (val ys ≤ val xs) = true → Nat.gcd (val xs - val ys) (val ys) = Nat.gcd (val xs) (val ys) := fun h => Nat.gcd_sub_self_left (of_decide_eq_true h)
  simp only [val_natOf] at G2
  unfold Ans at G1 G2 M1 M2 G3 M3 A1 G4
  unfold AnsSub at S1
  generalize Nat.gcd (val xs - val ys) (val ys) = K0 at G2 hS
  generalize Nat.gcd (val xs) (val ys) * val ds = K1 at G3 M3
  generalize Nat.gcd (val xs) (val ys) = K2 at G1 M3 G4 hS lg
  generalize val xs * val ds = K3 at M1 G3 l1
  generalize val ys * val ds = K4 at M2 G3 l2
  generalize val xs + val ys = K5 at A1 G4 l4
  generalize val xs - val ys = K6 at S1 G2 lS
  generalize decide (val ys ≤ val xs) = r at S1 hS
  clear lg lx ly lz lS l1 l2 l4 hf
  rcases r with _ | _
  case' true =>
    have e := hS rfl
    subst e
  all_goals
    clear hS
    go_enter Try.func5, Try.ntmps5
    go_wp2_with (first
      | (go_at_call 8; refine (common_awake _).mono ?_; rintro e u0 ⟨rfl, b0⟩; have p0 := P.below b0; have q0 := Q.below b0; have d0 := D.below b0)
      | (go_at_call 9; (with_reducible refine Calls.mono (F _) ?_); rintro e v1 ⟨rfl, rfl⟩)
      | (go_at_call 14; (with_reducible refine Calls.mono (G1 _ p0 q0) ?_); rintro e w1 ⟨a1, c1, rfl, o1⟩; have p1 := p0.below o1.below; have q1 := q0.below o1.below; have d1 := d0.below o1.below)
      | (go_at_call 21; (with_reducible refine Calls.mono (S1 _ p1 q1) ?_); rintro e w2 ⟨a2, c2, rfl, o2⟩; have p2 := p1.below o2.below; have q2 := q1.below o2.below; have d2 := d1.below o2.below; have g2 := o1.more o2.below)
      | (go_at_call 14; (with_reducible refine Calls.mono (G2 _ _ _ o2.words q2) ?_); rintro e w3 ⟨a3, c3, rfl, o3⟩; replace p2 := p2.below o3.below; replace q2 := q2.below o3.below; replace d2 := d2.below o3.below; replace g2 := g2.more o3.below)
      | (go_at_call 11; (with_reducible refine Calls.mono (ref_words _ _ _ _ _ _ _ _ _ o3.words g2.words true (by simp)) ?_); rintro e w4 ⟨rfl, b4⟩; replace p2 := p2.below b4; replace q2 := q2.below b4; replace d2 := d2.below b4; replace g2 := g2.more b4)
      | (go_at_call 22; (with_reducible refine Calls.mono (M1 _ p2 d2) ?_); rintro e w5 ⟨a5, c5, rfl, o5⟩; replace p2 := p2.below o5.below; replace q2 := q2.below o5.below; replace d2 := d2.below o5.below; replace g2 := g2.more o5.below)
      | (go_at_call 22; (with_reducible refine Calls.mono (M2 _ q2 d2) ?_); rintro e w6 ⟨a6, c6, rfl, o6⟩; replace p2 := p2.below o6.below; replace q2 := q2.below o6.below; replace d2 := d2.below o6.below; replace g2 := g2.more o6.below; have x6 := o5.more o6.below)
      | (go_at_call 14; (with_reducible refine Calls.mono (G3 _ _ _ _ _ x6.words o6.words) ?_); rintro e w7 ⟨a7, c7, rfl, o7⟩; replace p2 := p2.below o7.below; replace q2 := q2.below o7.below; replace d2 := d2.below o7.below; replace g2 := g2.more o7.below)
      | (go_at_call 22; (with_reducible refine Calls.mono (M3 _ _ _ g2.words d2) ?_); rintro e w8 ⟨a8, c8, rfl, o8⟩; replace p2 := p2.below o8.below; replace q2 := q2.below o8.below; replace g2 := g2.more o8.below; have y8 := o7.more o8.below)
      | (go_at_call 11; (with_reducible refine Calls.mono (ref_words _ _ _ _ _ _ _ _ _ y8.words o8.words true (by simp)) ?_); rintro e w9 ⟨rfl, b9⟩; replace p2 := p2.below b9; replace q2 := q2.below b9; replace g2 := g2.more b9)
      | (go_at_call 23; (with_reducible refine Calls.mono (A1 _ p2 q2) ?_); rintro e w10 ⟨a10, c10, rfl, o10⟩; replace p2 := p2.below o10.below; replace g2 := g2.more o10.below)
      | (go_at_call 14; (with_reducible refine Calls.mono (G4 _ _ _ p2 o10.words) ?_); rintro e w11 ⟨a11, c11, rfl, o11⟩; replace g2 := g2.more o11.below)
      | (go_at_call 11; (with_reducible refine Calls.mono (ref_words _ _ _ _ _ _ _ _ _ o11.words g2.words true (by simp)) ?_); rintro e w12 ⟨rfl, b12⟩; replace g2 := g2.more b12))
    go_ret
    exact ⟨rfl, below_more b0 g2.below⟩

theorem lcm_turn (A B : Nat) : A / Nat.gcd A B * B = B / Nat.gcd A B * A := by
  rcases Nat.eq_zero_or_pos (Nat.gcd A B) with h | h
  · rw [h, Nat.div_zero, Nat.div_zero, Nat.zero_mul, Nat.zero_mul]
  · obtain ⟨x, hx⟩ := Nat.gcd_dvd_left A B
    obtain ⟨y, hy⟩ := Nat.gcd_dvd_right A B
    generalize Nat.gcd A B = g at *
    subst hx hy
    rw [Nat.mul_div_cancel_left _ h, Nat.mul_div_cancel_left _ h]
    grind
theorem lcm_times (A B : Nat) : Nat.gcd A B * (A / Nat.gcd A B * B) = A * B := by
  rw [← Nat.mul_assoc, Nat.mul_div_cancel' (Nat.gcd_dvd_left A B)]

set_option maxHeartbeats 8000000 in
theorem law_CommonProduct (a : Option Addr) (len cap : Nat) (zs : List Int) (b : Option Addr) (len1 cap1 : Nat) (zs1 : List Int) (w : World) (h0 : CameIn .u32 w a len cap zs) (h1 : CameIn .u32 w b len1 cap1 zs1) :
    Calls Try.prog 6 #[.slice a len cap, .slice b len1 cap1] w fun e w' => e = .returned (.bool true) ∧ Below w.heap.size w w' := by
  have P := came_words h0
  have hw := came_wd h0
  have Q := came_words h1
  have gw := came_wd h1
  generalize zs.take len = xs at P hw
  generalize zs1.take len1 = ys at Q gw
  clear h0 h1
  by_cases hf : len ≤ 8 ∧ len1 ≤ 8
  case neg =>
    have F := fun v => ref_few a len cap b len1 cap1 8 v false (by simpa using hf)
    clear P Q hf
    go_enter Try.func6, Try.ntmps6
    go_wp2_with (first
      | (go_at_call 8; refine (common_awake _).mono ?_; rintro e u0 ⟨rfl, b0⟩)
      | (go_at_call 9; (with_reducible refine Calls.mono (F _) ?_); rintro e v1 ⟨rfl, rfl⟩))
    go_ret
    exact ⟨rfl, b0⟩
  case pos =>
  have F := fun v => ref_few a len cap b len1 cap1 8 v true (by simpa using hf)
  have lx : nl (val xs) ≤ 8 := nl_small hw _ (by rw [P.len]; omega)
  have ly : nl (val ys) ≤ 8 := nl_small gw _ (by rw [Q.len]; omega)
  have lg : nl (Nat.gcd (val xs) (val ys)) ≤ 8 := by
    rcases Nat.eq_zero_or_pos (val xs) with e | e
    · rw [e, Nat.gcd_zero_left]; exact ly
    · exact Nat.le_trans (nl_mono (Nat.gcd_le_left _ e)) lx
  have lq : nl (val xs / Nat.gcd (val xs) (val ys)) ≤ 8 := Nat.le_trans (nl_mono (Nat.div_le_self _ _)) lx
  have ll := nl_mul (val xs / Nat.gcd (val xs) (val ys)) (val ys)
  have B1 := fun v (q : IsWords v (.slice a len cap) xs) => nat_bits' q hw (by omega) _ rfl
  have B2 := fun v (q : IsWords v (.slice b len1 cap1) ys) => nat_bits' q gw (by omega) _ rfl
  have G1 := fun v (p : IsWords v (.slice a len cap) xs) (q : IsWords v (.slice b len1 cap1) ys) => common_gcd p hw q gw (by omega) (by omega) _ rfl
  have C1 := fun v (p : IsWords v (.slice a len cap) xs) (q : IsWords v (.slice b len1 cap1) ys) => common_lcm p hw q gw (by omega) (by omega) _ _ rfl rfl
  have C2 := fun v (p : IsWords v (.slice a len cap) xs) (q : IsWords v (.slice b len1 cap1) ys) => common_lcm q gw p hw (by omega) (by omega) _ _ rfl rfl
  rw [Nat.gcd_comm (val ys) (val xs), ← lcm_turn] at C2
  have hO1 : 0 < val xs → decide (0 < val xs ∧ (val xs / Nat.gcd (val xs) (val ys) * val ys) % val xs = 0) = true := fun h =>
    decide_eq_true ⟨h, by rw [lcm_turn]; exact Nat.mul_mod_left _ _⟩
  have hO2 : 0 < val ys → decide (0 < val ys ∧ (val xs / Nat.gcd (val xs) (val ys) * val ys) % val ys = 0) = true := fun h =>
    decide_eq_true ⟨h, Nat.mul_mod_left _ _⟩
  have O1 := fun v a1 c1 (p : IsWords v (.slice a len cap) xs) (q : IsWords v (.slice a1 (nl (val xs / Nat.gcd (val xs) (val ys) * val ys)) c1) (natOf (val xs / Nat.gcd (val xs) (val ys) * val ys))) => law5_goes q (wd_natOf _) p hw (by omega) _ _ (val_natOf _) rfl _ rfl
  have O2 := fun v a1 c1 (p : IsWords v (.slice b len1 cap1) ys) (q : IsWords v (.slice a1 (nl (val xs / Nat.gcd (val xs) (val ys) * val ys)) c1) (natOf (val xs / Nat.gcd (val xs) (val ys) * val ys))) => law5_goes q (wd_natOf _) p gw (by omega) _ _ (val_natOf _) rfl _ rfl
  have M1 := fun v a1 c1 a2 c2 (p : IsWords v (.slice a1 (nl (Nat.gcd (val xs) (val ys))) c1) (natOf (Nat.gcd (val xs) (val ys)))) (q : IsWords v (.slice a2 (nl (val xs / Nat.gcd (val xs) (val ys) * val ys)) c2) (natOf (val xs / Nat.gcd (val xs) (val ys) * val ys))) => times_mul' p (wd_natOf _) q (wd_natOf _) (by omega) (by omega) (val xs * val ys) (by rw [val_natOf, val_natOf, lcm_times])
  have M2 := fun v (p : IsWords v (.slice a len cap) xs) (q : IsWords v (.slice b len1 cap1) ys) => times_mul' p hw q gw (by omega) (by omega) _ rfl
  have hb1 : decide ((0 : Int) < (nbits (val xs) : Int)) = true → 0 < val xs := fun h => by
    rcases Nat.eq_zero_or_pos (val xs) with e | e
    · rw [e, nbits_zero] at h; simp at h
    · exact e
  have hb2 : decide ((0 : Int) < (nbits (val ys) : Int)) = true → 0 < val ys := fun h => by
    rcases Nat.eq_zero_or_pos (val ys) with e | e
    · rw [e, nbits_zero] at h; simp at h
    · exact e
  have hc1 := fun h => hO1 (hb1 h)
  have hc2 := fun h => hO2 (hb2 h)
  clear hb1 hb2 hO1 hO2
  unfold Ans at G1 C1 C2 M1 M2
  generalize decide (0 < val xs ∧ (val xs / Nat.gcd (val xs) (val ys) * val ys) % val xs = 0) = r1 at O1 hc1
  generalize decide (0 < val ys ∧ (val xs / Nat.gcd (val xs) (val ys) * val ys) % val ys = 0) = r2 at O2 hc2
  generalize val xs / Nat.gcd (val xs) (val ys) * val ys = K1 at C1 C2 O1 O2 M1 ll
  generalize Nat.gcd (val xs) (val ys) = K2 at G1 M1 lg lq ll
  generalize val xs * val ys = K3 at M1 M2
  generalize (nbits (val xs) : Int) = n1 at B1 hc1
  generalize (nbits (val ys) : Int) = n2 at B2 hc2
  clear lx ly lg lq ll hf
  rcases (by omega : (0 < n1 ∧ 0 < n2) ∨ (0 < n1 ∧ ¬ 0 < n2) ∨ ¬ 0 < n1) with ⟨k1, k2⟩ | ⟨k1, k2⟩ | k1
  case' inl =>
    obtain rfl := hc1 (decide_eq_true k1)
    obtain rfl := hc2 (decide_eq_true k2)
  case' inr.inl =>
    obtain rfl := hc1 (decide_eq_true k1)
  all_goals
    clear hc1 hc2
    go_enter Try.func6, Try.ntmps6
    go_wp2_with (first
      | (go_at_call 8; refine (common_awake _).mono ?_; rintro e u0 ⟨rfl, b0⟩; have p0 := P.below b0; have q0 := Q.below b0)
      | (go_at_call 9; (with_reducible refine Calls.mono (F _) ?_); rintro e v1 ⟨rfl, rfl⟩)
      | (go_at_call 14; (with_reducible refine Calls.mono (G1 _ p0 q0) ?_); rintro e w1 ⟨a1, c1, rfl, o1⟩; have p1 := p0.below o1.below; have q1 := q0.below o1.below)
      | (go_at_call 15; (with_reducible refine Calls.mono (C1 _ p1 q1) ?_); rintro e w2 ⟨a2, c2, rfl, o2⟩; have p2 := p1.below o2.below; have q2 := q1.below o2.below; have g2 := o1.more o2.below; have l2 := o2)
      | (go_at_call 18; (with_reducible refine Calls.mono (B1 _ p2) ?_); rintro e v1 ⟨rfl, rfl⟩)
      | (go_at_call 18; (with_reducible refine Calls.mono (B2 _ q2) ?_); rintro e v1 ⟨rfl, rfl⟩)
      | (go_at_call 20; (with_reducible refine Calls.mono (O1 _ _ _ p2 l2.words) ?_); rintro e w3 ⟨rfl, b3⟩; replace p2 := p2.below b3; replace q2 := q2.below b3; replace g2 := g2.more b3; replace l2 := l2.more b3)
      | (go_at_call 20; (with_reducible refine Calls.mono (O2 _ _ _ q2 l2.words) ?_); rintro e w4 ⟨rfl, b4⟩; replace p2 := p2.below b4; replace q2 := q2.below b4; replace g2 := g2.more b4; replace l2 := l2.more b4)
      | (go_at_call 22; (with_reducible refine Calls.mono (M1 _ _ _ _ _ g2.words l2.words) ?_); rintro e w5 ⟨a5, c5, rfl, o5⟩; replace p2 := p2.below o5.below; replace q2 := q2.below o5.below; replace g2 := g2.more o5.below; replace l2 := l2.more o5.below)
      | (go_at_call 22; (with_reducible refine Calls.mono (M2 _ p2 q2) ?_); rintro e w6 ⟨a6, c6, rfl, o6⟩; replace p2 := p2.below o6.below; replace q2 := q2.below o6.below; replace g2 := g2.more o6.below; replace l2 := l2.more o6.below; have x6 := o5.more o6.below)
      | (go_at_call 11; (with_reducible refine Calls.mono (ref_words _ _ _ _ _ _ _ _ _ x6.words o6.words true (by simp)) ?_); rintro e w7 ⟨rfl, b7⟩; replace p2 := p2.below b7; replace q2 := q2.below b7; replace g2 := g2.more b7; replace l2 := l2.more b7)
      | (go_at_call 15; (with_reducible refine Calls.mono (C2 _ p2 q2) ?_); rintro e w8 ⟨a8, c8, rfl, o8⟩; replace g2 := g2.more o8.below; replace l2 := l2.more o8.below)
      | (go_at_call 11; (with_reducible refine Calls.mono (ref_words _ _ _ _ _ _ _ _ _ o8.words l2.words true (by simp)) ?_); rintro e w9 ⟨rfl, b9⟩; replace g2 := g2.more b9))
    go_ret
    exact ⟨rfl, below_more b0 g2.below⟩
end Go.Proofs.Ytpcfelknjcggiaa
