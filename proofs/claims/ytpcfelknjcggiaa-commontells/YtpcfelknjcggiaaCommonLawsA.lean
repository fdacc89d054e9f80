/-
  The walks of the statements CommonTells and CommonDivides: for all lists of words they return true; memory that was there stays.
-/
import Derived.Test.YtpcfelknjcggiaaCommonAwake
import Derived.Test.YtpcfelknjcggiaaCommonRefB
namespace Go.Proofs.Ytpcfelknjcggiaa
open Go.RowKit

theorem one_list (G : Nat) : natOf G = [1] ↔ G = 1 := by
  obtain ⟨n1, -⟩ := nat_word1 (x := 1) (by omega) (by omega)
  constructor
  · intro h
    have := congrArg val h
    rw [val_natOf] at this
    simpa [val] using this
  · rintro rfl; simpa using n1

set_option maxHeartbeats 4000000 in
theorem law_CommonTells (a : Option Addr) (len cap : Nat) (zs : List Int) (b : Option Addr) (len1 cap1 : Nat) (zs1 : List Int) (w : World) (h0 : CameIn .u32 w a len cap zs) (h1 : CameIn .u32 w b len1 cap1 zs1) :
    Calls Try.prog 3 #[.slice a len cap, .slice b len1 cap1] w fun e w' => e = .returned (.bool true) ∧ Below w.heap.size w w' := by
  have P := came_words h0
  have hw := came_wd h0
  have Q := came_words h1
  have gw := came_wd h1
  generalize zs.take len = xs at P hw
  generalize zs1.take len1 = ys at Q gw
  clear h0 h1
  by_cases hf : len ≤ 8 ∧ len1 ≤ 8
  · have F := fun v => ref_few a len cap b len1 cap1 8 v true (by simpa using hf)
    have G1 := fun v (p : IsWords v (.slice a len cap) xs) (q : IsWords v (.slice b len1 cap1) ys) => ref_gcd p hw q gw (by omega) (by omega) _ _ rfl rfl
    have G2 := fun v (p : IsWords v (.slice a len cap) xs) (q : IsWords v (.slice b len1 cap1) ys) => common_gcd p hw q gw (by omega) (by omega) _ rfl
    have L1 := fun v (p : IsWords v (.slice a len cap) xs) (q : IsWords v (.slice b len1 cap1) ys) => ref_lowest p hw q gw (by omega) (by omega) _ _ rfl rfl
    have L2 := fun v (p : IsWords v (.slice a len cap) xs) (q : IsWords v (.slice b len1 cap1) ys) => common_lowest p hw q gw (by omega) (by omega) _ _ rfl rfl
    have M1 := fun v (p : IsWords v (.slice a len cap) xs) (q : IsWords v (.slice b len1 cap1) ys) => ref_lcm p hw q gw (by omega) (by omega) _ _ rfl rfl
    have M2 := fun v (p : IsWords v (.slice a len cap) xs) (q : IsWords v (.slice b len1 cap1) ys) => common_lcm p hw q gw (by omega) (by omega) _ _ rfl rfl
    have AP := fun v (p : IsWords v (.slice a len cap) xs) (q : IsWords v (.slice b len1 cap1) ys) => common_apart p hw q gw (by omega) (by omega) _ rfl
    have hr : decide (natOf (Nat.gcd (val xs) (val ys)) = [1]) = decide (Nat.gcd (val xs) (val ys) = 1) := by simp only [one_list]
    have LT := fun v => lit_words v [1] 1 rfl (by decide)
    simp only [List.map_cons, List.map_nil] at LT
    unfold Ans at G1 G2 M1 M2
    unfold AnsDivB at L1 L2
    generalize val xs / Nat.gcd (val xs) (val ys) * val ys = K1 at M1 M2
    generalize decide (Nat.gcd (val xs) (val ys) = 1) = r at AP hr
    generalize low1 (val xs) (val ys) = K2 at L1 L2
    generalize val ys / Nat.gcd (val xs) (val ys) = K3 at L1 L2
    generalize decide (0 < val ys) = K4 at L1 L2
    generalize Nat.gcd (val xs) (val ys) = K5 at G1 G2 hr
    have W1 := fun v a1 c1 x (p : IsWords v (.slice a1 (nl K5) c1) (natOf K5)) (q : IsWords v x [1]) => (fun a2 n2 c2 (e : x = .slice a2 n2 c2) => ref_words a1 _ c1 _ a2 n2 c2 [1] v p (e ▸ q) r hr)
    clear hf hr
    go_enter Try.func3, Try.ntmps3
    go_wp2_with (first
      | (go_at_call 8; refine (common_awake _).mono ?_; rintro e u0 ⟨rfl, b0⟩; have p0 := P.below b0; have q0 := Q.below b0)
      | (go_at_call 9; (with_reducible refine Calls.mono (F _) ?_); rintro e v1 ⟨rfl, rfl⟩)
      | (go_at_call 10; (with_reducible refine Calls.mono (G1 _ p0 q0) ?_); rintro e w1 ⟨a1, c1, rfl, o1⟩; have b1 := o1.below)
      | (go_at_call 11; (with_reducible refine Calls.mono (W1 _ a1 c1 _ (o1.alloc _).words (LT w1) _ _ _ rfl) ?_); rintro e w2 ⟨rfl, b2⟩; have g2 := (o1.alloc _).more b2; have p2 := p0.below g2.below; have q2 := q0.below g2.below)
      | (go_at_call 12; (with_reducible refine Calls.mono (L2 _ p2 q2) ?_); rintro e w3 ⟨a3, c3, a4, c4, rfl, o3, o4⟩; have p3 := p2.below o3.below; have q3 := q2.below o3.below; have g3 := g2.more o3.below)
      | (go_at_call 13; (with_reducible refine Calls.mono (L1 _ p3 q3) ?_); rintro e w4 ⟨a5, c5, a6, c6, rfl, o5, o6⟩; have p4 := p3.below o5.below; have q4 := q3.below o5.below; have g4 := g3.more o5.below; have x4 := o3.more o5.below; have y4 := o4.more o5.below)
      | (go_at_call 14; (with_reducible refine Calls.mono (G2 _ p4 q4) ?_); rintro e w5 ⟨a7, c7, rfl, o7⟩; have p5 := p4.below o7.below; have q5 := q4.below o7.below; have g5 := g4.more o7.below; have x5 := x4.more o7.below; have y5 := y4.more o7.below; have s5 := o5.more o7.below; have t5 := o6.more o7.below)
      | (go_at_call 11; (with_reducible refine Calls.mono (ref_words _ _ _ _ _ _ _ _ _ o7.words g5.words true (by simp)) ?_); rintro e w6 ⟨rfl, b6⟩; have p6 := p5.below b6; have q6 := q5.below b6; have x6 := x5.more b6; have y6 := y5.more b6; have s6 := s5.more b6; have t6 := t5.more b6; have g6 := g5.more b6)
      | (go_at_call 15; (with_reducible refine Calls.mono (M2 _ p6 q6) ?_); rintro e w7 ⟨a8, c8, rfl, o8⟩; have p7 := p6.below o8.below; have q7 := q6.below o8.below; have x7 := x6.more o8.below; have y7 := y6.more o8.below; have s7 := s6.more o8.below; have t7 := t6.more o8.below; have g7 := g6.more o8.below)
      | (go_at_call 16; (with_reducible refine Calls.mono (M1 _ p7 q7) ?_); rintro e w8 ⟨a9, c9, rfl, o9⟩; have p8 := p7.below o9.below; have q8 := q7.below o9.below; have x8 := x7.more o9.below; have y8 := y7.more o9.below; have s8 := s7.more o9.below; have t8 := t7.more o9.below; have g8 := g7.more o9.below; have l8 := o8.more o9.below)
      | (go_at_call 11; (with_reducible refine Calls.mono (ref_words _ _ _ _ _ _ _ _ _ l8.words o9.words true (by simp)) ?_); rintro e w9 ⟨rfl, b9⟩; have p9 := p8.below b9; have q9 := q8.below b9; have x9 := x8.more b9; have y9 := y8.more b9; have s9 := s8.more b9; have t9 := t8.more b9; have g9 := g8.more b9)
      | (go_at_call 17; (with_reducible refine Calls.mono (AP _ p9 q9) ?_); rintro e w10 ⟨rfl, b10⟩; have x10 := x9.more b10; have y10 := y9.more b10; have s10 := s9.more b10; have t10 := t9.more b10; have g10 := g9.more b10)
      | (go_at_call 11; (with_reducible refine Calls.mono (ref_words _ _ _ _ _ _ _ _ _ x10.words s10.words true (by simp)) ?_); rintro e w11 ⟨rfl, b11⟩; have y11 := y10.more b11; have t11 := t10.more b11; have g11 := g10.more b11)
      | (go_at_call 11; (with_reducible refine Calls.mono (ref_words _ _ _ _ _ _ _ _ _ y11.words t11.words true (by simp)) ?_); rintro e w12 ⟨rfl, b12⟩; have g12 := g11.more b12))
    go_ret
    exact ⟨ret_bool (by simp), below_more b0 g12.below⟩
  · have F := fun v => ref_few a len cap b len1 cap1 8 v false (by simpa using hf)
    clear P Q hf
    go_enter Try.func3, Try.ntmps3
    go_wp2_with (first
      | (go_at_call 8; refine (common_awake _).mono ?_; rintro e u0 ⟨rfl, b0⟩)
      | (go_at_call 9; (with_reducible refine Calls.mono (F _) ?_); rintro e v1 ⟨rfl, rfl⟩))
    go_ret
    exact ⟨rfl, b0⟩

set_option maxHeartbeats 1000000 in
theorem law5_goes {a : Option Addr} {n c : Nat} {zs : List Int} {b : Option Addr} {m d : Nat} {ys : List Int} {w : World} (h : IsWords w (.slice a n c) zs) (hz : Wd zs) (g : IsWords w (.slice b m d) ys) (gz : Wd ys) (hn : n ≤ 1000000000000) (A D : Nat) (hA : val zs = A) (hD : val ys = D) (r : Bool) (hr : decide (0 < D ∧ A % D = 0) = r) :
    Calls Try.prog 20 #[.slice b m d, .slice a n c] w fun e w' => e = .returned (.bool r) ∧ Below w.heap.size w w' := by
  have S := split_div_any h hz g gz hn A D hA hD
  unfold AnsDivB at S
  rcases Nat.eq_zero_or_pos D with h0 | h0
  · subst h0
    obtain rfl : r = false := by rw [← hr]; simp
    rw [show decide (0 < 0) = false from rfl] at S
    generalize A / 0 = K1 at S
    generalize rest A 0 = K2 at S
    clear h hz g gz hn hA hD hr
    go_enter Try.func20, Try.ntmps20
    go_wp2_with (go_at_call 19; (with_reducible refine Calls.mono S ?_); rintro e w1 ⟨a1, c1, a2, c2, rfl, o1, o2⟩)
    go_ret
    exact ⟨rfl, o1.below⟩
  · rw [show decide (0 < D) = true from decide_eq_true h0] at S
    have e : rest A D = A % D := if_neg (by omega)
    rw [e] at S
    have hr2 : ((nl (A % D) : Int) == 0) = r := by
      rw [← hr, Bool.eq_iff_iff]
      simp only [beq_iff_eq, decide_eq_true_eq]
      constructor
      · intro h
        refine ⟨h0, ?_⟩
        rcases Nat.eq_zero_or_pos (A % D) with h1 | h1
        · exact h1
        · have := nl_pos h1; omega
      · rintro ⟨-, h⟩; rw [h, nl_zero]; rfl
    generalize A / D = K1 at S
    generalize A % D = K2 at S hr2
    clear h hz g gz hn hA hD hr e h0
    go_enter Try.func20, Try.ntmps20
    go_wp2_with (go_at_call 19; (with_reducible refine Calls.mono S ?_); rintro e w1 ⟨a1, c1, a2, c2, rfl, o1, o2⟩)
    go_ret
    exact ⟨rfl, o1.below⟩

set_option maxHeartbeats 8000000 in
theorem law_CommonDivides (a : Option Addr) (len cap : Nat) (zs : List Int) (b : Option Addr) (len1 cap1 : Nat) (zs1 : List Int) (d : Option Addr) (len2 cap2 : Nat) (zs2 : List Int) (w : World) (h0 : CameIn .u32 w a len cap zs) (h1 : CameIn .u32 w b len1 cap1 zs1) (h2 : CameIn .u32 w d len2 cap2 zs2) :
    Calls Try.prog 4 #[.slice a len cap, .slice b len1 cap1, .slice d len2 cap2] w fun e w' => e = .returned (.bool true) ∧ Below w.heap.size w w' := by
  have P := came_words h0
  have hw := came_wd h0
  have Q := came_words h1
  have gw := came_wd h1
  have D := came_words h2
  have dw := came_wd h2
  generalize zs.take len = xs at P hw
  generalize zs1.take len1 = ys at Q gw
  generalize zs2.take len2 = ds at D dw
  clear h0 h1 h2
  by_cases hf : len ≤ 8 ∧ len1 ≤ 8
  case neg =>
    have F := fun v => ref_few a len cap b len1 cap1 8 v false (by simpa using hf)
    clear P Q D hf
    go_enter Try.func4, Try.ntmps4
    go_wp2_with (first
      | (go_at_call 8; refine (common_awake _).mono ?_; rintro e u0 ⟨rfl, b0⟩)
      | (go_at_call 9; (with_reducible refine Calls.mono (F _) ?_); rintro e v1 ⟨rfl, rfl⟩))
    go_ret
    exact ⟨rfl, b0⟩
  case pos =>
  have F := fun v => ref_few a len cap b len1 cap1 8 v true (by simpa using hf)
  by_cases hd : len2 ≤ 8
  case neg =>
    clear P Q D hf
    go_enter Try.func4, Try.ntmps4
    go_wp2_with (first
      | (go_at_call 8; refine (common_awake _).mono ?_; rintro e u0 ⟨rfl, b0⟩)
      | (go_at_call 9; (with_reducible refine Calls.mono (F _) ?_); rintro e v1 ⟨rfl, rfl⟩))
    go_ret
    exact ⟨rfl, b0⟩
  case pos =>
  have B1 := fun v (q : IsWords v (.slice a len cap) xs) => nat_bits' q hw (by omega) _ rfl
  have B2 := fun v (q : IsWords v (.slice b len1 cap1) ys) => nat_bits' q gw (by omega) _ rfl
  by_cases hz : val xs = 0 ∧ val ys = 0
  case pos =>
    simp only [hz.1, nbits_zero] at B1
    simp only [hz.2, nbits_zero] at B2
    clear hf hz
    go_enter Try.func4, Try.ntmps4
    go_wp2_with (first
      | (go_at_call 8; refine (common_awake _).mono ?_; rintro e u0 ⟨rfl, b0⟩; have p0 := P.below b0; have q0 := Q.below b0)
      | (go_at_call 9; (with_reducible refine Calls.mono (F _) ?_); rintro e v1 ⟨rfl, rfl⟩)
      | (go_at_call 18; (with_reducible refine Calls.mono (B1 _ p0) ?_); rintro e v1 ⟨rfl, rfl⟩)
      | (go_at_call 18; (with_reducible refine Calls.mono (B2 _ q0) ?_); rintro e v1 ⟨rfl, rfl⟩))
    go_ret
    exact ⟨rfl, b0⟩
  case neg =>
  have hg : 0 < Nat.gcd (val xs) (val ys) := Nat.gcd_pos_iff.2 (by omega)
  have G1 := fun v (p : IsWords v (.slice a len cap) xs) (q : IsWords v (.slice b len1 cap1) ys) => common_gcd p hw q gw (by omega) (by omega) _ rfl
  have G2 := fun v (p : IsWords v (.slice a len cap) xs) (q : IsWords v (.slice b len1 cap1) ys) => common_gcd q gw p hw (by omega) (by omega) (Nat.gcd (val xs) (val ys)) (Nat.gcd_comm _ _)
  have D1 := fun v a1 c1 (p : IsWords v (.slice a len cap) xs) (q : IsWords v (.slice a1 (nl (Nat.gcd (val xs) (val ys))) c1) (natOf (Nat.gcd (val xs) (val ys)))) => split_div p hw q (wd_natOf _) (by omega) _ _ rfl (val_natOf _) hg
  have D2 := fun v a1 c1 (p : IsWords v (.slice b len1 cap1) ys) (q : IsWords v (.slice a1 (nl (Nat.gcd (val xs) (val ys))) c1) (natOf (Nat.gcd (val xs) (val ys)))) => split_div p gw q (wd_natOf _) (by omega) _ _ rfl (val_natOf _) hg
  have lx : nl (val xs) ≤ 8 := nl_small hw _ (by rw [P.len]; omega)
  have ly : nl (val ys) ≤ 8 := nl_small gw _ (by rw [Q.len]; omega)
  have lx2 : nl (val xs / Nat.gcd (val xs) (val ys)) ≤ 8 := Nat.le_trans (nl_mono (Nat.div_le_self _ _)) lx
  have ly2 : nl (val ys / Nat.gcd (val xs) (val ys)) ≤ 8 := Nat.le_trans (nl_mono (Nat.div_le_self _ _)) ly
  have lg : nl (Nat.gcd (val xs) (val ys)) ≤ 8 := by
    rcases Nat.eq_zero_or_pos (val xs) with e | e
    · rw [e, Nat.gcd_zero_left]; exact ly
    · exact Nat.le_trans (nl_mono (Nat.gcd_le_left _ e)) lx
  have AP := fun v a1 c1 a2 c2 (p : IsWords v (.slice a1 (nl (val xs / Nat.gcd (val xs) (val ys))) c1) (natOf (val xs / Nat.gcd (val xs) (val ys)))) (q : IsWords v (.slice a2 (nl (val ys / Nat.gcd (val xs) (val ys))) c2) (natOf (val ys / Nat.gcd (val xs) (val ys)))) => common_apart p (wd_natOf _) q (wd_natOf _) (by omega) (by omega) true (decide_eq_true (by rw [val_natOf, val_natOf, Nat.gcd_div (Nat.gcd_dvd_left _ _) (Nat.gcd_dvd_right _ _), Nat.div_self hg]))
  have O1 := fun v (p : IsWords v (.slice a len cap) xs) (q : IsWords v (.slice d len2 cap2) ds) => law5_goes p hw q dw (by omega) _ _ rfl rfl _ rfl
  have O2 := fun v (p : IsWords v (.slice b len1 cap1) ys) (q : IsWords v (.slice d len2 cap2) ds) => law5_goes p gw q dw (by omega) _ _ rfl rfl _ rfl
  have O3 := fun v a1 c1 (p : IsWords v (.slice a1 (nl (Nat.gcd (val xs) (val ys))) c1) (natOf (Nat.gcd (val xs) (val ys)))) (q : IsWords v (.slice d len2 cap2) ds) => law5_goes p (wd_natOf _) q dw (by omega) _ _ (val_natOf _) rfl _ rfl
  have hO : decide (0 < val ds ∧ val xs % val ds = 0) = true → decide (0 < val ds ∧ val ys % val ds = 0) = true → decide (0 < val ds ∧ Nat.gcd (val xs) (val ys) % val ds = 0) = true := by
    simp only [decide_eq_true_eq]
    rintro ⟨h1, h2⟩ ⟨-, h3⟩
    exact ⟨h1, Nat.mod_eq_zero_of_dvd (Nat.dvd_gcd (Nat.dvd_of_mod_eq_zero h2) (Nat.dvd_of_mod_eq_zero h3))⟩
  have hb : (((nbits (val xs) : Int) == 0) = false) ∨ (((nbits (val xs) : Int) == 0) = true ∧ ((nbits (val ys) : Int) == 0) = false) := by
    rcases Nat.eq_zero_or_pos (val xs) with e | e
    · right
      have : 0 < val ys := by omega
      rw [e, nbits_zero, nbits_pos (by omega)]
      exact ⟨rfl, by simp; omega⟩
    · left
      rw [nbits_pos (by omega)]; simp; omega
  rw [Nat.mod_eq_zero_of_dvd (Nat.gcd_dvd_left _ _)] at D1
  rw [Nat.mod_eq_zero_of_dvd (Nat.gcd_dvd_right _ _)] at D2
  unfold AnsDiv at D1 D2
  unfold Ans at G1 G2
  rw [nl_zero] at D1 D2
  generalize (nbits (val xs) : Int) = n1 at B1 hb
  generalize (nbits (val ys) : Int) = n2 at B2 hb
  generalize decide (0 < val ds ∧ val xs % val ds = 0) = r1 at O1 hO
  generalize decide (0 < val ds ∧ val ys % val ds = 0) = r2 at O2 hO
  generalize decide (0 < val ds ∧ Nat.gcd (val xs) (val ys) % val ds = 0) = r3 at O3 hO
  generalize val xs / Nat.gcd (val xs) (val ys) = K1 at D1 AP lx2
  generalize val ys / Nat.gcd (val xs) (val ys) = K2 at D2 AP ly2
  generalize Nat.gcd (val xs) (val ys) = K3 at G1 G2 D1 D2 O3 hg lg
  clear hg lg lx ly lx2 ly2 hf hz
  obtain ⟨rfl, rfl, rfl⟩ | ⟨rfl, rfl⟩ | rfl : (r1 = true ∧ r2 = true ∧ r3 = true) ∨ (r1 = true ∧ r2 = false) ∨ r1 = false := by
    rcases r1 with _ | _ <;> rcases r2 with _ | _ <;> simp_all
  all_goals
    clear hO
    rcases hb with hb1 | ⟨hb1, hb2⟩
    all_goals
      go_enter Try.func4, Try.ntmps4
      go_wp2_with (first
        | (go_at_call 8; refine (common_awake _).mono ?_; rintro e u0 ⟨rfl, b0⟩; have p0 := P.below b0; have q0 := Q.below b0; have d0 := D.below b0)
        | (go_at_call 9; (with_reducible refine Calls.mono (F _) ?_); rintro e v1 ⟨rfl, rfl⟩)
        | (go_at_call 18; (with_reducible refine Calls.mono (B1 _ p0) ?_); rintro e v1 ⟨rfl, rfl⟩)
        | (go_at_call 18; (with_reducible refine Calls.mono (B2 _ q0) ?_); rintro e v1 ⟨rfl, rfl⟩)
        | (go_at_call 14; (with_reducible refine Calls.mono (G1 _ p0 q0) ?_); rintro e w1 ⟨a1, c1, rfl, o1⟩; have p1 := p0.below o1.below; have q1 := q0.below o1.below; have d1 := d0.below o1.below)
        | (go_at_call 19; (with_reducible refine Calls.mono (D1 _ _ _ p1 o1.words) ?_); rintro e w2 ⟨a2, c2, a3, c3, rfl, o2, o3⟩; have p2 := p1.below o2.below; have q2 := q1.below o2.below; have d2 := d1.below o2.below; have g2 := o1.more o2.below)
        | (go_at_call 19; (with_reducible refine Calls.mono (D2 _ _ _ q2 g2.words) ?_); rintro e w3 ⟨a4, c4, a5, c5, rfl, o4, o5⟩; have p3 := p2.below o4.below; have q3 := q2.below o4.below; have d3 := d2.below o4.below; have g3 := g2.more o4.below; have x3 := o2.more o4.below; have y3 := o4)
        | (go_at_call 20; (with_reducible refine Calls.mono (O1 _ p3 d3) ?_); rintro e w4 ⟨rfl, b4⟩; replace p3 := p3.below b4; replace q3 := q3.below b4; replace d3 := d3.below b4; replace g3 := g3.more b4; replace x3 := x3.more b4; replace y3 := y3.more b4)
        | (go_at_call 20; (with_reducible refine Calls.mono (O2 _ q3 d3) ?_); rintro e w5 ⟨rfl, b5⟩; replace p3 := p3.below b5; replace q3 := q3.below b5; replace d3 := d3.below b5; replace g3 := g3.more b5; replace x3 := x3.more b5; replace y3 := y3.more b5)
        | (go_at_call 20; (with_reducible refine Calls.mono (O3 _ _ _ g3.words d3) ?_); rintro e w6 ⟨rfl, b6⟩; replace p3 := p3.below b6; replace q3 := q3.below b6; replace g3 := g3.more b6; replace x3 := x3.more b6; replace y3 := y3.more b6)
        | (go_at_call 17; (with_reducible refine Calls.mono (AP _ _ _ _ _ x3.words y3.words) ?_); rintro e w7 ⟨rfl, b7⟩; replace p3 := p3.below b7; replace q3 := q3.below b7; replace g3 := g3.more b7)
        | (go_at_call 14; (with_reducible refine Calls.mono (G2 _ p3 q3) ?_); rintro e w8 ⟨a8, c8, rfl, o8⟩; replace g3 := g3.more o8.below)
        | (go_at_call 11; (with_reducible refine Calls.mono (ref_words _ _ _ _ _ _ _ _ _ o8.words g3.words true (by simp)) ?_); rintro e w9 ⟨rfl, b9⟩; replace g3 := g3.more b9))
      go_ret
      exact ⟨rfl, below_more b0 g3.below⟩
end Go.Proofs.Ytpcfelknjcggiaa
