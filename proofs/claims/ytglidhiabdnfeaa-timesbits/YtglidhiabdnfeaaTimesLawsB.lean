/-
  The walks of the statements TimesSums and TimesBits: for all lists of words they return true; memory that was there stays.
-/
import Derived.Test.YtglidhiabdnfeaaTimesLawsA
namespace Go.Proofs.Ytglidhiabdnfeaa
open Go.RowKit

theorem pow_nbits (n : Nat) (h : n ≠ 0) : 2 ^ nbits n ≤ 2 * n := by
  induction n using Nat.strongRecOn with
  | _ n ih =>
    rw [nbits_pos h, Nat.add_comm, Nat.pow_succ]
    by_cases h2 : n / 2 = 0
    · rw [h2, nbits_zero]; omega
    · have := ih (n / 2) (by omega) h2
      omega
theorem lt_of_pow {k n : Nat} (h : 2 ^ k ≤ n) : k < nbits n := by
  rcases Nat.lt_or_ge k (nbits n) with h1 | h1
  · exact h1
  · have h2 := lt_nbits n
    have h3 : 2 ^ nbits n ≤ 2 ^ k := Nat.pow_le_pow_right (by omega) h1
    omega
theorem nbits_ne {n : Nat} (h : n ≠ 0) : 1 ≤ nbits n := by rw [nbits_pos h]; omega
theorem nbits_words (n : Nat) : nbits n ≤ 32 * nl n := nbits_le _ _ (by rw [← pow_word]; exact lt_nl n)
/-- A product's bits. -/
theorem nbits_mul (a b : Nat) (ha : a ≠ 0) (hb : b ≠ 0) : nbits (a * b) ≤ nbits a + nbits b ∧ nbits a + nbits b ≤ nbits (a * b) + 1 := by
  constructor
  · refine nbits_le _ _ ?_
    rw [Nat.pow_add]
    exact Nat.mul_lt_mul_of_lt_of_le (lt_nbits a) (Nat.le_of_lt (lt_nbits b)) (Nat.pow_pos (by omega))
  · have h1 := pow_nbits a ha
    have h2 := pow_nbits b hb
    have e1 := nbits_ne ha
    have e2 := nbits_ne hb
    have h3 : 2 ^ nbits a * 2 ^ nbits b ≤ 2 * a * (2 * b) := Nat.mul_le_mul h1 h2
    rw [← Nat.pow_add, show nbits a + nbits b = (nbits a + nbits b - 2) + 2 by omega, Nat.pow_add, show 2 * a * (2 * b) = a * b * 2 ^ 2 by rw [Nat.mul_mul_mul_comm, Nat.mul_comm]] at h3
    have h4 := lt_of_pow (Nat.le_of_mul_le_mul_right h3 (by omega))
    omega

set_option maxHeartbeats 4000000 in
theorem law_TimesSums (a : Option Addr) (len cap : Nat) (zs : List Int) (b : Option Addr) (len1 cap1 : Nat) (zs1 : List Int) (d : Option Addr) (len2 cap2 : Nat) (zs2 : List Int) (w : World) (h0 : CameIn .u32 w a len cap zs) (h1 : CameIn .u32 w b len1 cap1 zs1) (h2 : CameIn .u32 w d len2 cap2 zs2) :
    Calls Try.prog 6 #[.slice a len cap, .slice b len1 cap1, .slice d len2 cap2] w fun e w' => e = .returned (.bool true) ∧ Below w.heap.size w w' := by
  have P := came_words h0
  have hw := came_wd h0
  have Q := came_words h1
  have gw := came_wd h1
  have R := came_words h2
  have rw := came_wd h2
  have l0 := P.len
  have l1 := Q.len
  have l2 := R.len
  have m2 := R.reads.2
  generalize zs.take len = xs at P hw l0
  generalize zs1.take len1 = ys at Q gw l1
  generalize zs2.take len2 = ts at R rw l2
  clear h0 h1 h2
  by_cases hf : len ≤ 20 ∧ len1 ≤ 20
  · have F := fun v => ref_few a len cap b len1 cap1 20 v true (by simpa using hf)
    by_cases hf2 : 20 < len2
    · clear P Q R hf l0 l1 l2
      go_enter Try.func6, Try.ntmps6
      go_wp2_with (first
        | (go_at_call 9; refine (times_awake _).mono ?_; rintro e u0 ⟨rfl, b0⟩)
        | (go_at_call 10; (with_reducible refine Calls.mono (F _) ?_); rintro e v1 ⟨rfl, rfl⟩))
      go_ret
      exact ⟨rfl, b0⟩
    · have kX := nl_small hw 20 (by omega)
      have kY := nl_small gw 20 (by omega)
      have kT := nl_small rw 20 (by omega)
      have k1 := nl_mul (val xs) (val ts)
      have k2 := nl_mul (val ys) (val ts)
      have k3 := nl_add (val xs) (val ys)
      have k4 : nl (val xs - val ys) ≤ 20 := Nat.le_trans (nl_mono (Nat.sub_le _ _)) kX
      have S1 := fun v (p : IsWords v (.slice a len cap) xs) (q : IsWords v (.slice b len1 cap1) ys) => nat_add' p hw q gw (by omega) (by omega) _ rfl
      have M1 := fun v a1 c1 (p : IsWords v (.slice a1 (nl (val xs + val ys)) c1) (natOf (val xs + val ys))) (r : IsWords v (.slice d len2 cap2) ts) => times_mul' p (wd_natOf _) r rw (by omega) (by omega) (val xs * val ts + val ys * val ts) (by rw [val_natOf, Nat.add_mul])
      have MA := fun v (p : IsWords v (.slice a len cap) xs) (r : IsWords v (.slice d len2 cap2) ts) => times_mul' p hw r rw (by omega) (by omega) _ rfl
      have MB := fun v (p : IsWords v (.slice b len1 cap1) ys) (r : IsWords v (.slice d len2 cap2) ts) => times_mul' p gw r rw (by omega) (by omega) _ rfl
      have S2 := fun v a1 c1 a2 c2 (p : IsWords v (.slice a1 (nl (val xs * val ts)) c1) (natOf (val xs * val ts))) (r : IsWords v (.slice a2 (nl (val ys * val ts)) c2) (natOf (val ys * val ts))) => nat_add' p (wd_natOf _) r (wd_natOf _) (by omega) (by omega) (val xs * val ts + val ys * val ts) (by rw [val_natOf, val_natOf])
      have D1 := fun v (p : IsWords v (.slice a len cap) xs) (q : IsWords v (.slice b len1 cap1) ys) => nat_sub_any p hw q gw (by omega) _ _ rfl rfl
      have D2 := fun v a1 c1 a2 c2 (p : IsWords v (.slice a1 (nl (val xs * val ts)) c1) (natOf (val xs * val ts))) (r : IsWords v (.slice a2 (nl (val ys * val ts)) c2) (natOf (val ys * val ts))) => nat_sub_any p (wd_natOf _) r (wd_natOf _) (by omega) _ _ (val_natOf _) (val_natOf _)
      have M2 := fun v a1 c1 (p : IsWords v (.slice a1 (nl (val xs - val ys)) c1) (natOf (val xs - val ys))) (r : IsWords v (.slice d len2 cap2) ts) => times_mul' p (wd_natOf _) r rw (by omega) (by omega) (val xs * val ts - val ys * val ts) (by rw [val_natOf, Nat.sub_mul])
      by_cases hle : val ys ≤ val xs
      · have hd : decide (val ys * val ts ≤ val xs * val ts) = true := by simpa using Nat.mul_le_mul_right _ hle
        rw [show decide (val ys ≤ val xs) = true by simpa using hle] at D1
        rw [hd] at D2
        generalize val xs * val ts + val ys * val ts = N at M1 S2
        generalize val xs * val ts - val ys * val ts = K at D2 M2
        generalize val xs + val ys = N1 at S1 M1
        generalize val xs - val ys = K1 at D1 M2
        generalize val xs * val ts = NA at MA S2 D2
        generalize val ys * val ts = NB at MB S2 D2
        clear hf hw gw rw l0 l1 l2 k1 k2 k3 k4 kX kY kT hle hd
        go_enter Try.func6, Try.ntmps6
        go_wp2_with (first
          | (go_at_call 9; refine (times_awake _).mono ?_; rintro e u0 ⟨rfl, b0⟩; have p0 := P.below b0; have q0 := Q.below b0; have r0 := R.below b0)
          | (go_at_call 10; (with_reducible refine Calls.mono (F _) ?_); rintro e v1 ⟨rfl, rfl⟩)
          | (go_at_call 22; (with_reducible refine Calls.mono (S1 _ p0 q0) ?_); rintro e w1 ⟨a1, c1, rfl, o1⟩; have p1 := p0.below o1.below; have q1 := q0.below o1.below; have r1 := r0.below o1.below)
          | (go_at_call 12; (with_reducible refine Calls.mono (M1 _ _ _ o1.words r1) ?_); rintro e w2 ⟨a2, c2, rfl, o2⟩; have p2 := p1.below o2.below; have q2 := q1.below o2.below; have r2 := r1.below o2.below; have b2 := below_more b0 (o1.more o2.below).below)
          | (go_at_call 12; (with_reducible refine Calls.mono (MA _ p2 r2) ?_); rintro e w3 ⟨a3, c3, rfl, o3⟩; have p3 := p2.below o3.below; have q3 := q2.below o3.below; have r3 := r2.below o3.below; have x3 := o2.more o3.below)
          | (go_at_call 12; (with_reducible refine Calls.mono (MB _ q3 r3) ?_); rintro e w4 ⟨a4, c4, rfl, o4⟩; have p4 := p3.below o4.below; have q4 := q3.below o4.below; have r4 := r3.below o4.below; have x4 := x3.more o4.below; have y4 := o3.more o4.below)
          | (go_at_call 22; (with_reducible refine Calls.mono (S2 _ _ _ _ _ y4.words o4.words) ?_); rintro e w5 ⟨a5, c5, rfl, o5⟩; have p5 := p4.below o5.below; have q5 := q4.below o5.below; have r5 := r4.below o5.below; have x5 := x4.more o5.below)
          | (go_at_call 23; (with_reducible refine Calls.mono (D1 _ p5 q5) ?_); rintro e w6 ⟨a6, c6, rfl, o6⟩; have p6 := p5.below o6.below; have q6 := q5.below o6.below; have r6 := r5.below o6.below; have x6 := x5.more o6.below; have y6 := o5.more o6.below)
          | (go_at_call 12; (with_reducible refine Calls.mono (MA _ p6 r6) ?_); rintro e w7 ⟨a7, c7, rfl, o7⟩; have q7 := q6.below o7.below; have r7 := r6.below o7.below; have x7 := x6.more o7.below; have y7 := y6.more o7.below; have d7 := o6.more o7.below)
          | (go_at_call 12; (with_reducible refine Calls.mono (MB _ q7 r7) ?_); rintro e w8 ⟨a8, c8, rfl, o8⟩; have r8 := r7.below o8.below; have x8 := x7.more o8.below; have y8 := y7.more o8.below; have d8 := d7.more o8.below; have e8 := o7.more o8.below)
          | (go_at_call 23; (with_reducible refine Calls.mono (D2 _ _ _ _ _ e8.words o8.words) ?_); rintro e w9 ⟨a9, c9, rfl, o9⟩; have r9 := r8.below o9.below; have x9 := x8.more o9.below; have y9 := y8.more o9.below; have d9 := d8.more o9.below)
          | (go_at_call 12; (with_reducible refine Calls.mono (M2 _ _ _ d9.words r9) ?_); rintro e w10 ⟨a10, c10, rfl, o10⟩; have x10 := x9.more o10.below; have y10 := y9.more o10.below; have e10 := o9.more o10.below)
          | (go_at_call 11; (with_reducible refine Calls.mono (ref_words _ _ _ _ _ _ _ _ _ o10.words e10.words true (by simp)) ?_); rintro e w11 ⟨rfl, b11⟩; have x11 := x10.more b11; have y11 := y10.more b11)
          | (go_at_call 11; (with_reducible refine Calls.mono (ref_words _ _ _ _ _ _ _ _ _ x11.words y11.words true (by simp)) ?_); rintro e w12 ⟨rfl, b12⟩; have x12 := x11.more b12))
        go_ret
        exact ⟨ret_bool (by simp), below_more (below_more b0 o1.below) x12.below⟩
      · rw [show decide (val ys ≤ val xs) = false by simpa using hle] at D1
        generalize decide (val ys * val ts ≤ val xs * val ts) = r at D2
        generalize val xs * val ts + val ys * val ts = N at M1 S2
        generalize val xs * val ts - val ys * val ts = K at D2 M2
        generalize val xs + val ys = N1 at S1 M1
        generalize val xs - val ys = K1 at D1 M2
        generalize val xs * val ts = NA at MA S2 D2
        generalize val ys * val ts = NB at MB S2 D2
        clear hf hw gw rw l0 l1 l2 k1 k2 k3 k4 kX kY kT hle M2
        go_enter Try.func6, Try.ntmps6
        go_wp2_with (first
          | (go_at_call 9; refine (times_awake _).mono ?_; rintro e u0 ⟨rfl, b0⟩; have p0 := P.below b0; have q0 := Q.below b0; have r0 := R.below b0)
          | (go_at_call 10; (with_reducible refine Calls.mono (F _) ?_); rintro e v1 ⟨rfl, rfl⟩)
          | (go_at_call 22; (with_reducible refine Calls.mono (S1 _ p0 q0) ?_); rintro e w1 ⟨a1, c1, rfl, o1⟩; have p1 := p0.below o1.below; have q1 := q0.below o1.below; have r1 := r0.below o1.below)
          | (go_at_call 12; (with_reducible refine Calls.mono (M1 _ _ _ o1.words r1) ?_); rintro e w2 ⟨a2, c2, rfl, o2⟩; have p2 := p1.below o2.below; have q2 := q1.below o2.below; have r2 := r1.below o2.below)
          | (go_at_call 12; (with_reducible refine Calls.mono (MA _ p2 r2) ?_); rintro e w3 ⟨a3, c3, rfl, o3⟩; have p3 := p2.below o3.below; have q3 := q2.below o3.below; have r3 := r2.below o3.below; have x3 := o2.more o3.below)
          | (go_at_call 12; (with_reducible refine Calls.mono (MB _ q3 r3) ?_); rintro e w4 ⟨a4, c4, rfl, o4⟩; have p4 := p3.below o4.below; have q4 := q3.below o4.below; have r4 := r3.below o4.below; have x4 := x3.more o4.below; have y4 := o3.more o4.below)
          | (go_at_call 22; (with_reducible refine Calls.mono (S2 _ _ _ _ _ y4.words o4.words) ?_); rintro e w5 ⟨a5, c5, rfl, o5⟩; have p5 := p4.below o5.below; have q5 := q4.below o5.below; have r5 := r4.below o5.below; have x5 := x4.more o5.below)
          | (go_at_call 23; (with_reducible refine Calls.mono (D1 _ p5 q5) ?_); rintro e w6 ⟨a6, c6, rfl, o6⟩; have p6 := p5.below o6.below; have q6 := q5.below o6.below; have r6 := r5.below o6.below; have x6 := x5.more o6.below; have y6 := o5.more o6.below)
          | (go_at_call 12; (with_reducible refine Calls.mono (MA _ p6 r6) ?_); rintro e w7 ⟨a7, c7, rfl, o7⟩; have q7 := q6.below o7.below; have r7 := r6.below o7.below; have x7 := x6.more o7.below; have y7 := y6.more o7.below)
          | (go_at_call 12; (with_reducible refine Calls.mono (MB _ q7 r7) ?_); rintro e w8 ⟨a8, c8, rfl, o8⟩; have x8 := x7.more o8.below; have y8 := y7.more o8.below; have e8 := o7.more o8.below)
          | (go_at_call 23; (with_reducible refine Calls.mono (D2 _ _ _ _ _ e8.words o8.words) ?_); rintro e w9 ⟨a9, c9, rfl, o9⟩; have x9 := x8.more o9.below; have y9 := y8.more o9.below)
          | (go_at_call 11; (with_reducible refine Calls.mono (ref_words _ _ _ _ _ _ _ _ _ x9.words y9.words true (by simp)) ?_); rintro e w12 ⟨rfl, b12⟩; have x12 := x9.more b12))
        go_ret
        exact ⟨ret_bool (by simp), below_more (below_more b0 o1.below) x12.below⟩
  · have F := fun v => ref_few a len cap b len1 cap1 20 v false (by simpa using hf)
    clear P Q R hf l0 l1 l2
    go_enter Try.func6, Try.ntmps6
    go_wp2_with (first
      | (go_at_call 9; refine (times_awake _).mono ?_; rintro e u0 ⟨rfl, b0⟩)
      | (go_at_call 10; (with_reducible refine Calls.mono (F _) ?_); rintro e v1 ⟨rfl, rfl⟩))
    go_ret
    exact ⟨rfl, b0⟩

set_option maxHeartbeats 4000000 in
theorem law_TimesBits (a : Option Addr) (len cap : Nat) (zs : List Int) (b : Option Addr) (len1 cap1 : Nat) (zs1 : List Int) (w : World) (h0 : CameIn .u32 w a len cap zs) (h1 : CameIn .u32 w b len1 cap1 zs1) :
    Calls Try.prog 7 #[.slice a len cap, .slice b len1 cap1] w fun e w' => e = .returned (.bool true) ∧ Below w.heap.size w w' := by
  have P := came_words h0
  have hw := came_wd h0
  have Q := came_words h1
  have gw := came_wd h1
  have l0 := P.len
  have l1 := Q.len
  generalize zs.take len = xs at P hw l0
  generalize zs1.take len1 = ys at Q gw l1
  clear h0 h1
  by_cases hf : len ≤ 20 ∧ len1 ≤ 20
  · have F := fun v => ref_few a len cap b len1 cap1 20 v true (by simpa using hf)
    have kX := nl_small hw 20 (by omega)
    have kY := nl_small gw 20 (by omega)
    have k1 := nl_mul (val xs) (val ys)
    have M1 := fun v (p : IsWords v (.slice a len cap) xs) (q : IsWords v (.slice b len1 cap1) ys) => times_mul' p hw q gw (by omega) (by omega) _ rfl
    have B1 := fun v (p : IsWords v (.slice a len cap) xs) => nat_bits a len cap xs v p hw (by omega)
    have B2 := fun v (p : IsWords v (.slice b len1 cap1) ys) => nat_bits b len1 cap1 ys v p gw (by omega)
    have hm := nbits_mul (val xs) (val ys)
    have z1 : val xs = 0 → nbits (val xs) = 0 := fun h => by rw [h, nbits_zero]
    have z2 : val ys = 0 → nbits (val ys) = 0 := fun h => by rw [h, nbits_zero]
    have n1 := nbits_ne (n := val xs)
    have n2 := nbits_ne (n := val ys)
    have c1 : nbits (val xs) ≤ 640 := by have := nbits_words (val xs); omega
    have c2 : nbits (val ys) ≤ 640 := by have := nbits_words (val ys); omega
    by_cases hz : val xs = 0 ∨ val ys = 0
    · have e0 : nl (val xs * val ys) = 0 := by rw [show val xs * val ys = 0 by rcases hz with h | h <;> rw [h] <;> simp, nl_zero]
      have hb : nbits (val xs) = 0 ∨ nbits (val xs) ≠ 0 ∧ nbits (val ys) = 0 := by
        by_cases h : val xs = 0
        · exact .inl (z1 h)
        · exact .inr ⟨by have := n1 h; omega, z2 (hz.resolve_left h)⟩
      unfold Ans at M1
      rw [e0] at M1
      generalize nbits (val xs) = nX at *
      generalize nbits (val ys) = nY at *
      generalize natOf (val xs * val ys) = NN at M1
      clear hf hw gw l0 l1 kX kY k1 hm z1 z2 n1 n2 hz e0
      rcases hb with h | ⟨h, h'⟩
      · subst h
        go_enter Try.func7, Try.ntmps7
        go_wp2_with (first
          | (go_at_call 9; refine (times_awake _).mono ?_; rintro e u0 ⟨rfl, b0⟩; have p0 := P.below b0; have q0 := Q.below b0)
          | (go_at_call 10; (with_reducible refine Calls.mono (F _) ?_); rintro e v1 ⟨rfl, rfl⟩)
          | (go_at_call 12; (with_reducible refine Calls.mono (M1 _ p0 q0) ?_); rintro e w1 ⟨a1, c1, rfl, o1⟩; have p1 := p0.below o1.below; have q1 := q0.below o1.below)
          | (go_at_call 24; (with_reducible refine Calls.mono (B1 _ p1) ?_); rintro e v1 ⟨rfl, rfl⟩)
          | (go_at_call 24; (with_reducible refine Calls.mono (B2 _ q1) ?_); rintro e v1 ⟨rfl, rfl⟩))
        go_ret
        exact ⟨ret_bool (by simp), below_more b0 o1.below⟩
      · subst h'
        have hX : ((nX : Int) == 0) = false := by simpa using h
        clear h
        go_enter Try.func7, Try.ntmps7
        go_wp2_with (first
          | (go_at_call 9; refine (times_awake _).mono ?_; rintro e u0 ⟨rfl, b0⟩; have p0 := P.below b0; have q0 := Q.below b0)
          | (go_at_call 10; (with_reducible refine Calls.mono (F _) ?_); rintro e v1 ⟨rfl, rfl⟩)
          | (go_at_call 12; (with_reducible refine Calls.mono (M1 _ p0 q0) ?_); rintro e w1 ⟨a1, c1, rfl, o1⟩; have p1 := p0.below o1.below; have q1 := q0.below o1.below)
          | (go_at_call 24; (with_reducible refine Calls.mono (B1 _ p1) ?_); rintro e v1 ⟨rfl, rfl⟩)
          | (go_at_call 24; (with_reducible refine Calls.mono (B2 _ q1) ?_); rintro e v1 ⟨rfl, rfl⟩))
        go_ret
        exact ⟨ret_bool (by simp), below_more b0 o1.below⟩
    · have hx : val xs ≠ 0 := fun h => hz (.inl h)
      have hy : val ys ≠ 0 := fun h => hz (.inr h)
      obtain ⟨m1, m2⟩ := hm hx hy
      have n1' := n1 hx
      have n2' := n2 hy
      have B3 := fun v a1 c1 (p : IsWords v (.slice a1 (nl (val xs * val ys)) c1) (natOf (val xs * val ys))) => nat_bits a1 _ c1 _ v p (wd_natOf _) (by omega)
      rw [val_natOf] at B3
      have M2 := fun v b1 (p : IsWords v (.slice a len cap) xs) (q : IsWords v (.slice b1 1 1) [1]) => times_mul' p hw q (wd_one (by omega) (by omega)) (by omega) (by omega) (val xs) (by simp [val])
      have T := fun v (p : IsWords v (.slice a len cap) xs) => nat_trim a len cap xs v p hw (by omega)
      have L1 := fun v => lit_words v [1] 1 rfl (by decide)
      simp only [List.map_cons, List.map_nil] at L1
      generalize nbits (val xs * val ys) = nN at *
      generalize nbits (val xs) = nX at *
      generalize nbits (val ys) = nY at *
      generalize val xs * val ys = N at M1 B3
      generalize val xs = X at M2 T
      clear hf hw gw l0 l1 kX kY k1 hm z1 z2 n1 n2 hz hx hy
      have hX : ((nX : Int) == 0) = false := by simp; omega
      have hY : ((nY : Int) == 0) = false := by simp; omega
      by_cases hc : nN = nX + nY
      case' pos => have hB : ((nN : Int) == (nX : Int) + nY) = true := by simp; omega
      case' neg =>
        have hB : ((nN : Int) == (nX : Int) + nY) = false := by simp; omega
        have hB2 : ((nN : Int) == (nX : Int) + nY - 1) = true := by simp; omega
      all_goals
        clear hc m1 m2
        go_enter Try.func7, Try.ntmps7
        go_wp2_with (first
          | (go_at_call 9; refine (times_awake _).mono ?_; rintro e u0 ⟨rfl, b0⟩; have p0 := P.below b0; have q0 := Q.below b0)
          | (go_at_call 10; (with_reducible refine Calls.mono (F _) ?_); rintro e v1 ⟨rfl, rfl⟩)
          | (go_at_call 12; (with_reducible refine Calls.mono (M1 _ p0 q0) ?_); rintro e w1 ⟨a1, c1, rfl, o1⟩; have p1 := p0.below o1.below; have q1 := q0.below o1.below)
          | (go_at_call 24; (with_reducible refine Calls.mono (B1 _ p1) ?_); rintro e v1 ⟨rfl, rfl⟩)
          | (go_at_call 24; (with_reducible refine Calls.mono (B2 _ q1) ?_); rintro e v1 ⟨rfl, rfl⟩)
          | (go_at_call 24; (with_reducible refine Calls.mono (B3 _ _ _ o1.words) ?_); rintro e v1 ⟨rfl, rfl⟩)
          | (go_at_call 12; (with_reducible refine Calls.mono (M2 _ _ (p1.below ((Below.refl _ _).alloc (Nat.le_refl _) _)) (L1 _)) ?_); rintro e w2 ⟨a2, c2, rfl, o2⟩; have x2 := (o1.alloc _).more o2.below; have p2 := p0.below x2.below)
          | (go_at_call 25; (with_reducible refine Calls.mono (T _ p2) ?_); rintro e w3 ⟨a3, c3, rfl, o3⟩; have x3 := x2.more o3.below; have y3 := o2.more o3.below)
          | (go_at_call 11; (with_reducible refine Calls.mono (ref_words _ _ _ _ _ _ _ _ _ y3.words o3.words true (by simp)) ?_); rintro e w4 ⟨rfl, b4⟩; have x4 := x3.more b4))
        go_ret
        exact ⟨ret_bool (by simp), below_more b0 x4.below⟩
  · have F := fun v => ref_few a len cap b len1 cap1 20 v false (by simpa using hf)
    clear P Q hf l0 l1
    go_enter Try.func7, Try.ntmps7
    go_wp2_with (first
      | (go_at_call 9; refine (times_awake _).mono ?_; rintro e u0 ⟨rfl, b0⟩)
      | (go_at_call 10; (with_reducible refine Calls.mono (F _) ?_); rintro e v1 ⟨rfl, rfl⟩))
    go_ret
    exact ⟨rfl, b0⟩
end Go.Proofs.Ytglidhiabdnfeaa
