/-
  The walks of the statements SplitWhole and SplitTwice: for all lists of words they return true; memory that was there stays.
-/
import Derived.Test.YtapfoefeplmgnaaSplitLawsA
namespace Go.Proofs.Ytapfoefeplmgnaa
open Go.RowKit

/-- A product, and something less than a part, divided by that part. -/
theorem div_whole {X Y T : Nat} (h : T < Y) : (X * Y + T) / Y = X ∧ (X * Y + T) % Y = T := by
  rw [Nat.mul_comm]
  constructor
  · rw [Nat.mul_add_div (by omega), Nat.div_eq_of_lt h, Nat.add_zero]
  · rw [Nat.mul_add_mod, Nat.mod_eq_of_lt h]

set_option maxHeartbeats 4000000 in
theorem law_SplitWhole (a : Option Addr) (len cap : Nat) (zs : List Int) (b : Option Addr) (len1 cap1 : Nat) (zs1 : List Int) (d : Option Addr) (len2 cap2 : Nat) (zs2 : List Int) (w : World) (h0 : CameIn .u32 w a len cap zs) (h1 : CameIn .u32 w b len1 cap1 zs1) (h2 : CameIn .u32 w d len2 cap2 zs2) :
    Calls Try.prog 5 #[.slice a len cap, .slice b len1 cap1, .slice d len2 cap2] w fun e w' => e = .returned (.bool true) ∧ Below w.heap.size w w' := by
  have P := came_words h0
  have hw := came_wd h0
  have Q := came_words h1
  have gw := came_wd h1
  have R := came_words h2
  have rw := came_wd h2
  have l0 := P.len
  have l1 := Q.len
  have l2 := R.len
  have m2 := R.reads.2
  generalize zs.take len = xs at P hw l0
  generalize zs1.take len1 = ys at Q gw l1
  generalize zs2.take len2 = ts at R rw l2
  clear h0 h1 h2
  by_cases hf : len ≤ 20 ∧ len1 ≤ 20
  · have F := fun v => ref_few a len cap b len1 cap1 20 v true (by simpa using hf)
    by_cases hf2 : 20 < len2
    · clear P Q R hf l0 l1 l2
      go_enter Try.func5, Try.ntmps5
      go_wp2_with (first
        | (go_at_call 9; refine (split_awake _).mono ?_; rintro e u0 ⟨rfl, b0⟩)
        | (go_at_call 10; (with_reducible refine Calls.mono (F _) ?_); rintro e v1 ⟨rfl, rfl⟩))
      go_ret
      exact ⟨rfl, b0⟩
    · rcases Nat.lt_or_ge (val ts) (val ys) with hlt | hge
      · have C1 := fun v (r : IsWords v (.slice d len2 cap2) ts) (q : IsWords v (.slice b len1 cap1) ys) => nat_cmp' r rw q gw (-1) (sgn_lt (by omega))
        have kX := nl_small hw 20 (by omega)
        have kY := nl_small gw 20 (by omega)
        have kM := nl_mul (val xs) (val ys)
        have kT := nl_small rw 20 (by omega)
        have kA := nl_add (val xs * val ys) (val ts)
        obtain ⟨e1, e2⟩ := div_whole (X := val xs) hlt
        have M1 := fun v (p : IsWords v (.slice a len cap) xs) (q : IsWords v (.slice b len1 cap1) ys) => times_mul' p hw q gw (by omega) (by omega) _ rfl
        have A1 := fun v a1 c1 (p : IsWords v (.slice a1 (nl (val xs * val ys)) c1) (natOf (val xs * val ys))) (r : IsWords v (.slice d len2 cap2) ts) => nat_add' p (wd_natOf _) r rw (by omega) (by omega) (val xs * val ys + val ts) (by rw [val_natOf])
        have D1 := fun v a1 c1 (p : IsWords v (.slice a1 (nl (val xs * val ys + val ts)) c1) (natOf (val xs * val ys + val ts))) (q : IsWords v (.slice b len1 cap1) ys) => split_div p (wd_natOf _) q gw (by omega) _ _ (val_natOf _) rfl (by omega)
        have T1 := fun v (p : IsWords v (.slice a len cap) xs) => nat_trim' p hw (by omega) _ rfl
        have T2 := fun v (r : IsWords v (.slice d len2 cap2) ts) => nat_trim' r rw (by omega) _ rfl
        simp only [e1, e2] at D1
        generalize val xs * val ys + val ts = K2 at A1 D1 kA e1 e2
        generalize val xs * val ys = K1 at M1 A1 kM kA
        generalize val xs = K3 at D1 T1 kX e1
        generalize val ts = K4 at D1 T2 kT hlt e2
        clear hf l0 l1 l2 e1 e2 hlt kX kY kM kT kA
        go_enter Try.func5, Try.ntmps5
        go_wp2_with (first
          | (go_at_call 9; refine (split_awake _).mono ?_; rintro e u0 ⟨rfl, b0⟩; have p0 := P.below b0; have q0 := Q.below b0; have r0 := R.below b0)
          | (go_at_call 10; (with_reducible refine Calls.mono (F _) ?_); rintro e v1 ⟨rfl, rfl⟩)
          | (go_at_call 17; (with_reducible refine Calls.mono (C1 _ r0 q0) ?_); rintro e w1 ⟨rfl, b1⟩; have p1 := p0.below b1; have q1 := q0.below b1; have r1 := r0.below b1)
          | (go_at_call 19; (with_reducible refine Calls.mono (M1 _ p1 q1) ?_); rintro e w2 ⟨a2, c2, rfl, o2⟩; have p2 := p1.below o2.below; have q2 := q1.below o2.below; have r2 := r1.below o2.below)
          | (go_at_call 18; (with_reducible refine Calls.mono (A1 _ _ _ o2.words r2) ?_); rintro e w3 ⟨a3, c3, rfl, o3⟩; have p3 := p2.below o3.below; have q3 := q2.below o3.below; have r3 := r2.below o3.below; have t3 := o2.more o3.below)
          | (go_at_call 11; (with_reducible refine Calls.mono (D1 _ _ _ o3.words q3) ?_); rintro e w4 ⟨a4, c4, a5, c5, rfl, o4, o5⟩; have p4 := p3.below o4.below; have r4 := r3.below o4.below; have t4 := t3.more o4.below)
          | (go_at_call 21; (with_reducible refine Calls.mono (T1 _ p4) ?_); rintro e w6 ⟨a6, c6, rfl, o6⟩; have r6 := r4.below o6.below; have t6 := t4.more o6.below; have x6 := o4.more o6.below; have y6 := o5.more o6.below)
          | (go_at_call 15; (with_reducible refine Calls.mono (ref_words _ _ _ _ _ _ _ _ _ x6.words o6.words true (by simp)) ?_); rintro e w7 ⟨rfl, b7⟩; have r7 := r6.below b7; have t7 := t6.more b7; have y7 := y6.more b7)
          | (go_at_call 21; (with_reducible refine Calls.mono (T2 _ r7) ?_); rintro e w8 ⟨a8, c8, rfl, o8⟩; have t8 := t7.more o8.below; have y8 := y7.more o8.below)
          | (go_at_call 15; (with_reducible refine Calls.mono (ref_words _ _ _ _ _ _ _ _ _ y8.words o8.words true (by simp)) ?_); rintro e w9 ⟨rfl, b9⟩; have t9 := t8.more b9))
        go_ret
        exact ⟨ret_bool (by simp), below_more (below_more b0 b1) t9.below⟩
      · obtain ⟨cs, C1, hcs⟩ : ∃ cs : Int, (∀ v, IsWords v (.slice d len2 cap2) ts → IsWords v (.slice b len1 cap1) ys → Calls Try.prog 17 #[.slice d len2 cap2, .slice b len1 cap1] v (fun e w' => e = .returned (.int .i64 cs) ∧ Below v.heap.size v w')) ∧ 0 ≤ cs := by
          refine ⟨_, fun v r q => nat_cmp' r rw q gw _ rfl, ?_⟩
          rcases Nat.lt_or_ge (val ys) (val ts) with h | h
          · rw [sgn_gt (by omega)]; omega
          · rw [sgn_eq (by omega)]; omega
        clear hf l0 l1 l2 hge
        go_enter Try.func5, Try.ntmps5
        go_wp2_with (first
          | (go_at_call 9; refine (split_awake _).mono ?_; rintro e u0 ⟨rfl, b0⟩; have q0 := Q.below b0; have r0 := R.below b0)
          | (go_at_call 10; (with_reducible refine Calls.mono (F _) ?_); rintro e v1 ⟨rfl, rfl⟩)
          | (go_at_call 17; (with_reducible refine Calls.mono (C1 _ r0 q0) ?_); rintro e w1 ⟨rfl, b1⟩))
        go_ret
        exact ⟨rfl, below_more b0 b1⟩
  · have F := fun v => ref_few a len cap b len1 cap1 20 v false (by simpa using hf)
    clear P Q R hf l0 l1 l2
    go_enter Try.func5, Try.ntmps5
    go_wp2_with (first
      | (go_at_call 9; refine (split_awake _).mono ?_; rintro e u0 ⟨rfl, b0⟩)
      | (go_at_call 10; (with_reducible refine Calls.mono (F _) ?_); rintro e v1 ⟨rfl, rfl⟩))
    go_ret
    exact ⟨rfl, b0⟩

set_option maxHeartbeats 4000000 in
theorem law_SplitTwice (a : Option Addr) (len cap : Nat) (zs : List Int) (b : Option Addr) (len1 cap1 : Nat) (zs1 : List Int) (d : Option Addr) (len2 cap2 : Nat) (zs2 : List Int) (w : World) (h0 : CameIn .u32 w a len cap zs) (h1 : CameIn .u32 w b len1 cap1 zs1) (h2 : CameIn .u32 w d len2 cap2 zs2) :
    Calls Try.prog 6 #[.slice a len cap, .slice b len1 cap1, .slice d len2 cap2] w fun e w' => e = .returned (.bool true) ∧ Below w.heap.size w w' := by
  have P := came_words h0
  have hw := came_wd h0
  have Q := came_words h1
  have gw := came_wd h1
  have R := came_words h2
  have rw := came_wd h2
  have l0 := P.len
  have l1 := Q.len
  have l2 := R.len
  have m2 := R.reads.2
  generalize zs.take len = xs at P hw l0
  generalize zs1.take len1 = ys at Q gw l1
  generalize zs2.take len2 = ts at R rw l2
  clear h0 h1 h2
  by_cases hf : len ≤ 20 ∧ len1 ≤ 20
  · have F := fun v => ref_few a len cap b len1 cap1 20 v true (by simpa using hf)
    by_cases hf2 : 20 < len2
    · clear P Q R hf l0 l1 l2
      go_enter Try.func6, Try.ntmps6
      go_wp2_with (first
        | (go_at_call 9; refine (split_awake _).mono ?_; rintro e u0 ⟨rfl, b0⟩)
        | (go_at_call 10; (with_reducible refine Calls.mono (F _) ?_); rintro e v1 ⟨rfl, rfl⟩))
      go_ret
      exact ⟨rfl, b0⟩
    rcases Nat.eq_zero_or_pos (val ys) with hy | hy
    · have B1 := fun v (q : IsWords v (.slice b len1 cap1) ys) => nat_bits' q gw (by omega) 0 (by rw [hy, nbits_zero]; rfl)
      clear P R hf l0 l1 l2 hy
      go_enter Try.func6, Try.ntmps6
      go_wp2_with (first
        | (go_at_call 9; refine (split_awake _).mono ?_; rintro e u0 ⟨rfl, b0⟩; have q0 := Q.below b0)
        | (go_at_call 10; (with_reducible refine Calls.mono (F _) ?_); rintro e v1 ⟨rfl, rfl⟩)
        | (go_at_call 16; (with_reducible refine Calls.mono (B1 _ q0) ?_); rintro e v1 ⟨rfl, rfl⟩))
      go_ret
      exact ⟨rfl, b0⟩
    have B1 := fun v (q : IsWords v (.slice b len1 cap1) ys) => nat_bits' q gw (by omega) _ rfl
    have hb := nbits_ne hy
    generalize (nbits (val ys) : Int) = bt at B1 hb
    have hb0 : (bt == 0) = false := by simpa using hb
    rcases Nat.eq_zero_or_pos (val ts) with ht | ht
    · have B2 := fun v (q : IsWords v (.slice d len2 cap2) ts) => nat_bits' q rw (by omega) 0 (by rw [ht, nbits_zero]; rfl)
      clear P hf l0 l1 l2 hy ht
      go_enter Try.func6, Try.ntmps6
      go_wp2_with (first
        | (go_at_call 9; refine (split_awake _).mono ?_; rintro e u0 ⟨rfl, b0⟩; have q0 := Q.below b0; have r0 := R.below b0)
        | (go_at_call 10; (with_reducible refine Calls.mono (F _) ?_); rintro e v1 ⟨rfl, rfl⟩)
        | (go_at_call 16; (with_reducible refine Calls.mono (B1 _ q0) ?_); rintro e v1 ⟨rfl, rfl⟩)
        | (go_at_call 16; (with_reducible refine Calls.mono (B2 _ r0) ?_); rintro e v1 ⟨rfl, rfl⟩))
      go_ret
      exact ⟨rfl, b0⟩
    have B2 := fun v (q : IsWords v (.slice d len2 cap2) ts) => nat_bits' q rw (by omega) _ rfl
    have hc := nbits_ne ht
    generalize (nbits (val ts) : Int) = ct at B2 hc
    have hc0 : (ct == 0) = false := by simpa using hc
    have kX := nl_small hw 20 (by omega)
    have kY := nl_small gw 20 (by omega)
    have kT := nl_small rw 20 (by omega)
    have kQ : nl (val xs / val ys) ≤ 20 := Nat.le_trans (nl_mono (Nat.div_le_self _ _)) kX
    have kR : nl (val xs % val ys) ≤ 20 := Nat.le_trans (nl_mono (Nat.mod_le _ _)) kX
    have k1 := nl_mul (val ys) (val ts)
    have k2 := nl_mul (val xs) (val ts)
    have hyt : 0 < val ys * val ts := Nat.mul_pos hy ht
    have D1 := fun v (p : IsWords v (.slice a len cap) xs) (q : IsWords v (.slice b len1 cap1) ys) => split_div p hw q gw (by omega) _ _ rfl rfl hy
    have D2 := fun v a1 c1 (p : IsWords v (.slice a1 (nl (val xs / val ys)) c1) (natOf (val xs / val ys))) (r : IsWords v (.slice d len2 cap2) ts) => split_div p (wd_natOf _) r rw (by omega) _ _ (val_natOf _) rfl ht
    have M1 := fun v (q : IsWords v (.slice b len1 cap1) ys) (r : IsWords v (.slice d len2 cap2) ts) => times_mul' q gw r rw (by omega) (by omega) _ rfl
    have D3 := fun v a1 c1 (p : IsWords v (.slice a len cap) xs) (q : IsWords v (.slice a1 (nl (val ys * val ts)) c1) (natOf (val ys * val ts))) => split_div p hw q (wd_natOf _) (by omega) _ _ rfl (val_natOf _) hyt
    have M2 := fun v (p : IsWords v (.slice a len cap) xs) (r : IsWords v (.slice d len2 cap2) ts) => times_mul' p hw r rw (by omega) (by omega) _ rfl
    have D4 := fun v a1 c1 a2 c2 (p : IsWords v (.slice a2 (nl (val xs * val ts)) c2) (natOf (val xs * val ts))) (q : IsWords v (.slice a1 (nl (val ys * val ts)) c1) (natOf (val ys * val ts))) => split_div p (wd_natOf _) q (wd_natOf _) (by omega) _ _ (val_natOf _) (val_natOf _) hyt
    have M3 := fun v a1 c1 (p : IsWords v (.slice a1 (nl (val xs % val ys)) c1) (natOf (val xs % val ys))) (r : IsWords v (.slice d len2 cap2) ts) => times_mul' p (wd_natOf _) r rw (by omega) (by omega) (val xs % val ys * val ts) (by rw [val_natOf])
    have e1 : val xs / val ys / val ts = val xs / (val ys * val ts) := Nat.div_div_eq_div_mul _ _ _
    have e2 : val xs * val ts / (val ys * val ts) = val xs / val ys := Nat.mul_div_mul_right _ _ ht
    have e3 : val xs * val ts % (val ys * val ts) = val xs % val ys * val ts := Nat.mul_mod_mul_right _ _ _
    simp only [e1] at D2
    simp only [e2, e3] at D4
    clear e1 e2 e3
    generalize val xs % val ys * val ts = K1 at D4 M3
    generalize val xs / (val ys * val ts) = K2 at D2 D3
    generalize val xs % (val ys * val ts) = K3 at D3
    generalize val ys * val ts = K4 at M1 D3 D4
    generalize val xs * val ts = K5 at M2 D4
    generalize val xs / val ys % val ts = K6 at D2
    generalize val xs / val ys = K7 at D1 D2 D4
    generalize val xs % val ys = K8 at D1 M3
    clear hf l0 l1 l2 hy ht kX kY kT kQ kR k1 k2 hyt
    go_enter Try.func6, Try.ntmps6
    go_wp2_with (first
      | (go_at_call 9; refine (split_awake _).mono ?_; rintro e u0 ⟨rfl, b0⟩; have p0 := P.below b0; have q0 := Q.below b0; have r0 := R.below b0)
      | (go_at_call 10; (with_reducible refine Calls.mono (F _) ?_); rintro e v1 ⟨rfl, rfl⟩)
      | (go_at_call 16; (with_reducible refine Calls.mono (B1 _ q0) ?_); rintro e v1 ⟨rfl, rfl⟩)
      | (go_at_call 16; (with_reducible refine Calls.mono (B2 _ r0) ?_); rintro e v1 ⟨rfl, rfl⟩)
      | (go_at_call 11; (with_reducible refine Calls.mono (D1 _ p0 q0) ?_); rintro e w1 ⟨a1, c1, a2, c2, rfl, o1, o2⟩; have p1 := p0.below o1.below; have q1 := q0.below o1.below; have r1 := r0.below o1.below)
      | (go_at_call 11; (with_reducible refine Calls.mono (D2 _ _ _ o1.words r1) ?_); rintro e w2 ⟨a3, c3, a4, c4, rfl, o3, o4⟩; have p2 := p1.below o3.below; have q2 := q1.below o3.below; have r2 := r1.below o3.below; have x2 := o1.more o3.below; have y2 := o2.more o3.below)
      | (go_at_call 19; (with_reducible refine Calls.mono (M1 _ q2 r2) ?_); rintro e w3 ⟨a5, c5, rfl, o5⟩; have p3 := p2.below o5.below; have q3 := q2.below o5.below; have r3 := r2.below o5.below; have x3 := x2.more o5.below; have y3 := y2.more o5.below; have z3 := o3.more o5.below)
      | (go_at_call 11; (with_reducible refine Calls.mono (D3 _ _ _ p3 o5.words) ?_); rintro e w4 ⟨a6, c6, a7, c7, rfl, o6, o7⟩; have p4 := p3.below o6.below; have q4 := q3.below o6.below; have r4 := r3.below o6.below; have x4 := x3.more o6.below; have y4 := y3.more o6.below; have z4 := z3.more o6.below)
      | (go_at_call 19; (with_reducible refine Calls.mono (M2 _ p4 r4) ?_); rintro e w5 ⟨a8, c8, rfl, o8⟩; have q5 := q4.below o8.below; have r5 := r4.below o8.below; have x5 := x4.more o8.below; have y5 := y4.more o8.below; have z5 := z4.more o8.below; have t5 := o6.more o8.below)
      | (go_at_call 19; (with_reducible refine Calls.mono (M1 _ q5 r5) ?_); rintro e w6 ⟨a9, c9, rfl, o9⟩; have r6 := r5.below o9.below; have x6 := x5.more o9.below; have y6 := y5.more o9.below; have z6 := z5.more o9.below; have t6 := t5.more o9.below; have m6 := o8.more o9.below)
      | (go_at_call 11; (with_reducible refine Calls.mono (D4 _ _ _ _ _ m6.words o9.words) ?_); rintro e w7 ⟨a10, c10, a11, c11, rfl, o10, o11⟩; have r7 := r6.below o10.below; have x7 := x6.more o10.below; have y7 := y6.more o10.below; have z7 := z6.more o10.below; have t7 := t6.more o10.below)
      | (go_at_call 15; (with_reducible refine Calls.mono (ref_words _ _ _ _ _ _ _ _ _ z7.words t7.words true (by simp)) ?_); rintro e w8 ⟨rfl, b8⟩; have r8 := r7.below b8; have x8 := x7.more b8; have y8 := y7.more b8; have u8 := o10.more b8; have v8 := o11.more b8)
      | (go_at_call 15; (with_reducible refine Calls.mono (ref_words _ _ _ _ _ _ _ _ _ u8.words x8.words true (by simp)) ?_); rintro e w9 ⟨rfl, b9⟩; have r9 := r8.below b9; have y9 := y8.more b9; have v9 := v8.more b9)
      | (go_at_call 19; (with_reducible refine Calls.mono (M3 _ _ _ y9.words r9) ?_); rintro e w10 ⟨a12, c12, rfl, o12⟩; have y10 := y9.more o12.below; have v10 := v9.more o12.below)
      | (go_at_call 15; (with_reducible refine Calls.mono (ref_words _ _ _ _ _ _ _ _ _ v10.words o12.words true (by simp)) ?_); rintro e w11 ⟨rfl, b11⟩; have y11 := y10.more b11))
    go_ret
    exact ⟨ret_bool (by simp), below_more b0 y11.below⟩
  · have F := fun v => ref_few a len cap b len1 cap1 20 v false (by simpa using hf)
    clear P Q R hf l0 l1 l2
    go_enter Try.func6, Try.ntmps6
    go_wp2_with (first
      | (go_at_call 9; refine (split_awake _).mono ?_; rintro e u0 ⟨rfl, b0⟩)
      | (go_at_call 10; (with_reducible refine Calls.mono (F _) ?_); rintro e v1 ⟨rfl, rfl⟩))
    go_ret
    exact ⟨rfl, b0⟩
end Go.Proofs.Ytapfoefeplmgnaa
