/-
  The walks of the statements SplitTells and SplitBack: for all lists of words and all words they return true; memory that was there stays.
-/
import Derived.Test.YtapfoefeplmgnaaSplitAwake
import Derived.Test.YtapfoefeplmgnaaSplitMore
namespace Go.Proofs.Ytapfoefeplmgnaa
open Go.RowKit

set_option maxHeartbeats 4000000 in
theorem law_SplitTells (a : Option Addr) (len cap : Nat) (zs : List Int) (b : Option Addr) (len1 cap1 : Nat) (zs1 : List Int) (x : Int) (w : World) (h0 : CameIn .u32 w a len cap zs) (h1 : CameIn .u32 w b len1 cap1 zs1) (h2 : (Lit.int .u32 x).wf = true) :
    Calls Try.prog 3 #[.slice a len cap, .slice b len1 cap1, .int .u32 x] w fun e w' => e = .returned (.bool true) ∧ Below w.heap.size w w' := by
  obtain ⟨x0, x1⟩ := wf_u32 h2
  have P := came_words h0
  have hw := came_wd h0
  have Q := came_words h1
  have gw := came_wd h1
  generalize zs.take len = xs at P hw
  generalize zs1.take len1 = ys at Q gw
  clear h0 h1 h2
  by_cases hf : len ≤ 20 ∧ len1 ≤ 20
  · have F := fun v => ref_few a len cap b len1 cap1 20 v true (by simpa using hf)
    have D1 := fun v (p : IsWords v (.slice a len cap) xs) (q : IsWords v (.slice b len1 cap1) ys) => split_div_any p hw q gw (by omega) _ _ rfl rfl
    have D2 := fun v (p : IsWords v (.slice a len cap) xs) (q : IsWords v (.slice b len1 cap1) ys) => ref_div_any p hw q gw (by omega) (by omega) _ _ rfl rfl
    have S1 := fun v (p : IsWords v (.slice a len cap) xs) => split_small_any p hw (by omega) x0 x1 _ _ rfl rfl
    have S2 := fun v (p : IsWords v (.slice a len cap) xs) => ref_small_any p hw (by omega) x0 x1 _ _ rfl rfl
    unfold AnsDivB at D1 D2
    unfold AnsSmallB at S1 S2
    generalize val xs / val ys = K1 at D1 D2
    generalize rest (val xs) (val ys) = K2 at D1 D2
    generalize decide (0 < val ys) = K3 at D1 D2
    generalize val xs / x.toNat = K4 at S1 S2
    generalize ((rest (val xs) x.toNat : Nat) : Int) = K5 at S1 S2
    generalize decide (0 < x.toNat) = K6 at S1 S2
    clear hf
    go_enter Try.func3, Try.ntmps3
    go_wp2_with (first
      | (go_at_call 9; refine (split_awake _).mono ?_; rintro e u0 ⟨rfl, b0⟩; have p0 := P.below b0; have q0 := Q.below b0)
      | (go_at_call 10; (with_reducible refine Calls.mono (F _) ?_); rintro e v1 ⟨rfl, rfl⟩)
      | (go_at_call 11; (with_reducible refine Calls.mono (D1 _ p0 q0) ?_); rintro e w1 ⟨a1, c1, a2, c2, rfl, o1, o2⟩; have p1 := p0.below o1.below; have q1 := q0.below o1.below)
      | (go_at_call 12; (with_reducible refine Calls.mono (D2 _ p1 q1) ?_); rintro e w2 ⟨a3, c3, a4, c4, rfl, o3, o4⟩; have p2 := p1.below o3.below; have r2 := o1.more o3.below; have s2 := o2.more o3.below)
      | (go_at_call 13; (with_reducible refine Calls.mono (S1 _ p2) ?_); rintro e w3 ⟨a5, c5, rfl, o5⟩; have p3 := p2.below o5.below; have r3 := r2.more o5.below; have s3 := s2.more o5.below; have t3 := o3.more o5.below; have u3 := o4.more o5.below)
      | (go_at_call 14; (with_reducible refine Calls.mono (S2 _ p3) ?_); rintro e w4 ⟨a6, c6, rfl, o6⟩; have r4 := r3.more o6.below; have s4 := s3.more o6.below; have t4 := t3.more o6.below; have u4 := u3.more o6.below; have v4 := o5.more o6.below)
      | (go_at_call 15; (with_reducible refine Calls.mono (ref_words _ _ _ _ _ _ _ _ _ r4.words t4.words true (by simp)) ?_); rintro e w5 ⟨rfl, b5⟩; have s5 := s4.more b5; have u5 := u4.more b5; have v5 := v4.more b5; have x5 := o6.more b5)
      | (go_at_call 15; (with_reducible refine Calls.mono (ref_words _ _ _ _ _ _ _ _ _ s5.words u5.words true (by simp)) ?_); rintro e w6 ⟨rfl, b6⟩; have s6 := s5.more b6; have v6 := v5.more b6; have x6 := x5.more b6)
      | (go_at_call 15; (with_reducible refine Calls.mono (ref_words _ _ _ _ _ _ _ _ _ v6.words x6.words true (by simp)) ?_); rintro e w7 ⟨rfl, b7⟩; have s7 := s6.more b7))
    go_ret
    exact ⟨ret_bool (by simp), below_more b0 s7.below⟩
  · have F := fun v => ref_few a len cap b len1 cap1 20 v false (by simpa using hf)
    clear P Q hf
    go_enter Try.func3, Try.ntmps3
    go_wp2_with (first
      | (go_at_call 9; refine (split_awake _).mono ?_; rintro e u0 ⟨rfl, b0⟩)
      | (go_at_call 10; (with_reducible refine Calls.mono (F _) ?_); rintro e v1 ⟨rfl, rfl⟩))
    go_ret
    exact ⟨rfl, b0⟩

theorem nbits_ne {n : Nat} (h : 0 < n) : (nbits n : Int) ≠ 0 := by rw [nbits_pos (by omega)]; omega

set_option maxHeartbeats 4000000 in
theorem law_SplitBack (a : Option Addr) (len cap : Nat) (zs : List Int) (b : Option Addr) (len1 cap1 : Nat) (zs1 : List Int) (w : World) (h0 : CameIn .u32 w a len cap zs) (h1 : CameIn .u32 w b len1 cap1 zs1) :
    Calls Try.prog 4 #[.slice a len cap, .slice b len1 cap1] w fun e w' => e = .returned (.bool true) ∧ Below w.heap.size w w' := by
  have P := came_words h0
  have hw := came_wd h0
  have Q := came_words h1
  have gw := came_wd h1
  have l0 := P.len
  have l1 := Q.len
  generalize zs.take len = xs at P hw l0
  generalize zs1.take len1 = ys at Q gw l1
  clear h0 h1
  by_cases hf : len ≤ 20 ∧ len1 ≤ 20
  · have F := fun v => ref_few a len cap b len1 cap1 20 v true (by simpa using hf)
    rcases Nat.eq_zero_or_pos (val ys) with hz | hz
    · have D1 := fun v (p : IsWords v (.slice a len cap) xs) (q : IsWords v (.slice b len1 cap1) ys) => split_div_no _ _ _ _ _ _ _ _ v p hw q gw hz
      have B1 := fun v (q : IsWords v (.slice b len1 cap1) ys) => nat_bits' q gw (by omega) 0 (by rw [hz, nbits_zero]; rfl)
      clear hf hz l0 l1
      go_enter Try.func4, Try.ntmps4
      go_wp2_with (first
        | (go_at_call 9; refine (split_awake _).mono ?_; rintro e u0 ⟨rfl, b0⟩; have p0 := P.below b0; have q0 := Q.below b0)
        | (go_at_call 10; (with_reducible refine Calls.mono (F _) ?_); rintro e v1 ⟨rfl, rfl⟩)
        | (go_at_call 11; (with_reducible refine Calls.mono (D1 _ p0 q0) ?_); rintro e w1 ⟨rfl, rfl⟩)
        | (go_at_call 16; (with_reducible refine Calls.mono (B1 _ q0) ?_); rintro e w1 ⟨rfl, rfl⟩))
      go_ret
      exact ⟨rfl, b0⟩
    · have D1 := fun v (p : IsWords v (.slice a len cap) xs) (q : IsWords v (.slice b len1 cap1) ys) => split_div p hw q gw (by omega) _ _ rfl rfl hz
      have B1 := fun v (q : IsWords v (.slice b len1 cap1) ys) => nat_bits' q gw (by omega) _ rfl
      have hb := nbits_ne hz
      generalize (nbits (val ys) : Int) = bt at B1 hb
      have kX := nl_small hw 20 (by omega)
      have kY := nl_small gw 20 (by omega)
      have kQ : nl (val xs / val ys) ≤ 20 := Nat.le_trans (nl_mono (Nat.div_le_self _ _)) kX
      have kR : nl (val xs % val ys) ≤ 20 := Nat.le_trans (nl_mono (Nat.mod_le _ _)) kX
      have hd : val xs / val ys * val ys + val xs % val ys = val xs := by rw [Nat.mul_comm]; exact Nat.div_add_mod _ _
      have kM := nl_mul (val xs / val ys) (val ys)
      have hlt := Nat.mod_lt (val xs) hz
      have M1 := fun v a1 c1 (p : IsWords v (.slice a1 (nl (val xs / val ys)) c1) (natOf (val xs / val ys))) (q : IsWords v (.slice b len1 cap1) ys) => times_mul' p (wd_natOf _) q gw (by omega) (by omega) (val xs / val ys * val ys) (by rw [val_natOf])
      have A1 := fun v a1 c1 a2 c2 (p : IsWords v (.slice a1 (nl (val xs / val ys * val ys)) c1) (natOf (val xs / val ys * val ys))) (q : IsWords v (.slice a2 (nl (val xs % val ys)) c2) (natOf (val xs % val ys))) => nat_add' p (wd_natOf _) q (wd_natOf _) (by omega) (by omega) (val xs) (by rw [val_natOf, val_natOf]; exact hd)
      have C1 := fun v a1 c1 (p : IsWords v (.slice a1 (nl (val xs)) c1) (natOf (val xs))) (q : IsWords v (.slice a len cap) xs) => nat_cmp' p (wd_natOf _) q hw 0 (by rw [val_natOf]; exact sgn_eq rfl)
      have C2 := fun v a1 c1 (p : IsWords v (.slice a1 (nl (val xs % val ys)) c1) (natOf (val xs % val ys))) (q : IsWords v (.slice b len1 cap1) ys) => nat_cmp' p (wd_natOf _) q gw (-1) (by rw [val_natOf]; exact sgn_lt (by omega))
      have R1 := fun v a1 c1 (p : IsWords v (.slice a1 (nl (val xs / val ys)) c1) (natOf (val xs / val ys))) => nat_Right a1 _ c1 _ v p true (by rw [right_nat]; simp)
      have R2 := fun v a1 c1 (p : IsWords v (.slice a1 (nl (val xs % val ys)) c1) (natOf (val xs % val ys))) => nat_Right a1 _ c1 _ v p true (by rw [right_nat]; simp)
      generalize val xs / val ys * val ys = K3 at M1 A1 kM
      generalize val xs / val ys = K1 at D1 M1 R1 kM kQ
      generalize val xs % val ys = K2 at D1 A1 C2 R2 kR
      generalize val xs = K0 at A1 C1 kX
      clear hf l0 l1 hd hlt kM kX kY kQ kR
      go_enter Try.func4, Try.ntmps4
      go_wp2_with (first
        | (go_at_call 9; refine (split_awake _).mono ?_; rintro e u0 ⟨rfl, b0⟩; have p0 := P.below b0; have q0 := Q.below b0)
        | (go_at_call 10; (with_reducible refine Calls.mono (F _) ?_); rintro e v1 ⟨rfl, rfl⟩)
        | (go_at_call 11; (with_reducible refine Calls.mono (D1 _ p0 q0) ?_); rintro e w1 ⟨a1, c1, a2, c2, rfl, o1, o2⟩; have p1 := p0.below o1.below; have q1 := q0.below o1.below)
        | (go_at_call 16; (with_reducible refine Calls.mono (B1 _ q1) ?_); rintro e v1 ⟨rfl, rfl⟩)
        | (go_at_call 19; (with_reducible refine Calls.mono (M1 _ _ _ o1.words q1) ?_); rintro e w2 ⟨a3, c3, rfl, o3⟩; have p2 := p1.below o3.below; have q2 := q1.below o3.below; have r2 := o1.more o3.below; have s2 := o2.more o3.below)
        | (go_at_call 18; (with_reducible refine Calls.mono (A1 _ _ _ _ _ o3.words s2.words) ?_); rintro e w3 ⟨a4, c4, rfl, o4⟩; have p3 := p2.below o4.below; have q3 := q2.below o4.below; have r3 := r2.more o4.below; have s3 := s2.more o4.below)
        | (go_at_call 17; (with_reducible refine Calls.mono (C1 _ _ _ o4.words p3) ?_); rintro e w4 ⟨rfl, b4⟩; have q4 := q3.below b4; have r4 := r3.more b4; have s4 := s3.more b4)
        | (go_at_call 17; (with_reducible refine Calls.mono (C2 _ _ _ s4.words q4) ?_); rintro e w5 ⟨rfl, b5⟩; have r5 := r4.more b5; have s5 := s4.more b5)
        | (go_at_call 20; (with_reducible refine Calls.mono (R1 _ _ _ r5.words) ?_); rintro e v1 ⟨rfl, rfl⟩)
        | (go_at_call 20; (with_reducible refine Calls.mono (R2 _ _ _ s5.words) ?_); rintro e v1 ⟨rfl, rfl⟩))
      go_ret
      exact ⟨ret_bool (by simp), below_more b0 s5.below⟩
  · have F := fun v => ref_few a len cap b len1 cap1 20 v false (by simpa using hf)
    clear P Q hf l0 l1
    go_enter Try.func4, Try.ntmps4
    go_wp2_with (first
      | (go_at_call 9; refine (split_awake _).mono ?_; rintro e u0 ⟨rfl, b0⟩)
      | (go_at_call 10; (with_reducible refine Calls.mono (F _) ?_); rintro e v1 ⟨rfl, rfl⟩))
    go_ret
    exact ⟨rfl, b0⟩
end Go.Proofs.Ytapfoefeplmgnaa
