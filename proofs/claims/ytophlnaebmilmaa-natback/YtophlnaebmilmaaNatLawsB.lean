/-
  The walks of the statements NatBack and NatOrder: for all lists of words they return true; memory that was there stays.
-/
import Derived.Test.YtophlnaebmilmaaNatAwake
namespace Go.Proofs.Ytophlnaebmilmaa
open Go.RowKit

set_option maxHeartbeats 4000000 in
theorem law_NatBack (a : Option Addr) (len cap : Nat) (zs : List Int) (b : Option Addr) (len1 cap1 : Nat) (zs1 : List Int) (w : World) (h0 : CameIn .u32 w a len cap zs) (h1 : CameIn .u32 w b len1 cap1 zs1) :
    Calls Try.prog 5 #[.slice a len cap, .slice b len1 cap1] w fun e w' => e = .returned (.bool true) ∧ Below w.heap.size w w' := by
  have P := came_words h0
  have hw := came_wd h0
  have Q := came_words h1
  have gw := came_wd h1
  have l1 := P.len
  have l2 := Q.len
  generalize zs.take len = xs at P hw l1
  generalize zs1.take len1 = ys at Q gw l2
  clear h0 h1
  by_cases hf : len ≤ 40 ∧ len1 ≤ 40
  · have F := fun v => ref_few a len cap b len1 cap1 40 v true (by simpa using hf)
    obtain ⟨hf1, hf2⟩ := hf
    have k1 := nl_small hw 40 (by omega)
    have k2 := nl_small gw 40 (by omega)
    have k3 := nl_add (val xs) (val ys)
    have k4 : nl (val xs + val ys) ≤ 41 := by omega
    have A1 := fun v (p : IsWords v (.slice a len cap) xs) (q : IsWords v (.slice b len1 cap1) ys) => nat_add' p hw q gw (by omega) (by omega) _ rfl
    have S1 := fun v a1 c1 (p : IsWords v (.slice a1 (nl (val xs + val ys)) c1) (natOf (val xs + val ys))) (q : IsWords v (.slice b len1 cap1) ys) => nat_sub' p (wd_natOf _) q gw (by omega) (val xs) (by rw [val_natOf])
    have C2 := fun v a1 c1 (p : IsWords v (.slice a1 (nl (val xs)) c1) (natOf (val xs))) (q : IsWords v (.slice a len cap) xs) => nat_cmp' p (wd_natOf _) q hw 0 (by rw [val_natOf]; exact sgn_eq rfl)
    have T := fun v (p : IsWords v (.slice a len cap) xs) => nat_trim a len cap xs v p hw (by omega)
    have R := fun v a1 c1 N (p : IsWords v (.slice a1 (nl N) c1) (natOf N)) => nat_Right a1 (nl N) c1 (natOf N) v p true (by simpa using right_nat N)
    clear k3 l1 l2
    rcases Nat.lt_or_ge (val xs) (val ys) with hlt | hge
    · have S2 := fun v (p : IsWords v (.slice a len cap) xs) (q : IsWords v (.slice b len1 cap1) ys) => nat_sub_no _ _ _ _ _ _ _ _ v p hw q gw hlt
      have C1 := fun v (p : IsWords v (.slice a len cap) xs) (q : IsWords v (.slice b len1 cap1) ys) => nat_cmp' p hw q gw (-1) (sgn_lt (by omega))
      have R0 := fun v => nat_Right none 0 0 [] v (.inl ⟨rfl, rfl⟩) true rfl
      clear hlt
      generalize val xs + val ys = S at A1 S1 k4
      generalize val xs = X at S1 C2 T k1
      go_enter Try.func5, Try.ntmps5
      go_wp2_with (first
        | (go_at_call 9; refine (nat_awake _).mono ?_; rintro e u0 ⟨rfl, b0⟩; have p0 := P.below b0; have q0 := Q.below b0)
        | (go_at_call 21; (with_reducible refine Calls.mono (F _) ?_); rintro e v1 ⟨rfl, rfl⟩)
        | (go_at_call 26; (with_reducible refine Calls.mono (A1 _ p0 q0) ?_); rintro e w1 ⟨a1, c1, rfl, o1⟩; have p1 := p0.below o1.below; have q1 := q0.below o1.below)
        | (go_at_call 22; (with_reducible refine Calls.mono (S1 _ _ _ o1.words q1) ?_); rintro e w2 ⟨a2, c2, rfl, o2⟩; have p2 := p1.below o2.below; have q2 := q1.below o2.below; have o12 := o1.more o2.below)
        | (go_at_call 22; (with_reducible refine Calls.mono (S2 _ p2 q2) ?_); rintro e w3 ⟨rfl, b3⟩; have p3 := p2.below b3; have q3 := q2.below b3; have o13 := o12.more b3; have o23 := o2.more b3)
        | (go_at_call 24; (with_reducible refine Calls.mono (C1 _ p3 q3) ?_); rintro e w4 ⟨rfl, b4⟩; have p4 := p3.below b4; have o14 := o13.more b4; have o24 := o23.more b4)
        | (go_at_call 24; (with_reducible refine Calls.mono (C2 _ _ _ o24.words p4) ?_); rintro e w5 ⟨rfl, b5⟩; have p5 := p4.below b5; have o15 := o14.more b5; have o25 := o24.more b5)
        | (go_at_call 13; (with_reducible refine Calls.mono (R _ _ _ _ o15.words) ?_); rintro e v1 ⟨rfl, rfl⟩)
        | (go_at_call 13; (with_reducible refine Calls.mono (R _ _ _ _ o25.words) ?_); rintro e v1 ⟨rfl, rfl⟩)
        | (go_at_call 13; (with_reducible refine Calls.mono (R0 _) ?_); rintro e v1 ⟨rfl, rfl⟩)
        | (go_at_call 15; (with_reducible refine Calls.mono (T _ p5) ?_); rintro e w6 ⟨a6, c6, rfl, o6⟩; have o16 := o15.more o6.below; have o26 := o25.more o6.below)
        | (go_at_call 14; (with_reducible refine Calls.mono (ref_words _ _ _ _ _ _ _ _ _ o26.words o6.words true (by simp)) ?_); rintro e w7 ⟨rfl, b7⟩))
      go_ret
      exact ⟨ret_bool (by simp), below_more b0 (o16.more b7).below⟩
    · have S2 := fun v (p : IsWords v (.slice a len cap) xs) (q : IsWords v (.slice b len1 cap1) ys) => nat_sub' p hw q gw (by omega) (val xs - val ys) (by omega)
      obtain ⟨sg, hsg, hs0⟩ : ∃ sg, sgn (val xs) (val ys) = sg ∧ 0 ≤ sg := by
        refine ⟨_, rfl, ?_⟩
        rcases Nat.lt_or_ge (val ys) (val xs) with h | h
        · rw [sgn_gt (by omega)]; omega
        · rw [sgn_eq (by omega)]; omega
      have C1 := fun v (p : IsWords v (.slice a len cap) xs) (q : IsWords v (.slice b len1 cap1) ys) => nat_cmp' p hw q gw sg hsg
      have k5 : nl (val xs - val ys) ≤ 40 := Nat.le_trans (nl_mono (by omega)) k1
      have A3 := fun v a1 c1 (p : IsWords v (.slice a1 (nl (val xs - val ys)) c1) (natOf (val xs - val ys))) (q : IsWords v (.slice b len1 cap1) ys) => nat_add' p (wd_natOf _) q gw (by omega) (by omega) (val xs) (by rw [val_natOf]; omega)
      clear hsg hge
      generalize val xs + val ys = S at A1 S1 k4
      generalize val xs - val ys = D at S2 A3 k5
      generalize val xs = X at S1 C2 T A3 k1
      go_enter Try.func5, Try.ntmps5
      go_wp2_with (first
        | (go_at_call 9; refine (nat_awake _).mono ?_; rintro e u0 ⟨rfl, b0⟩; have p0 := P.below b0; have q0 := Q.below b0)
        | (go_at_call 21; (with_reducible refine Calls.mono (F _) ?_); rintro e v1 ⟨rfl, rfl⟩)
        | (go_at_call 26; (with_reducible refine Calls.mono (A1 _ p0 q0) ?_); rintro e w1 ⟨a1, c1, rfl, o1⟩; have p1 := p0.below o1.below; have q1 := q0.below o1.below)
        | (go_at_call 22; (with_reducible refine Calls.mono (S1 _ _ _ o1.words q1) ?_); rintro e w2 ⟨a2, c2, rfl, o2⟩; have p2 := p1.below o2.below; have q2 := q1.below o2.below; have o12 := o1.more o2.below)
        | (go_at_call 22; (with_reducible refine Calls.mono (S2 _ p2 q2) ?_); rintro e w3 ⟨a3, c3, rfl, o3⟩; have b3 := o3.below; have p3 := p2.below b3; have q3 := q2.below b3; have o13 := o12.more b3; have o23 := o2.more b3)
        | (go_at_call 24; (with_reducible refine Calls.mono (C1 _ p3 q3) ?_); rintro e w4 ⟨rfl, b4⟩; have p4 := p3.below b4; have q4 := q3.below b4; have o14 := o13.more b4; have o24 := o23.more b4; have o34 := o3.more b4)
        | (go_at_call 26; (with_reducible refine Calls.mono (A3 _ _ _ o34.words q4) ?_); rintro e w5 ⟨a5, c5, rfl, o5⟩; have b5 := o5.below; have p5 := p4.below b5; have o15 := o14.more b5; have o25 := o24.more b5; have o35 := o34.more b5)
        | (go_at_call 24; (with_reducible refine Calls.mono (C2 _ _ _ o5.words p5) ?_); rintro e w6 ⟨rfl, b6⟩; have p6 := p5.below b6; have o16 := o15.more b6; have o26 := o25.more b6; have o36 := o35.more b6)
        | (go_at_call 24; (with_reducible refine Calls.mono (C2 _ _ _ o26.words p6) ?_); rintro e w7 ⟨rfl, b7⟩; have p7 := p6.below b7; have o17 := o16.more b7; have o27 := o26.more b7; have o37 := o36.more b7)
        | (go_at_call 13; (with_reducible refine Calls.mono (R _ _ _ _ o17.words) ?_); rintro e v1 ⟨rfl, rfl⟩)
        | (go_at_call 13; (with_reducible refine Calls.mono (R _ _ _ _ o27.words) ?_); rintro e v1 ⟨rfl, rfl⟩)
        | (go_at_call 13; (with_reducible refine Calls.mono (R _ _ _ _ o37.words) ?_); rintro e v1 ⟨rfl, rfl⟩)
        | (go_at_call 15; (with_reducible refine Calls.mono (T _ p7) ?_); rintro e w8 ⟨a8, c8, rfl, o8⟩; have o18 := o17.more o8.below; have o28 := o27.more o8.below)
        | (go_at_call 14; (with_reducible refine Calls.mono (ref_words _ _ _ _ _ _ _ _ _ o28.words o8.words true (by simp)) ?_); rintro e w9 ⟨rfl, b9⟩))
      go_ret
      exact ⟨ret_bool (by simp), below_more b0 (o18.more b9).below⟩
  · have F := fun v => ref_few a len cap b len1 cap1 40 v false (by simpa using hf)
    clear P Q hf
    go_enter Try.func5, Try.ntmps5
    go_wp2_with (first
      | (go_at_call 9; refine (nat_awake _).mono ?_; rintro e u0 ⟨rfl, b0⟩)
      | (go_at_call 21; (with_reducible refine Calls.mono (F _) ?_); rintro e v1 ⟨rfl, rfl⟩))
    go_ret
    exact ⟨rfl, b0⟩

set_option maxHeartbeats 4000000 in
theorem law_NatOrder (a : Option Addr) (len cap : Nat) (zs : List Int) (b : Option Addr) (len1 cap1 : Nat) (zs1 : List Int) (d : Option Addr) (len2 cap2 : Nat) (zs2 : List Int) (w : World) (h0 : CameIn .u32 w a len cap zs) (h1 : CameIn .u32 w b len1 cap1 zs1) (h2 : CameIn .u32 w d len2 cap2 zs2) :
    Calls Try.prog 6 #[.slice a len cap, .slice b len1 cap1, .slice d len2 cap2] w fun e w' => e = .returned (.bool true) ∧ Below w.heap.size w w' := by
  have P := came_words h0
  have hw := came_wd h0
  have Q := came_words h1
  have gw := came_wd h1
  have R := came_words h2
  have rw' := came_wd h2
  have l1 := P.len
  have l2 := Q.len
  have l3 := R.len
  have hm2 := R.reads.2
  generalize zs.take len = xs at P hw l1
  generalize zs1.take len1 = ys at Q gw l2
  generalize zs2.take len2 = rs at R rw' l3
  clear h0 h1 h2
  by_cases hf : len ≤ 40 ∧ len1 ≤ 40
  · have F := fun v => ref_few a len cap b len1 cap1 40 v true (by simpa using hf)
    obtain ⟨hf1, hf2⟩ := hf
    by_cases h40 : 40 < len2
    · clear P Q R
      go_enter Try.func6, Try.ntmps6
      go_wp2_with (first
        | (go_at_call 9; refine (nat_awake _).mono ?_; rintro e u0 ⟨rfl, b0⟩)
        | (go_at_call 21; (with_reducible refine Calls.mono (F _) ?_); rintro e v1 ⟨rfl, rfl⟩))
      go_ret
      exact ⟨rfl, b0⟩
    · have k1 := nl_small hw 40 (by omega)
      have k2 := nl_small gw 40 (by omega)
      have k3 := nl_small rw' 40 (by omega)
      have k4 : nl (val xs + val ys) ≤ 41 := by have := nl_add (val xs) (val ys); omega
      have k5 : nl (val rs + val ys) ≤ 41 := by have := nl_add (val rs) (val ys); omega
      have k6 : nl (val xs + val rs) ≤ 41 := by have := nl_add (val xs) (val rs); omega
      have k7 : nl (val ys + val rs) ≤ 41 := by have := nl_add (val ys) (val rs); omega
      have A1 := fun v (p : IsWords v (.slice a len cap) xs) (q : IsWords v (.slice b len1 cap1) ys) => nat_add' p hw q gw (by omega) (by omega) _ rfl
      have A2 := fun v a1 c1 (p : IsWords v (.slice a1 (nl (val xs + val ys)) c1) (natOf (val xs + val ys))) (q : IsWords v (.slice d len2 cap2) rs) => nat_add' p (wd_natOf _) q rw' (by omega) (by omega) (val xs + val ys + val rs) (by rw [val_natOf])
      have A3 := fun v (p : IsWords v (.slice d len2 cap2) rs) (q : IsWords v (.slice b len1 cap1) ys) => nat_add' p rw' q gw (by omega) (by omega) _ rfl
      have A4 := fun v a1 c1 (p : IsWords v (.slice a len cap) xs) (q : IsWords v (.slice a1 (nl (val rs + val ys)) c1) (natOf (val rs + val ys))) => nat_add' p hw q (wd_natOf _) (by omega) (by omega) (val xs + val ys + val rs) (by rw [val_natOf]; omega)
      have A5 := fun v (p : IsWords v (.slice a len cap) xs) (q : IsWords v (.slice d len2 cap2) rs) => nat_add' p hw q rw' (by omega) (by omega) _ rfl
      have A6 := fun v (p : IsWords v (.slice b len1 cap1) ys) (q : IsWords v (.slice d len2 cap2) rs) => nat_add' p gw q rw' (by omega) (by omega) _ rfl
      have hb := sgn_bd (val xs) (val ys)
      obtain ⟨sg, hsg⟩ : ∃ sg, sgn (val xs) (val ys) = sg := ⟨_, rfl⟩
      have C1 := fun v a1 c1 (p : IsWords v (.slice a1 (nl (val xs + val rs)) c1) (natOf (val xs + val rs))) a2 c2 (q : IsWords v (.slice a2 (nl (val ys + val rs)) c2) (natOf (val ys + val rs))) => nat_cmp' p (wd_natOf _) q (wd_natOf _) sg (by rw [val_natOf, val_natOf, Int.natCast_add, Int.natCast_add, sgn_add, hsg])
      have C2 := fun v (p : IsWords v (.slice a len cap) xs) (q : IsWords v (.slice b len1 cap1) ys) => nat_cmp' p hw q gw sg hsg
      have C3 := fun v (p : IsWords v (.slice a len cap) xs) (q : IsWords v (.slice b len1 cap1) ys) => nat_cmp' q gw p hw (-sg) (by rw [sgn_anti, hsg])
      rw [hsg] at hb
      obtain ⟨hb1, hb2⟩ := hb
      clear hsg l1 l2 l3 hm2
      generalize val xs + val ys + val rs = S at A2 A4
      generalize val xs + val ys = S1 at A1 A2 k4
      generalize val rs + val ys = S2 at A3 A4 k5
      generalize val xs + val rs = S3 at A5 C1 k6
      generalize val ys + val rs = S4 at A6 C1 k7
      go_enter Try.func6, Try.ntmps6
      go_wp2_with (first
        | (go_at_call 9; refine (nat_awake _).mono ?_; rintro e u0 ⟨rfl, b0⟩; have p0 := P.below b0; have q0 := Q.below b0; have r0 := R.below b0)
        | (go_at_call 21; (with_reducible refine Calls.mono (F _) ?_); rintro e v1 ⟨rfl, rfl⟩)
        | (go_at_call 26; (with_reducible refine Calls.mono (A1 _ p0 q0) ?_); rintro e w1 ⟨a1, c1, rfl, o1⟩; have b1 := o1.below; have p1 := p0.below b1; have q1 := q0.below b1; have r1 := r0.below b1)
        | (go_at_call 26; (with_reducible refine Calls.mono (A2 _ _ _ o1.words r1) ?_); rintro e w2 ⟨a2, c2, rfl, o2⟩; have b2 := o2.below; have p2 := p1.below b2; have q2 := q1.below b2; have r2 := r1.below b2)
        | (go_at_call 26; (with_reducible refine Calls.mono (A3 _ r2 q2) ?_); rintro e w3 ⟨a3, c3, rfl, o3⟩; have b3 := o3.below; have p3 := p2.below b3; have q3 := q2.below b3; have r3 := r2.below b3; have o23 := o2.more b3)
        | (go_at_call 26; (with_reducible refine Calls.mono (A4 _ _ _ p3 o3.words) ?_); rintro e w4 ⟨a4, c4, rfl, o4⟩; have b4 := o4.below; have p4 := p3.below b4; have q4 := q3.below b4; have r4 := r3.below b4; have o24 := o23.more b4)
        | (go_at_call 26; (with_reducible refine Calls.mono (A5 _ p4 r4) ?_); rintro e w5 ⟨a5, c5, rfl, o5⟩; have b5 := o5.below; have p5 := p4.below b5; have q5 := q4.below b5; have r5 := r4.below b5; have o25 := o24.more b5; have o45 := o4.more b5)
        | (go_at_call 26; (with_reducible refine Calls.mono (A6 _ q5 r5) ?_); rintro e w6 ⟨a6, c6, rfl, o6⟩; have b6 := o6.below; have p6 := p5.below b6; have q6 := q5.below b6; have o26 := o25.more b6; have o46 := o45.more b6; have o56 := o5.more b6)
        | (go_at_call 24; (with_reducible refine Calls.mono (C1 _ _ _ o56.words _ _ o6.words) ?_); rintro e w7 ⟨rfl, b7⟩; have p7 := p6.below b7; have q7 := q6.below b7; have o27 := o26.more b7; have o47 := o46.more b7)
        | (go_at_call 14; (with_reducible refine Calls.mono (ref_words _ _ _ _ _ _ _ _ _ o27.words o47.words true (by simp)) ?_); rintro e w8 ⟨rfl, b8⟩; have p8 := p7.below b8; have q8 := q7.below b8; have o28 := o27.more b8)
        | (go_at_call 24; (with_reducible refine Calls.mono (C2 _ p8 q8) ?_); rintro e w9 ⟨rfl, b9⟩; have p9 := p8.below b9; have q9 := q8.below b9; have o29 := o28.more b9)
        | (go_at_call 24; (with_reducible refine Calls.mono (C3 _ p9 q9) ?_); rintro e w10 ⟨rfl, b10⟩; have p10 := p9.below b10; have q10 := q9.below b10; have o210 := o29.more b10)
        | (go_at_call 24; (with_reducible refine Calls.mono (C2 _ p10 q10) ?_); rintro e w11 ⟨rfl, b11⟩))
      go_ret
      exact ⟨ret_bool (by simp), below_more (below_more b0 b1) (o210.more b11).below⟩
  · have F := fun v => ref_few a len cap b len1 cap1 40 v false (by simpa using hf)
    clear P Q R hf
    go_enter Try.func6, Try.ntmps6
    go_wp2_with (first
      | (go_at_call 9; refine (nat_awake _).mono ?_; rintro e u0 ⟨rfl, b0⟩)
      | (go_at_call 21; (with_reducible refine Calls.mono (F _) ?_); rintro e v1 ⟨rfl, rfl⟩))
    go_ret
    exact ⟨rfl, b0⟩
end Go.Proofs.Ytophlnaebmilmaa
