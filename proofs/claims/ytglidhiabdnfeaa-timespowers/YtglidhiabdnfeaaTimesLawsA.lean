/-
  The walks of the statements TimesTells and TimesOrder: for all lists of words and all words they return true; memory that was there stays.
-/
import Derived.Test.YtglidhiabdnfeaaTimesAwake
import Derived.Test.YtglidhiabdnfeaaTimesRef
import Derived.Test.YtglidhiabdnfeaaTimesMore
namespace Go.Proofs.Ytglidhiabdnfeaa
open Go.RowKit

set_option maxHeartbeats 4000000 in
theorem law_TimesTells (a : Option Addr) (len cap : Nat) (zs : List Int) (b : Option Addr) (len1 cap1 : Nat) (zs1 : List Int) (x y : Int) (w : World) (h0 : CameIn .u32 w a len cap zs) (h1 : CameIn .u32 w b len1 cap1 zs1) (h2 : (Lit.int .u32 x).wf = true) (h3 : (Lit.int .u32 y).wf = true) :
    Calls Try.prog 3 #[.slice a len cap, .slice b len1 cap1, .int .u32 x, .int .u32 y] w fun e w' => e = .returned (.bool true) ∧ Below w.heap.size w w' := by
  obtain ⟨x0, x1⟩ := wf_u32 h2
  obtain ⟨y0, y1⟩ := wf_u32 h3
  have P := came_words h0
  have hw := came_wd h0
  have Q := came_words h1
  have gw := came_wd h1
  generalize zs.take len = xs at P hw
  generalize zs1.take len1 = ys at Q gw
  clear h0 h1 h2 h3
  by_cases hf : len ≤ 20 ∧ len1 ≤ 20
  · have F := fun v => ref_few a len cap b len1 cap1 20 v true (by simpa using hf)
    have M1 := fun v (p : IsWords v (.slice a len cap) xs) (q : IsWords v (.slice b len1 cap1) ys) => times_mul _ _ _ _ _ _ _ _ v p hw q gw (by omega) (by omega)
    have M2 := fun v (p : IsWords v (.slice a len cap) xs) (q : IsWords v (.slice b len1 cap1) ys) => ref_tmul _ _ _ _ _ _ _ _ v p hw q gw (by omega) (by omega)
    have O1 := fun v (p : IsWords v (.slice a len cap) xs) => times_one _ _ _ _ x y v p hw (by omega) x0 x1 y0 y1
    have O2 := fun v (p : IsWords v (.slice a len cap) xs) => ref_one _ _ _ _ x y v p hw (by omega) x0 x1 y0 y1
    generalize val xs * val ys = N at M1 M2
    generalize val xs * x.toNat + y.toNat = K at O1 O2
    clear hf
    go_enter Try.func3, Try.ntmps3
    go_wp2_with (first
      | (go_at_call 9; refine (times_awake _).mono ?_; rintro e u0 ⟨rfl, b0⟩; have p0 := P.below b0; have q0 := Q.below b0)
      | (go_at_call 10; (with_reducible refine Calls.mono (F _) ?_); rintro e v1 ⟨rfl, rfl⟩)
      | (go_at_call 12; (with_reducible refine Calls.mono (M1 _ p0 q0) ?_); rintro e w1 ⟨a1, c1, rfl, o1⟩; have p1 := p0.below o1.below; have q1 := q0.below o1.below)
      | (go_at_call 13; (with_reducible refine Calls.mono (M2 _ p1 q1) ?_); rintro e w2 ⟨a2, c2, rfl, o2⟩; have r2 := o1.more o2.below)
      | (go_at_call 11; (with_reducible refine Calls.mono (ref_words _ _ _ _ _ _ _ _ _ r2.words o2.words true (by simp)) ?_); rintro e w3 ⟨rfl, b3⟩; have bb := below_more b0 (r2.more b3).below; have p3 := P.below bb)
      | (go_at_call 14; (with_reducible refine Calls.mono (O1 _ p3) ?_); rintro e w4 ⟨a4, c4, rfl, o4⟩; have p4 := p3.below o4.below)
      | (go_at_call 15; (with_reducible refine Calls.mono (O2 _ p4) ?_); rintro e w5 ⟨a5, c5, rfl, o5⟩; have r5 := o4.more o5.below)
      | (go_at_call 11; (with_reducible refine Calls.mono (ref_words _ _ _ _ _ _ _ _ _ r5.words o5.words true (by simp)) ?_); rintro e w6 ⟨rfl, b6⟩; have bc := below_more bb (r5.more b6).below))
    go_ret
    exact ⟨ret_bool (by simp), bc⟩
  · have F := fun v => ref_few a len cap b len1 cap1 20 v false (by simpa using hf)
    clear P Q hf
    go_enter Try.func3, Try.ntmps3
    go_wp2_with (first
      | (go_at_call 9; refine (times_awake _).mono ?_; rintro e u0 ⟨rfl, b0⟩)
      | (go_at_call 10; (with_reducible refine Calls.mono (F _) ?_); rintro e v1 ⟨rfl, rfl⟩))
    go_ret
    exact ⟨rfl, b0⟩

set_option maxHeartbeats 4000000 in
theorem law_TimesOrder (a : Option Addr) (len cap : Nat) (zs : List Int) (b : Option Addr) (len1 cap1 : Nat) (zs1 : List Int) (d : Option Addr) (len2 cap2 : Nat) (zs2 : List Int) (w : World) (h0 : CameIn .u32 w a len cap zs) (h1 : CameIn .u32 w b len1 cap1 zs1) (h2 : CameIn .u32 w d len2 cap2 zs2) :
    Calls Try.prog 5 #[.slice a len cap, .slice b len1 cap1, .slice d len2 cap2] w fun e w' => e = .returned (.bool true) ∧ Below w.heap.size w w' := by
  have P := came_words h0
  have hw := came_wd h0
  have Q := came_words h1
  have gw := came_wd h1
  have R := came_words h2
  have rw := came_wd h2
  have l0 := P.len
  have l1 := Q.len
  have l2 := R.len
  have m2 := R.reads.2
  generalize zs.take len = xs at P hw l0
  generalize zs1.take len1 = ys at Q gw l1
  generalize zs2.take len2 = ts at R rw l2
  clear h0 h1 h2
  by_cases hf : len ≤ 20 ∧ len1 ≤ 20
  · have F := fun v => ref_few a len cap b len1 cap1 20 v true (by simpa using hf)
    by_cases hf2 : 20 < len2
    · clear P Q R hf l0 l1 l2
      go_enter Try.func5, Try.ntmps5
      go_wp2_with (first
        | (go_at_call 9; refine (times_awake _).mono ?_; rintro e u0 ⟨rfl, b0⟩)
        | (go_at_call 10; (with_reducible refine Calls.mono (F _) ?_); rintro e v1 ⟨rfl, rfl⟩))
      go_ret
      exact ⟨rfl, b0⟩
    · have kX := nl_small hw 20 (by omega)
      have kY := nl_small gw 20 (by omega)
      have kT := nl_small rw 20 (by omega)
      have k1 := nl_mul (val xs) (val ys)
      have k2 := nl_mul (val ts) (val ys)
      have M1 := fun v (p : IsWords v (.slice a len cap) xs) (q : IsWords v (.slice b len1 cap1) ys) => times_mul' p hw q gw (by omega) (by omega) _ rfl
      have M2 := fun v (p : IsWords v (.slice a len cap) xs) (q : IsWords v (.slice b len1 cap1) ys) => times_mul' q gw p hw (by omega) (by omega) (val xs * val ys) (Nat.mul_comm _ _)
      have M3 := fun v (q : IsWords v (.slice b len1 cap1) ys) (r : IsWords v (.slice d len2 cap2) ts) => times_mul' r rw q gw (by omega) (by omega) _ rfl
      have M4 := fun v a1 c1 (p : IsWords v (.slice a1 (nl (val xs * val ys)) c1) (natOf (val xs * val ys))) (r : IsWords v (.slice d len2 cap2) ts) => times_mul' p (wd_natOf _) r rw (by omega) (by omega) (val xs * val ys * val ts) (by rw [val_natOf])
      have M5 := fun v a1 c1 (p : IsWords v (.slice a len cap) xs) (r : IsWords v (.slice a1 (nl (val ts * val ys)) c1) (natOf (val ts * val ys))) => times_mul' p hw r (wd_natOf _) (by omega) (by omega) (val xs * val ys * val ts) (by rw [val_natOf, Nat.mul_assoc, Nat.mul_comm (val ys)])
      have RR := fun v a1 c1 (p : IsWords v (.slice a1 (nl (val xs * val ys)) c1) (natOf (val xs * val ys))) => nat_Right a1 _ c1 _ v p true (by rw [right_nat]; simp)
      generalize val xs * val ys * val ts = N3 at M4 M5
      generalize val xs * val ys = N at M1 M2 M4 RR k1
      generalize val ts * val ys = K at M3 M5 k2
      clear hf hw gw rw l0 l1 l2 k1 k2 kX kY kT
      go_enter Try.func5, Try.ntmps5
      go_wp2_with (first
        | (go_at_call 9; refine (times_awake _).mono ?_; rintro e u0 ⟨rfl, b0⟩; have p0 := P.below b0; have q0 := Q.below b0)
        | (go_at_call 10; (with_reducible refine Calls.mono (F _) ?_); rintro e v1 ⟨rfl, rfl⟩)
        | (go_at_call 12; (with_reducible refine Calls.mono (M1 _ p0 q0) ?_); rintro e w1 ⟨a1, c1, rfl, o1⟩; have p1 := p0.below o1.below; have q1 := q0.below o1.below)
        | (go_at_call 12; (with_reducible refine Calls.mono (M2 _ p1 q1) ?_); rintro e w2 ⟨a2, c2, rfl, o2⟩; have r2 := o1.more o2.below)
        | (go_at_call 11; (with_reducible refine Calls.mono (ref_words _ _ _ _ _ _ _ _ _ r2.words o2.words true (by simp)) ?_); rintro e w3 ⟨rfl, b3⟩; have r3 := r2.more b3; have b3' := below_more b0 r3.below; have p3 := P.below b3'; have q3 := Q.below b3'; have t3 := R.below b3')
        | (go_at_call 12; (with_reducible refine Calls.mono (M4 _ _ _ r3.words t3) ?_); rintro e w4 ⟨a4, c4, rfl, o4⟩; have p4 := p3.below o4.below; have q4 := q3.below o4.below; have t4 := t3.below o4.below; have r4 := r3.more o4.below)
        | (go_at_call 12; (with_reducible refine Calls.mono (M3 _ q4 t4) ?_); rintro e w5 ⟨a5, c5, rfl, o5⟩; have p5 := p4.below o5.below; have r5 := r4.more o5.below; have s5 := o4.more o5.below)
        | (go_at_call 12; (with_reducible refine Calls.mono (M5 _ _ _ p5 o5.words) ?_); rintro e w6 ⟨a6, c6, rfl, o6⟩; have r6 := r5.more o6.below; have s6 := s5.more o6.below)
        | (go_at_call 11; (with_reducible refine Calls.mono (ref_words _ _ _ _ _ _ _ _ _ s6.words o6.words true (by simp)) ?_); rintro e w7 ⟨rfl, b7⟩; have r7 := r6.more b7)
        | (go_at_call 21; (with_reducible refine Calls.mono (RR _ _ _ r7.words) ?_); rintro e v1 ⟨rfl, rfl⟩))
      go_ret
      exact ⟨ret_bool (by simp), below_more b0 r7.below⟩
  · have F := fun v => ref_few a len cap b len1 cap1 20 v false (by simpa using hf)
    clear P Q R hf l0 l1 l2
    go_enter Try.func5, Try.ntmps5
    go_wp2_with (first
      | (go_at_call 9; refine (times_awake _).mono ?_; rintro e u0 ⟨rfl, b0⟩)
      | (go_at_call 10; (with_reducible refine Calls.mono (F _) ?_); rintro e v1 ⟨rfl, rfl⟩))
    go_ret
    exact ⟨rfl, b0⟩
end Go.Proofs.Ytglidhiabdnfeaa
