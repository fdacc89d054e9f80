/-
  The walks of the statements TimesPowers and TimesAgain: for all lists of words, all exponents and all numbers of bits they return true; memory that was there stays.
-/
import Derived.Test.YtglidhiabdnfeaaTimesLawsA
import Derived.Test.YtglidhiabdnfeaaTimesRefB
namespace Go.Proofs.Ytglidhiabdnfeaa
open Go.RowKit

theorem wf_i64 {a : Int} (h : (Lit.int .i64 a).wf = true) : -9223372036854775808 ≤ a ∧ a < 9223372036854775808 := by
  simp [Lit.wf, IntKind.min, IntKind.max, IntKind.signed, IntKind.bits] at h; omega

theorem ans_no {f : FuncId} {args : Array Value} {w : World} (h : Calls Try.prog f args w fun e w' => e = .returned (.tuple #[.slice none 0 0, .bool false]) ∧ Below w.heap.size w w') : Calls Try.prog f args w (AnsSub w 0 false) := by
  refine h.mono ?_
  rintro e w1 ⟨rfl, b1⟩
  refine ⟨none, 0, by rw [nl_zero], ?_⟩
  rw [nl_zero, natOf_zero]
  exact Own.nil b1

/-- Pow and the document's Pow answer one and the same. -/
theorem pow_both (a : Option Addr) (m c : Nat) (zs : List Int) (n : Int) (hz : Wd zs) (hm : m ≤ 4) (hl : zs.length = m) (hn : n < 9223372036854775808) :
    ∃ (N : Nat) (r : Bool), (∀ v, IsWords v (.slice a m c) zs → Calls Try.prog 17 #[.slice a m c, .int .i64 n] v (AnsSub v N r)) ∧
      ∀ v, IsWords v (.slice a m c) zs → Calls Try.prog 18 #[.slice a m c, .int .i64 n] v (AnsSub v N r) := by
  have k := nl_small hz 4 (by omega)
  by_cases h : n < 0 ∨ 1 < val zs ∧ (4096 / nl (val zs) : Int) < n
  · exact ⟨0, false, fun v p => ans_no (times_pow_no a m c zs n v p hz (by omega) h), fun v p => ans_no (ref_tpow_no a m c zs n v p hz (by omega) h)⟩
  · have h0 : 0 ≤ n := by omega
    have hok : val zs ≤ 1 ∨ nl (val zs) * n.toNat ≤ 4096 := by
      rcases Nat.lt_or_ge 1 (val zs) with h1 | h1
      · right
        have hp := nl_pos (A := val zs) (by omega)
        have h2 : ¬ (4096 / nl (val zs) : Int) < n := fun h3 => h (.inr ⟨h1, h3⟩)
        have e : ((4096 / nl (val zs) : Nat) : Int) = 4096 / (nl (val zs) : Int) := by simp
        have h3 : n.toNat ≤ 4096 / nl (val zs) := by omega
        rw [Nat.mul_comm]
        exact (Nat.le_div_iff_mul_le hp).1 h3
      · exact .inl h1
    exact ⟨val zs ^ n.toNat, true, fun v p => times_pow a m c zs n v p hz (by omega) h0 hn hok, fun v p => ref_tpow a m c zs n v p hz (by omega) h0 hn hok⟩

/-- The number of bits that counts. -/
def cnt (s : Int) : Int := if s ≤ 0 then 0 else if s ≤ 100000 then s else 100000
theorem cnt_cases (s : Int) : s ≤ 0 ∧ cnt s = 0 ∨ 0 ≤ s ∧ s ≤ 100000 ∧ cnt s = s ∨ 100000 ≤ s ∧ cnt s = 100000 := by
  unfold cnt; split
  · exact .inl ⟨by omega, rfl⟩
  · split
    · exact .inr (.inl ⟨by omega, by omega, rfl⟩)
    · exact .inr (.inr ⟨by omega, rfl⟩)

set_option maxHeartbeats 8000000 in
theorem law_TimesPowers (a : Option Addr) (len cap : Nat) (zs : List Int) (n s : Int) (w : World) (h0 : CameIn .u32 w a len cap zs) (h1 : (Lit.int .i64 n).wf = true) (_h2 : (Lit.int .i64 s).wf = true) :
    Calls Try.prog 4 #[.slice a len cap, .int .i64 n, .int .i64 s] w fun e w' => e = .returned (.bool true) ∧ Below w.heap.size w w' := by
  obtain ⟨n0, n1⟩ := wf_i64 h1
  have P := came_words h0
  have hw := came_wd h0
  have l0 := P.len
  have hm := P.reads.2
  generalize zs.take len = xs at P hw l0
  clear h0 h1
  by_cases h4 : 4 < len
  · clear P hw l0
    go_enter Try.func4, Try.ntmps4
    go_wp2_with (go_at_call 9; refine (times_awake _).mono ?_; rintro e u0 ⟨rfl, b0⟩)
    go_ret
    exact ⟨rfl, b0⟩
  · have C := fun v b1 (p : IsWords v (.slice a len cap) xs) (q : IsWords v (.slice b1 1 1) [1]) => ref_cmp _ _ _ _ _ _ _ _ v p hw q wd_lit_one (by omega) (by omega)
    rw [show val [1] = 1 from rfl] at C
    have L1 := fun v => lit_words v [1] 1 rfl (by decide)
    simp only [List.map_cons, List.map_nil] at L1
    obtain ⟨sg, hsg, hs1, hs2⟩ : ∃ sg : Int, sgn (val xs) (1 : Nat) = sg ∧ (val xs ≤ 1 → sg ≤ 0) ∧ (1 < val xs → 0 < sg) := by
      refine ⟨_, rfl, fun h => ?_, fun h => ?_⟩
      · rcases Nat.lt_or_ge (val xs) 1 with h0 | h0
        · rw [sgn_lt (by omega)]; omega
        · rw [sgn_eq (by omega)]; omega
      · rw [sgn_gt (by omega)]; omega
    rw [hsg] at C
    clear hsg
    by_cases hskip : 300 < s ∨ 12 < n ∧ n ≤ 4096 ∧ 1 < val xs
    · have hcases : (n ≤ 12 ∧ 300 < s) ∨ (12 < n ∧ n ≤ 4096 ∧ sg ≤ 0 ∧ 300 < s) ∨ (12 < n ∧ n ≤ 4096 ∧ 0 < sg) ∨ (4096 < n ∧ 300 < s) := by
        rcases Nat.lt_or_ge 1 (val xs) with h1 | h1
        · have := hs2 h1; omega
        · have := hs1 h1; omega
      clear hs1 hs2 hskip hw l0
      rcases hcases with ⟨c1, c2⟩ | ⟨c1, c2, c3, c4⟩ | ⟨c1, c2, c3⟩ | ⟨c1, c2⟩
      case' inr.inr.inl => have c4 : ¬ sg ≤ 0 := by omega
      all_goals
        go_enter Try.func4, Try.ntmps4
        go_wp2_with (first
          | (go_at_call 9; refine (times_awake _).mono ?_; rintro e u0 ⟨rfl, b0⟩; have p0 := P.below b0; have b1 := b0.alloc b0.size (.cells #[.int .u32 1] 23))
          | (go_at_call 16; (with_reducible refine Calls.mono (C _ _ (P.below b1) (L1 _)) ?_); rintro e v1 ⟨rfl, rfl⟩))
        go_ret
        exact ⟨rfl, b1⟩
    · obtain ⟨N, r, W1, W2⟩ := pow_both a len cap xs n hw (by omega) l0 n1
      have S1 := fun v (p : IsWords v (.slice a len cap) xs) => times_shift a len cap xs s v p hw (by omega) (cnt s) (cnt_cases s)
      have S2 := fun v (p : IsWords v (.slice a len cap) xs) => ref_tshift a len cap xs s v p hw (by omega) (cnt s) (by have := cnt_cases s; omega)
      have hcases : s ≤ 300 ∧ (n ≤ 12 ∨ (12 < n ∧ n ≤ 4096 ∧ sg ≤ 0) ∨ 4096 < n) := by
        rcases Nat.lt_or_ge 1 (val xs) with h1 | h1
        · have := hs2 h1; omega
        · have := hs1 h1; omega
      generalize val xs * 2 ^ (cnt s).toNat = K at S1 S2
      have hr : (r == r) = true := by simp
      obtain ⟨hs, hcases⟩ := hcases
      clear hs1 hs2 hskip hw l0
      rcases hcases with c1 | ⟨c1, c2, c3⟩ | c1
      all_goals
        go_enter Try.func4, Try.ntmps4
        go_wp2_with (first
          | (go_at_call 9; refine (times_awake _).mono ?_; rintro e u0 ⟨rfl, b0⟩; have p0 := P.below b0; have b1 := b0.alloc b0.size (.cells #[.int .u32 1] 23); have p1 := P.below b1)
          | (go_at_call 16; (with_reducible refine Calls.mono (C _ _ p1 (L1 _)) ?_); rintro e v1 ⟨rfl, rfl⟩)
          | (go_at_call 17; (with_reducible refine Calls.mono (W1 _ p1) ?_); rintro e w2 ⟨a2, c2, rfl, o2⟩; have p2 := p1.below o2.below)
          | (go_at_call 18; (with_reducible refine Calls.mono (W2 _ p2) ?_); rintro e w3 ⟨a3, c3, rfl, o3⟩; have x3 := o2.more o3.below)
          | (go_at_call 11; (with_reducible refine Calls.mono (ref_words _ _ _ _ _ _ _ _ _ x3.words o3.words true (by simp)) ?_); rintro e w4 ⟨rfl, b4⟩; have x4 := x3.more b4; have p4 := p1.below x4.below)
          | (go_at_call 19; (with_reducible refine Calls.mono (S1 _ p4) ?_); rintro e w5 ⟨a5, c5, rfl, o5⟩; have x5 := x4.more o5.below; have p5 := p4.below o5.below)
          | (go_at_call 20; (with_reducible refine Calls.mono (S2 _ p5) ?_); rintro e w6 ⟨a6, c6, rfl, o6⟩; have x6 := x5.more o6.below; have y6 := o5.more o6.below)
          | (go_at_call 11; (with_reducible refine Calls.mono (ref_words _ _ _ _ _ _ _ _ _ y6.words o6.words true (by simp)) ?_); rintro e w7 ⟨rfl, b7⟩; have x7 := x6.more b7))
        go_ret
        exact ⟨ret_bool (by simp), below_more b1 x7.below⟩

set_option maxHeartbeats 8000000 in
theorem law_TimesAgain (a : Option Addr) (len cap : Nat) (zs : List Int) (n k s t : Int) (w : World) (h0 : CameIn .u32 w a len cap zs) (h1 : (Lit.int .u8 n).wf = true) (h2 : (Lit.int .u8 k).wf = true) (h3 : (Lit.int .u8 s).wf = true) (h4 : (Lit.int .u8 t).wf = true) :
    Calls Try.prog 8 #[.slice a len cap, .int .u8 n, .int .u8 k, .int .u8 s, .int .u8 t] w fun e w' => e = .returned (.bool true) ∧ Below w.heap.size w w' := by
  obtain ⟨n0, n1⟩ := wf_u8 h1
  obtain ⟨k0, k1⟩ := wf_u8 h2
  obtain ⟨s0, s1⟩ := wf_u8 h3
  obtain ⟨t0, t1⟩ := wf_u8 h4
  have P := came_words h0
  have hw := came_wd h0
  have l0 := P.len
  have hm := P.reads.2
  generalize zs.take len = xs at P hw l0
  clear h0 h1 h2 h3 h4
  by_cases h4 : 4 < len
  · clear P hw l0
    go_enter Try.func8, Try.ntmps8
    go_wp2_with (go_at_call 9; refine (times_awake _).mono ?_; rintro e u0 ⟨rfl, b0⟩)
    go_ret
    exact ⟨rfl, b0⟩
  · have kx := nl_small hw 4 (by omega)
    have hpow : ∀ e : Nat, e ≤ 16 → nl (val xs) * e ≤ 4096 := fun e he => Nat.le_trans (Nat.mul_le_mul kx he) (by omega)
    have W1 := fun v (p : IsWords v (.slice a len cap) xs) => times_pow a len cap xs (n % 9) v p hw (by omega) (by omega) (by omega) (.inr (hpow _ (by omega)))
    have W2 := fun v (p : IsWords v (.slice a len cap) xs) => times_pow a len cap xs (k % 9) v p hw (by omega) (by omega) (by omega) (.inr (hpow _ (by omega)))
    have W3 := fun v (p : IsWords v (.slice a len cap) xs) => times_pow a len cap xs (n % 9 + k % 9) v p hw (by omega) (by omega) (by omega) (.inr (hpow _ (by omega)))
    have W4 := fun v => times_pow _ 1 1 [2] s _ (lit_words v [2] 1 rfl (by decide)) (wd_one (by omega) (by omega)) (by omega) (by omega) (by omega) (.inr (by
      have h1 := nl_val_le [2] (wd_one (by omega) (by omega))
      have h2 : nl (val [2]) * s.toNat ≤ 1 * s.toNat := Nat.mul_le_mul_right _ h1
      omega))
    simp only [List.map_cons, List.map_nil] at W4
    rw [show val [2] = 2 from rfl] at W4
    have S1 := fun v (p : IsWords v (.slice a len cap) xs) => times_shift a len cap xs s v p hw (by omega) s (.inr (.inl ⟨by omega, by omega, rfl⟩))
    have S2 := fun v (p : IsWords v (.slice a len cap) xs) => times_shift a len cap xs (s + t) v p hw (by omega) (s + t) (.inr (.inl ⟨by omega, by omega, rfl⟩))
    have e1 : (n % 9 + k % 9).toNat = (n % 9).toNat + (k % 9).toNat := by omega
    have e2 : val xs * 2 ^ (s + t).toNat = val xs * 2 ^ s.toNat * 2 ^ t.toNat := by rw [show (s + t).toNat = s.toNat + t.toNat by omega, Nat.pow_add, Nat.mul_assoc]
    rw [e1, Nat.pow_add] at W3
    rw [e2] at S2
    have q1 := nl_pow (A := val xs) (n := 16) (k := (n % 9).toNat) (.inr (hpow _ (by omega))) (by omega)
    have q2 := nl_pow (A := val xs) (n := 16) (k := (k % 9).toNat) (.inr (hpow _ (by omega))) (by omega)
    have q4 := nl_shift 1 s.toNat
    rw [Nat.one_mul, nl_one] at q4
    have q5 := nl_shift (val xs) s.toNat
    have M1 := fun v a1 c1 a2 c2 (p : IsWords v (.slice a1 (nl (val xs ^ (n % 9).toNat)) c1) (natOf (val xs ^ (n % 9).toNat))) (q : IsWords v (.slice a2 (nl (val xs ^ (k % 9).toNat)) c2) (natOf (val xs ^ (k % 9).toNat))) => times_mul' p (wd_natOf _) q (wd_natOf _) (by omega) (by omega) (val xs ^ (n % 9).toNat * val xs ^ (k % 9).toNat) (by rw [val_natOf, val_natOf])
    have M2 := fun v a2 c2 (p : IsWords v (.slice a len cap) xs) (q : IsWords v (.slice a2 (nl (2 ^ s.toNat)) c2) (natOf (2 ^ s.toNat))) => times_mul' p hw q (wd_natOf _) (by omega) (by omega) (val xs * 2 ^ s.toNat) (by rw [val_natOf])
    have S3 := fun v a1 c1 (p : IsWords v (.slice a1 (nl (val xs * 2 ^ s.toNat)) c1) (natOf (val xs * 2 ^ s.toNat))) => times_shift a1 _ c1 _ t v p (wd_natOf _) (by omega) t (.inr (.inl ⟨by omega, by omega, rfl⟩))
    rw [val_natOf] at S3
    generalize val xs * 2 ^ s.toNat * 2 ^ t.toNat = N6 at S2 S3
    generalize val xs * 2 ^ s.toNat = N5 at S1 S3 M2 q5
    generalize 2 ^ s.toNat = N4 at W4 M2 q4
    generalize val xs ^ (n % 9).toNat * val xs ^ (k % 9).toNat = N3 at W3 M1
    generalize val xs ^ (n % 9).toNat = N1 at W1 M1 q1
    generalize val xs ^ (k % 9).toNat = N2 at W2 M1 q2
    clear hw l0 kx hpow e1 e2 q1 q2 q4 q5
    go_enter Try.func8, Try.ntmps8
    go_wp2_with (first
      | (go_at_call 9; refine (times_awake _).mono ?_; rintro e u0 ⟨rfl, b0⟩; have p0 := P.below b0)
      | (go_at_call 17; (with_reducible refine Calls.mono (W1 _ p0) ?_); rintro e w1 ⟨a1, c1, rfl, o1⟩; have p1 := p0.below o1.below)
      | (go_at_call 17; (with_reducible refine Calls.mono (W2 _ p1) ?_); rintro e w2 ⟨a2, c2, rfl, o2⟩; have p2 := p1.below o2.below; have x2 := o1.more o2.below)
      | (go_at_call 17; (with_reducible refine Calls.mono (W3 _ p2) ?_); rintro e w3 ⟨a3, c3, rfl, o3⟩; have x3 := x2.more o3.below; have y3 := o2.more o3.below)
      | (go_at_call 17; (with_reducible refine Calls.mono (W4 _) ?_); rintro e w4 ⟨a4, c4, rfl, o4⟩; have x4 := (x3.alloc _).more o4.below; have y4 := (y3.alloc _).more o4.below; have z4 := (o3.alloc _).more o4.below; have p4 := p0.below x4.below)
      | (go_at_call 19; (with_reducible refine Calls.mono (S1 _ p4) ?_); rintro e w5 ⟨a5, c5, rfl, o5⟩; have x5 := x4.more o5.below; have y5 := y4.more o5.below; have z5 := z4.more o5.below; have t5 := o4.more o5.below)
      | (go_at_call 12; (with_reducible refine Calls.mono (M1 _ _ _ _ _ x5.words y5.words) ?_); rintro e w6 ⟨a6, c6, rfl, o6⟩; have x6 := x5.more o6.below; have z6 := z5.more o6.below; have t6 := t5.more o6.below; have v6 := o5.more o6.below)
      | (go_at_call 11; (with_reducible refine Calls.mono (ref_words _ _ _ _ _ _ _ _ _ o6.words z6.words true (by simp)) ?_); rintro e w7 ⟨rfl, b7⟩; have x7 := x6.more b7; have t7 := t6.more b7; have v7 := v6.more b7; have p7 := p0.below x7.below)
      | (go_at_call 12; (with_reducible refine Calls.mono (M2 _ _ _ p7 t7.words) ?_); rintro e w8 ⟨a8, c8, rfl, o8⟩; have x8 := x7.more o8.below; have v8 := v7.more o8.below)
      | (go_at_call 11; (with_reducible refine Calls.mono (ref_words _ _ _ _ _ _ _ _ _ v8.words o8.words true (by simp)) ?_); rintro e w9 ⟨rfl, b9⟩; have x9 := x8.more b9; have v9 := v8.more b9)
      | (go_at_call 19; (with_reducible refine Calls.mono (S3 _ _ _ v9.words) ?_); rintro e w10 ⟨a10, c10, rfl, o10⟩; have x10 := x9.more o10.below; have p10 := p0.below x10.below)
      | (go_at_call 19; (with_reducible refine Calls.mono (S2 _ p10) ?_); rintro e w11 ⟨a11, c11, rfl, o11⟩; have x11 := x10.more o11.below; have y11 := o10.more o11.below)
      | (go_at_call 11; (with_reducible refine Calls.mono (ref_words _ _ _ _ _ _ _ _ _ y11.words o11.words true (by simp)) ?_); rintro e w12 ⟨rfl, b12⟩; have x12 := x11.more b12))
    go_ret
    exact ⟨ret_bool (by simp), below_more b0 x12.below⟩
end Go.Proofs.Ytglidhiabdnfeaa
