/-
  The walks of the statements SplitRoots and SplitSmall: for every list of words, every word and all two numbers of 64 bits they return true; memory that was there stays.
-/
import Derived.Test.YtapfoefeplmgnaaSplitLawsA
import Derived.Test.YtapfoefeplmgnaaNatSmall0
namespace Go.Proofs.Ytapfoefeplmgnaa
open Go.RowKit

theorem wf_u64s {a : Int} (h : (Lit.int .u64 a).wf = true) : 0 ≤ a ∧ a < 18446744073709551616 := by
  simp [Lit.wf, IntKind.min, IntKind.max, IntKind.signed, IntKind.bits] at h; omega

theorem nat_small' {a : Option Addr} {n c : Nat} {zs : List Int} {w : World} (h : IsWords w (.slice a n c) zs) (hz : Wd zs) (s : Int) (hs : (val zs : Int) = s) (h1 : s < 18446744073709551616) :
    Calls Try.prog 26 #[.slice a n c] w fun e w' => e = .returned (.tuple #[.int .u64 s, .bool true]) ∧ w = w' := by
  rw [← hs]; exact nat_small a n c zs w h hz (by omega)

set_option maxHeartbeats 4000000 in
theorem law_SplitRoots (a : Option Addr) (len cap : Nat) (zs : List Int) (w : World) (h0 : CameIn .u32 w a len cap zs) :
    Calls Try.prog 7 #[.slice a len cap] w fun e w' => e = .returned (.bool true) ∧ Below w.heap.size w w' := by
  have P := came_words h0
  have hw := came_wd h0
  have l0 := P.len
  have m0 := P.reads.2
  generalize zs.take len = xs at P hw l0
  clear h0
  by_cases hf : 10 < len
  · clear P l0
    go_enter Try.func7, Try.ntmps7
    go_wp2_with (first
      | (go_at_call 9; refine (split_awake _).mono ?_; rintro e u0 ⟨rfl, b0⟩))
    go_ret
    exact ⟨rfl, b0⟩
  obtain ⟨s, s1, s2⟩ := root_ex (val xs)
  have kX := nl_small hw 10 (by omega)
  have hsA : s ≤ val xs := by
    rcases Nat.eq_zero_or_pos s with h | h
    · omega
    · exact Nat.le_trans (Nat.le_mul_of_pos_left s h) s1
  have kS : nl s ≤ 10 := Nat.le_trans (nl_mono hsA) kX
  have kS1 : nl (s + 1) ≤ 11 := by
    have h1 := nl_add s 1
    have h2 := nl_le 1 1 (by omega)
    omega
  have kA := nl_mul (val xs) (val xs)
  have kH : nl (val xs / 2) ≤ 10 := Nat.le_trans (nl_mono (Nat.div_le_self _ _)) kX
  have kH2 : nl (val xs / 2 * 2) ≤ 10 := Nat.le_trans (nl_mono (Nat.div_mul_le_self _ _)) kX
  have kO : nl (val xs % 2) ≤ 1 := nl_le 1 _ (by have := Nat.mod_lt (val xs) (y := 2) (by omega); omega)
  have kSS := nl_mul s s
  have kS2 := nl_mul (s + 1) (s + 1)
  have RA := fun v (p : IsWords v (.slice a len cap) xs) => split_root p hw (by omega) _ s rfl s1 s2
  have LB : ∀ v : World, IsWords (v.alloc (.cells #[.int .u32 1] 23)) (.slice (some ⟨v.heap.size, 0, none⟩) 1 1) [1] := fun v => lit_words v [1] 1 rfl (by decide)
  have A1 := fun v a1 c1 (p : IsWords (v.alloc (.cells #[.int .u32 1] 23)) (.slice a1 (nl s) c1) (natOf s)) => nat_add' p (wd_natOf _) (LB v) (wd_one (by omega) (by omega)) (by omega) (by omega) (s + 1) (by rw [val_natOf]; simp [val])
  have H := fun v (p : IsWords v (.slice a len cap) xs) => split_half _ _ _ _ v p hw (by omega) _ rfl
  have O0 := fun v => nat_of 0 v (by omega) (by omega)
  have O1 := fun v => nat_of 1 v (by omega) (by omega)
  rw [show (0 : Int).toNat = 0 from rfl] at O0
  rw [show (1 : Int).toNat = 1 from rfl] at O1
  have R1 := fun v a1 c1 (p : IsWords v (.slice a1 (nl s) c1) (natOf s)) => nat_Right a1 _ c1 _ v p true (by rw [right_nat]; simp)
  have M1 := fun v a1 c1 (p : IsWords v (.slice a1 (nl s) c1) (natOf s)) => times_mul' p (wd_natOf _) p (wd_natOf _) (by omega) (by omega) (s * s) (by rw [val_natOf])
  have M2 := fun v a1 c1 (p : IsWords v (.slice a1 (nl (s + 1)) c1) (natOf (s + 1))) => times_mul' p (wd_natOf _) p (wd_natOf _) (by omega) (by omega) ((s + 1) * (s + 1)) (by rw [val_natOf])
  have M3 := fun v (p : IsWords v (.slice a len cap) xs) => times_mul' p hw p hw (by omega) (by omega) _ rfl
  obtain ⟨cs, C1, hcs⟩ : ∃ cs : Int, (∀ v a1 c1, IsWords v (.slice a1 (nl (s * s)) c1) (natOf (s * s)) → IsWords v (.slice a len cap) xs → Calls Try.prog 17 #[.slice a1 (nl (s * s)) c1, .slice a len cap] v (fun e w' => e = .returned (.int .i64 cs) ∧ Below v.heap.size v w')) ∧ cs ≤ 0 := by
    refine ⟨_, fun v a1 c1 p q => nat_cmp' p (wd_natOf _) q hw _ rfl, ?_⟩
    rw [val_natOf]
    rcases Nat.lt_or_ge (s * s) (val xs) with h | h
    · rw [sgn_lt (by omega)]; omega
    · rw [sgn_eq (by omega)]; omega
  have C2 := fun v a1 c1 (p : IsWords v (.slice a1 (nl ((s + 1) * (s + 1))) c1) (natOf ((s + 1) * (s + 1)))) (q : IsWords v (.slice a len cap) xs) => nat_cmp' p (wd_natOf _) q hw 1 (by rw [val_natOf]; exact sgn_gt (by omega))
  have RS := fun v a1 c1 (p : IsWords v (.slice a1 (nl (val xs * val xs)) c1) (natOf (val xs * val xs))) => split_root p (wd_natOf _) (by omega) _ (val xs) (val_natOf _) (Nat.le_refl _) (Nat.mul_lt_mul_of_lt_of_lt (by omega) (by omega))
  have T1 := fun v (p : IsWords v (.slice a len cap) xs) => nat_trim' p hw (by omega) _ rfl
  have ON := fun v a1 c1 (p : IsWords v (.slice a1 (nl (val xs / 2)) c1) (natOf (val xs / 2))) => times_one' p (wd_natOf _) (x := 2) (y := 0) (by omega) (by omega) (by omega) (by omega) (by omega) (val xs / 2 * 2) (by rw [val_natOf, show (2 : Int).toNat = 2 from rfl, show (0 : Int).toNat = 0 from rfl, Nat.add_zero])
  have A2 := fun v a1 c1 a2 c2 (p : IsWords v (.slice a1 (nl (val xs / 2 * 2)) c1) (natOf (val xs / 2 * 2))) (q : IsWords v (.slice a2 (nl (val xs % 2)) c2) (natOf (val xs % 2))) => nat_add' p (wd_natOf _) q (wd_natOf _) (by omega) (by omega) (val xs) (by rw [val_natOf, val_natOf]; omega)
  have hlen : ¬ (10 < (nl s : Int)) := by omega
  rcases (by omega : val xs % 2 = 0 ∨ val xs % 2 = 1) with e | e
  · have hd : decide (val xs % 2 = 1) = false := by rw [e]; rfl
    simp only [hd] at H
    simp only [e] at A2
    generalize val xs / 2 * 2 = K1 at ON A2
    generalize val xs / 2 = K2 at H ON
    generalize val xs * val xs = K3 at M3 RS
    generalize (s + 1) * (s + 1) = K4 at M2 C2
    generalize s * s = K5 at M1 C1
    generalize s + 1 = K6 at A1 M2
    generalize val xs = K7 at RS T1 A2
    clear hd e s1 s2 hsA kX kS kS1 kA kH kH2 kO kSS kS2 LB l0
    go_enter Try.func7, Try.ntmps7
    go_wp2_with (first
      | (go_at_call 9; refine (split_awake _).mono ?_; rintro e u0 ⟨rfl, b0⟩; have p0 := P.below b0)
      | (go_at_call 22; (with_reducible refine Calls.mono (RA _ p0) ?_); rintro e w1 ⟨a1, c1, rfl, o1⟩; have p1 := p0.below o1.below; have x1 := o1.alloc (.cells #[.int .u32 1] 23); have p1' := p0.below x1.below)
      | (go_at_call 18; (with_reducible refine Calls.mono (A1 _ _ _ x1.words) ?_); rintro e w2 ⟨a2, c2, rfl, o2⟩; have p2 := p1'.below o2.below; have x2 := x1.more o2.below)
      | (go_at_call 23; (with_reducible refine Calls.mono (H _ p2) ?_); rintro e w3 ⟨a3, c3, rfl, o3⟩; have p3 := p2.below o3.below; have x3 := x2.more o3.below; have y3 := o2.more o3.below)
      | (go_at_call 24; (with_reducible refine Calls.mono (O0 _) ?_); rintro e w5 ⟨a5, c5, rfl, o5⟩; have p5 := p3.below o5.below; have x5 := x3.more o5.below; have y5 := y3.more o5.below; have h5 := o3.more o5.below)
      | (go_at_call 20; (with_reducible refine Calls.mono (R1 _ _ _ x5.words) ?_); rintro e v1 ⟨rfl, rfl⟩)
      | (go_at_call 19; (with_reducible refine Calls.mono (M1 _ _ _ x5.words) ?_); rintro e w6 ⟨a6, c6, rfl, o6⟩; have p6 := p5.below o6.below; have x6 := x5.more o6.below; have y6 := y5.more o6.below; have h6 := h5.more o6.below; have r6 := o5.more o6.below)
      | (go_at_call 17; (with_reducible refine Calls.mono (C1 _ _ _ o6.words p6) ?_); rintro e w7 ⟨rfl, b7⟩; have p7 := p6.below b7; have x7 := x6.more b7; have y7 := y6.more b7; have h7 := h6.more b7; have r7 := r6.more b7)
      | (go_at_call 19; (with_reducible refine Calls.mono (M2 _ _ _ y7.words) ?_); rintro e w8 ⟨a8, c8, rfl, o8⟩; have p8 := p7.below o8.below; have x8 := x7.more o8.below; have h8 := h7.more o8.below; have r8 := r7.more o8.below)
      | (go_at_call 17; (with_reducible refine Calls.mono (C2 _ _ _ o8.words p8) ?_); rintro e w9 ⟨rfl, b9⟩; have p9 := p8.below b9; have x9 := x8.more b9; have h9 := h8.more b9; have r9 := r8.more b9)
      | (go_at_call 19; (with_reducible refine Calls.mono (M3 _ p9) ?_); rintro e w10 ⟨a10, c10, rfl, o10⟩; have p10 := p9.below o10.below; have x10 := x9.more o10.below; have h10 := h9.more o10.below; have r10 := r9.more o10.below)
      | (go_at_call 22; (with_reducible refine Calls.mono (RS _ _ _ o10.words) ?_); rintro e w11 ⟨a11, c11, rfl, o11⟩; have p11 := p10.below o11.below; have x11 := x10.more o11.below; have h11 := h10.more o11.below; have r11 := r10.more o11.below)
      | (go_at_call 21; (with_reducible refine Calls.mono (T1 _ p11) ?_); rintro e w12 ⟨a12, c12, rfl, o12⟩; have p12 := p11.below o12.below; have x12 := x11.more o12.below; have h12 := h11.more o12.below; have r12 := r11.more o12.below; have z12 := o11.more o12.below)
      | (go_at_call 15; (with_reducible refine Calls.mono (ref_words _ _ _ _ _ _ _ _ _ z12.words o12.words true (by simp)) ?_); rintro e w13 ⟨rfl, b13⟩; have p13 := p12.below b13; have x13 := x12.more b13; have h13 := h12.more b13; have r13 := r12.more b13)
      | (go_at_call 25; (with_reducible refine Calls.mono (ON _ _ _ h13.words) ?_); rintro e w14 ⟨a14, c14, rfl, o14⟩; have p14 := p13.below o14.below; have x14 := x13.more o14.below; have r14 := r13.more o14.below)
      | (go_at_call 18; (with_reducible refine Calls.mono (A2 _ _ _ _ _ o14.words r14.words) ?_); rintro e w15 ⟨a15, c15, rfl, o15⟩; have p15 := p14.below o15.below; have x15 := x14.more o15.below)
      | (go_at_call 21; (with_reducible refine Calls.mono (T1 _ p15) ?_); rintro e w16 ⟨a16, c16, rfl, o16⟩; have x16 := x15.more o16.below; have z16 := o15.more o16.below)
      | (go_at_call 15; (with_reducible refine Calls.mono (ref_words _ _ _ _ _ _ _ _ _ z16.words o16.words true (by simp)) ?_); rintro e w17 ⟨rfl, b17⟩; have x17 := x16.more b17))
    go_ret
    exact ⟨ret_bool (by simp), below_more b0 x17.below⟩
  · have hd : decide (val xs % 2 = 1) = true := by rw [e]; rfl
    simp only [hd] at H
    simp only [e] at A2
    generalize val xs / 2 * 2 = K1 at ON A2
    generalize val xs / 2 = K2 at H ON
    generalize val xs * val xs = K3 at M3 RS
    generalize (s + 1) * (s + 1) = K4 at M2 C2
    generalize s * s = K5 at M1 C1
    generalize s + 1 = K6 at A1 M2
    generalize val xs = K7 at RS T1 A2
    clear hd e s1 s2 hsA kX kS kS1 kA kH kH2 kO kSS kS2 LB l0
    go_enter Try.func7, Try.ntmps7
    go_wp2_with (first
      | (go_at_call 9; refine (split_awake _).mono ?_; rintro e u0 ⟨rfl, b0⟩; have p0 := P.below b0)
      | (go_at_call 22; (with_reducible refine Calls.mono (RA _ p0) ?_); rintro e w1 ⟨a1, c1, rfl, o1⟩; have p1 := p0.below o1.below; have x1 := o1.alloc (.cells #[.int .u32 1] 23); have p1' := p0.below x1.below)
      | (go_at_call 18; (with_reducible refine Calls.mono (A1 _ _ _ x1.words) ?_); rintro e w2 ⟨a2, c2, rfl, o2⟩; have p2 := p1'.below o2.below; have x2 := x1.more o2.below)
      | (go_at_call 23; (with_reducible refine Calls.mono (H _ p2) ?_); rintro e w3 ⟨a3, c3, rfl, o3⟩; have p3 := p2.below o3.below; have x3 := x2.more o3.below; have y3 := o2.more o3.below)
      | (go_at_call 24; (with_reducible refine Calls.mono (O0 _) ?_); rintro e w4 ⟨a4, c4, rfl, o4⟩; have p4 := p3.below o4.below; have x4 := x3.more o4.below; have y4 := y3.more o4.below; have h4 := o3.more o4.below)
      | (go_at_call 24; (with_reducible refine Calls.mono (O1 _) ?_); rintro e w5 ⟨a5, c5, rfl, o5⟩; have p5 := p4.below o5.below; have x5 := x4.more o5.below; have y5 := y4.more o5.below; have h5 := h4.more o5.below)
      | (go_at_call 20; (with_reducible refine Calls.mono (R1 _ _ _ x5.words) ?_); rintro e v1 ⟨rfl, rfl⟩)
      | (go_at_call 19; (with_reducible refine Calls.mono (M1 _ _ _ x5.words) ?_); rintro e w6 ⟨a6, c6, rfl, o6⟩; have p6 := p5.below o6.below; have x6 := x5.more o6.below; have y6 := y5.more o6.below; have h6 := h5.more o6.below; have r6 := o5.more o6.below)
      | (go_at_call 17; (with_reducible refine Calls.mono (C1 _ _ _ o6.words p6) ?_); rintro e w7 ⟨rfl, b7⟩; have p7 := p6.below b7; have x7 := x6.more b7; have y7 := y6.more b7; have h7 := h6.more b7; have r7 := r6.more b7)
      | (go_at_call 19; (with_reducible refine Calls.mono (M2 _ _ _ y7.words) ?_); rintro e w8 ⟨a8, c8, rfl, o8⟩; have p8 := p7.below o8.below; have x8 := x7.more o8.below; have h8 := h7.more o8.below; have r8 := r7.more o8.below)
      | (go_at_call 17; (with_reducible refine Calls.mono (C2 _ _ _ o8.words p8) ?_); rintro e w9 ⟨rfl, b9⟩; have p9 := p8.below b9; have x9 := x8.more b9; have h9 := h8.more b9; have r9 := r8.more b9)
      | (go_at_call 19; (with_reducible refine Calls.mono (M3 _ p9) ?_); rintro e w10 ⟨a10, c10, rfl, o10⟩; have p10 := p9.below o10.below; have x10 := x9.more o10.below; have h10 := h9.more o10.below; have r10 := r9.more o10.below)
      | (go_at_call 22; (with_reducible refine Calls.mono (RS _ _ _ o10.words) ?_); rintro e w11 ⟨a11, c11, rfl, o11⟩; have p11 := p10.below o11.below; have x11 := x10.more o11.below; have h11 := h10.more o11.below; have r11 := r10.more o11.below)
      | (go_at_call 21; (with_reducible refine Calls.mono (T1 _ p11) ?_); rintro e w12 ⟨a12, c12, rfl, o12⟩; have p12 := p11.below o12.below; have x12 := x11.more o12.below; have h12 := h11.more o12.below; have r12 := r11.more o12.below; have z12 := o11.more o12.below)
      | (go_at_call 15; (with_reducible refine Calls.mono (ref_words _ _ _ _ _ _ _ _ _ z12.words o12.words true (by simp)) ?_); rintro e w13 ⟨rfl, b13⟩; have p13 := p12.below b13; have x13 := x12.more b13; have h13 := h12.more b13; have r13 := r12.more b13)
      | (go_at_call 25; (with_reducible refine Calls.mono (ON _ _ _ h13.words) ?_); rintro e w14 ⟨a14, c14, rfl, o14⟩; have p14 := p13.below o14.below; have x14 := x13.more o14.below; have r14 := r13.more o14.below)
      | (go_at_call 18; (with_reducible refine Calls.mono (A2 _ _ _ _ _ o14.words r14.words) ?_); rintro e w15 ⟨a15, c15, rfl, o15⟩; have p15 := p14.below o15.below; have x15 := x14.more o15.below)
      | (go_at_call 21; (with_reducible refine Calls.mono (T1 _ p15) ?_); rintro e w16 ⟨a16, c16, rfl, o16⟩; have x16 := x15.more o16.below; have z16 := o15.more o16.below)
      | (go_at_call 15; (with_reducible refine Calls.mono (ref_words _ _ _ _ _ _ _ _ _ z16.words o16.words true (by simp)) ?_); rintro e w17 ⟨rfl, b17⟩; have x17 := x16.more b17))
    go_ret
    exact ⟨ret_bool (by simp), below_more b0 x17.below⟩

/-- What is left of numbers below a bound is below it. -/
theorem rest_lt (A D : Nat) (B : Nat) (hD : D < B) : rest A D < B := by
  unfold rest
  split
  · omega
  · exact Nat.lt_trans (Nat.mod_lt _ (by omega)) hD

set_option maxHeartbeats 4000000 in
theorem law_SplitSmall (a : Option Addr) (len cap : Nat) (zs : List Int) (x n m : Int) (w : World) (h0 : CameIn .u32 w a len cap zs) (h1 : (Lit.int .u32 x).wf = true) (h2 : (Lit.int .u64 n).wf = true) (h3 : (Lit.int .u64 m).wf = true) :
    Calls Try.prog 8 #[.slice a len cap, .int .u32 x, .int .u64 n, .int .u64 m] w fun e w' => e = .returned (.bool true) ∧ Below w.heap.size w w' := by
  obtain ⟨x0, x1⟩ := wf_u32 h1
  obtain ⟨n0, n1⟩ := wf_u64s h2
  obtain ⟨m0, m1⟩ := wf_u64s h3
  have P := came_words h0
  have hw := came_wd h0
  have lm := P.reads.2
  generalize zs.take len = xs at P hw
  clear h0 h1 h2 h3
  by_cases hf : 20 < len
  · clear P
    go_enter Try.func8, Try.ntmps8
    go_wp2_with (first
      | (go_at_call 9; refine (split_awake _).mono ?_; rintro e u0 ⟨rfl, b0⟩))
    go_ret
    exact ⟨rfl, b0⟩
  have SM := fun v (p : IsWords v (.slice a len cap) xs) => split_small_any p hw (by omega) x0 x1 _ _ rfl rfl
  have LB : ∀ v : World, IsWords (v.alloc (.cells #[.int .u32 x] 23)) (.slice (some ⟨v.heap.size, 0, none⟩) 1 1) [x] := fun v => lit_words v [x] 1 rfl (by decide)
  have DV := fun v (p : IsWords (v.alloc (.cells #[.int .u32 x] 23)) (.slice a len cap) xs) => split_div_any p hw (LB v) (wd_one x0 x1) (by omega) _ x.toNat rfl (by simp [val])
  have hr := rest_lt (val xs) x.toNat 4294967296 (by omega)
  have kN : nl n.toNat ≤ 2 := nl_le 2 _ (by omega)
  have kM : nl m.toNat ≤ 2 := nl_le 2 _ (by omega)
  have O1 := fun v => nat_of n v n0 n1
  have O2 := fun v => nat_of m v m0 m1
  have O3 := fun v => nat_of ((rest (val xs) x.toNat : Nat) : Int) v (by omega) (by omega)
  have D2 := fun v a1 c1 a2 c2 (p : IsWords v (.slice a1 (nl n.toNat) c1) (natOf n.toNat)) (q : IsWords v (.slice a2 (nl m.toNat) c2) (natOf m.toNat)) => split_div_any p (wd_natOf _) q (wd_natOf _) (by omega) _ _ (val_natOf _) (val_natOf _)
  rw [Int.toNat_natCast] at O3
  have r0 : 0 ≤ ((rest (val xs) x.toNat : Nat) : Int) := Int.natCast_nonneg _
  have r1 : ((rest (val xs) x.toNat : Nat) : Int) < 4294967296 := by omega
  have hq1 : n.toNat / m.toNat ≤ n.toNat := Nat.div_le_self _ _
  have hq2 := rest_lt n.toNat m.toNat 18446744073709551616 (by omega)
  unfold AnsDivB at DV D2
  unfold AnsSmallB at SM
  generalize decide (0 < x.toNat) = K1 at SM DV
  generalize val xs / x.toNat = K2 at SM DV
  obtain ⟨K3, hK3⟩ : ∃ K3, rest (val xs) x.toNat = K3 := ⟨_, rfl⟩
  rw [hK3] at SM DV O3 r0 r1
  obtain ⟨K4, hK4⟩ : ∃ K4 : Int, (K3 : Int) = K4 := ⟨_, rfl⟩
  rw [hK4] at SM O3 r0 r1
  clear hK3 hK4 hr LB
  have S1 := fun v a1 c1 (p : IsWords v (.slice a1 (nl (n.toNat / m.toNat)) c1) (natOf (n.toNat / m.toNat))) => nat_small' p (wd_natOf _) ((n.toNat / m.toNat : Nat) : Int) (by rw [val_natOf]) (by omega)
  have S2 := fun v a1 c1 (p : IsWords v (.slice a1 (nl (rest n.toNat m.toNat)) c1) (natOf (rest n.toNat m.toNat))) => nat_small' p (wd_natOf _) ((rest n.toNat m.toNat : Nat) : Int) (by rw [val_natOf]) (by omega)
  clear hq1 hq2
  by_cases hm : m = 0
  · subst hm
    simp only [show decide (0 < (0 : Int).toNat) = false from rfl] at D2
    generalize ((n.toNat / (0 : Int).toNat : Nat) : Int) = J1 at S1
    generalize ((rest n.toNat (0 : Int).toNat : Nat) : Int) = J2 at S2
    generalize n.toNat / (0 : Int).toNat = J3 at D2 S1
    generalize rest n.toNat (0 : Int).toNat = J4 at D2 S2
    generalize (0 : Int).toNat = J5 at D2 O2
    generalize n.toNat = J6 at D2 O1
    clear kN kM m0 m1
    go_enter Try.func8, Try.ntmps8
    go_wp2_with (first
      | (go_at_call 9; refine (split_awake _).mono ?_; rintro e u0 ⟨rfl, b0⟩; have p0 := P.below b0)
      | (go_at_call 13; (with_reducible refine Calls.mono (SM _ p0) ?_); rintro e w1 ⟨a1, c1, rfl, o1⟩; have x1 := o1.alloc (.cells #[.int .u32 x] 23); have p1 := p0.below x1.below)
      | (go_at_call 11; (with_reducible refine Calls.mono (DV _ p1) ?_); rintro e w2 ⟨a2, c2, a3, c3, rfl, o2, o3⟩; have x2 := x1.more o2.below)
      | (go_at_call 24; (with_reducible refine Calls.mono (O1 _) ?_); rintro e w3 ⟨a4, c4, rfl, o4⟩; have x3 := x2.more o4.below; have y3 := o2.more o4.below; have z3 := o3.more o4.below)
      | (go_at_call 24; (with_reducible refine Calls.mono (O2 _) ?_); rintro e w4 ⟨a5, c5, rfl, o5⟩; have x4 := x3.more o5.below; have y4 := y3.more o5.below; have z4 := z3.more o5.below; have q4 := o4.more o5.below)
      | (go_at_call 11; (with_reducible refine Calls.mono (D2 _ _ _ _ _ q4.words o5.words) ?_); rintro e w5 ⟨a6, c6, a7, c7, rfl, o6, o7⟩; have x5 := x4.more o6.below; have y5 := y4.more o6.below; have z5 := z4.more o6.below)
      | (go_at_call 26; (with_reducible refine Calls.mono (S1 _ _ _ o6.words) ?_); rintro e v1 ⟨rfl, rfl⟩)
      | (go_at_call 26; (with_reducible refine Calls.mono (S2 _ _ _ o7.words) ?_); rintro e v1 ⟨rfl, rfl⟩)
      | (go_at_call 15; (with_reducible refine Calls.mono (ref_words _ _ _ _ _ _ _ _ _ x5.words y5.words true (by simp)) ?_); rintro e w9 ⟨rfl, b9⟩; have x9 := x5.more b9; have z9 := z5.more b9))
    go_ret
    exact ⟨ret_bool (by simp), below_more b0 x9.below⟩
  · have hd : decide (0 < m.toNat) = true := by simp; omega
    simp only [hd] at D2
    have e1 : ((n.toNat / m.toNat : Nat) : Int) = n / m := by rw [Int.natCast_ediv, Int.toNat_of_nonneg n0, Int.toNat_of_nonneg m0]
    have e2 : ((rest n.toNat m.toNat : Nat) : Int) = n % m := by
      have : rest n.toNat m.toNat = n.toNat % m.toNat := if_neg (by omega)
      rw [this, Int.natCast_emod, Int.toNat_of_nonneg n0, Int.toNat_of_nonneg m0]
    simp only [e1] at S1
    simp only [e2] at S2
    have e3 : n.tdiv m = n / m := Int.tdiv_eq_ediv_of_nonneg n0
    have e4 : n.tmod m = n % m := Int.tmod_eq_emod_of_nonneg n0
    have e5 : 0 ≤ n / m := Int.ediv_nonneg n0 m0
    have e6 : n / m ≤ n := Int.ediv_le_self _ n0
    have e7 : 0 ≤ n % m := Int.emod_nonneg _ hm
    have e8 : n % m < m := Int.emod_lt_of_pos _ (by omega)
    have hm0 : (m == 0) = false := by simpa using hm
    clear hd e1 e2
    generalize n.toNat / m.toNat = J3 at D2 S1
    generalize rest n.toNat m.toNat = J4 at D2 S2
    generalize m.toNat = J5 at D2 O2 kM
    generalize n.toNat = J6 at D2 O1 kN
    clear kN kM
    go_enter Try.func8, Try.ntmps8
    go_wp2_with (first
      | (go_at_call 9; refine (split_awake _).mono ?_; rintro e u0 ⟨rfl, b0⟩; have p0 := P.below b0)
      | (go_at_call 13; (with_reducible refine Calls.mono (SM _ p0) ?_); rintro e w1 ⟨a1, c1, rfl, o1⟩; have x1 := o1.alloc (.cells #[.int .u32 x] 23); have p1 := p0.below x1.below)
      | (go_at_call 11; (with_reducible refine Calls.mono (DV _ p1) ?_); rintro e w2 ⟨a2, c2, a3, c3, rfl, o2, o3⟩; have x2 := x1.more o2.below)
      | (go_at_call 24; (with_reducible refine Calls.mono (O1 _) ?_); rintro e w3 ⟨a4, c4, rfl, o4⟩; have x3 := x2.more o4.below; have y3 := o2.more o4.below; have z3 := o3.more o4.below)
      | (go_at_call 24; (with_reducible refine Calls.mono (O2 _) ?_); rintro e w4 ⟨a5, c5, rfl, o5⟩; have x4 := x3.more o5.below; have y4 := y3.more o5.below; have z4 := z3.more o5.below; have q4 := o4.more o5.below)
      | (go_at_call 11; (with_reducible refine Calls.mono (D2 _ _ _ _ _ q4.words o5.words) ?_); rintro e w5 ⟨a6, c6, a7, c7, rfl, o6, o7⟩; have x5 := x4.more o6.below; have y5 := y4.more o6.below; have z5 := z4.more o6.below)
      | (go_at_call 26; (with_reducible refine Calls.mono (S1 _ _ _ o6.words) ?_); rintro e v1 ⟨rfl, rfl⟩)
      | (go_at_call 26; (with_reducible refine Calls.mono (S2 _ _ _ o7.words) ?_); rintro e v1 ⟨rfl, rfl⟩)
      | (go_at_call 15; (with_reducible refine Calls.mono (ref_words _ _ _ _ _ _ _ _ _ x5.words y5.words true (by simp)) ?_); rintro e w9 ⟨rfl, b9⟩; have x9 := x5.more b9; have z9 := z5.more b9)
      | (go_at_call 24; (with_reducible refine Calls.mono (O3 _) ?_); rintro e w10 ⟨a10, c10, rfl, o10⟩; have x10 := x9.more o10.below; have z10 := z9.more o10.below)
      | (go_at_call 15; (with_reducible refine Calls.mono (ref_words _ _ _ _ _ _ _ _ _ o10.words z10.words true (by simp)) ?_); rintro e w11 ⟨rfl, b11⟩; have x11 := x10.more b11))
    go_ret
    exact ⟨ret_bool (by simp), below_more b0 x11.below⟩
end Go.Proofs.Ytapfoefeplmgnaa
