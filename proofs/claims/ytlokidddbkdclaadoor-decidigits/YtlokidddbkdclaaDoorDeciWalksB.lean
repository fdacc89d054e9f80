/-
  The walks of the statements over digits (DeciJoins, DeciDigits, DeciLong), for whatever package deci keeps its three contracts: they return true; memory that was there stays.
-/
import Derived.Test.YtlokidddbkdclaaDoorDeciWalks
import Derived.Test.YtlokidddbkdclaaDoorTimesMore
namespace Go.Proofs.YtlokidddbkdclaaDoor
open Go.RowKit

/-- Pow of ten, in the numbers' own words. -/
theorem pow_ten (v : World) (a : Option Addr) (c : Nat) (n : Int) (N : Nat) (hn : n = N) (h : IsWords v (.slice a 1 c) [10]) (hN : N ≤ 4096) :
    Calls Tryd.prog 19 #[.slice a 1 c, .int .i64 n] v (AnsOk v (10 ^ N)) := by
  subst hn
  have e : nl (val [10]) = 1 := by rw [show val [10] = 10 from by decide]; exact (nat_word1 (x := 10) (by omega) (by omega)).2
  have := times_pow a 1 c [10] N v h (wd_one (by omega) (by omega)) (by omega) (by omega) (by omega) (.inr (by rw [e]; omega))
  rwa [Int.toNat_natCast, show val [10] = 10 from by decide] at this

set_option maxHeartbeats 8000000 in
theorem walk_DeciJoins (hP : ParseOk) (hQ : PrintOk) (hD : DigitsOk) (a : Option Addr) (len cap : Nat) (zs : List Int) (b : Option Addr) (len1 cap1 : Nat) (zs1 : List Int) (w : World) (h0 : CameIn .u32 w a len cap zs) (h1 : CameIn .u32 w b len1 cap1 zs1) :
    Calls Tryd.prog 6 #[.slice a len cap, .slice b len1 cap1] w fun e w' => e = .returned (.bool true) ∧ Below w.heap.size w w' := by
  have P := came_words h0
  have hw := came_wd h0
  have Q := came_words h1
  have gw := came_wd h1
  generalize zs.take len = xs at P hw
  generalize zs1.take len1 = ys at Q gw
  clear h0 h1
  have AW := deci_awake hP hQ hD w
  by_cases hf : ¬ (len ≤ 8 ∧ len1 ≤ 8)
  case pos =>
    rcases (by omega : ¬ len ≤ 8 ∨ (len ≤ 8 ∧ ¬ len1 ≤ 8)) with hf | ⟨hf, hf2⟩
    all_goals
      clear hP hQ hD P Q
      go_enter Tryd.func6, Tryd.ntmps6
      go_wp2_with (go_at_call 9; (with_reducible refine Calls.mono AW ?_); rintro e u0 ⟨rfl, b0⟩)
      go_ret
      exact ⟨rfl, b0⟩
  case neg =>
  obtain ⟨hf1, hf2⟩ : len ≤ 8 ∧ len1 ≤ 8 := by omega
  have B1 := fun v (q : IsWords v (.slice a len cap) xs) => nat_bits' q hw (by omega) _ rfl
  rcases Nat.eq_zero_or_pos (val xs) with hz | hz
  · rw [hz, nbits_zero] at B1
    clear hP hQ hD Q hf
    go_enter Tryd.func6, Tryd.ntmps6
    go_wp2_with (first
      | (go_at_call 9; (with_reducible refine Calls.mono AW ?_); rintro e u0 ⟨rfl, b0⟩; have p0 := P.below b0)
      | (go_at_call 18; (with_reducible refine Calls.mono (B1 _ p0) ?_); rintro e v1 ⟨rfl, rfl⟩))
    go_ret
    exact ⟨rfl, b0⟩
  have hb : ((nbits (val xs) : Int) == 0) = false := by rw [nbits_pos (by omega), beq_eq_false_iff_ne]; omega
  generalize (nbits (val xs) : Int) = nb at B1 hb
  have lx : nl (val xs) ≤ 8 := nl_small hw _ (by rw [P.len]; omega)
  have ly : nl (val ys) ≤ 8 := nl_small gw _ (by rw [Q.len]; omega)
  have dx := decOf_words lx (by omega)
  have dy := decOf_words ly (by omega)
  have Q1 := fun v (p : IsWords v (.slice a len cap) xs) => hQ p hw (by omega) _ rfl
  have Q2 := fun v (p : IsWords v (.slice b len1 cap1) ys) => hQ p gw (by omega) _ rfl
  have PW := fun v a1 c1 (p : IsWords v (.slice a1 1 c1) [10]) => pow_ten v a1 c1 ((decOf (val ys)).length : Nat) (decOf (val ys)).length rfl p (by omega)
  have hsz : (⟨(decOf (val xs)).toArray⟩ ++ ⟨(decOf (val ys)).toArray⟩ : ByteArray) = ⟨(decOf (val xs) ++ decOf (val ys)).toArray⟩ := by rw [ByteArray.mk_append_mk]
  have hnum := num_append hz (decOf (val ys)) (digS_decOf _)
  have hlen : (decOf (val xs) ++ decOf (val ys)).length ≤ 1000 := by rw [List.length_append]; omega
  have P1 := fun v => hP ⟨(decOf (val xs) ++ decOf (val ys)).toArray⟩ v (by show (decOf (val xs) ++ decOf (val ys)).toArray.size ≤ maxLen; unfold maxLen; rw [List.size_toArray]; omega)
  have e1 : pnum (ByteArray.mk (decOf (val xs) ++ decOf (val ys)).toArray).data.toList = val xs * 10 ^ (decOf (val ys)).length + val ys := (pnum_ok (by simpa using hlen) hnum).trans (by rw [valD_append, valD_decOf, valD_decOf])
  have e2 : perr (ByteArray.mk (decOf (val xs) ++ decOf (val ys)).toArray).data.toList = 0 := perr_ok (by simpa using hlen) hnum
  rw [e1, e2, ← hsz] at P1
  have lp := nl_ten (decOf (val ys)).length
  have lm := nl_mul (val xs) (10 ^ (decOf (val ys)).length)
  have M1 := fun v a1 c1 (p : IsWords v (.slice a len cap) xs) (q : IsWords v (.slice a1 (nl (10 ^ (decOf (val ys)).length)) c1) (natOf (10 ^ (decOf (val ys)).length))) => times_mul' p hw q (wd_natOf _) (by omega) (by omega) (val xs * 10 ^ (decOf (val ys)).length) (by rw [val_natOf])
  have A1 := fun v a1 c1 (p : IsWords v (.slice a1 (nl (val xs * 10 ^ (decOf (val ys)).length)) c1) (natOf (val xs * 10 ^ (decOf (val ys)).length))) (q : IsWords v (.slice b len1 cap1) ys) => nat_add' p (wd_natOf _) q gw (by omega) (by omega) (val xs * 10 ^ (decOf (val ys)).length + val ys) (by rw [val_natOf])
  have C1 := fun v a1 c1 a2 c2 (p : IsWords v (.slice a1 (nl (val xs * 10 ^ (decOf (val ys)).length + val ys)) c1) (natOf (val xs * 10 ^ (decOf (val ys)).length + val ys))) (q : IsWords v (.slice a2 (nl (val xs * 10 ^ (decOf (val ys)).length + val ys)) c2) (natOf (val xs * 10 ^ (decOf (val ys)).length + val ys))) => nat_cmp' p (wd_natOf _) q (wd_natOf _) 0 (sgn_eq rfl)
  unfold AnsP at P1
  unfold AnsOk at PW
  unfold Ans at M1 A1
  have hadd : (decOf (val xs)).length + (decOf (val ys)).length ≤ 1000 := by rwa [List.length_append] at hlen
  clear hsz e1 e2 hnum hlen dx lx ly lm lp hz hP hQ hD hf
  generalize val xs * 10 ^ (decOf (val ys)).length + val ys = K1 at P1 A1 C1
  generalize val xs * 10 ^ (decOf (val ys)).length = K2 at M1 A1
  generalize 10 ^ (decOf (val ys)).length = K3 at M1 PW
  generalize decOf (val xs) = l at Q1 P1 hadd
  generalize decOf (val ys) = m at Q2 P1 PW hadd dy
  have LT := fun v => lit_words v [10] 1 rfl (by decide)
  simp only [List.map_cons, List.map_nil] at LT
  go_enter Tryd.func6, Tryd.ntmps6
  go_wp2_with (first
    | (go_at_call 9; (with_reducible refine Calls.mono AW ?_); rintro e u0 ⟨rfl, b0⟩; have p0 := P.below b0; have q0 := Q.below b0)
    | (go_at_call 18; (with_reducible refine Calls.mono (B1 _ p0) ?_); rintro e v1 ⟨rfl, rfl⟩)
    | (go_at_call 14; (with_reducible refine Calls.mono (Q1 _ p0) ?_); rintro e w1 ⟨rfl, b1⟩; have p1 := p0.below b1; have q1 := q0.below b1)
    | (go_at_call 14; (with_reducible refine Calls.mono (Q2 _ q1) ?_); rintro e w2 ⟨rfl, b2⟩; have p2 := p1.below b2; have q2 := q1.below b2; have b2' := below_more (below_more b0 b1) b2)
    | (go_at_call 19; (with_reducible refine Calls.mono (PW _ _ _ (LT w2)) ?_); rintro e w3 ⟨a3, c3, rfl, o3⟩; have z3 := below_more ((Below.refl w2.heap.size w2).alloc (Nat.le_refl _) (.cells #[.int .u32 10] 36)) o3.below; have p3 := p2.below z3; have q3 := q2.below z3; have b3 := below_more b2' z3)
    | (go_at_call 10; (with_reducible refine Calls.mono (P1 _) ?_); rintro e w4 ⟨a4, c4, rfl, o4⟩; have p4 := p3.below o4.below; have q4 := q3.below o4.below; have r4 := o3.more o4.below)
    | (go_at_call 21; (with_reducible refine Calls.mono (M1 _ _ _ p4 r4.words) ?_); rintro e w5 ⟨a5, c5, rfl, o5⟩; have q5 := q4.below o5.below; have s5 := o4.more o5.below)
    | (go_at_call 20; (with_reducible refine Calls.mono (A1 _ _ _ o5.words q5) ?_); rintro e w6 ⟨a6, c6, rfl, o6⟩; have s6 := s5.more o6.below)
    | (go_at_call 16; (with_reducible refine Calls.mono (C1 _ _ _ _ _ s6.words o6.words) ?_); rintro e w7 ⟨rfl, b7⟩; have s7 := s6.more b7))
  go_ret
  exact ⟨rfl, below_more b3 s7.below⟩

set_option maxHeartbeats 8000000 in
theorem walk_DeciDigits (hP : ParseOk) (hQ : PrintOk) (hD : DigitsOk) (a : Option Addr) (len cap : Nat) (zs : List Int) (b : Option Addr) (len1 cap1 : Nat) (zs1 : List Int) (w : World) (h0 : CameIn .u32 w a len cap zs) (h1 : CameIn .u32 w b len1 cap1 zs1) :
    Calls Tryd.prog 7 #[.slice a len cap, .slice b len1 cap1] w fun e w' => e = .returned (.bool true) ∧ Below w.heap.size w w' := by
  have P := came_words h0
  have hw := came_wd h0
  have Q := came_words h1
  have gw := came_wd h1
  generalize zs.take len = xs at P hw
  generalize zs1.take len1 = ys at Q gw
  clear h0 h1
  have AW := deci_awake hP hQ hD w
  by_cases hf : ¬ (len ≤ 8 ∧ len1 ≤ 8)
  case pos =>
    rcases (by omega : ¬ len ≤ 8 ∨ (len ≤ 8 ∧ ¬ len1 ≤ 8)) with hf | ⟨hf, hf2⟩
    all_goals
      clear hP hQ hD P Q
      go_enter Tryd.func7, Tryd.ntmps7
      go_wp2_with (go_at_call 9; (with_reducible refine Calls.mono AW ?_); rintro e u0 ⟨rfl, b0⟩)
      go_ret
      exact ⟨rfl, b0⟩
  case neg =>
  obtain ⟨hf1, hf2⟩ : len ≤ 8 ∧ len1 ≤ 8 := by omega
  have lx : nl (val xs) ≤ 8 := nl_small hw _ (by rw [P.len]; omega)
  have dx := decOf_words lx (by omega)
  have dp := decOf_len_pos (val xs)
  have hlt := lt_decOf (val xs)
  have hge := ge_decOf (val xs)
  have D1 := fun v (p : IsWords v (.slice a len cap) xs) => hD p hw (by omega) _ rfl
  have D2 := fun v (p : IsWords v (.slice b len1 cap1) ys) => hD p gw (by omega) _ rfl
  have PW1 := fun v a1 c1 (p : IsWords v (.slice a1 1 c1) [10]) => pow_ten v a1 c1 ((decOf (val xs)).length : Nat) (decOf (val xs)).length rfl p (by omega)
  have PW2 := fun v a1 c1 (p : IsWords v (.slice a1 1 c1) [10]) => pow_ten v a1 c1 (((decOf (val xs)).length : Nat) - 1) ((decOf (val xs)).length - 1) (by omega) p (by omega)
  have C1 := fun v (p : IsWords v (.slice a len cap) xs) (q : IsWords v (.slice b len1 cap1) ys) => nat_cmp' p hw q gw _ rfl
  have C2 := fun v a1 c1 (p : IsWords v (.slice a len cap) xs) (q : IsWords v (.slice a1 (nl (10 ^ (decOf (val xs)).length)) c1) (natOf (10 ^ (decOf (val xs)).length))) => nat_cmp' p hw q (wd_natOf _) (-1) (by rw [val_natOf]; exact sgn_lt (by omega))
  have C3 := fun v a1 c1 (p : IsWords v (.slice a len cap) xs) (q : IsWords v (.slice a1 (nl (10 ^ ((decOf (val xs)).length - 1))) c1) (natOf (10 ^ ((decOf (val xs)).length - 1)))) => nat_cmp' p hw q (wd_natOf _) (sgn (val xs) ((10 ^ ((decOf (val xs)).length - 1) : Nat) : Int)) (by rw [val_natOf])
  have h3 : 0 ≤ sgn (val xs) ((10 ^ ((decOf (val xs)).length - 1) : Nat) : Int) ∨ (decOf (val xs)).length = 1 := by
    refine hge.imp (fun h => ?_) id
    rcases Int.lt_or_eq_of_le (show ((10 ^ ((decOf (val xs)).length - 1) : Nat) : Int) ≤ val xs by omega) with h2 | h2
    · rw [sgn_gt h2]; omega
    · rw [sgn_eq h2.symm]; omega
  have h4 : 0 < sgn (val xs) (val ys) ∨ (sgn (val xs) (val ys) ≤ 0 ∧ (decOf (val xs)).length ≤ (decOf (val ys)).length) := by
    rcases Nat.lt_or_ge (val ys) (val xs) with h | h
    · left; rw [sgn_gt (by omega)]; omega
    · right
      refine ⟨?_, decOf_len_mono h⟩
      rcases Nat.lt_or_eq_of_le h with h2 | h2
      · rw [sgn_lt (by omega)]; omega
      · rw [sgn_eq (by omega)]; omega
  generalize sgn (val xs) ((10 ^ ((decOf (val xs)).length - 1) : Nat) : Int) = k3 at C3 h3
  generalize sgn (val xs) (val ys) = k4 at C1 h4
  generalize (decOf (val ys)).length = n2 at D2 h4
  unfold AnsOk at PW1 PW2
  generalize 10 ^ ((decOf (val xs)).length - 1) = K1 at PW2 C3 hge
  generalize 10 ^ (decOf (val xs)).length = K2 at PW1 C2 hlt
  generalize (decOf (val xs)).length = n at D1 PW1 PW2 h3 h4 dx dp
  have LT := fun v => lit_words v [10] 1 rfl (by decide)
  simp only [List.map_cons, List.map_nil] at LT
  clear hP hQ hD hge hlt lx hf
  rcases h4 with h4 | ⟨h4, h5⟩
  all_goals
    rcases (by rcases (by omega : 0 ≤ k3 ∨ (¬ 0 ≤ k3 ∧ n = 1)) with h | ⟨h, h'⟩
               · exact .inl h
               · exact .inr ⟨h, by rw [h']; rfl⟩ : 0 ≤ k3 ∨ (¬ 0 ≤ k3 ∧ ((n : Int) == 1) = true)) with h3 | ⟨h3, h6⟩
    all_goals
      go_enter Tryd.func7, Tryd.ntmps7
      go_wp2_with (first
        | (go_at_call 9; (with_reducible refine Calls.mono AW ?_); rintro e u0 ⟨rfl, b0⟩; have p0 := P.below b0; have q0 := Q.below b0)
        | (go_at_call 15; (with_reducible refine Calls.mono (D1 _ p0) ?_); rintro e w1 ⟨rfl, b1⟩; have p1 := p0.below b1; have q1 := q0.below b1; have e1 := below_more b0 b1)
        | (go_at_call 19; (with_reducible refine Calls.mono (PW1 _ _ _ (LT w1)) ?_); rintro e w2 ⟨a2, c2, rfl, o2⟩; have z2 := below_more ((Below.refl w1.heap.size w1).alloc (Nat.le_refl _) (.cells #[.int .u32 10] 36)) o2.below; have p2 := p1.below z2; have q2 := q1.below z2; have e2 := below_more e1 z2)
        | (go_at_call 19; (with_reducible refine Calls.mono (PW2 _ _ _ (LT w2)) ?_); rintro e w3 ⟨a3, c3, rfl, o3⟩; have z3 := below_more ((Below.refl w2.heap.size w2).alloc (Nat.le_refl _) (.cells #[.int .u32 10] 36)) o3.below; have p3 := p2.below z3; have q3 := q2.below z3; have e3 := below_more e2 z3; have x3 := o2.more z3; have y3 := o3)
        | (go_at_call 16; (with_reducible refine Calls.mono (C1 _ p3 q3) ?_); rintro e w4 ⟨rfl, b4⟩; replace p3 := p3.below b4; replace q3 := q3.below b4; replace e3 := below_more e3 b4; replace x3 := x3.more b4; replace y3 := y3.more b4)
        | (go_at_call 15; (with_reducible refine Calls.mono (D2 _ q3) ?_); rintro e w5 ⟨rfl, b5⟩; replace p3 := p3.below b5; replace e3 := below_more e3 b5; replace x3 := x3.more b5; replace y3 := y3.more b5)
        | (go_at_call 16; (with_reducible refine Calls.mono (C2 _ _ _ p3 x3.words) ?_); rintro e w6 ⟨rfl, b6⟩; replace p3 := p3.below b6; replace e3 := below_more e3 b6; replace y3 := y3.more b6)
        | (go_at_call 16; (with_reducible refine Calls.mono (C3 _ _ _ p3 y3.words) ?_); rintro e w7 ⟨rfl, b7⟩; replace e3 := below_more e3 b7))
      go_ret
      exact ⟨rfl, e3⟩

theorem rep_snoc (c : UInt8) (i : Nat) : List.replicate i c ++ [c] = List.replicate (i + 1) c := by rw [List.replicate_succ']

theorem rep_num {c : UInt8} (n : Nat) (h : 49 ≤ c.toNat) (h1 : c.toNat ≤ 57) (hn : 0 < n) : Num (List.replicate n c) := by
  refine ⟨by simp; omega, fun x hx => ?_, fun e => ?_⟩
  · rw [List.eq_of_mem_replicate hx]; omega
  · match n, hn with
    | n + 1, _ =>
      rw [List.replicate_succ, List.head?_cons] at e
      have := congrArg UInt8.toNat (Option.some.inj e)
      have e2 : (48 : UInt8).toNat = 48 := rfl
      omega

set_option maxHeartbeats 8000000 in
theorem walk_DeciLong (hP : ParseOk) (hQ : PrintOk) (hD : DigitsOk) (m d : Int) (w : World) (h0 : (Lit.int .u8 m).wf = true) (h1 : (Lit.int .u8 d).wf = true) :
    Calls Tryd.prog 8 #[.int .u8 m, .int .u8 d] w fun e w' => e = .returned (.bool true) ∧ Below w.heap.size w w' := by
  obtain ⟨m0, m1⟩ := wf_u8 h0
  obtain ⟨d0, d1⟩ := wf_u8 h1
  have AW := deci_awake hP hQ hD w
  obtain ⟨t, ht, t0, t1⟩ : ∃ t : Nat, m % 10 = (t : Int) ∧ 0 ≤ t ∧ t < 10 := ⟨(m % 10).toNat, by omega, by omega, by omega⟩
  obtain ⟨x, hx, x0, x1⟩ : ∃ x : Int, Int.tmod d 9 = x ∧ 0 ≤ x ∧ x < 9 := ⟨d % 9, Int.tmod_eq_emod_of_nonneg d0, by omega, by omega⟩
  obtain ⟨c, hc, c0, c1⟩ : ∃ c : UInt8, (c.toNat : Int) = 49 + x ∧ 49 ≤ c.toNat ∧ c.toNat ≤ 57 := by
    refine ⟨UInt8.ofNat (49 + x.toNat), ?_, ?_, ?_⟩ <;> simp <;> omega
  have hm : Int.tmod m 10 = (t : Int) := by rw [Int.tmod_eq_emod_of_nonneg m0]; exact ht
  have CV := fun v => conv_byte1 v c (49 + x) hc
  have HC : Hid (49 ≤ c.toNat ∧ c.toNat ≤ 57) := ⟨c0, c1⟩
  clear h0 h1 hc c0 c1 ht t0
  go_enter Tryd.func8, Tryd.ntmps8
  go_wp2_with (go_at_call 9; (with_reducible refine Calls.mono AW ?_); rintro e u0 ⟨rfl, b0⟩)
  clear AW hm
  go_loopg [7, 8] (995 + t) (fun k s7 s8 v => ∃ i : Nat, i + k = 995 + t ∧ s7 = .string ⟨(List.replicate i c).toArray⟩ ∧ s8 = .int .i64 i ∧ Below w.heap.size w v)
  case atStart => exact ⟨0, by omega, rfl, rfl, b0⟩
  case round =>
    obtain ⟨i, hi, rfl, rfl, bv⟩ := hrel
    clear b0
    cases gk with
    | succ k =>
      have hlt : (i : Int) < 995 + t := by omega
      have HI : Hid (i + (k + 1) = 995 + t) := hi
      have hsz : (i : Int) + 1 ≤ 9223372036854775807 := by omega
      have hrs := rep_snoc c i
      have hap : (⟨(List.replicate i c).toArray⟩ ++ ⟨#[c]⟩ : ByteArray) = ⟨(List.replicate (i + 1) c).toArray⟩ := by
        rw [ByteArray.mk_append_mk, ← hrs]
      have HA : Hid ((⟨(List.replicate i c).toArray⟩ ++ ⟨#[c]⟩ : ByteArray) = ⟨(List.replicate (i + 1) c).toArray⟩) := hap
      have hl : (List.replicate i c).length = i := by simp
      clear hi hrs hap
      generalize List.replicate i c = l at hl HA
      have hls : (l.length : Int) + 1 ≤ 9223372036854775807 := by omega
      clear hl
      go_wp2
      have hi := HI.out
      go_roundg k
      case measure => omega
      case rel => exact ⟨i + 1, by omega, by rw [← HA.out], by go_num, bv.alloc bv.size _⟩
    | zero =>
      obtain rfl : i = 995 + t := by omega
      have hsl : (List.replicate (995 + t) c).length = 995 + t := by simp
      have hnum := rep_num (995 + t) HC.out.1 HC.out.2 (by omega)
      have P1 := fun v => hP ⟨(List.replicate (995 + t) c).toArray⟩ v (by show (List.replicate (995 + t) c).toArray.size ≤ maxLen; unfold maxLen; rw [List.size_toArray]; omega)
      rw [show (ByteArray.mk (List.replicate (995 + t) c).toArray).data.toList = List.replicate (995 + t) c from by simp] at P1
      have b3 : ¬ ((995 + t : Nat) : Int) < 995 + t := by omega
      unfold AnsP at P1
      rcases Nat.lt_or_ge 1000 (995 + t) with hl | hl
      · rw [pnum_long (by omega), perr_long (by omega)] at P1
        simp only [nl_zero] at P1
        have hl' : (1000 : Int) < 995 + t := by omega
        generalize List.replicate (995 + t) c = l at P1
        clear hP hQ hD hnum hsl hi
        go_wp2_with (go_at_call 10; (with_reducible refine Calls.mono (P1 _) ?_); rintro e w4 ⟨a4, c4, rfl, o4⟩)
        go_ret
        exact ⟨rfl, below_more bv o4.below⟩
      · have lv : nl (valD (List.replicate (995 + t) c)) ≤ 2000 := Nat.le_trans (nl_digits hnum.2.1) (by omega)
        rw [pnum_ok (by omega) hnum, perr_ok (by omega) hnum] at P1
        have Q1 := fun v a1 c1 (p : IsWords v (.slice a1 (nl (valD (List.replicate (995 + t) c))) c1) (natOf (valD (List.replicate (995 + t) c)))) => hQ p (wd_natOf _) (by omega) _ (val_natOf _)
        rw [decOf_valD hnum] at Q1
        have hl' : ¬ (1000 : Int) < 995 + t := by omega
        generalize valD (List.replicate (995 + t) c) = K at P1 Q1 lv
        generalize List.replicate (995 + t) c = l at P1 Q1
        clear hP hQ hD hnum hsl hi lv
        go_wp2_with (first
          | (go_at_call 10; (with_reducible refine Calls.mono (P1 _) ?_); rintro e w4 ⟨a4, c4, rfl, o4⟩)
          | (go_at_call 14; (with_reducible refine Calls.mono (Q1 _ _ _ o4.words) ?_); rintro e w5 ⟨rfl, b5⟩))
        go_ret
        exact ⟨rfl, below_more bv (o4.more b5).below⟩
end Go.Proofs.YtlokidddbkdclaaDoor
