/-
  Contracts of the document's own answers of layer 5 (package talwegref05: Gcd, Lowest, Lcm), for every two lists of up to three thousand words: as numbers; memory that was there stays, and what is answered is the call's own.
-/
import Derived.Test.YtpcfelknjcggiaaCommonRef
namespace Go.Proofs.Ytpcfelknjcggiaa
open Go.RowKit

theorem odd_co {a : Nat} (h : a % 2 = 1) (j : Nat) : Nat.Coprime (2 ^ j) a := by
  refine (Nat.Coprime.pow_right j ?_).symm
  unfold Nat.Coprime; rw [Nat.gcd_comm, Nat.gcd_rec, h]; rfl

theorem gcd_twos {A1 B1 n k : Nat} (ha : A1 % 2 = 1) (h : n ≤ k) : Nat.gcd (A1 * 2 ^ n) (B1 * 2 ^ k) = Nat.gcd A1 B1 * 2 ^ n := by
  rw [show B1 * 2 ^ k = B1 * 2 ^ (k - n) * 2 ^ n by rw [Nat.mul_assoc, ← Nat.pow_add, Nat.sub_add_cancel h], Nat.gcd_mul_right, Nat.Coprime.gcd_mul_right_cancel_right _ (odd_co ha _)]

theorem gcd_down {X Y D j : Nat} (hD : D * 2 ^ j = X - Y) (h : Y ≤ X) (hy : Y % 2 = 1) : Nat.gcd D Y = Nat.gcd X Y := by
  rw [← Nat.gcd_sub_self_left h, ← hD, Nat.Coprime.gcd_mul_right_cancel _ (odd_co hy _)]

theorem odd_less {X Y D j : Nat} (hD : D * 2 ^ j = X - Y) : D ≤ X - Y := by
  rw [← hD]; exact Nat.le_mul_of_pos_right _ (Nat.pow_pos (by omega))

set_option maxHeartbeats 4000000 in
theorem ref_gcd {a : Option Addr} {m c : Nat} {xs : List Int} {b : Option Addr} {m' d : Nat} {ys : List Int} {w : World} (h : IsWords w (.slice a m c) xs) (hx : Wd xs) (k : IsWords w (.slice b m' d) ys) (hy : Wd ys) (hm : m ≤ 3000) (hm' : m' ≤ 3000) (A B : Nat) (hA : val xs = A) (hB : val ys = B) :
    Calls Try.prog 10 #[.slice a m c, .slice b m' d] w (Ans w (Nat.gcd A B)) := by
  have T1 := ref_trim a m c xs w h hx (by omega)
  have T2 := fun v (hb : Below w.heap.size w v) => ref_trim b m' d ys v (k.below hb) hy (by omega)
  have lA : nl A ≤ 3000 := by rw [← hA]; exact nl_small hx _ (by rw [h.len]; exact hm)
  have lB : nl B ≤ 3000 := by rw [← hB]; exact nl_small hy _ (by rw [k.len]; exact hm')
  rw [hA] at T1
  simp only [hB] at T2
  unfold Ans at T1 T2 ⊢
  clear h k hx hy hm hm' hA hB
  rcases Nat.eq_zero_or_pos A with h0 | h0
  · subst h0
    rw [Nat.gcd_zero_left]
    simp only [nl_zero] at T1
    clear lA lB
    go_enter Try.func10, Try.ntmps10
    go_wp2_with (first
      | (go_at_call 24; (with_reducible refine Calls.mono T1 ?_); rintro e w1 ⟨a1, c1, rfl, o1⟩)
      | (go_at_call 24; (with_reducible refine Calls.mono (T2 w1 o1.below) ?_); rintro e w2 ⟨a2, c2, rfl, o2⟩))
    go_ret
    exact ⟨_, _, rfl, o2.outer o1.below⟩
  have hA0 : ((nl A : Int) == 0) = false := by have := nl_pos h0; simp; omega
  rcases Nat.eq_zero_or_pos B with g0 | g0
  · subst g0
    rw [Nat.gcd_zero_right]
    simp only [nl_zero] at T2
    clear lA lB h0
    go_enter Try.func10, Try.ntmps10
    go_wp2_with (first
      | (go_at_call 24; (with_reducible refine Calls.mono T1 ?_); rintro e w1 ⟨a1, c1, rfl, o1⟩)
      | (go_at_call 24; (with_reducible refine Calls.mono (T2 w1 o1.below) ?_); rintro e w2 ⟨a2, c2, rfl, o2⟩))
    go_ret
    exact ⟨_, _, rfl, o1.more o2.below⟩
  have hB0 : ((nl B : Int) == 0) = false := by have := nl_pos g0; simp; omega
  have D1 := fun v a1 c1 (o : Own w v (.slice a1 (nl A) c1) (nl A) (natOf A)) => ref_odd w a1 c1 A v o h0 lA
  have D2 := fun v a1 c1 (o : Own w v (.slice a1 (nl B) c1) (nl B) (natOf B)) => ref_odd w a1 c1 B v o g0 lB
  have HL : Hid (nl A ≤ 3000 ∧ nl B ≤ 3000) := ⟨lA, lB⟩
  clear lA lB h0 g0
  go_enter Try.func10, Try.ntmps10
  go_wp2_with (first
    | (go_at_call 24; (with_reducible refine Calls.mono T1 ?_); rintro e w1 ⟨a1, c1, rfl, o1⟩)
    | (go_at_call 24; (with_reducible refine Calls.mono (T2 w1 o1.below) ?_); rintro e w2 ⟨a2, c2, rfl, o2⟩; have p2 := o1.more o2.below; have q2 := o2.outer o1.below)
    | (go_at_call 25; (with_reducible refine Calls.mono (D1 w2 _ _ p2) ?_); rintro e w3 ⟨A1, n, a3, c3, rfl, o3, b3, e3, f3, n3⟩; have q3 := q2.more b3; have E3 : Hid (A1 * 2 ^ n = A) := e3; have F3 : Hid (A1 % 2 = 1) := f3; clear e3 f3 D1)
    | (go_at_call 25; (with_reducible refine Calls.mono (D2 w3 _ _ q3) ?_); rintro e w4 ⟨B1, k, a4, c4, rfl, o4, b4, e4, f4, n4⟩; have p4 := o3.more b4; have E4 : Hid (B1 * 2 ^ k = B) := e4; have F4 : Hid (B1 % 2 = 1) := f4; clear e4 f4 D2))
  have HS : Hid (nl A1 ≤ 3000 ∧ nl B1 ≤ 3000) := by
    refine ⟨Nat.le_trans (nl_mono ?_) HL.out.1, Nat.le_trans (nl_mono ?_) HL.out.2⟩
    · rw [← E3.out]; exact Nat.le_mul_of_pos_right _ (Nat.pow_pos (by omega))
    · rw [← E4.out]; exact Nat.le_mul_of_pos_right _ (Nat.pow_pos (by omega))
  clear o1 o2 o3 p2 q2 q3 b3 b4 T1 T2 HL hA0 hB0
  go_loopg [5, 6, 9] (A1 + B1) (fun g s5 s6 s9 v => ∃ (X Y : Nat) (a5 : Option Addr) (c5 : Nat) (a6 : Option Addr) (c6 : Nat), g = X + Y ∧ s5 = .slice a5 (nl X) c5 ∧ s6 = .slice a6 (nl Y) c6 ∧ Own w v (.slice a5 (nl X) c5) (nl X) (natOf X) ∧ Own w v (.slice a6 (nl Y) c6) (nl Y) (natOf Y) ∧ X % 2 = 1 ∧ Y % 2 = 1 ∧ Nat.gcd X Y = Nat.gcd A1 B1 ∧ nl X ≤ 3000 ∧ nl Y ≤ 3000)
  case atStart => exact ⟨A1, B1, _, _, _, _, rfl, rfl, rfl, p4, o4, F3.out, F4.out, rfl, HS.out.1, HS.out.2⟩
  case round =>
    obtain ⟨X, Y, a5, c5, a6, c6, rfl, rfl, rfl, oX, oY, oddX, oddY, hg, lX, lY⟩ := hrel
    clear p4 o4 HS
    have C := fun v (p : IsWords v (.slice a5 (nl X) c5) (natOf X)) (q : IsWords v (.slice a6 (nl Y) c6) (natOf Y)) => ref_cmp _ _ _ _ _ _ _ _ v p (wd_natOf X) q (wd_natOf Y) (by omega) (by omega)
    simp only [val_natOf] at C
    have HG : Hid (Nat.gcd X Y = Nat.gcd A1 B1) := hg
    have HX : Hid (X % 2 = 1 ∧ nl X ≤ 3000) := ⟨oddX, lX⟩
    have HY : Hid (Y % 2 = 1 ∧ nl Y ≤ 3000) := ⟨oddY, lY⟩
    clear hg oddX oddY
    rcases Nat.lt_trichotomy X Y with hlt | rfl | hlt
    · rw [sgn_lt (by omega)] at C
      have S := fun v (p : IsWords v (.slice a5 (nl X) c5) (natOf X)) (q : IsWords v (.slice a6 (nl Y) c6) (natOf Y)) => ref_nsub _ _ _ _ _ _ _ _ v q (wd_natOf Y) p (wd_natOf X) (by omega) (by omega) (by rw [val_natOf, val_natOf]; omega)
      simp only [val_natOf] at S
      unfold AnsOk at S
      have O := fun v a1 c1 (o : Own w v (.slice a1 (nl (Y - X)) c1) (nl (Y - X)) (natOf (Y - X))) => ref_odd w a1 c1 (Y - X) v o (by omega) (Nat.le_trans (nl_mono (by omega)) lY)
      have HD : Hid (X < Y ∧ nl (Y - X) ≤ 3000) := ⟨hlt, Nat.le_trans (nl_mono (by omega)) lY⟩
      clear lX lY hlt
      generalize hZ : Y - X = Z at S O HD
      have HZ : Hid (Y - X = Z) := hZ
      clear hZ
      go_wp2_with (first
        | (go_at_call 26; (with_reducible refine Calls.mono (C _ oX.words oY.words) ?_); rintro e w5 ⟨rfl, rfl⟩)
        | (go_at_call 27; (with_reducible refine Calls.mono (S _ oX.words oY.words) ?_); rintro e w6 ⟨a7, c7, rfl, o7⟩; have o7' := o7.outer oX.below)
        | (go_at_call 25; (with_reducible refine Calls.mono (O w6 _ _ o7') ?_); rintro e w7 ⟨D, j, a8, c8, rfl, o8, b8, e8, f8, n8⟩; have E8 : Hid (D * 2 ^ j = Z) := e8; have F8 : Hid (D % 2 = 1) := f8; clear e8 f8))
      have E9 : D * 2 ^ j = Y - X := by rw [HZ.out]; exact E8.out
      have h9 := odd_less E9
      have h10 := HD.out.1
      go_roundg (D + X)
      case measure => have := HX.out.1; omega
      case rel => exact ⟨D, X, _, _, _, _, rfl, rfl, rfl, o8, (oX.more o7.below).more b8, F8.out, HX.out.1, by rw [gcd_down E9 (by omega) HX.out.1, Nat.gcd_comm]; exact HG.out, Nat.le_trans (nl_mono (by omega)) HY.out.2, HX.out.2⟩
    · rw [sgn_eq rfl] at C
      have SH := fun v (s : Nat) (hs : s ≤ 96000) (p : IsWords v (.slice a5 (nl X) c5) (natOf X)) => ref_tshift a5 (nl X) c5 (natOf X) s v p (wd_natOf X) (by omega) s (.inr ⟨by omega, by omega, rfl⟩)
      simp only [val_natOf, Int.toNat_natCast] at SH
      unfold Ans at SH
      have hG := HG.out
      rw [Nat.gcd_self] at hG
      rcases Nat.lt_or_ge k n with hnk | hnk
      case' inl =>
        have SN := fun v => SH v k n4
        have HE : Hid (X * 2 ^ k = Nat.gcd A B) := by show _ = _; rw [← E3.out, ← E4.out, Nat.gcd_comm, gcd_twos F4.out (by omega), Nat.gcd_comm, hG]
      case' inr =>
        have SN := fun v => SH v n n3
        have HE : Hid (X * 2 ^ n = Nat.gcd A B) := by show _ = _; rw [← E3.out, ← E4.out, gcd_twos F3.out hnk, hG]
      all_goals
        clear SH hG lX lY n3 n4
        go_wp2_with (first
          | (go_at_call 26; (with_reducible refine Calls.mono (C _ oX.words oY.words) ?_); rintro e w5 ⟨rfl, rfl⟩)
          | (go_at_call 28; (with_reducible refine Calls.mono (SN _ oX.words) ?_); rintro e w6 ⟨a7, c7, rfl, o7⟩))
        rw [HE.out] at o7
        go_ret
        exact ⟨_, _, by rw [HE.out]; rfl, o7.outer oX.below⟩
    · rw [sgn_gt (by omega)] at C
      have S := fun v (p : IsWords v (.slice a5 (nl X) c5) (natOf X)) (q : IsWords v (.slice a6 (nl Y) c6) (natOf Y)) => ref_nsub _ _ _ _ _ _ _ _ v p (wd_natOf X) q (wd_natOf Y) (by omega) (by omega) (by rw [val_natOf, val_natOf]; omega)
      simp only [val_natOf] at S
      unfold AnsOk at S
      have O := fun v a1 c1 (o : Own w v (.slice a1 (nl (X - Y)) c1) (nl (X - Y)) (natOf (X - Y))) => ref_odd w a1 c1 (X - Y) v o (by omega) (Nat.le_trans (nl_mono (by omega)) lX)
      have HD : Hid (Y < X ∧ nl (X - Y) ≤ 3000) := ⟨hlt, Nat.le_trans (nl_mono (by omega)) lX⟩
      clear lX lY hlt
      generalize hZ : X - Y = Z at S O HD
      have HZ : Hid (X - Y = Z) := hZ
      clear hZ
      go_wp2_with (first
        | (go_at_call 26; (with_reducible refine Calls.mono (C _ oX.words oY.words) ?_); rintro e w5 ⟨rfl, rfl⟩)
        | (go_at_call 27; (with_reducible refine Calls.mono (S _ oX.words oY.words) ?_); rintro e w6 ⟨a7, c7, rfl, o7⟩; have o7' := o7.outer oX.below)
        | (go_at_call 25; (with_reducible refine Calls.mono (O w6 _ _ o7') ?_); rintro e w7 ⟨D, j, a8, c8, rfl, o8, b8, e8, f8, n8⟩; have E8 : Hid (D * 2 ^ j = Z) := e8; have F8 : Hid (D % 2 = 1) := f8; clear e8 f8))
      have E9 : D * 2 ^ j = X - Y := by rw [HZ.out]; exact E8.out
      have h9 := odd_less E9
      have h10 := HD.out.1
      go_roundg (D + Y)
      case measure => have := HY.out.1; omega
      case rel => exact ⟨D, Y, _, _, _, _, rfl, rfl, rfl, o8, (oY.more o7.below).more b8, F8.out, HY.out.1, by rw [gcd_down E9 (by omega) HY.out.1]; exact HG.out, Nat.le_trans (nl_mono (by omega)) HX.out.2, HY.out.2⟩

theorem ref_lowest {a : Option Addr} {m c : Nat} {xs : List Int} {b : Option Addr} {m' d : Nat} {ys : List Int} {w : World} (h : IsWords w (.slice a m c) xs) (hx : Wd xs) (k : IsWords w (.slice b m' d) ys) (hy : Wd ys) (hm : m ≤ 3000) (hm' : m' ≤ 3000) (A B : Nat) (hA : val xs = A) (hB : val ys = B) :
    Calls Try.prog 13 #[.slice a m c, .slice b m' d] w (AnsDivB w (low1 A B) (B / Nat.gcd A B) (decide (0 < B))) := by
  have T2 := ref_trim b m' d ys w k hy (by omega)
  rw [hB] at T2
  unfold Ans at T2
  have lB : nl B ≤ 3000 := by rw [← hB]; exact nl_small hy _ (by rw [k.len]; exact hm')
  rcases Nat.eq_zero_or_pos B with h0 | h0
  · subst h0
    rw [show low1 A 0 = 0 from rfl, Nat.zero_div, show decide (0 < 0) = false from rfl]
    unfold AnsDivB
    simp only [nl_zero] at T2 ⊢
    clear h k hx hy hm hm' hA hB lB
    go_enter Try.func13, Try.ntmps13
    go_wp2_with (go_at_call 24; (with_reducible refine Calls.mono T2 ?_); rintro e w1 ⟨a1, c1, rfl, o1⟩)
    have E := nil_nl o1.below
    rw [nl_zero] at E
    go_ret3
    exact ⟨_, _, _, _, rfl, E, E⟩
  · have hB0 : ((nl B : Int) == 0) = false := by have := nl_pos h0; simp; omega
    have e1 : low1 A B = A / Nat.gcd A B := if_neg (by omega)
    rw [e1, show decide (0 < B) = true from decide_eq_true h0]
    have G := fun v a1 c1 (hb : Below w.heap.size w v) (hg : IsWords v (.slice a1 (nl B) c1) (natOf B)) => ref_gcd (h.below hb) hx hg (wd_natOf B) hm lB A B hA (val_natOf B)
    have hg : nl (Nat.gcd A B) ≤ 3000 := Nat.le_trans (nl_mono (Nat.gcd_le_right _ h0)) lB
    have D1 := fun v g1 c1 (hb : Below w.heap.size w v) (hg : IsWords v (.slice g1 (nl (Nat.gcd A B)) c1) (natOf (Nat.gcd A B))) => ref_div_any (h.below hb) hx hg (wd_natOf _) (by omega) (by omega) A (Nat.gcd A B) hA (val_natOf _)
    have D2 := fun v b1 d1 g1 c1 (hk : IsWords v (.slice b1 (nl B) d1) (natOf B)) (hg : IsWords v (.slice g1 (nl (Nat.gcd A B)) c1) (natOf (Nat.gcd A B))) => ref_div_any hk (wd_natOf _) hg (wd_natOf _) (by omega) (by omega) B (Nat.gcd A B) (val_natOf _) (val_natOf _)
    unfold Ans at G
    unfold AnsDivB at D1 D2 ⊢
    generalize A / Nat.gcd A B = X at D1 ⊢
    generalize B / Nat.gcd A B = Y at D2 ⊢
    generalize rest A (Nat.gcd A B) = R1 at D1
    generalize rest B (Nat.gcd A B) = R2 at D2
    generalize decide (0 < Nat.gcd A B) = r at D1 D2
    generalize Nat.gcd A B = g at G D1 D2 hg
    clear h k hx hy hm hm' hA hB hg e1 h0 lB
    go_enter Try.func13, Try.ntmps13
    go_wp2_with (first
      | (go_at_call 24; (with_reducible refine Calls.mono T2 ?_); rintro e w1 ⟨a1, c1, rfl, o1⟩)
      | (go_at_call 10; (with_reducible refine Calls.mono (G w1 _ _ o1.below o1.words) ?_); rintro e w2 ⟨a2, c2, rfl, o2⟩; have b2 := below_more o1.below o2.below)
      | (go_at_call 29; (with_reducible refine Calls.mono (D1 w2 _ _ b2 o2.words) ?_); rintro e w3 ⟨a3, c3, a4, c4, rfl, o3, o4⟩; have p3 := (o1.more o2.below).more o3.below; have q3 := o2.more o3.below)
      | (go_at_call 29; (with_reducible refine Calls.mono (D2 w3 _ _ _ _ p3.words q3.words) ?_); rintro e w4 ⟨a5, c5, a6, c6, rfl, o5, o6⟩))
    go_ret3
    exact ⟨_, _, _, _, rfl, (o3.more o5.below).outer b2, o5.outer (below_more b2 o3.below)⟩

theorem ref_lcm {a : Option Addr} {m c : Nat} {xs : List Int} {b : Option Addr} {m' d : Nat} {ys : List Int} {w : World} (h : IsWords w (.slice a m c) xs) (hx : Wd xs) (k : IsWords w (.slice b m' d) ys) (hy : Wd ys) (hm : m ≤ 3000) (hm' : m' ≤ 3000) (A B : Nat) (hA : val xs = A) (hB : val ys = B) :
    Calls Try.prog 16 #[.slice a m c, .slice b m' d] w (Ans w (A / Nat.gcd A B * B)) := by
  have L := ref_lowest h hx k hy hm hm' A B hA hB
  unfold AnsDivB at L
  rcases Nat.eq_zero_or_pos B with h0 | h0
  · subst h0
    rw [show decide (0 < 0) = false from rfl] at L
    unfold Ans
    rw [Nat.mul_zero]
    generalize low1 A 0 = X at L
    generalize 0 / Nat.gcd A 0 = Y at L
    rw [nl_zero]
    clear h k hx hy hm hm' hA hB
    go_enter Try.func16, Try.ntmps16
    go_wp2_with (go_at_call 13; (with_reducible refine Calls.mono L ?_); rintro e w1 ⟨a1, c1, a2, c2, rfl, o1, o2⟩)
    have E := nil_nl o1.below
    rw [nl_zero] at E
    go_ret
    exact ⟨_, _, rfl, E⟩
  · have e1 : low1 A B = A / Nat.gcd A B := if_neg (by omega)
    rw [e1, show decide (0 < B) = true from decide_eq_true h0] at L
    have hq : nl (A / Nat.gcd A B) ≤ 3000 := Nat.le_trans (nl_mono (Nat.div_le_self _ _)) (by rw [← hA]; exact nl_small hx _ (by rw [h.len]; exact hm))
    have M := fun v q1 c1 (hb : Below w.heap.size w v) (hg : IsWords v (.slice q1 (nl (A / Nat.gcd A B)) c1) (natOf (A / Nat.gcd A B))) => ref_tmul _ _ _ _ _ _ _ _ v hg (wd_natOf _) (k.below hb) hy (by omega) (by omega)
    simp only [val_natOf, hB] at M
    unfold Ans at M ⊢
    generalize A / Nat.gcd A B * B = N at M ⊢
    generalize A / Nat.gcd A B = X at L M hq
    generalize B / Nat.gcd A B = Y at L
    clear h k hx hy hm hm' hA hB hq e1 h0
    go_enter Try.func16, Try.ntmps16
    go_wp2_with (first
      | (go_at_call 13; (with_reducible refine Calls.mono L ?_); rintro e w1 ⟨a1, c1, a2, c2, rfl, o1, o2⟩)
      | (go_at_call 31; (with_reducible refine Calls.mono (M w1 _ _ o1.below o1.words) ?_); rintro e w2 ⟨a3, c3, rfl, o3⟩))
    go_ret
    exact ⟨_, _, rfl, o3.outer o1.below⟩
end Go.Proofs.Ytpcfelknjcggiaa
