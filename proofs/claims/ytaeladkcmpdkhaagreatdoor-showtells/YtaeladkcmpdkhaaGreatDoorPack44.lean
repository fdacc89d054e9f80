/-
  Texts of mine in build order. No conditions of their own.
-/
import Derived.Test.YtaeladkcmpdkhaaGreatDoorPack10
import Derived.Test.YtaeladkcmpdkhaaGreatDoorPack43
set_option maxHeartbeats 16000000
namespace Go.Proofs.YtaeladkcmpdkhaaGreatDoor
section
open Go.RowKit
theorem natOf_low {A : Nat} (h : 0 < A) : (natOf A).getD 0 0 = ((A % 4294967296 : Nat) : Int) := by rw [natOf_pos (by omega)]; rfl
theorem half_step {A1 k A : Nat} (h : A1 * 2 ^ k = A) (he : A1 % 2 = 0) : A1 / 2 * 2 ^ (k + 1) = A := by
 have e : A1 = A1 / 2 * 2 := by omega
 rw [← h, Nat.pow_succ]
 conv => rhs; rw [e]
 rw [Nat.mul_assoc, Nat.mul_comm 2]
theorem twos_le {A1 k A : Nat} (h : A1 * 2 ^ k = A) (hA : 0 < A) : 0 < A1 ∧ k < nbits A + 1 := by
 have h1 : 0 < A1 := by
  rcases Nat.eq_zero_or_pos A1 with e | e
  ·rw [e] at h; omega
  ·exact e
 refine ⟨h1, ?_⟩
 rcases Nat.lt_or_ge (nbits A) k with h2 | h2
 ·have h3 := lt_nbits A
  have h4 : 2 ^ nbits A ≤ 2 ^ k := Nat.pow_le_pow_right (by omega) (by omega)
  have h5 : 2 ^ k ≤ A1 * 2 ^ k := Nat.le_mul_of_pos_left _ h1
  omega
 ·omega
theorem nbits_words (A : Nat) : nbits A ≤ 32 * nl A := nbits_le _ _ (by rw [← pow_word]; exact lt_nl A)
theorem ref_odd (W : World) (a : Option Addr) (c A : Nat) (w : World) (o : Own W w (.slice a (nl A) c) (nl A) (natOf A)) (hA : 0 < A) (hL : nl A ≤ 3000) :
  Calls Tryz.prog 167 #[.slice a (nl A) c] w fun e w' => ∃ (A1 k : Nat) (a1 : Option Addr) (c1 : Nat), e = .returned (.tuple #[.slice a1 (nl A1) c1, .int .i64 k]) ∧ Own W w' (.slice a1 (nl A1) c1) (nl A1) (natOf A1) ∧ Below w.heap.size w w' ∧ A1 * 2 ^ k = A ∧ A1 % 2 = 1 ∧ k ≤ 96000 := by
 have hN := nbits_words A
 have HT : Hid (∀ A1 k, A1 * 2 ^ k = A → 0 < A1 ∧ k ≤ 96000 ∧ nl A1 ≤ 3000) := fun A1 k h => by
  obtain ⟨h1, h2⟩ := twos_le h hA
  exact ⟨h1, by omega, Nat.le_trans (nl_mono (by rw [← h]; exact Nat.le_mul_of_pos_right _ (Nat.pow_pos (by omega)))) hL⟩
 clear hN
 go_enter Tryz.func167, Tryz.ntmps167
 go_wp2
 go_loopg [0, 4] A (fun A1 s0 s4 v => ∃ (k : Nat) (a1 : Option Addr) (c1 : Nat), s0 = .slice a1 (nl A1) c1 ∧ s4 = .int .i64 k ∧ Own W v (.slice a1 (nl A1) c1) (nl A1) (natOf A1) ∧ Below w.heap.size w v ∧ A1 * 2 ^ k = A)
 case atStart => exact ⟨0, a, c, rfl, rfl, o, Below.refl _ _, by simp⟩
 case round =>
  obtain ⟨k, a1, c1, rfl, rfl, o1, b1, hk⟩ := hrel
  clear o
  obtain ⟨p1, k1, l1⟩ := HT.out gk k hk
  have hnl : 0 < nl gk := nl_pos p1
  obtain ⟨g, rfl⟩ := o1.at0 hnl
  obtain ⟨hc, hf, -, -⟩ := o1.cell 0 hnl
  rw [natOf_low p1] at hc
  have S := fun v (q : IsWords v (.slice (some ⟨g, 0, none⟩) (nl gk) c1) (natOf gk)) => ref_small4 _ _ _ _ 2 v q (wd_natOf gk) (by omega) (by omega) (by omega)
  rw [val_natOf, show (2 : Int).toNat = 2 from rfl] at S
  unfold AnsSmall at S
  obtain ⟨z, hz, z0, z1, hz2⟩ : ∃ z : Int, ((gk % 4294967296 : Nat) : Int) = z ∧ 0 ≤ z ∧ z < 4294967296 ∧ z % 2 = ((gk % 2 : Nat) : Int) := ⟨_, rfl, by omega, by omega, by omega⟩
  rw [hz] at hc
  clear hz
  have HK : Hid (gk * 2 ^ k = A) := hk
  clear hk hA hL
  rcases (by omega : gk % 2 = 0 ∨ gk % 2 = 1) with he | he
  ·rw [he, show ((0 : Nat) : Int) = 0 from rfl] at hz2
   have HE : Hid (gk % 2 = 0 ∧ 0 < gk) := ⟨he, p1⟩
   clear he p1 l1
   go_wp2_with (first
    | (go_at_call 72; (with_reducible refine Calls.mono (S wr o1.words) ?_); rintro e w2 ⟨a2, c2, rfl, o2⟩))
   obtain ⟨f1, f2⟩ := HE.out
   go_roundg (gk / 2)
   case measure => omega
   case rel => exact ⟨k + 1, a2, c2, rfl, by go_num, o2.outer o1.below, below_more b1 o2.below, half_step HK.out f1⟩
  ·rw [he, show ((1 : Nat) : Int) = 1 from rfl] at hz2
   have HE : Hid (gk % 2 = 1) := he
   clear he p1 l1 S
   go_wp2
   go_ret2
   exact ⟨gk, k, some ⟨g, 0, none⟩, c1, rfl, o1, b1, HK.out, HE.out, k1⟩
end
section
open Go.RowKit
theorem odd_co {a : Nat} (h : a % 2 = 1) (j : Nat) : Nat.Coprime (2 ^ j) a := by
 refine (Nat.Coprime.pow_right j ?_).symm
 unfold Nat.Coprime; rw [Nat.gcd_comm, Nat.gcd_rec, h]; rfl
theorem gcd_twos {A1 B1 n k : Nat} (ha : A1 % 2 = 1) (h : n ≤ k) : Nat.gcd (A1 * 2 ^ n) (B1 * 2 ^ k) = Nat.gcd A1 B1 * 2 ^ n := by
 rw [show B1 * 2 ^ k = B1 * 2 ^ (k - n) * 2 ^ n by rw [Nat.mul_assoc, ← Nat.pow_add, Nat.sub_add_cancel h], Nat.gcd_mul_right, Nat.Coprime.gcd_mul_right_cancel_right _ (odd_co ha _)]
theorem gcd_down {X Y D j : Nat} (hD : D * 2 ^ j = X - Y) (h : Y ≤ X) (hy : Y % 2 = 1) : Nat.gcd D Y = Nat.gcd X Y := by
 rw [← Nat.gcd_sub_self_left h, ← hD, Nat.Coprime.gcd_mul_right_cancel _ (odd_co hy _)]
theorem odd_less {X Y D j : Nat} (hD : D * 2 ^ j = X - Y) : D ≤ X - Y := by
 rw [← hD]; exact Nat.le_mul_of_pos_right _ (Nat.pow_pos (by omega))
theorem ref_gcd {a : Option Addr} {m c : Nat} {xs : List Int} {b : Option Addr} {m' d : Nat} {ys : List Int} {w : World} (h : IsWords w (.slice a m c) xs) (hx : Wd xs) (k : IsWords w (.slice b m' d) ys) (hy : Wd ys) (hm : m ≤ 3000) (hm' : m' ≤ 3000) (A B : Nat) (hA : val xs = A) (hB : val ys = B) :
  Calls Tryz.prog 136 #[.slice a m c, .slice b m' d] w (Ans w (Nat.gcd A B)) := by
 have T1 := ref_trim a m c xs w h hx (by omega)
 have T2 := fun v (hb : Below w.heap.size w v) => ref_trim b m' d ys v (k.below hb) hy (by omega)
 have lA : nl A ≤ 3000 := by rw [← hA]; exact nl_small hx _ (by rw [h.len]; exact hm)
 have lB : nl B ≤ 3000 := by rw [← hB]; exact nl_small hy _ (by rw [k.len]; exact hm')
 rw [hA] at T1
 simp only [hB] at T2
 unfold Ans at T1 T2 ⊢
 clear h k hx hy hm hm' hA hB
 rcases Nat.eq_zero_or_pos A with h0 | h0
 ·subst h0
  rw [Nat.gcd_zero_left]
  simp only [nl_zero] at T1
  clear lA lB
  go_enter Tryz.func136, Tryz.ntmps136
  go_wp2_with (first
   | (go_at_call 71; (with_reducible refine Calls.mono T1 ?_); rintro e w1 ⟨a1, c1, rfl, o1⟩)
   | (go_at_call 71; (with_reducible refine Calls.mono (T2 w1 o1.below) ?_); rintro e w2 ⟨a2, c2, rfl, o2⟩))
  go_ret
  exact ⟨_, _, rfl, o2.outer o1.below⟩
 have hA0 : ((nl A : Int) == 0) = false := by have := nl_pos h0; simp; omega
 rcases Nat.eq_zero_or_pos B with g0 | g0
 ·subst g0
  rw [Nat.gcd_zero_right]
  simp only [nl_zero] at T2
  clear lA lB h0
  go_enter Tryz.func136, Tryz.ntmps136
  go_wp2_with (first
   | (go_at_call 71; (with_reducible refine Calls.mono T1 ?_); rintro e w1 ⟨a1, c1, rfl, o1⟩)
   | (go_at_call 71; (with_reducible refine Calls.mono (T2 w1 o1.below) ?_); rintro e w2 ⟨a2, c2, rfl, o2⟩))
  go_ret
  exact ⟨_, _, rfl, o1.more o2.below⟩
 have hB0 : ((nl B : Int) == 0) = false := by have := nl_pos g0; simp; omega
 have D1 := fun v a1 c1 (o : Own w v (.slice a1 (nl A) c1) (nl A) (natOf A)) => ref_odd w a1 c1 A v o h0 lA
 have D2 := fun v a1 c1 (o : Own w v (.slice a1 (nl B) c1) (nl B) (natOf B)) => ref_odd w a1 c1 B v o g0 lB
 have HL : Hid (nl A ≤ 3000 ∧ nl B ≤ 3000) := ⟨lA, lB⟩
 clear lA lB h0 g0
 go_enter Tryz.func136, Tryz.ntmps136
 go_wp2_with (first
  | (go_at_call 71; (with_reducible refine Calls.mono T1 ?_); rintro e w1 ⟨a1, c1, rfl, o1⟩)
  | (go_at_call 71; (with_reducible refine Calls.mono (T2 w1 o1.below) ?_); rintro e w2 ⟨a2, c2, rfl, o2⟩; have p2 := o1.more o2.below; have q2 := o2.outer o1.below)
  | (go_at_call 167; (with_reducible refine Calls.mono (D1 w2 _ _ p2) ?_); rintro e w3 ⟨A1, n, a3, c3, rfl, o3, b3, e3, f3, n3⟩; have q3 := q2.more b3; have E3 : Hid (A1 * 2 ^ n = A) := e3; have F3 : Hid (A1 % 2 = 1) := f3; clear e3 f3 D1)
  | (go_at_call 167; (with_reducible refine Calls.mono (D2 w3 _ _ q3) ?_); rintro e w4 ⟨B1, k, a4, c4, rfl, o4, b4, e4, f4, n4⟩; have p4 := o3.more b4; have E4 : Hid (B1 * 2 ^ k = B) := e4; have F4 : Hid (B1 % 2 = 1) := f4; clear e4 f4 D2))
 have HS : Hid (nl A1 ≤ 3000 ∧ nl B1 ≤ 3000) := by
  refine ⟨Nat.le_trans (nl_mono ?_) HL.out.1, Nat.le_trans (nl_mono ?_) HL.out.2⟩
  ·rw [← E3.out]; exact Nat.le_mul_of_pos_right _ (Nat.pow_pos (by omega))
  ·rw [← E4.out]; exact Nat.le_mul_of_pos_right _ (Nat.pow_pos (by omega))
 clear o1 o2 o3 p2 q2 q3 b3 b4 T1 T2 HL hA0 hB0
 go_loopg [5, 6, 9] (A1 + B1) (fun g s5 s6 s9 v => ∃ (X Y : Nat) (a5 : Option Addr) (c5 : Nat) (a6 : Option Addr) (c6 : Nat), g = X + Y ∧ s5 = .slice a5 (nl X) c5 ∧ s6 = .slice a6 (nl Y) c6 ∧ Own w v (.slice a5 (nl X) c5) (nl X) (natOf X) ∧ Own w v (.slice a6 (nl Y) c6) (nl Y) (natOf Y) ∧ X % 2 = 1 ∧ Y % 2 = 1 ∧ Nat.gcd X Y = Nat.gcd A1 B1 ∧ nl X ≤ 3000 ∧ nl Y ≤ 3000)
 case atStart => exact ⟨A1, B1, _, _, _, _, rfl, rfl, rfl, p4, o4, F3.out, F4.out, rfl, HS.out.1, HS.out.2⟩
 case round =>
  obtain ⟨X, Y, a5, c5, a6, c6, rfl, rfl, rfl, oX, oY, oddX, oddY, hg, lX, lY⟩ := hrel
  clear p4 o4 HS
  have C := fun v (p : IsWords v (.slice a5 (nl X) c5) (natOf X)) (q : IsWords v (.slice a6 (nl Y) c6) (natOf Y)) => ref_cmp _ _ _ _ _ _ _ _ v p (wd_natOf X) q (wd_natOf Y) (by omega) (by omega)
  simp only [val_natOf] at C
  have HG : Hid (Nat.gcd X Y = Nat.gcd A1 B1) := hg
  have HX : Hid (X % 2 = 1 ∧ nl X ≤ 3000) := ⟨oddX, lX⟩
  have HY : Hid (Y % 2 = 1 ∧ nl Y ≤ 3000) := ⟨oddY, lY⟩
  clear hg oddX oddY
  rcases Nat.lt_trichotomy X Y with hlt | rfl | hlt
  ·rw [sgn_lt (by omega)] at C
   have S := fun v (p : IsWords v (.slice a5 (nl X) c5) (natOf X)) (q : IsWords v (.slice a6 (nl Y) c6) (natOf Y)) => ref_nsub _ _ _ _ _ _ _ _ v q (wd_natOf Y) p (wd_natOf X) (by omega) (by omega) (by rw [val_natOf, val_natOf]; omega)
   simp only [val_natOf] at S
   unfold AnsOk at S
   have O := fun v a1 c1 (o : Own w v (.slice a1 (nl (Y - X)) c1) (nl (Y - X)) (natOf (Y - X))) => ref_odd w a1 c1 (Y - X) v o (by omega) (Nat.le_trans (nl_mono (by omega)) lY)
   have HD : Hid (X < Y ∧ nl (Y - X) ≤ 3000) := ⟨hlt, Nat.le_trans (nl_mono (by omega)) lY⟩
   clear lX lY hlt
   generalize hZ : Y - X = Z at S O HD
   have HZ : Hid (Y - X = Z) := hZ
   clear hZ
   go_wp2_with (first
    | (go_at_call 134; (with_reducible refine Calls.mono (C _ oX.words oY.words) ?_); rintro e w5 ⟨rfl, rfl⟩)
    | (go_at_call 135; (with_reducible refine Calls.mono (S _ oX.words oY.words) ?_); rintro e w6 ⟨a7, c7, rfl, o7⟩; have o7' := o7.outer oX.below)
    | (go_at_call 167; (with_reducible refine Calls.mono (O w6 _ _ o7') ?_); rintro e w7 ⟨D, j, a8, c8, rfl, o8, b8, e8, f8, n8⟩; have E8 : Hid (D * 2 ^ j = Z) := e8; have F8 : Hid (D % 2 = 1) := f8; clear e8 f8))
   have E9 : D * 2 ^ j = Y - X := by rw [HZ.out]; exact E8.out
   have h9 := odd_less E9
   have h10 := HD.out.1
   go_roundg (D + X)
   case measure => have := HX.out.1; omega
   case rel => exact ⟨D, X, _, _, _, _, rfl, rfl, rfl, o8, (oX.more o7.below).more b8, F8.out, HX.out.1, by rw [gcd_down E9 (by omega) HX.out.1, Nat.gcd_comm]; exact HG.out, Nat.le_trans (nl_mono (by omega)) HY.out.2, HX.out.2⟩
  ·rw [sgn_eq rfl] at C
   have SH := fun v (s : Nat) (hs : s ≤ 96000) (p : IsWords v (.slice a5 (nl X) c5) (natOf X)) => ref_tshift a5 (nl X) c5 (natOf X) s v p (wd_natOf X) (by omega) s (.inr ⟨by omega, by omega, rfl⟩)
   simp only [val_natOf, Int.toNat_natCast] at SH
   unfold Ans at SH
   have hG := HG.out
   rw [Nat.gcd_self] at hG
   rcases Nat.lt_or_ge k n with hnk | hnk
   case' inl =>
    have SN := fun v => SH v k n4
    have HE : Hid (X * 2 ^ k = Nat.gcd A B) := by show _ = _; rw [← E3.out, ← E4.out, Nat.gcd_comm, gcd_twos F4.out (by omega), Nat.gcd_comm, hG]
   case' inr =>
    have SN := fun v => SH v n n3
    have HE : Hid (X * 2 ^ n = Nat.gcd A B) := by show _ = _; rw [← E3.out, ← E4.out, gcd_twos F3.out hnk, hG]
   all_goals
    clear SH hG lX lY n3 n4
    go_wp2_with (first
     | (go_at_call 134; (with_reducible refine Calls.mono (C _ oX.words oY.words) ?_); rintro e w5 ⟨rfl, rfl⟩)
     | (go_at_call 168; (with_reducible refine Calls.mono (SN _ oX.words) ?_); rintro e w6 ⟨a7, c7, rfl, o7⟩))
    rw [HE.out] at o7
    go_ret
    exact ⟨_, _, by rw [HE.out]; rfl, o7.outer oX.below⟩
  ·rw [sgn_gt (by omega)] at C
   have S := fun v (p : IsWords v (.slice a5 (nl X) c5) (natOf X)) (q : IsWords v (.slice a6 (nl Y) c6) (natOf Y)) => ref_nsub _ _ _ _ _ _ _ _ v p (wd_natOf X) q (wd_natOf Y) (by omega) (by omega) (by rw [val_natOf, val_natOf]; omega)
   simp only [val_natOf] at S
   unfold AnsOk at S
   have O := fun v a1 c1 (o : Own w v (.slice a1 (nl (X - Y)) c1) (nl (X - Y)) (natOf (X - Y))) => ref_odd w a1 c1 (X - Y) v o (by omega) (Nat.le_trans (nl_mono (by omega)) lX)
   have HD : Hid (Y < X ∧ nl (X - Y) ≤ 3000) := ⟨hlt, Nat.le_trans (nl_mono (by omega)) lX⟩
   clear lX lY hlt
   generalize hZ : X - Y = Z at S O HD
   have HZ : Hid (X - Y = Z) := hZ
   clear hZ
   go_wp2_with (first
    | (go_at_call 134; (with_reducible refine Calls.mono (C _ oX.words oY.words) ?_); rintro e w5 ⟨rfl, rfl⟩)
    | (go_at_call 135; (with_reducible refine Calls.mono (S _ oX.words oY.words) ?_); rintro e w6 ⟨a7, c7, rfl, o7⟩; have o7' := o7.outer oX.below)
    | (go_at_call 167; (with_reducible refine Calls.mono (O w6 _ _ o7') ?_); rintro e w7 ⟨D, j, a8, c8, rfl, o8, b8, e8, f8, n8⟩; have E8 : Hid (D * 2 ^ j = Z) := e8; have F8 : Hid (D % 2 = 1) := f8; clear e8 f8))
   have E9 : D * 2 ^ j = X - Y := by rw [HZ.out]; exact E8.out
   have h9 := odd_less E9
   have h10 := HD.out.1
   go_roundg (D + Y)
   case measure => have := HY.out.1; omega
   case rel => exact ⟨D, Y, _, _, _, _, rfl, rfl, rfl, o8, (oY.more o7.below).more b8, F8.out, HY.out.1, by rw [gcd_down E9 (by omega) HY.out.1]; exact HG.out, Nat.le_trans (nl_mono (by omega)) HX.out.2, HY.out.2⟩
theorem ref_lowest {a : Option Addr} {m c : Nat} {xs : List Int} {b : Option Addr} {m' d : Nat} {ys : List Int} {w : World} (h : IsWords w (.slice a m c) xs) (hx : Wd xs) (k : IsWords w (.slice b m' d) ys) (hy : Wd ys) (hm : m ≤ 3000) (hm' : m' ≤ 3000) (A B : Nat) (hA : val xs = A) (hB : val ys = B) :
  Calls Tryz.prog 108 #[.slice a m c, .slice b m' d] w (AnsDivB w (low1 A B) (B / Nat.gcd A B) (decide (0 < B))) := by
 have T2 := ref_trim b m' d ys w k hy (by omega)
 rw [hB] at T2
 unfold Ans at T2
 have lB : nl B ≤ 3000 := by rw [← hB]; exact nl_small hy _ (by rw [k.len]; exact hm')
 rcases Nat.eq_zero_or_pos B with h0 | h0
 ·subst h0
  rw [show low1 A 0 = 0 from rfl, Nat.zero_div, show decide (0 < 0) = false from rfl]
  unfold AnsDivB
  simp only [nl_zero] at T2 ⊢
  clear h k hx hy hm hm' hA hB lB
  go_enter Tryz.func108, Tryz.ntmps108
  go_wp2_with (go_at_call 71; (with_reducible refine Calls.mono T2 ?_); rintro e w1 ⟨a1, c1, rfl, o1⟩)
  have E := nil_nl o1.below
  rw [nl_zero] at E
  go_ret3
  exact ⟨_, _, _, _, rfl, E, E⟩
 ·have hB0 : ((nl B : Int) == 0) = false := by have := nl_pos h0; simp; omega
  have e1 : low1 A B = A / Nat.gcd A B := if_neg (by omega)
  rw [e1, show decide (0 < B) = true from decide_eq_true h0]
  have G := fun v a1 c1 (hb : Below w.heap.size w v) (hg : IsWords v (.slice a1 (nl B) c1) (natOf B)) => ref_gcd (h.below hb) hx hg (wd_natOf B) hm lB A B hA (val_natOf B)
  have hg : nl (Nat.gcd A B) ≤ 3000 := Nat.le_trans (nl_mono (Nat.gcd_le_right _ h0)) lB
  have D1 := fun v g1 c1 (hb : Below w.heap.size w v) (hg : IsWords v (.slice g1 (nl (Nat.gcd A B)) c1) (natOf (Nat.gcd A B))) => ref_div_any (h.below hb) hx hg (wd_natOf _) (by omega) (by omega) A (Nat.gcd A B) hA (val_natOf _)
  have D2 := fun v b1 d1 g1 c1 (hk : IsWords v (.slice b1 (nl B) d1) (natOf B)) (hg : IsWords v (.slice g1 (nl (Nat.gcd A B)) c1) (natOf (Nat.gcd A B))) => ref_div_any hk (wd_natOf _) hg (wd_natOf _) (by omega) (by omega) B (Nat.gcd A B) (val_natOf _) (val_natOf _)
  unfold Ans at G
  unfold AnsDivB at D1 D2 ⊢
  generalize A / Nat.gcd A B = X at D1 ⊢
  generalize B / Nat.gcd A B = Y at D2 ⊢
  generalize rest A (Nat.gcd A B) = R1 at D1
  generalize rest B (Nat.gcd A B) = R2 at D2
  generalize decide (0 < Nat.gcd A B) = r at D1 D2
  generalize Nat.gcd A B = g at G D1 D2 hg
  clear h k hx hy hm hm' hA hB hg e1 h0 lB
  go_enter Tryz.func108, Tryz.ntmps108
  go_wp2_with (first
   | (go_at_call 71; (with_reducible refine Calls.mono T2 ?_); rintro e w1 ⟨a1, c1, rfl, o1⟩)
   | (go_at_call 136; (with_reducible refine Calls.mono (G w1 _ _ o1.below o1.words) ?_); rintro e w2 ⟨a2, c2, rfl, o2⟩; have b2 := below_more o1.below o2.below)
   | (go_at_call 107; (with_reducible refine Calls.mono (D1 w2 _ _ b2 o2.words) ?_); rintro e w3 ⟨a3, c3, a4, c4, rfl, o3, o4⟩; have p3 := (o1.more o2.below).more o3.below; have q3 := o2.more o3.below)
   | (go_at_call 107; (with_reducible refine Calls.mono (D2 w3 _ _ _ _ p3.words q3.words) ?_); rintro e w4 ⟨a5, c5, a6, c6, rfl, o5, o6⟩))
  go_ret3
  exact ⟨_, _, _, _, rfl, (o3.more o5.below).outer b2, o5.outer (below_more b2 o3.below)⟩
end
section
open Go.RowKit
theorem ref_rlow {s : Bool} {a : Option Addr} {n c : Nat} {xs : List Int} {b : Option Addr} {m d : Nat} {ys : List Int} {w : World} (h : IsWords w (.slice a n c) xs) (hx : Wd xs) (k : IsWords w (.slice b m d) ys) (hy : Wd ys) (hn : n ≤ 3000) (hm : m ≤ 3000) (q : Rat) (hq : rv s (val xs) (val ys) = q) :
  Calls Tryz.prog 78 #[.agg #[.bool s, .slice a n c], .slice b m d] w (AnsT w (tri q)) := by
 subst hq
 have L := fun v (hb : Below w.heap.size w v) => ref_lowest (h.below hb) hx (k.below hb) hy hn hm _ _ rfl rfl
 unfold AnsDivB at L
 obtain ⟨b1, b2, bV, hs⟩ := boxes2 w #[.bool s, .slice a n c] #[.bool false, .slice none 0 0, .slice none 0 0] 83 45
 clear h k hx hy hn hm
 generalize val xs = A at *
 generalize val ys = D at *
 have ONE := fun (v : World) (hv : Below w.heap.size w v) => own_lit w v [1] 1 hv rfl (by decide)
 have n1 : natOf 1 = [1] := natOf_lit [1] (wd_one (by omega) (by omega)) (by decide) (by decide)
 have l1 : nl 1 = 1 := by unfold nl; rw [n1]; rfl
 by_cases h0 : 0 < A ∧ 0 < D
 ·obtain ⟨hA, hD⟩ := h0
  rw [tri_rv s A D hA hD]
  rw [show low1 A D = A / Nat.gcd A D from if_neg (by omega), show decide (0 < D) = true from decide_eq_true hD] at L
  have hX : 0 < A / Nat.gcd A D := Nat.div_pos (Nat.le_of_dvd hA (Nat.gcd_dvd_left _ _)) (Nat.gcd_pos_of_pos_left _ hA)
  generalize A / Nat.gcd A D = X at *
  generalize D / Nat.gcd A D = Y at *
  have hX0 : ((nl X : Int) == 0) = false := by have := nl_pos hX; simp; omega
  clear hA hD hX ONE n1 l1
  go_enter Tryz.func78, Tryz.ntmps78
  go_wp2_with (go_at_call 108; (with_reducible refine Calls.mono (L _ bV) ?_); rintro e w1 ⟨a1, c1, a2, c2, rfl, o1, o2⟩; obtain ⟨x0, x1, f0, f1⟩ := (b1.more o1.below).cells2; obtain ⟨y0, y1, y2, g0, g1, g2⟩ := (b2.more o1.below).cells3)
  exact bodyPost_ret (v := .agg #[.bool s, .slice a1 (nl X) c1, .slice a2 (nl Y) c2]) (by simp [results, Tryz.results78, go_sem, y0, y1, y2]) rfl (ansT_mk (((o1.above bV).set3 (by omega) hs _ _ _).own (by omega)) (((o2.above bV).set3 (by omega) hs _ _ _).own (by omega)))
 ·have e0 : rv s A D = 0 := (rv_zero_iff s A D).2 (by omega)
  rw [e0, tri_zero]
  have hR : decide (0 < D) = false ∨ decide (0 < D) = true ∧ low1 A D = 0 := by
   rcases Nat.eq_zero_or_pos D with h | h
   ·exact .inl (by simp [h])
   ·refine .inr ⟨decide_eq_true h, ?_⟩
    obtain rfl : A = 0 := by omega
    rw [show low1 0 D = 0 / Nat.gcd 0 D from if_neg (by omega), Nat.zero_div]
  generalize low1 A D = X at L hR
  generalize D / Nat.gcd A D = Y at L
  clear h0 e0
  have q : ∀ (w1 : World) (x y : Value), Below w.heap.size w w1 → w.heap.size + 1 < w1.heap.size → AnsT w (false, 0, 1) (.returned (.agg #[.bool false, .slice none (nl 0) 0, .slice (some ⟨w1.heap.size, 0, none⟩) (nl 1) 1])) ((((w1.alloc (.cells #[.int .u32 1] 85)).setCell ⟨w.heap.size + 1, 0, none⟩ (.bool false)).setCell ⟨w.heap.size + 1, 1, none⟩ x).setCell ⟨w.heap.size + 1, 2, none⟩ y) := fun w1 x y hb hw => by
   have o : Own w1 (w1.alloc (.cells #[.int .u32 1] 85)) (.slice (some ⟨w1.heap.size, 0, none⟩) (nl 1) 1) (nl 1) (natOf 1) := by rw [l1, n1]; exact own_lit w1 w1 [1] 1 (Below.refl _ _) rfl (by decide)
   have oa := (o.above hb).set3 (k := w.heap.size + 1) (by omega) hw (.bool false) x y
   exact ansT_mk (nil_nl oa.2) (oa.own hb.size)
  clear ONE
  rcases hR with h1 | ⟨h1, h2⟩
  case' inl => rw [h1] at L
  case' inr => rw [h1, h2, nl_zero] at L
  all_goals
   clear h1 n1
   go_enter Tryz.func78, Tryz.ntmps78
   go_wp2_with (go_at_call 108; (with_reducible refine Calls.mono (L _ bV) ?_); rintro e w1 ⟨a1, c1, a2, c2, rfl, o1, o2⟩; obtain ⟨x0, x1, f0, f1⟩ := (b1.more o1.below).cells2; have B2 := fun o => ((b2.more o1.below).alloc o).cells3; have y0 := fun o => (B2 o).1; have y1 := fun o => (B2 o).2.1; have y2 := fun o => (B2 o).2.2.1; have g0 := fun o => (B2 o).2.2.2.1; have g1 := fun o => (B2 o).2.2.2.2.1; have g2 := fun o => (B2 o).2.2.2.2.2)
   exact bodyPost_ret (v := .agg #[.bool false, .slice none (nl 0) 0, .slice (some ⟨w1.heap.size, 0, none⟩) (nl 1) 1]) (by rw [nl_zero, l1]; simp [results, Tryz.results78, go_sem, y0, y1, y2]) rfl (q w1 _ _ (below_more bV o1.below) (Nat.lt_of_lt_of_le hs o1.below.size))
theorem ref_rfix {s : Bool} {a : Option Addr} {n c : Nat} {xs : List Int} {b : Option Addr} {m d : Nat} {ys : List Int} {w : World} (h : IsWords w (.slice a n c) xs) (hx : Wd xs) (k : IsWords w (.slice b m d) ys) (hy : Wd ys) (hn : n ≤ 3000) (hm : m ≤ 3000) (q : Rat) (hq : rv s (val xs) (val ys) = q) :
  Calls Tryz.prog 49 #[.agg #[.bool s, .slice a n c, .slice b m d]] w (AnsT w (tri q)) := by
 have L := fun v (hb : Below w.heap.size w v) => ref_rlow (s := s) (h.below hb) hx (k.below hb) hy hn hm q hq
 unfold AnsT at L
 generalize tri q = t at L ⊢
 obtain ⟨t0, N, D⟩ := t
 dsimp only at L
 obtain ⟨b1, b2, bV, hs⟩ := boxes2 w #[.bool s, .slice a n c, .slice b m d] #[.bool false, .slice none 0 0, .slice none 0 0] 45 45
 clear h k hx hy hn hm hq
 obtain ⟨x0, x1, x2, -, -, -⟩ := b1.cells3
 go_enter Tryz.func49, Tryz.ntmps49
 go_wp2_with (go_at_call 78; (with_reducible refine Calls.mono (L _ bV) ?_); rintro e w1 ⟨a1, c1, a2, c2, rfl, o1, o2⟩; obtain ⟨y0, y1, y2, g0, g1, g2⟩ := (b2.more o1.below).cells3)
 exact bodyPost_ret (v := .agg #[.bool t0, .slice a1 (nl N) c1, .slice a2 (nl D) c2]) (by simp [results, Tryz.results49, go_sem, y0, y1, y2]) rfl (ansT_mk (((o1.above bV).set3 (by omega) hs _ _ _).own (by omega)) (((o2.above bV).set3 (by omega) hs _ _ _).own (by omega)))
end
section
open Go.RowKit
theorem ref_rfix' {k : Nat} (hk : k ≤ 3000) {s : Bool} {a : Option Addr} {n c : Nat} {b : Option Addr} {m d : Nat} {q : Rat} {w : World} (h : RR k w s a n c b m d q) :
  Calls Tryz.prog 49 #[.agg #[.bool s, .slice a n c, .slice b m d]] w (AnsR w q) := by
 obtain ⟨xs, ys, h1, h2, h3, h4, h5, h6, h7⟩ := h
 exact ref_rfix h1 h2 h3 h4 (by omega) (by omega) q h7
theorem ref_rright {s : Bool} {a : Option Addr} {n c : Nat} {xs : List Int} {b : Option Addr} {m d : Nat} {ys : List Int} {w : World} (h : IsWords w (.slice a n c) xs) (hx : Wd xs) (k : IsWords w (.slice b m d) ys) (hy : Wd ys) (hn : n ≤ 3000) (hm : m ≤ 3000) (q : Rat) (hq : rv s (val xs) (val ys) = q) (r : Bool) (hr : decide (decide (q.num < 0) = s ∧ natOf q.num.natAbs = xs ∧ natOf q.den = ys) = r) :
  Calls Tryz.prog 43 #[.agg #[.bool s, .slice a n c, .slice b m d]] w fun e w' => e = .returned (.bool r) ∧ Below w.heap.size w w' := by
 have F := fun v (hb : Below w.heap.size w v) => ref_rfix (s := s) (h.below hb) hx (k.below hb) hy hn hm q hq
 unfold AnsT tri at F
 have E := fun v a1 c1 a2 c2 (h1 : IsWords v (.slice a1 (nl q.num.natAbs) c1) (natOf q.num.natAbs)) (h2 : IsWords v (.slice a2 (nl q.den) c2) (natOf q.den)) (hb : Below w.heap.size w v) => ref_requal (s := decide (q.num < 0)) (s' := s) h1 h2 (h.below hb) (k.below hb) r hr
 dsimp only at F
 obtain ⟨b1, bV, hs⟩ := boxes1 w #[.bool s, .slice a n c, .slice b m d] 45
 clear h k hx hy hn hm hq hr
 generalize decide (q.num < 0) = t0 at *
 generalize q.num.natAbs = N at *
 generalize q.den = D at *
 go_enter Tryz.func43, Tryz.ntmps43
 go_wp2
 generalize w.alloc (.cells #[.bool s, .slice a n c, .slice b m d] 45) = V at *
 have SO : ∀ v, Below V.heap.size V v → v.cell? ⟨w.heap.size, 0, none⟩ = some (.bool s) ∧ v.cell? ⟨w.heap.size, 1, none⟩ = some (.slice a n c) ∧ v.cell? ⟨w.heap.size, 2, none⟩ = some (.slice b m d) := fun v hb => ⟨(b1.more hb).cells3.1, (b1.more hb).cells3.2.1, (b1.more hb).cells3.2.2.1⟩
 have bs : Below V.heap.size V V.drew := (Below.refl _ _).drew
 have HB : Hid (Below w.heap.size w V) := bV
 have bW := fun v (hb : Below V.heap.size V v) => below_more HB.out hb
 clear b1 bV hs
 go_region_held3 (fun v => v.cell? ⟨w.heap.size, 0, none⟩ = some (.bool s) ∧ v.cell? ⟨w.heap.size, 1, none⟩ = some (.slice a n c) ∧ v.cell? ⟨w.heap.size, 2, none⟩ = some (.slice b m d))
  (exact SO _ bs)
  (first
  | (go_at_call 49; (with_reducible refine Calls.mono (F _ (bW _ bs)) ?_); rintro e w1 ⟨a1, c1, a2, c2, rfl, o1, o2⟩; replace bs := below_more bs o1.below)
  | (go_at_call 42; (with_reducible refine Calls.mono (E _ _ _ _ _ o1.words o2.words (bW _ bs)) ?_); rintro e w2 ⟨rfl, b2⟩; replace bs := below_more bs b2))
 all_goals
  go_wp2
  go_ret
  exact ⟨rfl, below_more HB.out bs⟩
end
section
open Go.RowKit
theorem ref_rprint {s : Bool} {a : Option Addr} {n c : Nat} {b : Option Addr} {m d : Nat} {q : Rat} {w : World} (h : RR 3000 w s a n c b m d q) :
  Calls Tryz.prog 24 #[.agg #[.bool s, .slice a n c, .slice b m d]] w fun e w' => e = .returned (.string ⟨(decR q).toArray⟩) ∧ Below w.heap.size w w' := by
 have F := fun v (hb : Below w.heap.size w v) => ref_rfix' (by omega) (h.below hb)
 unfold AnsR OwnR at F
 obtain ⟨l1, l2⟩ := h.rs (by omega)
 have P1 := fun v a1 c1 (p : IsWords v (.slice a1 (nl q.num.natAbs) c1) (natOf q.num.natAbs)) => ref_iprint (s := decide (q.num < 0)) p (wd_natOf _) (by omega) q.num (by rw [val_natOf, iv_self])
 have P2 := fun v a1 c1 (p : IsWords v (.slice a1 (nl q.den) c1) (natOf q.den)) => ref_print p (wd_natOf _) (by omega) q.den (val_natOf _)
 have n1 : natOf 1 = [1] := natOf_lit [1] (wd_one (by omega) (by omega)) (by decide) (by decide)
 have W1 := fun v a1 c1 (r : Bool) (hr : decide (q.den = 1) = r) (p : IsWords v (.slice a1 (nl q.den) c1) (natOf q.den)) => ref_words a1 (nl q.den) c1 _ _ _ _ _ _ (p.below ((Below.refl _ v).alloc (Nat.le_refl _) (.cells #[.int .u32 1] 85))) (lit_words v [1] 1 rfl (by decide)) r (by
  rw [← hr]
  have : (natOf q.den = [1]) ↔ q.den = 1 := ⟨fun e => by rw [← val_natOf q.den, e]; rfl, fun e => by rw [e, n1]⟩
  simp only [decide_eq_decide]; exact this)
 obtain ⟨b1, bV, hs⟩ := boxes1 w #[.bool s, .slice a n c, .slice b m d] 45
 have hL1 := decI_wlen q.num l1 (by omega)
 have hL2 := decOf_words l2 (by omega)
 obtain ⟨x0, x1, x2, -, -, -⟩ := b1.cells3
 unfold decR
 by_cases hd : q.den = 1
 case' pos => rw [if_pos hd]; have W2 := fun v a1 c1 => W1 v a1 c1 true (decide_eq_true hd)
 case' neg => rw [if_neg hd]; have W2 := fun v a1 c1 => W1 v a1 c1 false (decide_eq_false hd)
 all_goals
  clear h l1 l2 n1 hd W1
  generalize decide (q.num < 0) = s1 at *
  generalize decI q.num = T1 at *
  generalize decOf q.den = T2 at *
  generalize q.num.natAbs = N1 at *
  generalize q.den = D1 at *
  have hT1 : (T1.length : Int) + 1 ≤ 9223372036854775807 := by omega
  have hT2 : (T1.length : Int) + 1 + T2.length ≤ 9223372036854775807 := by omega
  have HT : Hid (ByteArray.mk T1.toArray ++ ByteArray.mk #[124] ++ ByteArray.mk T2.toArray = ByteArray.mk (T1 ++ 124 :: T2).toArray) := by show _ = _; rw [ByteArray.mk_append_mk, ByteArray.mk_append_mk]; simp
  clear hL1 hL2
  go_enter Tryz.func24, Tryz.ntmps24
  go_wp2_with (first
   | (go_at_call 49; (with_reducible refine Calls.mono (F _ bV) ?_); rintro e w1 ⟨a1, c1, a2, c2, rfl, o1, o2⟩; have p1 := fun o => (o1.alloc o).words; have bW := fun o => (below_more bV o1.below).alloc (below_more bV o1.below).size o; have B1 := BoxC.new w1 #[.bool s1, .slice a1 (nl N1) c1, .slice a2 (nl D1) c2] 45)
   | (go_at_call 50; (with_reducible refine Calls.mono (P1 _ _ _ (p1 _)) ?_); rintro e w2 ⟨rfl, b2⟩; have q2 := (o2.alloc _).more b2; obtain ⟨y0, y1, y2, -, -, -⟩ := (B1.more b2).cells3)
   | (go_at_call 51; (with_reducible refine Calls.mono (W2 _ _ _ q2.words) ?_); rintro e w3 ⟨rfl, b3⟩; have q3 := (q2.alloc _).more b3; obtain ⟨u0, u1, u2, -, -, -⟩ := (((B1.more b2).alloc _).more b3).cells3)
   | (go_at_call 44; (with_reducible refine Calls.mono (P2 _ _ _ q3.words) ?_); rintro e w4 ⟨rfl, b4⟩; replace q3 := q3.more b4))
  go_ret
  first | exact ⟨rfl, below_more bV q3.below⟩ | exact ⟨by rw [← HT.out]; rfl, below_more bV q3.below⟩
end
section
open Go.RowKit Go.Lib
theorem ref_ttall {w : World} {a : Option Addr} {n c : Nat} {ms : List Mn} (h : IsN w a n ms) (hn : n ≤ 100000) (hB : Behind (ms.map fun m => m.1.nd)) (hV : ∀ m ∈ ms, (∃ x y z, m.2.1 = .slice x y z) ∧ ∃ x y z, m.2.2 = .slice x y z) :
    ∀ (i : Nat), i < n → ∀ v, Below w.heap.size w v → Calls Tryz.prog 77 #[.slice a n c, .int .i64 i] v fun e w' => e = .returned (.int .i64 (tallI (ms.map fun m => m.1.nd) i)) ∧ Below v.heap.size v w' := by
  intro i
  induction i using Nat.strongRecOn with
  | ind i ih =>
    intro hin v hb
    have hl := h.1
    obtain ⟨m, hm⟩ : ∃ m, ms[i]? = some m := ⟨_, List.getElem?_eq_getElem (by omega)⟩
    have hmd : (ms.map fun m => m.1.nd)[i]? = some m.1.nd := by rw [List.getElem?_map, hm]; rfl
    obtain ⟨⟨ua, un, uc, hu⟩, ⟨va, vn, vc, hv⟩⟩ := hV m (List.mem_of_getElem? hm)
    obtain ⟨g, o, rfl, c0, c1, c2, c3, c4, c5, c6, c7⟩ := (h.below hb).node hm
    rw [hu] at c6
    rw [hv] at c7
    rw [tall_step hB hmd]
    have k1 : (i : Int) < n := by omega
    by_cases hk1 : m.1.kind ≤ 1
    · rw [if_pos (show m.1.nd.kind ≤ 1 from hk1)]
      clear ih h hB hV hmd hm hu hv hl
      go_enter Tryz.func77, Tryz.ntmps77
      go_wp2
      go_ret
      exact ⟨rfl, (Below.refl _ _).alloc (Nat.le_refl _) _⟩
    rw [if_neg (show ¬ m.1.nd.kind ≤ 1 from hk1)]
    obtain ⟨a0, a1, b0⟩ := hB i m.1.nd hmd (by show 2 ≤ m.1.kind; omega)
    have a0 : 0 ≤ m.1.a := a0
    have a1 : m.1.a < (i : Int) := a1
    obtain ⟨A, hA⟩ : ∃ A : Nat, m.1.a = (A : Int) := ⟨m.1.a.toNat, by omega⟩
    have CA := ih A (by omega) (by omega)
    have tA := tall_range hB A A (Nat.le_refl _) (by rw [List.length_map]; omega)
    rw [show m.1.nd.a = (A : Int) from hA, Int.toNat_natCast]
    rw [hA] at c1
    by_cases hk5 : m.1.kind ≤ 5
    · rw [if_pos (show m.1.nd.kind ≤ 5 from hk5)]
      have b0 := b0 hk5
      have b1 : 0 ≤ m.1.b := b0.1
      have b2 : m.1.b < (i : Int) := b0.2
      obtain ⟨C, hC⟩ : ∃ C : Nat, m.1.b = (C : Int) := ⟨m.1.b.toNat, by omega⟩
      have CC := ih C (by omega) (by omega)
      have tC := tall_range hB C C (Nat.le_refl _) (by rw [List.length_map]; omega)
      rw [show m.1.nd.b = (C : Int) from hC, Int.toNat_natCast]
      rw [hC] at c2
      generalize tallI (ms.map fun m => m.1.nd) A = X at *
      generalize tallI (ms.map fun m => m.1.nd) C = Y at *
      have NB := BoxC.new v #[.int .i64 m.1.kind, .int .i64 (A : Int), .int .i64 (C : Int), .int .i64 m.1.exp, .string m.1.name, .bool m.1.neg, .slice ua un uc, .slice va vn vc] 47
      have z1 := (NB.cell 1).1
      have z2 := (NB.cell 2).1
      have b0V : Below v.heap.size v (v.alloc (.cells #[.int .i64 m.1.kind, .int .i64 (A : Int), .int .i64 (C : Int), .int .i64 m.1.exp, .string m.1.name, .bool m.1.neg, .slice ua un uc, .slice va vn vc] 47)).drew := ((Below.refl _ v).alloc (Nat.le_refl _) _).drew
      have bV : Below w.heap.size w (v.alloc (.cells #[.int .i64 m.1.kind, .int .i64 (A : Int), .int .i64 (C : Int), .int .i64 m.1.exp, .string m.1.name, .bool m.1.neg, .slice ua un uc, .slice va vn vc] 47)).drew := below_more hb b0V
      have v1 : IntKind.i64.wrap (1 + X) = 1 + X := by rw [IntKind.wrap_i64]; omega
      have v2 : IntKind.i64.wrap (1 + Y) = 1 + Y := by rw [IntKind.wrap_i64]; omega
      have bs := (Below.refl (v.alloc (.cells #[.int .i64 m.1.kind, .int .i64 (A : Int), .int .i64 (C : Int), .int .i64 m.1.exp, .string m.1.name, .bool m.1.neg, .slice ua un uc, .slice va vn vc] 47)).heap.size (v.alloc (.cells #[.int .i64 m.1.kind, .int .i64 (A : Int), .int .i64 (C : Int), .int .i64 m.1.exp, .string m.1.name, .bool m.1.neg, .slice ua un uc, .slice va vn vc] 47))).drew
      have SO : ∀ u, Below (v.alloc (.cells #[.int .i64 m.1.kind, .int .i64 (A : Int), .int .i64 (C : Int), .int .i64 m.1.exp, .string m.1.name, .bool m.1.neg, .slice ua un uc, .slice va vn vc] 47)).heap.size (v.alloc (.cells #[.int .i64 m.1.kind, .int .i64 (A : Int), .int .i64 (C : Int), .int .i64 m.1.exp, .string m.1.name, .bool m.1.neg, .slice ua un uc, .slice va vn vc] 47)) u → (u.cell? ⟨v.heap.size, 1, none⟩ = some (.int .i64 (A : Int)) ∧ u.cell? ⟨v.heap.size, 2, none⟩ = some (.int .i64 (C : Int))) := fun u hu => ⟨((NB.more hu).cell 1).1, ((NB.more hu).cell 2).1⟩
      rcases Int.le_total X Y with hXY | hXY
      · rw [Int.max_eq_right hXY]
        clear ih h hB hV hmd hm hu hv hl tA tC a0 b0 hA hC
        go_enter Tryz.func77, Tryz.ntmps77
        go_wp2
        go_region_held3 (fun u => u.cell? ⟨v.heap.size, 1, none⟩ = some (.int .i64 (A : Int)) ∧ u.cell? ⟨v.heap.size, 2, none⟩ = some (.int .i64 (C : Int))) (exact SO _ bs) (first
          | (go_at_call 77; (with_reducible refine Calls.mono (CC _ bA) ?_); rintro e w2 ⟨rfl, d2⟩; replace bs := below_more bs d2; have bZ := below_more dA d2)
          | (go_at_call 77; (with_reducible refine Calls.mono (CA _ bC) ?_); rintro e w2 ⟨rfl, d2⟩; replace bs := below_more bs d2; have bZ := below_more dC d2)
          | (go_at_call 77; (with_reducible refine Calls.mono (CA _ bV) ?_); rintro e w1 ⟨rfl, dA⟩; have bA := below_more bV dA; replace bs := below_more bs dA)
          | (go_at_call 77; (with_reducible refine Calls.mono (CC _ bV) ?_); rintro e w1 ⟨rfl, dC⟩; have bC := below_more bV dC; replace bs := below_more bs dC))
        all_goals go_wp2
        all_goals
          first
            | (go_ret; exact ⟨rfl, below_more b0V bZ⟩)
            | (obtain rfl : X = Y := by omega
               go_ret; exact ⟨rfl, below_more b0V bZ⟩)
      · rw [Int.max_eq_left hXY]
        clear ih h hB hV hmd hm hu hv hl tA tC a0 b0 hA hC
        go_enter Tryz.func77, Tryz.ntmps77
        go_wp2
        go_region_held3 (fun u => u.cell? ⟨v.heap.size, 1, none⟩ = some (.int .i64 (A : Int)) ∧ u.cell? ⟨v.heap.size, 2, none⟩ = some (.int .i64 (C : Int))) (exact SO _ bs) (first
          | (go_at_call 77; (with_reducible refine Calls.mono (CC _ bA) ?_); rintro e w2 ⟨rfl, d2⟩; replace bs := below_more bs d2; have bZ := below_more dA d2)
          | (go_at_call 77; (with_reducible refine Calls.mono (CA _ bC) ?_); rintro e w2 ⟨rfl, d2⟩; replace bs := below_more bs d2; have bZ := below_more dC d2)
          | (go_at_call 77; (with_reducible refine Calls.mono (CA _ bV) ?_); rintro e w1 ⟨rfl, dA⟩; have bA := below_more bV dA; replace bs := below_more bs dA)
          | (go_at_call 77; (with_reducible refine Calls.mono (CC _ bV) ?_); rintro e w1 ⟨rfl, dC⟩; have bC := below_more bV dC; replace bs := below_more bs dC))
        all_goals go_wp2
        all_goals
          first
            | (go_ret; exact ⟨rfl, below_more b0V bZ⟩)
            | (obtain rfl : X = Y := by omega
               go_ret; exact ⟨rfl, below_more b0V bZ⟩)
    · rw [if_neg (show ¬ m.1.nd.kind ≤ 5 from hk5)]
      generalize tallI (ms.map fun m => m.1.nd) A = X at *
      have NB := BoxC.new v #[.int .i64 m.1.kind, .int .i64 (A : Int), .int .i64 m.1.b, .int .i64 m.1.exp, .string m.1.name, .bool m.1.neg, .slice ua un uc, .slice va vn vc] 47
      have z1 := (NB.cell 1).1
      have b0V : Below v.heap.size v (v.alloc (.cells #[.int .i64 m.1.kind, .int .i64 (A : Int), .int .i64 m.1.b, .int .i64 m.1.exp, .string m.1.name, .bool m.1.neg, .slice ua un uc, .slice va vn vc] 47)) := ((Below.refl _ v).alloc (Nat.le_refl _) _)
      have bV := below_more hb b0V
      have v1 : wrap64 (1 + X) = 1 + X := wrap_smalls (by omega) (by omega)
      clear ih h hB hV hmd hm hu hv hl tA a0 b0 hA
      go_enter Tryz.func77, Tryz.ntmps77
      go_wp2_with (go_at_call 77; (with_reducible refine Calls.mono (CA _ bV) ?_); rintro e w1 ⟨rfl, dA⟩)
      go_ret
      exact ⟨by simp only [v1]; rfl, below_more b0V dA⟩
end
section
open Go.RowKit Go.Lib
def encI (x : Int) : List Value := [.int .i64 x]
theorem encI_length (x : Int) : (encI x).length = 1 := rfl
theorem hts_succ (l : List Nd) (n : Nat) : hts l (n + 1) = hts l n ++ [tallI l n] := by unfold hts; rw [List.range_succ, List.map_append]; rfl
theorem OwnC.ints {T : TypeId} {W w : World} {a : Option Addr} {n c : Nat} {l : List Int} (h : OwnC T 1 W w (.slice a n c) n (flat encI l)) : l.length = n ∧ (n = 0 ∨ ∃ g, a = some ⟨g, 0, none⟩ ∧ ∀ i x, l[i]? = some x → w.cell? ⟨g, i, none⟩ = some (.int .i64 x)) := by
 have hl : l.length = n := by
  have := h.1.1
  rw [flat_length encI_length] at this
  omega
 refine ⟨hl, ?_⟩
 rcases h.1.2 with ⟨-, h0⟩ | ⟨g, cap, cur, e, -, hg, -, -, -, ht⟩
 ·exact .inl h0
 ·right
  simp only [Value.slice.injEq] at e
  refine ⟨g, e.1, fun i x hx => ?_⟩
  have hi : i < l.length := (List.getElem?_eq_some_iff.1 hx).1
  have hf := flat_get encI_length l i x hx 0 (by omega)
  rw [Nat.mul_one, Nat.add_zero] at hf
  have hlt : i < n * 1 := by omega
  rw [← ht, List.getElem?_take, if_pos hlt] at hf
  simp only [World.cell?, hg]
  have hf' : cur.toList[i]? = some (.int .i64 x) := hf
  rw [← hf']
  simp
theorem ref_theights {w : World} {i l o : Value} {a : Option Addr} {n c : Nat} {ms : List Mn} (h : IsN w a n ms) (hn : n ≤ 100000) (hB : Behind (ms.map fun m => m.1.nd)) (hV : ∀ m ∈ ms, (∃ x y z, m.2.1 = .slice x y z) ∧ ∃ x y z, m.2.2 = .slice x y z) (il ic tl tc ol oc : Nat) (ia ta oa : Option Addr) (hi : i = .slice ia il ic) (hl : l = .slice ta tl tc) (ho : o = .slice oa ol oc) :
  Calls Tryz.prog 48 #[.agg #[i, l, o, .slice a n c]] w fun e w' => ∃ ha hc, e = .returned (.slice ha n hc) ∧ OwnC 3 1 w w' (.slice ha n hc) n (flat encI (hts (ms.map fun m => m.1.nd) n)) := by
 subst hi hl ho
 have TA := fun k (hk : k < n) v hb => ref_ttall (c := c) h hn hB hV k hk v hb
 generalize (ms.map fun m => m.1.nd) = L at *
 have HN : Hid (n ≤ 100000) := hn
 obtain ⟨B1, bV, hs⟩ := boxes1 w #[.slice ia il ic, .slice ta tl tc, .slice oa ol oc, .slice a n c] 26
 have HB1 : Hid (BoxC (w.alloc (.cells #[.slice ia il ic, .slice ta tl tc, .slice oa ol oc, .slice a n c] 26)) w.heap.size #[.slice ia il ic, .slice ta tl tc, .slice oa ol oc, .slice a n c] 26 ∧ Below w.heap.size w (w.alloc (.cells #[.slice ia il ic, .slice ta tl tc, .slice oa ol oc, .slice a n c] 26))) := ⟨B1, bV⟩
 clear h hn hB hV B1 bV hs
 go_enter Tryz.func48, Tryz.ntmps48
 go_wp2
 go_loopg [3, 4] n (fun g s3 s4 v => ∃ (t : Nat) (ha : Option Addr) (hc : Nat), s3 = .slice ha t hc ∧ s4 = .int .i64 t ∧ t + g = n ∧ OwnC 3 1 w v (.slice ha t hc) t (flat encI (hts L t)) ∧ BoxC v w.heap.size #[.slice ia il ic, .slice ta tl tc, .slice oa ol oc, .slice a n c] 26)
 case atStart => exact ⟨0, none, 0, rfl, rfl, by omega, OwnC.nil HB1.out.2, HB1.out.1⟩
 case round =>
  obtain ⟨t, ha, hc, rfl, rfl, hg, O, B⟩ := hrel
  have hN := HN.out
  have z3 := (B.cell 3).1
  rcases Nat.lt_or_ge t n with ht | ht
  ·have k1 : (t : Int) < n := by omega
   have w1 : wrap64 ((t : Int) + 1) = (t : Int) + 1 := wrap_smalls (by omega) (by omega)
   have T1 := TA t ht wr O.below
   have HR : Hid (OwnC 3 1 w wr (.slice ha t hc) t (flat encI (hts L t)) ∧ BoxC wr w.heap.size #[.slice ia il ic, .slice ta tl tc, .slice oa ol oc, .slice a n c] 26 ∧ t + gk = n ∧ t < n ∧ (Value.slice ha t hc).ownBlock ≠ some w.heap.size) := ⟨O, B, hg, ht, O.apart B (by decide)⟩
   have m1 : t + 1 ≤ maxLen := by unfold maxLen; omega
   have m2 : (t + 1) * 8 ≤ 140737488355328 := by omega
   have hs := hts_succ L t
   generalize tallI L t = X at *
   clear O B hg ht TA hN HB1
   go_wp2_with (first
    | (go_at_call 77; (with_reducible refine Calls.mono T1 ?_); rintro e w2 ⟨rfl, d2⟩; have O2 := fun ob => (HR.out.1.more d2).alloc ob)
    | (at_builtin; refine wpl_append_c (t := 40) (e := 3) Tryz.underlying40 infoInt rfl (by decide) (.tmp 12) (.tmp 17) rfl rfl w _ _ t (flat encI (hts L t)) (some ⟨w2.heap.size, 0, none⟩) 1 1 (encI X) rfl rfl (O2 _) (BoxC.new w2 #[.int .i64 X] 3).isc (by simp [encI, Value.oneCell']) (fun e => absurd e (by simp)) m1 m2 ?_; intro a6 c6 w6 _ o6 g6; have B6 := ((HR.out.2.1.more d2).alloc (.cells #[.int .i64 X] 3)).grownC g6 HR.out.2.2.2.2; have z3' := (B6.cell 3).1))
   obtain ⟨j1, j2, j3, j4, j5⟩ := HR.out
   go_roundg (n - (t + 1))
   case measure => omega
   case rel => exact ⟨t + 1, a6, c6, rfl, by first | rfl | (rw [w1]; rfl), by omega, by rw [hs, flat_append, flat_one]; exact o6, B6⟩
  ·have k1 : ¬ (t : Int) < n := by omega
   obtain rfl : t = n := by omega
   clear hg ht TA hN HB1 B
   go_wp2
   go_ret
   exact ⟨ha, hc, rfl, O⟩
end
end Go.Proofs.YtaeladkcmpdkhaaGreatDoor
