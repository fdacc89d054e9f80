/-
  Texts of mine put together in build order: ShiftRef, CommonRef, CommonRefB, RatRef, RatRefB, RatRefC, RatRefD, RatRefE, RatRefF, RatRefG, RatRefH, RatFew, RatioWalks, RatioWalksA, RatioWalksB, RatioWalksC, RatioWalksD, RatioWalksE, RatStart, RatioWalksF. Each says at its head what it proves. No conditions of its own.
-/
import Derived.Test.YtpimcbncmfpdhaaGreatDoorPack2
import Derived.Test.YtpimcbncmfpdhaaGreatDoorPack1
import Derived.Deep.LoopGhost
import Derived.Deep.RegionHeld3
/-
  A contract of the document's own answer for shifts (package talwegref03: Shift), for every list of words and every number of bits up to 100000: as numbers; memory that was there stays, and what is answered is the call's own.
-/
namespace Go.Proofs.YtpimcbncmfpdhaaGreatDoor
open Go.RowKit

/-- How many words a shifted number has. -/
theorem nl_shift (A k : Nat) : nl (A * 2 ^ k) ≤ nl A + k := by
  refine Nat.le_trans (nl_le (nl A + k) _ ?_) (Nat.le_refl _)
  rw [Nat.pow_add]
  exact Nat.mul_lt_mul_of_lt_of_le (lt_nl A) (Nat.pow_le_pow_left (by omega) k) (Nat.pow_pos (by omega))

set_option maxHeartbeats 2000000 in
/-- N is the number of bits that counts. -/
theorem ref_tshift (a : Option Addr) (m c : Nat) (zs : List Int) (s : Int) (w : World) (h : IsWords w (.slice a m c) zs) (hz : Wd zs) (hm : m ≤ 1000000) (N : Int) (hN : s ≤ 0 ∧ N = 0 ∨ 0 ≤ s ∧ s ≤ 100000 ∧ N = s) :
    Calls Tryz.prog 141 #[.slice a m c, .int .i64 s] w (Ans w (val zs * 2 ^ N.toNat)) := by
  have T := ref_trim a m c zs w h hz (by omega)
  have hL := (h.low hz).2.2
  clear h hz
  generalize val zs = A at *
  obtain ⟨E, hE1, hE2⟩ : ∃ E : Nat, (E : Int) ≤ N ∧ N ≤ E := ⟨N.toNat, by omega, by omega⟩
  have HE : Hid (N.toNat = E) := (by omega : N.toNat = E)
  have hs : s ≤ E ∧ (E = 0 ∨ (E : Int) ≤ s) ∧ E ≤ 100000 := by omega
  obtain ⟨hs1, hs2, hs3⟩ := hs
  rw [HE.out]
  clear hN hE1 hE2 HE
  go_enter Tryz.func141, Tryz.ntmps141
  go_wp2_with (first
    | (go_at_call 41; (with_reducible refine Calls.mono T ?_); rintro e w1 ⟨a1, c1, rfl, o1⟩))
  clear T
  go_loopw [5, 6] (fun s i v => ∃ (k : Nat) (oa : Option Addr) (ol oc : Nat) (P : List Int), k ≤ E ∧ i = .int .i64 k ∧ s = .slice oa ol oc ∧ Own w v (.slice oa ol oc) ol P ∧ ol = nl (A * 2 ^ k) ∧ P = natOf (A * 2 ^ k)) (fun _ i _ => E - (intOf i).toNat)
  case atStart => exact ⟨0, a1, _, c1, _, by omega, rfl, rfl, o1, by simp, by simp⟩
  case round =>
    obtain ⟨k, oa, ol, oc, P, hk, rfl, rfl, o, hol, rfl⟩ := hrel
    clear o1
    by_cases hlt : k < E
    · by_cases hA : A = 0
      · have h0 : ol = 0 := by rw [hol, hA]; simp [nl_zero]
        have HE : Hid (A * 2 ^ k = A * 2 ^ E) := by show _ = _; rw [hA]; simp
        rw [HE.out] at o hol
        have HO : Hid (ol = nl (A * 2 ^ E)) := hol
        clear hol hA
        have h1 : (k : Int) < s := by omega
        have h3 : (k : Int) < 100000 := by omega
        subst h0
        clear hs3 hs2 hs1 hlt hk hL
        go_wp2
        go_ret
        have e := HO.out
        exact ⟨oa, oc, by rw [← e]; rfl, by rw [← e]; exact o⟩
      · have h0 : 0 < ol := by rw [hol]; exact nl_pos (Nat.mul_pos (by omega) (Nat.pow_pos (by omega)))
        have W1 := nl_shift A k
        have M1 := ref_one _ _ _ _ 2 0 _ o.words (wd_natOf (A * 2 ^ k)) (by rw [hol]; omega) (by omega) (by omega) (by omega) (by omega)
        rw [val_natOf, show A * 2 ^ k * (2 : Int).toNat + (0 : Int).toNat = A * 2 ^ (k + 1) by rw [Nat.pow_succ, ← Nat.mul_assoc]; rfl] at M1
        have HO : Hid (ol = nl (A * 2 ^ k)) := hol
        have h1 : (k : Int) < s := by omega
        have h2 : ol ≤ 2000000 := by omega
        have h3 : (k : Int) < 100000 := by omega
        have h4 : k + 1 ≤ E := hlt
        clear hol hA W1 hs3 hs2 hs1 hk hL
        go_wp2_with (first
          | (go_at_call 97; (with_reducible refine Calls.mono M1 ?_); rintro e w3 ⟨a3, c3, rfl, o3⟩))
        go_roundw
        case rel => exact ⟨k + 1, a3, _, c3, _, by omega, by go_num, rfl, o3.outer o.below, rfl, rfl⟩
        case measure => simp [intOf]; omega
    · obtain rfl : k = E := by omega
      subst hol
      have h1 : ¬ (k : Int) < s := by omega
      go_wp2
      go_ret
      exact ⟨_, _, rfl, o⟩
end Go.Proofs.YtpimcbncmfpdhaaGreatDoor
/-
  Contracts of the document's own answers of layer 5 (package talwegref05: odd, Gcd, Lowest, Lcm), for every two lists of up to three thousand words: as numbers; memory that was there stays, and what is answered is the call's own.
-/
namespace Go.Proofs.YtpimcbncmfpdhaaGreatDoor
open Go.RowKit

theorem natOf_low {A : Nat} (h : 0 < A) : (natOf A).getD 0 0 = ((A % 4294967296 : Nat) : Int) := by rw [natOf_pos (by omega)]; rfl

/-- Halving is a step down. -/
theorem half_step {A1 k A : Nat} (h : A1 * 2 ^ k = A) (he : A1 % 2 = 0) : A1 / 2 * 2 ^ (k + 1) = A := by
  have e : A1 = A1 / 2 * 2 := by omega
  rw [← h, Nat.pow_succ]
  conv => rhs; rw [e]
  rw [Nat.mul_assoc, Nat.mul_comm 2]
theorem twos_le {A1 k A : Nat} (h : A1 * 2 ^ k = A) (hA : 0 < A) : 0 < A1 ∧ k < nbits A + 1 := by
  have h1 : 0 < A1 := by
    rcases Nat.eq_zero_or_pos A1 with e | e
    · rw [e] at h; omega
    · exact e
  refine ⟨h1, ?_⟩
  rcases Nat.lt_or_ge (nbits A) k with h2 | h2
  · have h3 := lt_nbits A
    have h4 : 2 ^ nbits A ≤ 2 ^ k := Nat.pow_le_pow_right (by omega) (by omega)
    have h5 : 2 ^ k ≤ A1 * 2 ^ k := Nat.le_mul_of_pos_left _ h1
    omega
  · omega
theorem nbits_words (A : Nat) : nbits A ≤ 32 * nl A := nbits_le _ _ (by rw [← pow_word]; exact lt_nl A)

set_option maxHeartbeats 2000000 in
theorem ref_odd (W : World) (a : Option Addr) (c A : Nat) (w : World) (o : Own W w (.slice a (nl A) c) (nl A) (natOf A)) (hA : 0 < A) (hL : nl A ≤ 3000) :
    Calls Tryz.prog 140 #[.slice a (nl A) c] w fun e w' => ∃ (A1 k : Nat) (a1 : Option Addr) (c1 : Nat), e = .returned (.tuple #[.slice a1 (nl A1) c1, .int .i64 k]) ∧ Own W w' (.slice a1 (nl A1) c1) (nl A1) (natOf A1) ∧ Below w.heap.size w w' ∧ A1 * 2 ^ k = A ∧ A1 % 2 = 1 ∧ k ≤ 96000 := by
  have hN := nbits_words A
  have HT : Hid (∀ A1 k, A1 * 2 ^ k = A → 0 < A1 ∧ k ≤ 96000 ∧ nl A1 ≤ 3000) := fun A1 k h => by
    obtain ⟨h1, h2⟩ := twos_le h hA
    exact ⟨h1, by omega, Nat.le_trans (nl_mono (by rw [← h]; exact Nat.le_mul_of_pos_right _ (Nat.pow_pos (by omega)))) hL⟩
  clear hN
  go_enter Tryz.func140, Tryz.ntmps140
  go_wp2
  go_loopg [0, 4] A (fun A1 s0 s4 v => ∃ (k : Nat) (a1 : Option Addr) (c1 : Nat), s0 = .slice a1 (nl A1) c1 ∧ s4 = .int .i64 k ∧ Own W v (.slice a1 (nl A1) c1) (nl A1) (natOf A1) ∧ Below w.heap.size w v ∧ A1 * 2 ^ k = A)
  case atStart => exact ⟨0, a, c, rfl, rfl, o, Below.refl _ _, by simp⟩
  case round =>
    obtain ⟨k, a1, c1, rfl, rfl, o1, b1, hk⟩ := hrel
    clear o
    obtain ⟨p1, k1, l1⟩ := HT.out gk k hk
    have hnl : 0 < nl gk := nl_pos p1
    obtain ⟨g, rfl⟩ := o1.at0 hnl
    obtain ⟨hc, hf, -, -⟩ := o1.cell 0 hnl
    rw [natOf_low p1] at hc
    have S := fun v (q : IsWords v (.slice (some ⟨g, 0, none⟩) (nl gk) c1) (natOf gk)) => ref_small4 _ _ _ _ 2 v q (wd_natOf gk) (by omega) (by omega) (by omega)
    rw [val_natOf, show (2 : Int).toNat = 2 from rfl] at S
    unfold AnsSmall at S
    obtain ⟨z, hz, z0, z1, hz2⟩ : ∃ z : Int, ((gk % 4294967296 : Nat) : Int) = z ∧ 0 ≤ z ∧ z < 4294967296 ∧ z % 2 = ((gk % 2 : Nat) : Int) := ⟨_, rfl, by omega, by omega, by omega⟩
    rw [hz] at hc
    clear hz
    have HK : Hid (gk * 2 ^ k = A) := hk
    clear hk hA hL
    rcases (by omega : gk % 2 = 0 ∨ gk % 2 = 1) with he | he
    · rw [he, show ((0 : Nat) : Int) = 0 from rfl] at hz2
      have HE : Hid (gk % 2 = 0 ∧ 0 < gk) := ⟨he, p1⟩
      clear he p1 l1
      go_wp2_with (first
        | (go_at_call 111; (with_reducible refine Calls.mono (S wr o1.words) ?_); rintro e w2 ⟨a2, c2, rfl, o2⟩))
      obtain ⟨f1, f2⟩ := HE.out
      go_roundg (gk / 2)
      case measure => omega
      case rel => exact ⟨k + 1, a2, c2, rfl, by go_num, o2.outer o1.below, below_more b1 o2.below, half_step HK.out f1⟩
    · rw [he, show ((1 : Nat) : Int) = 1 from rfl] at hz2
      have HE : Hid (gk % 2 = 1) := he
      clear he p1 l1 S
      go_wp2
      go_ret2
      exact ⟨gk, k, some ⟨g, 0, none⟩, c1, rfl, o1, b1, HK.out, HE.out, k1⟩
end Go.Proofs.YtpimcbncmfpdhaaGreatDoor
/-
  Contracts of the document's own answers of layer 5 (package talwegref05: Gcd, Lowest, Lcm), for every two lists of up to three thousand words: as numbers; memory that was there stays, and what is answered is the call's own.
-/
namespace Go.Proofs.YtpimcbncmfpdhaaGreatDoor
open Go.RowKit

theorem odd_co {a : Nat} (h : a % 2 = 1) (j : Nat) : Nat.Coprime (2 ^ j) a := by
  refine (Nat.Coprime.pow_right j ?_).symm
  unfold Nat.Coprime; rw [Nat.gcd_comm, Nat.gcd_rec, h]; rfl

theorem gcd_twos {A1 B1 n k : Nat} (ha : A1 % 2 = 1) (h : n ≤ k) : Nat.gcd (A1 * 2 ^ n) (B1 * 2 ^ k) = Nat.gcd A1 B1 * 2 ^ n := by
  rw [show B1 * 2 ^ k = B1 * 2 ^ (k - n) * 2 ^ n by rw [Nat.mul_assoc, ← Nat.pow_add, Nat.sub_add_cancel h], Nat.gcd_mul_right, Nat.Coprime.gcd_mul_right_cancel_right _ (odd_co ha _)]

theorem gcd_down {X Y D j : Nat} (hD : D * 2 ^ j = X - Y) (h : Y ≤ X) (hy : Y % 2 = 1) : Nat.gcd D Y = Nat.gcd X Y := by
  rw [← Nat.gcd_sub_self_left h, ← hD, Nat.Coprime.gcd_mul_right_cancel _ (odd_co hy _)]

theorem odd_less {X Y D j : Nat} (hD : D * 2 ^ j = X - Y) : D ≤ X - Y := by
  rw [← hD]; exact Nat.le_mul_of_pos_right _ (Nat.pow_pos (by omega))

set_option maxHeartbeats 4000000 in
theorem ref_gcd {a : Option Addr} {m c : Nat} {xs : List Int} {b : Option Addr} {m' d : Nat} {ys : List Int} {w : World} (h : IsWords w (.slice a m c) xs) (hx : Wd xs) (k : IsWords w (.slice b m' d) ys) (hy : Wd ys) (hm : m ≤ 3000) (hm' : m' ≤ 3000) (A B : Nat) (hA : val xs = A) (hB : val ys = B) :
    Calls Tryz.prog 114 #[.slice a m c, .slice b m' d] w (Ans w (Nat.gcd A B)) := by
  have T1 := ref_trim a m c xs w h hx (by omega)
  have T2 := fun v (hb : Below w.heap.size w v) => ref_trim b m' d ys v (k.below hb) hy (by omega)
  have lA : nl A ≤ 3000 := by rw [← hA]; exact nl_small hx _ (by rw [h.len]; exact hm)
  have lB : nl B ≤ 3000 := by rw [← hB]; exact nl_small hy _ (by rw [k.len]; exact hm')
  rw [hA] at T1
  simp only [hB] at T2
  unfold Ans at T1 T2 ⊢
  clear h k hx hy hm hm' hA hB
  rcases Nat.eq_zero_or_pos A with h0 | h0
  · subst h0
    rw [Nat.gcd_zero_left]
    simp only [nl_zero] at T1
    clear lA lB
    go_enter Tryz.func114, Tryz.ntmps114
    go_wp2_with (first
      | (go_at_call 41; (with_reducible refine Calls.mono T1 ?_); rintro e w1 ⟨a1, c1, rfl, o1⟩)
      | (go_at_call 41; (with_reducible refine Calls.mono (T2 w1 o1.below) ?_); rintro e w2 ⟨a2, c2, rfl, o2⟩))
    go_ret
    exact ⟨_, _, rfl, o2.outer o1.below⟩
  have hA0 : ((nl A : Int) == 0) = false := by have := nl_pos h0; simp; omega
  rcases Nat.eq_zero_or_pos B with g0 | g0
  · subst g0
    rw [Nat.gcd_zero_right]
    simp only [nl_zero] at T2
    clear lA lB h0
    go_enter Tryz.func114, Tryz.ntmps114
    go_wp2_with (first
      | (go_at_call 41; (with_reducible refine Calls.mono T1 ?_); rintro e w1 ⟨a1, c1, rfl, o1⟩)
      | (go_at_call 41; (with_reducible refine Calls.mono (T2 w1 o1.below) ?_); rintro e w2 ⟨a2, c2, rfl, o2⟩))
    go_ret
    exact ⟨_, _, rfl, o1.more o2.below⟩
  have hB0 : ((nl B : Int) == 0) = false := by have := nl_pos g0; simp; omega
  have D1 := fun v a1 c1 (o : Own w v (.slice a1 (nl A) c1) (nl A) (natOf A)) => ref_odd w a1 c1 A v o h0 lA
  have D2 := fun v a1 c1 (o : Own w v (.slice a1 (nl B) c1) (nl B) (natOf B)) => ref_odd w a1 c1 B v o g0 lB
  have HL : Hid (nl A ≤ 3000 ∧ nl B ≤ 3000) := ⟨lA, lB⟩
  clear lA lB h0 g0
  go_enter Tryz.func114, Tryz.ntmps114
  go_wp2_with (first
    | (go_at_call 41; (with_reducible refine Calls.mono T1 ?_); rintro e w1 ⟨a1, c1, rfl, o1⟩)
    | (go_at_call 41; (with_reducible refine Calls.mono (T2 w1 o1.below) ?_); rintro e w2 ⟨a2, c2, rfl, o2⟩; have p2 := o1.more o2.below; have q2 := o2.outer o1.below)
    | (go_at_call 140; (with_reducible refine Calls.mono (D1 w2 _ _ p2) ?_); rintro e w3 ⟨A1, n, a3, c3, rfl, o3, b3, e3, f3, n3⟩; have q3 := q2.more b3; have E3 : Hid (A1 * 2 ^ n = A) := e3; have F3 : Hid (A1 % 2 = 1) := f3; clear e3 f3 D1)
    | (go_at_call 140; (with_reducible refine Calls.mono (D2 w3 _ _ q3) ?_); rintro e w4 ⟨B1, k, a4, c4, rfl, o4, b4, e4, f4, n4⟩; have p4 := o3.more b4; have E4 : Hid (B1 * 2 ^ k = B) := e4; have F4 : Hid (B1 % 2 = 1) := f4; clear e4 f4 D2))
  have HS : Hid (nl A1 ≤ 3000 ∧ nl B1 ≤ 3000) := by
    refine ⟨Nat.le_trans (nl_mono ?_) HL.out.1, Nat.le_trans (nl_mono ?_) HL.out.2⟩
    · rw [← E3.out]; exact Nat.le_mul_of_pos_right _ (Nat.pow_pos (by omega))
    · rw [← E4.out]; exact Nat.le_mul_of_pos_right _ (Nat.pow_pos (by omega))
  clear o1 o2 o3 p2 q2 q3 b3 b4 T1 T2 HL hA0 hB0
  go_loopg [5, 6, 9] (A1 + B1) (fun g s5 s6 s9 v => ∃ (X Y : Nat) (a5 : Option Addr) (c5 : Nat) (a6 : Option Addr) (c6 : Nat), g = X + Y ∧ s5 = .slice a5 (nl X) c5 ∧ s6 = .slice a6 (nl Y) c6 ∧ Own w v (.slice a5 (nl X) c5) (nl X) (natOf X) ∧ Own w v (.slice a6 (nl Y) c6) (nl Y) (natOf Y) ∧ X % 2 = 1 ∧ Y % 2 = 1 ∧ Nat.gcd X Y = Nat.gcd A1 B1 ∧ nl X ≤ 3000 ∧ nl Y ≤ 3000)
  case atStart => exact ⟨A1, B1, _, _, _, _, rfl, rfl, rfl, p4, o4, F3.out, F4.out, rfl, HS.out.1, HS.out.2⟩
  case round =>
    obtain ⟨X, Y, a5, c5, a6, c6, rfl, rfl, rfl, oX, oY, oddX, oddY, hg, lX, lY⟩ := hrel
    clear p4 o4 HS
    have C := fun v (p : IsWords v (.slice a5 (nl X) c5) (natOf X)) (q : IsWords v (.slice a6 (nl Y) c6) (natOf Y)) => ref_cmp _ _ _ _ _ _ _ _ v p (wd_natOf X) q (wd_natOf Y) (by omega) (by omega)
    simp only [val_natOf] at C
    have HG : Hid (Nat.gcd X Y = Nat.gcd A1 B1) := hg
    have HX : Hid (X % 2 = 1 ∧ nl X ≤ 3000) := ⟨oddX, lX⟩
    have HY : Hid (Y % 2 = 1 ∧ nl Y ≤ 3000) := ⟨oddY, lY⟩
    clear hg oddX oddY
    rcases Nat.lt_trichotomy X Y with hlt | rfl | hlt
    · rw [sgn_lt (by omega)] at C
      have S := fun v (p : IsWords v (.slice a5 (nl X) c5) (natOf X)) (q : IsWords v (.slice a6 (nl Y) c6) (natOf Y)) => ref_nsub _ _ _ _ _ _ _ _ v q (wd_natOf Y) p (wd_natOf X) (by omega) (by omega) (by rw [val_natOf, val_natOf]; omega)
      simp only [val_natOf] at S
      unfold AnsOk at S
      have O := fun v a1 c1 (o : Own w v (.slice a1 (nl (Y - X)) c1) (nl (Y - X)) (natOf (Y - X))) => ref_odd w a1 c1 (Y - X) v o (by omega) (Nat.le_trans (nl_mono (by omega)) lY)
      have HD : Hid (X < Y ∧ nl (Y - X) ≤ 3000) := ⟨hlt, Nat.le_trans (nl_mono (by omega)) lY⟩
      clear lX lY hlt
      generalize hZ : Y - X = Z at S O HD
      have HZ : Hid (Y - X = Z) := hZ
      clear hZ
      go_wp2_with (first
        | (go_at_call 91; (with_reducible refine Calls.mono (C _ oX.words oY.words) ?_); rintro e w5 ⟨rfl, rfl⟩)
        | (go_at_call 96; (with_reducible refine Calls.mono (S _ oX.words oY.words) ?_); rintro e w6 ⟨a7, c7, rfl, o7⟩; have o7' := o7.outer oX.below)
        | (go_at_call 140; (with_reducible refine Calls.mono (O w6 _ _ o7') ?_); rintro e w7 ⟨D, j, a8, c8, rfl, o8, b8, e8, f8, n8⟩; have E8 : Hid (D * 2 ^ j = Z) := e8; have F8 : Hid (D % 2 = 1) := f8; clear e8 f8))
      have E9 : D * 2 ^ j = Y - X := by rw [HZ.out]; exact E8.out
      have h9 := odd_less E9
      have h10 := HD.out.1
      go_roundg (D + X)
      case measure => have := HX.out.1; omega
      case rel => exact ⟨D, X, _, _, _, _, rfl, rfl, rfl, o8, (oX.more o7.below).more b8, F8.out, HX.out.1, by rw [gcd_down E9 (by omega) HX.out.1, Nat.gcd_comm]; exact HG.out, Nat.le_trans (nl_mono (by omega)) HY.out.2, HX.out.2⟩
    · rw [sgn_eq rfl] at C
      have SH := fun v (s : Nat) (hs : s ≤ 96000) (p : IsWords v (.slice a5 (nl X) c5) (natOf X)) => ref_tshift a5 (nl X) c5 (natOf X) s v p (wd_natOf X) (by omega) s (.inr ⟨by omega, by omega, rfl⟩)
      simp only [val_natOf, Int.toNat_natCast] at SH
      unfold Ans at SH
      have hG := HG.out
      rw [Nat.gcd_self] at hG
      rcases Nat.lt_or_ge k n with hnk | hnk
      case' inl =>
        have SN := fun v => SH v k n4
        have HE : Hid (X * 2 ^ k = Nat.gcd A B) := by show _ = _; rw [← E3.out, ← E4.out, Nat.gcd_comm, gcd_twos F4.out (by omega), Nat.gcd_comm, hG]
      case' inr =>
        have SN := fun v => SH v n n3
        have HE : Hid (X * 2 ^ n = Nat.gcd A B) := by show _ = _; rw [← E3.out, ← E4.out, gcd_twos F3.out hnk, hG]
      all_goals
        clear SH hG lX lY n3 n4
        go_wp2_with (first
          | (go_at_call 91; (with_reducible refine Calls.mono (C _ oX.words oY.words) ?_); rintro e w5 ⟨rfl, rfl⟩)
          | (go_at_call 141; (with_reducible refine Calls.mono (SN _ oX.words) ?_); rintro e w6 ⟨a7, c7, rfl, o7⟩))
        rw [HE.out] at o7
        go_ret
        exact ⟨_, _, by rw [HE.out]; rfl, o7.outer oX.below⟩
    · rw [sgn_gt (by omega)] at C
      have S := fun v (p : IsWords v (.slice a5 (nl X) c5) (natOf X)) (q : IsWords v (.slice a6 (nl Y) c6) (natOf Y)) => ref_nsub _ _ _ _ _ _ _ _ v p (wd_natOf X) q (wd_natOf Y) (by omega) (by omega) (by rw [val_natOf, val_natOf]; omega)
      simp only [val_natOf] at S
      unfold AnsOk at S
      have O := fun v a1 c1 (o : Own w v (.slice a1 (nl (X - Y)) c1) (nl (X - Y)) (natOf (X - Y))) => ref_odd w a1 c1 (X - Y) v o (by omega) (Nat.le_trans (nl_mono (by omega)) lX)
      have HD : Hid (Y < X ∧ nl (X - Y) ≤ 3000) := ⟨hlt, Nat.le_trans (nl_mono (by omega)) lX⟩
      clear lX lY hlt
      generalize hZ : X - Y = Z at S O HD
      have HZ : Hid (X - Y = Z) := hZ
      clear hZ
      go_wp2_with (first
        | (go_at_call 91; (with_reducible refine Calls.mono (C _ oX.words oY.words) ?_); rintro e w5 ⟨rfl, rfl⟩)
        | (go_at_call 96; (with_reducible refine Calls.mono (S _ oX.words oY.words) ?_); rintro e w6 ⟨a7, c7, rfl, o7⟩; have o7' := o7.outer oX.below)
        | (go_at_call 140; (with_reducible refine Calls.mono (O w6 _ _ o7') ?_); rintro e w7 ⟨D, j, a8, c8, rfl, o8, b8, e8, f8, n8⟩; have E8 : Hid (D * 2 ^ j = Z) := e8; have F8 : Hid (D % 2 = 1) := f8; clear e8 f8))
      have E9 : D * 2 ^ j = X - Y := by rw [HZ.out]; exact E8.out
      have h9 := odd_less E9
      have h10 := HD.out.1
      go_roundg (D + Y)
      case measure => have := HY.out.1; omega
      case rel => exact ⟨D, Y, _, _, _, _, rfl, rfl, rfl, o8, (oY.more o7.below).more b8, F8.out, HY.out.1, by rw [gcd_down E9 (by omega) HY.out.1]; exact HG.out, Nat.le_trans (nl_mono (by omega)) HX.out.2, HY.out.2⟩

theorem ref_lowest {a : Option Addr} {m c : Nat} {xs : List Int} {b : Option Addr} {m' d : Nat} {ys : List Int} {w : World} (h : IsWords w (.slice a m c) xs) (hx : Wd xs) (k : IsWords w (.slice b m' d) ys) (hy : Wd ys) (hm : m ≤ 3000) (hm' : m' ≤ 3000) (A B : Nat) (hA : val xs = A) (hB : val ys = B) :
    Calls Tryz.prog 83 #[.slice a m c, .slice b m' d] w (AnsDivB w (low1 A B) (B / Nat.gcd A B) (decide (0 < B))) := by
  have T2 := ref_trim b m' d ys w k hy (by omega)
  rw [hB] at T2
  unfold Ans at T2
  have lB : nl B ≤ 3000 := by rw [← hB]; exact nl_small hy _ (by rw [k.len]; exact hm')
  rcases Nat.eq_zero_or_pos B with h0 | h0
  · subst h0
    rw [show low1 A 0 = 0 from rfl, Nat.zero_div, show decide (0 < 0) = false from rfl]
    unfold AnsDivB
    simp only [nl_zero] at T2 ⊢
    clear h k hx hy hm hm' hA hB lB
    go_enter Tryz.func83, Tryz.ntmps83
    go_wp2_with (go_at_call 41; (with_reducible refine Calls.mono T2 ?_); rintro e w1 ⟨a1, c1, rfl, o1⟩)
    have E := nil_nl o1.below
    rw [nl_zero] at E
    go_ret3
    exact ⟨_, _, _, _, rfl, E, E⟩
  · have hB0 : ((nl B : Int) == 0) = false := by have := nl_pos h0; simp; omega
    have e1 : low1 A B = A / Nat.gcd A B := if_neg (by omega)
    rw [e1, show decide (0 < B) = true from decide_eq_true h0]
    have G := fun v a1 c1 (hb : Below w.heap.size w v) (hg : IsWords v (.slice a1 (nl B) c1) (natOf B)) => ref_gcd (h.below hb) hx hg (wd_natOf B) hm lB A B hA (val_natOf B)
    have hg : nl (Nat.gcd A B) ≤ 3000 := Nat.le_trans (nl_mono (Nat.gcd_le_right _ h0)) lB
    have D1 := fun v g1 c1 (hb : Below w.heap.size w v) (hg : IsWords v (.slice g1 (nl (Nat.gcd A B)) c1) (natOf (Nat.gcd A B))) => ref_div_any (h.below hb) hx hg (wd_natOf _) (by omega) (by omega) A (Nat.gcd A B) hA (val_natOf _)
    have D2 := fun v b1 d1 g1 c1 (hk : IsWords v (.slice b1 (nl B) d1) (natOf B)) (hg : IsWords v (.slice g1 (nl (Nat.gcd A B)) c1) (natOf (Nat.gcd A B))) => ref_div_any hk (wd_natOf _) hg (wd_natOf _) (by omega) (by omega) B (Nat.gcd A B) (val_natOf _) (val_natOf _)
    unfold Ans at G
    unfold AnsDivB at D1 D2 ⊢
    generalize A / Nat.gcd A B = X at D1 ⊢
    generalize B / Nat.gcd A B = Y at D2 ⊢
    generalize rest A (Nat.gcd A B) = R1 at D1
    generalize rest B (Nat.gcd A B) = R2 at D2
    generalize decide (0 < Nat.gcd A B) = r at D1 D2
    generalize Nat.gcd A B = g at G D1 D2 hg
    clear h k hx hy hm hm' hA hB hg e1 h0 lB
    go_enter Tryz.func83, Tryz.ntmps83
    go_wp2_with (first
      | (go_at_call 41; (with_reducible refine Calls.mono T2 ?_); rintro e w1 ⟨a1, c1, rfl, o1⟩)
      | (go_at_call 114; (with_reducible refine Calls.mono (G w1 _ _ o1.below o1.words) ?_); rintro e w2 ⟨a2, c2, rfl, o2⟩; have b2 := below_more o1.below o2.below)
      | (go_at_call 115; (with_reducible refine Calls.mono (D1 w2 _ _ b2 o2.words) ?_); rintro e w3 ⟨a3, c3, a4, c4, rfl, o3, o4⟩; have p3 := (o1.more o2.below).more o3.below; have q3 := o2.more o3.below)
      | (go_at_call 115; (with_reducible refine Calls.mono (D2 w3 _ _ _ _ p3.words q3.words) ?_); rintro e w4 ⟨a5, c5, a6, c6, rfl, o5, o6⟩))
    go_ret3
    exact ⟨_, _, _, _, rfl, (o3.more o5.below).outer b2, o5.outer (below_more b2 o3.below)⟩

end Go.Proofs.YtpimcbncmfpdhaaGreatDoor
/-
  Contracts of the document's own answers of layer 8 (package talwegref08: lowest, Fix, Equal, Right, Make, Of), for every Rat of up to 3000 words each: as rational numbers; memory that was there stays, and what is answered is the call's own.
-/
namespace Go.Proofs.YtpimcbncmfpdhaaGreatDoor
open Go.RowKit

/-- The answer is the Rat of a sign and two numbers, memory of the call's own. -/
def AnsT (W : World) (t : R3) (e : Ending) (w' : World) : Prop :=
  ∃ a c b d, e = .returned (.agg #[.bool t.1, .slice a (nl t.2.1) c, .slice b (nl t.2.2) d]) ∧ Own W w' (.slice a (nl t.2.1) c) (nl t.2.1) (natOf t.2.1) ∧ Own W w' (.slice b (nl t.2.2) d) (nl t.2.2) (natOf t.2.2)
/-- As AnsT, with an error's number. -/
def AnsTE (W : World) (t : R3) (E : Int) (e : Ending) (w' : World) : Prop :=
  ∃ a c b d, e = .returned (.tuple #[.agg #[.bool t.1, .slice a (nl t.2.1) c, .slice b (nl t.2.2) d], .int .i64 E]) ∧ Own W w' (.slice a (nl t.2.1) c) (nl t.2.1) (natOf t.2.1) ∧ Own W w' (.slice b (nl t.2.2) d) (nl t.2.2) (natOf t.2.2)

/-- Three stores into a box below what is owned. -/
theorem OwnA.set3 {W w : World} {B : Nat} {v : Value} {n : Nat} {xs : List Int} (h : OwnA W B w v n xs) {k : Nat} (h1 : W.heap.size ≤ k) (h2 : k < B) (x y z : Value) : OwnA W B (((w.setCell ⟨k, 0, none⟩ x).setCell ⟨k, 1, none⟩ y).setCell ⟨k, 2, none⟩ z) v n xs :=
  ((h.set h1 h2 0 x).set h1 h2 1 y).set h1 h2 2 z
theorem ansT_mk {W w' : World} {s : Bool} {a : Option Addr} {c : Nat} {b : Option Addr} {d N D : Nat} (h1 : Own W w' (.slice a (nl N) c) (nl N) (natOf N)) (h2 : Own W w' (.slice b (nl D) d) (nl D) (natOf D)) : AnsT W (s, N, D) (.returned (.agg #[.bool s, .slice a (nl N) c, .slice b (nl D) d])) w' := ⟨a, c, b, d, rfl, h1, h2⟩

set_option maxHeartbeats 4000000 in
theorem ref_rlow {s : Bool} {a : Option Addr} {n c : Nat} {xs : List Int} {b : Option Addr} {m d : Nat} {ys : List Int} {w : World} (h : IsWords w (.slice a n c) xs) (hx : Wd xs) (k : IsWords w (.slice b m d) ys) (hy : Wd ys) (hn : n ≤ 3000) (hm : m ≤ 3000) (q : Rat) (hq : rv s (val xs) (val ys) = q) :
    Calls Tryz.prog 47 #[.agg #[.bool s, .slice a n c], .slice b m d] w (AnsT w (tri q)) := by
  subst hq
  have L := fun v (hb : Below w.heap.size w v) => ref_lowest (h.below hb) hx (k.below hb) hy hn hm _ _ rfl rfl
  unfold AnsDivB at L
  obtain ⟨b1, b2, bV, hs⟩ := boxes2 w #[.bool s, .slice a n c] #[.bool false, .slice none 0 0, .slice none 0 0] 26 24
  clear h k hx hy hn hm
  generalize val xs = A at *
  generalize val ys = D at *
  have ONE := fun (v : World) (hv : Below w.heap.size w v) => own_lit w v [1] 1 hv rfl (by decide)
  have n1 : natOf 1 = [1] := natOf_lit [1] (wd_one (by omega) (by omega)) (by decide) (by decide)
  have l1 : nl 1 = 1 := by unfold nl; rw [n1]; rfl
  by_cases h0 : 0 < A ∧ 0 < D
  · obtain ⟨hA, hD⟩ := h0
    rw [tri_rv s A D hA hD]
    rw [show low1 A D = A / Nat.gcd A D from if_neg (by omega), show decide (0 < D) = true from decide_eq_true hD] at L
    have hX : 0 < A / Nat.gcd A D := Nat.div_pos (Nat.le_of_dvd hA (Nat.gcd_dvd_left _ _)) (Nat.gcd_pos_of_pos_left _ hA)
    generalize A / Nat.gcd A D = X at *
    generalize D / Nat.gcd A D = Y at *
    have hX0 : ((nl X : Int) == 0) = false := by have := nl_pos hX; simp; omega
    clear hA hD hX ONE n1 l1
    go_enter Tryz.func47, Tryz.ntmps47
    go_wp2_with (go_at_call 83; (with_reducible refine Calls.mono (L _ bV) ?_); rintro e w1 ⟨a1, c1, a2, c2, rfl, o1, o2⟩; obtain ⟨x0, x1, f0, f1⟩ := (b1.more o1.below).cells2; obtain ⟨y0, y1, y2, g0, g1, g2⟩ := (b2.more o1.below).cells3)
    exact bodyPost_ret (v := .agg #[.bool s, .slice a1 (nl X) c1, .slice a2 (nl Y) c2]) (by simp [results, Tryz.results47, go_sem, y0, y1, y2]) rfl (ansT_mk (((o1.above bV).set3 (by omega) hs _ _ _).own (by omega)) (((o2.above bV).set3 (by omega) hs _ _ _).own (by omega)))
  · have e0 : rv s A D = 0 := (rv_zero_iff s A D).2 (by omega)
    rw [e0, tri_zero]
    have hR : decide (0 < D) = false ∨ decide (0 < D) = true ∧ low1 A D = 0 := by
      rcases Nat.eq_zero_or_pos D with h | h
      · exact .inl (by simp [h])
      · refine .inr ⟨decide_eq_true h, ?_⟩
        obtain rfl : A = 0 := by omega
        rw [show low1 0 D = 0 / Nat.gcd 0 D from if_neg (by omega), Nat.zero_div]
    generalize low1 A D = X at L hR
    generalize D / Nat.gcd A D = Y at L
    clear h0 e0
    have q : ∀ (w1 : World) (x y : Value), Below w.heap.size w w1 → w.heap.size + 1 < w1.heap.size → AnsT w (false, 0, 1) (.returned (.agg #[.bool false, .slice none (nl 0) 0, .slice (some ⟨w1.heap.size, 0, none⟩) (nl 1) 1])) ((((w1.alloc (.cells #[.int .u32 1] 62)).setCell ⟨w.heap.size + 1, 0, none⟩ (.bool false)).setCell ⟨w.heap.size + 1, 1, none⟩ x).setCell ⟨w.heap.size + 1, 2, none⟩ y) := fun w1 x y hb hw => by
      have o : Own w1 (w1.alloc (.cells #[.int .u32 1] 62)) (.slice (some ⟨w1.heap.size, 0, none⟩) (nl 1) 1) (nl 1) (natOf 1) := by rw [l1, n1]; exact own_lit w1 w1 [1] 1 (Below.refl _ _) rfl (by decide)
      have oa := (o.above hb).set3 (k := w.heap.size + 1) (by omega) hw (.bool false) x y
      exact ansT_mk (nil_nl oa.2) (oa.own hb.size)
    clear ONE
    rcases hR with h1 | ⟨h1, h2⟩
    case' inl => rw [h1] at L
    case' inr => rw [h1, h2, nl_zero] at L
    all_goals
      clear h1 n1
      go_enter Tryz.func47, Tryz.ntmps47
      go_wp2_with (go_at_call 83; (with_reducible refine Calls.mono (L _ bV) ?_); rintro e w1 ⟨a1, c1, a2, c2, rfl, o1, o2⟩; obtain ⟨x0, x1, f0, f1⟩ := (b1.more o1.below).cells2; have B2 := fun o => ((b2.more o1.below).alloc o).cells3; have y0 := fun o => (B2 o).1; have y1 := fun o => (B2 o).2.1; have y2 := fun o => (B2 o).2.2.1; have g0 := fun o => (B2 o).2.2.2.1; have g1 := fun o => (B2 o).2.2.2.2.1; have g2 := fun o => (B2 o).2.2.2.2.2)
      exact bodyPost_ret (v := .agg #[.bool false, .slice none (nl 0) 0, .slice (some ⟨w1.heap.size, 0, none⟩) (nl 1) 1]) (by rw [nl_zero, l1]; simp [results, Tryz.results47, go_sem, y0, y1, y2]) rfl (q w1 _ _ (below_more bV o1.below) (Nat.lt_of_lt_of_le hs o1.below.size))

set_option maxHeartbeats 4000000 in
theorem ref_rfix {s : Bool} {a : Option Addr} {n c : Nat} {xs : List Int} {b : Option Addr} {m d : Nat} {ys : List Int} {w : World} (h : IsWords w (.slice a n c) xs) (hx : Wd xs) (k : IsWords w (.slice b m d) ys) (hy : Wd ys) (hn : n ≤ 3000) (hm : m ≤ 3000) (q : Rat) (hq : rv s (val xs) (val ys) = q) :
    Calls Tryz.prog 19 #[.agg #[.bool s, .slice a n c, .slice b m d]] w (AnsT w (tri q)) := by
  have L := fun v (hb : Below w.heap.size w v) => ref_rlow (s := s) (h.below hb) hx (k.below hb) hy hn hm q hq
  unfold AnsT at L
  generalize tri q = t at L ⊢
  obtain ⟨t0, N, D⟩ := t
  dsimp only at L
  obtain ⟨b1, b2, bV, hs⟩ := boxes2 w #[.bool s, .slice a n c, .slice b m d] #[.bool false, .slice none 0 0, .slice none 0 0] 24 24
  clear h k hx hy hn hm hq
  obtain ⟨x0, x1, x2, -, -, -⟩ := b1.cells3
  go_enter Tryz.func19, Tryz.ntmps19
  go_wp2_with (go_at_call 47; (with_reducible refine Calls.mono (L _ bV) ?_); rintro e w1 ⟨a1, c1, a2, c2, rfl, o1, o2⟩; obtain ⟨y0, y1, y2, g0, g1, g2⟩ := (b2.more o1.below).cells3)
  exact bodyPost_ret (v := .agg #[.bool t0, .slice a1 (nl N) c1, .slice a2 (nl D) c2]) (by simp [results, Tryz.results19, go_sem, y0, y1, y2]) rfl (ansT_mk (((o1.above bV).set3 (by omega) hs _ _ _).own (by omega)) (((o2.above bV).set3 (by omega) hs _ _ _).own (by omega)))

set_option maxHeartbeats 4000000 in
theorem ref_requal {s : Bool} {a : Option Addr} {n c : Nat} {xs : List Int} {b : Option Addr} {m d : Nat} {ys : List Int} {s' : Bool} {a' : Option Addr} {n' c' : Nat} {xs' : List Int} {b' : Option Addr} {m' d' : Nat} {ys' : List Int} {w : World}
    (h : IsWords w (.slice a n c) xs) (k : IsWords w (.slice b m d) ys) (h' : IsWords w (.slice a' n' c') xs') (k' : IsWords w (.slice b' m' d') ys') (r : Bool) (hr : decide (s = s' ∧ xs = xs' ∧ ys = ys') = r) :
    Calls Tryz.prog 17 #[.agg #[.bool s, .slice a n c, .slice b m d], .agg #[.bool s', .slice a' n' c', .slice b' m' d']] w fun e w' => e = .returned (.bool r) ∧ Below w.heap.size w w' := by
  have W1 := fun v (hb : Below w.heap.size w v) => ref_words _ _ _ _ _ _ _ _ v (h.below hb) (h'.below hb) _ rfl
  have W2 := fun v (hb : Below w.heap.size w v) => ref_words _ _ _ _ _ _ _ _ v (k.below hb) (k'.below hb) _ rfl
  obtain ⟨b1, b2, bV, hs⟩ := boxes2 w #[.bool s, .slice a n c, .slice b m d] #[.bool s', .slice a' n' c', .slice b' m' d'] 24 24
  clear h k h' k'
  obtain ⟨x0, x1, x2, -, -, -⟩ := b1.cells3
  obtain ⟨y0, y1, y2, -, -, -⟩ := b2.cells3
  by_cases he : s = s'
  case neg =>
    have he2 : (s == s') = false := by simpa using he
    obtain rfl : r = false := by rw [← hr]; simp [he]
    clear hr he
    go_enter Tryz.func17, Tryz.ntmps17
    go_wp2
    go_ret
    exact ⟨rfl, bV⟩
  case pos =>
    subst he
    by_cases hX : xs = xs'
    case neg =>
      rw [decide_eq_false hX] at W1
      obtain rfl : r = false := by rw [← hr]; simp [hX]
      clear hr hX
      go_enter Tryz.func17, Tryz.ntmps17
      go_wp2_with (go_at_call 50; (with_reducible refine Calls.mono (W1 _ bV) ?_); rintro e w1 ⟨rfl, o1⟩)
      go_ret
      exact ⟨rfl, below_more bV o1⟩
    case pos =>
      rw [decide_eq_true hX] at W1
      rw [show decide (s = s ∧ xs = xs' ∧ ys = ys') = decide (ys = ys') by simp [hX]] at hr
      rw [hr] at W2
      clear hr hX
      go_enter Tryz.func17, Tryz.ntmps17
      go_wp2_with (first
        | (go_at_call 50; (with_reducible refine Calls.mono (W1 _ bV) ?_); rintro e w1 ⟨rfl, o1⟩; obtain ⟨x0, x1, x2, -, -, -⟩ := (b1.more o1).cells3; obtain ⟨y0, y1, y2, -, -, -⟩ := (b2.more o1).cells3)
        | (go_at_call 50; (with_reducible refine Calls.mono (W2 _ (below_more bV o1)) ?_); rintro e w2 ⟨rfl, o2⟩))
      go_ret
      exact ⟨rfl, below_more (below_more bV o1) o2⟩
end Go.Proofs.YtpimcbncmfpdhaaGreatDoor
/-
  Contracts of the document's own answers of layer 8 (package talwegref08: Right, Make, Of, over, Add, Neg, Sub, Mul, Turned, Zero, Div, Cmp), for every Rat of up to a thousand words each: as rational numbers; memory that was there stays, and what is answered is the call's own.
-/
namespace Go.Proofs.YtpimcbncmfpdhaaGreatDoor
open Go.RowKit

/-- A Rat, of up to k words each, that reads as the rational number q. -/
def RR (k : Nat) (w : World) (s : Bool) (a : Option Addr) (n c : Nat) (b : Option Addr) (m d : Nat) (q : Rat) : Prop :=
  ∃ xs ys, IsWords w (.slice a n c) xs ∧ Wd xs ∧ IsWords w (.slice b m d) ys ∧ Wd ys ∧ n ≤ k ∧ m ≤ k ∧ rv s (val xs) (val ys) = q
/-- What is answered lies in memory of the call's own. -/
def OwnR (W w : World) (a : Option Addr) (c : Nat) (b : Option Addr) (d : Nat) (q : Rat) : Prop :=
  Own W w (.slice a (nl q.num.natAbs) c) (nl q.num.natAbs) (natOf q.num.natAbs) ∧ Own W w (.slice b (nl q.den) d) (nl q.den) (natOf q.den)
/-- The answer is the right Rat of q. -/
def AnsR (W : World) (q : Rat) (e : Ending) (w' : World) : Prop :=
  ∃ a c b d, e = .returned (.agg #[.bool (decide (q.num < 0)), .slice a (nl q.num.natAbs) c, .slice b (nl q.den) d]) ∧ OwnR W w' a c b d q

theorem ansR_iff {W : World} {q : Rat} {e : Ending} {w' : World} : AnsR W q e w' ↔ AnsT W (tri q) e w' := Iff.rfl
theorem RR.below {k : Nat} {w w' : World} {s : Bool} {a : Option Addr} {n c : Nat} {b : Option Addr} {m d : Nat} {q : Rat} (h : RR k w s a n c b m d q) (hb : Below w.heap.size w w') : RR k w' s a n c b m d q := by
  obtain ⟨xs, ys, h1, h2, h3, h4, h5⟩ := h; exact ⟨xs, ys, h1.below hb, h2, h3.below hb, h4, h5⟩
theorem RR.mono {k l : Nat} {w : World} {s : Bool} {a : Option Addr} {n c : Nat} {b : Option Addr} {m d : Nat} {q : Rat} (h : RR k w s a n c b m d q) (hk : k ≤ l) : RR l w s a n c b m d q := by
  obtain ⟨xs, ys, h1, h2, h3, h4, h5, h6, h7⟩ := h; exact ⟨xs, ys, h1, h2, h3, h4, Nat.le_trans h5 hk, Nat.le_trans h6 hk, h7⟩
theorem RR.rs {k : Nat} {w : World} {s : Bool} {a : Option Addr} {n c : Nat} {b : Option Addr} {m d : Nat} {q : Rat} (h : RR k w s a n c b m d q) (hk : 1 ≤ k) : RS k q := by
  obtain ⟨xs, ys, h1, h2, h3, h4, h5, h6, rfl⟩ := h
  exact rs_rv (nl_small h2 _ (by rw [h1.len]; exact h5)) (nl_small h4 _ (by rw [h3.len]; exact h6)) hk
theorem OwnR.more {W w w' : World} {a : Option Addr} {c : Nat} {b : Option Addr} {d : Nat} {q : Rat} (h : OwnR W w a c b d q) (hb : Below w.heap.size w w') : OwnR W w' a c b d q := ⟨h.1.more hb, h.2.more hb⟩
theorem OwnR.alloc {W w : World} {a : Option Addr} {c : Nat} {b : Option Addr} {d : Nat} {q : Rat} (h : OwnR W w a c b d q) (o : Obj) : OwnR W (w.alloc o) a c b d q := ⟨h.1.alloc o, h.2.alloc o⟩
theorem OwnR.below {W w : World} {a : Option Addr} {c : Nat} {b : Option Addr} {d : Nat} {q : Rat} (h : OwnR W w a c b d q) : Below W.heap.size W w := h.1.below
theorem OwnR.outer {V W w : World} {a : Option Addr} {c : Nat} {b : Option Addr} {d : Nat} {q : Rat} (h : OwnR W w a c b d q) (hb : Below V.heap.size V W) : OwnR V w a c b d q := ⟨h.1.outer hb, h.2.outer hb⟩
theorem OwnR.rr {W w : World} {a : Option Addr} {c : Nat} {b : Option Addr} {d : Nat} {q : Rat} (h : OwnR W w a c b d q) {k : Nat} (hk : RS k q) : RR k w (decide (q.num < 0)) a (nl q.num.natAbs) c b (nl q.den) d q :=
  ⟨_, _, h.1.words, wd_natOf _, h.2.words, wd_natOf _, hk.1, hk.2, by rw [val_natOf, val_natOf]; exact rv_tri q⟩
/-- Two right Rats, held against each other word by word. -/
theorem ref_req {W w : World} {a : Option Addr} {c : Nat} {b : Option Addr} {d : Nat} {q : Rat} {W' : World} {a' : Option Addr} {c' : Nat} {b' : Option Addr} {d' : Nat} {q' : Rat} (h : OwnR W w a c b d q) (h' : OwnR W' w a' c' b' d' q') (r : Bool) (hr : decide (q = q') = r) :
    Calls Tryz.prog 17 #[.agg #[.bool (decide (q.num < 0)), .slice a (nl q.num.natAbs) c, .slice b (nl q.den) d], .agg #[.bool (decide (q'.num < 0)), .slice a' (nl q'.num.natAbs) c', .slice b' (nl q'.den) d']] w fun e w' => e = .returned (.bool r) ∧ Below w.heap.size w w' := by
  refine ref_requal h.1.words h.2.words h'.1.words h'.2.words r ?_
  rw [← hr]
  by_cases e : q = q'
  · subst e; simp
  · rw [decide_eq_false e]
    refine decide_eq_false ?_
    rintro ⟨e1, e2, e3⟩
    refine e (tri_inj ?_)
    unfold tri
    rw [e1, ← val_natOf q.num.natAbs, e2, val_natOf, ← val_natOf q.den, e3, val_natOf]

theorem ref_rfix' {k : Nat} (hk : k ≤ 3000) {s : Bool} {a : Option Addr} {n c : Nat} {b : Option Addr} {m d : Nat} {q : Rat} {w : World} (h : RR k w s a n c b m d q) :
    Calls Tryz.prog 19 #[.agg #[.bool s, .slice a n c, .slice b m d]] w (AnsR w q) := by
  obtain ⟨xs, ys, h1, h2, h3, h4, h5, h6, h7⟩ := h
  exact ref_rfix h1 h2 h3 h4 (by omega) (by omega) q h7

set_option maxHeartbeats 4000000 in
theorem ref_rright {s : Bool} {a : Option Addr} {n c : Nat} {xs : List Int} {b : Option Addr} {m d : Nat} {ys : List Int} {w : World} (h : IsWords w (.slice a n c) xs) (hx : Wd xs) (k : IsWords w (.slice b m d) ys) (hy : Wd ys) (hn : n ≤ 3000) (hm : m ≤ 3000) (q : Rat) (hq : rv s (val xs) (val ys) = q) (r : Bool) (hr : decide (decide (q.num < 0) = s ∧ natOf q.num.natAbs = xs ∧ natOf q.den = ys) = r) :
    Calls Tryz.prog 16 #[.agg #[.bool s, .slice a n c, .slice b m d]] w fun e w' => e = .returned (.bool r) ∧ Below w.heap.size w w' := by
  have F := fun v (hb : Below w.heap.size w v) => ref_rfix (s := s) (h.below hb) hx (k.below hb) hy hn hm q hq
  unfold AnsT tri at F
  have E := fun v a1 c1 a2 c2 (h1 : IsWords v (.slice a1 (nl q.num.natAbs) c1) (natOf q.num.natAbs)) (h2 : IsWords v (.slice a2 (nl q.den) c2) (natOf q.den)) (hb : Below w.heap.size w v) => ref_requal (s := decide (q.num < 0)) (s' := s) h1 h2 (h.below hb) (k.below hb) r hr
  dsimp only at F
  obtain ⟨b1, bV, hs⟩ := boxes1 w #[.bool s, .slice a n c, .slice b m d] 24
  clear h k hx hy hn hm hq hr
  generalize decide (q.num < 0) = t0 at *
  generalize q.num.natAbs = N at *
  generalize q.den = D at *
  go_enter Tryz.func16, Tryz.ntmps16
  go_wp2
  generalize w.alloc (.cells #[.bool s, .slice a n c, .slice b m d] 24) = V at *
  have SO : ∀ v, Below V.heap.size V v → v.cell? ⟨w.heap.size, 0, none⟩ = some (.bool s) ∧ v.cell? ⟨w.heap.size, 1, none⟩ = some (.slice a n c) ∧ v.cell? ⟨w.heap.size, 2, none⟩ = some (.slice b m d) := fun v hb => ⟨(b1.more hb).cells3.1, (b1.more hb).cells3.2.1, (b1.more hb).cells3.2.2.1⟩
  have bs : Below V.heap.size V V.drew := (Below.refl _ _).drew
  have HB : Hid (Below w.heap.size w V) := bV
  have bW := fun v (hb : Below V.heap.size V v) => below_more HB.out hb
  clear b1 bV hs
  go_region_held3 (fun v => v.cell? ⟨w.heap.size, 0, none⟩ = some (.bool s) ∧ v.cell? ⟨w.heap.size, 1, none⟩ = some (.slice a n c) ∧ v.cell? ⟨w.heap.size, 2, none⟩ = some (.slice b m d))
    (exact SO _ bs)
    (first
    | (go_at_call 19; (with_reducible refine Calls.mono (F _ (bW _ bs)) ?_); rintro e w1 ⟨a1, c1, a2, c2, rfl, o1, o2⟩; replace bs := below_more bs o1.below)
    | (go_at_call 17; (with_reducible refine Calls.mono (E _ _ _ _ _ o1.words o2.words (bW _ bs)) ?_); rintro e w2 ⟨rfl, b2⟩; replace bs := below_more bs b2))
  all_goals
    go_wp2
    go_ret
    exact ⟨rfl, below_more HB.out bs⟩
end Go.Proofs.YtpimcbncmfpdhaaGreatDoor
/-
  Contracts of the document's own answers of layer 8 (package talwegref08: over, Mul), for every Rat of up to a thousand words each: as rational numbers; memory that was there stays, and what is answered is the call's own.
-/
namespace Go.Proofs.YtpimcbncmfpdhaaGreatDoor
open Go.RowKit

theorem iv_mul' (s t : Bool) (A B : Nat) : iv s A * iv t B = iv (!(s == t)) (A * B) := by
  exact (iv_mul s t A B).symm
theorem rv_mul (s t : Bool) (A B D E : Nat) : rv (!(s == t)) (A * B) (D * E) = rv s A D * rv t B E := by
  unfold rv; rw [← iv_mul', Rat.mkRat_mul_mkRat]
theorem iv_num (q : Rat) : iv (decide (q.num < 0)) q.num.natAbs = q.num := iv_self _

set_option maxHeartbeats 8000000 in
theorem ref_rmul {s : Bool} {a : Option Addr} {n c : Nat} {b : Option Addr} {m d : Nat} {q : Rat} {s' : Bool} {a' : Option Addr} {n' c' : Nat} {b' : Option Addr} {m' d' : Nat} {r : Rat} {w : World} (h : RR 1000 w s a n c b m d q) (k : RR 1000 w s' a' n' c' b' m' d' r) (z : Rat) (hz : q * r = z) :
    Calls Tryz.prog 32 #[.agg #[.bool s, .slice a n c, .slice b m d], .agg #[.bool s', .slice a' n' c', .slice b' m' d']] w (AnsR w z) := by
  have F1 := fun v (hb : Below w.heap.size w v) => ref_rfix' (by omega) (h.below hb)
  have F2 := fun v (hb : Below w.heap.size w v) => ref_rfix' (by omega) (k.below hb)
  unfold AnsR OwnR at F1 F2
  obtain ⟨l1, l2⟩ := h.rs (by omega)
  obtain ⟨l3, l4⟩ := k.rs (by omega)
  have HZ : rv (!(decide (q.num < 0) == decide (r.num < 0))) (q.num.natAbs * r.num.natAbs) (q.den * r.den) = z := by rw [rv_mul, rv_tri, rv_tri]; exact hz
  clear h k hz
  generalize decide (q.num < 0) = s1 at *
  generalize q.num.natAbs = N1 at *
  generalize q.den = D1 at *
  generalize decide (r.num < 0) = s2 at *
  generalize r.num.natAbs = N2 at *
  generalize r.den = D2 at *
  have M1 := fun v a1 c1 a2 c2 (p : IsWords v (.slice a1 (nl N1) c1) (natOf N1)) (p' : IsWords v (.slice a2 (nl N2) c2) (natOf N2)) => ref_tmul _ _ _ _ _ _ _ _ v p (wd_natOf _) p' (wd_natOf _) (by omega) (by omega)
  have M2 := fun v a1 c1 a2 c2 (p : IsWords v (.slice a1 (nl D1) c1) (natOf D1)) (p' : IsWords v (.slice a2 (nl D2) c2) (natOf D2)) => ref_tmul _ _ _ _ _ _ _ _ v p (wd_natOf _) p' (wd_natOf _) (by omega) (by omega)
  simp only [val_natOf] at M1 M2
  unfold Ans at M1 M2
  have l5 := nl_mul N1 N2
  have l6 := nl_mul D1 D2
  have L := fun v a1 c1 a2 c2 (p : IsWords v (.slice a1 (nl (N1 * N2)) c1) (natOf (N1 * N2))) (p' : IsWords v (.slice a2 (nl (D1 * D2)) c2) (natOf (D1 * D2))) => ref_rlow (s := !(s1 == s2)) p (wd_natOf _) p' (wd_natOf _) (by omega) (by omega) z (by rw [val_natOf, val_natOf]; exact HZ)
  unfold AnsT at L
  have HA : Hid (∀ e w', AnsT w (tri z) e w' → AnsR w z e w') := fun _ _ h => h
  generalize tri z = t at L HA
  obtain ⟨t0, tN, tD⟩ := t
  dsimp only at L
  clear HZ l1 l2 l3 l4 l5 l6
  generalize N1 * N2 = N3 at *
  generalize D1 * D2 = D3 at *
  obtain ⟨b1, b2, b3, bV, hs⟩ := boxes3 w #[.bool s, .slice a n c, .slice b m d] #[.bool s', .slice a' n' c', .slice b' m' d'] #[.bool false, .slice none 0 0, .slice none 0 0] 24 24 24
  obtain ⟨x0, x1, x2, -, -, -⟩ := b1.cells3
  go_enter Tryz.func32, Tryz.ntmps32
  go_wp2_with (first
    | (go_at_call 19; (with_reducible refine Calls.mono (F1 _ bV) ?_); rintro e w1 ⟨a1, c1, a2, c2, rfl, o1, o2⟩; have y0 := fun o => ((b2.more o1.below).alloc o).cells3.1; have y1 := fun o => ((b2.more o1.below).alloc o).cells3.2.1; have y2 := fun o => ((b2.more o1.below).alloc o).cells3.2.2.1; have bs1 := fun o => (below_more bV o1.below).alloc (below_more bV o1.below).size o)
    | (go_at_call 19; (with_reducible refine Calls.mono (F2 _ (bs1 _)) ?_); rintro e w2 ⟨a3, c3, a4, c4, rfl, o3, o4⟩))
  have bB := below_more (bs1 (.cells #[.bool s1, .slice a1 (nl N1) c1, .slice a2 (nl D1) c2] 24)) o3.below
  have bC := bB.alloc bB.size (.cells #[.bool s2, .slice a3 (nl N2) c3, .slice a4 (nl D2) c4] 24)
  have BX := ((BoxC.new w1 #[.bool s1, .slice a1 (nl N1) c1, .slice a2 (nl D1) c2] 24).more o3.below).alloc (.cells #[.bool s2, .slice a3 (nl N2) c3, .slice a4 (nl D2) c4] 24)
  have BY := BoxC.new w2 #[.bool s2, .slice a3 (nl N2) c3, .slice a4 (nl D2) c4] 24
  have BR := (((b3.more o1.below).alloc (.cells #[.bool s1, .slice a1 (nl N1) c1, .slice a2 (nl D1) c2] 24)).more o3.below).alloc (.cells #[.bool s2, .slice a3 (nl N2) c3, .slice a4 (nl D2) c4] 24)
  have p1 := ((o1.alloc (.cells #[.bool s1, .slice a1 (nl N1) c1, .slice a2 (nl D1) c2] 24)).more o3.below).alloc (.cells #[.bool s2, .slice a3 (nl N2) c3, .slice a4 (nl D2) c4] 24)
  have p2 := ((o2.alloc (.cells #[.bool s1, .slice a1 (nl N1) c1, .slice a2 (nl D1) c2] 24)).more o3.below).alloc (.cells #[.bool s2, .slice a3 (nl N2) c3, .slice a4 (nl D2) c4] 24)
  have p3 := o3.alloc (.cells #[.bool s2, .slice a3 (nl N2) c3, .slice a4 (nl D2) c4] 24)
  have p4 := o4.alloc (.cells #[.bool s2, .slice a3 (nl N2) c3, .slice a4 (nl D2) c4] 24)
  have hk3 : w.heap.size + 1 + 1 < w1.heap.size := Nat.lt_of_lt_of_le hs o1.below.size
  have hk4 : w.heap.size + 1 + 1 < w2.heap.size := (b3.more o1.below |>.alloc (.cells #[.bool s1, .slice a1 (nl N1) c1, .slice a2 (nl D1) c2] 24) |>.more o3.below).lt
  have hs2 : w.heap.size + 1 + 1 < (w2.alloc (.cells #[.bool s2, .slice a3 (nl N2) c3, .slice a4 (nl D2) c4] 24)).heap.size := BR.lt
  generalize w1.heap.size = k3 at *
  generalize w2.heap.size = k4 at *
  generalize w2.alloc (.cells #[.bool s2, .slice a3 (nl N2) c3, .slice a4 (nl D2) c4] 24) = V at *
  clear o1 o2 o3 o4 y0 y1 y2 bs1 bB b1 b2 b3 bV hs x0 x1 x2 F1 F2
  have SB : ∀ v, BoxC v k3 #[.bool s1, .slice a1 (nl N1) c1, .slice a2 (nl D1) c2] 24 → BoxC v k4 #[.bool s2, .slice a3 (nl N2) c3, .slice a4 (nl D2) c4] 24 → v.cell? ⟨k3, 0, none⟩ = some (.bool s1) ∧ v.cell? ⟨k3, 1, none⟩ = some (.slice a1 (nl N1) c1) ∧ v.cell? ⟨k3, 2, none⟩ = some (.slice a2 (nl D1) c2) ∧ v.cell? ⟨k4, 0, none⟩ = some (.bool s2) ∧ v.cell? ⟨k4, 1, none⟩ = some (.slice a3 (nl N2) c3) ∧ v.cell? ⟨k4, 2, none⟩ = some (.slice a4 (nl D2) c4) := fun v h1 h2 => ⟨h1.cells3.1, h1.cells3.2.1, h1.cells3.2.2.1, h2.cells3.1, h2.cells3.2.1, h2.cells3.2.2.1⟩
  have SO := fun v (hb : Below V.heap.size V v) => SB v (BX.more hb) (BY.more hb)
  have SQ := fun v (hb : Below V.heap.size V v) x y z => SB (((v.setCell ⟨w.heap.size + 1 + 1, 0, none⟩ x).setCell ⟨w.heap.size + 1 + 1, 1, none⟩ y).setCell ⟨w.heap.size + 1 + 1, 2, none⟩ z) ((((BX.more hb).other (by omega) _).other (by omega) _).other (by omega) _) ((((BY.more hb).other (by omega) _).other (by omega) _).other (by omega) _)
  have bs : Below V.heap.size V V.drew := (Below.refl _ _).drew
  have HB : Hid (Below w.heap.size w V ∧ w.heap.size + 1 + 1 < V.heap.size) := ⟨bC, hs2⟩
  clear SB BX BY bC hs2 hk3 hk4
  go_region_held3 (fun v => v.cell? ⟨k3, 0, none⟩ = some (.bool s1) ∧ v.cell? ⟨k3, 1, none⟩ = some (.slice a1 (nl N1) c1) ∧ v.cell? ⟨k3, 2, none⟩ = some (.slice a2 (nl D1) c2) ∧ v.cell? ⟨k4, 0, none⟩ = some (.bool s2) ∧ v.cell? ⟨k4, 1, none⟩ = some (.slice a3 (nl N2) c3) ∧ v.cell? ⟨k4, 2, none⟩ = some (.slice a4 (nl D2) c4))
    (first | exact SO _ bs | exact SQ _ bs _ _ _)
    (first
    | (go_at_call 66; (with_reducible refine Calls.mono (M1 _ _ _ _ _ (p1.more bs).words (p3.more bs).words) ?_); rintro e w5 ⟨a5, c5, rfl, o5⟩; replace bs := below_more bs o5.below; (try replace o6 := o6.more o5.below))
    | (go_at_call 66; (with_reducible refine Calls.mono (M2 _ _ _ _ _ (p2.more bs).words (p4.more bs).words) ?_); rintro e w6 ⟨a6, c6, rfl, o6⟩; replace bs := below_more bs o6.below; (try replace o5 := o5.more o6.below))
    | (go_at_call 47; (with_reducible refine Calls.mono (L _ _ _ _ _ o5.words o6.words) ?_); rintro e w7 ⟨a7, c7, a8, c8, rfl, o7, o8⟩; have bs0 := bs; replace bs := below_more bs o7.below; obtain ⟨y0, y1, y2, g0, g1, g2⟩ := (BR.more bs).cells3))
  all_goals
    go_wp2
    have bW := below_more HB.out.1 bs0
    have hk := Nat.lt_of_lt_of_le HB.out.2 bs0.size
    exact bodyPost_ret (v := .agg #[.bool t0, .slice a7 (nl tN) c7, .slice a8 (nl tD) c8]) (by simp [results, Tryz.results32, go_sem, y0, y1, y2]) rfl (HA.out _ _ (ansT_mk (((o7.above bW).set3 (by omega) hk _ _ _).own (by omega)) (((o8.above bW).set3 (by omega) hk _ _ _).own (by omega))))
end Go.Proofs.YtpimcbncmfpdhaaGreatDoor
/-
  Contracts of the document's own answers of layer 8 (package talwegref08: over, Add), for every Rat of up to a thousand words each: as rational numbers; memory that was there stays, and what is answered is the call's own.
-/
namespace Go.Proofs.YtpimcbncmfpdhaaGreatDoor
open Go.RowKit

set_option maxHeartbeats 4000000 in
theorem ref_rover {s : Bool} {a : Option Addr} {n c : Nat} {xs : List Int} {b : Option Addr} {m d : Nat} {s' : Bool} {a' : Option Addr} {n' c' : Nat} {b' : Option Addr} {m' d' : Nat} {ys : List Int} {w : World} (h : IsWords w (.slice a n c) xs) (hx : Wd xs) (k : IsWords w (.slice b' m' d') ys) (hy : Wd ys) (hn : n ≤ 100000000) (hm : m' ≤ 100000000) (z : Int) (hz : iv s (val xs) * (val ys : Nat) = z) :
    Calls Tryz.prog 62 #[.agg #[.bool s, .slice a n c, .slice b m d], .agg #[.bool s', .slice a' n' c', .slice b' m' d']] w (AnsI w z) := by
  have M := fun v (hb : Below w.heap.size w v) => ref_imul (s := s) (t := false) (h.below hb) hx (k.below hb) hy hn hm z hz
  unfold AnsI at M
  have HA : Hid (∀ a1 c1 w', Own w w' (.slice a1 (nl z.natAbs) c1) (nl z.natAbs) (natOf z.natAbs) → AnsI w z (.returned (.agg #[.bool (decide (z < 0)), .slice a1 (nl z.natAbs) c1])) w') := fun a1 c1 _ h => ⟨a1, c1, rfl, h⟩
  generalize decide (z < 0) = z0 at *
  generalize z.natAbs = N at *
  obtain ⟨b1, b2, b3, bV, hs⟩ := boxes3 w #[.bool s, .slice a n c, .slice b m d] #[.bool s', .slice a' n' c', .slice b' m' d'] #[.bool false, .slice none 0 0] 24 24 26
  clear h k hx hy hn hm hz
  obtain ⟨x0, x1, x2, -, -, -⟩ := b1.cells3
  obtain ⟨y0, y1, y2, -, -, -⟩ := b2.cells3
  go_enter Tryz.func62, Tryz.ntmps62
  go_wp2_with (go_at_call 92; (with_reducible refine Calls.mono (M _ bV) ?_); rintro e w1 ⟨a1, c1, rfl, o1⟩; obtain ⟨z1, z2, g0, g1⟩ := (b3.more o1.below).cells2)
  have q := fun x y => ((o1.above bV).set (k := w.heap.size + 1 + 1) (by omega) hs 0 x).set (k := w.heap.size + 1 + 1) (by omega) hs 1 y
  exact bodyPost_ret (v := .agg #[.bool z0, .slice a1 (nl N) c1]) (by simp [results, Tryz.results62, go_sem, z1, z2]) rfl (HA.out _ _ _ ((q _ _).own (by omega)))

set_option maxHeartbeats 8000000 in
theorem ref_radd {s : Bool} {a : Option Addr} {n c : Nat} {b : Option Addr} {m d : Nat} {q : Rat} {s' : Bool} {a' : Option Addr} {n' c' : Nat} {b' : Option Addr} {m' d' : Nat} {r : Rat} {w : World} (h : RR 1000 w s a n c b m d q) (k : RR 1000 w s' a' n' c' b' m' d' r) (z : Rat) (hz : q + r = z) :
    Calls Tryz.prog 28 #[.agg #[.bool s, .slice a n c, .slice b m d], .agg #[.bool s', .slice a' n' c', .slice b' m' d']] w (AnsR w z) := by
  have F1 := fun v (hb : Below w.heap.size w v) => ref_rfix' (by omega) (h.below hb)
  have F2 := fun v (hb : Below w.heap.size w v) => ref_rfix' (by omega) (k.below hb)
  unfold AnsR OwnR at F1 F2
  obtain ⟨l1, l2⟩ := h.rs (by omega)
  obtain ⟨l3, l4⟩ := k.rs (by omega)
  have HZ : mkRat (q.num * r.den + r.num * q.den) (q.den * r.den) = z := by rw [← Rat.add_def']; exact hz
  have e1 := iv_num q
  have e2 := iv_num r
  clear h k hz
  have l5 : nl (q.num * (r.den : Int)).natAbs ≤ 2000 := Nat.le_trans (nl_imul _ _) (by rw [Int.natAbs_natCast]; omega)
  have l6 : nl (r.num * (q.den : Int)).natAbs ≤ 2000 := Nat.le_trans (nl_imul _ _) (by rw [Int.natAbs_natCast]; omega)
  have l7 := nl_mul q.den r.den
  have l8 := nl_iadd_max l5 l6
  generalize decide (q.num < 0) = s1 at *
  generalize q.num.natAbs = N1 at *
  generalize decide (r.num < 0) = s2 at *
  generalize r.num.natAbs = N2 at *
  generalize hX : q.num * (r.den : Int) = X at *
  generalize hY : r.num * (q.den : Int) = Y at *
  generalize hS : X + Y = S at *
  generalize q.den = D1 at *
  generalize r.den = D2 at *
  have O1 := fun v a1 c1 a2 c2 a3 c3 a4 c4 (p : IsWords v (.slice a1 (nl N1) c1) (natOf N1)) (p' : IsWords v (.slice a4 (nl D2) c4) (natOf D2)) => ref_rover (s := s1) (b := a2) (m := nl D1) (d := c2) (s' := s2) (a' := a3) (n' := nl N2) (c' := c3) p (wd_natOf _) p' (wd_natOf _) (by omega) (by omega) X (by rw [val_natOf, val_natOf, e1]; exact hX)
  have O2 := fun v a1 c1 a2 c2 a3 c3 a4 c4 (p : IsWords v (.slice a3 (nl N2) c3) (natOf N2)) (p' : IsWords v (.slice a2 (nl D1) c2) (natOf D1)) => ref_rover (s := s2) (b := a4) (m := nl D2) (d := c4) (s' := s1) (a' := a1) (n' := nl N1) (c' := c1) p (wd_natOf _) p' (wd_natOf _) (by omega) (by omega) Y (by rw [val_natOf, val_natOf, e2]; exact hY)
  have AD := fun v a1 c1 a2 c2 (p : IsWords v (.slice a1 (nl X.natAbs) c1) (natOf X.natAbs)) (p' : IsWords v (.slice a2 (nl Y.natAbs) c2) (natOf Y.natAbs)) => ref_iadd (s := decide (X < 0)) (t := decide (Y < 0)) p (wd_natOf _) p' (wd_natOf _) (by omega) (by omega) S (by rw [val_natOf, val_natOf, iv_self, iv_self]; exact hS)
  have M2 := fun v a1 c1 a2 c2 (p : IsWords v (.slice a1 (nl D1) c1) (natOf D1)) (p' : IsWords v (.slice a2 (nl D2) c2) (natOf D2)) => ref_tmul _ _ _ _ _ _ _ _ v p (wd_natOf _) p' (wd_natOf _) (by omega) (by omega)
  simp only [val_natOf] at M2
  unfold Ans at M2
  unfold AnsI at O1 O2 AD
  have L := fun v a1 c1 a2 c2 (p : IsWords v (.slice a1 (nl S.natAbs) c1) (natOf S.natAbs)) (p' : IsWords v (.slice a2 (nl (D1 * D2)) c2) (natOf (D1 * D2))) => ref_rlow (s := decide (S < 0)) p (wd_natOf _) p' (wd_natOf _) (by omega) (by omega) z (by unfold rv; rw [val_natOf, val_natOf, iv_self]; exact HZ)
  unfold AnsT at L
  have HA : Hid (∀ e w', AnsT w (tri z) e w' → AnsR w z e w') := fun _ _ h => h
  generalize tri z = t at L HA
  obtain ⟨t0, tN, tD⟩ := t
  dsimp only at L
  clear HZ l1 l2 l3 l4 l5 l6 l7 l8 e1 e2 hX hY hS
  generalize D1 * D2 = D3 at *
  generalize decide (X < 0) = sX at *
  generalize X.natAbs = NX at *
  generalize decide (Y < 0) = sY at *
  generalize Y.natAbs = NY at *
  generalize decide (S < 0) = sS at *
  generalize S.natAbs = NS at *
  obtain ⟨b1, b2, b3, bV, hs⟩ := boxes3 w #[.bool s, .slice a n c, .slice b m d] #[.bool s', .slice a' n' c', .slice b' m' d'] #[.bool false, .slice none 0 0, .slice none 0 0] 24 24 24
  obtain ⟨x0, x1, x2, -, -, -⟩ := b1.cells3
  go_enter Tryz.func28, Tryz.ntmps28
  go_wp2_with (first
    | (go_at_call 19; (with_reducible refine Calls.mono (F1 _ bV) ?_); rintro e w1 ⟨a1, c1, a2, c2, rfl, o1, o2⟩; have y0 := fun o => ((b2.more o1.below).alloc o).cells3.1; have y1 := fun o => ((b2.more o1.below).alloc o).cells3.2.1; have y2 := fun o => ((b2.more o1.below).alloc o).cells3.2.2.1; have bs1 := fun o => (below_more bV o1.below).alloc (below_more bV o1.below).size o)
    | (go_at_call 19; (with_reducible refine Calls.mono (F2 _ (bs1 _)) ?_); rintro e w2 ⟨a3, c3, a4, c4, rfl, o3, o4⟩))
  have bB := below_more (bs1 (.cells #[.bool s1, .slice a1 (nl N1) c1, .slice a2 (nl D1) c2] 24)) o3.below
  have bC := bB.alloc bB.size (.cells #[.bool s2, .slice a3 (nl N2) c3, .slice a4 (nl D2) c4] 24)
  have BX := ((BoxC.new w1 #[.bool s1, .slice a1 (nl N1) c1, .slice a2 (nl D1) c2] 24).more o3.below).alloc (.cells #[.bool s2, .slice a3 (nl N2) c3, .slice a4 (nl D2) c4] 24)
  have BY := BoxC.new w2 #[.bool s2, .slice a3 (nl N2) c3, .slice a4 (nl D2) c4] 24
  have BR := (((b3.more o1.below).alloc (.cells #[.bool s1, .slice a1 (nl N1) c1, .slice a2 (nl D1) c2] 24)).more o3.below).alloc (.cells #[.bool s2, .slice a3 (nl N2) c3, .slice a4 (nl D2) c4] 24)
  have p1 := ((o1.alloc (.cells #[.bool s1, .slice a1 (nl N1) c1, .slice a2 (nl D1) c2] 24)).more o3.below).alloc (.cells #[.bool s2, .slice a3 (nl N2) c3, .slice a4 (nl D2) c4] 24)
  have p2 := ((o2.alloc (.cells #[.bool s1, .slice a1 (nl N1) c1, .slice a2 (nl D1) c2] 24)).more o3.below).alloc (.cells #[.bool s2, .slice a3 (nl N2) c3, .slice a4 (nl D2) c4] 24)
  have p3 := o3.alloc (.cells #[.bool s2, .slice a3 (nl N2) c3, .slice a4 (nl D2) c4] 24)
  have p4 := o4.alloc (.cells #[.bool s2, .slice a3 (nl N2) c3, .slice a4 (nl D2) c4] 24)
  have hk3 : w.heap.size + 1 + 1 < w1.heap.size := Nat.lt_of_lt_of_le hs o1.below.size
  have hk4 : w.heap.size + 1 + 1 < w2.heap.size := (b3.more o1.below |>.alloc (.cells #[.bool s1, .slice a1 (nl N1) c1, .slice a2 (nl D1) c2] 24) |>.more o3.below).lt
  have hs2 : w.heap.size + 1 + 1 < (w2.alloc (.cells #[.bool s2, .slice a3 (nl N2) c3, .slice a4 (nl D2) c4] 24)).heap.size := BR.lt
  generalize w1.heap.size = k3 at *
  generalize w2.heap.size = k4 at *
  generalize w2.alloc (.cells #[.bool s2, .slice a3 (nl N2) c3, .slice a4 (nl D2) c4] 24) = V at *
  clear o1 o2 o3 o4 y0 y1 y2 bs1 bB b1 b2 b3 bV hs x0 x1 x2 F1 F2
  have SB : ∀ v, BoxC v k3 #[.bool s1, .slice a1 (nl N1) c1, .slice a2 (nl D1) c2] 24 → BoxC v k4 #[.bool s2, .slice a3 (nl N2) c3, .slice a4 (nl D2) c4] 24 → v.cell? ⟨k3, 0, none⟩ = some (.bool s1) ∧ v.cell? ⟨k3, 1, none⟩ = some (.slice a1 (nl N1) c1) ∧ v.cell? ⟨k3, 2, none⟩ = some (.slice a2 (nl D1) c2) ∧ v.cell? ⟨k4, 0, none⟩ = some (.bool s2) ∧ v.cell? ⟨k4, 1, none⟩ = some (.slice a3 (nl N2) c3) ∧ v.cell? ⟨k4, 2, none⟩ = some (.slice a4 (nl D2) c4) := fun v h1 h2 => ⟨h1.cells3.1, h1.cells3.2.1, h1.cells3.2.2.1, h2.cells3.1, h2.cells3.2.1, h2.cells3.2.2.1⟩
  have SO := fun v (hb : Below V.heap.size V v) => SB v (BX.more hb) (BY.more hb)
  have SQ := fun v (hb : Below V.heap.size V v) x y z => SB (((v.setCell ⟨w.heap.size + 1 + 1, 0, none⟩ x).setCell ⟨w.heap.size + 1 + 1, 1, none⟩ y).setCell ⟨w.heap.size + 1 + 1, 2, none⟩ z) ((((BX.more hb).other (by omega) _).other (by omega) _).other (by omega) _) ((((BY.more hb).other (by omega) _).other (by omega) _).other (by omega) _)
  have bs : Below V.heap.size V V.drew := (Below.refl _ _).drew
  have HB : Hid (Below w.heap.size w V ∧ w.heap.size + 1 + 1 < V.heap.size) := ⟨bC, hs2⟩
  clear SB BX BY bC hs2 hk3 hk4
  go_region_held3 (fun v => v.cell? ⟨k3, 0, none⟩ = some (.bool s1) ∧ v.cell? ⟨k3, 1, none⟩ = some (.slice a1 (nl N1) c1) ∧ v.cell? ⟨k3, 2, none⟩ = some (.slice a2 (nl D1) c2) ∧ v.cell? ⟨k4, 0, none⟩ = some (.bool s2) ∧ v.cell? ⟨k4, 1, none⟩ = some (.slice a3 (nl N2) c3) ∧ v.cell? ⟨k4, 2, none⟩ = some (.slice a4 (nl D2) c4))
    (first | exact SO _ bs | exact SQ _ bs _ _ _)
    (first
    | (go_at_call 62; (with_reducible refine Calls.mono (O1 _ _ _ _ _ _ _ _ _ (p1.more bs).words (p4.more bs).words) ?_); rintro e w5 ⟨a5, c5, rfl, o5⟩; replace bs := below_more bs o5.below; (try replace o6 := o6.more o5.below); (try replace o10 := o10.more o5.below))
    | (go_at_call 62; (with_reducible refine Calls.mono (O2 _ _ _ _ _ _ _ _ _ (p3.more bs).words (p2.more bs).words) ?_); rintro e w6 ⟨a6, c6, rfl, o6⟩; replace bs := below_more bs o6.below; (try replace o5 := o5.more o6.below); (try replace o10 := o10.more o6.below))
    | (go_at_call 65; (with_reducible refine Calls.mono (AD _ _ _ _ _ o5.words o6.words) ?_); rintro e w9 ⟨a9, c9, rfl, o9⟩; replace bs := below_more bs o9.below; (try replace o10 := o10.more o9.below))
    | (go_at_call 66; (with_reducible refine Calls.mono (M2 _ _ _ _ _ (p2.more bs).words (p4.more bs).words) ?_); rintro e w10 ⟨a10, c10, rfl, o10⟩; replace bs := below_more bs o10.below; (try replace o5 := o5.more o10.below); (try replace o6 := o6.more o10.below); (try replace o9 := o9.more o10.below))
    | (go_at_call 47; (with_reducible refine Calls.mono (L _ _ _ _ _ o9.words o10.words) ?_); rintro e w7 ⟨a7, c7, a8, c8, rfl, o7, o8⟩; have bs0 := bs; replace bs := below_more bs o7.below; obtain ⟨y0, y1, y2, g0, g1, g2⟩ := (BR.more bs).cells3))
  all_goals
    go_wp2
    have bW := below_more HB.out.1 bs0
    have hk := Nat.lt_of_lt_of_le HB.out.2 bs0.size
    exact bodyPost_ret (v := .agg #[.bool t0, .slice a7 (nl tN) c7, .slice a8 (nl tD) c8]) (by simp [results, Tryz.results28, go_sem, y0, y1, y2]) rfl (HA.out _ _ (ansT_mk (((o7.above bW).set3 (by omega) hk _ _ _).own (by omega)) (((o8.above bW).set3 (by omega) hk _ _ _).own (by omega))))
end Go.Proofs.YtpimcbncmfpdhaaGreatDoor
/-
  Contracts of the document's own answers of layer 8 (package talwegref08: Cmp, Neg, Turned, Zero), for every Rat of up to a thousand words each: as rational numbers; memory that was there stays, and what is answered is the call's own.
-/
namespace Go.Proofs.YtpimcbncmfpdhaaGreatDoor
open Go.RowKit

theorem BoxC.set3 {v : World} {k : Nat} {x' y' z' : Value} {T : TypeId} (h : BoxC v k #[x', y', z'] T) (x y z : Value) : BoxC (((v.setCell ⟨k, 0, none⟩ x).setCell ⟨k, 1, none⟩ y).setCell ⟨k, 2, none⟩ z) k #[x, y, z] T := by
  have := ((h.set 0 x).set 1 y).set 2 z
  simpa using this
theorem OwnA.alloc {W w : World} {B : Nat} {v : Value} {n : Nat} {xs : List Int} (h : OwnA W B w v n xs) (o : Obj) : OwnA W B (w.alloc o) v n xs := ⟨h.1.alloc o, h.2.alloc h.2.size o⟩

set_option maxHeartbeats 8000000 in
theorem ref_rcmp {s : Bool} {a : Option Addr} {n c : Nat} {b : Option Addr} {m d : Nat} {q : Rat} {s' : Bool} {a' : Option Addr} {n' c' : Nat} {b' : Option Addr} {m' d' : Nat} {r : Rat} {w : World} (h : RR 1000 w s a n c b m d q) (k : RR 1000 w s' a' n' c' b' m' d' r) (z : Int) (hz : rsgn q r = z) :
    Calls Tryz.prog 26 #[.agg #[.bool s, .slice a n c, .slice b m d], .agg #[.bool s', .slice a' n' c', .slice b' m' d']] w fun e w' => e = .returned (.int .i64 z) ∧ Below w.heap.size w w' := by
  have F1 := fun v (hb : Below w.heap.size w v) => ref_rfix' (by omega) (h.below hb)
  have F2 := fun v (hb : Below w.heap.size w v) => ref_rfix' (by omega) (k.below hb)
  unfold AnsR OwnR at F1 F2
  obtain ⟨l1, l2⟩ := h.rs (by omega)
  obtain ⟨l3, l4⟩ := k.rs (by omega)
  unfold rsgn at hz
  have e1 := iv_num q
  have e2 := iv_num r
  clear h k
  have l5 : nl (q.num * (r.den : Int)).natAbs ≤ 2000 := Nat.le_trans (nl_imul _ _) (by rw [Int.natAbs_natCast]; omega)
  have l6 : nl (r.num * (q.den : Int)).natAbs ≤ 2000 := Nat.le_trans (nl_imul _ _) (by rw [Int.natAbs_natCast]; omega)
  generalize decide (q.num < 0) = s1 at *
  generalize q.num.natAbs = N1 at *
  generalize decide (r.num < 0) = s2 at *
  generalize r.num.natAbs = N2 at *
  generalize hX : q.num * (r.den : Int) = X at *
  generalize hY : r.num * (q.den : Int) = Y at *
  generalize q.den = D1 at *
  generalize r.den = D2 at *
  have O1 := fun v a1 c1 a2 c2 a3 c3 a4 c4 (p : IsWords v (.slice a1 (nl N1) c1) (natOf N1)) (p' : IsWords v (.slice a4 (nl D2) c4) (natOf D2)) => ref_rover (s := s1) (b := a2) (m := nl D1) (d := c2) (s' := s2) (a' := a3) (n' := nl N2) (c' := c3) p (wd_natOf _) p' (wd_natOf _) (by omega) (by omega) X (by rw [val_natOf, val_natOf, e1]; exact hX)
  have O2 := fun v a1 c1 a2 c2 a3 c3 a4 c4 (p : IsWords v (.slice a3 (nl N2) c3) (natOf N2)) (p' : IsWords v (.slice a2 (nl D1) c2) (natOf D1)) => ref_rover (s := s2) (b := a4) (m := nl D2) (d := c4) (s' := s1) (a' := a1) (n' := nl N1) (c' := c1) p (wd_natOf _) p' (wd_natOf _) (by omega) (by omega) Y (by rw [val_natOf, val_natOf, e2]; exact hY)
  have CM := fun v a1 c1 a2 c2 (p : IsWords v (.slice a1 (nl X.natAbs) c1) (natOf X.natAbs)) (p' : IsWords v (.slice a2 (nl Y.natAbs) c2) (natOf Y.natAbs)) => ref_icmp (s := decide (X < 0)) (t := decide (Y < 0)) p (wd_natOf _) p' (wd_natOf _) (by omega) (by omega) z (by rw [val_natOf, val_natOf, iv_self, iv_self]; exact hz)
  unfold AnsI at O1 O2
  clear l1 l2 l3 l4 l5 l6 e1 e2 hX hY hz
  generalize decide (X < 0) = sX at *
  generalize X.natAbs = NX at *
  generalize decide (Y < 0) = sY at *
  generalize Y.natAbs = NY at *
  obtain ⟨b1, b2, bV, hs⟩ := boxes2 w #[.bool s, .slice a n c, .slice b m d] #[.bool s', .slice a' n' c', .slice b' m' d'] 24 24
  obtain ⟨x0, x1, x2, -, -, -⟩ := b1.cells3
  go_enter Tryz.func26, Tryz.ntmps26
  go_wp2_with (first
    | (go_at_call 19; (with_reducible refine Calls.mono (F1 _ bV) ?_); rintro e w1 ⟨a1, c1, a2, c2, rfl, o1, o2⟩; have y0 := fun o => ((b2.more o1.below).alloc o).cells3.1; have y1 := fun o => ((b2.more o1.below).alloc o).cells3.2.1; have y2 := fun o => ((b2.more o1.below).alloc o).cells3.2.2.1; have bs1 := fun o => (below_more bV o1.below).alloc (below_more bV o1.below).size o)
    | (go_at_call 19; (with_reducible refine Calls.mono (F2 _ (bs1 _)) ?_); rintro e w2 ⟨a3, c3, a4, c4, rfl, o3, o4⟩))
  have bB := below_more (bs1 (.cells #[.bool s1, .slice a1 (nl N1) c1, .slice a2 (nl D1) c2] 24)) o3.below
  have bC := bB.alloc bB.size (.cells #[.bool s2, .slice a3 (nl N2) c3, .slice a4 (nl D2) c4] 24)
  have BX := ((BoxC.new w1 #[.bool s1, .slice a1 (nl N1) c1, .slice a2 (nl D1) c2] 24).more o3.below).alloc (.cells #[.bool s2, .slice a3 (nl N2) c3, .slice a4 (nl D2) c4] 24)
  have BY := BoxC.new w2 #[.bool s2, .slice a3 (nl N2) c3, .slice a4 (nl D2) c4] 24
  have p1 := ((o1.alloc (.cells #[.bool s1, .slice a1 (nl N1) c1, .slice a2 (nl D1) c2] 24)).more o3.below).alloc (.cells #[.bool s2, .slice a3 (nl N2) c3, .slice a4 (nl D2) c4] 24)
  have p2 := ((o2.alloc (.cells #[.bool s1, .slice a1 (nl N1) c1, .slice a2 (nl D1) c2] 24)).more o3.below).alloc (.cells #[.bool s2, .slice a3 (nl N2) c3, .slice a4 (nl D2) c4] 24)
  have p3 := o3.alloc (.cells #[.bool s2, .slice a3 (nl N2) c3, .slice a4 (nl D2) c4] 24)
  have p4 := o4.alloc (.cells #[.bool s2, .slice a3 (nl N2) c3, .slice a4 (nl D2) c4] 24)
  generalize w1.heap.size = k3 at *
  generalize w2.heap.size = k4 at *
  generalize w2.alloc (.cells #[.bool s2, .slice a3 (nl N2) c3, .slice a4 (nl D2) c4] 24) = V at *
  clear o1 o2 o3 o4 y0 y1 y2 bs1 bB b1 b2 bV hs x0 x1 x2 F1 F2
  have SB : ∀ v, BoxC v k3 #[.bool s1, .slice a1 (nl N1) c1, .slice a2 (nl D1) c2] 24 → BoxC v k4 #[.bool s2, .slice a3 (nl N2) c3, .slice a4 (nl D2) c4] 24 → v.cell? ⟨k3, 0, none⟩ = some (.bool s1) ∧ v.cell? ⟨k3, 1, none⟩ = some (.slice a1 (nl N1) c1) ∧ v.cell? ⟨k3, 2, none⟩ = some (.slice a2 (nl D1) c2) ∧ v.cell? ⟨k4, 0, none⟩ = some (.bool s2) ∧ v.cell? ⟨k4, 1, none⟩ = some (.slice a3 (nl N2) c3) ∧ v.cell? ⟨k4, 2, none⟩ = some (.slice a4 (nl D2) c4) := fun v h1 h2 => ⟨h1.cells3.1, h1.cells3.2.1, h1.cells3.2.2.1, h2.cells3.1, h2.cells3.2.1, h2.cells3.2.2.1⟩
  have SO := fun v (hb : Below V.heap.size V v) => SB v (BX.more hb) (BY.more hb)
  have bs : Below V.heap.size V V.drew := (Below.refl _ _).drew
  have HB : Hid (Below w.heap.size w V) := bC
  clear SB BX BY bC
  go_region_held3 (fun v => v.cell? ⟨k3, 0, none⟩ = some (.bool s1) ∧ v.cell? ⟨k3, 1, none⟩ = some (.slice a1 (nl N1) c1) ∧ v.cell? ⟨k3, 2, none⟩ = some (.slice a2 (nl D1) c2) ∧ v.cell? ⟨k4, 0, none⟩ = some (.bool s2) ∧ v.cell? ⟨k4, 1, none⟩ = some (.slice a3 (nl N2) c3) ∧ v.cell? ⟨k4, 2, none⟩ = some (.slice a4 (nl D2) c4))
    (exact SO _ bs)
    (first
    | (go_at_call 62; (with_reducible refine Calls.mono (O1 _ _ _ _ _ _ _ _ _ (p1.more bs).words (p4.more bs).words) ?_); rintro e w5 ⟨a5, c5, rfl, o5⟩; replace bs := below_more bs o5.below; (try replace o6 := o6.more o5.below); (try replace o10 := o10.more o5.below))
    | (go_at_call 62; (with_reducible refine Calls.mono (O2 _ _ _ _ _ _ _ _ _ (p3.more bs).words (p2.more bs).words) ?_); rintro e w6 ⟨a6, c6, rfl, o6⟩; replace bs := below_more bs o6.below; (try replace o5 := o5.more o6.below); (try replace o10 := o10.more o6.below))
    | (go_at_call 61; (with_reducible refine Calls.mono (CM _ _ _ _ _ o5.words o6.words) ?_); rintro e w9 ⟨rfl, b9⟩; replace bs := below_more bs b9))
  all_goals
    go_wp2
    go_ret
    exact ⟨rfl, below_more HB.out bs⟩

set_option maxHeartbeats 4000000 in
theorem ref_rneg {s : Bool} {a : Option Addr} {n c : Nat} {b : Option Addr} {m d : Nat} {q : Rat} {w : World} (h : RR 3000 w s a n c b m d q) (z : Rat) (hz : -q = z) :
    Calls Tryz.prog 21 #[.agg #[.bool s, .slice a n c, .slice b m d]] w (AnsR w z) := by
  have F := fun v (hb : Below w.heap.size w v) => ref_rfix' (by omega) (h.below hb)
  unfold AnsR OwnR at F
  have HA : Hid (∀ e w', AnsT w (!decide (q.num < 0) && decide (0 < (nl q.num.natAbs : Int)), q.num.natAbs, q.den) e w' → AnsR w z e w') := fun e w' h => by
    rw [← hz]
    refine ansR_iff.2 ?_
    rw [tri_neg]
    have e : decide (0 < q.num.natAbs) = decide (0 < (nl q.num.natAbs : Int)) := by
      rw [Bool.eq_iff_iff]; simp only [decide_eq_true_eq]
      constructor
      · intro h; have := nl_pos h; omega
      · intro h; rcases Nat.eq_zero_or_pos q.num.natAbs with e | e
        · rw [e, nl_zero] at h; omega
        · exact e
    rw [e]; exact h
  clear h hz
  generalize decide (q.num < 0) = s1 at *
  generalize q.num.natAbs = N1 at *
  generalize q.den = D1 at *
  obtain ⟨b1, b2, bV, hs⟩ := boxes2 w #[.bool s, .slice a n c, .slice b m d] #[.bool false, .slice none 0 0, .slice none 0 0] 24 24
  obtain ⟨x0, x1, x2, -, -, -⟩ := b1.cells3
  cases s1
  case' false => obtain ⟨r, HR⟩ : ∃ r : Bool, Hid (r = decide (0 < nl N1)) := ⟨_, (rfl : decide (0 < nl N1) = decide (0 < nl N1))⟩
  case' true => obtain ⟨r, HR⟩ : ∃ r : Bool, Hid (r = false) := ⟨_, (rfl : false = false)⟩
  all_goals
    go_enter Tryz.func21, Tryz.ntmps21
    go_wp2_with (go_at_call 19; (with_reducible refine Calls.mono (F _ bV) ?_); rintro e w1 ⟨a1, c1, a2, c2, rfl, o1, o2⟩; obtain ⟨e0, e1, e2, g0, g1, g2⟩ := (b2.more o1.below).cells3; have hk := Nat.lt_of_lt_of_le hs o1.below.size; have Y := fun o x => (((b2.more o1.below).alloc o).other (g := w1.heap.size) (i := 0) (by omega) x).cells3; have u0 := fun o x => (Y o x).1; have u1 := fun o x => (Y o x).2.1; have u2 := fun o x => (Y o x).2.2.1; clear Y)
    have R := fun x y z o => ((((b2.more o1.below).set3 x y z)).alloc o).cells3
    have y0 := fun x y z o => (R x y z o).1
    have y1 := fun x y z o => (R x y z o).2.1
    have y2 := fun x y z o => (R x y z o).2.2.1
    have q1 := fun o p q r => ((o1.above bV).set3 (k := w.heap.size + 1) (by omega) hs p q r).alloc o
    have q2 := fun o p q r => ((o2.above bV).set3 (k := w.heap.size + 1) (by omega) hs p q r).alloc o
    exact bodyPost_ret (v := .agg #[.bool r, .slice a1 (nl N1) c1, .slice a2 (nl D1) c2]) (by simp [results, Tryz.results21, go_sem, y0, y1, y2, HR.out]) rfl (HA.out _ _ ⟨a1, c1, a2, c2, by simp [HR.out], (q1 _ _ _ _).own (by omega), (q2 _ _ _ _).own (by omega)⟩)

set_option maxHeartbeats 4000000 in
theorem ref_rturned {s : Bool} {a : Option Addr} {n c : Nat} {b : Option Addr} {m d : Nat} {q : Rat} {w : World} (h : RR 3000 w s a n c b m d q) (h0 : q ≠ 0) (z : Rat) (hz : q⁻¹ = z) :
    Calls Tryz.prog 60 #[.agg #[.bool s, .slice a n c, .slice b m d]] w (AnsR w z) := by
  have F := fun v (hb : Below w.heap.size w v) => ref_rfix' (by omega) (h.below hb)
  unfold AnsR OwnR at F
  have HA : Hid (∀ e w', AnsT w (decide (q.num < 0), q.den, q.num.natAbs) e w' → AnsR w z e w') := fun e w' h => by
    rw [← hz]
    refine ansR_iff.2 ?_
    rw [tri_inv h0]; exact h
  clear h hz h0
  generalize decide (q.num < 0) = s1 at *
  generalize q.num.natAbs = N1 at *
  generalize q.den = D1 at *
  obtain ⟨b1, b2, bV, hs⟩ := boxes2 w #[.bool s, .slice a n c, .slice b m d] #[.bool false, .slice none 0 0, .slice none 0 0] 24 24
  obtain ⟨x0, x1, x2, -, -, -⟩ := b1.cells3
  go_enter Tryz.func60, Tryz.ntmps60
  go_wp2_with (go_at_call 19; (with_reducible refine Calls.mono (F _ bV) ?_); rintro e w1 ⟨a1, c1, a2, c2, rfl, o1, o2⟩; obtain ⟨e0, e1, e2, g0, g1, g2⟩ := (b2.more o1.below).cells3; have Y := fun o => ((b2.more o1.below).alloc o).cells3; have u0 := fun o => (Y o).1; have u1 := fun o => (Y o).2.1; have u2 := fun o => (Y o).2.2.1; have v0 := fun o => (Y o).2.2.2.1; have v1 := fun o => (Y o).2.2.2.2.1; have v2 := fun o => (Y o).2.2.2.2.2; clear Y)
  have R := fun x y z o => (((b2.more o1.below).alloc o).set3 x y z).cells3
  have y0 := fun x y z o => (R x y z o).1
  have y1 := fun x y z o => (R x y z o).2.1
  have y2 := fun x y z o => (R x y z o).2.2.1
  have q1 := fun o p q r => ((o1.above bV).alloc o).set3 (k := w.heap.size + 1) (by omega) hs p q r
  have q2 := fun o p q r => ((o2.above bV).alloc o).set3 (k := w.heap.size + 1) (by omega) hs p q r
  exact bodyPost_ret (v := .agg #[.bool s1, .slice a2 (nl D1) c2, .slice a1 (nl N1) c1]) (by simp [results, Tryz.results60, go_sem, y0, y1, y2]) rfl (HA.out _ _ (ansT_mk ((q2 _ _ _ _).own (by omega)) ((q1 _ _ _ _).own (by omega))))

set_option maxHeartbeats 4000000 in
theorem ref_rzero {s : Bool} {a : Option Addr} {n c : Nat} {b : Option Addr} {m d : Nat} {q : Rat} {w : World} (h : RR 3000 w s a n c b m d q) (r : Bool) (hr : decide (q = 0) = r) :
    Calls Tryz.prog 59 #[.agg #[.bool s, .slice a n c, .slice b m d]] w fun e w' => e = .returned (.bool r) ∧ Below w.heap.size w w' := by
  have F := fun v (hb : Below w.heap.size w v) => ref_rfix' (by omega) (h.below hb)
  unfold AnsR OwnR at F
  have HR : Hid (((nl q.num.natAbs : Int) == 0) = r) := by
    show _ = r
    rw [← hr, Bool.eq_iff_iff, beq_iff_eq, decide_eq_true_eq, ← num_zero_iff]
    constructor
    · intro h; rcases Nat.eq_zero_or_pos q.num.natAbs with e | e
      · exact e
      · have := nl_pos e; omega
    · intro h; rw [h, nl_zero]; rfl
  clear h hr
  generalize decide (q.num < 0) = s1 at *
  generalize q.num.natAbs = N1 at *
  generalize q.den = D1 at *
  obtain ⟨b1, bV, hs⟩ := boxes1 w #[.bool s, .slice a n c, .slice b m d] 24
  obtain ⟨x0, x1, x2, -, -, -⟩ := b1.cells3
  go_enter Tryz.func59, Tryz.ntmps59
  go_wp2_with (go_at_call 19; (with_reducible refine Calls.mono (F _ bV) ?_); rintro e w1 ⟨a1, c1, a2, c2, rfl, o1, o2⟩)
  go_ret
  exact ⟨ret_bool HR.out, (below_more bV o1.below).alloc (below_more bV o1.below).size _⟩
end Go.Proofs.YtpimcbncmfpdhaaGreatDoor
/-
  Contracts of the document's own answers of layer 8 (package talwegref08: Make, Of, Sub, Div), for every Rat of up to some hundred words each: as rational numbers; memory that was there stays, and what is answered is the call's own.
-/
namespace Go.Proofs.YtpimcbncmfpdhaaGreatDoor
open Go.RowKit

/-- The answer is a right Rat, or all zero with an error. -/
def AnsRE (W : World) (t : R3) (E : Int) (e : Ending) (w' : World) : Prop := AnsTE W t E e w'
theorem ansTE_mk {W w' : World} {s : Bool} {a : Option Addr} {c : Nat} {b : Option Addr} {d N D : Nat} {E : Int} (h1 : Own W w' (.slice a (nl N) c) (nl N) (natOf N)) (h2 : Own W w' (.slice b (nl D) d) (nl D) (natOf D)) : AnsTE W (s, N, D) E (.returned (.tuple #[.agg #[.bool s, .slice a (nl N) c, .slice b (nl D) d], .int .i64 E])) w' := ⟨a, c, b, d, rfl, h1, h2⟩
theorem ansTE_no {W w' : World} {E : Int} (h : Below W.heap.size W w') : AnsTE W tri0 E (.returned (.tuple #[.agg #[.bool false, .slice none 0 0, .slice none 0 0], .int .i64 E])) w' := by
  have e := nil_nl h
  have l := nl_zero
  refine ⟨none, 0, none, 0, ?_, e, e⟩
  show _ = Ending.returned (.tuple #[.agg #[.bool false, .slice none (nl 0) 0, .slice none (nl 0) 0], .int .i64 E])
  rw [l]
theorem below_set3 {W w : World} (h : Below W.heap.size W w) {k : Nat} (hk : W.heap.size ≤ k) (x y z : Value) : Below W.heap.size W (((w.setCell ⟨k, 0, none⟩ x).setCell ⟨k, 1, none⟩ y).setCell ⟨k, 2, none⟩ z) :=
  ((h.setCell (p := ⟨k, 0, none⟩) hk x).setCell (p := ⟨k, 1, none⟩) hk y).setCell (p := ⟨k, 2, none⟩) hk z

/-- What Make tells. -/
def mkT (s : Bool) (A : Nat) (t : Bool) (D : Nat) : R3 := if D = 0 then tri0 else tri (rv (!(s == t)) A D)
def mkE (D : Nat) : Int := if D = 0 then 3 else 0

set_option maxHeartbeats 4000000 in
theorem ref_rmake {s : Bool} {a : Option Addr} {n c : Nat} {xs : List Int} {t : Bool} {b : Option Addr} {m d : Nat} {ys : List Int} {w : World} (h : IsWords w (.slice a n c) xs) (hx : Wd xs) (k : IsWords w (.slice b m d) ys) (hy : Wd ys) (hn : n ≤ 3000) (hm : m ≤ 3000) :
    Calls Tryz.prog 14 #[.agg #[.bool s, .slice a n c], .agg #[.bool t, .slice b m d]] w (AnsTE w (mkT s (val xs) t (val ys)) (mkE (val ys))) := by
  have L0 := fun v (hb : Below w.heap.size w v) => ref_low_nl b m d ys v (k.below hb) hy
  have L1 := fun v (hb : Below w.heap.size w v) => ref_rlow (s := !(s == t)) (h.below hb) hx (k.below hb) hy hn hm _ rfl
  obtain ⟨b1, b2, b3, bV, hs⟩ := boxes3 w #[.bool s, .slice a n c] #[.bool t, .slice b m d] #[.bool false, .slice none 0 0, .slice none 0 0] 26 26 24
  clear h k hx hy hn hm
  obtain ⟨x0, x1, -, -⟩ := b1.cells2
  obtain ⟨z0, z1, -, -⟩ := b2.cells2
  obtain ⟨y0, y1, y2, g0, g1, g2⟩ := b3.cells3
  generalize val xs = A at *
  generalize val ys = D at *
  unfold mkT mkE
  rcases Nat.eq_zero_or_pos D with h0 | h0
  · subst h0
    rw [if_pos rfl, if_pos rfl]
    simp only [nl_zero] at L0
    clear L1
    go_enter Tryz.func14, Tryz.ntmps14
    go_wp2_with (go_at_call 46; (with_reducible refine Calls.mono (L0 _ bV) ?_); rintro e w1 ⟨rfl, rfl⟩)
    exact bodyPost_ret (v := .tuple #[.agg #[.bool false, .slice none 0 0, .slice none 0 0], .int .i64 3]) (by simp [results, Tryz.results14, go_sem, y0, y1, y2]) rfl (ansTE_no bV)
  · rw [if_neg (by omega), if_neg (by omega)]
    have hl : ((nl D : Int) == 0) = false := by have := nl_pos h0; simp; omega
    unfold AnsT at L1
    generalize tri (rv (!(s == t)) A D) = tt at L1 ⊢
    obtain ⟨t0, tN, tD⟩ := tt
    dsimp only at L1
    clear h0
    go_enter Tryz.func14, Tryz.ntmps14
    go_wp2_with (first
      | (go_at_call 46; (with_reducible refine Calls.mono (L0 _ bV) ?_); rintro e w1 ⟨rfl, rfl⟩)
      | (go_at_call 47; (with_reducible refine Calls.mono (L1 _ bV) ?_); rintro e w2 ⟨a1, c1, a2, c2, rfl, o1, o2⟩; obtain ⟨y0, y1, y2, g0, g1, g2⟩ := (b3.more o1.below).cells3))
    exact bodyPost_ret (v := .tuple #[.agg #[.bool t0, .slice a1 (nl tN) c1, .slice a2 (nl tD) c2], .int .i64 0]) (by simp [results, Tryz.results14, go_sem, y0, y1, y2]) rfl (ansTE_mk (((o1.above bV).set3 (by omega) hs _ _ _).own (by omega)) (((o2.above bV).set3 (by omega) hs _ _ _).own (by omega)))

theorem rv_int (n : Int) : rv (decide (n < 0)) n.natAbs 1 = (n : Rat) := by
  unfold rv; rw [iv_self]
  exact Rat.mkRat_self (n : Rat)

set_option maxHeartbeats 4000000 in
theorem ref_rof (n : Int) (w : World) (h0 : -9223372036854775808 ≤ n) (h1 : n < 9223372036854775808) :
    Calls Tryz.prog 23 #[.int .i64 n] w (AnsR w (n : Rat)) := by
  have O := fun v => ref_iof n v h0 h1
  unfold AnsI at O
  have l1 : nl n.natAbs ≤ 2 := nl_two n (by omega)
  have n1 : natOf 1 = [1] := natOf_lit [1] (wd_one (by omega) (by omega)) (by decide) (by decide)
  have L := fun v a1 c1 (W : World) (p : Own W v (.slice a1 (nl n.natAbs) c1) (nl n.natAbs) (natOf n.natAbs)) => ref_rlow (s := decide (n < 0)) (p.alloc (.cells #[.int .u32 1] 62)).words (wd_natOf _) (lit_words v [1] 1 rfl (by decide)) (wd_one (by omega) (by omega)) (by omega) (by omega) (n : Rat) (by rw [val_natOf]; exact rv_int n)
  unfold AnsT at L
  have HA : Hid (∀ e w', AnsT w (tri (n : Rat)) e w' → AnsR w (n : Rat) e w') := fun _ _ h => h
  generalize tri (n : Rat) = tt at L HA
  obtain ⟨t0, tN, tD⟩ := tt
  dsimp only at L
  obtain ⟨b1, bV, hs⟩ := boxes1 w #[.bool false, .slice none 0 0, .slice none 0 0] 24
  clear h0 h1 l1 n1
  generalize decide (n < 0) = r at *
  generalize n.natAbs = N at *
  go_enter Tryz.func23, Tryz.ntmps23
  go_wp2_with (first
    | (go_at_call 55; (with_reducible refine Calls.mono (O _) ?_); rintro e w1 ⟨a1, c1, rfl, o1⟩; have B1 := below_more bV o1.below; have hb1 := fun o => B1.alloc B1.size o)
    | (go_at_call 47; (with_reducible refine Calls.mono (L _ _ _ _ o1) ?_); rintro e w2 ⟨a2, c2, a3, c3, rfl, o2, o3⟩; obtain ⟨y0, y1, y2, g0, g1, g2⟩ := (((b1.more o1.below).alloc _).more o2.below).cells3))
  have hk : w.heap.size < (w1.alloc (.cells #[.int .u32 1] 62)).heap.size := Nat.lt_of_lt_of_le hs (Nat.le_trans o1.below.size (by simp))
  exact bodyPost_ret (v := .agg #[.bool t0, .slice a2 (nl tN) c2, .slice a3 (nl tD) c3]) (by simp [results, Tryz.results23, go_sem, y0, y1, y2]) rfl (HA.out _ _ (ansT_mk (((o2.above (hb1 _)).set3 (by omega) hk _ _ _).own (by omega)) (((o3.above (hb1 _)).set3 (by omega) hk _ _ _).own (by omega))))

set_option maxHeartbeats 4000000 in
theorem ref_rsub {s : Bool} {a : Option Addr} {n c : Nat} {b : Option Addr} {m d : Nat} {q : Rat} {s' : Bool} {a' : Option Addr} {n' c' : Nat} {b' : Option Addr} {m' d' : Nat} {r : Rat} {w : World} (h : RR 1000 w s a n c b m d q) (k : RR 1000 w s' a' n' c' b' m' d' r) (z : Rat) (hz : q - r = z) :
    Calls Tryz.prog 30 #[.agg #[.bool s, .slice a n c, .slice b m d], .agg #[.bool s', .slice a' n' c', .slice b' m' d']] w (AnsR w z) := by
  have hr := rs_neg (k.rs (by omega))
  have NG := fun v (hb : Below w.heap.size w v) => ref_rneg ((k.below hb).mono (by omega)) _ rfl
  have AD := fun v (hb : Below w.heap.size w v) a1 c1 b1 d1 (W : World) (p : OwnR W v a1 c1 b1 d1 (-r)) => ref_radd (h.below hb) (p.rr hr) z (by rw [← Rat.sub_eq_add_neg]; exact hz)
  unfold AnsR OwnR at NG AD
  have HA : Hid (∀ e w', AnsT w (tri z) e w' → AnsR w z e w') := fun _ _ h => h
  unfold tri at HA
  generalize -r = r' at *
  generalize decide (r'.num < 0) = s1 at *
  generalize r'.num.natAbs = N1 at *
  generalize r'.den = D1 at *
  generalize decide (z.num < 0) = t0 at *
  generalize z.num.natAbs = tN at *
  generalize z.den = tD at *
  obtain ⟨b1, b2, b3, bV, hs⟩ := boxes3 w #[.bool s, .slice a n c, .slice b m d] #[.bool s', .slice a' n' c', .slice b' m' d'] #[.bool false, .slice none 0 0, .slice none 0 0] 24 24 24
  clear h k hz hr
  go_enter Tryz.func30, Tryz.ntmps30
  go_wp2
  generalize ((w.alloc (.cells #[.bool s, .slice a n c, .slice b m d] 24)).alloc (.cells #[.bool s', .slice a' n' c', .slice b' m' d'] 24)).alloc (.cells #[.bool false, .slice none 0 0, .slice none 0 0] 24) = V at *
  have SB : ∀ v, BoxC v w.heap.size #[.bool s, .slice a n c, .slice b m d] 24 → BoxC v (w.heap.size + 1) #[.bool s', .slice a' n' c', .slice b' m' d'] 24 → v.cell? ⟨w.heap.size, 0, none⟩ = some (.bool s) ∧ v.cell? ⟨w.heap.size, 1, none⟩ = some (.slice a n c) ∧ v.cell? ⟨w.heap.size, 2, none⟩ = some (.slice b m d) ∧ v.cell? ⟨w.heap.size + 1, 0, none⟩ = some (.bool s') ∧ v.cell? ⟨w.heap.size + 1, 1, none⟩ = some (.slice a' n' c') ∧ v.cell? ⟨w.heap.size + 1, 2, none⟩ = some (.slice b' m' d') := fun v h1 h2 => ⟨h1.cells3.1, h1.cells3.2.1, h1.cells3.2.2.1, h2.cells3.1, h2.cells3.2.1, h2.cells3.2.2.1⟩
  have SO := fun v (hb : Below V.heap.size V v) => SB v (b1.more hb) (b2.more hb)
  have SQ := fun v (hb : Below V.heap.size V v) x y z => SB (((v.setCell ⟨w.heap.size + 1 + 1, 0, none⟩ x).setCell ⟨w.heap.size + 1 + 1, 1, none⟩ y).setCell ⟨w.heap.size + 1 + 1, 2, none⟩ z) ((((b1.more hb).other (by omega) _).other (by omega) _).other (by omega) _) ((((b2.more hb).other (by omega) _).other (by omega) _).other (by omega) _)
  have bs : Below V.heap.size V V.drew := (Below.refl _ _).drew
  have HB : Hid (Below w.heap.size w V ∧ w.heap.size + 1 + 1 < V.heap.size) := ⟨bV, hs⟩
  have bW := fun v (hb : Below V.heap.size V v) => below_more HB.out.1 hb
  clear SB b1 b2 bV hs
  go_region_held3 (fun v => v.cell? ⟨w.heap.size, 0, none⟩ = some (.bool s) ∧ v.cell? ⟨w.heap.size, 1, none⟩ = some (.slice a n c) ∧ v.cell? ⟨w.heap.size, 2, none⟩ = some (.slice b m d) ∧ v.cell? ⟨w.heap.size + 1, 0, none⟩ = some (.bool s') ∧ v.cell? ⟨w.heap.size + 1, 1, none⟩ = some (.slice a' n' c') ∧ v.cell? ⟨w.heap.size + 1, 2, none⟩ = some (.slice b' m' d'))
    (first | exact SO _ bs | exact SQ _ bs _ _ _)
    (first
    | (go_at_call 21; (with_reducible refine Calls.mono (NG _ (bW _ bs)) ?_); rintro e w1 ⟨a1, c1, a2, c2, rfl, o1⟩; replace bs := below_more bs o1.1.below)
    | (go_at_call 28; (with_reducible refine Calls.mono (AD _ (bW _ bs) _ _ _ _ _ o1) ?_); rintro e w2 ⟨a3, c3, a4, c4, rfl, o3, o4⟩; have bs0 := bs; replace bs := below_more bs o3.below; obtain ⟨y0, y1, y2, g0, g1, g2⟩ := (b3.more bs).cells3))
  all_goals
    go_wp2
    have bX := bW _ bs0
    have hk := Nat.lt_of_lt_of_le HB.out.2 bs0.size
    exact bodyPost_ret (v := .agg #[.bool t0, .slice a3 (nl tN) c3, .slice a4 (nl tD) c4]) (by simp [results, Tryz.results30, go_sem, y0, y1, y2]) rfl (HA.out _ _ (ansT_mk (((o3.above bX).set3 (by omega) hk _ _ _).own (by omega)) (((o4.above bX).set3 (by omega) hk _ _ _).own (by omega))))
end Go.Proofs.YtpimcbncmfpdhaaGreatDoor
/-
  Contracts of the document's own answers of layer 8 (package talwegref08: Div), for every Rat of up to a thousand words each: as rational numbers; memory that was there stays, and what is answered is the call's own.
-/
namespace Go.Proofs.YtpimcbncmfpdhaaGreatDoor
open Go.RowKit

set_option maxHeartbeats 4000000 in
theorem ref_rdiv_ok {s : Bool} {a : Option Addr} {n c : Nat} {b : Option Addr} {m d : Nat} {q : Rat} {s' : Bool} {a' : Option Addr} {n' c' : Nat} {b' : Option Addr} {m' d' : Nat} {r : Rat} {w : World} (h : RR 1000 w s a n c b m d q) (k : RR 1000 w s' a' n' c' b' m' d' r) (h0 : r ≠ 0) (z : Rat) (hz : q / r = z) :
    Calls Tryz.prog 25 #[.agg #[.bool s, .slice a n c, .slice b m d], .agg #[.bool s', .slice a' n' c', .slice b' m' d']] w (AnsTE w (tri z) 0) := by
  have hr := rs_inv (k.rs (by omega)) (by omega)
  have ZR := fun v (hb : Below w.heap.size w v) => ref_rzero ((k.below hb).mono (by omega)) false (decide_eq_false h0)
  have NG := fun v (hb : Below w.heap.size w v) => ref_rturned ((k.below hb).mono (by omega)) h0 _ rfl
  have AD := fun v (hb : Below w.heap.size w v) a1 c1 b1 d1 (W : World) (p : OwnR W v a1 c1 b1 d1 r⁻¹) => ref_rmul (h.below hb) (p.rr hr) z (by rw [← Rat.div_def]; exact hz)
  unfold AnsR OwnR at NG AD
  unfold tri
  generalize r⁻¹ = r' at *
  generalize decide (r'.num < 0) = s1 at *
  generalize r'.num.natAbs = N1 at *
  generalize r'.den = D1 at *
  generalize decide (z.num < 0) = t0 at *
  generalize z.num.natAbs = tN at *
  generalize z.den = tD at *
  obtain ⟨b1, b2, b3, bV, hs⟩ := boxes3 w #[.bool s, .slice a n c, .slice b m d] #[.bool s', .slice a' n' c', .slice b' m' d'] #[.bool false, .slice none 0 0, .slice none 0 0] 24 24 24
  clear h k hz hr h0
  go_enter Tryz.func25, Tryz.ntmps25
  obtain ⟨z0, z1, z2, -, -, -⟩ := b2.cells3
  go_wp2_with (go_at_call 59; (with_reducible refine Calls.mono (ZR _ bV) ?_); rintro e w0 ⟨rfl, c0⟩)
  replace b1 := b1.more c0
  replace b2 := b2.more c0
  replace b3 := b3.more c0
  replace bV := below_more bV c0
  replace hs := Nat.lt_of_lt_of_le hs c0.size
  clear c0 z0 z1 z2 ZR
  generalize w0 = V at *
  have SB : ∀ v, BoxC v w.heap.size #[.bool s, .slice a n c, .slice b m d] 24 → BoxC v (w.heap.size + 1) #[.bool s', .slice a' n' c', .slice b' m' d'] 24 → v.cell? ⟨w.heap.size, 0, none⟩ = some (.bool s) ∧ v.cell? ⟨w.heap.size, 1, none⟩ = some (.slice a n c) ∧ v.cell? ⟨w.heap.size, 2, none⟩ = some (.slice b m d) ∧ v.cell? ⟨w.heap.size + 1, 0, none⟩ = some (.bool s') ∧ v.cell? ⟨w.heap.size + 1, 1, none⟩ = some (.slice a' n' c') ∧ v.cell? ⟨w.heap.size + 1, 2, none⟩ = some (.slice b' m' d') := fun v h1 h2 => ⟨h1.cells3.1, h1.cells3.2.1, h1.cells3.2.2.1, h2.cells3.1, h2.cells3.2.1, h2.cells3.2.2.1⟩
  have SO := fun v (hb : Below V.heap.size V v) => SB v (b1.more hb) (b2.more hb)
  have SQ := fun v (hb : Below V.heap.size V v) x y z => SB (((v.setCell ⟨w.heap.size + 1 + 1, 0, none⟩ x).setCell ⟨w.heap.size + 1 + 1, 1, none⟩ y).setCell ⟨w.heap.size + 1 + 1, 2, none⟩ z) ((((b1.more hb).other (by omega) _).other (by omega) _).other (by omega) _) ((((b2.more hb).other (by omega) _).other (by omega) _).other (by omega) _)
  have bs : Below V.heap.size V V.drew := (Below.refl _ _).drew
  have HB : Hid (Below w.heap.size w V ∧ w.heap.size + 1 + 1 < V.heap.size) := ⟨bV, hs⟩
  have bW := fun v (hb : Below V.heap.size V v) => below_more HB.out.1 hb
  clear SB b1 b2 bV hs
  go_region_held3 (fun v => v.cell? ⟨w.heap.size, 0, none⟩ = some (.bool s) ∧ v.cell? ⟨w.heap.size, 1, none⟩ = some (.slice a n c) ∧ v.cell? ⟨w.heap.size, 2, none⟩ = some (.slice b m d) ∧ v.cell? ⟨w.heap.size + 1, 0, none⟩ = some (.bool s') ∧ v.cell? ⟨w.heap.size + 1, 1, none⟩ = some (.slice a' n' c') ∧ v.cell? ⟨w.heap.size + 1, 2, none⟩ = some (.slice b' m' d'))
    (first | exact SO _ bs | exact SQ _ bs _ _ _)
    (first
    | (go_at_call 60; (with_reducible refine Calls.mono (NG _ (bW _ bs)) ?_); rintro e w1 ⟨a1, c1, a2, c2, rfl, o1⟩; replace bs := below_more bs o1.1.below)
    | (go_at_call 32; (with_reducible refine Calls.mono (AD _ (bW _ bs) _ _ _ _ _ o1) ?_); rintro e w2 ⟨a3, c3, a4, c4, rfl, o3, o4⟩; have bs0 := bs; replace bs := below_more bs o3.below; obtain ⟨y0, y1, y2, g0, g1, g2⟩ := (b3.more bs).cells3))
  all_goals
    go_wp2
    have bX := bW _ bs0
    have hk := Nat.lt_of_lt_of_le HB.out.2 bs0.size
    exact bodyPost_ret (v := .tuple #[.agg #[.bool t0, .slice a3 (nl tN) c3, .slice a4 (nl tD) c4], .int .i64 0]) (by simp [results, Tryz.results25, go_sem, y0, y1, y2]) rfl (ansTE_mk (((o3.above bX).set3 (by omega) hk _ _ _).own (by omega)) (((o4.above bX).set3 (by omega) hk _ _ _).own (by omega)))
/-- What Div tells. -/
def divT (q r : Rat) : R3 := if r = 0 then tri0 else tri (q / r)
def divE (r : Rat) : Int := if r = 0 then 3 else 0

set_option maxHeartbeats 4000000 in
theorem ref_rdiv {s : Bool} {a : Option Addr} {n c : Nat} {b : Option Addr} {m d : Nat} {q : Rat} {s' : Bool} {a' : Option Addr} {n' c' : Nat} {b' : Option Addr} {m' d' : Nat} {r : Rat} {w : World} (h : RR 1000 w s a n c b m d q) (k : RR 1000 w s' a' n' c' b' m' d' r) :
    Calls Tryz.prog 25 #[.agg #[.bool s, .slice a n c, .slice b m d], .agg #[.bool s', .slice a' n' c', .slice b' m' d']] w (AnsTE w (divT q r) (divE r)) := by
  unfold divT divE
  by_cases h0 : r = 0
  · rw [if_pos h0, if_pos h0]
    have ZR := fun v (hb : Below w.heap.size w v) => ref_rzero ((k.below hb).mono (by omega)) true (decide_eq_true h0)
    clear h k h0
    obtain ⟨b1, b2, b3, bV, hs⟩ := boxes3 w #[.bool s, .slice a n c, .slice b m d] #[.bool s', .slice a' n' c', .slice b' m' d'] #[.bool false, .slice none 0 0, .slice none 0 0] 24 24 24
    obtain ⟨z0, z1, z2, -, -, -⟩ := b2.cells3
    go_enter Tryz.func25, Tryz.ntmps25
    go_wp2_with (go_at_call 59; (with_reducible refine Calls.mono (ZR _ bV) ?_); rintro e w0 ⟨rfl, c0⟩; obtain ⟨y0, y1, y2, g0, g1, g2⟩ := (b3.more c0).cells3)
    exact bodyPost_ret (v := .tuple #[.agg #[.bool false, .slice none 0 0, .slice none 0 0], .int .i64 3]) (by simp [results, Tryz.results25, go_sem, y0, y1, y2]) rfl (ansTE_no (below_set3 (below_more bV c0) (by omega) _ _ _))
  · rw [if_neg h0, if_neg h0]
    exact ref_rdiv_ok h k h0 _ rfl
end Go.Proofs.YtpimcbncmfpdhaaGreatDoor
/-
  Contracts of the document's own answers of layer 8 (package talwegref08: Print), and of how long three Rats are (Few, and the statements' own few): as texts, for every Rat of up to three thousand words each; memory that was there stays.
-/
namespace Go.Proofs.YtpimcbncmfpdhaaGreatDoor
open Go.RowKit

/-- The text of a rational number. -/
def decR (q : Rat) : List UInt8 := if q.den = 1 then decI q.num else decI q.num ++ 124 :: decOf q.den

theorem decI_wlen (z : Int) {k : Nat} (h : nl z.natAbs ≤ k) (hk : 1 ≤ k) : (decI z).length ≤ 10 * k + 1 := by
  have := decOf_words h hk
  unfold decI; split
  · simp; omega
  · omega

set_option maxHeartbeats 4000000 in
theorem ref_rprint {s : Bool} {a : Option Addr} {n c : Nat} {b : Option Addr} {m d : Nat} {q : Rat} {w : World} (h : RR 3000 w s a n c b m d q) :
    Calls Tryz.prog 40 #[.agg #[.bool s, .slice a n c, .slice b m d]] w fun e w' => e = .returned (.string ⟨(decR q).toArray⟩) ∧ Below w.heap.size w w' := by
  have F := fun v (hb : Below w.heap.size w v) => ref_rfix' (by omega) (h.below hb)
  unfold AnsR OwnR at F
  obtain ⟨l1, l2⟩ := h.rs (by omega)
  have P1 := fun v a1 c1 (p : IsWords v (.slice a1 (nl q.num.natAbs) c1) (natOf q.num.natAbs)) => ref_iprint (s := decide (q.num < 0)) p (wd_natOf _) (by omega) q.num (by rw [val_natOf, iv_self])
  have P2 := fun v a1 c1 (p : IsWords v (.slice a1 (nl q.den) c1) (natOf q.den)) => ref_print p (wd_natOf _) (by omega) q.den (val_natOf _)
  have n1 : natOf 1 = [1] := natOf_lit [1] (wd_one (by omega) (by omega)) (by decide) (by decide)
  have W1 := fun v a1 c1 (r : Bool) (hr : decide (q.den = 1) = r) (p : IsWords v (.slice a1 (nl q.den) c1) (natOf q.den)) => ref_words a1 (nl q.den) c1 _ _ _ _ _ _ (p.below ((Below.refl _ v).alloc (Nat.le_refl _) (.cells #[.int .u32 1] 62))) (lit_words v [1] 1 rfl (by decide)) r (by
    rw [← hr]
    have : (natOf q.den = [1]) ↔ q.den = 1 := ⟨fun e => by rw [← val_natOf q.den, e]; rfl, fun e => by rw [e, n1]⟩
    simp only [decide_eq_decide]; exact this)
  obtain ⟨b1, bV, hs⟩ := boxes1 w #[.bool s, .slice a n c, .slice b m d] 24
  have hL1 := decI_wlen q.num l1 (by omega)
  have hL2 := decOf_words l2 (by omega)
  obtain ⟨x0, x1, x2, -, -, -⟩ := b1.cells3
  unfold decR
  by_cases hd : q.den = 1
  case' pos => rw [if_pos hd]; have W2 := fun v a1 c1 => W1 v a1 c1 true (decide_eq_true hd)
  case' neg => rw [if_neg hd]; have W2 := fun v a1 c1 => W1 v a1 c1 false (decide_eq_false hd)
  all_goals
    clear h l1 l2 n1 hd W1
    generalize decide (q.num < 0) = s1 at *
    generalize decI q.num = T1 at *
    generalize decOf q.den = T2 at *
    generalize q.num.natAbs = N1 at *
    generalize q.den = D1 at *
    have hT1 : (T1.length : Int) + 1 ≤ 9223372036854775807 := by omega
    have hT2 : (T1.length : Int) + 1 + T2.length ≤ 9223372036854775807 := by omega
    have HT : Hid (ByteArray.mk T1.toArray ++ ByteArray.mk #[124] ++ ByteArray.mk T2.toArray = ByteArray.mk (T1 ++ 124 :: T2).toArray) := by show _ = _; rw [ByteArray.mk_append_mk, ByteArray.mk_append_mk]; simp
    clear hL1 hL2
    go_enter Tryz.func40, Tryz.ntmps40
    go_wp2_with (first
      | (go_at_call 19; (with_reducible refine Calls.mono (F _ bV) ?_); rintro e w1 ⟨a1, c1, a2, c2, rfl, o1, o2⟩; have p1 := fun o => (o1.alloc o).words; have bW := fun o => (below_more bV o1.below).alloc (below_more bV o1.below).size o; have B1 := BoxC.new w1 #[.bool s1, .slice a1 (nl N1) c1, .slice a2 (nl D1) c2] 24)
      | (go_at_call 78; (with_reducible refine Calls.mono (P1 _ _ _ (p1 _)) ?_); rintro e w2 ⟨rfl, b2⟩; have q2 := (o2.alloc _).more b2; obtain ⟨y0, y1, y2, -, -, -⟩ := (B1.more b2).cells3)
      | (go_at_call 50; (with_reducible refine Calls.mono (W2 _ _ _ q2.words) ?_); rintro e w3 ⟨rfl, b3⟩; have q3 := (q2.alloc _).more b3; obtain ⟨u0, u1, u2, -, -, -⟩ := (((B1.more b2).alloc _).more b3).cells3)
      | (go_at_call 79; (with_reducible refine Calls.mono (P2 _ _ _ q3.words) ?_); rintro e w4 ⟨rfl, b4⟩; replace q3 := q3.more b4))
    go_ret
    first | exact ⟨rfl, below_more bV q3.below⟩ | exact ⟨by rw [← HT.out]; rfl, below_more bV q3.below⟩
end Go.Proofs.YtpimcbncmfpdhaaGreatDoor
/-
  Contract of how long three Rats are (talwegref08.Few over three, and the statements' own few): true, if each of the six lists has at most so many words; memory that was there stays.
-/
namespace Go.Proofs.YtpimcbncmfpdhaaGreatDoor
open Go.RowKit

set_option maxHeartbeats 4000000 in
theorem ref_few3 (w : World) (k : Nat) (s0 s1 s2 : Bool) (a0 a1 a2 b0 b1 b2 : Option Addr) (n0 n1 n2 c0 c1 c2 m0 m1 m2 d0 d1 d2 t : Nat)
    (h : BoxC w k #[.bool s0, .slice a0 n0 c0, .slice b0 m0 d0, .bool s1, .slice a1 n1 c1, .slice b1 m1 d1, .bool s2, .slice a2 n2 c2, .slice b2 m2 d2] 24) (r : Bool) (hr : decide (n0 ≤ t ∧ m0 ≤ t ∧ n1 ≤ t ∧ m1 ≤ t ∧ n2 ≤ t ∧ m2 ≤ t) = r) :
    Calls Tryz.prog 42 #[.slice (some ⟨k, 0, none⟩) 3 3, .int .i64 t] w fun e w' => e = .returned (.bool r) ∧ w = w' := by
  have x1 := (h.cell 1).1; have x2 := (h.cell 2).1; have x4 := (h.cell 4).1; have x5 := (h.cell 5).1; have x7 := (h.cell 7).1; have x8 := (h.cell 8).1
  have HR : Hid (decide (n0 ≤ t ∧ m0 ≤ t ∧ n1 ≤ t ∧ m1 ≤ t ∧ n2 ≤ t ∧ m2 ≤ t) = r) := hr
  simp only [List.getElem?_toArray, List.getElem?_cons_succ, List.getElem?_cons_zero] at x1 x2 x4 x5 x7 x8
  clear h hr
  go_enter Tryz.func42, Tryz.ntmps42
  go_wp2
  go_loopg [5] 3 (fun g s5 v => ∃ i : Nat, s5 = .int .i64 i ∧ i + g = 3 ∧ w = v ∧ (1 ≤ i → n0 ≤ t ∧ m0 ≤ t) ∧ (2 ≤ i → n1 ≤ t ∧ m1 ≤ t) ∧ (3 ≤ i → n2 ≤ t ∧ m2 ≤ t))
  case atStart => exact ⟨0, rfl, rfl, rfl, by omega, by omega, by omega⟩
  case round =>
    obtain ⟨i, rfl, hi, rfl, q0, q1, q2⟩ := hrel
    have HQ : Hid ((1 ≤ i → n0 ≤ t ∧ m0 ≤ t) ∧ (2 ≤ i → n1 ≤ t ∧ m1 ≤ t) ∧ (3 ≤ i → n2 ≤ t ∧ m2 ≤ t)) := ⟨q0, q1, q2⟩
    clear q0 q1 q2
    rcases (by omega : i = 3 ∧ gk = 0 ∨ i = 2 ∧ gk = 1 ∨ i = 1 ∧ gk = 2 ∨ i = 0 ∧ gk = 3) with ⟨rfl, rfl⟩ | ⟨rfl, rfl⟩ | ⟨rfl, rfl⟩ | ⟨rfl, rfl⟩
    · have h1 := HQ.out
      have HB : Hid (r = true) := by show r = true; rw [← HR.out]; exact decide_eq_true ⟨(h1.1 (by omega)).1, (h1.1 (by omega)).2, (h1.2.1 (by omega)).1, (h1.2.1 (by omega)).2, (h1.2.2 (by omega)).1, (h1.2.2 (by omega)).2⟩
      clear h1 hi
      go_wp2
      go_ret
      exact ⟨by rw [HB.out]; rfl, rfl⟩
    · by_cases hn : n2 ≤ t
      case neg =>
        have HB : Hid (r = false) := by show r = false; rw [← HR.out]; exact decide_eq_false (by omega)
        have hn' : (t : Int) < n2 := by omega
        clear hi HQ hn
        go_wp2
        go_ret
        exact ⟨by rw [HB.out]; rfl, rfl⟩
      case pos =>
        have hn' : ¬ (t : Int) < n2 := by omega
        by_cases hm : m2 ≤ t
        case neg =>
          have HB : Hid (r = false) := by show r = false; rw [← HR.out]; exact decide_eq_false (by omega)
          have hm' : (t : Int) < m2 := by omega
          clear hi HQ hn hm
          go_wp2
          go_ret
          exact ⟨by rw [HB.out]; rfl, rfl⟩
        case pos =>
          have hm' : ¬ (t : Int) < m2 := by omega
          have HN : Hid (n2 ≤ t ∧ m2 ≤ t) := ⟨hn, hm⟩
          clear hi hn hm
          go_wp2
          have h1 := HQ.out
          have h2 := HN.out
          go_roundg 0
          case measure => omega
          case rel => exact ⟨3, rfl, by omega, rfl, by omega, by omega, by omega⟩
    · by_cases hn : n1 ≤ t
      case neg =>
        have HB : Hid (r = false) := by show r = false; rw [← HR.out]; exact decide_eq_false (by omega)
        have hn' : (t : Int) < n1 := by omega
        clear hi HQ hn
        go_wp2
        go_ret
        exact ⟨by rw [HB.out]; rfl, rfl⟩
      case pos =>
        have hn' : ¬ (t : Int) < n1 := by omega
        by_cases hm : m1 ≤ t
        case neg =>
          have HB : Hid (r = false) := by show r = false; rw [← HR.out]; exact decide_eq_false (by omega)
          have hm' : (t : Int) < m1 := by omega
          clear hi HQ hn hm
          go_wp2
          go_ret
          exact ⟨by rw [HB.out]; rfl, rfl⟩
        case pos =>
          have hm' : ¬ (t : Int) < m1 := by omega
          have HN : Hid (n1 ≤ t ∧ m1 ≤ t) := ⟨hn, hm⟩
          clear hi hn hm
          go_wp2
          have h1 := HQ.out
          have h2 := HN.out
          go_roundg 1
          case measure => omega
          case rel => exact ⟨2, rfl, by omega, rfl, by omega, by omega, by omega⟩
    · by_cases hn : n0 ≤ t
      case neg =>
        have HB : Hid (r = false) := by show r = false; rw [← HR.out]; exact decide_eq_false (by omega)
        have hn' : (t : Int) < n0 := by omega
        clear hi HQ hn
        go_wp2
        go_ret
        exact ⟨by rw [HB.out]; rfl, rfl⟩
      case pos =>
        have hn' : ¬ (t : Int) < n0 := by omega
        by_cases hm : m0 ≤ t
        case neg =>
          have HB : Hid (r = false) := by show r = false; rw [← HR.out]; exact decide_eq_false (by omega)
          have hm' : (t : Int) < m0 := by omega
          clear hi HQ hn hm
          go_wp2
          go_ret
          exact ⟨by rw [HB.out]; rfl, rfl⟩
        case pos =>
          have hm' : ¬ (t : Int) < m0 := by omega
          have HN : Hid (n0 ≤ t ∧ m0 ≤ t) := ⟨hn, hm⟩
          clear hi hn hm
          go_wp2
          have h1 := HQ.out
          have h2 := HN.out
          go_roundg 2
          case measure => omega
          case rel => exact ⟨1, rfl, by omega, rfl, by omega, by omega, by omega⟩

set_option maxHeartbeats 4000000 in
theorem law8_few (w : World) (s0 s1 s2 : Bool) (a0 a1 a2 b0 b1 b2 : Option Addr) (n0 n1 n2 c0 c1 c2 m0 m1 m2 d0 d1 d2 : Nat) (r : Bool) (hr : decide (n0 ≤ 4 ∧ m0 ≤ 4 ∧ n1 ≤ 4 ∧ m1 ≤ 4 ∧ n2 ≤ 4 ∧ m2 ≤ 4) = r) :
    Calls Tryz.prog 12 #[.agg #[.bool s0, .slice a0 n0 c0, .slice b0 m0 d0], .agg #[.bool s1, .slice a1 n1 c1, .slice b1 m1 d1], .agg #[.bool s2, .slice a2 n2 c2, .slice b2 m2 d2]] w fun e w' => e = .returned (.bool r) ∧ Below w.heap.size w w' := by
  obtain ⟨x1, x2, x3, bV, hs⟩ := boxes3 w #[.bool s0, .slice a0 n0 c0, .slice b0 m0 d0] #[.bool s1, .slice a1 n1 c1, .slice b1 m1 d1] #[.bool s2, .slice a2 n2 c2, .slice b2 m2 d2] 24 24 24
  have B9 := BoxC.new (((w.alloc (.cells #[.bool s0, .slice a0 n0 c0, .slice b0 m0 d0] 24)).alloc (.cells #[.bool s1, .slice a1 n1 c1, .slice b1 m1 d1] 24)).alloc (.cells #[.bool s2, .slice a2 n2 c2, .slice b2 m2 d2] 24)) #[.bool s0, .slice a0 n0 c0, .slice b0 m0 d0, .bool s1, .slice a1 n1 c1, .slice b1 m1 d1, .bool s2, .slice a2 n2 c2, .slice b2 m2 d2] 24
  rw [World.size_alloc, World.size_alloc, World.size_alloc] at B9
  have F := ref_few3 _ _ s0 s1 s2 a0 a1 a2 b0 b1 b2 n0 n1 n2 c0 c1 c2 m0 m1 m2 d0 d1 d2 4 B9 r hr
  rw [show ((4 : Nat) : Int) = 4 from rfl] at F
  obtain ⟨p0, p1, p2, -, -, -⟩ := x1.cells3
  obtain ⟨q0, q1, q2, -, -, -⟩ := x2.cells3
  obtain ⟨u0, u1, u2, -, -, -⟩ := x3.cells3
  clear hr
  go_enter Tryz.func12, Tryz.ntmps12
  go_wp2_with (go_at_call 42; (with_reducible refine Calls.mono F ?_); rintro e w1 ⟨rfl, rfl⟩)
  go_ret
  exact ⟨rfl, bV.alloc bV.size _⟩
end Go.Proofs.YtpimcbncmfpdhaaGreatDoor
/-
  What the statements over rational numbers ask of package ratio (its contracts), and the chapter's examples by them: for whatever package ratio keeps these; memory that was there stays.
-/
namespace Go.Proofs.YtpimcbncmfpdhaaGreatDoor
open Go.RowKit

/-- What Pow tells. -/
def powE (q : Rat) (n : Int) : Int := if n < -64 ∨ 64 < n then 4 else if q = 0 ∧ n < 0 then 3 else 0
def powT (q : Rat) (n : Int) : R3 := if n < -64 ∨ 64 < n then tri0 else if q = 0 ∧ n < 0 then tri0 else tri (q ^ n)
/-- What stands ahead of the first stroke, and from it on. -/
def frontR (l : List UInt8) : List UInt8 := l.takeWhile (· != 124)
def restR (l : List UInt8) : List UInt8 := l.dropWhile (· != 124)
/-- What Parse tells. -/
def parE (l : List UInt8) : Int := if zerr (frontR l) ≠ 0 then zerr (frontR l) else match restR l with
  | [] => 0
  | _ :: r => if perr r ≠ 0 then perr r else if pnum r = 0 then 3 else 0
def parQ (l : List UInt8) : Rat := match restR l with
  | [] => (znum (frontR l) : Rat)
  | _ :: r => mkRat (znum (frontR l)) (pnum r)
def parT (l : List UInt8) : R3 := if parE l = 0 then tri (parQ l) else tri0

/-- Package ratio's contracts. -/
structure RatioOk : Prop where
  right : ∀ {s : Bool} {a : Option Addr} {n c : Nat} {xs : List Int} {b : Option Addr} {m d : Nat} {ys : List Int} {w : World}, IsWords w (.slice a n c) xs → Wd xs → IsWords w (.slice b m d) ys → Wd ys → n ≤ 10000 → m ≤ 10000 → ∀ q : Rat, rv s (val xs) (val ys) = q →
    ∀ r : Bool, decide (decide (q.num < 0) = s ∧ natOf q.num.natAbs = xs ∧ natOf q.den = ys) = r → Calls Tryz.prog 15 #[.agg #[.bool s, .slice a n c, .slice b m d]] w fun e w' => e = .returned (.bool r) ∧ Below w.heap.size w w'
  fix : ∀ {s : Bool} {a : Option Addr} {n c : Nat} {b : Option Addr} {m d : Nat} {q : Rat} {w : World}, RR 10000 w s a n c b m d q → Calls Tryz.prog 18 #[.agg #[.bool s, .slice a n c, .slice b m d]] w (AnsR w q)
  make : ∀ {s : Bool} {a : Option Addr} {n c : Nat} {xs : List Int} {t : Bool} {b : Option Addr} {m d : Nat} {ys : List Int} {w : World}, IsWords w (.slice a n c) xs → Wd xs → IsWords w (.slice b m d) ys → Wd ys → n ≤ 10000 → m ≤ 10000 →
    Calls Tryz.prog 13 #[.agg #[.bool s, .slice a n c], .agg #[.bool t, .slice b m d]] w (AnsTE w (mkT s (val xs) t (val ys)) (mkE (val ys)))
  of : ∀ (n : Int) (w : World), -9223372036854775808 ≤ n → n < 9223372036854775808 → Calls Tryz.prog 22 #[.int .i64 n] w (AnsR w (n : Rat))
  neg : ∀ {s : Bool} {a : Option Addr} {n c : Nat} {b : Option Addr} {m d : Nat} {q : Rat} {w : World}, RR 10000 w s a n c b m d q → ∀ z, -q = z → Calls Tryz.prog 20 #[.agg #[.bool s, .slice a n c, .slice b m d]] w (AnsR w z)
  add : ∀ {s : Bool} {a : Option Addr} {n c : Nat} {b : Option Addr} {m d : Nat} {q : Rat} {s' : Bool} {a' : Option Addr} {n' c' : Nat} {b' : Option Addr} {m' d' : Nat} {r : Rat} {w : World}, RR 10000 w s a n c b m d q → RR 10000 w s' a' n' c' b' m' d' r → ∀ z, q + r = z →
    Calls Tryz.prog 27 #[.agg #[.bool s, .slice a n c, .slice b m d], .agg #[.bool s', .slice a' n' c', .slice b' m' d']] w (AnsR w z)
  sub : ∀ {s : Bool} {a : Option Addr} {n c : Nat} {b : Option Addr} {m d : Nat} {q : Rat} {s' : Bool} {a' : Option Addr} {n' c' : Nat} {b' : Option Addr} {m' d' : Nat} {r : Rat} {w : World}, RR 10000 w s a n c b m d q → RR 10000 w s' a' n' c' b' m' d' r → ∀ z, q - r = z →
    Calls Tryz.prog 29 #[.agg #[.bool s, .slice a n c, .slice b m d], .agg #[.bool s', .slice a' n' c', .slice b' m' d']] w (AnsR w z)
  mul : ∀ {s : Bool} {a : Option Addr} {n c : Nat} {b : Option Addr} {m d : Nat} {q : Rat} {s' : Bool} {a' : Option Addr} {n' c' : Nat} {b' : Option Addr} {m' d' : Nat} {r : Rat} {w : World}, RR 10000 w s a n c b m d q → RR 10000 w s' a' n' c' b' m' d' r → ∀ z, q * r = z →
    Calls Tryz.prog 31 #[.agg #[.bool s, .slice a n c, .slice b m d], .agg #[.bool s', .slice a' n' c', .slice b' m' d']] w (AnsR w z)
  div : ∀ {s : Bool} {a : Option Addr} {n c : Nat} {b : Option Addr} {m d : Nat} {q : Rat} {s' : Bool} {a' : Option Addr} {n' c' : Nat} {b' : Option Addr} {m' d' : Nat} {r : Rat} {w : World}, RR 10000 w s a n c b m d q → RR 10000 w s' a' n' c' b' m' d' r →
    Calls Tryz.prog 24 #[.agg #[.bool s, .slice a n c, .slice b m d], .agg #[.bool s', .slice a' n' c', .slice b' m' d']] w (AnsTE w (divT q r) (divE r))
  cmp : ∀ {s : Bool} {a : Option Addr} {n c : Nat} {b : Option Addr} {m d : Nat} {q : Rat} {s' : Bool} {a' : Option Addr} {n' c' : Nat} {b' : Option Addr} {m' d' : Nat} {r : Rat} {w : World}, RR 10000 w s a n c b m d q → RR 10000 w s' a' n' c' b' m' d' r → ∀ z, rsgn q r = z →
    Calls Tryz.prog 33 #[.agg #[.bool s, .slice a n c, .slice b m d], .agg #[.bool s', .slice a' n' c', .slice b' m' d']] w fun e w' => e = .returned (.int .i64 z) ∧ Below w.heap.size w w'
  same : ∀ {s : Bool} {a : Option Addr} {n c : Nat} {b : Option Addr} {m d : Nat} {q : Rat} {s' : Bool} {a' : Option Addr} {n' c' : Nat} {b' : Option Addr} {m' d' : Nat} {r : Rat} {w : World}, RR 10000 w s a n c b m d q → RR 10000 w s' a' n' c' b' m' d' r → ∀ z, decide (q = r) = z →
    Calls Tryz.prog 34 #[.agg #[.bool s, .slice a n c, .slice b m d], .agg #[.bool s', .slice a' n' c', .slice b' m' d']] w fun e w' => e = .returned (.bool z) ∧ Below w.heap.size w w'
  pow : ∀ {k : Nat} {s : Bool} {a : Option Addr} {n c : Nat} {b : Option Addr} {m d : Nat} {q : Rat} {w : World}, RR k w s a n c b m d q → k ≤ 10000 → ∀ i : Int, -9223372036854775808 ≤ i → i < 9223372036854775808 → (-64 ≤ i ∧ i ≤ 64 → k * i.natAbs ≤ 4096) →
    Calls Tryz.prog 35 #[.agg #[.bool s, .slice a n c, .slice b m d], .int .i64 i] w (AnsTE w (powT q i) (powE q i))
  parse : ∀ (s : ByteArray) (w : World), s.size ≤ maxLen → Calls Tryz.prog 37 #[.string s] w (AnsTE w (parT s.data.toList) (parE s.data.toList))
  print : ∀ {s : Bool} {a : Option Addr} {n c : Nat} {b : Option Addr} {m d : Nat} {q : Rat} {w : World}, RR 10000 w s a n c b m d q → Calls Tryz.prog 39 #[.agg #[.bool s, .slice a n c, .slice b m d]] w fun e w' => e = .returned (.string ⟨(decR q).toArray⟩) ∧ Below w.heap.size w w'

theorem rs_small (q : Rat) (h1 : q.num.natAbs < 4294967296) (h2 : q.den < 4294967296) : RS 1 q := ⟨nl_le 1 _ (by simpa using h1), nl_le 1 _ (by simpa using h2)⟩
theorem parT_one : parT [49, 124, 50] = tri (mkRat 1 2) ∧ parE [49, 124, 50] = 0 := by decide
theorem parT_two : parT [49, 124, 51] = tri (mkRat 1 3) ∧ parE [49, 124, 51] = 0 := by decide
theorem parT_six : parT [45, 52, 124, 54] = tri (mkRat (-2) 3) ∧ parE [45, 52, 124, 54] = 0 := by decide
theorem dec_one {c : UInt8} (h : 49 ≤ c.toNat ∧ c.toNat ≤ 57) : decOf (c.toNat - 48) = [c] := by
  have hn : Num [c] := ⟨by simp, by rw [digS_one]; omega, fun _ => by simp⟩
  have := decOf_valD hn
  rwa [valD_one] at this
theorem decR_ex1 : decR (mkRat 5 6) = [53, 124, 54] := by
  have e1 : (mkRat 5 6).num = 5 := by decide
  have e2 : (mkRat 5 6).den = 6 := by decide
  unfold decR decI
  rw [e1, e2, if_neg (by omega), if_neg (by omega)]
  have a1 := dec_one (c := 53) (by decide)
  have a2 := dec_one (c := 54) (by decide)
  show decOf 5 ++ 124 :: decOf 6 = _
  rw [show (5 : Nat) = (53 : UInt8).toNat - 48 from rfl, a1, show (6 : Nat) = (54 : UInt8).toNat - 48 from rfl, a2]; rfl
theorem decR_ex2 : decR (mkRat (-2) 3) = [45, 50, 124, 51] := by
  have e1 : (mkRat (-2) 3).num = -2 := by decide
  have e2 : (mkRat (-2) 3).den = 3 := by decide
  unfold decR decI
  rw [e1, e2, if_neg (by omega), if_pos (by omega)]
  have a1 := dec_one (c := 50) (by decide)
  have a2 := dec_one (c := 51) (by decide)
  show (45 :: decOf 2) ++ 124 :: decOf 3 = _
  rw [show (2 : Nat) = (50 : UInt8).toNat - 48 from rfl, a1, show (3 : Nat) = (51 : UInt8).toNat - 48 from rfl, a2]; rfl
theorem decR_ex3 : decR (mkRat 9 4) = [57, 124, 52] := by
  have e1 : (mkRat 9 4).num = 9 := by decide
  have e2 : (mkRat 9 4).den = 4 := by decide
  unfold decR decI
  rw [e1, e2, if_neg (by omega), if_neg (by omega)]
  have a1 := dec_one (c := 57) (by decide)
  have a2 := dec_one (c := 52) (by decide)
  show decOf 9 ++ 124 :: decOf 4 = _
  rw [show (9 : Nat) = (57 : UInt8).toNat - 48 from rfl, a1, show (4 : Nat) = (52 : UInt8).toNat - 48 from rfl, a2]; rfl
theorem sum_ex : mkRat 1 2 + mkRat 1 3 = mkRat 5 6 := by
  rw [Rat.mkRat_add_mkRat _ _ (by decide) (by decide)]; exact (Rat.mkRat_eq_iff (by decide) (by decide)).2 (by decide)
theorem pow_ex : powT (mkRat 2 3) (-2) = tri (mkRat 9 4) ∧ powE (mkRat 2 3) (-2) = 0 := by
  have h0 : ¬ (mkRat 2 3 = 0 ∧ (-2 : Int) < 0) := fun h => (Rat.mkRat_ne_zero (by decide)).2 (by decide) h.1
  have e : mkRat 2 3 ^ (-2 : Int) = mkRat 9 4 := by
    have e1 : (mkRat 2 3).num = 2 := by decide
    have e2 : (mkRat 2 3).den = 3 := by decide
    have e3 : (mkRat 9 4).num = 9 := by decide
    have e4 : (mkRat 9 4).den = 4 := by decide
    rw [show (-2 : Int) = -((2 : Nat) : Int) from rfl, Rat.zpow_neg, Rat.zpow_natCast]
    refine Rat.ext ?_ ?_
    · rw [Rat.num_inv, Rat.num_pow, Rat.den_pow, e1, e2, e3]; decide
    · rw [Rat.den_inv, Rat.num_pow, e1, e4]; decide
  unfold powT powE
  rw [if_neg (by omega), if_neg h0, if_neg (by omega), if_neg h0, e]
  exact ⟨rfl, rfl⟩
theorem neg_ex : -mkRat (-2) 3 = mkRat 2 3 := by decide

set_option maxHeartbeats 8000000 in
theorem ratio_awake (K : RatioOk) (w : World) : Calls Tryz.prog 11 #[] w fun e w' => e = .returned (.bool true) ∧ Below w.heap.size w w' := by
  have P1 := fun v => K.parse ⟨#[49, 124, 50]⟩ v (by decide)
  have P2 := fun v => K.parse ⟨#[49, 124, 51]⟩ v (by decide)
  have P3 := fun v => K.parse ⟨#[45, 52, 124, 54]⟩ v (by decide)
  simp only [parT_one.1, parT_one.2] at P1
  simp only [parT_two.1, parT_two.2] at P2
  simp only [parT_six.1, parT_six.2] at P3
  have h1 := (rs_small (mkRat 1 2) (by decide) (by decide)).mono (m := 10000) (by omega)
  have h2 := (rs_small (mkRat 1 3) (by decide) (by decide)).mono (m := 10000) (by omega)
  have h3 := (rs_small (mkRat (-2) 3) (by decide) (by decide)).mono (m := 10000) (by omega)
  have h4 := rs_small (mkRat 2 3) (by decide) (by decide)
  have h5 := (rs_small (mkRat 9 4) (by decide) (by decide)).mono (m := 10000) (by omega)
  have h6 := (rs_small (mkRat 5 6) (by decide) (by decide)).mono (m := 10000) (by omega)
  have N1 := fun v W a c b d (o : OwnR W v a c b d (mkRat (-2) 3)) => K.neg (o.rr h3) _ neg_ex
  have W1 := fun v W a c b d (o : OwnR W v a c b d (mkRat 2 3)) => K.pow (o.rr h4) (by omega) (-2) (by omega) (by omega) (by omega)
  simp only [pow_ex.1, pow_ex.2] at W1
  have A1 := fun v W a c b d W' a' c' b' d' (o : OwnR W v a c b d (mkRat 1 2)) (o' : OwnR W' v a' c' b' d' (mkRat 1 3)) => K.add (o.rr h1) (o'.rr h2) _ sum_ex
  have T1 := fun v W a c b d (o : OwnR W v a c b d (mkRat 5 6)) => K.print (o.rr h6)
  have T2 := fun v W a c b d (o : OwnR W v a c b d (mkRat (-2) 3)) => K.print (o.rr h3)
  have T3 := fun v W a c b d (o : OwnR W v a c b d (mkRat 9 4)) => K.print (o.rr h5)
  rw [decR_ex1] at T1
  rw [decR_ex2] at T2
  rw [decR_ex3] at T3
  unfold AnsTE tri at P1 P2 P3 W1
  unfold AnsR at N1 A1
  dsimp only at P1 P2 P3 W1
  clear h1 h2 h3 h4 h5 h6 K
  generalize mkRat 1 2 = q1 at *
  generalize mkRat 1 3 = q2 at *
  generalize mkRat (-2) 3 = q3 at *
  generalize mkRat 2 3 = q4 at *
  generalize mkRat 9 4 = q5 at *
  generalize mkRat 5 6 = q6 at *
  unfold OwnR at *
  generalize decide (q1.num < 0) = s1 at *
  generalize q1.num.natAbs = n1 at *
  generalize q1.den = d1 at *
  generalize decide (q2.num < 0) = s2 at *
  generalize q2.num.natAbs = n2 at *
  generalize q2.den = d2 at *
  generalize decide (q3.num < 0) = s3 at *
  generalize q3.num.natAbs = n3 at *
  generalize q3.den = d3 at *
  generalize decide (q4.num < 0) = s4 at *
  generalize q4.num.natAbs = n4 at *
  generalize q4.den = d4 at *
  generalize decide (q5.num < 0) = s5 at *
  generalize q5.num.natAbs = n5 at *
  generalize q5.den = d5 at *
  generalize decide (q6.num < 0) = s6 at *
  generalize q6.num.natAbs = n6 at *
  generalize q6.den = d6 at *
  go_enter Tryz.func11, Tryz.ntmps11
  go_wp2_with (first
    | (go_at_call 37; (with_reducible refine Calls.mono (P1 _) ?_); rintro e w1 ⟨a1, c1, b1, e1, rfl, o1⟩; have B1 := BoxC.new w1 #[.bool s1, .slice a1 (nl n1) c1, .slice b1 (nl d1) e1] 24)
    | (go_at_call 37; (with_reducible refine Calls.mono (P2 _) ?_); rintro e w2 ⟨a2, c2, b2, e2, rfl, o2⟩; have B2 := BoxC.new w2 #[.bool s2, .slice a2 (nl n2) c2, .slice b2 (nl d2) e2] 24)
    | (go_at_call 37; (with_reducible refine Calls.mono (P3 _) ?_); rintro e w3 ⟨a3, c3, b3, e3, rfl, o3⟩; have B3 := BoxC.new w3 #[.bool s3, .slice a3 (nl n3) c3, .slice b3 (nl d3) e3] 24)
    | (go_at_call 20; (with_reducible refine Calls.mono (N1 _ _ _ _ _ _ ⟨o3.1.alloc _, o3.2.alloc _⟩) ?_); rintro e w4 ⟨a4, c4, b4, e4, rfl, o4⟩)
    | (go_at_call 35; (with_reducible refine Calls.mono (W1 _ _ _ _ _ _ o4) ?_); rintro e w5 ⟨a5, c5, b5, e5, rfl, o5⟩; have B5 := BoxC.new w5 #[.bool s5, .slice a5 (nl n5) c5, .slice b5 (nl d5) e5] 24; have C1 := fun o => (((((((B1.more o2.1.below).alloc _).more o3.1.below).alloc _).more o4.1.below).more o5.1.below).alloc o); have C2 := fun o => (((((B2.more o3.1.below).alloc _).more o4.1.below).more o5.1.below).alloc o); have C3 := fun o => ((((B3.more o4.1.below).more o5.1.below).alloc o)); have y0 := fun o => (C1 o).cells3.1; have y1 := fun o => (C1 o).cells3.2.1; have y2 := fun o => (C1 o).cells3.2.2.1; have z0 := fun o => (C2 o).cells3.1; have z1 := fun o => (C2 o).cells3.2.1; have z2 := fun o => (C2 o).cells3.2.2.1; have p1 := fun o => (((((((o1.1.alloc _).more o2.1.below).alloc _).more o3.1.below).alloc _).more o4.1.below).more o5.1.below).alloc o; have p1' := fun o => (((((((o1.2.alloc _).more o2.1.below).alloc _).more o3.1.below).alloc _).more o4.1.below).more o5.1.below).alloc o; have p2 := fun o => (((((o2.1.alloc _).more o3.1.below).alloc _).more o4.1.below).more o5.1.below).alloc o; have p2' := fun o => (((((o2.2.alloc _).more o3.1.below).alloc _).more o4.1.below).more o5.1.below).alloc o; have p3 := fun o => (((o3.1.alloc _).more o4.1.below).more o5.1.below).alloc o; have p3' := fun o => (((o3.2.alloc _).more o4.1.below).more o5.1.below).alloc o)
    | (go_at_call 27; (with_reducible refine Calls.mono (A1 _ _ _ _ _ _ _ _ _ _ _ ⟨p1 _, p1' _⟩ ⟨p2 _, p2' _⟩) ?_); rintro e w6 ⟨a6, c6, b6, e6, rfl, o6⟩)
    | (go_at_call 39; (with_reducible refine Calls.mono (T1 _ _ _ _ _ _ o6) ?_); rintro e w7 ⟨rfl, b7⟩; have d7 := below_more o6.1.below b7; obtain ⟨u0, u1, u2, -, -, -⟩ := ((C3 _).more d7).cells3)
    | (go_at_call 39; (with_reducible refine Calls.mono (T2 _ _ _ _ _ _ ⟨(p3 _).more d7, (p3' _).more d7⟩) ?_); rintro e w8 ⟨rfl, b8⟩; have d8 := below_more d7 b8; obtain ⟨v0, v1, v2, -, -, -⟩ := (B5.more d8).cells3)
    | (go_at_call 39; (with_reducible refine Calls.mono (T3 _ _ _ _ _ _ ⟨(o5.1.alloc _).more d8, (o5.2.alloc _).more d8⟩) ?_); rintro e w9 ⟨rfl, b9⟩; have d9 := (((p1 _).more d8).more b9).below))
  go_ret
  exact ⟨rfl, d9⟩
end Go.Proofs.YtpimcbncmfpdhaaGreatDoor
/-
  Small things that the walks of the statements over rational numbers share. No conditions of the program.
-/
namespace Go.Proofs.YtpimcbncmfpdhaaGreatDoor
open Go.RowKit

theorem came_rr {w : World} {s : Bool} {a : Option Addr} {len cap : Nat} {z : List Int} {b : Option Addr} {m e : Nat} {y : List Int} (h : CameIn .u32 w a len cap z) (k : CameIn .u32 w b m e y) {k0 : Nat} (hl : len ≤ k0) (hm : m ≤ k0) (hk : 1 ≤ k0) : ∃ X : Rat, RR k0 w s a len cap b m e X ∧ RS k0 X := by
  have h1 : RR k0 w s a len cap b m e _ := ⟨_, _, came_words h, came_wd h, came_words k, came_wd k, hl, hm, rfl⟩
  exact ⟨_, h1, h1.rs hk⟩
theorem wf_i64r {a : Int} (h : (Lit.int .i64 a).wf = true) : -9223372036854775808 ≤ a ∧ a < 9223372036854775808 := by
  have : -9223372036854775808 ≤ a ∧ a ≤ 9223372036854775807 := by simpa [Lit.wf, IntKind.min, IntKind.max, IntKind.signed, IntKind.bits] using h
  omega
theorem own2_more {W w w' : World} {v : Value} {n : Nat} {xs : List Int} {v' : Value} {n' : Nat} {ys : List Int} (h : Own W w v n xs ∧ Own W w v' n' ys) (hb : Below w.heap.size w w') : Own W w' v n xs ∧ Own W w' v' n' ys := ⟨h.1.more hb, h.2.more hb⟩
theorem own2_alloc {W w : World} {v : Value} {n : Nat} {xs : List Int} {v' : Value} {n' : Nat} {ys : List Int} (h : Own W w v n xs ∧ Own W w v' n' ys) (o : Obj) : Own W (w.alloc o) v n xs ∧ Own W (w.alloc o) v' n' ys := ⟨h.1.alloc o, h.2.alloc o⟩
/-- Two Rats with the same lists, held against each other. -/
theorem ref_reqt {s : Bool} {a : Option Addr} {n c : Nat} {xs : List Int} {b : Option Addr} {m d : Nat} {ys : List Int} {a' : Option Addr} {n' c' : Nat} {b' : Option Addr} {m' d' : Nat} {w W W' : World}
    (h : Own W w (.slice a n c) n xs ∧ Own W w (.slice b m d) m ys) (h' : Own W' w (.slice a' n' c') n' xs ∧ Own W' w (.slice b' m' d') m' ys) :
    Calls Tryz.prog 17 #[.agg #[.bool s, .slice a n c, .slice b m d], .agg #[.bool s, .slice a' n' c', .slice b' m' d']] w fun e w' => e = .returned (.bool true) ∧ Below w.heap.size w w' :=
  ref_requal h.1.words h.2.words h'.1.words h'.2.words true (by simp)
/-- Right of a right one. -/
theorem right_ownR (K : RatioOk) {W v : World} {a : Option Addr} {c : Nat} {b : Option Addr} {d : Nat} {q : Rat} (o : OwnR W v a c b d q) (h : RS 10000 q) :
    Calls Tryz.prog 15 #[.agg #[.bool (decide (q.num < 0)), .slice a (nl q.num.natAbs) c, .slice b (nl q.den) d]] v fun e w' => e = .returned (.bool true) ∧ Below v.heap.size v w' :=
  K.right o.1.words (wd_natOf _) o.2.words (wd_natOf _) h.1 h.2 q (by rw [val_natOf, val_natOf]; exact rv_tri q) true (decide_eq_true ⟨rfl, rfl, rfl⟩)
end Go.Proofs.YtpimcbncmfpdhaaGreatDoor
/-
  The walk of the statement RatioOrder, for whatever package ratio keeps its contracts: it returns true; memory that was there stays.
-/
namespace Go.Proofs.YtpimcbncmfpdhaaGreatDoor
open Go.RowKit

set_option maxHeartbeats 40000000 in
theorem walk_RatioOrder (K : RatioOk) (s0 : Bool) (a0 : Option Addr) (len0 cap0 : Nat) (z0 : List Int) (b0 : Option Addr) (m0 e0 : Nat) (y0 : List Int) (s1 : Bool) (a1 : Option Addr) (len1 cap1 : Nat) (z1 : List Int) (b1 : Option Addr) (m1 e1 : Nat) (y1 : List Int) (s2 : Bool) (a2 : Option Addr) (len2 cap2 : Nat) (z2 : List Int) (b2 : Option Addr) (m2 e2 : Nat) (y2 : List Int) (w : World) (w0 : CameIn .u32 w a0 len0 cap0 z0) (x0 : CameIn .u32 w b0 m0 e0 y0) (w1 : CameIn .u32 w a1 len1 cap1 z1) (x1 : CameIn .u32 w b1 m1 e1 y1) (w2 : CameIn .u32 w a2 len2 cap2 z2) (x2 : CameIn .u32 w b2 m2 e2 y2) :
    Calls Tryz.prog 7 #[.agg #[.bool s0, .slice a0 len0 cap0, .slice b0 m0 e0], .agg #[.bool s1, .slice a1 len1 cap1, .slice b1 m1 e1], .agg #[.bool s2, .slice a2 len2 cap2, .slice b2 m2 e2]] w fun e w' => e = .returned (.bool true) ∧ Below w.heap.size w w' := by
  obtain ⟨B0, B1, B2, bV, hs⟩ := boxes3 w #[.bool s0, .slice a0 len0 cap0, .slice b0 m0 e0] #[.bool s1, .slice a1 len1 cap1, .slice b1 m1 e1] #[.bool s2, .slice a2 len2 cap2, .slice b2 m2 e2] 24 24 24
  have AW := fun v => ratio_awake K v
  have load0 := fun v (hb : Below _ _ v) => (B0.more hb).cells3
  by_cases hf : len0 ≤ 4 ∧ m0 ≤ 4 ∧ len1 ≤ 4 ∧ m1 ≤ 4 ∧ len2 ≤ 4 ∧ m2 ≤ 4
  case neg =>
    have F := fun v => law8_few v s0 s1 s2 a0 a1 a2 b0 b1 b2 len0 len1 len2 cap0 cap1 cap2 m0 m1 m2 e0 e1 e2 false (decide_eq_false hf)
    clear hf w0 w1 w2 x0 x1 x2 K load0
    go_enter Tryz.func7, Tryz.ntmps7
    go_wp2_with (first
      | (go_at_call 11; (with_reducible refine Calls.mono (AW _) ?_); rintro e u0 ⟨rfl, c0⟩; obtain ⟨p0, p1, p2, -, -, -⟩ := (B0.more c0).cells3; obtain ⟨q0, q1, q2, -, -, -⟩ := (B1.more c0).cells3; obtain ⟨t0, t1, t2, -, -, -⟩ := (B2.more c0).cells3)
      | (go_at_call 12; (with_reducible refine Calls.mono (F _) ?_); rintro e v1 ⟨rfl, c1⟩))
    go_ret
    exact ⟨rfl, below_more (below_more bV c0) c1⟩
  case pos =>
  have F := fun v => law8_few v s0 s1 s2 a0 a1 a2 b0 b1 b2 len0 len1 len2 cap0 cap1 cap2 m0 m1 m2 e0 e1 e2 true (decide_eq_true hf)
  clear load0
  obtain ⟨X, PX, lX⟩ := came_rr (s := s0) w0 x0 hf.1 hf.2.1 (by omega)
  obtain ⟨Y, PY, lY⟩ := came_rr (s := s1) w1 x1 hf.2.2.1 hf.2.2.2.1 (by omega)
  obtain ⟨Z, PZ, lZ⟩ := came_rr (s := s2) w2 x2 hf.2.2.2.2.1 hf.2.2.2.2.2 (by omega)
  replace PX := PX.mono (l := 10000) (by omega)
  replace PY := PY.mono (l := 10000) (by omega)
  replace PZ := PZ.mono (l := 10000) (by omega)
  clear w0 w1 w2 x0 x1 x2 z0 z1 z2 y0 y1 y2 hf
  obtain ⟨S, hS⟩ : ∃ S, X + Y = S := ⟨_, rfl⟩
  have lS := rs_add lX lY
  rw [hS] at lS
  obtain ⟨M, hM⟩ : ∃ M, X * Y = M := ⟨_, rfl⟩
  have lM := rs_mul lX lY (by omega)
  rw [hM] at lM
  obtain ⟨T, hT⟩ : ∃ T, S + Z = T := ⟨_, rfl⟩
  have lT := rs_add lS lZ
  rw [hT] at lT
  obtain ⟨U, hU⟩ : ∃ U, Y + Z = U := ⟨_, rfl⟩
  have lU := rs_add lY lZ
  rw [hU] at lU
  obtain ⟨M1, hM1⟩ : ∃ M1, M * Z = M1 := ⟨_, rfl⟩
  have lM1 := rs_mul lM lZ (by omega)
  rw [hM1] at lM1
  obtain ⟨M2, hM2⟩ : ∃ M2, Y * Z = M2 := ⟨_, rfl⟩
  have lM2 := rs_mul lY lZ (by omega)
  rw [hM2] at lM2
  obtain ⟨D, hD⟩ : ∃ D, S * Z = D := ⟨_, rfl⟩
  have lD := rs_mul lS lZ (by omega)
  rw [hD] at lD
  obtain ⟨E, hE⟩ : ∃ E, X * Z = E := ⟨_, rfl⟩
  have lE := rs_mul lX lZ (by omega)
  rw [hE] at lE
  have kS := lS.mono (m := 10000) (by omega)
  have kM := lM.mono (m := 10000) (by omega)
  have kT := lT.mono (m := 10000) (by omega)
  have kU := lU.mono (m := 10000) (by omega)
  have kM1 := lM1.mono (m := 10000) (by omega)
  have kM2 := lM2.mono (m := 10000) (by omega)
  have kD := lD.mono (m := 10000) (by omega)
  have kE := lE.mono (m := 10000) (by omega)
  have eq1 : Y + X = S := by rw [Rat.add_comm]; exact hS
  have eq2 : Y * X = M := by rw [Rat.mul_comm]; exact hM
  have eq3 : X + U = T := by rw [← hU, ← hT, ← hS, Rat.add_assoc]
  have eq4 : X * M2 = M1 := by rw [← hM2, ← hM1, ← hM, Rat.mul_assoc]
  have eq5 : E + M2 = D := by rw [← hE, ← hM2, ← hD, ← hS, Rat.add_mul]
  have ct0 := fun v (p : (RR 10000 v s0 a0 len0 cap0 b0 m0 e0 X)) (q : (RR 10000 v s1 a1 len1 cap1 b1 m1 e1 Y)) => K.add p q S hS
  have ct00 := fun v (p : (RR 10000 v s0 a0 len0 cap0 b0 m0 e0 X)) (q : (RR 10000 v s1 a1 len1 cap1 b1 m1 e1 Y)) => K.mul p q M hM
  have ct1 := fun v (p : (RR 10000 v s0 a0 len0 cap0 b0 m0 e0 X)) (q : (RR 10000 v s1 a1 len1 cap1 b1 m1 e1 Y)) => K.add q p S eq1
  have ct2 := fun v (p : (RR 10000 v s0 a0 len0 cap0 b0 m0 e0 X)) (q : (RR 10000 v s1 a1 len1 cap1 b1 m1 e1 Y)) => K.mul q p M eq2
  have ct3 := fun v W1 A1 C1 B1 D1 (o1 : OwnR W1 v A1 C1 B1 D1 S) (q : (RR 10000 v s2 a2 len2 cap2 b2 m2 e2 Z)) => K.add (o1.rr kS) q T hT
  have ct4 := fun v (p : (RR 10000 v s1 a1 len1 cap1 b1 m1 e1 Y)) (q : (RR 10000 v s2 a2 len2 cap2 b2 m2 e2 Z)) => K.add p q U hU
  have ct5 := fun v (p : (RR 10000 v s0 a0 len0 cap0 b0 m0 e0 X)) W1 A1 C1 B1 D1 (o1 : OwnR W1 v A1 C1 B1 D1 U) => K.add p (o1.rr kU) T eq3
  have ct6 := fun v W1 A1 C1 B1 D1 (o1 : OwnR W1 v A1 C1 B1 D1 M) (q : (RR 10000 v s2 a2 len2 cap2 b2 m2 e2 Z)) => K.mul (o1.rr kM) q M1 hM1
  have ct7 := fun v (p : (RR 10000 v s1 a1 len1 cap1 b1 m1 e1 Y)) (q : (RR 10000 v s2 a2 len2 cap2 b2 m2 e2 Z)) => K.mul p q M2 hM2
  have ct8 := fun v (p : (RR 10000 v s0 a0 len0 cap0 b0 m0 e0 X)) W1 A1 C1 B1 D1 (o1 : OwnR W1 v A1 C1 B1 D1 M2) => K.mul p (o1.rr kM2) M1 eq4
  have ct9 := fun v W1 A1 C1 B1 D1 (o1 : OwnR W1 v A1 C1 B1 D1 S) (q : (RR 10000 v s2 a2 len2 cap2 b2 m2 e2 Z)) => K.mul (o1.rr kS) q D hD
  have ct10 := fun v (p : (RR 10000 v s0 a0 len0 cap0 b0 m0 e0 X)) (q : (RR 10000 v s2 a2 len2 cap2 b2 m2 e2 Z)) => K.mul p q E hE
  have ct11 := fun v W1 A1 C1 B1 D1 (o1 : OwnR W1 v A1 C1 B1 D1 E) W2 A2 C2 B2 D2 (o2 : OwnR W2 v A2 C2 B2 D2 M2) => K.add (o1.rr kE) (o2.rr kM2) D eq5
  have RS1 := fun v W1 A1 C1 B1 D1 (o1 : OwnR W1 v A1 C1 B1 D1 S) => right_ownR K o1 kS
  have RM1 := fun v W1 A1 C1 B1 D1 (o1 : OwnR W1 v A1 C1 B1 D1 M) => right_ownR K o1 kM
  unfold AnsR at ct0 ct00 ct1 ct2 ct3 ct4 ct5 ct6 ct7 ct8 ct9 ct10 ct11
  unfold OwnR at ct0 ct00 ct1 ct2 ct3 ct4 ct5 ct6 ct7 ct8 ct9 ct10 ct11 RS1 RM1
  clear hS hM hT hU hM1 hM2 hD hE eq1 eq2 eq3 eq4 eq5 lX lY lZ lS kS lM kM lT kT lU kU lM1 kM1 lM2 kM2 lD kD lE kE K
  generalize decide (S.num < 0) = gS at *
  generalize S.num.natAbs = NS at *
  generalize S.den = DS at *
  generalize decide (M.num < 0) = gM at *
  generalize M.num.natAbs = NM at *
  generalize M.den = DM at *
  generalize decide (T.num < 0) = gT at *
  generalize T.num.natAbs = NT at *
  generalize T.den = DT at *
  generalize decide (U.num < 0) = gU at *
  generalize U.num.natAbs = NU at *
  generalize U.den = DU at *
  generalize decide (M1.num < 0) = gM1 at *
  generalize M1.num.natAbs = NM1 at *
  generalize M1.den = DM1 at *
  generalize decide (M2.num < 0) = gM2 at *
  generalize M2.num.natAbs = NM2 at *
  generalize M2.den = DM2 at *
  generalize decide (D.num < 0) = gD at *
  generalize D.num.natAbs = ND at *
  generalize D.den = DD at *
  generalize decide (E.num < 0) = gE at *
  generalize E.num.natAbs = NE at *
  generalize E.den = DE at *
  go_enter Tryz.func7, Tryz.ntmps7
  go_wp2_with (first
    | (go_at_call 11; (with_reducible refine Calls.mono (AW _) ?_); rintro e u0 ⟨rfl, d0⟩; obtain ⟨p0, p1, p2, -, -, -⟩ := (B0.more d0).cells3; obtain ⟨q0, q1, q2, -, -, -⟩ := (B1.more d0).cells3; obtain ⟨t0, t1, t2, -, -, -⟩ := (B2.more d0).cells3)
    | (go_at_call 12; (with_reducible refine Calls.mono (F _) ?_); rintro e v1 ⟨rfl, d1⟩; replace d0 := below_more d0 d1; have bs := below_more bV d0; obtain ⟨p0, p1, p2, -, -, -⟩ := (B0.more d0).cells3; obtain ⟨q0, q1, q2, -, -, -⟩ := (B1.more d0).cells3)
    | (go_at_call 27; (with_reducible refine Calls.mono (ct0 _ (PX.below bs) (PY.below bs)) ?_); rintro e w1 ⟨a3, c3, b3, d3, rfl, o3⟩; have d2 := below_more d0 o3.1.below; have f0 := fun o => ((B0.more d2).alloc o).cells3.1; have f1 := fun o => ((B0.more d2).alloc o).cells3.2.1; have f2 := fun o => ((B0.more d2).alloc o).cells3.2.2.1; have h0 := fun o => ((B1.more d2).alloc o).cells3.1; have h1 := fun o => ((B1.more d2).alloc o).cells3.2.1; have h2 := fun o => ((B1.more d2).alloc o).cells3.2.2.1; have bs1 := fun o => (below_more bs o3.1.below).alloc (below_more bs o3.1.below).size o)
    | (go_at_call 31; (with_reducible refine Calls.mono (ct00 _ (PX.below (bs1 _)) (PY.below (bs1 _))) ?_); rintro e w2 ⟨a4, c4, b4, d4, rfl, o4⟩))
  have dA := d2.alloc d2.size (.cells #[.bool gS, .slice a3 (nl NS) c3, .slice b3 (nl DS) d3] 24)
  have dB := below_more dA o4.1.below
  have dC := dB.alloc dB.size (.cells #[.bool gM, .slice a4 (nl NM) c4, .slice b4 (nl DM) d4] 24)
  replace B0 := B0.more dC
  replace B1 := B1.more dC
  replace B2 := B2.more dC
  have BS := ((BoxC.new w1 #[.bool gS, .slice a3 (nl NS) c3, .slice b3 (nl DS) d3] 24).more o4.1.below).alloc (.cells #[.bool gM, .slice a4 (nl NM) c4, .slice b4 (nl DM) d4] 24)
  have BM := BoxC.new w2 #[.bool gM, .slice a4 (nl NM) c4, .slice b4 (nl DM) d4] 24
  have oS := own2_alloc (own2_more (own2_alloc o3 (.cells #[.bool gS, .slice a3 (nl NS) c3, .slice b3 (nl DS) d3] 24)) o4.1.below) (.cells #[.bool gM, .slice a4 (nl NM) c4, .slice b4 (nl DM) d4] 24)
  have oM := own2_alloc o4 (.cells #[.bool gM, .slice a4 (nl NM) c4, .slice b4 (nl DM) d4] 24)
  have bW := below_more bV dC
  generalize w1.heap.size = k3 at *
  generalize w2.heap.size = k4 at *
  generalize w2.alloc (.cells #[.bool gM, .slice a4 (nl NM) c4, .slice b4 (nl DM) d4] 24) = V at *
  clear f0 f1 f2 h0 h1 h2 bs1 d0 d1 d2 dA dB dC bV hs p0 p1 p2 q0 q1 q2 t0 t1 t2 ct0 ct00 o3 o4 bs AW F
  have SO : ∀ v, Below V.heap.size V v → v.cell? ⟨w.heap.size, 0, none⟩ = some (.bool s0) ∧ v.cell? ⟨w.heap.size, 1, none⟩ = some (.slice a0 len0 cap0) ∧ v.cell? ⟨w.heap.size, 2, none⟩ = some (.slice b0 m0 e0) ∧ v.cell? ⟨w.heap.size + 1, 0, none⟩ = some (.bool s1) ∧ v.cell? ⟨w.heap.size + 1, 1, none⟩ = some (.slice a1 len1 cap1) ∧ v.cell? ⟨w.heap.size + 1, 2, none⟩ = some (.slice b1 m1 e1) ∧ v.cell? ⟨w.heap.size + 1 + 1, 0, none⟩ = some (.bool s2) ∧ v.cell? ⟨w.heap.size + 1 + 1, 1, none⟩ = some (.slice a2 len2 cap2) ∧ v.cell? ⟨w.heap.size + 1 + 1, 2, none⟩ = some (.slice b2 m2 e2) ∧ v.cell? ⟨k3, 0, none⟩ = some (.bool gS) ∧ v.cell? ⟨k3, 1, none⟩ = some (.slice a3 (nl NS) c3) ∧ v.cell? ⟨k3, 2, none⟩ = some (.slice b3 (nl DS) d3) ∧ v.cell? ⟨k4, 0, none⟩ = some (.bool gM) ∧ v.cell? ⟨k4, 1, none⟩ = some (.slice a4 (nl NM) c4) ∧ v.cell? ⟨k4, 2, none⟩ = some (.slice b4 (nl DM) d4) := fun v hb => ⟨(B0.more hb).cells3.1, (B0.more hb).cells3.2.1, (B0.more hb).cells3.2.2.1, (B1.more hb).cells3.1, (B1.more hb).cells3.2.1, (B1.more hb).cells3.2.2.1, (B2.more hb).cells3.1, (B2.more hb).cells3.2.1, (B2.more hb).cells3.2.2.1, (BS.more hb).cells3.1, (BS.more hb).cells3.2.1, (BS.more hb).cells3.2.2.1, (BM.more hb).cells3.1, (BM.more hb).cells3.2.1, (BM.more hb).cells3.2.2.1⟩
  have bs : Below V.heap.size V V.drew := (Below.refl _ _).drew
  have HB : Hid (Below w.heap.size w V) := bW
  replace PX := PX.below bW
  replace PY := PY.below bW
  replace PZ := PZ.below bW
  clear B0 B1 B2 BS BM bW
  go_region_held3 (fun v => v.cell? ⟨w.heap.size, 0, none⟩ = some (.bool s0) ∧ v.cell? ⟨w.heap.size, 1, none⟩ = some (.slice a0 len0 cap0) ∧ v.cell? ⟨w.heap.size, 2, none⟩ = some (.slice b0 m0 e0) ∧ v.cell? ⟨w.heap.size + 1, 0, none⟩ = some (.bool s1) ∧ v.cell? ⟨w.heap.size + 1, 1, none⟩ = some (.slice a1 len1 cap1) ∧ v.cell? ⟨w.heap.size + 1, 2, none⟩ = some (.slice b1 m1 e1) ∧ v.cell? ⟨w.heap.size + 1 + 1, 0, none⟩ = some (.bool s2) ∧ v.cell? ⟨w.heap.size + 1 + 1, 1, none⟩ = some (.slice a2 len2 cap2) ∧ v.cell? ⟨w.heap.size + 1 + 1, 2, none⟩ = some (.slice b2 m2 e2) ∧ v.cell? ⟨k3, 0, none⟩ = some (.bool gS) ∧ v.cell? ⟨k3, 1, none⟩ = some (.slice a3 (nl NS) c3) ∧ v.cell? ⟨k3, 2, none⟩ = some (.slice b3 (nl DS) d3) ∧ v.cell? ⟨k4, 0, none⟩ = some (.bool gM) ∧ v.cell? ⟨k4, 1, none⟩ = some (.slice a4 (nl NM) c4) ∧ v.cell? ⟨k4, 2, none⟩ = some (.slice b4 (nl DM) d4))
    (exact SO _ bs)
    (first
    | (go_at_call 27; (with_reducible refine Calls.mono (ct1 _ (PX.below bs) (PY.below bs)) ?_); rintro e w5 ⟨A5, C5, B5, D5, rfl, o5⟩; replace bs := below_more bs o5.1.below)
    | (go_at_call 17; (with_reducible refine Calls.mono (ref_reqt (own2_more oS bs) o5) ?_); rintro e w6 ⟨rfl, b6⟩; replace bs := below_more bs b6; clear o5 ct1)
    | (go_at_call 31; (with_reducible refine Calls.mono (ct2 _ (PX.below bs) (PY.below bs)) ?_); rintro e w7 ⟨A7, C7, B7, D7, rfl, o7⟩; replace bs := below_more bs o7.1.below)
    | (go_at_call 17; (with_reducible refine Calls.mono (ref_reqt (own2_more oM bs) o7) ?_); rintro e w8 ⟨rfl, b8⟩; replace bs := below_more bs b8; clear o7 ct2)
    | (go_at_call 27; (with_reducible refine Calls.mono (ct3 _ _ _ _ _ _ (own2_more oS bs) (PZ.below bs)) ?_); rintro e w9 ⟨A9, C9, B9, D9, rfl, o9⟩; replace bs := below_more bs o9.1.below)
    | (go_at_call 27; (with_reducible refine Calls.mono (ct4 _ (PY.below bs) (PZ.below bs)) ?_); rintro e w10 ⟨A10, C10, B10, D10, rfl, o10⟩; replace bs := below_more bs o10.1.below; (try replace o9 := own2_more o9 o10.1.below))
    | (go_at_call 27; (with_reducible refine Calls.mono (ct5 _ (PX.below bs) _ _ _ _ _ o10) ?_); rintro e w11 ⟨A11, C11, B11, D11, rfl, o11⟩; replace bs := below_more bs o11.1.below; (try replace o9 := own2_more o9 o11.1.below))
    | (go_at_call 17; (with_reducible refine Calls.mono (ref_reqt o9 o11) ?_); rintro e w12 ⟨rfl, b12⟩; replace bs := below_more bs b12; clear o9 o10 o11 ct3 ct4 ct5)
    | (go_at_call 31; (with_reducible refine Calls.mono (ct6 _ _ _ _ _ _ (own2_more oM bs) (PZ.below bs)) ?_); rintro e w13 ⟨A13, C13, B13, D13, rfl, o13⟩; replace bs := below_more bs o13.1.below)
    | (go_at_call 31; (with_reducible refine Calls.mono (ct7 _ (PY.below bs) (PZ.below bs)) ?_); rintro e w14 ⟨A14, C14, B14, D14, rfl, o14⟩; replace bs := below_more bs o14.1.below; (try replace o13 := own2_more o13 o14.1.below); (try replace o17 := own2_more o17 o14.1.below); (try replace o18 := own2_more o18 o14.1.below))
    | (go_at_call 31; (with_reducible refine Calls.mono (ct8 _ (PX.below bs) _ _ _ _ _ o14) ?_); rintro e w15 ⟨A15, C15, B15, D15, rfl, o15⟩; replace bs := below_more bs o15.1.below; (try replace o13 := own2_more o13 o15.1.below))
    | (go_at_call 17; (with_reducible refine Calls.mono (ref_reqt o13 o15) ?_); rintro e w16 ⟨rfl, b16⟩; replace bs := below_more bs b16; clear o13 o15 ct6 ct8)
    | (go_at_call 31; (with_reducible refine Calls.mono (ct9 _ _ _ _ _ _ (own2_more oS bs) (PZ.below bs)) ?_); rintro e w17 ⟨A17, C17, B17, D17, rfl, o17⟩; replace bs := below_more bs o17.1.below)
    | (go_at_call 31; (with_reducible refine Calls.mono (ct10 _ (PX.below bs) (PZ.below bs)) ?_); rintro e w18 ⟨A18, C18, B18, D18, rfl, o18⟩; replace bs := below_more bs o18.1.below; (try replace o17 := own2_more o17 o18.1.below))
    | (go_at_call 27; (with_reducible refine Calls.mono (ct11 _ _ _ _ _ _ o18 _ _ _ _ _ o14) ?_); rintro e w19 ⟨A19, C19, B19, D19, rfl, o19⟩; replace bs := below_more bs o19.1.below; (try replace o17 := own2_more o17 o19.1.below))
    | (go_at_call 17; (with_reducible refine Calls.mono (ref_reqt o17 o19) ?_); rintro e w20 ⟨rfl, b20⟩; replace bs := below_more bs b20; clear o17 o18 o19 o14 ct7 ct9 ct10 ct11)
    | (go_at_call 15; (with_reducible refine Calls.mono (RS1 _ _ _ _ _ _ (own2_more oS bs)) ?_); rintro e w21 ⟨rfl, b21⟩; replace bs := below_more bs b21)
    | (go_at_call 15; (with_reducible refine Calls.mono (RM1 _ _ _ _ _ _ (own2_more oM bs)) ?_); rintro e w22 ⟨rfl, b22⟩; replace bs := below_more bs b22))
  all_goals
    go_wp2
    go_ret
    exact ⟨rfl, below_more HB.out bs⟩
end Go.Proofs.YtpimcbncmfpdhaaGreatDoor
/-
  The walk of the statement RatioBetween, for whatever package ratio keeps its contracts: it returns true; memory that was there stays.
-/
namespace Go.Proofs.YtpimcbncmfpdhaaGreatDoor
open Go.RowKit

theorem two_pos : (0 : Rat) < ((2 : Int) : Rat) := by decide
theorem two_ne : ((2 : Int) : Rat) ≠ 0 := by decide
theorem rat_twice (x : Rat) : x * ((2 : Int) : Rat) = x + x := by
  have e : ((2 : Int) : Rat) = 1 + 1 := Rat.intCast_add 1 1
  rw [e, Rat.mul_add, Rat.mul_one]
theorem half_gt (x y : Rat) : x < (x + y) / ((2 : Int) : Rat) ↔ x < y := by
  rw [Rat.lt_div_iff two_pos, rat_twice]; exact Rat.add_lt_add_left
theorem half_lt (x y : Rat) : (x + y) / ((2 : Int) : Rat) < y ↔ x < y := by
  rw [Rat.div_lt_iff two_pos, rat_twice]; exact Rat.add_lt_add_right
theorem half_eq (x : Rat) : (x + x) / ((2 : Int) : Rat) = x := by
  rw [← rat_twice]; exact Rat.mul_div_cancel two_ne
theorem half_lt' (x y : Rat) : (x + y) / ((2 : Int) : Rat) < x ↔ y < x := by rw [Rat.add_comm]; exact half_lt y x
theorem half_gt' (x y : Rat) : y < (x + y) / ((2 : Int) : Rat) ↔ y < x := by rw [Rat.add_comm]; exact half_gt y x
theorem rsgn_half (x y : Rat) : rsgn x ((x + y) / ((2 : Int) : Rat)) = rsgn x y := rsgn_of (half_gt x y).2 (fun h => by subst h; exact (half_eq x).symm) (half_lt' x y).2
theorem rsgn_half' (x y : Rat) : rsgn ((x + y) / ((2 : Int) : Rat)) y = rsgn x y := rsgn_of (half_lt x y).2 (fun h => by subst h; exact half_eq x) (half_gt' x y).2
set_option maxHeartbeats 40000000 in
theorem walk_RatioBetween (K : RatioOk) (s0 : Bool) (a0 : Option Addr) (len0 cap0 : Nat) (z0 : List Int) (b0 : Option Addr) (m0 e0 : Nat) (y0 : List Int) (s1 : Bool) (a1 : Option Addr) (len1 cap1 : Nat) (z1 : List Int) (b1 : Option Addr) (m1 e1 : Nat) (y1 : List Int) (s2 : Bool) (a2 : Option Addr) (len2 cap2 : Nat) (z2 : List Int) (b2 : Option Addr) (m2 e2 : Nat) (y2 : List Int) (w : World) (w0 : CameIn .u32 w a0 len0 cap0 z0) (x0 : CameIn .u32 w b0 m0 e0 y0) (w1 : CameIn .u32 w a1 len1 cap1 z1) (x1 : CameIn .u32 w b1 m1 e1 y1) (w2 : CameIn .u32 w a2 len2 cap2 z2) (x2 : CameIn .u32 w b2 m2 e2 y2) :
    Calls Tryz.prog 9 #[.agg #[.bool s0, .slice a0 len0 cap0, .slice b0 m0 e0], .agg #[.bool s1, .slice a1 len1 cap1, .slice b1 m1 e1], .agg #[.bool s2, .slice a2 len2 cap2, .slice b2 m2 e2]] w fun e w' => e = .returned (.bool true) ∧ Below w.heap.size w w' := by
  obtain ⟨B0, B1, B2, bV, hs⟩ := boxes3 w #[.bool s0, .slice a0 len0 cap0, .slice b0 m0 e0] #[.bool s1, .slice a1 len1 cap1, .slice b1 m1 e1] #[.bool s2, .slice a2 len2 cap2, .slice b2 m2 e2] 24 24 24
  have AW := fun v => ratio_awake K v
  by_cases hf : len0 ≤ 4 ∧ m0 ≤ 4 ∧ len1 ≤ 4 ∧ m1 ≤ 4 ∧ len2 ≤ 4 ∧ m2 ≤ 4
  case neg =>
    have F := fun v => law8_few v s0 s1 s2 a0 a1 a2 b0 b1 b2 len0 len1 len2 cap0 cap1 cap2 m0 m1 m2 e0 e1 e2 false (decide_eq_false hf)
    clear hf w0 x0 w1 x1 w2 x2 K
    go_enter Tryz.func9, Tryz.ntmps9
    go_wp2_with (first
      | (go_at_call 11; (with_reducible refine Calls.mono (AW _) ?_); rintro e u0 ⟨rfl, c0⟩; obtain ⟨p00, p01, p02, -, -, -⟩ := (B0.more c0).cells3; obtain ⟨p10, p11, p12, -, -, -⟩ := (B1.more c0).cells3; obtain ⟨p20, p21, p22, -, -, -⟩ := (B2.more c0).cells3)
      | (go_at_call 12; (with_reducible refine Calls.mono (F _) ?_); rintro e v1 ⟨rfl, c1⟩))
    go_ret
    exact ⟨rfl, below_more (below_more bV c0) c1⟩
  case pos =>
  have F := fun v => law8_few v s0 s1 s2 a0 a1 a2 b0 b1 b2 len0 len1 len2 cap0 cap1 cap2 m0 m1 m2 e0 e1 e2 true (decide_eq_true hf)
  obtain ⟨X, PX, lX⟩ := came_rr (s := s0) w0 x0 (hf.1) (hf.2.1) (by omega)
  replace PX := PX.mono (l := 10000) (by omega)
  obtain ⟨Y, PY, lY⟩ := came_rr (s := s1) w1 x1 (hf.2.2.1) (hf.2.2.2.1) (by omega)
  replace PY := PY.mono (l := 10000) (by omega)
  obtain ⟨Z, PZ, lZ⟩ := came_rr (s := s2) w2 x2 (hf.2.2.2.2.1) (hf.2.2.2.2.2) (by omega)
  replace PZ := PZ.mono (l := 10000) (by omega)
  clear w0 x0 z0 y0 w1 x1 z1 y1 w2 x2 z2 y2 hf
  have lO : RS 1 ((2 : Int) : Rat) := rs_int 2 (nl_le 1 _ (by decide)) (by omega)
  obtain ⟨kk, hkk⟩ : ∃ kk, rsgn X Y = kk := ⟨_, rfl⟩
  have k0 := rsgn_range X Y
  rw [hkk] at k0
  have HW : Hid (IntKind.i64.wrap (-kk) = -kk) := by show _ = _; rw [IntKind.wrap_i64]; omega
  have i1 : rsgn X ((X + Y) / ((2 : Int) : Rat)) = kk := (rsgn_half X Y).trans hkk
  have i2 : rsgn ((X + Y) / ((2 : Int) : Rat)) Y = kk := (rsgn_half' X Y).trans hkk
  have i3 : rsgn (X + Z) (Y + Z) = kk := (rsgn_add X Y Z).trans hkk
  have i4 : rsgn (-Y) (-X) = kk := (rsgn_neg X Y).trans hkk
  have i5 : rsgn Y X = -kk := by rw [rsgn_anti, hkk]
  have hO := two_ne
  have lH0 := rs_mul (rs_add lX lY) (rs_inv lO (by omega)) (by omega)
  rw [← Rat.div_def] at lH0
  have lS := rs_add lX lY
  have lC := rs_add lX lZ
  have lD := rs_add lY lZ
  have lM := rs_neg lX
  have lN := rs_neg lY
  generalize hT : ((2 : Int) : Rat) = T at *
  generalize hS : X + Y = S at *
  generalize hH : S / T = H at *
  generalize hC : X + Z = C at *
  generalize hD : Y + Z = D at *
  generalize hM : -X = M at *
  generalize hN : -Y = N at *
  have kS := lS.mono (m := 10000) (by omega)
  have kT := lO.mono (m := 10000) (by omega)
  have kH := lH0.mono (m := 10000) (by omega)
  have kC := lC.mono (m := 10000) (by omega)
  have kD := lD.mono (m := 10000) (by omega)
  have kM := lM.mono (m := 10000) (by omega)
  have kN := lN.mono (m := 10000) (by omega)
  have ct0 := fun v (p : (RR 10000 v s0 a0 len0 cap0 b0 m0 e0 X)) (q : (RR 10000 v s1 a1 len1 cap1 b1 m1 e1 Y)) => K.add p q S hS
  have ct1 := fun v => K.of 2 v (by omega) (by omega)
  have ct2 := fun v W1 A1 C1 B1 D1 (o1 : OwnR W1 v A1 C1 B1 D1 S) W2 A2 C2 B2 D2 (o2 : OwnR W2 v A2 C2 B2 D2 T) => K.div (o1.rr kS) (o2.rr kT)
  have ct3 := fun v (p : (RR 10000 v s0 a0 len0 cap0 b0 m0 e0 X)) (q : (RR 10000 v s1 a1 len1 cap1 b1 m1 e1 Y)) => K.cmp p q kk hkk
  have ct4 := fun v (p : (RR 10000 v s0 a0 len0 cap0 b0 m0 e0 X)) W1 A1 C1 B1 D1 (o1 : OwnR W1 v A1 C1 B1 D1 H) => K.cmp p (o1.rr kH) kk i1
  have ct5 := fun v W1 A1 C1 B1 D1 (o1 : OwnR W1 v A1 C1 B1 D1 H) (p : (RR 10000 v s1 a1 len1 cap1 b1 m1 e1 Y)) => K.cmp (o1.rr kH) p kk i2
  have ct6 := fun v (p : (RR 10000 v s0 a0 len0 cap0 b0 m0 e0 X)) (q : (RR 10000 v s2 a2 len2 cap2 b2 m2 e2 Z)) => K.add p q C hC
  have ct7 := fun v (p : (RR 10000 v s1 a1 len1 cap1 b1 m1 e1 Y)) (q : (RR 10000 v s2 a2 len2 cap2 b2 m2 e2 Z)) => K.add p q D hD
  have ct8 := fun v W1 A1 C1 B1 D1 (o1 : OwnR W1 v A1 C1 B1 D1 C) W2 A2 C2 B2 D2 (o2 : OwnR W2 v A2 C2 B2 D2 D) => K.cmp (o1.rr kC) (o2.rr kD) kk i3
  have ct9 := fun v (p : (RR 10000 v s1 a1 len1 cap1 b1 m1 e1 Y)) => K.neg p N hN
  have ct10 := fun v (p : (RR 10000 v s0 a0 len0 cap0 b0 m0 e0 X)) => K.neg p M hM
  have ct11 := fun v W1 A1 C1 B1 D1 (o1 : OwnR W1 v A1 C1 B1 D1 N) W2 A2 C2 B2 D2 (o2 : OwnR W2 v A2 C2 B2 D2 M) => K.cmp (o1.rr kN) (o2.rr kM) kk i4
  have ct12 := fun v (p : (RR 10000 v s1 a1 len1 cap1 b1 m1 e1 Y)) (q : (RR 10000 v s0 a0 len0 cap0 b0 m0 e0 X)) => K.cmp p q (-kk) i5
  rw [hT] at ct1
  have eT : divT S T = tri H := by unfold divT; rw [if_neg hO, hH]
  have eE : divE T = 0 := if_neg hO
  rw [eT, eE] at ct2
  unfold AnsTE tri at ct2
  unfold AnsR at ct0 ct1 ct6 ct7 ct9 ct10
  dsimp only at ct2
  unfold OwnR at ct0 ct1 ct2 ct4 ct5 ct6 ct7 ct8 ct9 ct10 ct11
  clear hT hS hH hC hD hM hN hkk i1 i2 i3 i4 i5 hO eT eE lO lH0 lS lC lD lM lN lX lY lZ kS kT kH kC kD kM kN K
  generalize decide (S.num < 0) = gS at *
  generalize S.num.natAbs = NS at *
  generalize S.den = DS at *
  generalize decide (T.num < 0) = gT at *
  generalize T.num.natAbs = NT at *
  generalize T.den = DT at *
  generalize decide (H.num < 0) = gH at *
  generalize H.num.natAbs = NH at *
  generalize H.den = DH at *
  generalize decide (C.num < 0) = gC at *
  generalize C.num.natAbs = NC at *
  generalize C.den = DC at *
  generalize decide (D.num < 0) = gD at *
  generalize D.num.natAbs = ND at *
  generalize D.den = DD at *
  generalize decide (M.num < 0) = gM at *
  generalize M.num.natAbs = NM at *
  generalize M.den = DM at *
  generalize decide (N.num < 0) = gN at *
  generalize N.num.natAbs = NN at *
  generalize N.den = DN at *
  go_enter Tryz.func9, Tryz.ntmps9
  go_wp2_with (first
    | (go_at_call 11; (with_reducible refine Calls.mono (AW _) ?_); rintro e u0 ⟨rfl, d0⟩; obtain ⟨p00, p01, p02, -, -, -⟩ := (B0.more d0).cells3; obtain ⟨p10, p11, p12, -, -, -⟩ := (B1.more d0).cells3; obtain ⟨p20, p21, p22, -, -, -⟩ := (B2.more d0).cells3)
    | (go_at_call 12; (with_reducible refine Calls.mono (F _) ?_); rintro e v1 ⟨rfl, d1⟩; replace d0 := below_more d0 d1; have bs := below_more bV d0; obtain ⟨p00, p01, p02, -, -, -⟩ := (B0.more d0).cells3; obtain ⟨p10, p11, p12, -, -, -⟩ := (B1.more d0).cells3; obtain ⟨p20, p21, p22, -, -, -⟩ := (B2.more d0).cells3)
    | (go_at_call 27; (with_reducible refine Calls.mono (ct0 _ (PX.below bs) (PY.below bs)) ?_); rintro e w3 ⟨A3, C3, B3, D3, rfl, o3⟩; replace bs := below_more bs o3.1.below; replace d0 := below_more d0 o3.1.below)
    | (go_at_call 22; (with_reducible refine Calls.mono (ct1 _) ?_); rintro e w4 ⟨A4, C4, B4, D4, rfl, o4⟩; replace bs := below_more bs o4.1.below; replace d0 := below_more d0 o4.1.below; replace o3 := own2_more o3 o4.1.below)
    | (go_at_call 24; (with_reducible refine Calls.mono (ct2 _ _ _ _ _ _ o3 _ _ _ _ _ o4) ?_); rintro e w5 ⟨A5, C5, B5, D5, rfl, o5⟩; replace bs := below_more bs o5.1.below; replace d0 := below_more d0 o5.1.below; have bs1 := fun o => bs.alloc bs.size o; have f0 := fun o => ((B0.more d0).alloc o).cells3.1; have f1 := fun o => ((B0.more d0).alloc o).cells3.2.1; have f2 := fun o => ((B0.more d0).alloc o).cells3.2.2.1; have h0 := fun o => ((B1.more d0).alloc o).cells3.1; have h1 := fun o => ((B1.more d0).alloc o).cells3.2.1; have h2 := fun o => ((B1.more d0).alloc o).cells3.2.2.1)
    | (go_at_call 33; (with_reducible refine Calls.mono (ct3 _ (PX.below (bs1 _)) (PY.below (bs1 _))) ?_); rintro e w6 ⟨rfl, b6⟩))
  have dC := below_more (d0.alloc d0.size (.cells #[.bool gH, .slice A5 (nl NH) C5, .slice B5 (nl DH) D5] 24)) b6
  replace B0 := B0.more dC
  replace B1 := B1.more dC
  replace B2 := B2.more dC
  have BH := (BoxC.new w5 #[.bool gH, .slice A5 (nl NH) C5, .slice B5 (nl DH) D5] 24).more b6
  have oH := own2_more (own2_alloc o5 (.cells #[.bool gH, .slice A5 (nl NH) C5, .slice B5 (nl DH) D5] 24)) b6
  have bW := below_more bV dC
  generalize w5.heap.size = k5 at *
  generalize w6 = V at *
  clear p00 p01 p02 p10 p11 p12 p20 p21 p22 f0 f1 f2 h0 h1 h2 bs1 d0 d1 dC bV hs ct0 ct1 ct2 ct3 o3 o4 o5 b6 bs AW F
  have SO : ∀ v, Below V.heap.size V v → v.cell? ⟨w.heap.size, 0, none⟩ = some (.bool s0) ∧ v.cell? ⟨w.heap.size, 1, none⟩ = some (.slice a0 len0 cap0) ∧ v.cell? ⟨w.heap.size, 2, none⟩ = some (.slice b0 m0 e0) ∧ v.cell? ⟨w.heap.size + 1, 0, none⟩ = some (.bool s1) ∧ v.cell? ⟨w.heap.size + 1, 1, none⟩ = some (.slice a1 len1 cap1) ∧ v.cell? ⟨w.heap.size + 1, 2, none⟩ = some (.slice b1 m1 e1) ∧ v.cell? ⟨w.heap.size + 1 + 1, 0, none⟩ = some (.bool s2) ∧ v.cell? ⟨w.heap.size + 1 + 1, 1, none⟩ = some (.slice a2 len2 cap2) ∧ v.cell? ⟨w.heap.size + 1 + 1, 2, none⟩ = some (.slice b2 m2 e2) ∧ v.cell? ⟨k5, 0, none⟩ = some (.bool gH) ∧ v.cell? ⟨k5, 1, none⟩ = some (.slice A5 (nl NH) C5) ∧ v.cell? ⟨k5, 2, none⟩ = some (.slice B5 (nl DH) D5) := fun v hb => ⟨(B0.more hb).cells3.1, (B0.more hb).cells3.2.1, (B0.more hb).cells3.2.2.1, (B1.more hb).cells3.1, (B1.more hb).cells3.2.1, (B1.more hb).cells3.2.2.1, (B2.more hb).cells3.1, (B2.more hb).cells3.2.1, (B2.more hb).cells3.2.2.1, (BH.more hb).cells3.1, (BH.more hb).cells3.2.1, (BH.more hb).cells3.2.2.1⟩
  have bs : Below V.heap.size V V.drew := (Below.refl _ _).drew
  have HB : Hid (Below w.heap.size w V) := bW
  replace PX := PX.below bW
  replace PY := PY.below bW
  replace PZ := PZ.below bW
  clear B0 B1 B2 BH bW
  go_region_held3 (fun v => v.cell? ⟨w.heap.size, 0, none⟩ = some (.bool s0) ∧ v.cell? ⟨w.heap.size, 1, none⟩ = some (.slice a0 len0 cap0) ∧ v.cell? ⟨w.heap.size, 2, none⟩ = some (.slice b0 m0 e0) ∧ v.cell? ⟨w.heap.size + 1, 0, none⟩ = some (.bool s1) ∧ v.cell? ⟨w.heap.size + 1, 1, none⟩ = some (.slice a1 len1 cap1) ∧ v.cell? ⟨w.heap.size + 1, 2, none⟩ = some (.slice b1 m1 e1) ∧ v.cell? ⟨w.heap.size + 1 + 1, 0, none⟩ = some (.bool s2) ∧ v.cell? ⟨w.heap.size + 1 + 1, 1, none⟩ = some (.slice a2 len2 cap2) ∧ v.cell? ⟨w.heap.size + 1 + 1, 2, none⟩ = some (.slice b2 m2 e2) ∧ v.cell? ⟨k5, 0, none⟩ = some (.bool gH) ∧ v.cell? ⟨k5, 1, none⟩ = some (.slice A5 (nl NH) C5) ∧ v.cell? ⟨k5, 2, none⟩ = some (.slice B5 (nl DH) D5))
    (exact SO _ bs)
    (first
    | (go_at_call 33; (with_reducible refine Calls.mono (ct4 _ (PX.below bs) _ _ _ _ _ (own2_more oH bs)) ?_); rintro e w7 ⟨rfl, b7⟩; replace bs := below_more bs b7; clear ct4)
    | (go_at_call 33; (with_reducible refine Calls.mono (ct5 _ _ _ _ _ _ (own2_more oH bs) (PY.below bs)) ?_); rintro e w8 ⟨rfl, b8⟩; replace bs := below_more bs b8; clear ct5)
    | (go_at_call 27; (with_reducible refine Calls.mono (ct6 _ (PX.below bs) (PZ.below bs)) ?_); rintro e w9 ⟨A9, C9, B9, D9, rfl, o9⟩; replace bs := below_more bs o9.1.below)
    | (go_at_call 27; (with_reducible refine Calls.mono (ct7 _ (PY.below bs) (PZ.below bs)) ?_); rintro e w10 ⟨A10, C10, B10, D10, rfl, o10⟩; replace bs := below_more bs o10.1.below; (try replace o9 := own2_more o9 o10.1.below))
    | (go_at_call 33; (with_reducible refine Calls.mono (ct8 _ _ _ _ _ _ o9 _ _ _ _ _ o10) ?_); rintro e w11 ⟨rfl, b11⟩; replace bs := below_more bs b11; clear o9 o10 ct6 ct7 ct8)
    | (go_at_call 20; (with_reducible refine Calls.mono (ct9 _ (PY.below bs)) ?_); rintro e w12 ⟨A12, C12, B12, D12, rfl, o12⟩; replace bs := below_more bs o12.1.below)
    | (go_at_call 20; (with_reducible refine Calls.mono (ct10 _ (PX.below bs)) ?_); rintro e w13 ⟨A13, C13, B13, D13, rfl, o13⟩; replace bs := below_more bs o13.1.below; (try replace o12 := own2_more o12 o13.1.below))
    | (go_at_call 33; (with_reducible refine Calls.mono (ct11 _ _ _ _ _ _ o12 _ _ _ _ _ o13) ?_); rintro e w14 ⟨rfl, b14⟩; replace bs := below_more bs b14; clear o12 o13 ct9 ct10 ct11)
    | (go_at_call 33; (with_reducible refine Calls.mono (ct12 _ (PY.below bs) (PX.below bs)) ?_); rintro e w15 ⟨rfl, b15⟩; replace bs := below_more bs b15))
  all_goals
    go_wp2
    go_ret
    exact ⟨by simp [HW.out], below_more HB.out bs⟩
end Go.Proofs.YtpimcbncmfpdhaaGreatDoor
/-
  The walk of the statement RatioReckons, for whatever package ratio keeps its contracts: it returns true; memory that was there stays.
-/
namespace Go.Proofs.YtpimcbncmfpdhaaGreatDoor
open Go.RowKit

set_option maxHeartbeats 40000000 in
theorem walk_RatioReckons (K : RatioOk) (s0 : Bool) (a0 : Option Addr) (len0 cap0 : Nat) (z0 : List Int) (b0 : Option Addr) (m0 e0 : Nat) (y0 : List Int) (s1 : Bool) (a1 : Option Addr) (len1 cap1 : Nat) (z1 : List Int) (b1 : Option Addr) (m1 e1 : Nat) (y1 : List Int) (w : World) (w0 : CameIn .u32 w a0 len0 cap0 z0) (x0 : CameIn .u32 w b0 m0 e0 y0) (w1 : CameIn .u32 w a1 len1 cap1 z1) (x1 : CameIn .u32 w b1 m1 e1 y1) :
    Calls Tryz.prog 4 #[.agg #[.bool s0, .slice a0 len0 cap0, .slice b0 m0 e0], .agg #[.bool s1, .slice a1 len1 cap1, .slice b1 m1 e1]] w fun e w' => e = .returned (.bool true) ∧ Below w.heap.size w w' := by
  obtain ⟨B0, B1, bV, hs⟩ := boxes2 w #[.bool s0, .slice a0 len0 cap0, .slice b0 m0 e0] #[.bool s1, .slice a1 len1 cap1, .slice b1 m1 e1] 24 24
  have AW := fun v => ratio_awake K v
  by_cases hf : len0 ≤ 4 ∧ m0 ≤ 4 ∧ len1 ≤ 4 ∧ m1 ≤ 4 ∧ len0 ≤ 4 ∧ m0 ≤ 4
  case neg =>
    have F := fun v => law8_few v s0 s1 s0 a0 a1 a0 b0 b1 b0 len0 len1 len0 cap0 cap1 cap0 m0 m1 m0 e0 e1 e0 false (decide_eq_false hf)
    clear hf w0 x0 w1 x1 K
    go_enter Tryz.func4, Tryz.ntmps4
    go_wp2_with (first
      | (go_at_call 11; (with_reducible refine Calls.mono (AW _) ?_); rintro e u0 ⟨rfl, c0⟩; obtain ⟨p00, p01, p02, -, -, -⟩ := (B0.more c0).cells3; obtain ⟨p10, p11, p12, -, -, -⟩ := (B1.more c0).cells3)
      | (go_at_call 12; (with_reducible refine Calls.mono (F _) ?_); rintro e v1 ⟨rfl, c1⟩))
    go_ret
    exact ⟨rfl, below_more (below_more bV c0) c1⟩
  case pos =>
  have F := fun v => law8_few v s0 s1 s0 a0 a1 a0 b0 b1 b0 len0 len1 len0 cap0 cap1 cap0 m0 m1 m0 e0 e1 e0 true (decide_eq_true hf)
  obtain ⟨X, PX, lX⟩ := came_rr (s := s0) w0 x0 (hf.1) (hf.2.1) (by omega)
  have QX := PX.mono (l := 1000) (by omega)
  replace PX := PX.mono (l := 10000) (by omega)
  obtain ⟨Y, PY, lY⟩ := came_rr (s := s1) w1 x1 (hf.2.2.1) (hf.2.2.2.1) (by omega)
  have QY := PY.mono (l := 1000) (by omega)
  replace PY := PY.mono (l := 10000) (by omega)
  clear w0 x0 z0 y0 w1 x1 z1 y1 hf
  obtain ⟨kk, hkk⟩ : ∃ kk, rsgn X Y = kk := ⟨_, rfl⟩
  have hsame : decide (X = Y) = (kk == 0) := by
    rw [Bool.eq_iff_iff, decide_eq_true_eq, beq_iff_eq, ← hkk]; exact rsgn_zero.symm
  generalize hS : X + Y = S at *
  generalize hD : X - Y = D at *
  generalize hM : X * Y = M at *
  have ct0 := fun v (p : (RR 10000 v s0 a0 len0 cap0 b0 m0 e0 X)) (q : (RR 10000 v s1 a1 len1 cap1 b1 m1 e1 Y)) => K.div p q
  have ct1 := fun v (p : (RR 1000 v s0 a0 len0 cap0 b0 m0 e0 X)) (q : (RR 1000 v s1 a1 len1 cap1 b1 m1 e1 Y)) => ref_rdiv p q
  have ct2 := fun v (p : (RR 1000 v s0 a0 len0 cap0 b0 m0 e0 X)) (q : (RR 1000 v s1 a1 len1 cap1 b1 m1 e1 Y)) => ref_rcmp p q kk hkk
  have ct3 := fun v (p : (RR 10000 v s0 a0 len0 cap0 b0 m0 e0 X)) (q : (RR 10000 v s1 a1 len1 cap1 b1 m1 e1 Y)) => K.add p q S hS
  have ct4 := fun v (p : (RR 1000 v s0 a0 len0 cap0 b0 m0 e0 X)) (q : (RR 1000 v s1 a1 len1 cap1 b1 m1 e1 Y)) => ref_radd p q S hS
  have ct5 := fun v (p : (RR 10000 v s0 a0 len0 cap0 b0 m0 e0 X)) (q : (RR 10000 v s1 a1 len1 cap1 b1 m1 e1 Y)) => K.sub p q D hD
  have ct6 := fun v (p : (RR 1000 v s0 a0 len0 cap0 b0 m0 e0 X)) (q : (RR 1000 v s1 a1 len1 cap1 b1 m1 e1 Y)) => ref_rsub p q D hD
  have ct7 := fun v (p : (RR 10000 v s0 a0 len0 cap0 b0 m0 e0 X)) (q : (RR 10000 v s1 a1 len1 cap1 b1 m1 e1 Y)) => K.mul p q M hM
  have ct8 := fun v (p : (RR 1000 v s0 a0 len0 cap0 b0 m0 e0 X)) (q : (RR 1000 v s1 a1 len1 cap1 b1 m1 e1 Y)) => ref_rmul p q M hM
  have ct9 := fun v (p : (RR 10000 v s0 a0 len0 cap0 b0 m0 e0 X)) (q : (RR 10000 v s1 a1 len1 cap1 b1 m1 e1 Y)) => K.cmp p q kk hkk
  have ct10 := fun v (p : (RR 10000 v s0 a0 len0 cap0 b0 m0 e0 X)) (q : (RR 10000 v s1 a1 len1 cap1 b1 m1 e1 Y)) => K.same p q (kk == 0) hsame
  unfold AnsTE at ct0 ct1
  generalize divT X Y = tt at ct0 ct1
  generalize divE Y = EE at ct0 ct1
  obtain ⟨gT, NT, DT⟩ := tt
  dsimp only at ct0 ct1
  unfold AnsR OwnR at ct3 ct4 ct5 ct6 ct7 ct8
  clear hS hD hM hkk hsame lX lY K
  generalize decide (S.num < 0) = gS at *
  generalize S.num.natAbs = NS at *
  generalize S.den = DS at *
  generalize decide (D.num < 0) = gD at *
  generalize D.num.natAbs = ND at *
  generalize D.den = DD at *
  generalize decide (M.num < 0) = gM at *
  generalize M.num.natAbs = NM at *
  generalize M.den = DM at *
  go_enter Tryz.func4, Tryz.ntmps4
  go_wp2_with (first
    | (go_at_call 11; (with_reducible refine Calls.mono (AW _) ?_); rintro e u0 ⟨rfl, d0⟩; obtain ⟨p00, p01, p02, -, -, -⟩ := (B0.more d0).cells3; obtain ⟨p10, p11, p12, -, -, -⟩ := (B1.more d0).cells3)
    | (go_at_call 12; (with_reducible refine Calls.mono (F _) ?_); rintro e v1 ⟨rfl, d1⟩; replace d0 := below_more d0 d1; have bs := below_more bV d0; obtain ⟨p00, p01, p02, -, -, -⟩ := (B0.more d0).cells3; obtain ⟨p10, p11, p12, -, -, -⟩ := (B1.more d0).cells3)
    | (go_at_call 24; (with_reducible refine Calls.mono (ct0 _ (PX.below bs) (PY.below bs)) ?_); rintro e w3 ⟨A3, C3, B3, D3, rfl, o3⟩; have d3 := below_more d0 o3.1.below; have bs1 := fun o => (below_more bs o3.1.below).alloc (below_more bs o3.1.below).size o; have f0 := fun o => ((B0.more d3).alloc o).cells3.1; have f1 := fun o => ((B0.more d3).alloc o).cells3.2.1; have f2 := fun o => ((B0.more d3).alloc o).cells3.2.2.1; have h0 := fun o => ((B1.more d3).alloc o).cells3.1; have h1 := fun o => ((B1.more d3).alloc o).cells3.2.1; have h2 := fun o => ((B1.more d3).alloc o).cells3.2.2.1)
    | (go_at_call 25; (with_reducible refine Calls.mono (ct1 _ (QX.below (bs1 _)) (QY.below (bs1 _))) ?_); rintro e w4 ⟨A4, C4, B4, D4, rfl, o4⟩; have d4 := below_more (d3.alloc d3.size _) o4.1.below; have bs2 := fun o => (below_more (bs1 _) o4.1.below).alloc (below_more (bs1 _) o4.1.below).size o; have r0 := fun o => ((B0.more d4).alloc o).cells3.1; have r1 := fun o => ((B0.more d4).alloc o).cells3.2.1; have r2 := fun o => ((B0.more d4).alloc o).cells3.2.2.1; have t0 := fun o => ((B1.more d4).alloc o).cells3.1; have t1 := fun o => ((B1.more d4).alloc o).cells3.2.1; have t2 := fun o => ((B1.more d4).alloc o).cells3.2.2.1)
    | (go_at_call 26; (with_reducible refine Calls.mono (ct2 _ (QX.below (bs2 _)) (QY.below (bs2 _))) ?_); rintro e w5 ⟨rfl, b5⟩))
  have dC := below_more (d4.alloc d4.size (.cells #[.bool gT, .slice A4 (nl NT) C4, .slice B4 (nl DT) D4] 24)) b5
  replace B0 := B0.more dC
  replace B1 := B1.more dC
  have BX := (((BoxC.new w3 #[.bool gT, .slice A3 (nl NT) C3, .slice B3 (nl DT) D3] 24).more o4.1.below).alloc (.cells #[.bool gT, .slice A4 (nl NT) C4, .slice B4 (nl DT) D4] 24)).more b5
  have BY := (BoxC.new w4 #[.bool gT, .slice A4 (nl NT) C4, .slice B4 (nl DT) D4] 24).more b5
  have oX := own2_more (own2_alloc (own2_more (own2_alloc o3 (.cells #[.bool gT, .slice A3 (nl NT) C3, .slice B3 (nl DT) D3] 24)) o4.1.below) (.cells #[.bool gT, .slice A4 (nl NT) C4, .slice B4 (nl DT) D4] 24)) b5
  have oY := own2_more (own2_alloc o4 (.cells #[.bool gT, .slice A4 (nl NT) C4, .slice B4 (nl DT) D4] 24)) b5
  have bW := below_more bV dC
  generalize w3.heap.size = k3 at *
  generalize w4.heap.size = k4 at *
  generalize w5 = V at *
  clear p00 p01 p02 p10 p11 p12 f0 f1 f2 h0 h1 h2 r0 r1 r2 t0 t1 t2 bs1 bs2 d0 d1 d3 d4 dC bV hs ct0 ct1 ct2 o3 o4 b5 bs AW F
  have SO : ∀ v, Below V.heap.size V v → v.cell? ⟨w.heap.size, 0, none⟩ = some (.bool s0) ∧ v.cell? ⟨w.heap.size, 1, none⟩ = some (.slice a0 len0 cap0) ∧ v.cell? ⟨w.heap.size, 2, none⟩ = some (.slice b0 m0 e0) ∧ v.cell? ⟨w.heap.size + 1, 0, none⟩ = some (.bool s1) ∧ v.cell? ⟨w.heap.size + 1, 1, none⟩ = some (.slice a1 len1 cap1) ∧ v.cell? ⟨w.heap.size + 1, 2, none⟩ = some (.slice b1 m1 e1) ∧ v.cell? ⟨k3, 0, none⟩ = some (.bool gT) ∧ v.cell? ⟨k3, 1, none⟩ = some (.slice A3 (nl NT) C3) ∧ v.cell? ⟨k3, 2, none⟩ = some (.slice B3 (nl DT) D3) ∧ v.cell? ⟨k4, 0, none⟩ = some (.bool gT) ∧ v.cell? ⟨k4, 1, none⟩ = some (.slice A4 (nl NT) C4) ∧ v.cell? ⟨k4, 2, none⟩ = some (.slice B4 (nl DT) D4) := fun v hb => ⟨(B0.more hb).cells3.1, (B0.more hb).cells3.2.1, (B0.more hb).cells3.2.2.1, (B1.more hb).cells3.1, (B1.more hb).cells3.2.1, (B1.more hb).cells3.2.2.1, (BX.more hb).cells3.1, (BX.more hb).cells3.2.1, (BX.more hb).cells3.2.2.1, (BY.more hb).cells3.1, (BY.more hb).cells3.2.1, (BY.more hb).cells3.2.2.1⟩
  have bs : Below V.heap.size V V.drew := (Below.refl _ _).drew
  have HB : Hid (Below w.heap.size w V) := bW
  replace PX := PX.below bW
  replace PY := PY.below bW
  replace QX := QX.below bW
  replace QY := QY.below bW
  clear B0 B1 BX BY bW
  go_region_held3 (fun v => v.cell? ⟨w.heap.size, 0, none⟩ = some (.bool s0) ∧ v.cell? ⟨w.heap.size, 1, none⟩ = some (.slice a0 len0 cap0) ∧ v.cell? ⟨w.heap.size, 2, none⟩ = some (.slice b0 m0 e0) ∧ v.cell? ⟨w.heap.size + 1, 0, none⟩ = some (.bool s1) ∧ v.cell? ⟨w.heap.size + 1, 1, none⟩ = some (.slice a1 len1 cap1) ∧ v.cell? ⟨w.heap.size + 1, 2, none⟩ = some (.slice b1 m1 e1) ∧ v.cell? ⟨k3, 0, none⟩ = some (.bool gT) ∧ v.cell? ⟨k3, 1, none⟩ = some (.slice A3 (nl NT) C3) ∧ v.cell? ⟨k3, 2, none⟩ = some (.slice B3 (nl DT) D3) ∧ v.cell? ⟨k4, 0, none⟩ = some (.bool gT) ∧ v.cell? ⟨k4, 1, none⟩ = some (.slice A4 (nl NT) C4) ∧ v.cell? ⟨k4, 2, none⟩ = some (.slice B4 (nl DT) D4))
    (exact SO _ bs)
    (first
    | (go_at_call 27; (with_reducible refine Calls.mono (ct3 _ (PX.below bs) (PY.below bs)) ?_); rintro e w10 ⟨A10, C10, B10, D10, rfl, o10⟩; replace bs := below_more bs o10.1.below)
    | (go_at_call 28; (with_reducible refine Calls.mono (ct4 _ (QX.below bs) (QY.below bs)) ?_); rintro e w11 ⟨A11, C11, B11, D11, rfl, o11⟩; replace bs := below_more bs o11.1.below; (try replace o10 := own2_more o10 o11.1.below))
    | (go_at_call 17; (with_reducible refine Calls.mono (ref_reqt o10 o11) ?_); rintro e w20 ⟨rfl, b20⟩; replace bs := below_more bs b20; clear o10 o11 ct3 ct4)
    | (go_at_call 29; (with_reducible refine Calls.mono (ct5 _ (PX.below bs) (PY.below bs)) ?_); rintro e w12 ⟨A12, C12, B12, D12, rfl, o12⟩; replace bs := below_more bs o12.1.below)
    | (go_at_call 30; (with_reducible refine Calls.mono (ct6 _ (QX.below bs) (QY.below bs)) ?_); rintro e w13 ⟨A13, C13, B13, D13, rfl, o13⟩; replace bs := below_more bs o13.1.below; (try replace o12 := own2_more o12 o13.1.below))
    | (go_at_call 17; (with_reducible refine Calls.mono (ref_reqt o12 o13) ?_); rintro e w21 ⟨rfl, b21⟩; replace bs := below_more bs b21; clear o12 o13 ct5 ct6)
    | (go_at_call 31; (with_reducible refine Calls.mono (ct7 _ (PX.below bs) (PY.below bs)) ?_); rintro e w14 ⟨A14, C14, B14, D14, rfl, o14⟩; replace bs := below_more bs o14.1.below)
    | (go_at_call 32; (with_reducible refine Calls.mono (ct8 _ (QX.below bs) (QY.below bs)) ?_); rintro e w15 ⟨A15, C15, B15, D15, rfl, o15⟩; replace bs := below_more bs o15.1.below; (try replace o14 := own2_more o14 o15.1.below))
    | (go_at_call 17; (with_reducible refine Calls.mono (ref_reqt o14 o15) ?_); rintro e w22 ⟨rfl, b22⟩; replace bs := below_more bs b22; clear o14 o15 ct7 ct8)
    | (go_at_call 17; (with_reducible refine Calls.mono (ref_reqt (own2_more oX bs) (own2_more oY bs)) ?_); rintro e w24 ⟨rfl, b24⟩; replace bs := below_more bs b24)
    | (go_at_call 33; (with_reducible refine Calls.mono (ct9 _ (PX.below bs) (PY.below bs)) ?_); rintro e w25 ⟨rfl, b25⟩; replace bs := below_more bs b25)
    | (go_at_call 34; (with_reducible refine Calls.mono (ct10 _ (PX.below bs) (PY.below bs)) ?_); rintro e w26 ⟨rfl, b26⟩; replace bs := below_more bs b26))
  all_goals
    go_wp2
    go_ret
    exact ⟨by simp, below_more HB.out bs⟩
end Go.Proofs.YtpimcbncmfpdhaaGreatDoor
/-
  The walk of the statement RatioTells, for whatever package ratio keeps its contracts: it returns true; memory that was there stays.
-/
namespace Go.Proofs.YtpimcbncmfpdhaaGreatDoor
open Go.RowKit

set_option maxHeartbeats 40000000 in
theorem walk_RatioTells (K : RatioOk) (s0 : Bool) (a0 : Option Addr) (len0 cap0 : Nat) (z0 : List Int) (b0 : Option Addr) (m0 e0 : Nat) (y0 : List Int) (s1 : Bool) (a1 : Option Addr) (len1 cap1 : Nat) (z1 : List Int) (s2 : Bool) (a2 : Option Addr) (len2 cap2 : Nat) (z2 : List Int) (a3 : Int) (w : World) (w0 : CameIn .u32 w a0 len0 cap0 z0) (x0 : CameIn .u32 w b0 m0 e0 y0) (w1 : CameIn .u32 w a1 len1 cap1 z1) (w2 : CameIn .u32 w a2 len2 cap2 z2) (w3 : (Lit.int .i64 a3).wf = true) :
    Calls Tryz.prog 3 #[.agg #[.bool s0, .slice a0 len0 cap0, .slice b0 m0 e0], .agg #[.bool s1, .slice a1 len1 cap1], .agg #[.bool s2, .slice a2 len2 cap2], .int .i64 a3] w fun e w' => e = .returned (.bool true) ∧ Below w.heap.size w w' := by
  obtain ⟨B0, B1, B2, bV, hs⟩ := boxes3 w #[.bool s0, .slice a0 len0 cap0, .slice b0 m0 e0] #[.bool s1, .slice a1 len1 cap1] #[.bool s2, .slice a2 len2 cap2] 24 26 26
  obtain ⟨i0, i1⟩ := wf_i64r w3
  have AW := fun v => ratio_awake K v
  by_cases hf : len0 ≤ 4 ∧ m0 ≤ 4
  case neg =>
    have F := fun v => law8_few v s0 s0 s0 a0 a0 a0 b0 b0 b0 len0 len0 len0 cap0 cap0 cap0 m0 m0 m0 e0 e0 e0 false (decide_eq_false (by omega))
    clear hf w0 x0 w1 w2 w3 K
    go_enter Tryz.func3, Tryz.ntmps3
    go_wp2_with (first
      | (go_at_call 11; (with_reducible refine Calls.mono (AW _) ?_); rintro e u0 ⟨rfl, c0⟩; obtain ⟨p00, p01, p02, -, -, -⟩ := (B0.more c0).cells3; obtain ⟨p10, p11, -, -⟩ := (B1.more c0).cells2; obtain ⟨p20, p21, -, -⟩ := (B2.more c0).cells2)
      | (go_at_call 12; (with_reducible refine Calls.mono (F _) ?_); rintro e v1 ⟨rfl, c1⟩; replace c0 := below_more c0 c1; obtain ⟨p00, p01, p02, -, -, -⟩ := (B0.more c0).cells3; obtain ⟨p10, p11, -, -⟩ := (B1.more c0).cells2; obtain ⟨p20, p21, -, -⟩ := (B2.more c0).cells2))
    go_ret
    exact ⟨rfl, below_more bV c0⟩
  case pos =>
  have F := fun v => law8_few v s0 s0 s0 a0 a0 a0 b0 b0 b0 len0 len0 len0 cap0 cap0 cap0 m0 m0 m0 e0 e0 e0 true (decide_eq_true (by omega))
  by_cases hg : len1 ≤ 4 ∧ len2 ≤ 4
  case neg =>
    rcases (by omega : (4 : Int) < len1 ∨ (¬ (4 : Int) < len1 ∧ (4 : Int) < len2)) with g1 | ⟨g1, g2⟩
    all_goals
      clear hf hg w0 x0 w1 w2 w3 K
      go_enter Tryz.func3, Tryz.ntmps3
      go_wp2_with (first
        | (go_at_call 11; (with_reducible refine Calls.mono (AW _) ?_); rintro e u0 ⟨rfl, c0⟩; obtain ⟨p00, p01, p02, -, -, -⟩ := (B0.more c0).cells3; obtain ⟨p10, p11, -, -⟩ := (B1.more c0).cells2; obtain ⟨p20, p21, -, -⟩ := (B2.more c0).cells2)
        | (go_at_call 12; (with_reducible refine Calls.mono (F _) ?_); rintro e v1 ⟨rfl, c1⟩; replace c0 := below_more c0 c1; obtain ⟨p00, p01, p02, -, -, -⟩ := (B0.more c0).cells3; obtain ⟨p10, p11, -, -⟩ := (B1.more c0).cells2; obtain ⟨p20, p21, -, -⟩ := (B2.more c0).cells2))
      go_ret
      exact ⟨rfl, below_more bV c0⟩
  case pos =>
  have hg1 : ¬ (4 : Int) < len1 := by omega
  have hg2 : ¬ (4 : Int) < len2 := by omega
  have PA := came_words w0
  have PB := came_words x0
  have PN := came_words w1
  have PD := came_words w2
  have wA := came_wd w0
  have wB := came_wd x0
  have wN := came_wd w1
  have wD := came_wd w2
  obtain ⟨X, hX⟩ : ∃ X, rv s0 (val (z0.take len0)) (val (y0.take m0)) = X := ⟨_, rfl⟩
  have RX : RR 4 w s0 a0 len0 cap0 b0 m0 e0 X := ⟨_, _, PA, wA, PB, wB, hf.1, hf.2, hX⟩
  have PX := RX.mono (l := 10000) (by omega)
  have QX := RX.mono (l := 1000) (by omega)
  obtain ⟨rr, hrr⟩ : ∃ rr, decide (decide (X.num < 0) = s0 ∧ natOf X.num.natAbs = z0.take len0 ∧ natOf X.den = y0.take m0) = rr := ⟨_, rfl⟩
  have ct0 := fun v (hb : Below w.heap.size w v) => K.make (s := s1) (t := s2) (PN.below hb) wN (PD.below hb) wD (by omega) (by omega)
  have ct1 := fun v (hb : Below w.heap.size w v) => ref_rmake (s := s1) (t := s2) (PN.below hb) wN (PD.below hb) wD (by omega) (by omega)
  have ct2 := fun v (hb : Below w.heap.size w v) => K.right (PA.below hb) wA (PB.below hb) wB (by omega) (by omega) X hX rr hrr
  have ct3 := fun v (hb : Below w.heap.size w v) => ref_rright (PA.below hb) wA (PB.below hb) wB (by omega) (by omega) X hX rr hrr
  have ct4 := fun v (hb : Below w.heap.size w v) => K.fix (PX.below hb)
  have ct5 := fun v (hb : Below w.heap.size w v) => ref_rfix' (by omega) (QX.below hb)
  have ct6 := fun v (hb : Below w.heap.size w v) => K.neg (PX.below hb) _ rfl
  have ct7 := fun v (hb : Below w.heap.size w v) => ref_rneg ((QX.below hb).mono (by omega)) _ rfl
  have ct8 := fun v => K.of a3 v i0 i1
  have ct9 := fun v => ref_rof a3 v i0 i1
  unfold AnsTE at ct0 ct1
  generalize mkT s1 (val (z1.take len1)) s2 (val (z2.take len2)) = tt at ct0 ct1
  generalize mkE (val (z2.take len2)) = EE at ct0 ct1
  obtain ⟨gT, NT, DT⟩ := tt
  dsimp only at ct0 ct1
  unfold AnsR OwnR at ct4 ct5 ct6 ct7 ct8 ct9
  generalize -X = M at *
  generalize (a3 : Rat) = O at *
  clear PA PB PN PD wA wB wN wD RX PX QX hX hrr hf hg w0 x0 w1 w2 w3 K i0 i1
  generalize decide (X.num < 0) = gX at *
  generalize X.num.natAbs = NX at *
  generalize X.den = DX at *
  generalize decide (M.num < 0) = gM at *
  generalize M.num.natAbs = NM at *
  generalize M.den = DM at *
  generalize decide (O.num < 0) = gO at *
  generalize O.num.natAbs = NO at *
  generalize O.den = DO at *
  go_enter Tryz.func3, Tryz.ntmps3
  go_wp2_with (first
    | (go_at_call 11; (with_reducible refine Calls.mono (AW _) ?_); rintro e u0 ⟨rfl, d0⟩; obtain ⟨p00, p01, p02, -, -, -⟩ := (B0.more d0).cells3; obtain ⟨p10, p11, -, -⟩ := (B1.more d0).cells2; obtain ⟨p20, p21, -, -⟩ := (B2.more d0).cells2)
    | (go_at_call 12; (with_reducible refine Calls.mono (F _) ?_); rintro e v1 ⟨rfl, d1⟩; replace d0 := below_more d0 d1; have bs := below_more bV d0; obtain ⟨p00, p01, p02, -, -, -⟩ := (B0.more d0).cells3; obtain ⟨p10, p11, -, -⟩ := (B1.more d0).cells2; obtain ⟨p20, p21, -, -⟩ := (B2.more d0).cells2)
    | (go_at_call 13; (with_reducible refine Calls.mono (ct0 _ bs) ?_); rintro e w3 ⟨A3, C3, E3, D3, rfl, o3⟩; have d3 := below_more d0 o3.1.below; have bs1 := fun o => (below_more bs o3.1.below).alloc (below_more bs o3.1.below).size o; have f0 := fun o => ((B1.more d3).alloc o).cells2.1; have f1 := fun o => ((B1.more d3).alloc o).cells2.2.1; have h0 := fun o => ((B2.more d3).alloc o).cells2.1; have h1 := fun o => ((B2.more d3).alloc o).cells2.2.1)
    | (go_at_call 14; (with_reducible refine Calls.mono (ct1 _ (bs1 _)) ?_); rintro e w4 ⟨A4, C4, E4, D4, rfl, o4⟩; have d4 := below_more (d3.alloc d3.size _) o4.1.below))
  have dC := d4.alloc d4.size (.cells #[.bool gT, .slice A4 (nl NT) C4, .slice E4 (nl DT) D4] 24)
  replace B0 := B0.more dC
  have BX := ((BoxC.new w3 #[.bool gT, .slice A3 (nl NT) C3, .slice E3 (nl DT) D3] 24).more o4.1.below).alloc (.cells #[.bool gT, .slice A4 (nl NT) C4, .slice E4 (nl DT) D4] 24)
  have BY := BoxC.new w4 #[.bool gT, .slice A4 (nl NT) C4, .slice E4 (nl DT) D4] 24
  have oX := own2_alloc (own2_more (own2_alloc o3 (.cells #[.bool gT, .slice A3 (nl NT) C3, .slice E3 (nl DT) D3] 24)) o4.1.below) (.cells #[.bool gT, .slice A4 (nl NT) C4, .slice E4 (nl DT) D4] 24)
  have oY := own2_alloc o4 (.cells #[.bool gT, .slice A4 (nl NT) C4, .slice E4 (nl DT) D4] 24)
  have bW := below_more bV dC
  generalize w3.heap.size = k3 at *
  generalize w4.heap.size = k4 at *
  generalize w4.alloc (.cells #[.bool gT, .slice A4 (nl NT) C4, .slice E4 (nl DT) D4] 24) = V at *
  clear p00 p01 p02 p10 p11 p20 p21 f0 f1 h0 h1 bs1 d0 d1 d3 d4 dC bV hs B1 B2 ct0 ct1 o3 o4 bs AW F
  have SO : ∀ v, Below V.heap.size V v → v.cell? ⟨w.heap.size, 0, none⟩ = some (.bool s0) ∧ v.cell? ⟨w.heap.size, 1, none⟩ = some (.slice a0 len0 cap0) ∧ v.cell? ⟨w.heap.size, 2, none⟩ = some (.slice b0 m0 e0) ∧ v.cell? ⟨k3, 0, none⟩ = some (.bool gT) ∧ v.cell? ⟨k3, 1, none⟩ = some (.slice A3 (nl NT) C3) ∧ v.cell? ⟨k3, 2, none⟩ = some (.slice E3 (nl DT) D3) ∧ v.cell? ⟨k4, 0, none⟩ = some (.bool gT) ∧ v.cell? ⟨k4, 1, none⟩ = some (.slice A4 (nl NT) C4) ∧ v.cell? ⟨k4, 2, none⟩ = some (.slice E4 (nl DT) D4) := fun v hb => ⟨(B0.more hb).cells3.1, (B0.more hb).cells3.2.1, (B0.more hb).cells3.2.2.1, (BX.more hb).cells3.1, (BX.more hb).cells3.2.1, (BX.more hb).cells3.2.2.1, (BY.more hb).cells3.1, (BY.more hb).cells3.2.1, (BY.more hb).cells3.2.2.1⟩
  have bs : Below V.heap.size V V.drew := (Below.refl _ _).drew
  have HB : Hid (Below w.heap.size w V) := bW
  clear B0 BX BY bW
  go_region_held3 (fun v => v.cell? ⟨w.heap.size, 0, none⟩ = some (.bool s0) ∧ v.cell? ⟨w.heap.size, 1, none⟩ = some (.slice a0 len0 cap0) ∧ v.cell? ⟨w.heap.size, 2, none⟩ = some (.slice b0 m0 e0) ∧ v.cell? ⟨k3, 0, none⟩ = some (.bool gT) ∧ v.cell? ⟨k3, 1, none⟩ = some (.slice A3 (nl NT) C3) ∧ v.cell? ⟨k3, 2, none⟩ = some (.slice E3 (nl DT) D3) ∧ v.cell? ⟨k4, 0, none⟩ = some (.bool gT) ∧ v.cell? ⟨k4, 1, none⟩ = some (.slice A4 (nl NT) C4) ∧ v.cell? ⟨k4, 2, none⟩ = some (.slice E4 (nl DT) D4))
    (exact SO _ bs)
    (first
    | (go_at_call 15; (with_reducible refine Calls.mono (ct2 _ (below_more HB.out bs)) ?_); rintro e w10 ⟨rfl, b10⟩; replace bs := below_more bs b10)
    | (go_at_call 16; (with_reducible refine Calls.mono (ct3 _ (below_more HB.out bs)) ?_); rintro e w11 ⟨rfl, b11⟩; replace bs := below_more bs b11)
    | (go_at_call 18; (with_reducible refine Calls.mono (ct4 _ (below_more HB.out bs)) ?_); rintro e w12 ⟨A12, C12, B12, D12, rfl, o12⟩; replace bs := below_more bs o12.1.below)
    | (go_at_call 19; (with_reducible refine Calls.mono (ct5 _ (below_more HB.out bs)) ?_); rintro e w13 ⟨A13, C13, B13, D13, rfl, o13⟩; replace bs := below_more bs o13.1.below; (try replace o12 := own2_more o12 o13.1.below))
    | (go_at_call 17; (with_reducible refine Calls.mono (ref_reqt o12 o13) ?_); rintro e w20 ⟨rfl, b20⟩; replace bs := below_more bs b20; clear o12 o13 ct4 ct5)
    | (go_at_call 20; (with_reducible refine Calls.mono (ct6 _ (below_more HB.out bs)) ?_); rintro e w14 ⟨A14, C14, B14, D14, rfl, o14⟩; replace bs := below_more bs o14.1.below)
    | (go_at_call 21; (with_reducible refine Calls.mono (ct7 _ (below_more HB.out bs)) ?_); rintro e w15 ⟨A15, C15, B15, D15, rfl, o15⟩; replace bs := below_more bs o15.1.below; (try replace o14 := own2_more o14 o15.1.below))
    | (go_at_call 17; (with_reducible refine Calls.mono (ref_reqt o14 o15) ?_); rintro e w21 ⟨rfl, b21⟩; replace bs := below_more bs b21; clear o14 o15 ct6 ct7)
    | (go_at_call 22; (with_reducible refine Calls.mono (ct8 _ ) ?_); rintro e w16 ⟨A16, C16, B16, D16, rfl, o16⟩; replace bs := below_more bs o16.1.below)
    | (go_at_call 23; (with_reducible refine Calls.mono (ct9 _ ) ?_); rintro e w17 ⟨A17, C17, B17, D17, rfl, o17⟩; replace bs := below_more bs o17.1.below; (try replace o16 := own2_more o16 o17.1.below))
    | (go_at_call 17; (with_reducible refine Calls.mono (ref_reqt o16 o17) ?_); rintro e w22 ⟨rfl, b22⟩; replace bs := below_more bs b22; clear o16 o17 ct8 ct9)
    | (go_at_call 17; (with_reducible refine Calls.mono (ref_reqt (own2_more oX bs) (own2_more oY bs)) ?_); rintro e w24 ⟨rfl, b24⟩; replace bs := below_more bs b24))
  all_goals
    go_wp2
    go_ret
    exact ⟨by simp, below_more HB.out bs⟩
end Go.Proofs.YtpimcbncmfpdhaaGreatDoor
/-
  Two small things for walks. No conditions of the program.
-/
namespace Go.Proofs.YtpimcbncmfpdhaaGreatDoor
open Go.RowKit
theorem BoxC.start {v : World} {k : Nat} {cs : Array Value} {T : TypeId} (_h : BoxC v k cs T) : Below v.heap.size v v.drew := (Below.refl _ _).drew
theorem hid_of {p : Prop} (h : p) : Hid p := h
end Go.Proofs.YtpimcbncmfpdhaaGreatDoor
/-
  The walk of the statement RatioTerms, for whatever package ratio keeps its contracts: it returns true; memory that was there stays.
-/
namespace Go.Proofs.YtpimcbncmfpdhaaGreatDoor
open Go.RowKit

theorem rv_same (N : Nat) (h : 0 < N) : rv false N N = 1 := by
  have := Rat.mkRat_mul_left (n := 1) (d := 1) (a := N) (by omega)
  rw [Int.mul_one, Nat.mul_one] at this
  exact this.trans (by decide)
theorem mkT_den (s : Bool) (A D : Nat) (h : 0 < D) : mkT s A false D = tri (rv s A D) := by
  unfold mkT; rw [if_neg (by omega)]; cases s <;> rfl

set_option maxHeartbeats 40000000 in
theorem walk_RatioTerms (K : RatioOk) (s0 : Bool) (a0 : Option Addr) (len0 cap0 : Nat) (z0 : List Int) (b0 : Option Addr) (m0 e0 : Nat) (y0 : List Int) (a1 : Option Addr) (len1 cap1 : Nat) (z1 : List Int) (w : World) (w0 : CameIn .u32 w a0 len0 cap0 z0) (x0 : CameIn .u32 w b0 m0 e0 y0) (w1 : CameIn .u32 w a1 len1 cap1 z1) :
    Calls Tryz.prog 10 #[.agg #[.bool s0, .slice a0 len0 cap0, .slice b0 m0 e0], .slice a1 len1 cap1] w fun e w' => e = .returned (.bool true) ∧ Below w.heap.size w w' := by
  obtain ⟨B0, bV, hs⟩ := boxes1 w #[.bool s0, .slice a0 len0 cap0, .slice b0 m0 e0] 24
  have AW := fun v => ratio_awake K v
  by_cases hf : len0 ≤ 4 ∧ m0 ≤ 4
  case neg =>
    have F := fun v => law8_few v s0 s0 s0 a0 a0 a0 b0 b0 b0 len0 len0 len0 cap0 cap0 cap0 m0 m0 m0 e0 e0 e0 false (decide_eq_false (by omega))
    clear hf w0 x0 w1 K
    go_enter Tryz.func10, Tryz.ntmps10
    go_wp2_with (first
      | (go_at_call 11; (with_reducible refine Calls.mono (AW _) ?_); rintro e u0 ⟨rfl, c0⟩; obtain ⟨p00, p01, p02, -, -, -⟩ := (B0.more c0).cells3)
      | (go_at_call 12; (with_reducible refine Calls.mono (F _) ?_); rintro e v1 ⟨rfl, c1⟩; replace c0 := below_more c0 c1; obtain ⟨p00, p01, p02, -, -, -⟩ := (B0.more c0).cells3)
      | (go_at_call 41; (with_reducible refine Calls.mono (TR _ (below_more bV c0)) ?_); rintro e v2 ⟨a3, c3, rfl, o3⟩; replace c0 := below_more c0 o3.below; obtain ⟨p00, p01, p02, -, -, -⟩ := (B0.more c0).cells3))
    go_ret
    exact ⟨rfl, below_more bV c0⟩
  case pos =>
  have F := fun v => law8_few v s0 s0 s0 a0 a0 a0 b0 b0 b0 len0 len0 len0 cap0 cap0 cap0 m0 m0 m0 e0 e0 e0 true (decide_eq_true (by omega))
  by_cases hg : (4 : Int) < len1
  case pos =>
    clear hf w0 x0 w1 K
    go_enter Tryz.func10, Tryz.ntmps10
    go_wp2_with (first
      | (go_at_call 11; (with_reducible refine Calls.mono (AW _) ?_); rintro e u0 ⟨rfl, c0⟩; obtain ⟨p00, p01, p02, -, -, -⟩ := (B0.more c0).cells3)
      | (go_at_call 12; (with_reducible refine Calls.mono (F _) ?_); rintro e v1 ⟨rfl, c1⟩; replace c0 := below_more c0 c1; obtain ⟨p00, p01, p02, -, -, -⟩ := (B0.more c0).cells3)
      | (go_at_call 41; (with_reducible refine Calls.mono (TR _ (below_more bV c0)) ?_); rintro e v2 ⟨a3, c3, rfl, o3⟩; replace c0 := below_more c0 o3.below; obtain ⟨p00, p01, p02, -, -, -⟩ := (B0.more c0).cells3))
    go_ret
    exact ⟨rfl, below_more bV c0⟩
  case neg =>
  have PC := came_words w1
  have wC := came_wd w1
  have TR := fun v (hb : Below w.heap.size w v) => ref_trim a1 len1 cap1 _ v (PC.below hb) wC (by omega)
  have lN : nl (val (z1.take len1)) ≤ 4 := nl_small wC _ (by rw [PC.len]; omega)
  unfold Ans at TR
  generalize val (z1.take len1) = N at TR lN
  clear w1 PC wC
  rcases Nat.eq_zero_or_pos N with hN | hN
  · subst hN
    simp only [nl_zero] at TR
    clear hf w0 x0 K
    go_enter Tryz.func10, Tryz.ntmps10
    go_wp2_with (first
      | (go_at_call 11; (with_reducible refine Calls.mono (AW _) ?_); rintro e u0 ⟨rfl, c0⟩; obtain ⟨p00, p01, p02, -, -, -⟩ := (B0.more c0).cells3)
      | (go_at_call 12; (with_reducible refine Calls.mono (F _) ?_); rintro e v1 ⟨rfl, c1⟩; replace c0 := below_more c0 c1; obtain ⟨p00, p01, p02, -, -, -⟩ := (B0.more c0).cells3)
      | (go_at_call 41; (with_reducible refine Calls.mono (TR _ (below_more bV c0)) ?_); rintro e v2 ⟨a3, c3, rfl, o3⟩; replace c0 := below_more c0 o3.below; obtain ⟨p00, p01, p02, -, -, -⟩ := (B0.more c0).cells3))
    go_ret
    exact ⟨rfl, below_more bV c0⟩
  have hN0 : ((nl N : Int) == 0) = false := by have := nl_pos hN; simp; omega
  have PA := came_words w0
  have PB := came_words x0
  have wA := came_wd w0
  have wB := came_wd x0
  obtain ⟨X, hX⟩ : ∃ X, rv s0 (val (z0.take len0)) (val (y0.take m0)) = X := ⟨_, rfl⟩
  have RX : RR 4 w s0 a0 len0 cap0 b0 m0 e0 X := ⟨_, _, PA, wA, PB, wB, hf.1, hf.2, hX⟩
  have PX := RX.mono (l := 10000) (by omega)
  have ct0 := fun v (hb : Below w.heap.size w v) => K.make (s := s0) (t := false) (PA.below hb) wA (PB.below hb) wB (by omega) (by omega)
  have ct1 := fun v (hb : Below w.heap.size w v) a c (W : World) (o : Own W v (.slice a (nl N) c) (nl N) (natOf N)) => K.mul (s' := false) (PX.below hb) (⟨_, _, o.words, wd_natOf _, o.words, wd_natOf _, by omega, by omega, by rw [val_natOf]; exact rv_same N hN⟩ : RR 10000 v false a (nl N) c a (nl N) c 1) X (Rat.mul_one X)
  have ct2 := fun v (hb : Below w.heap.size w v) => K.fix (PX.below hb)
  unfold AnsTE at ct0
  unfold AnsR OwnR at ct1 ct2
  have hD : val (y0.take m0) = 0 ∨ 0 < val (y0.take m0) := Nat.eq_zero_or_pos _
  rcases hD with hD | hD
  case' inl =>
    have hE : (mkE (val (y0.take m0)) == 0) = false := by unfold mkE; rw [if_pos hD]; rfl
    generalize mkT s0 (val (z0.take len0)) false (val (y0.take m0)) = tt at ct0
    generalize mkE (val (y0.take m0)) = EE at ct0 hE
    obtain ⟨gT, NT, DT⟩ := tt
    dsimp only at ct0
  case' inr =>
    rw [mkT_den _ _ _ hD, hX, show mkE (val (y0.take m0)) = 0 from if_neg (by omega)] at ct0
    unfold tri at ct0
    dsimp only at ct0
  all_goals
    clear PA PB wA wB RX PX hX hf w0 x0 K hD hN lN
    generalize decide (X.num < 0) = gX at *
    generalize X.num.natAbs = NX at *
    generalize X.den = DX at *
    go_enter Tryz.func10, Tryz.ntmps10
    go_wp2_with (first
      | (go_at_call 11; (with_reducible refine Calls.mono (AW _) ?_); rintro e u0 ⟨rfl, d0⟩; obtain ⟨p00, p01, p02, -, -, -⟩ := (B0.more d0).cells3)
      | (go_at_call 12; (with_reducible refine Calls.mono (F _) ?_); rintro e v1 ⟨rfl, d1⟩; replace d0 := below_more d0 d1; obtain ⟨p00, p01, p02, -, -, -⟩ := (B0.more d0).cells3)
      | (go_at_call 41; (with_reducible refine Calls.mono (TR _ (below_more bV d0)) ?_); rintro e v2 ⟨a3, c3, rfl, o3⟩; replace d0 := below_more d0 o3.below; obtain ⟨p00, p01, p02, -, -, -⟩ := (B0.more d0).cells3)
      | (go_at_call 13; (with_reducible refine Calls.mono (ct0 _ (below_more bV d0)) ?_); rintro e w4 ⟨A4, C4, E4, D4, rfl, o4⟩; replace d0 := below_more d0 o4.1.below; have d4 := fun o => d0.alloc d0.size o; have q3 := fun o => (o3.more o4.1.below).alloc o; have f0 := fun o => ((B0.more d0).alloc o).cells3.1; have f1 := fun o => ((B0.more d0).alloc o).cells3.2.1; have f2 := fun o => ((B0.more d0).alloc o).cells3.2.2.1; have B4 := fun cs => BoxC.new w4 cs 24)
      | (go_at_call 31; (with_reducible refine Calls.mono (ct1 _ (below_more bV (d4 _)) _ _ _ (q3 _)) ?_); rintro e w5 ⟨A5, C5, E5, D5, rfl, o5⟩; have d5 := fun o => (below_more (d4 _) o5.1.below).alloc (below_more (d4 _) o5.1.below).size o; have h0 := fun o => ((B0.more (below_more (d4 _) o5.1.below)).alloc o).cells3.1; have h1 := fun o => ((B0.more (below_more (d4 _) o5.1.below)).alloc o).cells3.2.1; have h2 := fun o => ((B0.more (below_more (d4 _) o5.1.below)).alloc o).cells3.2.2.1; have r := fun o => (((B4 _).more o5.1.below).alloc o).cells3; have r0 := fun o => (r o).1; have r1 := fun o => (r o).2.1; have r2 := fun o => (r o).2.2.1; clear r; have B5 := BoxC.new w5 #[.bool gX, .slice A5 (nl NX) C5, .slice E5 (nl DX) D5] 24; have p5 := fun o => own2_alloc o5 o)
      | (go_at_call 17; (with_reducible refine Calls.mono (ref_reqt (own2_alloc (own2_more (own2_alloc o4 _) o5.1.below) _) (p5 _)) ?_); rintro e w6 ⟨rfl, b6⟩))
    have dC := d5 (.cells #[.bool gX, .slice A5 (nl NX) C5, .slice E5 (nl DX) D5] 24)
    have BA := B0.more dC
    have oY := p5 (.cells #[.bool gX, .slice A5 (nl NX) C5, .slice E5 (nl DX) D5] 24)
    generalize w5.heap.size = k5 at *
    generalize w5.alloc (.cells #[.bool gX, .slice A5 (nl NX) C5, .slice E5 (nl DX) D5] 24) = V at *
  all_goals
    try
      replace BA := BA.more b6
      replace B5 := B5.more b6
      replace oY := own2_more oY b6
      replace dC := below_more dC b6
      clear b6
    have HB := hid_of (below_more bV dC)
    have SO := fun (v : World) hb => (⟨(BA.more hb).cells3.1, (BA.more hb).cells3.2.1, (BA.more hb).cells3.2.2.1, (B5.more hb).cells3.1, (B5.more hb).cells3.2.1, (B5.more hb).cells3.2.2.1⟩ : v.cell? ⟨w.heap.size, 0, none⟩ = some (.bool s0) ∧ v.cell? ⟨w.heap.size, 1, none⟩ = some (.slice a0 len0 cap0) ∧ v.cell? ⟨w.heap.size, 2, none⟩ = some (.slice b0 m0 e0) ∧ v.cell? ⟨k5, 0, none⟩ = some (.bool gX) ∧ v.cell? ⟨k5, 1, none⟩ = some (.slice A5 (nl NX) C5) ∧ v.cell? ⟨k5, 2, none⟩ = some (.slice E5 (nl DX) D5))
    have bs := BA.start
    clear p00 p01 p02 f0 f1 f2 h0 h1 h2 r0 r1 r2 d0 d1 d4 d5 dC bV hs ct0 ct1 TR o3 o4 o5 q3 p5 B0 B4 B5 BA AW F
    go_region_held3 (fun v => v.cell? ⟨w.heap.size, 0, none⟩ = some (.bool s0) ∧ v.cell? ⟨w.heap.size, 1, none⟩ = some (.slice a0 len0 cap0) ∧ v.cell? ⟨w.heap.size, 2, none⟩ = some (.slice b0 m0 e0) ∧ v.cell? ⟨k5, 0, none⟩ = some (.bool gX) ∧ v.cell? ⟨k5, 1, none⟩ = some (.slice A5 (nl NX) C5) ∧ v.cell? ⟨k5, 2, none⟩ = some (.slice E5 (nl DX) D5))
      (exact SO _ bs)
      (first
      | (go_at_call 18; (with_reducible refine Calls.mono (ct2 _ (below_more HB.out bs)) ?_); rintro e w7 ⟨A7, C7, E7, D7, rfl, o7⟩; replace bs := below_more bs o7.1.below; have oZ := own2_more oY bs)
      | (go_at_call 17; (with_reducible refine Calls.mono (ref_reqt oZ o7) ?_); rintro e w8 ⟨rfl, b8⟩; replace bs := below_more bs b8))
    all_goals
      go_wp2
      go_ret
      exact ⟨rfl, below_more HB.out bs⟩
end Go.Proofs.YtpimcbncmfpdhaaGreatDoor
