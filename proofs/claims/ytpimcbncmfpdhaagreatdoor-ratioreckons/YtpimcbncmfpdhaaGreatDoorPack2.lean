/-
  Texts of mine put together in build order: TimesD, SplitE, TimesRef, SplitRef, TimesMore, SplitMore, WholeRef, WholeRefB, DeciMath, DeciRef, WholeRefC, WholeWalks, RatMath, CommonMath, CommonA, WordsDrop, NatSmall0, CommonB, RowW, CommonC, CommonD, RangeTold, CommonE, CommonF. Each says at its head what it proves. No conditions of its own.
-/
import Derived.Test.YtpimcbncmfpdhaaGreatDoorPack1
import Derived.Deep.RegionWith
import Derived.Deep.DrawnRows
import Derived.Deep.RegionLaw
import Derived.Deep.LoopGhost
import Derived.Deep.RegionHeld3
import Derived.Laws.IdiomStrings
import Derived.Laws.Bits64b
import Derived.RangeFuncNested
import Derived.RangeFuncBound
import Derived.RangeFuncCalls
import Derived.RangeFuncLeaves
import Derived.Shelf.Abstract
import Derived.Shelf.RegionOpen
import Derived.OwnWalkIn
import Derived.TacticsInMore
import Derived.LoopNIn
import Derived.LoopIn
import Derived.Sort.LoopGhostIn
import Derived.Test.YtpimcbncmfpdhaaGreatDoorRows
/-
  Contract of package times's function Shift, for every list of words and every number of bits: the list of the number times the power of two; memory that was there stays, and what is answered is the call's own.
-/
namespace Go.Proofs.YtpimcbncmfpdhaaGreatDoor
open Go.RowKit
attribute [local go_sem ↓] Go.wp_at_zero Go.wp_at_succ

theorem times_cut' (g M t n : Nat) (T : Int) (w : World) (hT : T = t) (h : t + n + 1 ≤ M) (hM : M ≤ 35184372088832) :
    Calls Tryz.prog 120 #[.slice (some ⟨g, 0, none⟩) M M, .int .i64 T, .int .i64 n] w fun e w' => e = .returned (.slice (some ⟨g, t, none⟩) (n + 1) (n + 1)) ∧ w = w' := by
  subst hT; exact times_cut g M t n w h hM

set_option maxHeartbeats 2000000 in
/-- N is the number of bits that counts. -/
theorem times_shift (a : Option Addr) (n c : Nat) (zs : List Int) (s : Int) (w : World) (h : IsWords w (.slice a n c) zs) (hz : Wd zs) (hn : n ≤ 1000000000000) (N : Int) (hN : s ≤ 0 ∧ N = 0 ∨ 0 ≤ s ∧ s ≤ 100000 ∧ N = s ∨ 100000 ≤ s ∧ N = 100000) :
    Calls Tryz.prog 138 #[.slice a n c, .int .i64 s] w (Ans w (val zs * 2 ^ N.toNat)) := by
  have R1 := times_right a n c zs w h hz
  have S1 := h.right hz
  have b1 := (h.low hz).2.2
  have hv := lt_nl (val zs)
  have wP := wd_natOf (val zs)
  have EV : Hid (val (natOf (val zs)) = val zs) := val_natOf (val zs)
  clear h hz
  generalize val zs = A at *
  generalize nl A = L at R1 S1 b1 hv
  generalize natOf A = ps at S1 wP EV
  have HV : Hid (A < 4294967296 ^ L) := hv
  clear hv
  obtain ⟨p, hp1, hp2⟩ : ∃ p : Nat, (p : Int) ≤ N / 32 ∧ N / 32 ≤ p := ⟨(N / 32).toNat, by omega, by omega⟩
  obtain ⟨r, hr1, hr2⟩ : ∃ r : Nat, (r : Int) ≤ N % 32 ∧ N % 32 ≤ r := ⟨(N % 32).toNat, by omega, by omega⟩
  obtain ⟨M, hM1, hM2⟩ : ∃ M : Nat, M ≤ p + L + 1 ∧ p + L + 1 ≤ M := ⟨_, Nat.le_refl _, Nat.le_refl _⟩
  have r32 : r < 32 := by omega
  have X1 : 2 ^ r < 4294967296 := Nat.pow_lt_pow_right (n := 32) (a := 2) (by omega) r32
  have HE : Hid (A * 2 ^ r * 4294967296 ^ p = A * 2 ^ N.toNat) := by
    show _ = _
    rw [pow_word, Nat.mul_assoc, ← Nat.pow_add]
    congr 2; omega
  have HF : Hid (A * 2 ^ r * 4294967296 ^ p < 4294967296 ^ (p + L + 1)) := by
    have h1 := one_fits (n := L) HV.out X1 (c := 0) (by omega)
    rw [Nat.zero_add] at h1
    rw [show p + L + 1 = (L + 1) + p by omega, Nat.pow_add _ (L + 1) p]
    exact Nat.mul_lt_mul_of_pos_right h1 (Nat.pow_pos (by omega))
  have CT := fun (T : Int) (hT : T = p) g v => times_cut' g M p L T v hT (by omega) (by omega)
  have K := fun g v (X : Int) (hX : X = (2 ^ r : Nat)) (o : Own w v (.slice (some ⟨g, 0, none⟩) M M) M (List.replicate M 0)) => times_line w g M p L c _ a ps X v o (wd_zeros M) S1 wP (by rw [hX]; exact Int.natCast_nonneg _) (by rw [hX]; exact Int.ofNat_lt.2 X1) (by omega) (by omega) (by rw [val_zeros, EV.out, hX, Int.toNat_natCast, Nat.zero_add]; exact HF.out)
  have RR := fun g v (rs : List Int) (o : Own w v (.slice (some ⟨g, 0, none⟩) M M) M rs) (hr : Wd rs) => times_right _ _ _ rs v o.words hr
  rcases (by omega : s < 0 ∧ N = 0 ∨ 0 ≤ s ∧ s ≤ 100000 ∧ N = s ∨ 100000 < s ∧ N = 100000) with ⟨hs, hN⟩ | ⟨hs0, hs1, hN⟩ | ⟨hs, hN⟩
  case' inl => have XW : Hid (IntKind.u32.wrap 1 = (2 ^ r : Nat)) := by show _ = _; rw [show r = 0 by omega]; rfl
  case' inr.inl =>
    have ht : s.tmod 32 = r := by rw [Int.tmod_eq_emod_of_nonneg hs0]; omega
    have XW : Hid (IntKind.u32.wrap (2 ^ r) = (2 ^ r : Nat)) := by
      show _ = _
      have e : ((2 ^ r : Nat) : Int) = 2 ^ r := by simp
      rw [← e, IntKind.wrap_u32]
      generalize 2 ^ r = x at X1 ⊢
      omega
  case' inr.inr => have XW : Hid (IntKind.u32.wrap 1 = (2 ^ r : Nat)) := by show _ = _; rw [show r = 0 by omega]; rfl
  all_goals
    have hN1 : s < 0 ∧ N ≤ 0 ∨ 0 ≤ s ∧ s ≤ 100000 ∧ N ≤ s ∧ s ≤ N ∨ 100000 < s ∧ 100000 ≤ N := by omega
    clear hN
    go_enter Tryz.func138, Tryz.ntmps138
    go_wp2_with (first
      | (go_at_call 118; with_reducible refine Calls.mono R1 ?_; rintro e w1 ⟨rfl, rfl⟩)
      | (at_make; refine wpl_make_words (.tmp 18) rfl rfl w w M _ rfl (by omega) (by omega) (Below.refl _ _) ?_; intro g w1 hg o1))
    go_region_with (first
      | (go_at_call 120; (with_reducible refine Calls.mono (CT _ (by omega) _ _) ?_); rintro e w3 ⟨rfl, rfl⟩)
      | (go_at_call 119; (with_reducible refine Calls.mono (K _ _ _ XW.out o1.drew) ?_); rintro e w4 ⟨rfl, rs, o4, h4, E4⟩; have E5 : Hid (val rs = A * 2 ^ N.toNat) := (by show _ = _; rw [E4, val_zeros, EV.out, XW.out, Int.toNat_natCast, Nat.zero_add]; exact HE.out); clear E4))
    all_goals
      go_wp2_with (first
        | (go_at_call 118; (with_reducible refine Calls.mono (RR _ _ _ o4 h4) ?_); rintro e w5 ⟨rfl, rfl⟩))
      go_ret
      have o6 := o4.right h4
      rw [E5.out] at o6 ⊢
      exact ⟨_, _, rfl, o6⟩
end Go.Proofs.YtpimcbncmfpdhaaGreatDoor
/-
  Contract of package split's function Div, for every two lists of words: what goes in and what is left, as numbers, or that it can't be told. Memory that was there stays, and what is answered is the call's own.
-/
namespace Go.Proofs.YtpimcbncmfpdhaaGreatDoor
open Go.RowKit

/-- What Div answers: two slices of the call's own, the lists of Q and R. -/
def AnsDiv (W : World) (Q R : Nat) (e : Ending) (w' : World) : Prop := ∃ a1 c1 a2 c2, e = .returned (.tuple #[.slice a1 (nl Q) c1, .slice a2 (nl R) c2, .bool true]) ∧ Own W w' (.slice a1 (nl Q) c1) (nl Q) (natOf Q) ∧ Own W w' (.slice a2 (nl R) c2) (nl R) (natOf R)

theorem pow_le_nl {D n : Nat} (h : nl D = n + 1) : 4294967296 ^ n ≤ D := by
  rcases Nat.lt_or_ge D (4294967296 ^ n) with h1 | h1
  · have := nl_le n D h1; omega
  · exact h1

theorem nl_eq_zero {n : Nat} (h : nl n = 0) : n = 0 := by
  have := lt_nl n
  rw [h] at this
  simpa using this

/-- A quotient's words. -/
theorem quot_lt {A D L n : Nat} (hA : A < 4294967296 ^ L) (hD : nl D = n + 1) (k : Nat) (hk : L ≤ k + n) : A / D < 4294967296 ^ k := by
  have h1 := pow_le_nl hD
  rw [Nat.div_lt_iff_lt_mul (by have : 0 < 4294967296 ^ n := Nat.pow_pos (by omega); omega)]
  have h2 : 4294967296 ^ k * 4294967296 ^ n ≤ 4294967296 ^ k * D := Nat.mul_le_mul_left _ h1
  rw [← Nat.pow_add] at h2
  have h3 : 4294967296 ^ L ≤ 4294967296 ^ (k + n) := Nat.pow_le_pow_right (by omega) hk
  omega

/-- The bits that bring a number's highest one into its word's highest place. -/
theorem up_fits {D n : Nat} (hD : nl D = n + 1) : ∃ u v : Nat, 1 ≤ v ∧ v ≤ 32 ∧ u + v = 32 ∧ nbits ((natOf D).getD n 0).toNat = v ∧ nl (D * 2 ^ u) = n + 1 := by
  have h0 := getD_top D n hD
  obtain ⟨z0, z1⟩ := wd_getD (wd_natOf D) n
  have h1 : nbits ((natOf D).getD n 0).toNat ≤ 32 := nbits_le 32 _ (by omega)
  have h2 : 1 ≤ nbits ((natOf D).getD n 0).toNat := by rw [nbits_pos (by omega)]; omega
  have h3 := nbits_top (natOf D) (wd_natOf D) n (by have := right_nat D; rw [show (natOf D).length = nl D from rfl, this, hD])
  rw [val_natOf] at h3
  refine ⟨32 - nbits ((natOf D).getD n 0).toNat, nbits ((natOf D).getD n 0).toNat, h2, h1, by omega, rfl, ?_⟩
  generalize nbits ((natOf D).getD n 0).toNat = v at *
  have h4 : nl D ≤ nl (D * 2 ^ (32 - v)) := nl_mono (Nat.le_mul_of_pos_right _ (Nat.pow_pos (by omega)))
  have h5 : nl (D * 2 ^ (32 - v)) ≤ n + 1 := by
    refine nl_le _ _ ?_
    have h6 := lt_nbits D
    rw [h3] at h6
    have h7 : D * 2 ^ (32 - v) < 2 ^ (32 * n + v) * 2 ^ (32 - v) := Nat.mul_lt_mul_of_pos_right h6 (Nat.pow_pos (by omega))
    rw [← Nat.pow_add] at h7
    rw [pow_word, show 32 * (n + 1) = 32 * n + v + (32 - v) by omega]
    exact h7
  omega

/-- Two slices of which one was made behind the other. -/
theorem own_apart {V w w' : World} {g n c : Nat} {xs : List Int} {a : Option Addr} {m d : Nat} {ys : List Int} (h : Own V w (.slice (some ⟨g, 0, none⟩) n c) n xs) (k : Own w w' (.slice a m d) m ys) (hn : 0 < n) (hm : 0 < m) : Apart g a := by
  obtain ⟨g', rfl⟩ := k.at0 hm
  have h1 := (h.cell 0 hn).2.2.2
  have h2 := (k.cell 0 hm).2.2.1
  intro x hx
  simp only [Option.some.injEq] at hx
  rw [← hx]
  show g' ≠ g
  omega

theorem div_up (A D k : Nat) (hk : 0 < k) : A * k = A / D * (D * k) + A % D * k ∧ (0 < D → A % D * k < D * k) ∧ A % D * k / k = A % D := by
  refine ⟨?_, fun hD => Nat.mul_lt_mul_of_pos_right (Nat.mod_lt _ hD) hk, Nat.mul_div_cancel _ hk⟩
  rw [← Nat.mul_assoc, ← Nat.add_mul, Nat.mul_comm (A / D), Nat.div_add_mod]

theorem split_div_no (a : Option Addr) (n c : Nat) (zs : List Int) (b : Option Addr) (m d : Nat) (ys : List Int) (w : World) (h : IsWords w (.slice a n c) zs) (hz : Wd zs) (g : IsWords w (.slice b m d) ys) (gz : Wd ys) (h0 : val ys = 0) :
    Calls Tryz.prog 113 #[.slice a n c, .slice b m d] w fun e w' => e = .returned (.tuple #[.slice none 0 0, .slice none 0 0, .bool false]) ∧ w = w' := by
  have R1 := split_right a n c zs w h hz
  have R2 := split_right b m d ys w g gz
  rw [h0, nl_zero] at R2
  clear h0 h g hz gz
  go_enter Tryz.func113, Tryz.ntmps113
  go_wp2_with (first
    | (go_at_call 137; with_reducible refine Calls.mono R1 ?_; rintro e w1 ⟨rfl, rfl⟩)
    | (go_at_call 137; with_reducible refine Calls.mono R2 ?_; rintro e w1 ⟨rfl, rfl⟩))
  go_ret3
  exact ⟨rfl, rfl⟩

theorem split_div_less (a : Option Addr) (n c : Nat) (zs : List Int) (b : Option Addr) (m d : Nat) (ys : List Int) (w : World) (h : IsWords w (.slice a n c) zs) (hz : Wd zs) (g : IsWords w (.slice b m d) ys) (gz : Wd ys) (hn : n ≤ 1000000000000) (hlt : val zs < val ys) :
    Calls Tryz.prog 113 #[.slice a n c, .slice b m d] w (AnsDiv w 0 (val zs)) := by
  have R1 := split_right a n c zs w h hz
  have R2 := split_right b m d ys w g gz
  have S1 := h.right hz
  have b1 := (h.low hz).2.2
  have C := nat_cmp' S1 (wd_natOf _) (g.right gz) (wd_natOf _) (-1) (by rw [val_natOf, val_natOf]; exact sgn_lt (by omega))
  have T := fun v (q : IsWords v (.slice a (nl (val zs)) c) (natOf (val zs))) => nat_trim _ _ _ _ v q (wd_natOf _) (by omega)
  rw [val_natOf] at T
  have hp : nl (val ys) ≠ 0 := fun e => by have := nl_eq_zero e; omega
  clear h g hz gz hlt
  generalize nl (val zs) = L at *
  generalize nl (val ys) = N at *
  go_enter Tryz.func113, Tryz.ntmps113
  go_wp2_with (first
    | (go_at_call 137; with_reducible refine Calls.mono R1 ?_; rintro e w1 ⟨rfl, rfl⟩)
    | (go_at_call 137; with_reducible refine Calls.mono R2 ?_; rintro e w1 ⟨rfl, rfl⟩)
    | (go_at_call 76; (with_reducible refine Calls.mono C ?_); rintro e w1 ⟨rfl, b3⟩; have S3 := S1.below b3)
    | (go_at_call 128; (with_reducible refine Calls.mono (T _ S3) ?_); rintro e w2 ⟨a2, c2, rfl, o2⟩))
  go_ret3
  refine ⟨none, 0, a2, c2, by rw [nl_zero]; rfl, ?_, o2.outer b3⟩
  rw [nl_zero, natOf_zero]
  exact Own.nil (o2.outer b3).below

set_option maxHeartbeats 4000000 in
theorem split_div_more (a : Option Addr) (n c : Nat) (zs : List Int) (b : Option Addr) (m d : Nat) (ys : List Int) (w : World) (h : IsWords w (.slice a n c) zs) (hz : Wd zs) (g : IsWords w (.slice b m d) ys) (gz : Wd ys) (hn : n ≤ 1000000000000) (hle : val ys ≤ val zs) (hpos : 0 < val ys) :
    Calls Tryz.prog 113 #[.slice a n c, .slice b m d] w (AnsDiv w (val zs / val ys) (val zs % val ys)) := by
  have R1 := split_right a n c zs w h hz
  have R2 := split_right b m d ys w g gz
  have S1 := h.right hz
  have S2 := g.right gz
  have b1 := (h.low hz).2.2
  obtain ⟨cs, C, hcs⟩ : ∃ cs : Int, Calls Tryz.prog 76 #[.slice a (nl (val zs)) c, .slice b (nl (val ys)) d] w (fun e w' => e = .returned (.int .i64 cs) ∧ Below w.heap.size w w') ∧ 0 ≤ cs := by
    refine ⟨_, nat_cmp' S1 (wd_natOf _) S2 (wd_natOf _) _ rfl, ?_⟩
    rw [val_natOf, val_natOf]
    rcases Nat.lt_or_ge (val ys) (val zs) with h | h
    · rw [sgn_gt (by omega)]; omega
    · rw [sgn_eq (by omega)]; omega
  clear h g hz gz
  generalize val zs = A at *
  generalize val ys = D at *
  have hne : nl D ≠ 0 := fun e => by have := nl_eq_zero e; omega
  obtain ⟨k, hk⟩ : ∃ k, nl D = k + 1 := ⟨nl D - 1, by omega⟩
  obtain ⟨u, v, v1, v2, huv, hnb, hnl⟩ := up_fits hk
  have hmono := nl_mono hle
  have hAL := lt_nl A
  obtain ⟨L, hL⟩ : ∃ L, nl A = L := ⟨_, rfl⟩
  obtain ⟨N, hN⟩ : ∃ N, nl D = N := ⟨_, rfl⟩
  obtain ⟨M, hM⟩ : ∃ M, M = L + 1 := ⟨_, rfl⟩
  obtain ⟨P, hP⟩ : ∃ P : Nat, P = 2 ^ u := ⟨_, rfl⟩
  have hPpos : 0 < P := by rw [hP]; exact Nat.pow_pos (by omega)
  have hP32 : P < 4294967296 := by rw [hP]; exact Nat.pow_lt_pow_right (n := 32) (a := 2) (by omega) (by omega)
  obtain ⟨U1, U2, U3⟩ := div_up A D P hPpos
  have U2 := U2 hpos
  have hQ : A / D < 4294967296 ^ (M - N) := quot_lt (L := L) (by rw [← hL]; exact hAL) hk _ (by omega)
  have hAP : nl (A * P) ≤ M := by
    refine nl_le _ _ ?_
    rw [hM, Nat.pow_succ]
    rw [hL] at hAL
    exact Nat.lt_of_lt_of_le (Nat.mul_lt_mul_of_pos_right hAL hPpos) (Nat.mul_le_mul_left _ (by omega))
  have T1 := fun w' (q : IsWords w' (.slice a L c) (natOf A)) => times_shift a L c (natOf A) u w' q (wd_natOf _) (by omega) u (by omega)
  have T2 := fun w' (q : IsWords w' (.slice b N d) (natOf D)) => times_shift b N d (natOf D) u w' q (wd_natOf _) (by omega) u (by omega)
  rw [val_natOf, Int.toNat_natCast, ← hP] at T1 T2
  rw [← hP] at hnl
  have T3 : ∀ w', IsWords w' (.slice b N d) (natOf D) → Calls Tryz.prog 138 #[.slice b N d, .int .i64 u] w' fun e w2 => ∃ a' c', e = .returned (.slice a' N c') ∧ Own w' w2 (.slice a' N c') N (natOf (D * P)) := fun w' q => by
    have := T2 w' q
    unfold Ans at this
    rw [hnl, ← hk, hN] at this
    exact this
  have WZ : Wd (natOf (A * P) ++ (List.replicate M 0).drop (nl (A * P))) := wd_append (wd_natOf _) (wd_drop (wd_zeros _) _)
  have VZ : Hid (val (natOf (A * P) ++ (List.replicate M 0).drop (nl (A * P))) = A * P) := by
    show _ = _
    rw [List.drop_replicate, val_append_zeros, val_natOf]
  have DG := fun g' w' ss a' c' (o : Own w w' (.slice (some ⟨g', 0, none⟩) M M) M ss) (wS : Wd ss) (q : IsWords w' (.slice a' N c') (natOf (D * P))) (ha : Apart g' a') (hv : val ss = A * P) =>
    split_digits w g' M k N (M - N) c' ss a' (natOf (D * P)) (A / D) (A % D * P) w' o wS q (wd_natOf _) ha (by omega) (getD_top _ _ hnl) (by omega) (by omega) (by omega) (by rw [hv, val_natOf]; exact U1) (by rw [val_natOf]; exact U2) hQ
  have SM := fun g' w' ss (q : IsWords w' (.slice (some ⟨g', 0, none⟩) M M) ss) (wS : Wd ss) (hv : val ss = A % D * P) (X : Int) (hX : X = P) => split_small _ _ _ ss X w' q wS (by omega) (by omega) (by omega)
  have SV : ∀ (X : Int) (S : Nat), X = P → S = A % D * P → S / X.toNat = A % D := fun X S hX hS => by rw [hX, hS, Int.toNat_natCast]; exact U3
  obtain ⟨z0, z1⟩ := wd_getD (wd_natOf D) k
  rcases S2.reads.1.2 with h0 | ⟨bb, off, rfl, hcz⟩
  · omega
  have hck := hcz k (by omega)
  have BT := fun w' => limb_bits _ w' z0 z1
  rw [nbits_bitLen _ (by omega), hnb] at BT
  generalize (natOf D).getD k 0 = top at hck BT z0 z1
  rw [hL] at R1 S1 C b1 hmono
  rw [hN] at R2 S2 C hk hmono hne
  have HSV : Hid (∀ (X : Int) (S : Nat), X = P → S = A % D * P → S / X.toNat = A % D) := SV
  have eN : (N : Int) - 1 = k := by omega
  have eU : (32 : Int) - v = u := by omega
  have HM : Hid (M = L + 1) := hM
  have XW : Hid ((2 : Int) ^ u % 4294967296 = (P : Int)) := by
    show _ = _
    have e : ((2 ^ u : Nat) : Int) = 2 ^ u := by simp
    rw [← e, ← hP]
    omega
  have HAP : Hid (nl (A * P) ≤ M) := hAP
  have k1 : k < N := by omega
  have u1 : u < 32 := by omega
  have m1 : M ≤ L + 1 := by omega
  have m2 : L + 1 ≤ M := by omega
  have m3 : N ≤ L := by omega
  have nz : 0 < N := by omega
  clear SV U1 U2 U3 hQ hAP hM hP hk hL hN hnl hnb hcz hAL hle hpos hmono huv v1 v2 hPpos hP32
  go_enter Tryz.func113, Tryz.ntmps113
  go_wp2_with (first
    | (go_at_call 137; with_reducible refine Calls.mono R1 ?_; rintro e w1 ⟨rfl, rfl⟩)
    | (go_at_call 137; with_reducible refine Calls.mono R2 ?_; rintro e w1 ⟨rfl, rfl⟩)
    | (go_at_call 76; (with_reducible refine Calls.mono C ?_); rintro e w1 ⟨rfl, b3⟩; have S3 := S1.below b3; have S4 := S2.below b3; have hck1 : w1.cell? ⟨bb, off + k, none⟩ = some (.int .u32 top) := (b3.cell (p := ⟨bb, off + k, none⟩) (World.block_lt_of_cell? w _ hck)).trans hck)
    | (go_at_call 81; (with_reducible refine Calls.mono (BT _) ?_); rintro e w2 ⟨rfl, rfl⟩)
    | (at_make; refine wpl_make_words (.tmp 32) rfl rfl w w1 M _ rfl (by omega) (by omega) b3 ?_; intro g' w2 hg o2)
    | (go_at_call 138; (with_reducible refine Calls.mono (T1 _ (S1.below o2.below)) ?_); rintro e w3 ⟨a3, c3, rfl, o3⟩; have p3 := o2.more o3.below)
    | (with_reducible show wpList _ _ _ (Oper.mk _ (Op.call { callee := Callee.builtin Builtin.copy, args := _, argTypes := _ }) _ _ _ _ :: _) _ _; refine wpl_copy_words (.tmp 34) (.tmp 37) rfl rfl w w3 g' M M (nl (A * P)) _ (List.replicate M 0) (natOf (A * P)) p3 o3.words rfl rfl rfl HAP.out ?_; intro w4 o4)
    | (go_at_call 138; (with_reducible refine Calls.mono (T3 _ (S2.below o4.below)) ?_); rintro e w5 ⟨a5, c5, rfl, o5⟩; have p5 := o4.more o5.below; have ap5 := own_apart o4 o5 (by omega) (by omega))
    | (go_at_call 139; (with_reducible refine Calls.mono (DG _ _ _ _ _ p5 WZ o5.words ap5 VZ.out) ?_); rintro e w6 ⟨a6, c6, ss6, rfl, oQ6, oR6, wS6, E6⟩; have HE6 : Hid (val ss6 = A % D * P) := E6; clear E6)
    | (go_at_call 132; (with_reducible refine Calls.mono (SM _ _ _ oR6.words wS6 HE6.out _ XW.out) ?_); rintro e w7 ⟨a7, c7, rfl, o7⟩))
  go_ret3
  have e8 := HSV.out _ _ XW.out HE6.out
  rw [e8] at o7 ⊢
  exact ⟨_, _, _, _, rfl, oQ6.more o7.below, o7.outer oQ6.below⟩

/-- Div, with the numbers named. -/
theorem split_div {a : Option Addr} {n c : Nat} {zs : List Int} {b : Option Addr} {m d : Nat} {ys : List Int} {w : World} (h : IsWords w (.slice a n c) zs) (hz : Wd zs) (g : IsWords w (.slice b m d) ys) (gz : Wd ys) (hn : n ≤ 1000000000000) (A D : Nat) (hA : val zs = A) (hD : val ys = D) (hpos : 0 < D) :
    Calls Tryz.prog 113 #[.slice a n c, .slice b m d] w (AnsDiv w (A / D) (A % D)) := by
  subst hA hD
  rcases Nat.lt_or_ge (val zs) (val ys) with hlt | hge
  · rw [Nat.div_eq_of_lt hlt, Nat.mod_eq_of_lt hlt]
    exact split_div_less a n c zs b m d ys w h hz g gz hn hlt
  · exact split_div_more a n c zs b m d ys w h hz g gz hn hge hpos
end Go.Proofs.YtpimcbncmfpdhaaGreatDoor
/-
  Contracts of the document's own answers for products (package talwegref03: One, Mul), for all lists of words: as numbers; memory that was there stays, and what is answered is the call's own.
-/
namespace Go.Proofs.YtpimcbncmfpdhaaGreatDoor
open Go.RowKit

theorem nl_mul (a b : Nat) : nl (a * b) ≤ nl a + nl b := by
  refine nl_le _ _ ?_
  rw [Nat.pow_add]
  exact Nat.mul_lt_mul_of_lt_of_le (lt_nl a) (Nat.le_of_lt (lt_nl b)) (Nat.pow_pos (by omega))

/-- One word's step of the document's product by a word. -/
theorem ref_one_step {p S V A x z y c c' : Nat} (hi : S + c * p = A * x + V) (hy : y + 4294967296 * c' = z * x + c) : (S + y * p) + c' * (p * 4294967296) = (A + z * p) * x + V := by
  have e : (y + 4294967296 * c') * p = (z * x + c) * p := by rw [hy]
  rw [Nat.add_mul, Nat.add_mul] at e
  have e2 : c' * (p * 4294967296) = 4294967296 * c' * p := by rw [Nat.mul_comm p, ← Nat.mul_assoc, Nat.mul_comm c']
  have e3 : (A + z * p) * x = A * x + z * x * p := by rw [Nat.add_mul, Nat.mul_right_comm]
  rw [e2, e3]; omega

set_option maxHeartbeats 2000000 in
theorem ref_one (a : Option Addr) (n c : Nat) (zs : List Int) (x y : Int) (w : World) (h : IsWords w (.slice a n c) zs) (hz : Wd zs) (hn : n ≤ 1000000000) (x0 : 0 ≤ x) (x1 : x < 4294967296) (y0 : 0 ≤ y) (y1 : y < 4294967296) :
    Calls Tryz.prog 97 #[.slice a n c, .int .u32 x, .int .u32 y] w (Ans w (val zs * x.toNat + y.toNat)) := by
  have l1 : Hid (zs.length = n) := h.len
  go_enter Tryz.func97, Tryz.ntmps97
  go_wp2
  go_loopw [7, 8, 9] (fun s cr i v => ∃ (k : Nat) (cy : Int) (oa : Option Addr) (oc : Nat) (ss : List Int), k ≤ n ∧ i = .int .i64 k ∧ cr = .int .u64 cy ∧ 0 ≤ cy ∧ cy < 4294967296 ∧ s = .slice oa k oc ∧ Own w v (.slice oa k oc) k ss ∧ Wd ss ∧ val ss + cy.toNat * 4294967296 ^ k = val (zs.take k) * x.toNat + y.toNat) (fun _ _ i _ => n - (intOf i).toNat)
  case atStart => exact ⟨0, y, none, 0, [], by omega, rfl, rfl, y0, y1, rfl, Own.nil (Below.refl _ _), wd_nil, by simp [val]⟩
  case round =>
    obtain ⟨k, cy, oa, oc, ss, hk, rfl, rfl, c0, c1, rfl, o, wS, hI⟩ := hrel
    have HI : Hid (val ss + cy.toNat * 4294967296 ^ k = val (zs.take k) * x.toNat + y.toNat) := hI
    clear hI
    have HL : Hid (ss.length = k) := o.length
    by_cases hlt : k < n
    · obtain ⟨z0, z1⟩ := wd_getD hz k
      rcases (h.below o.below).reads.1.2 with h0 | ⟨b, off, rfl, hcz⟩
      · omega
      have hck := hcz k hlt
      have T1 : Hid (val (zs.take (k + 1)) = val (zs.take k) + (zs.getD k 0).toNat * 4294967296 ^ k) := val_take_succ zs k
      generalize zs.getD k 0 = z at hck T1 z0 z1
      have m0 : 0 ≤ z * x := Int.mul_nonneg z0 x0
      have m1 : z * x ≤ 4294967295 * 4294967295 := Int.mul_le_mul (by omega) (by omega) x0 (by omega)
      have m2 : (z * x).toNat = z.toNat * x.toNat := Int.toNat_mul z0 x0
      have HN : Hid (val (ss ++ [(z * x + cy) % 4294967296]) + ((z * x + cy) / 4294967296).toNat * 4294967296 ^ (k + 1) = val (zs.take (k + 1)) * x.toNat + y.toNat) := by
        show _ = _
        rw [T1.out, val_snoc, HL.out, Nat.pow_succ]
        refine ref_one_step HI.out ?_
        rw [← m2]
        generalize z * x = p at m0 m1
        omega
      have HC : 0 ≤ (z * x + cy) / 4294967296 ∧ (z * x + cy) / 4294967296 < 4294967296 := by
        generalize z * x = p at m0 m1
        omega
      have WN : Wd (ss ++ [(z * x + cy) % 4294967296]) := wd_append wS (wd_one (by omega) (by omega))
      clear T1 HL HI h hz l1 wS hcz m2
      go_wp2_with (first
        | (at_builtin; refine wpl_append_words (.tmp 29) (.tmp 33) rfl rfl w _ _ _ k 1 ss [(z * x + cy) % 4294967296] rfl rfl (o.alloc _) (lit_words _ [(z * x + cy) % 4294967296] 1 rfl (by decide)) rfl (k + 1) rfl (by omega) ?_; intro a1 c1' w1 o1 g1))
      go_roundw
      case rel => exact ⟨k + 1, (z * x + cy) / 4294967296, a1, c1', _, by omega, by go_num, rfl, HC.1, HC.2, rfl, o1, WN, HN.out⟩
      case measure => simp [intOf]; omega
    · obtain rfl : k = n := by omega
      have HN : Hid (val (ss ++ [cy]) = val zs * x.toNat + y.toNat) := by
        show _ = _
        have h1 := HI.out
        have h2 := l1.out
        rw [List.take_of_length_le (by omega)] at h1
        rw [val_snoc, HL.out, h1]
      have WN : Wd (ss ++ [cy]) := wd_append wS (wd_one c0 c1)
      have R := fun v a1 c1 (p : IsWords v (.slice a1 (k + 1) c1) (ss ++ [cy])) => ref_trim a1 (k + 1) c1 (ss ++ [cy]) v p WN (by omega)
      rw [HN.out] at R
      clear HN HI HL h hz l1 wS
      go_wp2_with (first
        | (at_builtin; refine wpl_append_words (.tmp 37) (.tmp 40) rfl rfl w _ _ _ k 1 ss [cy] rfl rfl (o.alloc _) (lit_words _ [cy] 1 rfl (by decide)) rfl (k + 1) rfl (by omega) ?_; intro a1 c1' w1 o1 g1)
        | (go_at_call 41; (with_reducible refine Calls.mono (R _ _ _ o1.words) ?_); rintro e w2 ⟨a2, c2, rfl, o2⟩))
      go_ret
      exact ⟨_, _, rfl, o2.outer o1.below⟩

theorem nl_word {x : Nat} (h : x < 4294967296) : nl x ≤ 1 := nl_le 1 _ (by simpa using h)
theorem nl_take {ys : List Int} (h : Wd ys) (k : Nat) : nl (val (ys.take k)) ≤ k := nl_le _ _ (val_take_lt ys h k)

/-- make([]uint32, n), as it runs. -/
theorem run_make_words (W w : World) (n : Nat) (hle : n ≤ 35184372088832) (hb : Below W.heap.size W w) :
    ∃ g w', (Instr.makeSlice 22 (.int .i64 n) (.int .i64 n)).run Tryz.prog w = .ok (.slice (some ⟨g, 0, none⟩) n n) w' ∧ Own W w' (.slice (some ⟨g, 0, none⟩) n n) n (List.replicate n 0) ∧ Below w.heap.size w w' := by
  obtain ⟨i, hi, hz, hs1, hby⟩ := info_parts infoU32
  obtain ⟨w', hr, h1, h2⟩ := run_make_full (P := Tryz.prog) w W.heap.size 22 62 i (.int .u32 0) 1 Tryz.underlying22 hi hz hs1 .i64 .i64 n (by rw [hby]; omega) (by unfold maxLen; omega) hb.size
  refine ⟨_, w', hr, ⟨?_, hb.grown h2 hb.size (fun k e => by cases e)⟩, (Below.refl _ _).grown h2 (Nat.le_refl _) (fun k e => by cases e)⟩
  have e : (madeCells (Value.int .u32 0).cells (n * 1)).toList = (List.replicate n (0 : Int)).map (Value.int .u32) := by
    apply List.ext_getElem?
    intro j
    by_cases hj : j < n
    · simp [madeCells, Value.cells, hj, Nat.mod_one]
    · simp [madeCells, Value.cells, hj]
  rw [← e]; exact h1

/-- append(v, vx...), v the call's own: a step of a region that draws its order. -/
theorem stp_append_words {ops : Array Oper} {o : Oper} {a : Act} {K : Act → World → Prop} {Q : Exit → Act → World → Prop} {E : Prop} (s x : Operand)
    (ho : o.op = .call { callee := .builtin .append, args := #[s, x], argTypes := #[22, 22] }) (hgd : Region.wanted o (yielded ops a.tmps) = true)
    (W w : World) (v vx : Value) (n m : Nat) (xs ys : List Int) (hs : a.eval s = v) (hx : a.eval x = vx) (hown : Own W w v n xs) (hsrc : IsWords w vx ys) (hm : ys.length = m) (N : Nat) (hN : n + m = N) (hle : N ≤ 35184372088832)
    (h : ∀ a' c' w', Own W w' (.slice a' N c') N (xs ++ ys) → w.grownBy w' v.ownBlock → K (a.put o.dst (.slice a' N c')) w') : if Region.wanted o (yielded ops a.tmps) = true then Oper.wp Tryz.prog o a w K Q else E := by
  subst hN
  obtain ⟨i, hi, hz, hs1, hby⟩ := info_parts infoU32
  have hmax : n + m ≤ maxLen := by unfold maxLen; omega
  rw [if_pos hgd]
  rcases hsrc with ⟨rfl, rfl⟩ | ⟨ad, c, rfl, -, -, hc⟩
  · have hrun := run_append_owned_none (P := Tryz.prog) (w := w) W.heap.size 22 o.type 62 i 1 Tryz.underlying22 hi v n _ hown.1
    obtain ⟨a', c', rfl⟩ := hown.lit
    subst hm
    have hK' := h a' c' w (by simpa using hown) ⟨rfl, rfl, rfl, Nat.le_refl _, fun _ _ _ => rfl⟩
    unfold Oper.wp
    simp [execOp, ho, resolve, invoke, builtin, hs, hx, hrun, Result.andThen]
    have hK2 : K (a.put o.dst (.slice a' n c')) w := by simpa using hK'
    exact hK2
  · refine wp_append_own (P := Tryz.prog) w s x 22 ho W.heap.size 62 i (.int .u32 0) 1 4 Tryz.underlying22 hi hz hs1 hby rfl (by decide) v n _ hs hown.1 ad ys.length c (ys.map (Value.int .u32)) hx (by simp) ?_ (oneCells ys) (by omega) (by omega) hown.2.size ?_
    · intro j u hj
      rw [List.getElem?_map] at hj
      obtain ⟨y, hy, rfl⟩ := Option.map_eq_some_iff.1 hj
      have hlt : j < ys.length := (List.getElem?_eq_some_iff.1 hy).1
      rw [hc j hlt]
      simp [List.getD_eq_getElem?_getD, hy]
    · intro v' w' h1 h2 _
      subst hm
      have hnew : Own W w' v' (n + ys.length) (xs ++ ys) := ⟨by rw [List.map_append]; exact h1, below_grown hown h2⟩
      obtain ⟨a', c', rfl⟩ := hnew.lit
      exact h a' c' w' hnew h2

section
attribute [local go_sem ↓] Go.wp_at_zero Go.wp_at_succ
set_option maxHeartbeats 4000000 in
theorem ref_tmul (a : Option Addr) (n c : Nat) (zs : List Int) (b : Option Addr) (m d : Nat) (ys : List Int) (w : World) (h : IsWords w (.slice a n c) zs) (hz : Wd zs) (g : IsWords w (.slice b m d) ys) (gz : Wd ys)
    (hn : n ≤ 100000000) (hm : m ≤ 100000000) :
    Calls Tryz.prog 66 #[.slice a n c, .slice b m d] w (Ans w (val zs * val ys)) := by
  have l2 : Hid (ys.length = m) := g.len
  have b1 := nl_val_le zs hz
  have hl := h.len
  rw [hl] at b1
  clear hl
  go_enter Tryz.func66, Tryz.ntmps66
  go_wp2
  go_loopw [5, 6] (fun s i v => ∃ (k : Nat) (oa : Option Addr) (ol oc : Nat) (P : List Int), k ≤ m ∧ i = .int .i64 k ∧ s = .slice oa ol oc ∧ Own w v (.slice oa ol oc) ol P ∧ ol = nl (val zs * val (ys.take k)) ∧ P = natOf (val zs * val (ys.take k))) (fun _ i _ => m - (intOf i).toNat)
  case atStart => exact ⟨0, none, 0, 0, [], by omega, rfl, rfl, Own.nil (Below.refl _ _), by simp [val, nl_zero], by simp [val, natOf_zero]⟩
  case round =>
    obtain ⟨k, oa, ol, oc, P, hk, rfl, rfl, o, hol, rfl⟩ := hrel
    by_cases hlt : k < m
    · obtain ⟨y0, y1⟩ := wd_getD gz k
      rcases (g.below o.below).reads.1.2 with h0 | ⟨b2, off, rfl, hcy⟩
      · omega
      have hck := hcy k hlt
      have hol2 : ol ≤ 200000000 := by
        have h1 := nl_mul (val zs) (val (ys.take k))
        have h2 := nl_take gz k
        omega
      have T1 : Hid (val (ys.take (k + 1)) = val (ys.take k) + (ys.getD k 0).toNat * 4294967296 ^ k) := val_take_succ ys k
      have p0 := h.below o.drew.below
      generalize ys.getD k 0 = y at hck T1 y0 y1
      have HC : wr.drew.cell? ⟨b2, off + k, none⟩ = some (.int .u32 y) := hck
      have O1 := fun v (p : IsWords v (.slice a n c) zs) => ref_one a n c zs y 0 v p hz (by omega) y0 y1 (by omega) (by omega)
      have ho1 : nl (val zs * y.toNat + (0 : Int).toNat) ≤ n + 1 := by
        have h1 := nl_mul (val zs) y.toNat
        have h2 := nl_word (x := y.toNat) (by omega)
        simp only [Int.toNat_zero, Nat.add_zero]
        omega
      have WL : Wd (List.replicate k 0 ++ natOf (val zs * y.toNat + (0 : Int).toNat)) := wd_append (wd_zeros k) (wd_natOf _)
      have HE : Hid (val zs * val (ys.take k) + val (List.replicate k 0 ++ natOf (val zs * y.toNat + (0 : Int).toNat)) = val zs * val (ys.take (k + 1))) := by
        show _ = _
        rw [T1.out, val_append, val_zeros, List.length_replicate, val_natOf, Nat.zero_add, Int.toNat_zero, Nat.add_zero, Nat.mul_add, Nat.mul_comm (4294967296 ^ k), Nat.mul_assoc]
      have A2 := fun v a3 L3 c3 (q : IsWords v (.slice oa ol oc) (natOf (val zs * val (ys.take k)))) (p : IsWords v (.slice a3 L3 c3) (List.replicate k 0 ++ natOf (val zs * y.toNat + (0 : Int).toNat))) (h3 : L3 ≤ 1000000000) => ref_nadd _ _ _ _ _ _ _ _ v q (wd_natOf _) p WL (by omega) h3
      rw [val_natOf, HE.out] at A2
      have HL : Hid ((natOf (val zs * y.toNat + (0 : Int).toNat)).length = nl (val zs * y.toNat + (0 : Int).toNat)) := rfl
      generalize val zs * y.toNat + (0 : Int).toNat = Y at O1 ho1 A2 HL
      have HO : Hid (ol = nl (val zs * val (ys.take k))) := hol
      clear hcy hck T1 WL HE hol gz
      go_wp2
      obtain ⟨g1, w1, mk1, o1, bk1⟩ := run_make_words wr.drew wr.drew k (by omega) (Below.refl _ _)
      have HC1 : w1.cell? ⟨b2, off + k, none⟩ = some (.int .u32 y) := by
        rw [bk1.cell (p := ⟨b2, off + k, none⟩) (World.block_lt_of_cell? wr.drew _ HC)]; exact HC
      have p1 := p0.below bk1
      have od := o.drew
      have HH : Hid (IsWords w (.slice a n c) zs) := h
      clear h
      go_region_law (first
        | (go_simp; go_at_call 97; (with_reducible refine Calls.mono (O1 _ p1) ?_); rintro e w2 ⟨a2, c2, rfl, o2⟩; have q2 := o1.more o2.below; have s2 := o2.words)
        | (go_simp; go_at_call 97; (with_reducible refine Calls.mono (O1 _ p0) ?_); rintro e w0 ⟨a2, c2, rfl, o2⟩; obtain ⟨g2, w2, mk2, q2, bk2⟩ := run_make_words wr.drew w0 k (by omega) o2.below; have s2 := (o2.more bk2).words)
        | (refine stp_append_words (.tmp 15) (.tmp 21) rfl rfl wr.drew w2 _ _ k (nl Y) _ _ rfl rfl q2 s2 HL.out (k + nl Y) rfl (by omega) ?_; intro a3 c3 w3 o3 g3))
      all_goals
        have t3 := od.more o3.below
        have A3 := A2 _ _ _ _ t3.words o3.words (by omega)
        clear A2 O1 HC HC1 p1 p0 s2 q2 o1 mk1
        go_wp2_with (first
          | (go_at_call 95; (with_reducible refine Calls.mono A3 ?_); rintro e w4 ⟨a4, c4, rfl, o4⟩))
        go_roundw
        case rel => exact ⟨k + 1, a4, _, c4, _, by omega, by go_num, rfl, o4.outer t3.below, rfl, rfl⟩
        case measure => simp [intOf]; omega
    · have HE : ys.take k = ys := List.take_of_length_le (by rw [l2.out]; omega)
      rw [HE] at hol o
      subst hol
      clear h g hz gz HE
      go_wp2
      go_ret
      exact ⟨_, _, rfl, o⟩
end
end Go.Proofs.YtpimcbncmfpdhaaGreatDoor
/-
  Contracts of the document's own answers of layer 4 (package talwegref04: bit, Div, Small), for every two lists of words: bit by bit, as numbers. Memory that was there stays, and what is answered is the call's own.
-/
namespace Go.Proofs.YtpimcbncmfpdhaaGreatDoor
open Go.RowKit

theorem and_one_w (x : Nat) (h : x < 4294967296) : bits BinOp.and IntKind.u32 (x : Int) 1 = ((x % 2 : Nat) : Int) := by
  have h1 : (BitVec.ofInt 32 (x : Int)).toNat = x := by
    rw [BitVec.ofInt_natCast, BitVec.toNat_ofNat]; exact Nat.mod_eq_of_lt h
  have h2 : (BitVec.ofInt 32 (1 : Int)).toNat = 1 := by decide
  show IntKind.u32.wrap ((BitVec.ofInt 32 (x : Int) &&& BitVec.ofInt 32 (1 : Int)).toNat : Int) = _
  rw [BitVec.toNat_and, h1, h2, IntKind.wrap_u32, Nat.and_one_is_mod]
  omega

/-- A number's bit is its word's. -/
theorem bit_val (zs : List Int) (hz : Wd zs) (j r : Nat) (hr : r < 32) : val zs / 2 ^ (32 * j + r) % 2 = (zs.getD j 0).toNat / 2 ^ r % 2 := by
  have h1 := val_split zs j
  have h2 := val_take_lt zs hz j
  have h3 := val_drop zs j
  have e1 : val zs / 4294967296 ^ j = val (zs.drop j) := by
    rw [h1, Nat.add_comm, Nat.mul_add_div (Nat.pow_pos (by omega)), Nat.div_eq_of_lt h2, Nat.add_zero]
  have e2 : 4294967296 = 2 ^ r * 2 ^ (32 - r) := by rw [← Nat.pow_add, show r + (32 - r) = 32 by omega]
  have e3 : 2 ^ (32 - r) = 2 * 2 ^ (31 - r) := by rw [show 32 - r = (31 - r) + 1 by omega, Nat.pow_succ, Nat.mul_comm]
  rw [Nat.pow_add, ← pow_word, ← Nat.div_div_eq_div_mul, e1, h3]
  generalize (zs.getD j 0).toNat = z
  generalize val (zs.drop (j + 1)) = t
  rw [e2, e3, Nat.add_comm, Nat.mul_assoc, Nat.mul_add_div (Nat.pow_pos (by omega)), Nat.mul_assoc]
  omega

theorem ref_bit (a : Option Addr) (n c : Nat) (zs : List Int) (w : World) (h : IsWords w (.slice a n c) zs) (hz : Wd zs) (hn : n ≤ 1000000000) (i : Nat) (hi : i < 32 * n) (B : Int) (hB : B = ((val zs / 2 ^ i % 2 : Nat) : Int)) :
    Calls Tryz.prog 142 #[.slice a n c, .int .i64 i] w fun e w' => e = .returned (.int .u32 B) ∧ w = w' := by
  obtain ⟨j, hj⟩ : ∃ j, i / 32 = j := ⟨_, rfl⟩
  obtain ⟨r, hr⟩ : ∃ r, i % 32 = r := ⟨_, rfl⟩
  have q1 : (i : Int).tdiv 32 = j := by rw [Int.tdiv_eq_ediv_of_nonneg (by omega)]; omega
  have q2 : (i : Int) / 32 = j := by omega
  have r1 : (i : Int).tmod 32 = r := by rw [Int.tmod_eq_emod_of_nonneg (by omega)]; omega
  have r2 : (i : Int) % 32 = r := by omega
  have j1 : j < n := by omega
  have r3 : r < 32 := by omega
  obtain ⟨z0, z1⟩ := wd_getD hz j
  have BV := bit_val zs hz j r r3
  rw [show 32 * j + r = i by omega] at BV
  rw [BV] at hB
  rcases h.reads.1.2 with h0 | ⟨b, off, rfl, hcz⟩
  · omega
  have hck := hcz j j1
  generalize zs.getD j 0 = z at hck z0 z1 hB
  have HB : Hid (bits BinOp.and IntKind.u32 (z / 2 ^ r) 1 = B) := by
    show _ = _
    have e : z / 2 ^ r = ((z.toNat / 2 ^ r : Nat) : Int) := by
      rw [Int.natCast_ediv, Int.toNat_of_nonneg z0]; simp
    rw [e, and_one_w _ (Nat.lt_of_le_of_lt (Nat.div_le_self _ _) (by omega)), hB]
  clear hcz h hB BV hj hr
  go_enter Tryz.func142, Tryz.ntmps142
  go_wp2
  go_ret
  exact ⟨ret_int HB.out, rfl⟩

theorem ref_one' {a : Option Addr} {n c : Nat} {zs : List Int} {x y : Int} {w : World} (h : IsWords w (.slice a n c) zs) (hz : Wd zs) (hn : n ≤ 1000000000) (x0 : 0 ≤ x) (x1 : x < 4294967296) (y0 : 0 ≤ y) (y1 : y < 4294967296) (N : Nat) (hN : val zs * x.toNat + y.toNat = N) :
    Calls Tryz.prog 97 #[.slice a n c, .int .u32 x, .int .u32 y] w (Ans w N) := by
  subst hN; exact ref_one a n c zs x y w h hz hn x0 x1 y0 y1

theorem ref_div_no (a : Option Addr) (n c : Nat) (b : Option Addr) (m d : Nat) (ys : List Int) (w : World) (g : IsWords w (.slice b m d) ys) (gz : Wd ys) (hm : m ≤ 1000000000) (h0 : val ys = 0) :
    Calls Tryz.prog 115 #[.slice a n c, .slice b m d] w fun e w' => e = .returned (.tuple #[.slice none 0 0, .slice none 0 0, .bool false]) ∧ Below w.heap.size w w' := by
  have T := ref_trim b m d ys w g gz (by omega)
  unfold Ans at T
  rw [h0, nl_zero] at T
  clear g gz h0
  go_enter Tryz.func115, Tryz.ntmps115
  go_wp2_with (first
    | (go_at_call 41; (with_reducible refine Calls.mono T ?_); rintro e w1 ⟨a1, c1, rfl, o1⟩))
  go_ret3
  exact ⟨rfl, o1.below⟩

theorem nl_few2 {x A : Nat} (h : x ≤ 4 * A) : nl x ≤ nl A + 1 := by
  refine nl_le _ _ ?_
  have := lt_nl A
  rw [Nat.pow_succ]
  generalize 4294967296 ^ nl A = p at *
  omega

theorem bit_step (A k : Nat) : A / 2 ^ k = 2 * (A / 2 ^ (k + 1)) + A / 2 ^ k % 2 := by
  rw [Nat.pow_succ, ← Nat.div_div_eq_div_mul]; omega

set_option maxHeartbeats 4000000 in
theorem ref_div (a : Option Addr) (n c : Nat) (zs : List Int) (b : Option Addr) (m d : Nat) (ys : List Int) (w : World) (h : IsWords w (.slice a n c) zs) (hz : Wd zs) (g : IsWords w (.slice b m d) ys) (gz : Wd ys) (hn : n ≤ 100000000) (hm : m ≤ 100000000) (hpos : 0 < val ys) :
    Calls Tryz.prog 115 #[.slice a n c, .slice b m d] w (AnsDiv w (val zs / val ys) (val zs % val ys)) := by
  have T := ref_trim b m d ys w g gz (by omega)
  have b2 := (g.low gz).2.2
  have b1 := nl_val_le zs hz
  rw [h.len] at b1
  have hlt := val_lt zs hz
  rw [h.len, pow_word] at hlt
  have HLT : Hid (val zs < 2 ^ (32 * n)) := hlt
  have BI := fun w' (q : IsWords w' (.slice a n c) zs) i hi B hB => ref_bit a n c zs w' q hz (by omega) i hi B hB
  clear hlt hz g gz
  generalize val zs = A at *
  generalize val ys = D at *
  have hne : nl D ≠ 0 := fun e => by have := nl_eq_zero e; omega
  have HP : Hid (0 < D) := hpos
  clear hpos
  obtain ⟨N, hN⟩ : ∃ N, nl D = N := ⟨_, rfl⟩
  unfold Ans at T
  rw [hN] at T hne b2
  have HND : Hid (nl D = N) := hN
  have hN0 : ((N : Int) == 0) = false := by simp; omega
  clear hN
  go_enter Tryz.func115, Tryz.ntmps115
  go_wp2_with (first
    | (go_at_call 41; (with_reducible refine Calls.mono T ?_); rintro e w1 ⟨a1, c1, rfl, o1⟩))
  clear T
  go_loopg [8, 9, 10] (32 * n) (fun k q r i v => ∃ (qa : Option Addr) (qn qc : Nat) (ra : Option Addr) (rn rc : Nat) (Q R : Nat), k ≤ 32 * n ∧ i = .int .i64 ((k : Int) - 1) ∧ q = .slice qa qn qc ∧ r = .slice ra rn rc ∧ qn = nl Q ∧ rn = nl R ∧ Own w1 v (.slice qa qn qc) qn (natOf Q) ∧ Own w1 v (.slice ra rn rc) rn (natOf R) ∧ R < D ∧ A / 2 ^ k = Q * D + R)
  case atStart =>
    refine ⟨none, 0, 0, none, 0, 0, 0, 0, by omega, by go_num, rfl, rfl, nl_zero.symm, nl_zero.symm, ?_, ?_, HP.out, ?_⟩
    · rw [natOf_zero]; exact Own.nil (Below.refl _ _)
    · rw [natOf_zero]; exact Own.nil (Below.refl _ _)
    · rw [Nat.div_eq_of_lt HLT.out]; omega
  case round =>
    obtain ⟨k, rfl⟩ : ∃ k, k = gk := ⟨_, rfl⟩
    obtain ⟨qa, qn, qc, ra, rn, rc, Q, R, hk, rfl, rfl, rfl, hqn, hrn, oQ, oR, hR, hI⟩ := hrel
    have HI : Hid (A / 2 ^ k = Q * D + R) := hI
    have HQN : Hid (qn = nl Q) := hqn
    have HRN : Hid (rn = nl R) := hrn
    have HRD : Hid (R < D) := hR
    have hQA : Q ≤ A := by
      have h1 : A / 2 ^ k ≤ A := Nat.div_le_self _ _
      have h2 : Q * 1 ≤ Q * D := Nat.mul_le_mul_left _ HP.out
      omega
    have qn1 : qn ≤ n := by rw [hqn]; exact Nat.le_trans (nl_mono hQA) b1
    have rn1 : rn ≤ m := by rw [hrn]; exact Nat.le_trans (nl_mono (Nat.le_of_lt hR)) (by rw [HND.out]; exact b2)
    clear hI hqn hrn hR hQA
    rcases Nat.eq_zero_or_pos k with hk0 | hk0
    · subst hk0
      rw [show ((0 : Nat) : Int) - 1 = -1 from rfl]
      have HS : A = Q * D + R := by have := HI.out; simpa using this
      have e1 : Q = A / D := by
        rw [HS, Nat.mul_comm, Nat.mul_add_div HP.out, Nat.div_eq_of_lt HRD.out, Nat.add_zero]
      have e2 : R = A % D := by
        rw [HS, Nat.mul_comm, Nat.mul_add_mod, Nat.mod_eq_of_lt HRD.out]
      have p1 := oQ.outer o1.below
      have p2 := oR.outer o1.below
      rw [e1] at HQN p1
      rw [e2] at HRN p2
      clear HS e1 e2 HI HRD oQ oR h BI
      go_wp2
      go_ret3
      have e3 := HQN.out
      have e4 := HRN.out
      subst e3 e4
      exact ⟨_, _, _, _, rfl, p1, p2⟩
    · obtain ⟨t, rfl⟩ : ∃ t, k = t + 1 := ⟨k - 1, by omega⟩
      rw [show ((t + 1 : Nat) : Int) - 1 = t by omega]
      have BS := bit_step A t
      have hbit : A / 2 ^ t % 2 < 2 := Nat.mod_lt _ (by omega)
      obtain ⟨B, hB⟩ : ∃ B : Nat, B = A / 2 ^ t % 2 := ⟨_, rfl⟩
      have BI2 := fun w' q => BI w' q t (by omega) (B : Int) (by rw [hB])
      rw [← hB] at BS hbit
      rw [HI.out] at BS
      have HBS : Hid (A / 2 ^ t = 2 * (Q * D + R) + B) := BS
      clear BS hB BI HI
      have O1 := ref_one' oQ.words (wd_natOf _) (x := 2) (y := 0) (by omega) (by omega) (by omega) (by omega) (by omega) (2 * Q) (by rw [val_natOf, show (2 : Int).toNat = 2 from rfl, show (0 : Int).toNat = 0 from rfl]; omega)
      have O2 := fun w' (q : IsWords w' (.slice ra rn rc) (natOf R)) => ref_one' q (wd_natOf _) (x := 2) (y := B) (by omega) (by omega) (by omega) (by omega) (by omega) (2 * R + B) (by rw [val_natOf, show (2 : Int).toNat = 2 from rfl, Int.toNat_natCast]; omega)
      have hq2 : nl (2 * Q) ≤ qn + 1 := by
        have := nl_few2 (x := 2 * Q) (A := Q) (by omega)
        rw [HQN.out]; exact this
      have hr2 : nl (2 * R + B) ≤ m + 1 := by
        have h1 := HRD.out
        have := nl_few2 (x := 2 * R + B) (A := D) (by omega)
        rw [HND.out] at this
        omega
      have oD := fun v (bb : Below w1.heap.size w1 v) => o1.more bb
      have CM := fun w' a3 c3 (q1 : IsWords w' (.slice a3 (nl (2 * R + B)) c3) (natOf (2 * R + B))) (q2 : IsWords w' (.slice a1 N c1) (natOf D)) => ref_cmp a3 _ c3 _ a1 N c1 _ w' q1 (wd_natOf _) q2 (wd_natOf _) (by omega) (by omega)
      simp only [val_natOf] at CM
      clear HQN HRN
      rcases Nat.lt_or_ge (2 * R + B) D with hlt | hge
      · rw [sgn_lt (by omega)] at CM
        have HN1 : Hid (2 * R + B < D ∧ A / 2 ^ t = 2 * Q * D + (2 * R + B)) := ⟨hlt, by rw [HBS.out, Nat.mul_add, Nat.mul_assoc]; omega⟩
        clear hlt HBS
        go_wp2_with (first
          | (go_at_call 97; (with_reducible refine Calls.mono O1 ?_); rintro e w2 ⟨a2, c2, rfl, o2⟩; have p2 := oR.more o2.below; have q2 := o2.outer oQ.below)
          | (go_at_call 142; (with_reducible refine Calls.mono (BI2 _ ((h.below o1.below).below p2.below)) ?_); rintro e w3 ⟨rfl, rfl⟩)
          | (go_at_call 97; (with_reducible refine Calls.mono (O2 _ p2.words) ?_); rintro e w3 ⟨a3, c3, rfl, o3⟩; have q3 := q2.more o3.below; have p3 := o3.outer p2.below)
          | (go_at_call 91; (with_reducible refine Calls.mono (CM _ _ _ o3.words (oD _ p3.below).words) ?_); rintro e w4 ⟨rfl, rfl⟩))
        go_roundg t
        case rel => exact ⟨a2, _, c2, a3, _, c3, 2 * Q, 2 * R + B, by omega, rfl, rfl, rfl, rfl, rfl, q3, p3, HN1.out.1, HN1.out.2⟩
        case measure => omega
      · obtain ⟨cs, CM', hcs⟩ : ∃ cs : Int, (∀ w' a3 c3, IsWords w' (.slice a3 (nl (2 * R + B)) c3) (natOf (2 * R + B)) → IsWords w' (.slice a1 N c1) (natOf D) → Calls Tryz.prog 91 #[.slice a3 (nl (2 * R + B)) c3, .slice a1 N c1] w' (fun e w'' => e = .returned (.int .i64 cs) ∧ w' = w'')) ∧ 0 ≤ cs := by
          refine ⟨_, CM, ?_⟩
          rcases Nat.lt_or_ge D (2 * R + B) with h | h
          · rw [sgn_gt (by omega)]; omega
          · rw [sgn_eq (by omega)]; omega
        have HN1 : Hid (2 * R + B - D < D ∧ A / 2 ^ t = (2 * Q + 1) * D + (2 * R + B - D)) := ⟨by have := HRD.out; omega, by rw [HBS.out, Nat.mul_add, Nat.add_mul, Nat.mul_assoc]; omega⟩
        have SB := fun w' a3 c3 (q1 : IsWords w' (.slice a3 (nl (2 * R + B)) c3) (natOf (2 * R + B))) (q2 : IsWords w' (.slice a1 N c1) (natOf D)) => ref_nsub a3 _ c3 _ a1 N c1 _ w' q1 (wd_natOf _) q2 (wd_natOf _) (by omega) (by omega) (by rw [val_natOf, val_natOf]; exact hge)
        simp only [val_natOf] at SB
        have O3 := fun w' a3 c3 (q : IsWords w' (.slice a3 (nl (2 * Q)) c3) (natOf (2 * Q))) => ref_one' q (wd_natOf _) (x := 1) (y := 1) (by omega) (by omega) (by omega) (by omega) (by omega) (2 * Q + 1) (by rw [val_natOf, show (1 : Int).toNat = 1 from rfl]; omega)
        clear hge HBS CM
        go_wp2_with (first
          | (go_at_call 97; (with_reducible refine Calls.mono O1 ?_); rintro e w2 ⟨a2, c2, rfl, o2⟩; have p2 := oR.more o2.below; have q2 := o2.outer oQ.below)
          | (go_at_call 142; (with_reducible refine Calls.mono (BI2 _ ((h.below o1.below).below p2.below)) ?_); rintro e w3 ⟨rfl, rfl⟩)
          | (go_at_call 97; (with_reducible refine Calls.mono (O2 _ p2.words) ?_); rintro e w3 ⟨a3, c3, rfl, o3⟩; have q3 := q2.more o3.below; have p3 := o3.outer p2.below)
          | (go_at_call 91; (with_reducible refine Calls.mono (CM' _ _ _ o3.words (oD _ p3.below).words) ?_); rintro e w4 ⟨rfl, rfl⟩)
          | (go_at_call 96; (with_reducible refine Calls.mono (SB _ _ _ o3.words (oD _ p3.below).words) ?_); rintro e w5 ⟨a5, c5, rfl, o5⟩; have q5 := q3.more o5.below; have p5 := o5.outer p3.below)
          | (go_at_call 97; (with_reducible refine Calls.mono (O3 _ _ _ q5.words) ?_); rintro e w6 ⟨a6, c6, rfl, o6⟩; have p6 := p5.more o6.below; have q6 := o6.outer q5.below))
        go_roundg t
        case rel => exact ⟨a6, _, c6, a5, _, c5, 2 * Q + 1, 2 * R + B - D, by omega, rfl, rfl, rfl, rfl, rfl, q6, p6, HN1.out.1, HN1.out.2⟩
        case measure => omega

theorem natOf_word {x : Nat} (h0 : 0 < x) (h1 : x < 4294967296) : natOf x = [(x : Int)] := by
  rw [natOf_pos (by omega), Nat.mod_eq_of_lt h1, Nat.div_eq_of_lt h1, natOf_zero]

theorem ref_small_no (a : Option Addr) (n c : Nat) (w : World) :
    Calls Tryz.prog 111 #[.slice a n c, .int .u32 0] w fun e w' => e = .returned (.tuple #[.slice none 0 0, .int .u32 0, .bool false]) ∧ Below w.heap.size w w' := by
  have L1 : IsWords (w.alloc (.cells #[.int .u32 0] 62)) (.slice (some ⟨w.heap.size, 0, none⟩) 1 1) [0] := lit_words w [0] 1 rfl (by decide)
  have T := ref_div_no a n c _ _ _ [0] _ L1 (wd_one (by omega) (by omega)) (by omega) (by simp [val])
  go_enter Tryz.func111, Tryz.ntmps111
  go_wp2_with (first
    | (go_at_call 115; (with_reducible refine Calls.mono T ?_); rintro e w1 ⟨rfl, b1⟩))
  go_ret3
  exact ⟨rfl, ((Below.refl _ w).alloc (Nat.le_refl _) _).trans (b1.mono (by simp))⟩

set_option maxHeartbeats 2000000 in
theorem ref_small4 (a : Option Addr) (n c : Nat) (zs : List Int) (d : Int) (w : World) (h : IsWords w (.slice a n c) zs) (hz : Wd zs) (hn : n ≤ 100000000) (d0 : 0 < d) (d1 : d < 4294967296) :
    Calls Tryz.prog 111 #[.slice a n c, .int .u32 d] w (AnsSmall w (val zs / d.toNat) ((val zs % d.toNat : Nat) : Int)) := by
  have hb0 : Below w.heap.size w (w.alloc (.cells #[.int .u32 d] 62)) := (Below.refl _ w).alloc (Nat.le_refl _) _
  have ev : val [d] = d.toNat := by simp [val]
  have L1 : IsWords (w.alloc (.cells #[.int .u32 d] 62)) (.slice (some ⟨w.heap.size, 0, none⟩) 1 1) [d] := lit_words w [d] 1 rfl (by decide)
  have T := ref_div a n c zs _ _ _ [d] _ (h.below hb0) hz L1 (wd_one (by omega) d1) hn (by omega) (by rw [ev]; omega)
  rw [ev] at T
  have hm : val zs % d.toNat < 4294967296 := Nat.lt_of_lt_of_le (Nat.mod_lt _ (by omega)) (by omega)
  have HB : Hid (Below w.heap.size w (w.alloc (.cells #[.int .u32 d] 62))) := hb0
  clear h hz ev hb0 L1
  generalize val zs / d.toNat = Q at *
  generalize val zs % d.toNat = R at *
  unfold AnsDiv at T
  rcases Nat.eq_zero_or_pos R with h0 | h0
  · subst h0
    rw [nl_zero] at T
    go_enter Tryz.func111, Tryz.ntmps111
    go_wp2_with (first
      | (go_at_call 115; (with_reducible refine Calls.mono T ?_); rintro e w1 ⟨a1, c1, a2, c2, rfl, o1, o2⟩))
    go_ret3
    exact ⟨_, _, rfl, o1.outer HB.out⟩
  · have e1 := natOf_word h0 hm
    have e2 : nl R = 1 := by unfold nl; rw [e1]; rfl
    rw [e1, e2] at T
    clear e1 e2
    go_enter Tryz.func111, Tryz.ntmps111
    go_wp2_with (first
      | (go_at_call 115; (with_reducible refine Calls.mono T ?_); rintro e w1 ⟨a1, c1, a2, c2, rfl, o1, o2⟩; obtain ⟨g2, rfl⟩ := o2.at0 (by omega); have hc2 := (o2.cell 0 (by omega)).1; rw [show ([(R : Int)]).getD 0 0 = (R : Int) from rfl] at hc2))
    go_quiet (fail)
    go_wp2
    go_ret3
    refine ⟨_, _, rfl, ?_⟩
    have o3 := o1.outer HB.out
    exact ⟨o3.1, below_drewN o3.2 _⟩
end Go.Proofs.YtpimcbncmfpdhaaGreatDoor
/-
  Package times's contract of Mul with the product named.
-/
namespace Go.Proofs.YtpimcbncmfpdhaaGreatDoor
open Go.RowKit

theorem times_mul' {a : Option Addr} {n c : Nat} {zs : List Int} {b : Option Addr} {m d : Nat} {ys : List Int} {w : World} (h : IsWords w (.slice a n c) zs) (hz : Wd zs) (g : IsWords w (.slice b m d) ys) (gz : Wd ys)
    (hn : n ≤ 1000000000000) (hm : m ≤ 1000000000000) (N : Nat) (hN : val zs * val ys = N) : Calls Tryz.prog 89 #[.slice a n c, .slice b m d] w (Ans w N) := by
  rw [← hN]; exact times_mul a n c zs b m d ys w h hz g gz hn hm
theorem times_one' {a : Option Addr} {n c : Nat} {zs : List Int} {x y : Int} {w : World} (h : IsWords w (.slice a n c) zs) (hz : Wd zs) (hn : n ≤ 1000000000000) (x0 : 0 ≤ x) (x1 : x < 4294967296) (y0 : 0 ≤ y) (y1 : y < 4294967296) (N : Nat) (hN : val zs * x.toNat + y.toNat = N) :
    Calls Tryz.prog 103 #[.slice a n c, .int .u32 x, .int .u32 y] w (Ans w N) := by
  subst hN; exact times_one a n c zs x y w h hz hn x0 x1 y0 y1
theorem nat_bits' {a : Option Addr} {n c : Nat} {zs : List Int} {w : World} (h : IsWords w (.slice a n c) zs) (hz : Wd zs) (hn : n ≤ 35184372088832) (N : Int) (hN : (nbits (val zs) : Int) = N) :
    Calls Tryz.prog 43 #[.slice a n c] w fun e w' => e = .returned (.int .i64 N) ∧ w = w' := by
  rw [← hN]; exact nat_bits a n c zs w h hz hn
theorem nat_trim' {a : Option Addr} {n c : Nat} {zs : List Int} {w : World} (h : IsWords w (.slice a n c) zs) (hz : Wd zs) (hn : n ≤ 35184372088832) (N : Nat) (hN : val zs = N) :
    Calls Tryz.prog 128 #[.slice a n c] w (Ans w N) := by
  rw [← hN]; exact nat_trim a n c zs w h hz hn
end Go.Proofs.YtpimcbncmfpdhaaGreatDoor
/-
  Contracts of package split's functions Div and Small, and of the document's own answers for them, whether it can be told or not, with the numbers named; lists of one word.
-/
namespace Go.Proofs.YtpimcbncmfpdhaaGreatDoor
open Go.RowKit

theorem nat_word1 {x : Nat} (h0 : 0 < x) (h1 : x < 4294967296) : natOf x = [(x : Int)] ∧ nl x = 1 := by
  have e : natOf x = [(x : Int)] := by rw [natOf_pos (by omega), Nat.mod_eq_of_lt h1, Nat.div_eq_of_lt h1, natOf_zero]
  exact ⟨e, by unfold nl; rw [e]; rfl⟩

/-- What Div answers, whether it can be told or not. -/
def AnsDivB (W : World) (Q R : Nat) (r : Bool) (e : Ending) (w' : World) : Prop := ∃ a1 c1 a2 c2, e = .returned (.tuple #[.slice a1 (nl Q) c1, .slice a2 (nl R) c2, .bool r]) ∧ Own W w' (.slice a1 (nl Q) c1) (nl Q) (natOf Q) ∧ Own W w' (.slice a2 (nl R) c2) (nl R) (natOf R)
/-- What Small answers, whether it can be told or not. -/
def AnsSmallB (W : World) (Q : Nat) (R : Int) (r : Bool) (e : Ending) (w' : World) : Prop := ∃ a1 c1, e = .returned (.tuple #[.slice a1 (nl Q) c1, .int .u32 R, .bool r]) ∧ Own W w' (.slice a1 (nl Q) c1) (nl Q) (natOf Q)
/-- What is left, or 0. -/
def rest (A D : Nat) : Nat := if D = 0 then 0 else A % D

theorem nil_nl {W w : World} (h : Below W.heap.size W w) : Own W w (.slice none (nl 0) 0) (nl 0) (natOf 0) := by
  rw [nl_zero, natOf_zero]; exact Own.nil h

theorem split_div_any {a : Option Addr} {n c : Nat} {zs : List Int} {b : Option Addr} {m d : Nat} {ys : List Int} {w : World} (h : IsWords w (.slice a n c) zs) (hz : Wd zs) (g : IsWords w (.slice b m d) ys) (gz : Wd ys) (hn : n ≤ 1000000000000) (A D : Nat) (hA : val zs = A) (hD : val ys = D) :
    Calls Tryz.prog 113 #[.slice a n c, .slice b m d] w (AnsDivB w (A / D) (rest A D) (decide (0 < D))) := by
  rcases Nat.eq_zero_or_pos D with h0 | h0
  · subst h0
    refine (split_div_no a n c zs b m d ys w h hz g gz hD).mono ?_
    rintro e w1 ⟨rfl, rfl⟩
    rw [Nat.div_zero, show rest A 0 = 0 from rfl]
    exact ⟨none, 0, none, 0, by rw [nl_zero]; rfl, nil_nl (Below.refl _ _), nil_nl (Below.refl _ _)⟩
  · have e : rest A D = A % D := if_neg (by omega)
    rw [e, show decide (0 < D) = true from decide_eq_true h0]
    exact split_div h hz g gz hn A D hA hD h0
theorem ref_div_any {a : Option Addr} {n c : Nat} {zs : List Int} {b : Option Addr} {m d : Nat} {ys : List Int} {w : World} (h : IsWords w (.slice a n c) zs) (hz : Wd zs) (g : IsWords w (.slice b m d) ys) (gz : Wd ys) (hn : n ≤ 100000000) (hm : m ≤ 100000000) (A D : Nat) (hA : val zs = A) (hD : val ys = D) :
    Calls Tryz.prog 115 #[.slice a n c, .slice b m d] w (AnsDivB w (A / D) (rest A D) (decide (0 < D))) := by
  rcases Nat.eq_zero_or_pos D with h0 | h0
  · subst h0
    refine (ref_div_no a n c b m d ys w g gz (by omega) hD).mono ?_
    rintro e w1 ⟨rfl, b1⟩
    rw [Nat.div_zero, show rest A 0 = 0 from rfl]
    exact ⟨none, 0, none, 0, by rw [nl_zero]; rfl, nil_nl b1, nil_nl b1⟩
  · have e : rest A D = A % D := if_neg (by omega)
    rw [e, show decide (0 < D) = true from decide_eq_true h0]
    subst hA hD
    exact ref_div a n c zs b m d ys w h hz g gz hn hm h0
theorem split_small_any {a : Option Addr} {n c : Nat} {zs : List Int} {d : Int} {w : World} (h : IsWords w (.slice a n c) zs) (hz : Wd zs) (hn : n ≤ 35184372088832) (d0 : 0 ≤ d) (d1 : d < 4294967296) (A D : Nat) (hA : val zs = A) (hD : d.toNat = D) :
    Calls Tryz.prog 132 #[.slice a n c, .int .u32 d] w (AnsSmallB w (A / D) ((rest A D : Nat) : Int) (decide (0 < D))) := by
  rcases Nat.eq_zero_or_pos D with h0 | h0
  · obtain rfl : d = 0 := by omega
    subst h0
    refine (split_small_no a n c w).mono ?_
    rintro e w1 ⟨rfl, rfl⟩
    rw [Nat.div_zero, show rest A 0 = 0 from rfl]
    exact ⟨none, 0, by rw [nl_zero]; rfl, nil_nl (Below.refl _ _)⟩
  · have e : rest A D = A % D := if_neg (by omega)
    rw [e, show decide (0 < D) = true from decide_eq_true h0]
    subst hA hD
    exact split_small a n c zs d w h hz hn (by omega) d1
theorem ref_small_any {a : Option Addr} {n c : Nat} {zs : List Int} {d : Int} {w : World} (h : IsWords w (.slice a n c) zs) (hz : Wd zs) (hn : n ≤ 100000000) (d0 : 0 ≤ d) (d1 : d < 4294967296) (A D : Nat) (hA : val zs = A) (hD : d.toNat = D) :
    Calls Tryz.prog 111 #[.slice a n c, .int .u32 d] w (AnsSmallB w (A / D) ((rest A D : Nat) : Int) (decide (0 < D))) := by
  rcases Nat.eq_zero_or_pos D with h0 | h0
  · obtain rfl : d = 0 := by omega
    subst h0
    refine (ref_small_no a n c w).mono ?_
    rintro e w1 ⟨rfl, b1⟩
    rw [Nat.div_zero, show rest A 0 = 0 from rfl]
    exact ⟨none, 0, by rw [nl_zero]; rfl, nil_nl b1⟩
  · have e : rest A D = A % D := if_neg (by omega)
    rw [e, show decide (0 < D) = true from decide_eq_true h0]
    subst hA hD
    exact ref_small4 a n c zs d w h hz hn (by omega) d1
end Go.Proofs.YtpimcbncmfpdhaaGreatDoor
/-
  Contracts of the document's own answers of layer 7 (package talwegref07), for every list of up to a hundred million words: as integers; memory that was there stays, and what is answered is the call's own.
-/
namespace Go.Proofs.YtpimcbncmfpdhaaGreatDoor
open Go.RowKit

/-- The integer of a sign and a number. -/
def iv (s : Bool) (m : Nat) : Int := if s then -(m : Int) else m
/-- The answer is the right Int of z, memory of the call's own. -/
def AnsI (W : World) (z : Int) (e : Ending) (w' : World) : Prop :=
  ∃ a c, e = .returned (.agg #[.bool (decide (z < 0)), .slice a (nl z.natAbs) c]) ∧ Own W w' (.slice a (nl z.natAbs) c) (nl z.natAbs) (natOf z.natAbs)

theorem iv_abs (s : Bool) (m : Nat) : (iv s m).natAbs = m := by unfold iv; split <;> simp
theorem iv_neg (s : Bool) (m : Nat) : decide (iv s m < 0) = (s && decide (0 < m)) := by
  unfold iv; cases s <;> simp <;> omega

set_option maxHeartbeats 2000000 in
theorem ref_ifix {s : Bool} {a : Option Addr} {n c : Nat} {zs : List Int} {w : World} (h : IsWords w (.slice a n c) zs) (hz : Wd zs) (hn : n ≤ 1000000000) (z : Int) (hv : iv s (val zs) = z) :
    Calls Tryz.prog 90 #[.agg #[.bool s, .slice a n c]] w (AnsI w z) := by
  subst hv
  unfold AnsI
  rw [iv_abs, iv_neg]
  have T := fun v (hb : Below w.heap.size w v) => ref_trim a n c zs v (h.below hb) hz (by omega)
  unfold Ans at T
  have hd : decide (0 < val zs) = decide (0 < (nl (val zs) : Int)) := by
    rw [Bool.eq_iff_iff]; simp only [decide_eq_true_eq]
    constructor
    · intro h; have := nl_pos h; omega
    · intro h; rcases Nat.eq_zero_or_pos (val zs) with e | e
      · rw [e, nl_zero] at h; omega
      · exact e
  rw [hd]
  generalize val zs = N at T
  have b1 := (BoxC.new w #[.bool s, .slice a n c] 26).alloc (.cells #[.bool false, .slice none 0 0] 26)
  have b2 := BoxC.new (w.alloc (.cells #[.bool s, .slice a n c] 26)) #[.bool false, .slice none 0 0] 26
  rw [World.size_alloc] at b2
  have bV : Below w.heap.size w ((w.alloc (.cells #[.bool s, .slice a n c] 26)).alloc (.cells #[.bool false, .slice none 0 0] 26)) := ((Below.refl _ w).alloc (Nat.le_refl _) _).alloc (by simp) _
  have hs : w.heap.size + 1 < ((w.alloc (.cells #[.bool s, .slice a n c] 26)).alloc (.cells #[.bool false, .slice none 0 0] 26)).heap.size := by simp
  clear h hz hn hd
  cases s
  case' false => obtain ⟨r, HR⟩ : ∃ r : Bool, Hid (r = false) := ⟨_, (rfl : false = false)⟩
  case' true => obtain ⟨r, HR⟩ : ∃ r : Bool, Hid (r = decide (0 < nl N)) := ⟨_, (rfl : decide (0 < nl N) = decide (0 < nl N))⟩
  all_goals
    go_enter Tryz.func90, Tryz.ntmps90
    go_wp2_with (go_at_call 41; (with_reducible refine Calls.mono (T _ bV) ?_); rintro e w1 ⟨a1, c1, rfl, o1⟩; obtain ⟨x0, x1, f0, f1⟩ := (b1.more o1.below).cells2; obtain ⟨y0, y1, g0, g1⟩ := (b2.more o1.below).cells2)
    have q := fun x y => ((o1.above bV).set (k := w.heap.size + 1) (by omega) hs 0 x).set (k := w.heap.size + 1) (by omega) hs 1 y
    exact bodyPost_ret (v := .agg #[.bool r, .slice a1 (nl N) c1]) (by simp [results, Tryz.results90, go_sem, y0, y1, HR.out]) rfl ⟨a1, c1, by simp [HR.out], (q _ _).own (by omega)⟩

theorem iv_not (s : Bool) (m : Nat) : iv (!s) m = - iv s m := by unfold iv; cases s <;> simp

end Go.Proofs.YtpimcbncmfpdhaaGreatDoor
/-
  Contracts of the document's own answers of layer 7 (package talwegref07: Of, Mul, Add, Cmp), for every list of up to a hundred million words: as integers; memory that was there stays, and what is answered is the call's own.
-/
namespace Go.Proofs.YtpimcbncmfpdhaaGreatDoor
open Go.RowKit

set_option maxHeartbeats 2000000 in
theorem ref_iof (n : Int) (w : World) (h0 : -9223372036854775808 ≤ n) (h1 : n < 9223372036854775808) :
    Calls Tryz.prog 55 #[.int .i64 n] w (AnsI w n) := by
  obtain ⟨b1, bV, hs⟩ := boxes1 w #[.bool false, .slice none 0 0] 26
  rcases Int.lt_or_le n 0 with h | h
  · have O := fun v => ref_of (-n) v (by omega) (by omega)
    have e1 : IntKind.u64.wrap n = n + 18446744073709551616 := by simp [IntKind.wrap, IntKind.bits, IntKind.signed]; omega
    have e2 : IntKind.u64.wrap (0 - (n + 18446744073709551616)) = -n := by simp [IntKind.wrap, IntKind.bits, IntKind.signed]; omega
    have e3 : IntKind.u64.wrap (-(n + 18446744073709551616)) = -n := by simp [IntKind.wrap, IntKind.bits, IntKind.signed]; omega
    rw [show (-n).toNat = n.natAbs by omega] at O
    unfold Ans at O
    unfold AnsI
    rw [decide_eq_true h]
    generalize n.natAbs = N at O ⊢
    go_enter Tryz.func55, Tryz.ntmps55
    go_wp2_with (go_at_call 87; (with_reducible refine Calls.mono (O _) ?_); rintro e w1 ⟨a1, c1, rfl, o1⟩; obtain ⟨y0, y1, g0, g1⟩ := (b1.more o1.below).cells2)
    have q := fun x y => ((o1.above bV).set (k := w.heap.size) (by omega) hs 0 x).set (k := w.heap.size) (by omega) hs 1 y
    exact bodyPost_ret (v := .agg #[.bool true, .slice a1 (nl N) c1]) (by simp [results, Tryz.results55, go_sem, y0, y1]) rfl ⟨a1, c1, rfl, (q _ _).own (by omega)⟩
  · have O := fun v => ref_of n v (by omega) (by omega)
    have e1 : IntKind.u64.wrap n = n := by simp [IntKind.wrap, IntKind.bits, IntKind.signed]; omega
    rw [show n.toNat = n.natAbs by omega] at O
    unfold Ans at O
    unfold AnsI
    rw [decide_eq_false (by omega)]
    generalize n.natAbs = N at O ⊢
    go_enter Tryz.func55, Tryz.ntmps55
    go_wp2_with (go_at_call 87; (with_reducible refine Calls.mono (O _) ?_); rintro e w1 ⟨a1, c1, rfl, o1⟩; obtain ⟨y0, y1, g0, g1⟩ := (b1.more o1.below).cells2)
    have q := fun x y => ((o1.above bV).set (k := w.heap.size) (by omega) hs 0 x).set (k := w.heap.size) (by omega) hs 1 y
    exact bodyPost_ret (v := .agg #[.bool false, .slice a1 (nl N) c1]) (by simp [results, Tryz.results55, go_sem, y0, y1]) rfl ⟨a1, c1, rfl, (q _ _).own (by omega)⟩

theorem iv_mul (s t : Bool) (m n : Nat) : iv (!(s == t)) (m * n) = iv s m * iv t n := by
  unfold iv; cases s <;> cases t <;> simp [Int.neg_mul, Int.mul_neg]

set_option maxHeartbeats 2000000 in
theorem ref_imul {s : Bool} {a : Option Addr} {n c : Nat} {xs : List Int} {t : Bool} {b : Option Addr} {m d : Nat} {ys : List Int} {w : World} (h : IsWords w (.slice a n c) xs) (hx : Wd xs) (k : IsWords w (.slice b m d) ys) (hy : Wd ys) (hn : n ≤ 100000000) (hm : m ≤ 100000000) (z : Int) (hv : iv s (val xs) * iv t (val ys) = z) :
    Calls Tryz.prog 92 #[.agg #[.bool s, .slice a n c], .agg #[.bool t, .slice b m d]] w (AnsI w z) := by
  have M := fun v (hb : Below w.heap.size w v) => ref_tmul a n c xs b m d ys v (h.below hb) hx (k.below hb) hy hn hm
  have lM := nl_mul (val xs) (val ys)
  have l1 := nl_small hx n (by rw [h.len]; omega)
  have l2 := nl_small hy m (by rw [k.len]; omega)
  have FX := fun v a1 c1 (p : IsWords v (.slice a1 (nl (val xs * val ys)) c1) (natOf (val xs * val ys))) => ref_ifix (s := !(s == t)) p (wd_natOf _) (by omega) z (by rw [val_natOf, iv_mul]; exact hv)
  unfold Ans at M
  unfold AnsI at FX ⊢
  obtain ⟨b1, b2, b3, bV, hs⟩ := boxes3 w #[.bool s, .slice a n c] #[.bool t, .slice b m d] #[.bool false, .slice none 0 0] 26 26 26
  generalize decide (z < 0) = r at FX ⊢
  generalize z.natAbs = N at FX ⊢
  generalize val xs * val ys = K at M FX
  clear h k hx hy hn hm hv lM l1 l2
  go_enter Tryz.func92, Tryz.ntmps92
  go_wp2
  generalize ((w.alloc (.cells #[.bool s, .slice a n c] 26)).alloc (.cells #[.bool t, .slice b m d] 26)).alloc (.cells #[.bool false, .slice none 0 0] 26) = V at *
  obtain ⟨x0, x1, -, -⟩ := b1.drew.cells2
  obtain ⟨y0, y1, -, -⟩ := b2.drew.cells2
  go_region_held3 (fun w' => w'.cell? ⟨w.heap.size, 0, none⟩ = some (.bool s) ∧ w'.cell? ⟨w.heap.size, 1, none⟩ = some (.slice a n c) ∧ w'.cell? ⟨w.heap.size + 1, 0, none⟩ = some (.bool t) ∧ w'.cell? ⟨w.heap.size + 1, 1, none⟩ = some (.slice b m d))
    (first | exact ⟨x0, x1, y0, y1⟩ | exact ⟨p0, p1, q0, q1⟩ | exact ⟨P0, P1, Q0, Q1⟩ | exact ⟨(R1 _ _).1, (R1 _ _).2.1, (R2 _ _).1, (R2 _ _).2.1⟩)
    (first
    | (go_at_call 66; (with_reducible refine Calls.mono (M V.drew bV.drew) ?_); rintro e w1 ⟨a1, c1, rfl, o1⟩; obtain ⟨p0, p1, -, -⟩ := (b1.drew.more o1.below).cells2; obtain ⟨q0, q1, -, -⟩ := (b2.drew.more o1.below).cells2)
    | (go_at_call 90; (with_reducible refine Calls.mono (FX w1 _ _ o1.words) ?_); rintro e w2 ⟨a2, c2, rfl, o2⟩; obtain ⟨z0, z1, f0, f1⟩ := ((b3.drew.more o1.below).more o2.below).cells2; obtain ⟨P0, P1, -, -⟩ := ((b1.drew.more o1.below).more o2.below).cells2; obtain ⟨Q0, Q1, -, -⟩ := ((b2.drew.more o1.below).more o2.below).cells2; have R1 := fun u v => ((((b1.drew.more o1.below).more o2.below).other (g := w.heap.size + 1 + 1) (i := 0) (by omega) u).other (g := w.heap.size + 1 + 1) (i := 1) (by omega) v).cells2; have R2 := fun u v => ((((b2.drew.more o1.below).more o2.below).other (g := w.heap.size + 1 + 1) (i := 0) (by omega) u).other (g := w.heap.size + 1 + 1) (i := 1) (by omega) v).cells2))
  have B1 := below_more bV.drew o1.below
  have hs1 : w.heap.size + 1 + 1 < w1.heap.size := Nat.lt_of_lt_of_le hs o1.below.size
  have q := fun x y => ((o2.above B1).set (k := w.heap.size + 1 + 1) (by omega) hs1 0 x).set (k := w.heap.size + 1 + 1) (by omega) hs1 1 y
  go_wp2
  exact bodyPost_ret (v := .agg #[.bool r, .slice a2 (nl N) c2]) (by simp [results, Tryz.results92, go_sem, z0, z1]) rfl ⟨a2, c2, rfl, (q _ _).own (by omega)⟩

theorem iv_add_same (s : Bool) (m n : Nat) : iv s (m + n) = iv s m + iv s n := by unfold iv; cases s <;> simp <;> omega
theorem iv_add_ge {s t : Bool} (hst : s ≠ t) {m n : Nat} (h : n ≤ m) : iv s (m - n) = iv s m + iv t n := by
  unfold iv; cases s <;> cases t <;> simp at hst ⊢ <;> omega

set_option maxHeartbeats 4000000 in
theorem ref_iadd {s : Bool} {a : Option Addr} {n c : Nat} {xs : List Int} {t : Bool} {b : Option Addr} {m d : Nat} {ys : List Int} {w : World} (h : IsWords w (.slice a n c) xs) (hx : Wd xs) (k : IsWords w (.slice b m d) ys) (hy : Wd ys) (hn : n ≤ 100000000) (hm : m ≤ 100000000) (z : Int) (hv : iv s (val xs) + iv t (val ys) = z) :
    Calls Tryz.prog 65 #[.agg #[.bool s, .slice a n c], .agg #[.bool t, .slice b m d]] w (AnsI w z) := by
  have l1 := nl_small hx n (by rw [h.len]; omega)
  have l2 := nl_small hy m (by rw [k.len]; omega)
  obtain ⟨b1, b2, b3, bV, hs⟩ := boxes3 w #[.bool s, .slice a n c] #[.bool t, .slice b m d] #[.bool false, .slice none 0 0] 26 26 26
  by_cases hst : s = t
  · subst hst
    have A := fun v (hb : Below w.heap.size w v) => ref_nadd a n c xs b m d ys v (h.below hb) hx (k.below hb) hy (by omega) (by omega)
    have lA : nl (val xs + val ys) ≤ n + m + 1 := by
      refine nl_le _ _ ?_
      have e1 := lt_nl (val xs)
      have e2 := lt_nl (val ys)
      have e3 : 4294967296 ^ nl (val xs) ≤ 4294967296 ^ (n + m) := Nat.pow_le_pow_right (by omega) (by omega)
      have e4 : 4294967296 ^ nl (val ys) ≤ 4294967296 ^ (n + m) := Nat.pow_le_pow_right (by omega) (by omega)
      rw [Nat.pow_succ]
      omega
    have FX := fun v a1 c1 (p : IsWords v (.slice a1 (nl (val xs + val ys)) c1) (natOf (val xs + val ys))) => ref_ifix (s := s) p (wd_natOf _) (by omega) z (by rw [val_natOf, iv_add_same]; exact hv)
    unfold Ans at A
    unfold AnsI at FX ⊢
    generalize decide (z < 0) = r at FX ⊢
    generalize z.natAbs = N at FX ⊢
    generalize val xs + val ys = K at A FX
    clear h k hx hy hn hm hv lA l1 l2
    go_enter Tryz.func65, Tryz.ntmps65
    go_wp2
    generalize ((w.alloc (.cells #[.bool s, .slice a n c] 26)).alloc (.cells #[.bool s, .slice b m d] 26)).alloc (.cells #[.bool false, .slice none 0 0] 26) = V at *
    obtain ⟨x0, x1, -, -⟩ := b1.drew.cells2
    obtain ⟨-, y1, -, -⟩ := b2.drew.cells2
    go_region_held3 (fun w' => w'.cell? ⟨w.heap.size, 0, none⟩ = some (.bool s) ∧ w'.cell? ⟨w.heap.size, 1, none⟩ = some (.slice a n c) ∧ w'.cell? ⟨w.heap.size + 1, 1, none⟩ = some (.slice b m d))
      (first | exact ⟨x0, x1, y1⟩ | exact ⟨p0, p1, q1⟩ | exact ⟨P0, P1, Q1⟩ | exact ⟨(R1 _ _).1, (R1 _ _).2.1, (R2 _ _).2.1⟩)
      (first
      | (go_at_call 95; (with_reducible refine Calls.mono (A V.drew bV.drew) ?_); rintro e w1 ⟨a1, c1, rfl, o1⟩; obtain ⟨p0, p1, -, -⟩ := (b1.drew.more o1.below).cells2; obtain ⟨-, q1, -, -⟩ := (b2.drew.more o1.below).cells2)
      | (go_at_call 90; (with_reducible refine Calls.mono (FX w1 _ _ o1.words) ?_); rintro e w2 ⟨a2, c2, rfl, o2⟩; obtain ⟨z0, z1, f0, f1⟩ := ((b3.drew.more o1.below).more o2.below).cells2; obtain ⟨P0, P1, -, -⟩ := ((b1.drew.more o1.below).more o2.below).cells2; obtain ⟨-, Q1, -, -⟩ := ((b2.drew.more o1.below).more o2.below).cells2; have R1 := fun u v => ((((b1.drew.more o1.below).more o2.below).other (g := w.heap.size + 1 + 1) (i := 0) (by omega) u).other (g := w.heap.size + 1 + 1) (i := 1) (by omega) v).cells2; have R2 := fun u v => ((((b2.drew.more o1.below).more o2.below).other (g := w.heap.size + 1 + 1) (i := 0) (by omega) u).other (g := w.heap.size + 1 + 1) (i := 1) (by omega) v).cells2))
    have B1 := below_more bV.drew o1.below
    have hs1 : w.heap.size + 1 + 1 < w1.heap.size := Nat.lt_of_lt_of_le hs o1.below.size
    have q := fun x y => ((o2.above B1).set (k := w.heap.size + 1 + 1) (by omega) hs1 0 x).set (k := w.heap.size + 1 + 1) (by omega) hs1 1 y
    go_wp2
    exact bodyPost_ret (v := .agg #[.bool r, .slice a2 (nl N) c2]) (by simp [results, Tryz.results65, go_sem, z0, z1]) rfl ⟨a2, c2, rfl, (q _ _).own (by omega)⟩
  · have hst2 : (s == t) = false := by simpa using hst
    have C := fun v (hb : Below w.heap.size w v) => ref_cmp a n c xs b m d ys v (h.below hb) hx (k.below hb) hy (by omega) (by omega)
    rcases Nat.lt_or_ge (val xs) (val ys) with hlt | hge
    case' inl =>
      rw [sgn_lt (by omega)] at C
      have S := fun v (hb : Below w.heap.size w v) => ref_nsub b m d ys a n c xs v (k.below hb) hy (h.below hb) hx (by omega) (by omega) (by omega)
      have FX := fun v a1 c1 (p : IsWords v (.slice a1 (nl (val ys - val xs)) c1) (natOf (val ys - val xs))) => ref_ifix (s := t) p (wd_natOf _) (Nat.le_trans (nl_mono (Nat.sub_le _ _)) (by omega)) z (by rw [val_natOf, iv_add_ge (fun e => hst e.symm) (by omega), Int.add_comm]; exact hv)
      generalize val ys - val xs = K at S FX
    case' inr =>
      obtain ⟨sg, hsg, C⟩ : ∃ sg : Int, 0 ≤ sg ∧ ∀ v, Below w.heap.size w v → Calls Tryz.prog 91 #[.slice a n c, .slice b m d] v fun e w' => e = .returned (.int .i64 sg) ∧ v = w' := by
        refine ⟨_, ?_, C⟩
        rcases Nat.lt_or_eq_of_le hge with e | e
        · rw [sgn_gt (by omega)]; omega
        · rw [sgn_eq (by omega)]; omega
      have S := fun v (hb : Below w.heap.size w v) => ref_nsub a n c xs b m d ys v (h.below hb) hx (k.below hb) hy (by omega) (by omega) (by omega)
      have FX := fun v a1 c1 (p : IsWords v (.slice a1 (nl (val xs - val ys)) c1) (natOf (val xs - val ys))) => ref_ifix (s := s) p (wd_natOf _) (Nat.le_trans (nl_mono (Nat.sub_le _ _)) (by omega)) z (by rw [val_natOf, iv_add_ge hst (by omega)]; exact hv)
      generalize val xs - val ys = K at S FX
    all_goals
      unfold AnsOk at S
      unfold AnsI at FX ⊢
      generalize decide (z < 0) = r at FX ⊢
      generalize z.natAbs = N at FX ⊢
      clear h k hx hy hn hm hv l1 l2 hst
      go_enter Tryz.func65, Tryz.ntmps65
      go_wp2_with (first
        | (go_at_call 91; (with_reducible refine Calls.mono (C _ bV) ?_); rintro e w0 ⟨rfl, rfl⟩)
        | (go_at_call 96; (with_reducible refine Calls.mono (S _ bV) ?_); rintro e w1 ⟨a1, c1, rfl, o1⟩; obtain ⟨p0, p1, -, -⟩ := (b1.more o1.below).cells2; obtain ⟨q0, q1, -, -⟩ := (b2.more o1.below).cells2)
        | (go_at_call 90; (with_reducible refine Calls.mono (FX w1 _ _ o1.words) ?_); rintro e w2 ⟨a2, c2, rfl, o2⟩; obtain ⟨z0, z1, f0, f1⟩ := ((b3.more o1.below).more o2.below).cells2))
      have B1 := below_more bV o1.below
      have hs1 : w.heap.size + 1 + 1 < w1.heap.size := Nat.lt_of_lt_of_le hs o1.below.size
      have q := fun x y => ((o2.above B1).set (k := w.heap.size + 1 + 1) (by omega) hs1 0 x).set (k := w.heap.size + 1 + 1) (by omega) hs1 1 y
      exact bodyPost_ret (v := .agg #[.bool r, .slice a2 (nl N) c2]) (by simp [results, Tryz.results65, go_sem, z0, z1]) rfl ⟨a2, c2, rfl, (q _ _).own (by omega)⟩
end Go.Proofs.YtpimcbncmfpdhaaGreatDoor
/-
  Plain mathematics of decimal digits: the digits of a number, the number of digits, and how both belong together. No conditions of the program.
-/
namespace Go.Proofs.YtpimcbncmfpdhaaGreatDoor

/-- A list is built at its end. -/
theorem snoc_ind {α : Type} {p : List α → Prop} (h0 : p []) (h1 : ∀ l a, p l → p (l ++ [a])) (l : List α) : p l := by
  rw [← List.reverse_reverse l]
  induction l.reverse with
  | nil => exact h0
  | cons a m ih => rw [List.reverse_cons]; exact h1 _ _ ih

/-- The digits of a number, the highest one first; none of 0. -/
def dg (n : Nat) : List UInt8 := if n = 0 then [] else dg (n / 10) ++ [UInt8.ofNat (48 + n % 10)]
/-- The text of a number. -/
def decOf (n : Nat) : List UInt8 := if n = 0 then [48] else dg n
/-- The number of digits, the highest one first. -/
def valD (l : List UInt8) : Nat := l.foldl (fun a c => 10 * a + (c.toNat - 48)) 0
/-- All are digits. -/
abbrev DigS (l : List UInt8) : Prop := ∀ c ∈ l, 48 ≤ c.toNat ∧ c.toNat ≤ 57
/-- A text that is a number's. -/
abbrev Num (l : List UInt8) : Prop := l ≠ [] ∧ DigS l ∧ (l.head? = some 48 → l.length ≤ 1)

theorem dg_zero : dg 0 = [] := by unfold dg; simp
theorem dg_pos {n : Nat} (h : 0 < n) : dg n = dg (n / 10) ++ [UInt8.ofNat (48 + n % 10)] := by
  conv => lhs; unfold dg
  rw [if_neg (by omega)]
theorem decOf_zero : decOf 0 = [48] := rfl
theorem decOf_pos {n : Nat} (h : 0 < n) : decOf n = dg n := if_neg (by omega)
theorem digit_nat (n : Nat) : (UInt8.ofNat (48 + n % 10)).toNat = 48 + n % 10 := by
  simp; omega
theorem valD_nil : valD [] = 0 := rfl
theorem valD_snoc (l : List UInt8) (c : UInt8) : valD (l ++ [c]) = 10 * valD l + (c.toNat - 48) := by
  unfold valD; rw [List.foldl_append]; rfl
theorem valD_append (l m : List UInt8) : valD (l ++ m) = valD l * 10 ^ m.length + valD m := by
  refine snoc_ind (p := fun m => valD (l ++ m) = valD l * 10 ^ m.length + valD m) ?_ ?_ m
  · simp [valD_nil]
  · intro m c ih
    rw [← List.append_assoc, valD_snoc, ih, valD_snoc, List.length_append, List.length_singleton, Nat.pow_succ]; grind
theorem valD_one (c : UInt8) : valD [c] = c.toNat - 48 := by rw [← List.nil_append [c], valD_snoc, valD_nil]; omega
theorem valD_cons (c : UInt8) (l : List UInt8) : valD (c :: l) = (c.toNat - 48) * 10 ^ l.length + valD l := by
  rw [show c :: l = [c] ++ l from rfl, valD_append, valD_one]
theorem valD_dg (n : Nat) : valD (dg n) = n := by
  induction n using Nat.strongRecOn with
  | ind n ih =>
    rcases Nat.eq_zero_or_pos n with rfl | h
    · rw [dg_zero]; rfl
    · rw [dg_pos h, valD_snoc, ih _ (by omega), digit_nat]; omega
theorem valD_decOf (n : Nat) : valD (decOf n) = n := by
  rcases Nat.eq_zero_or_pos n with rfl | h
  · rfl
  · rw [decOf_pos h, valD_dg]
theorem digS_append {l m : List UInt8} : DigS (l ++ m) ↔ DigS l ∧ DigS m := by
  unfold DigS; simp only [List.mem_append]
  exact ⟨fun h => ⟨fun c hc => h c (.inl hc), fun c hc => h c (.inr hc)⟩, fun h c hc => hc.elim (h.1 c) (h.2 c)⟩
theorem digS_one {c : UInt8} : DigS [c] ↔ 48 ≤ c.toNat ∧ c.toNat ≤ 57 := by unfold DigS; simp
theorem digS_cons {c : UInt8} {l : List UInt8} : DigS (c :: l) ↔ (48 ≤ c.toNat ∧ c.toNat ≤ 57) ∧ DigS l := by
  rw [show c :: l = [c] ++ l from rfl, digS_append, digS_one]
theorem digS_dg (n : Nat) : DigS (dg n) := by
  induction n using Nat.strongRecOn with
  | ind n ih =>
    rcases Nat.eq_zero_or_pos n with rfl | h
    · rw [dg_zero]; intro c hc; cases hc
    · rw [dg_pos h, digS_append, digS_one, digit_nat]; exact ⟨ih _ (by omega), by omega⟩
theorem digS_decOf (n : Nat) : DigS (decOf n) := by
  rcases Nat.eq_zero_or_pos n with rfl | h
  · rw [decOf_zero, digS_one]; decide
  · rw [decOf_pos h]; exact digS_dg n
theorem dg_ne {n : Nat} (h : 0 < n) : dg n ≠ [] := by rw [dg_pos h]; simp
theorem decOf_ne (n : Nat) : decOf n ≠ [] := by
  rcases Nat.eq_zero_or_pos n with rfl | h
  · rw [decOf_zero]; simp
  · rw [decOf_pos h]; exact dg_ne h
theorem head_append {l m : List UInt8} (h : l ≠ []) : (l ++ m).head? = l.head? := by
  cases l with
  | nil => exact absurd rfl h
  | cons a l => rfl
theorem dg_head (n : Nat) : (dg n).head? ≠ some 48 := by
  induction n using Nat.strongRecOn with
  | ind n ih =>
    rcases Nat.eq_zero_or_pos n with rfl | h
    · rw [dg_zero]; simp
    · rw [dg_pos h]
      rcases Nat.eq_zero_or_pos (n / 10) with h0 | h0
      · rw [h0, dg_zero, List.nil_append, List.head?_cons]
        intro e
        have e2 := congrArg UInt8.toNat (Option.some.inj e)
        rw [digit_nat] at e2
        have : (48 : UInt8).toNat = 48 := rfl
        omega
      · rw [head_append (dg_ne h0)]; exact ih _ (by omega)
theorem num_decOf (n : Nat) : Num (decOf n) := by
  refine ⟨decOf_ne n, digS_decOf n, fun h => ?_⟩
  rcases Nat.eq_zero_or_pos n with rfl | h0
  · simp [decOf_zero]
  · rw [decOf_pos h0] at h; exact absurd h (dg_head n)
theorem ofNat_digit {c : UInt8} (h : 48 ≤ c.toNat) : UInt8.ofNat (48 + (c.toNat - 48)) = c := by
  rw [show 48 + (c.toNat - 48) = c.toNat by omega]; simp
theorem dg_valD {l : List UInt8} (h : DigS l) (h0 : l.head? ≠ some 48) : dg (valD l) = l := by
  revert h h0
  refine snoc_ind (p := fun l => DigS l → l.head? ≠ some 48 → dg (valD l) = l) ?_ ?_ l
  · intro _ _; rw [valD_nil, dg_zero]
  · intro l c ih h h0
    obtain ⟨h1, h2⟩ := digS_append.1 h
    rw [digS_one] at h2
    rw [valD_snoc]
    have hp : 0 < 10 * valD l + (c.toNat - 48) := by
      rcases Nat.eq_zero_or_pos (10 * valD l + (c.toNat - 48)) with e | e
      · have e1 : valD l = 0 := by omega
        have e2 : c = 48 := by
          have : c.toNat = 48 := by omega
          exact UInt8.toNat_inj.1 this
        by_cases hl : l = []
        · rw [hl, e2] at h0; simp at h0
        · rw [head_append hl] at h0
          have := ih h1 h0
          rw [e1, dg_zero] at this
          exact absurd this.symm hl
      · exact e
    rw [dg_pos hp, show (10 * valD l + (c.toNat - 48)) / 10 = valD l by omega, show (10 * valD l + (c.toNat - 48)) % 10 = c.toNat - 48 by omega, ofNat_digit h2.1]
    by_cases hl : l = []
    · rw [hl, valD_nil, dg_zero]
    · rw [head_append hl] at h0; rw [ih h1 h0]
theorem decOf_valD {l : List UInt8} (h : Num l) : decOf (valD l) = l := by
  obtain ⟨h1, h2, h3⟩ := h
  by_cases h0 : l.head? = some 48
  · have hl := h3 h0
    match l, h1, h0, hl with
    | [c], _, h0, _ => simp at h0; subst h0; rfl
  · have e := dg_valD h2 h0
    rw [decOf_pos ?_]
    · exact e
    · rcases Nat.eq_zero_or_pos (valD l) with e2 | e2
      · rw [e2, dg_zero] at e; exact absurd e.symm h1
      · exact e2
theorem valD_lt {l : List UInt8} (h : DigS l) : valD l < 10 ^ l.length := by
  revert h
  refine snoc_ind (p := fun l => DigS l → valD l < 10 ^ l.length) ?_ ?_ l
  · intro _; simp [valD_nil]
  · intro l c ih h
    obtain ⟨h1, h2⟩ := digS_append.1 h
    rw [digS_one] at h2
    have := ih h1
    rw [valD_snoc, List.length_append, List.length_singleton, Nat.pow_succ]
    omega
theorem lt_decOf (n : Nat) : n < 10 ^ (decOf n).length := by
  have := valD_lt (digS_decOf n)
  rwa [valD_decOf] at this
theorem dg_len_le {n k : Nat} (h : n < 10 ^ k) : (dg n).length ≤ k := by
  induction k generalizing n with
  | zero => rw [Nat.pow_zero] at h; obtain rfl : n = 0 := by omega
            rw [dg_zero]; simp
  | succ k ih =>
    rcases Nat.eq_zero_or_pos n with rfl | h0
    · rw [dg_zero]; simp
    · rw [dg_pos h0, List.length_append, List.length_singleton]
      have := ih (n := n / 10) (by rw [Nat.pow_succ] at h; omega)
      omega
theorem decOf_len_le {n k : Nat} (h : n < 10 ^ k) (hk : 1 ≤ k) : (decOf n).length ≤ k := by
  rcases Nat.eq_zero_or_pos n with rfl | h0
  · simpa [decOf_zero] using hk
  · rw [decOf_pos h0]; exact dg_len_le h
theorem decOf_len_pos (n : Nat) : 1 ≤ (decOf n).length := by
  have := List.length_pos_iff.2 (decOf_ne n); omega
theorem decOf_len_mono {n m : Nat} (h : n ≤ m) : (decOf n).length ≤ (decOf m).length :=
  decOf_len_le (Nat.lt_of_le_of_lt h (lt_decOf m)) (decOf_len_pos m)
theorem ge_decOf (n : Nat) : 10 ^ ((decOf n).length - 1) ≤ n ∨ (decOf n).length = 1 := by
  rcases Nat.lt_or_ge n (10 ^ ((decOf n).length - 1)) with h | h
  · right
    have h1 := decOf_len_pos n
    rcases Nat.lt_or_ge 1 (decOf n).length with h2 | h2
    · have := decOf_len_le h (by omega)
      omega
    · omega
  · exact .inl h
theorem num_append {a : Nat} (ha : 0 < a) (l : List UInt8) (hl : DigS l) : Num (decOf a ++ l) := by
  refine ⟨by simp [decOf_ne a], digS_append.2 ⟨digS_decOf a, hl⟩, fun h => ?_⟩
  rw [head_append (decOf_ne a), decOf_pos ha] at h
  exact absurd h (dg_head a)
end Go.Proofs.YtpimcbncmfpdhaaGreatDoor
/-
  Contracts of the document's own answers of layer 6 (package talwegref06: Print, Parse), for every list of up to a million words, and every text: as digits and numbers; memory that was there stays.
-/
namespace Go.Proofs.YtpimcbncmfpdhaaGreatDoor
open Go.RowKit

/-- string([]byte{x}), of one byte in a new block. -/
theorem conv_byte1 (v : World) (d : UInt8) (x : Int) (hx : (d.toNat : Int) = x) :
    Sem.run Tryz.prog (convert 99 9 (.slice (some ⟨v.heap.size, 0, none⟩) 1 1)) (v.alloc (.cells #[.int .u8 x] 5)) = .ok (.string ⟨#[d]⟩) (v.alloc (.cells #[.int .u8 x] 5)) := by
  have h := run_convert_bytes_back (P := Tryz.prog) (v.alloc (.cells #[.int .u8 x] 5)) 99 9 5 ⟨v.heap.size, 0, none⟩ 1 [d] Tryz.underlying99 Tryz.underlying5 Tryz.underlying9 (fun j hj => by
    rw [Go.WideShapes.add_plain]
    have : j = 0 := by simp at hj; omega
    subst this
    simp [hx])
  exact h

theorem dg_words (N : Nat) : (dg N).length ≤ 10 * nl N := by
  refine dg_len_le ?_
  have h := lt_nl N
  have h2 : 4294967296 ^ nl N ≤ (10 ^ 10) ^ nl N := Nat.pow_le_pow_left (by decide) _
  rw [← Nat.pow_mul] at h2
  omega

set_option maxHeartbeats 2000000 in
theorem ref_print {a : Option Addr} {n c : Nat} {zs : List Int} {w : World} (h : IsWords w (.slice a n c) zs) (hz : Wd zs) (hn : n ≤ 1000000) (N : Nat) (hN : val zs = N) :
    Calls Tryz.prog 79 #[.slice a n c] w fun e w' => e = .returned (.string ⟨(decOf N).toArray⟩) ∧ Below w.heap.size w w' := by
  have T := ref_trim a n c zs w h hz (by omega)
  rw [hN] at T
  unfold Ans at T
  have lN : nl N ≤ 1000000 := by rw [← hN]; exact nl_small hz _ (by rw [h.len]; exact hn)
  clear h hz hn hN
  rcases Nat.eq_zero_or_pos N with h0 | h0
  · subst h0
    simp only [nl_zero] at T
    rw [decOf_zero]
    go_enter Tryz.func79, Tryz.ntmps79
    go_wp2_with (go_at_call 41; (with_reducible refine Calls.mono T ?_); rintro e w1 ⟨a1, c1, rfl, o1⟩)
    go_ret
    exact ⟨rfl, o1.below⟩
  · have hN0 : ((nl N : Int) == 0) = false := by have := nl_pos h0; simp; omega
    rw [decOf_pos h0]
    have LD := dg_words N
    have HL : Hid (nl N ≤ 1000000 ∧ (dg N).length ≤ 10000000) := ⟨lN, by omega⟩
    clear h0 LD lN
    go_enter Tryz.func79, Tryz.ntmps79
    go_wp2_with (go_at_call 41; (with_reducible refine Calls.mono T ?_); rintro e w1 ⟨a1, c1, rfl, o1⟩)
    clear T hN0
    go_loopg [3, 4, 5, 6, 7] N (fun X s3 s4 s5 s6 s7 v => ∃ (a3 : Option Addr) (c3 : Nat) (l : List UInt8), s3 = .slice a3 (nl X) c3 ∧ s4 = .string ⟨l.toArray⟩ ∧ Own w v (.slice a3 (nl X) c3) (nl X) (natOf X) ∧ dg X ++ l = dg N ∧ nl X ≤ 1000000)
    case atStart => exact ⟨_, _, [], rfl, rfl, o1, by simp, HL.out.1⟩
    case round =>
      obtain ⟨a3, c3, l, rfl, rfl, o3, hd, hl⟩ := hrel
      clear o1
      rcases Nat.eq_zero_or_pos gk with h0 | h0
      · subst h0
        rw [dg_zero, List.nil_append] at hd
        rw [nl_zero] at o3 ⊢
        have HD : Hid (l = dg N) := hd
        clear hd hl
        go_wp2
        go_ret
        exact ⟨by rw [← HD.out]; rfl, o3.below⟩
      · have S := ref_small4 a3 (nl gk) c3 (natOf gk) 10 wr o3.words (wd_natOf gk) (by omega) (by omega) (by omega)
        rw [val_natOf, show (10 : Int).toNat = 10 from rfl] at S
        unfold AnsSmall at S
        have hp : 0 < (nl gk : Int) := by have := nl_pos h0; omega
        have HX : Hid (dg gk ++ l = dg N ∧ 0 < gk ∧ nl gk ≤ 1000000) := ⟨hd, h0, hl⟩
        have hls : (1 : Int) + l.length ≤ 9223372036854775807 := by
          have := congrArg List.length hd
          rw [List.length_append] at this
          have := HL.out.2
          omega
        clear hd h0 hl
        obtain ⟨r, hr, r0, r1⟩ : ∃ r : Int, ((gk % 10 : Nat) : Int) = r ∧ 0 ≤ r ∧ r < 10 := ⟨_, rfl, by omega, by omega⟩
        rw [hr] at S
        have CV := fun v => conv_byte1 v (UInt8.ofNat (48 + gk % 10)) (48 + r) (by rw [digit_nat]; omega)
        have hdg := dg_pos HX.out.2.1
        generalize UInt8.ofNat (48 + gk % 10) = d at CV hdg
        have HG : Hid (dg gk = dg (gk / 10) ++ [d]) := hdg
        clear hr hdg
        go_wp2_with (go_at_call 111; (with_reducible refine Calls.mono S ?_); rintro e w2 ⟨a4, c4, rfl, o4⟩)
        obtain ⟨x1, x2, x3⟩ := HX.out
        go_roundg (gk / 10)
        case measure => omega
        case rel => exact ⟨a4, c4, d :: l, rfl, by rw [ByteArray.mk_append_mk]; simp, (o4.outer o3.below).alloc _, by rw [← x1, HG.out]; simp, Nat.le_trans (nl_mono (by omega)) x3⟩

/-- What Parse tells: the number, and the error. -/
def pnum (l : List UInt8) : Nat := if l.length ≤ 1000 ∧ Num l then valD l else 0
def perr (l : List UInt8) : Int := if 1000 < l.length then 4 else if Num l then 0 else 2
/-- What Parse answers. -/
def AnsP (W : World) (N : Nat) (E : Int) (e : Ending) (w' : World) : Prop := ∃ a c, e = .returned (.tuple #[.slice a (nl N) c, .int .i64 E]) ∧ Own W w' (.slice a (nl N) c) (nl N) (natOf N)

theorem ansP_no {W w' : World} {E : Int} (h : Below W.heap.size W w') : AnsP W 0 E (.returned (.tuple #[.slice none 0 0, .int .i64 E])) w' :=
  ⟨none, 0, by rw [nl_zero], by rw [nl_zero, natOf_zero]; exact Own.nil h⟩
theorem pnum_long {l : List UInt8} (h : 1000 < l.length) : pnum l = 0 := if_neg (by omega)
theorem perr_long {l : List UInt8} (h : 1000 < l.length) : perr l = 4 := if_pos h
theorem pnum_no {l : List UInt8} (h : ¬ Num l) : pnum l = 0 := if_neg (by rintro ⟨-, e⟩; exact h e)
theorem perr_no {l : List UInt8} (h1 : l.length ≤ 1000) (h : ¬ Num l) : perr l = 2 := by unfold perr; rw [if_neg (by omega), if_neg h]
theorem pnum_ok {l : List UInt8} (h1 : l.length ≤ 1000) (h : Num l) : pnum l = valD l := if_pos ⟨h1, h⟩
theorem perr_ok {l : List UInt8} (h1 : l.length ≤ 1000) (h : Num l) : perr l = 0 := by unfold perr; rw [if_neg (by omega), if_pos h]

theorem byte_eq48 {c : UInt8} (h : ((c.toNat : Int) == 48) = true) : c = 48 := by
  have h1 : (c.toNat : Int) = 48 := by simpa using h
  refine UInt8.toNat_inj.1 ?_
  show c.toNat = 48
  omega
theorem drop_byte (s : ByteArray) (t : Nat) (h : t < s.size) : s.data.toList.drop t = s[t] :: s.data.toList.drop (t + 1) := by
  rw [List.drop_eq_getElem_cons (by simpa using h)]; rfl
theorem nl_ten (j : Nat) : nl (10 ^ j) ≤ j + 1 := by
  refine nl_le _ _ ?_
  have h : (10 : Nat) ^ j ≤ 4294967296 ^ j := Nat.pow_le_pow_left (by omega) j
  have h2 : (4294967296 : Nat) ^ j < 4294967296 ^ (j + 1) := Nat.pow_lt_pow_right (by omega) (by omega)
  omega
theorem nl_digits {l : List UInt8} (h : DigS l) : nl (valD l) ≤ l.length + 1 := Nat.le_trans (nl_mono (Nat.le_of_lt (valD_lt h))) (nl_ten _)

set_option maxHeartbeats 4000000 in
theorem ref_parse (s : ByteArray) (w : World) (hs : s.size ≤ maxLen) :
    Calls Tryz.prog 73 #[.string s] w (AnsP w (pnum s.data.toList) (perr s.data.toList)) := by
  unfold maxLen at hs
  have hsz : s.data.toList.length = s.size := by simp
  by_cases h1 : 1000 < s.size
  · rw [pnum_long (by omega), perr_long (by omega)]
    clear hsz
    go_enter Tryz.func73, Tryz.ntmps73
    go_wp2
    go_ret2
    exact ansP_no (Below.refl _ _)
  have h1' : ¬ (1000 : Int) < (s.size : Int) := by omega
  by_cases h2 : s.size = 0
  · have hn : ¬ Num s.data.toList := fun h => h.1 (List.eq_nil_of_length_eq_zero (by omega))
    rw [pnum_no hn, perr_no (by omega) hn]
    clear hsz hs
    go_enter Tryz.func73, Tryz.ntmps73
    go_wp2
    go_ret2
    exact ansP_no (Below.refl _ _)
  have h2' : ((s.size : Int) == 0) = false := by rw [beq_eq_false_iff_ne]; omega
  have L1 : Own w (w.alloc (.cells #[.int .u32 1] 62)) (.slice (some ⟨w.heap.size, 0, none⟩) 1 1) 1 [1] := own_lit w w [1] 1 (Below.refl _ _) rfl (by decide)
  go_enter Tryz.func73, Tryz.ntmps73
  go_wp2
  obtain ⟨n1, l1⟩ := nat_word1 (x := 1) (by omega) (by omega)
  go_loopg [4, 5, 6] s.size (fun k s4 s5 s6 v => ∃ (a4 : Option Addr) (c4 : Nat) (a5 : Option Addr) (c5 : Nat) (n4 n5 : Nat), k ≤ s.size ∧ s4 = .slice a4 n4 c4 ∧ s5 = .slice a5 n5 c5 ∧ s6 = .int .i64 ((k : Int) - 1) ∧ n4 = nl (valD (s.data.toList.drop k)) ∧ n5 = nl (10 ^ (s.size - k)) ∧ Own w v (.slice a4 n4 c4) n4 (natOf (valD (s.data.toList.drop k))) ∧ Own w v (.slice a5 n5 c5) n5 (natOf (10 ^ (s.size - k))) ∧ DigS (s.data.toList.drop k))
  case atStart =>
    have e : s.data.toList.drop s.size = [] := List.drop_of_length_le (by simp)
    refine ⟨none, 0, _, _, _, _, Nat.le_refl _, rfl, rfl, rfl, ?_, ?_, ?_, ?_, ?_⟩
    · rw [e, valD_nil, nl_zero]
    · rw [Nat.sub_self, Nat.pow_zero, l1]
    · rw [e, valD_nil, natOf_zero]; exact Own.nil L1.below
    · rw [Nat.sub_self, Nat.pow_zero, n1]; exact L1
    · rw [e]; intro c hc; cases hc
  case round =>
    obtain ⟨a4, c4, a5, c5, n4, n5, hk, rfl, rfl, rfl, e4, e5, o4, o5, hd⟩ := hrel
    clear L1 n1 l1
    have HD : Hid (DigS (s.data.toList.drop gk)) := hd
    cases gk with
    | zero =>
      rw [List.drop_zero] at e4 o4 hd HD
      subst e4
      have HL : Hid (s.data.toList.length = s.size) := hsz
      have hpos : 0 < s.size := by omega
      have hhd : s.data.toList.head? = some s[0] := by
        have := drop_byte s 0 hpos
        rw [List.drop_zero] at this
        rw [this]; rfl
      rw [show ((0 : Nat) : Int) - 1 = -1 from rfl]
      clear e5 o5 hsz
      by_cases hc : ((s[0].toNat : Int) == 48) = true
      · have e48 := byte_eq48 hc
        by_cases hl : (1 : Int) < (s.size : Int)
        · have hn : ¬ Num s.data.toList := fun h => by
            have := h.2.2 (by rw [hhd, e48])
            have := HL.out
            omega
          have HQ : Hid (pnum s.data.toList = 0 ∧ perr s.data.toList = 2) := ⟨pnum_no hn, perr_no (by have := HL.out; omega) hn⟩
          clear hn hd HD hhd e48 h2 hs
          go_wp2
          go_ret2
          rw [HQ.out.1, HQ.out.2]
          exact ansP_no o4.below
        · have hn : Num s.data.toList := ⟨fun e => (by rw [e] at hhd; cases hhd), hd, fun _ => (by have := HL.out; omega)⟩
          have HQ : Hid (pnum s.data.toList = valD s.data.toList ∧ perr s.data.toList = 0) := ⟨pnum_ok (by have := HL.out; omega) hn, perr_ok (by have := HL.out; omega) hn⟩
          clear hn hd HD hhd e48 h2 hs
          go_wp2
          go_ret2
          rw [HQ.out.1, HQ.out.2]
          exact ⟨_, _, rfl, o4⟩
      · have hc' : ((s[0].toNat : Int) == 48) = false := by simpa using hc
        have hn : Num s.data.toList := by
          refine ⟨fun e => (by rw [e] at hhd; cases hhd), hd, fun e => ?_⟩
          rw [hhd] at e
          have := Option.some.inj e
          rw [this] at hc
          exact absurd rfl hc
        have HQ : Hid (pnum s.data.toList = valD s.data.toList ∧ perr s.data.toList = 0) := ⟨pnum_ok (by have := HL.out; omega) hn, perr_ok (by have := HL.out; omega) hn⟩
        clear hn hd HD hhd h2 hs hc
        go_wp2
        go_ret2
        rw [HQ.out.1, HQ.out.2]
        exact ⟨_, _, rfl, o4⟩
    | succ t =>
      have ht : t < s.size := by omega
      have hdr := drop_byte s t ht
      rw [show ((t + 1 : Nat) : Int) - 1 = t by omega]
      by_cases hc : 48 ≤ (s[t].toNat : Int) ∧ (s[t].toNat : Int) ≤ 57
      · obtain ⟨c0, c1⟩ := hc
        have HV : Hid (valD (s.data.toList.drop t) = 10 ^ (s.size - (t + 1)) * (s[t].toNat - 48) + 0 + valD (s.data.toList.drop (t + 1))) := by
          show _ = _
          rw [hdr, valD_cons, List.length_drop, hsz, Nat.mul_comm]; omega
        have HP : Hid (10 ^ (s.size - t) = 10 ^ (s.size - (t + 1)) * 10 + 0) := by
          show _ = _
          rw [← Nat.pow_succ]; congr 1; omega
        have HD2 : Hid (DigS (s.data.toList.drop t)) := by
          show DigS _
          rw [hdr, digS_cons]; exact ⟨by omega, hd⟩
        have b4 := nl_digits hd
        rw [List.length_drop, hsz] at b4
        have b5 := nl_ten (s.size - (t + 1))
        have O1 := fun v (p : IsWords v (.slice a5 n5 c5) (natOf (10 ^ (s.size - (t + 1))))) => ref_one a5 n5 c5 _ ((s[t].toNat : Int) - 48) 0 v p (wd_natOf _) (by omega) (by omega) (by omega) (by omega) (by omega)
        have O2 := fun v (p : IsWords v (.slice a5 n5 c5) (natOf (10 ^ (s.size - (t + 1))))) => ref_one a5 n5 c5 _ 10 0 v p (wd_natOf _) (by omega) (by omega) (by omega) (by omega) (by omega)
        simp only [val_natOf, show (0 : Int).toNat = 0 from rfl, show (10 : Int).toNat = 10 from rfl, show ((s[t].toNat : Int) - 48).toNat = s[t].toNat - 48 by omega] at O1 O2
        rw [← HP.out] at O2
        have b6 : nl (10 ^ (s.size - (t + 1)) * (s[t].toNat - 48) + 0) ≤ 2000 := by
          have h1 : 10 ^ (s.size - (t + 1)) * (s[t].toNat - 48) + 0 ≤ 10 ^ (s.size - t) := by
            rw [HP.out]; exact Nat.add_le_add_right (Nat.mul_le_mul_left _ (by omega)) 0
          exact Nat.le_trans (nl_mono h1) (Nat.le_trans (nl_ten _) (by omega))
        have AD := fun v a1 c1 (p : IsWords v (.slice a4 n4 c4) (natOf (valD (s.data.toList.drop (t + 1))))) (q : IsWords v (.slice a1 (nl (10 ^ (s.size - (t + 1)) * (s[t].toNat - 48) + 0)) c1) (natOf (10 ^ (s.size - (t + 1)) * (s[t].toNat - 48) + 0))) => ref_nadd _ _ _ _ _ _ _ _ v p (wd_natOf _) q (wd_natOf _) (by omega) (by omega)
        simp only [val_natOf] at AD
        rw [Nat.add_comm (valD _), ← HV.out] at AD
        unfold Ans at O1 O2 AD
        clear HV HP
        generalize 10 ^ (s.size - (t + 1)) * (s[t].toNat - 48) + 0 = K1 at O1 AD b6
        generalize 10 ^ (s.size - (t + 1)) = K2 at O1 O2 o5 e5 b5
        generalize hK3 : 10 ^ (s.size - t) = K3 at O2
        generalize valD (s.data.toList.drop (t + 1)) = K4 at e4 o4 b4 AD
        generalize hK5 : valD (s.data.toList.drop t) = K5 at AD
        have HK : Hid (10 ^ (s.size - t) = K3 ∧ valD (s.data.toList.drop t) = K5) := ⟨hK3, hK5⟩
        clear hK3 hK5 hdr hd HD hsz hs b4 b5 b6 e4 e5 h2
        go_wp2_with (first
          | (go_at_call 97; (with_reducible refine Calls.mono (O1 _ o5.words) ?_); rintro e w2 ⟨a6, c6, rfl, o6⟩; have p4 := o4.more o6.below; have p5 := o5.more o6.below)
          | (go_at_call 95; (with_reducible refine Calls.mono (AD _ _ _ p4.words o6.words) ?_); rintro e w3 ⟨a7, c7, rfl, o7⟩; have q5 := p5.more o7.below)
          | (go_at_call 97; (with_reducible refine Calls.mono (O2 _ q5.words) ?_); rintro e w4 ⟨a8, c8, rfl, o8⟩; have r7 := (o7.more o8.below).outer p4.below; have r8 := o8.outer q5.below))
        obtain ⟨k3, k5⟩ := HK.out
        go_roundg t
        case measure => omega
        case rel => exact ⟨_, _, _, _, _, _, by omega, rfl, rfl, by go_num, by rw [k5], by rw [k3], by rw [k5]; exact r7, by rw [k3]; exact r8, HD2.out⟩
      · have hn : ¬ Num s.data.toList := fun h => by
          have := h.2.1 s[t] (by rw [← List.take_append_drop t s.data.toList, hdr]; simp)
          omega
        have HQ : Hid (pnum s.data.toList = 0 ∧ perr s.data.toList = 2) := ⟨pnum_no hn, perr_no (by omega) hn⟩
        rcases (by omega : (s[t].toNat : Int) < 48 ∨ (¬ (s[t].toNat : Int) < 48 ∧ 57 < (s[t].toNat : Int))) with c0 | ⟨c0, c1⟩
        all_goals
          clear hn hdr hd HD hsz hs hc e4 e5 o5 h2
          go_wp2
          go_ret2
          rw [HQ.out.1, HQ.out.2]
          exact ansP_no o4.below

theorem decOf_words {A n : Nat} (h : nl A ≤ n) (hn : 1 ≤ n) : (decOf A).length ≤ 10 * n := by
  rcases Nat.eq_zero_or_pos A with rfl | h0
  · rw [decOf_zero]; simp; omega
  · rw [decOf_pos h0]; have := dg_words A; omega

theorem mk_inj {l m : List UInt8} : (ByteArray.mk l.toArray = ByteArray.mk m.toArray) ↔ l = m := by
  rw [ByteArray.mk.injEq]; simp
theorem mk_data (s : ByteArray) : ByteArray.mk s.data.toList.toArray = s := by cases s; simp
end Go.Proofs.YtpimcbncmfpdhaaGreatDoor
/-
  Contracts of the document's own answers of layer 7 (package talwegref07: Cmp, Print, Parse): as integers and texts; memory that was there stays, and what is answered is the call's own.
-/
namespace Go.Proofs.YtpimcbncmfpdhaaGreatDoor
open Go.RowKit

theorem sgn_signs {x y : Int} : (x < 0 ∧ y < 0 ∧ sgn x y = - sgn (x.natAbs : Int) y.natAbs) ∨ (x < 0 ∧ ¬ y < 0 ∧ sgn x y = -1) ∨ (¬ x < 0 ∧ y < 0 ∧ sgn x y = 1) ∨ (¬ x < 0 ∧ ¬ y < 0 ∧ sgn x y = sgn (x.natAbs : Int) y.natAbs) := by
  rcases Int.lt_or_le x 0 with h1 | h1 <;> rcases Int.lt_or_le y 0 with h2 | h2
  · refine .inl ⟨h1, h2, ?_⟩
    rcases Int.lt_trichotomy x y with h | h | h
    · rw [sgn_lt h, sgn_gt (by omega)]
    · rw [sgn_eq h, sgn_eq (by omega)]; rfl
    · rw [sgn_gt h, sgn_lt (by omega)]; rfl
  · exact .inr (.inl ⟨h1, by omega, sgn_lt (by omega)⟩)
  · exact .inr (.inr (.inl ⟨by omega, h2, sgn_gt (by omega)⟩))
  · refine .inr (.inr (.inr ⟨by omega, by omega, ?_⟩))
    rw [show ((x.natAbs : Nat) : Int) = x by omega, show ((y.natAbs : Nat) : Int) = y by omega]

theorem sgn_range (x y : Int) : -1 ≤ sgn x y ∧ sgn x y ≤ 1 := by
  unfold sgn; split
  · omega
  · split <;> omega

set_option maxHeartbeats 4000000 in
theorem ref_icmp {s : Bool} {a : Option Addr} {n c : Nat} {xs : List Int} {t : Bool} {b : Option Addr} {m d : Nat} {ys : List Int} {w : World} (h : IsWords w (.slice a n c) xs) (hx : Wd xs) (k : IsWords w (.slice b m d) ys) (hy : Wd ys) (hn : n ≤ 100000000) (hm : m ≤ 100000000) (g : Int) (hv : sgn (iv s (val xs)) (iv t (val ys)) = g) :
    Calls Tryz.prog 61 #[.agg #[.bool s, .slice a n c], .agg #[.bool t, .slice b m d]] w fun e w' => e = .returned (.int .i64 g) ∧ Below w.heap.size w w' := by
  have l1 : nl (iv s (val xs)).natAbs ≤ n := by rw [iv_abs]; exact nl_small hx n (by rw [h.len]; omega)
  have l2 : nl (iv t (val ys)).natAbs ≤ m := by rw [iv_abs]; exact nl_small hy m (by rw [k.len]; omega)
  obtain ⟨b1, b2, bV, hs⟩ := boxes2 w #[.bool s, .slice a n c] #[.bool t, .slice b m d] 26 26
  have F1 := fun v (hb : Below w.heap.size w v) => ref_ifix (s := s) (h.below hb) hx (by omega) _ rfl
  have F2 := fun v (hb : Below w.heap.size w v) => ref_ifix (s := t) (k.below hb) hy (by omega) _ rfl
  unfold AnsI at F1 F2
  have C := fun v a1 c1 a2 c2 (p : IsWords v (.slice a1 (nl (iv s (val xs)).natAbs) c1) (natOf (iv s (val xs)).natAbs)) (q : IsWords v (.slice a2 (nl (iv t (val ys)).natAbs) c2) (natOf (iv t (val ys)).natAbs)) => ref_cmp _ _ _ _ _ _ _ _ v p (wd_natOf _) q (wd_natOf _) (by omega) (by omega)
  simp only [val_natOf] at C
  clear h k hx hy hn hm l1 l2
  generalize iv s (val xs) = x at *
  generalize iv t (val ys) = y at *
  have hr := sgn_range (x.natAbs : Int) y.natAbs
  rcases sgn_signs (x := x) (y := y) with ⟨h1, h2, e⟩ | ⟨h1, h2, e⟩ | ⟨h1, h2, e⟩ | ⟨h1, h2, e⟩
  case' inl => rw [decide_eq_true h1] at F1; rw [decide_eq_true h2] at F2
  case' inr.inl => rw [decide_eq_true h1] at F1; rw [decide_eq_false h2] at F2
  case' inr.inr.inl => rw [decide_eq_false h1] at F1; rw [decide_eq_true h2] at F2
  case' inr.inr.inr => rw [decide_eq_false h1] at F1; rw [decide_eq_false h2] at F2
  all_goals
    rw [e] at hv
    generalize sgn (x.natAbs : Int) y.natAbs = cc at C hv hr
    subst hv
    clear h1 h2 e
    generalize x.natAbs = N1 at *
    generalize y.natAbs = N2 at *
    go_enter Tryz.func61, Tryz.ntmps61
    go_wp2_with (first
      | (go_at_call 90; (with_reducible refine Calls.mono (F1 _ bV) ?_); rintro e w1 ⟨a1, c1, rfl, o1⟩; have B1 := fun q => BoxC.new w1 #[.bool q, .slice a1 (nl N1) c1] 26; have u0 := fun o => ((b2.more o1.below).alloc o).cells2.1; have u1 := fun o => ((b2.more o1.below).alloc o).cells2.2.1; have d1 := fun o => (below_more bV o1.below).alloc (below_more bV o1.below).size o)
      | (go_at_call 90; (with_reducible refine Calls.mono (F2 _ (d1 _)) ?_); rintro e w2 ⟨a2, c2, rfl, o2⟩; have v0 := fun o => (((B1 _).more o2.below).alloc o).cells2.1; have v1 := fun o => (((B1 _).more o2.below).alloc o).cells2.2.1; have p1 := fun o => (((o1.alloc _).more o2.below).alloc o).words; have p2 := fun o => (o2.alloc o).words; have d2 := fun o => (below_more (d1 _) o2.below).alloc (below_more (d1 _) o2.below).size o)
      | (go_at_call 91; (with_reducible refine Calls.mono (C _ _ _ _ _ (p1 _) (p2 _)) ?_); rintro e w3 ⟨rfl, rfl⟩))
    go_ret
    exact ⟨rfl, d2 _⟩

/-- The text of an integer. -/
def decI (z : Int) : List UInt8 := if z < 0 then 45 :: decOf z.natAbs else decOf z.natAbs

set_option maxHeartbeats 4000000 in
theorem ref_iprint {s : Bool} {a : Option Addr} {n c : Nat} {zs : List Int} {w : World} (h : IsWords w (.slice a n c) zs) (hz : Wd zs) (hn : n ≤ 1000000) (z : Int) (hv : iv s (val zs) = z) :
    Calls Tryz.prog 78 #[.agg #[.bool s, .slice a n c]] w fun e w' => e = .returned (.string ⟨(decI z).toArray⟩) ∧ Below w.heap.size w w' := by
  have F1 := fun v (hb : Below w.heap.size w v) => ref_ifix (s := s) (h.below hb) hz (by omega) z hv
  have l1 : nl z.natAbs ≤ n := by rw [← hv, iv_abs]; exact nl_small hz n (by rw [h.len]; omega)
  have P := fun v a1 c1 (p : IsWords v (.slice a1 (nl z.natAbs) c1) (natOf z.natAbs)) => ref_print p (wd_natOf _) (by omega) _ (val_natOf _)
  have ld := decOf_words (n := n + 1) (A := z.natAbs) (by omega) (by omega)
  have hsz : (1 : Int) + (decOf z.natAbs).length ≤ 9223372036854775807 := by omega
  obtain ⟨b1, bV, hs⟩ := boxes1 w #[.bool s, .slice a n c] 26
  unfold AnsI at F1
  clear h hz hn hv l1 ld
  by_cases h0 : z < 0
  case' pos =>
    have e : decI z = 45 :: decOf z.natAbs := if_pos h0
    rw [decide_eq_true h0] at F1
    have HA : Hid ((⟨#[45]⟩ ++ ⟨(decOf z.natAbs).toArray⟩ : ByteArray) = ⟨(45 :: decOf z.natAbs).toArray⟩) := by
      show _ = _
      rw [ByteArray.mk_append_mk]; simp
  case' neg =>
    have e : decI z = decOf z.natAbs := if_neg h0
    rw [decide_eq_false h0] at F1
  all_goals
    rw [e]
    clear e
    generalize decOf z.natAbs = l at *
    generalize z.natAbs = N at *
    go_enter Tryz.func78, Tryz.ntmps78
    go_wp2_with (first
      | (go_at_call 90; (with_reducible refine Calls.mono (F1 _ bV) ?_); rintro e w1 ⟨a1, c1, rfl, o1⟩; have d1 := fun o => (below_more bV o1.below).alloc (below_more bV o1.below).size o; have p1 := fun o => (o1.alloc o).words)
      | (go_at_call 79; (with_reducible refine Calls.mono (P _ _ _ (p1 _)) ?_); rintro e w2 ⟨rfl, b2⟩))
    go_ret
    first
      | exact ⟨rfl, below_more (d1 _) b2⟩
      | exact ⟨by rw [← HA.out]; rfl, below_more (d1 _) b2⟩

/-- A text without its sign; whether it has one. -/
def stripI (l : List UInt8) : List UInt8 := if l.head? = some 45 then l.tail else l
def minusI (l : List UInt8) : Bool := decide (l.head? = some 45)
/-- The integer of a text, and the error. -/
def znum (l : List UInt8) : Int := iv (minusI l) (pnum (stripI l))
def zerr (l : List UInt8) : Int := perr (stripI l)
/-- What Parse answers. -/
def AnsIP (W : World) (z E : Int) (e : Ending) (w' : World) : Prop :=
  ∃ a c, e = .returned (.tuple #[.agg #[.bool (decide (z < 0)), .slice a (nl z.natAbs) c], .int .i64 E]) ∧ Own W w' (.slice a (nl z.natAbs) c) (nl z.natAbs) (natOf z.natAbs)

theorem extract_tail (s : ByteArray) : (s.extract 1 s.size).data.toList = s.data.toList.tail := by
  rw [ByteArray.data_extract, Array.toList_extract]
  simp
  exact List.take_of_length_le (by simp)
theorem pnum_err {l : List UInt8} (h : perr l ≠ 0) : pnum l = 0 := by
  by_cases h1 : l.length ≤ 1000 ∧ Num l
  · exact absurd (perr_ok h1.1 h1.2) h
  · exact if_neg h1
theorem iv_zero (s : Bool) : iv s 0 = 0 := by cases s <;> rfl
theorem pnum_words (l : List UInt8) : nl (pnum l) ≤ 1001 := by
  unfold pnum; split
  · rename_i h; exact Nat.le_trans (nl_digits h.2.2.1) (by omega)
  · rw [nl_zero]; omega

set_option maxHeartbeats 4000000 in
theorem ref_iparse (s : ByteArray) (w : World) (hs : s.size ≤ maxLen) :
    Calls Tryz.prog 72 #[.string s] w (AnsIP w (znum s.data.toList) (zerr s.data.toList)) := by
  obtain ⟨b1, bV, hb⟩ := boxes1 w #[.bool false, .slice none 0 0] 26
  have hs' := hs
  unfold maxLen at hs'
  obtain ⟨g, u, hu, hg, hg2, hsz⟩ : ∃ (g : Bool) (u : ByteArray), stripI s.data.toList = u.data.toList ∧ minusI s.data.toList = g ∧ (g = true ∧ 0 < s.size ∧ (∀ h : 0 < s.size, ((s[0].toNat : Int) == 45) = true) ∧ s.extract 1 s.size = u ∨ g = false ∧ u = s ∧ (s.size = 0 ∨ 0 < s.size ∧ ∀ h : 0 < s.size, ((s[0].toNat : Int) == 45) = false)) ∧ u.size ≤ maxLen := by
    rcases Nat.eq_zero_or_pos s.size with h0 | h0
    · have e : s.data.toList = [] := List.eq_nil_of_length_eq_zero (by simpa using h0)
      exact ⟨false, s, by rw [e]; rfl, by rw [e]; rfl, .inr ⟨rfl, rfl, .inl h0⟩, hs⟩
    · have hh : s.data.toList.head? = some s[0] := by
        have := drop_byte s 0 h0
        rw [List.drop_zero] at this
        rw [this]; rfl
      by_cases hc : s[0] = 45
      · refine ⟨true, s.extract 1 s.size, ?_, ?_, .inl ⟨rfl, h0, fun _ => by rw [hc]; rfl, rfl⟩, ?_⟩
        · rw [extract_tail]; unfold stripI; rw [if_pos (by rw [hh, hc])]
        · unfold minusI; rw [hh, hc]; rfl
        · rw [ByteArray.size_extract]; unfold maxLen at hs ⊢; omega
      · refine ⟨false, s, ?_, ?_, .inr ⟨rfl, rfl, .inr ⟨h0, fun _ => ?_⟩⟩, hs⟩
        · unfold stripI; rw [if_neg (by rw [hh]; intro e; exact hc (Option.some.inj e))]
        · unfold minusI; rw [hh]; simp [hc]
        · rw [beq_eq_false_iff_ne]
          intro e
          refine hc (UInt8.toNat_inj.1 ?_)
          show s[0].toNat = 45
          omega
  have P := fun v => ref_parse u v hsz
  unfold znum zerr
  rw [hu, hg]
  have lp := pnum_words u.data.toList
  have FX := fun v a1 c1 (p : IsWords v (.slice a1 (nl (pnum u.data.toList)) c1) (natOf (pnum u.data.toList))) => ref_ifix (s := g) p (wd_natOf _) (by omega) (iv g (pnum u.data.toList)) (by rw [val_natOf])
  have hE : perr u.data.toList = 0 ∨ (perr u.data.toList != 0) = true ∧ pnum u.data.toList = 0 := by
    by_cases h : perr u.data.toList = 0
    · exact .inl h
    · exact .inr ⟨by simpa using h, pnum_err h⟩
  unfold AnsP at P
  unfold AnsI at FX
  generalize pnum u.data.toList = K at *
  generalize perr u.data.toList = E at *
  clear hu hg hs lp hsz
  have HZ : Hid (K = 0 → iv g K = 0) := fun e => by rw [e]; exact iv_zero g
  rcases hE with rfl | ⟨hE, hK⟩
  · generalize iv g K = z at FX HZ ⊢
    unfold AnsIP
    generalize decide (z < 0) = r at FX ⊢
    generalize z.natAbs = N at FX ⊢
    clear HZ
    rcases hg2 with ⟨rfl, h0, hc, hu⟩ | ⟨rfl, rfl, hz⟩
    case' inl =>
      have hc := hc h0
      have h0' : (0 : Int) < s.size := by omega
      have h1' : (1 : Int) ≤ s.size := by omega
    case' inr =>
      rcases hz with hz | ⟨h0, hc⟩
    case' inr.inl => have h0' : ¬ (0 : Int) < u.size := by omega
    case' inr.inr =>
      have hc := hc h0
      have h0' : (0 : Int) < u.size := by omega
    all_goals
      go_enter Tryz.func72, Tryz.ntmps72
      go_wp2_with (first
        | (go_at_call 73; (with_reducible refine Calls.mono (P _) ?_); rintro e w1 ⟨a1, c1, rfl, o1⟩)
        | (go_at_call 90; (with_reducible refine Calls.mono (FX w1 _ _ o1.words) ?_); rintro e w2 ⟨a2, c2, rfl, o2⟩; obtain ⟨z0, z1, f0, f1⟩ := ((b1.more o1.below).more o2.below).cells2))
      have B1 := below_more bV o1.below
      have hs1 : w.heap.size < w1.heap.size := Nat.lt_of_lt_of_le hb o1.below.size
      have q := fun x y => ((o2.above B1).set (k := w.heap.size) (by omega) hs1 0 x).set (k := w.heap.size) (by omega) hs1 1 y
      exact bodyPost_ret (v := .tuple #[.agg #[.bool r, .slice a2 (nl N) c2], .int .i64 0]) (by simp [results, Tryz.results72, go_sem, z0, z1]) rfl ⟨a2, c2, rfl, (q _ _).own (by omega)⟩
  · rw [HZ.out hK]
    subst hK
    clear FX HZ
    simp only [nl_zero] at P
    rcases hg2 with ⟨rfl, h0, hc, hu⟩ | ⟨rfl, rfl, hz⟩
    case' inl =>
      have hc := hc h0
      have h0' : (0 : Int) < s.size := by omega
      have h1' : (1 : Int) ≤ s.size := by omega
    case' inr =>
      rcases hz with hz | ⟨h0, hc⟩
    case' inr.inr.inl => have h0' : ¬ (0 : Int) < u.size := by omega
    case' inr.inr.inr =>
      have hc := hc h0
      have h0' : (0 : Int) < u.size := by omega
    all_goals
      go_enter Tryz.func72, Tryz.ntmps72
      go_wp2_with (go_at_call 73; (with_reducible refine Calls.mono (P _) ?_); rintro e w1 ⟨a1, c1, rfl, o1⟩; obtain ⟨z0, z1, f0, f1⟩ := (b1.more o1.below).cells2)
      have B1 := below_more bV o1.below
      have q := fun x y => (B1.setCell (p := ⟨w.heap.size, 0, none⟩) (Nat.le_refl _) x).setCell (p := ⟨w.heap.size, 1, none⟩) (Nat.le_refl _) y
      exact bodyPost_ret (v := .tuple #[.agg #[.bool false, .slice none 0 0], .int .i64 E]) (by simp [results, Tryz.results72, go_sem, z0, z1]) rfl ⟨none, 0, by simp [nl_zero], by simpa [nl_zero, natOf_zero] using Own.nil (q _ _)⟩
end Go.Proofs.YtpimcbncmfpdhaaGreatDoor
/-
  What the statements over integers ask of package whole (its contracts), and the chapter's examples by them: for whatever package whole keeps these; memory that was there stays.
-/
namespace Go.Proofs.YtpimcbncmfpdhaaGreatDoor
open Go.RowKit

/-- An Int that reads as the integer x. -/
def RI (w : World) (s : Bool) (a : Option Addr) (n c : Nat) (x : Int) : Prop := ∃ zs, IsWords w (.slice a n c) zs ∧ Wd zs ∧ n ≤ 100000 ∧ iv s (val zs) = x
theorem RI.below {w w' : World} {s : Bool} {a : Option Addr} {n c : Nat} {x : Int} (h : RI w s a n c x) (hb : Below w.heap.size w w') : RI w' s a n c x := by
  obtain ⟨zs, h1, h2⟩ := h; exact ⟨zs, h1.below hb, h2⟩
theorem iv_self (z : Int) : iv (decide (z < 0)) z.natAbs = z := by
  unfold iv; by_cases h : z < 0 <;> simp [h] <;> omega
theorem Own.ri {W w : World} {a : Option Addr} {c : Nat} {z : Int} (o : Own W w (.slice a (nl z.natAbs) c) (nl z.natAbs) (natOf z.natAbs)) (hb : nl z.natAbs ≤ 100000) : RI w (decide (z < 0)) a (nl z.natAbs) c z :=
  ⟨_, o.words, wd_natOf _, hb, by rw [val_natOf, iv_self]⟩

theorem nl_iadd (x y : Int) : nl (x + y).natAbs ≤ nl x.natAbs + nl y.natAbs + 1 := by
  refine nl_le _ _ ?_
  have e1 := lt_nl x.natAbs
  have e2 := lt_nl y.natAbs
  have e3 : 4294967296 ^ nl x.natAbs ≤ 4294967296 ^ (nl x.natAbs + nl y.natAbs) := Nat.pow_le_pow_right (by omega) (by omega)
  have e4 : 4294967296 ^ nl y.natAbs ≤ 4294967296 ^ (nl x.natAbs + nl y.natAbs) := Nat.pow_le_pow_right (by omega) (by omega)
  rw [Nat.pow_succ]
  generalize 4294967296 ^ (nl x.natAbs + nl y.natAbs) = p at *
  omega
theorem nl_imul (x y : Int) : nl (x * y).natAbs ≤ nl x.natAbs + nl y.natAbs := by rw [Int.natAbs_mul]; exact nl_mul _ _
theorem nl_ineg (x : Int) : nl (-x).natAbs = nl x.natAbs := by rw [Int.natAbs_neg]
theorem nl_isub (x y : Int) : nl (x - y).natAbs ≤ nl x.natAbs + nl y.natAbs + 1 := by
  have := nl_iadd x (-y)
  rw [nl_ineg] at this
  exact this

theorem nl_two (n : Int) (h : n.natAbs < 18446744073709551616) : nl n.natAbs ≤ 2 := nl_le 2 _ h

end Go.Proofs.YtpimcbncmfpdhaaGreatDoor
/-
  Plain mathematics of rational numbers: the number of a sign and two numbers, its right form, how many words its two parts have. No conditions of the program.
-/
namespace Go.Proofs.YtpimcbncmfpdhaaGreatDoor

/-- The rational number of a sign and two numbers; 0, if the lower one is 0. -/
def rv (s : Bool) (A D : Nat) : Rat := mkRat (iv s A) D
/-- A sign and two numbers. -/
abbrev R3 := Bool × Nat × Nat
/-- The right form of a rational number. -/
def tri (q : Rat) : R3 := (decide (q.num < 0), q.num.natAbs, q.den)
/-- All fields zero. -/
def tri0 : R3 := (false, 0, 0)
/-- So many words at most. -/
def RS (k : Nat) (q : Rat) : Prop := nl q.num.natAbs ≤ k ∧ nl q.den ≤ k
/-- How two are to each other. -/
def rsgn (q r : Rat) : Int := sgn (q.num * r.den) (r.num * q.den)

theorem rv_tri (q : Rat) : rv (decide (q.num < 0)) q.num.natAbs q.den = q := by
  unfold rv; rw [iv_self]; exact Rat.mkRat_self q
theorem rv_den0 (s : Bool) (A : Nat) : rv s A 0 = 0 := Rat.mkRat_zero _
theorem rv_num0 (s : Bool) (D : Nat) : rv s 0 D = 0 := by
  unfold rv iv; cases s <;> simp
theorem iv_div (s : Bool) (A g : Nat) (h : g ∣ A) : iv s A / (g : Int) = iv s (A / g) := by
  unfold iv; cases s
  · simp
  · simp only [if_true]
    obtain ⟨k, rfl⟩ := h
    rcases Nat.eq_zero_or_pos g with rfl | hg
    · simp
    · rw [Nat.mul_div_cancel_left _ hg, Int.natCast_mul, ← Int.mul_neg, Int.mul_ediv_cancel_left _ (by omega)]
theorem rv_num (s : Bool) (A D : Nat) (h : 0 < D) : (rv s A D).num = iv s (A / Nat.gcd A D) := by
  unfold rv
  rw [Rat.num_mkRat, if_neg (by omega), iv_abs, Nat.gcd_comm, iv_div _ _ _ (Nat.gcd_dvd_left _ _)]
theorem rv_den (s : Bool) (A D : Nat) (h : 0 < D) : (rv s A D).den = D / Nat.gcd A D := by
  unfold rv
  rw [Rat.den_mkRat, if_neg (by omega), iv_abs, Nat.gcd_comm]
theorem tri_rv (s : Bool) (A D : Nat) (hA : 0 < A) (hD : 0 < D) : tri (rv s A D) = (s, A / Nat.gcd A D, D / Nat.gcd A D) := by
  unfold tri
  rw [rv_num s A D hD, rv_den s A D hD, iv_abs, iv_neg]
  have : 0 < A / Nat.gcd A D := Nat.div_pos (Nat.le_of_dvd hA (Nat.gcd_dvd_left _ _)) (Nat.gcd_pos_of_pos_left _ hA)
  simp [this]
theorem tri_zero : tri 0 = (false, 0, 1) := rfl
theorem tri_inj {q r : Rat} (h : tri q = tri r) : q = r := by
  rw [← rv_tri q, ← rv_tri r]
  unfold tri at h
  injection h with h1 h2
  injection h2 with h2 h3
  rw [h1, h2, h3]
theorem rv_zero_iff (s : Bool) (A D : Nat) : rv s A D = 0 ↔ A = 0 ∨ D = 0 := by
  rcases Nat.eq_zero_or_pos D with h | h
  · subst h; simp [rv_den0]
  · unfold rv
    rw [Rat.mkRat_eq_zero (by omega)]
    have := iv_abs s A
    constructor
    · intro e; rw [e] at this; simp at this; omega
    · rintro (e | e)
      · subst e; unfold iv; cases s <;> rfl
      · omega
theorem den_pos (q : Rat) : 0 < q.den := q.den_pos

/-! ### Words -/
theorem RS.mono {k m : Nat} {q : Rat} (h : RS k q) (hk : k ≤ m) : RS m q := ⟨Nat.le_trans h.1 hk, Nat.le_trans h.2 hk⟩
theorem rs_mk (n : Int) (d : Nat) (k : Nat) (h1 : nl n.natAbs ≤ k) (h2 : nl d ≤ k) (hk : 1 ≤ k) : RS k (mkRat n d) := by
  unfold RS
  rw [Rat.num_mkRat, Rat.den_mkRat]
  by_cases h : d = 0
  · rw [if_pos h, if_pos h]
    exact ⟨by rw [show (0 : Int).natAbs = 0 from rfl, nl_zero]; omega, Nat.le_trans (nl_le 1 1 (by omega)) hk⟩
  · rw [if_neg h, if_neg h]
    refine ⟨Nat.le_trans (nl_mono ?_) h1, Nat.le_trans (nl_mono (Nat.div_le_self _ _)) h2⟩
    exact Int.natAbs_ediv_le_natAbs _ _
theorem rs_rv {s : Bool} {A D k : Nat} (h1 : nl A ≤ k) (h2 : nl D ≤ k) (hk : 1 ≤ k) : RS k (rv s A D) := rs_mk _ _ _ (by rw [iv_abs]; exact h1) h2 hk
theorem nl_iadd_max {x y : Int} {p : Nat} (h1 : nl x.natAbs ≤ p) (h2 : nl y.natAbs ≤ p) : nl (x + y).natAbs ≤ p + 1 := by
  refine nl_le _ _ ?_
  have e1 := lt_nl x.natAbs
  have e2 := lt_nl y.natAbs
  have e3 : 4294967296 ^ nl x.natAbs ≤ 4294967296 ^ p := Nat.pow_le_pow_right (by omega) h1
  have e4 : 4294967296 ^ nl y.natAbs ≤ 4294967296 ^ p := Nat.pow_le_pow_right (by omega) h2
  rw [Nat.pow_succ]
  generalize 4294967296 ^ p = b at *
  omega
theorem rs_add {q r : Rat} {k m : Nat} (h : RS k q) (h2 : RS m r) : RS (k + m + 1) (q + r) := by
  rw [Rat.add_def']
  have d1 : ((q.den : Int)).natAbs = q.den := Int.natAbs_natCast _
  have d2 : ((r.den : Int)).natAbs = r.den := Int.natAbs_natCast _
  refine rs_mk _ _ _ (nl_iadd_max (Nat.le_trans (nl_imul _ _) ?_) (Nat.le_trans (nl_imul _ _) ?_)) (Nat.le_trans (nl_mul _ _) ?_) (by omega)
  · rw [d2]; exact Nat.add_le_add h.1 h2.2
  · rw [d1]; have := h.2; have := h2.1; omega
  · have := h.2; have := h2.2; omega
theorem rs_neg {q : Rat} {k : Nat} (h : RS k q) : RS k (-q) := by
  unfold RS at h ⊢; rw [Rat.neg_num, Rat.neg_den, Int.natAbs_neg]; exact h
theorem rs_mul {q r : Rat} {k m : Nat} (h : RS k q) (h2 : RS m r) (hk : 1 ≤ k + m) : RS (k + m) (q * r) := by
  rw [Rat.mul_def']
  exact rs_mk _ _ _ (Nat.le_trans (nl_imul _ _) (Nat.add_le_add h.1 h2.1)) (Nat.le_trans (nl_mul _ _) (Nat.add_le_add h.2 h2.2)) hk
theorem rs_sub {q r : Rat} {k m : Nat} (h : RS k q) (h2 : RS m r) : RS (k + m + 1) (q - r) := by
  rw [Rat.sub_eq_add_neg]; exact rs_add h (rs_neg h2)
theorem rs_inv {q : Rat} {k : Nat} (h : RS k q) (hk : 1 ≤ k) : RS k q⁻¹ := by
  unfold RS at h ⊢
  rw [Rat.num_inv, Rat.den_inv, Int.natAbs_mul, Int.natAbs_natCast]
  by_cases h0 : q.num = 0
  · rw [if_pos h0, h0]
    exact ⟨by rw [show (Int.sign 0).natAbs * q.den = 0 by simp, nl_zero]; omega, Nat.le_trans (nl_le 1 1 (by omega)) hk⟩
  · rw [if_neg h0, Int.natAbs_sign_of_ne_zero h0, Nat.one_mul]
    exact ⟨h.2, h.1⟩
theorem rs_int (n : Int) {k : Nat} (h : nl n.natAbs ≤ k) (hk : 1 ≤ k) : RS k (n : Rat) := ⟨h, Nat.le_trans (nl_le 1 1 (by omega)) hk⟩
/-- The right form of one turned. -/
theorem tri_inv {q : Rat} (h : q ≠ 0) : tri q⁻¹ = (decide (q.num < 0), q.den, q.num.natAbs) := by
  have h0 : q.num ≠ 0 := fun e => h (Rat.num_eq_zero.1 e)
  unfold tri
  rw [Rat.num_inv, Rat.den_inv, if_neg h0, Int.natAbs_mul, Int.natAbs_natCast, Int.natAbs_sign_of_ne_zero h0, Nat.one_mul]
  have : decide (q.num.sign * (q.den : Int) < 0) = decide (q.num < 0) := by
    have hd := q.den_pos
    rcases Int.lt_or_gt_of_ne h0 with h1 | h1
    · rw [Int.sign_eq_neg_one_of_neg h1]; simp only [decide_eq_decide]; omega
    · rw [Int.sign_eq_one_of_pos h1]; simp only [decide_eq_decide]; omega
  rw [this]
theorem tri_neg (q : Rat) : tri (-q) = (!decide (q.num < 0) && decide (0 < q.num.natAbs), q.num.natAbs, q.den) := by
  unfold tri
  rw [Rat.neg_num, Rat.neg_den, Int.natAbs_neg]
  generalize q.num = z
  congr 1
  rw [Bool.eq_iff_iff]; simp; omega
theorem num_zero_iff (q : Rat) : q.num.natAbs = 0 ↔ q = 0 := by rw [Int.natAbs_eq_zero]; exact Rat.num_eq_zero

/-! ### Order -/
theorem rsgn_lt {q r : Rat} (h : q < r) : rsgn q r = -1 := sgn_lt ((Rat.lt_iff q r).1 h)
theorem rsgn_gt {q r : Rat} (h : r < q) : rsgn q r = 1 := sgn_gt ((Rat.lt_iff r q).1 h)
theorem rsgn_eq {q r : Rat} (h : q = r) : rsgn q r = 0 := by subst h; exact sgn_eq rfl
theorem rat_tri (q r : Rat) : q < r ∨ q = r ∨ r < q := by
  by_cases h1 : q < r
  · exact .inl h1
  · by_cases h2 : r < q
    · exact .inr (.inr h2)
    · exact .inr (.inl (Rat.le_antisymm (Rat.not_lt.1 h2) (Rat.not_lt.1 h1)))
theorem rsgn_zero {q r : Rat} : rsgn q r = 0 ↔ q = r := by
  rcases rat_tri q r with h | h | h
  · rw [rsgn_lt h]; exact ⟨fun e => by omega, fun e => by subst e; exact absurd h Rat.lt_irrefl⟩
  · exact ⟨fun _ => h, rsgn_eq⟩
  · rw [rsgn_gt h]; exact ⟨fun e => by omega, fun e => by subst e; exact absurd h Rat.lt_irrefl⟩
theorem rsgn_anti (q r : Rat) : rsgn r q = - rsgn q r := sgn_anti _ _
theorem rsgn_of {q r q' r' : Rat} (h1 : q < r → q' < r') (h2 : q = r → q' = r') (h3 : r < q → r' < q') : rsgn q' r' = rsgn q r := by
  rcases rat_tri q r with h | h | h
  · rw [rsgn_lt h, rsgn_lt (h1 h)]
  · rw [rsgn_eq h, rsgn_eq (h2 h)]
  · rw [rsgn_gt h, rsgn_gt (h3 h)]
theorem rsgn_range (q r : Rat) : -1 ≤ rsgn q r ∧ rsgn q r ≤ 1 := sgn_range _ _
theorem rsgn_add (q r s : Rat) : rsgn (q + s) (r + s) = rsgn q r := rsgn_of Rat.add_lt_add_right.2 (fun h => by rw [h]) Rat.add_lt_add_right.2
theorem rsgn_neg (q r : Rat) : rsgn (-r) (-q) = rsgn q r := rsgn_of Rat.neg_lt_neg_iff.2 (fun h => by rw [h]) Rat.neg_lt_neg_iff.2
end Go.Proofs.YtpimcbncmfpdhaaGreatDoor
/-
  Plain mathematics of leaps down two numbers' divisions by their heads (Collins' bound), and of the greatest common divisor. No conditions of the program.
-/
namespace Go.Proofs.YtpimcbncmfpdhaaGreatDoor

/-- X and Y are the heads of A and B: what is left below them is less than one of the heads' units. -/
def Heads (X Y A B : Int) : Prop := ∃ P α β : Int, 0 ≤ α ∧ α < P ∧ 0 ≤ β ∧ β < P ∧ A = X * P + α ∧ B = Y * P + β

/-- What a share is of two numbers, with its sign. -/
def shr (s a b A B : Int) : Int := s * (a * A - b * B)

/-- Where a leap stands. -/
structure Leap (X Y x y a b c d s : Int) : Prop where
  sg : s = 1 ∨ s = -1
  hx : x = shr s a b X Y
  hy : y = shr (-s) c d X Y
  hX : d * x + b * y = X
  y0 : 0 ≤ y
  yx : y ≤ x
  a0 : 0 ≤ a
  b0 : 0 ≤ b
  c0 : 0 ≤ c
  cd : c ≤ d
  bd : b ≤ d
  d1 : 1 ≤ d
  ab : a ≤ b ∨ (s = 1 ∧ a = 1 ∧ b = 0 ∧ c = 0 ∧ d = 1)
  g : ∀ A B : Int, Int.gcd (shr s a b A B) (shr (-s) c d A B) = Int.gcd A B
  u : (s = 1 ∧ c = 0 ∧ d = 1) ∨ ∀ A B : Int, Heads X Y A B → shr s a b A B ≤ B

theorem Leap.start {X Y : Int} (h0 : 0 ≤ Y) (h : Y ≤ X) : Leap X Y X Y 1 0 0 1 1 := by
  refine ⟨.inl rfl, ?_, ?_, ?_, h0, h, ?_, ?_, ?_, ?_, ?_, ?_, ?_, ?_, .inl ⟨rfl, rfl, rfl⟩⟩ <;> simp [shr]

/-- The bound: the next two are of the numbers themselves what they are of the heads. -/
theorem Leap.sure {X Y x y a b c d s A B : Int} (h : Leap X Y x y a b c d s) (h1 : d ≤ y) (h2 : b + d ≤ x - y) (hh : Heads X Y A B) :
    0 ≤ shr (-s) c d A B ∧ shr (-s) c d A B < shr s a b A B := by
  obtain ⟨P, α, β, α0, α1, β0, β1, rfl, rfl⟩ := hh
  obtain ⟨sg, hx, hy, -, -, -, a0, b0, c0, cd, bd, d1, ab, -, -⟩ := h
  have p1 : 0 ≤ (y - d) * P := Int.mul_nonneg (by omega) (by omega)
  have p2 : 0 ≤ (x - y - (b + d)) * P := Int.mul_nonneg (by omega) (by omega)
  rcases sg with rfl | rfl
  · have p3 : 0 ≤ (d - c) * α := Int.mul_nonneg (by omega) (by omega)
    have p4 : 0 ≤ d * (P - α) := Int.mul_nonneg (by omega) (by omega)
    have p5 : 0 ≤ d * β := Int.mul_nonneg (by omega) (by omega)
    have p6 : 0 < (b + d) * (P - β) := Int.mul_pos (by omega) (by omega)
    have p7 : 0 ≤ (a + c) * α := Int.mul_nonneg (by omega) (by omega)
    unfold shr at *
    subst hx hy
    grind
  · have : a ≤ b := by omega
    have p3 : 0 ≤ c * α := Int.mul_nonneg (by omega) (by omega)
    have p4 : 0 ≤ d * (P - β) := Int.mul_nonneg (by omega) (by omega)
    have p5 : 0 ≤ (b + d - (a + c)) * α := Int.mul_nonneg (by omega) (by omega)
    have p6 : 0 < (b + d) * (P - α) := Int.mul_pos (by omega) (by omega)
    have p7 : 0 ≤ (b + d) * β := Int.mul_nonneg (by omega) (by omega)
    unfold shr at *
    subst hx hy
    grind

theorem gcd_step (u v q : Int) : Int.gcd v (u - q * v) = Int.gcd u v := by
  rw [Int.gcd_comm v]
  rw [show u - q * v = u + (-q) * v by rw [Int.neg_mul]; omega]
  exact Int.gcd_add_mul_right_left _ _ _

/-- One step further down. -/
theorem Leap.next {X Y x y a b c d s : Int} (h : Leap X Y x y a b c d s) (h1 : d ≤ y) (h2 : b + d ≤ x - y) :
    Leap X Y y (x % y) c d (a + x / y * c) (b + x / y * d) (-s) := by
  have hs := fun A B => h.sure (A := A) (B := B) h1 h2
  obtain ⟨sg, hx, hy, hX, y0, yx, a0, b0, c0, cd, bd, d1, ab, g, u⟩ := h
  have q1 : 1 ≤ x / y := by
    rw [Int.le_ediv_iff_mul_le (by omega)]; omega
  have e : x % y = x - x / y * y := by rw [Int.mul_comm]; exact Int.emod_def x y
  have r0 := Int.emod_nonneg x (show y ≠ 0 by omega)
  have r1 := Int.emod_lt_of_pos x (show 0 < y by omega)
  generalize x / y = q at *
  generalize x % y = r at *
  have qc : 0 ≤ q * c := Int.mul_nonneg (by omega) (by omega)
  have qd : d ≤ q * d := by have : 0 ≤ (q - 1) * d := Int.mul_nonneg (by omega) (by omega); grind
  have qcd : q * c ≤ q * d := Int.mul_le_mul_of_nonneg_left cd (by omega)
  refine ⟨by omega, ?_, ?_, ?_, r0, by omega, c0, by omega, by omega, ?_, by omega, by omega, .inl cd, ?_, ?_⟩
  · exact hy
  · rw [e, hx, hy]; unfold shr; grind
  · rw [e, ← hX]; grind
  · rcases ab with ab | ⟨-, rfl, rfl, rfl, rfl⟩ <;> omega
  · intro A B
    have e2 : shr (- -s) (a + q * c) (b + q * d) A B = shr s a b A B - q * shr (-s) c d A B := by unfold shr; grind
    rw [e2, gcd_step, g]
  · right
    intro A B hh
    have := hs A B hh
    rcases u with ⟨rfl, rfl, rfl⟩ | u
    · simp [shr]
    · have := u A B hh; omega

/-- What a leap's numbers are not above. -/
theorem Leap.most {X Y x y a b c d s : Int} (h : Leap X Y x y a b c d s) (h1 : 1 ≤ x) : d ≤ X ∧ x ≤ X := by
  have p1 : 0 ≤ b * y := Int.mul_nonneg h.b0 h.y0
  have p2 : 0 ≤ (d - 1) * x := Int.mul_nonneg (by have := h.d1; omega) (by omega)
  have p3 : 0 ≤ d * (x - 1) := Int.mul_nonneg (by have := h.d1; omega) (by omega)
  have := h.hX
  constructor <;> grind
theorem Leap.sum {X Y x y a b c d s : Int} (h : Leap X Y x y a b c d s) (h1 : d ≤ y) : b + d ≤ X := by
  have := h.d1
  have := h.yx
  have p1 : 0 ≤ b * (y - 1) := Int.mul_nonneg h.b0 (by omega)
  have p3 : 0 ≤ d * (x - 1) := Int.mul_nonneg (by omega) (by omega)
  have := h.hX
  grind
theorem Leap.half {X Y x y a b c d s : Int} (h : Leap X Y x y a b c d s) (h1 : d ≤ y) (hX : X < 18446744073709551616) : d < 4294967296 := by
  have := h.d1
  have := h.yx
  have p1 : 0 ≤ b * y := Int.mul_nonneg h.b0 h.y0
  have p3 : 0 ≤ d * (x - d) := Int.mul_nonneg (by omega) (by omega)
  have e := h.hX
  rcases Int.lt_or_le d 4294967296 with h2 | h2
  · exact h2
  · have p4 : 0 ≤ (d - 4294967296) * (d + 4294967296) := Int.mul_nonneg (by omega) (by omega)
    grind

/-- What leaping answers, where it leaps: two shares below 2^32, of which the second one is less than the first one, that one not above B, and both have A's and B's common divisor. -/
def Leapt (X Y a b c d : Int) : Prop :=
  (0 ≤ a ∧ a < 4294967296) ∧ (0 ≤ b ∧ b < 4294967296) ∧ (0 ≤ c ∧ c < 4294967296) ∧ (0 ≤ d ∧ d < 4294967296) ∧
  ∀ A B : Nat, Heads X Y A B → Nat.gcd (a * A - b * B).natAbs (c * A - d * B).natAbs = Nat.gcd A B ∧ (c * A - d * B).natAbs < (a * A - b * B).natAbs ∧ (a * A - b * B).natAbs ≤ B

theorem natAbs_shr {s a b A B : Int} (h : s = 1 ∨ s = -1) : (shr s a b A B).natAbs = (a * A - b * B).natAbs := by
  unfold shr; rcases h with rfl | rfl <;> omega

theorem Leap.leapt {X Y x y a b c d s : Int} (h : Leap X Y x y a b c d s) (h1 : d ≤ y) (h2 : b + d ≤ x - y) (hX : X < 18446744073709551616) (hc : c ≠ 0) : Leapt X Y a b c d := by
  have hd := h.half h1 hX
  have hs := fun A B => h.sure (A := A) (B := B) h1 h2
  obtain ⟨sg, -, -, -, -, -, a0, b0, c0, cd, bd, d1, ab, g, u⟩ := h
  have u := u.resolve_left (by omega)
  refine ⟨by omega, by omega, by omega, by omega, fun A B hh => ?_⟩
  have g := g A B
  have u := u A B hh
  have hs := hs A B hh
  unfold Int.gcd at g
  rw [natAbs_shr sg, natAbs_shr (by omega)] at g
  have e1 := natAbs_shr (a := a) (b := b) (A := A) (B := B) sg
  have e2 := natAbs_shr (s := -s) (a := c) (b := d) (A := A) (B := B) (by omega)
  refine ⟨by simpa using g, by omega, by omega⟩
end Go.Proofs.YtpimcbncmfpdhaaGreatDoor
/-
  Contracts of package common's functions sure and leap, for every two heads: what they answer; memory that was there stays.
-/
namespace Go.Proofs.YtpimcbncmfpdhaaGreatDoor
open Go.RowKit

set_option maxHeartbeats 1000000 in
theorem common_sure (x y a b c d : Int) (w : World) (_y0 : 0 ≤ y) (yx : y ≤ x) (x1 : x < 18446744073709551616) (b0 : 0 ≤ b) (d0 : 0 ≤ d) (hs : d ≤ y → b + d < 18446744073709551616) (r : Bool) (hr : decide (d ≤ y ∧ b + d ≤ x - y) = r) :
    Calls Tryz.prog 175 #[.int .u64 x, .int .u64 y, .agg #[.int .u64 a, .int .u64 b], .agg #[.int .u64 c, .int .u64 d]] w fun e w' => e = .returned (.bool r) ∧ Below w.heap.size w w' := by
  have B : Below w.heap.size w ((w.alloc (.cells #[.int .u64 a, .int .u64 b] 151)).alloc (.cells #[.int .u64 c, .int .u64 d] 151)) := ((Below.refl _ _).alloc (Nat.le_refl _) _).alloc (by simp) _
  by_cases h1 : d ≤ y
  · have h2 := hs h1
    subst hr
    clear hs
    go_enter Tryz.func175, Tryz.ntmps175
    go_wp2
    go_ret
    exact ⟨ret_bool (by rw [Bool.eq_iff_iff]; simp [h1]), B⟩
  · subst hr
    clear hs
    go_enter Tryz.func175, Tryz.ntmps175
    go_wp2
    go_ret
    exact ⟨ret_bool (by simp; omega), B⟩

/-- Block k holds one share. -/
def Box (v : World) (k : Nat) (a b : Int) : Prop := v.heap[k]? = some (.cells #[.int .u64 a, .int .u64 b] 151 (0, 0))

theorem Box.cells {v : World} {k : Nat} {a b : Int} (h : Box v k a b) : v.cell? ⟨k, 0, none⟩ = some (.int .u64 a) ∧ v.cell? ⟨k, 1, none⟩ = some (.int .u64 b) ∧ v.frozen? ⟨k, 0, none⟩ = false ∧ v.frozen? ⟨k, 1, none⟩ = false := by
  unfold Box at h
  simp [World.cell?, World.frozen?, h]
theorem Box.lt {v : World} {k : Nat} {a b : Int} (h : Box v k a b) : k < v.heap.size := (Array.getElem?_eq_some_iff.1 h).1
theorem Box.more {v w : World} {k : Nat} {a b : Int} (h : Box v k a b) (hb : Below v.heap.size v w) : Box w k a b := (hb.block k h.lt).trans h
theorem Box.drew {v : World} {k : Nat} {a b : Int} (h : Box v k a b) : Box v.drew k a b := h

theorem Box.other {v : World} {k : Nat} {a b : Int} (h : Box v k a b) {j : Nat} (o : Nat) (hne : k ≠ j) (u : Value) : Box (v.setCell ⟨j, o, none⟩ u) k a b :=
  (Below.heap_setCell v ⟨j, o, none⟩ u k hne).trans h
theorem Box.put {v : World} {k : Nat} {a b : Int} (h : Box v k a b) (x y : Int) : Box ((v.setCell ⟨k, 0, none⟩ (.int .u64 x)).setCell ⟨k, 1, none⟩ (.int .u64 y)) k x y := by
  have hlt := h.lt
  have hv := (Array.getElem?_eq_some_iff.1 h).2
  unfold Box
  simp only [World.setCell]
  rw [Array.getElem?_eq_getElem (by simpa using hlt), Array.getElem_modify, if_pos rfl, Array.getElem_modify, if_pos rfl, hv]
  rfl
theorem Box.drewN {v : World} {k : Nat} {a b : Int} (h : Box v k a b) (n : Nat) : Box (v.drewN n) k a b := h.more (below_drewN (Below.refl _ _) n)

/-- The four boxes behind a round. -/
theorem boxes_round {w v : World} {p q r t a b c d : Int} (n : Nat) (e f : Int) (b1 : Box v w.heap.size p q) (b2 : Box v (w.heap.size + 1) r t) (b3 : Box v (w.heap.size + 2) a b) (b4 : Box v (w.heap.size + 3) c d) (B : Below w.heap.size w v) :
    ∀ W, W = (((((((((v.setCell ⟨w.heap.size, 0, none⟩ (.int .u64 a)).setCell ⟨w.heap.size, 1, none⟩ (.int .u64 b)).setCell ⟨w.heap.size + 1, 0, none⟩ (.int .u64 c)).setCell ⟨w.heap.size + 1, 1, none⟩ (.int .u64 d)).drewN n).setCell
      ⟨w.heap.size + 2, 0, none⟩ (.int .u64 c)).setCell ⟨w.heap.size + 2, 1, none⟩ (.int .u64 d)).setCell ⟨w.heap.size + 3, 0, none⟩ (.int .u64 e)).setCell ⟨w.heap.size + 3, 1, none⟩ (.int .u64 f)) →
    Box W w.heap.size a b ∧ Box W (w.heap.size + 1) c d ∧ Box W (w.heap.size + 2) c d ∧ Box W (w.heap.size + 3) e f ∧ Below w.heap.size w W := by
  rintro W rfl
  refine ⟨?_, ?_, ?_, ?_, ?_⟩
  · exact ((((((((b1.put a b).other _ (by omega) _).other _ (by omega) _).drewN n).other _ (by omega) _).other _ (by omega) _).other _ (by omega) _).other _ (by omega) _)
  · exact ((((((((b2.other _ (by omega) _).other _ (by omega) _).put c d).drewN n).other _ (by omega) _).other _ (by omega) _).other _ (by omega) _).other _ (by omega) _)
  · exact (((((((((b3.other _ (by omega) _).other _ (by omega) _).other _ (by omega) _).other _ (by omega) _).drewN n).put c d).other _ (by omega) _).other _ (by omega) _))
  · exact (((((((((b4.other _ (by omega) _).other _ (by omega) _).other _ (by omega) _).other _ (by omega) _).drewN n).other _ (by omega) _).other _ (by omega) _).put e f))
  · have h0 : w.heap.size ≤ (⟨w.heap.size, 0, none⟩ : Addr).block := Nat.le_refl _
    have h1 : ∀ k o, w.heap.size ≤ (⟨w.heap.size + k, o, none⟩ : Addr).block := fun k o => Nat.le_add_right _ _
    exact (((((below_drewN ((((B.setCell h0 _).setCell (p := ⟨w.heap.size, 1, none⟩) h0 _).setCell (h1 1 0) _).setCell (h1 1 1) _) n).setCell (h1 2 0) _).setCell (h1 2 1) _).setCell (h1 3 0) _).setCell (h1 3 1) _)

theorem Box.new (v : World) (a b : Int) : Box (v.alloc (.cells #[.int .u64 a, .int .u64 b] 151)) v.heap.size a b := by show (v.heap.push _)[v.heap.size]? = _; simp
theorem Box.alloc {v : World} {k : Nat} {a b : Int} (h : Box v k a b) (o : Obj) : Box (v.alloc o) k a b := h.more ((Below.refl _ _).alloc (Nat.le_refl _) _)
theorem Box.at' {v : World} {k j : Nat} {a b : Int} (h : Box v k a b) (e : k = j) : Box v j a b := e ▸ h
theorem wrap_u64 {z : Int} (h0 : 0 ≤ z) (h1 : z < 18446744073709551616) : IntKind.u64.wrap z = z := by
  simp [IntKind.wrap, IntKind.bits, IntKind.signed]; omega

set_option maxHeartbeats 4000000 in
theorem common_leap (X Y : Int) (w : World) (Y0 : 0 ≤ Y) (YX : Y ≤ X) (X1 : X < 18446744073709551616) :
    Calls Tryz.prog 162 #[.int .u64 X, .int .u64 Y] w fun e w' => ∃ a b c d : Int, e = .returned (.tuple #[.agg #[.int .u64 a, .int .u64 b], .agg #[.int .u64 c, .int .u64 d]]) ∧ Below w.heap.size w w' ∧ (c = 0 ∨ Leapt X Y a b c d) := by
  have L0 := Leap.start Y0 YX
  go_enter Tryz.func162, Tryz.ntmps162
  go_wp2
  go_region
  go_wp2
  go_loopw [0, 1] (fun sx sy v => ∃ x y a b c d s p q r t : Int, sx = .int .u64 x ∧ sy = .int .u64 y ∧ Leap X Y x y a b c d s ∧ (r = 0 ∨ Leapt X Y p q r t) ∧ Box v w.heap.size p q ∧ Box v (w.heap.size + 1) r t ∧ Box v (w.heap.size + 2) a b ∧ Box v (w.heap.size + 3) c d ∧ Below w.heap.size w v) (fun _ y _ => (intOf y).toNat)
  case atStart =>
    have HB : ∀ k o, w.heap.size ≤ (⟨w.heap.size + k, o, none⟩ : Addr).block := fun k o => Nat.le_add_right _ _
    refine ⟨X, Y, 1, 0, 0, 1, 1, 1, 0, 0, 1, rfl, rfl, L0, .inl rfl, ?_, ?_, ?_, ?_, ?_⟩
    · exact Box.drew (((Box.new w 1 0).alloc _).alloc _ |>.alloc _)
    · exact Box.drew ((((Box.new (w.alloc _) 0 1).alloc _).alloc _).at' (by simp))
    · exact Box.drew (((Box.new ((w.alloc _).alloc _) 1 0).alloc _).at' (by simp))
    · exact Box.drew ((Box.new (((w.alloc _).alloc _).alloc _) 0 1).at' (by simp))
    · exact ((((((Below.refl _ w).alloc (Nat.le_refl _) _).alloc (by simp) _).alloc (by simp; omega) _).alloc (by simp; omega) _).drew)
  case round =>
    obtain ⟨x, y, a, b, c, d, s, p, q, r, t, rfl, rfl, L, S, b1, b2, b3, b4, B⟩ := hrel
    have l0 := L.y0
    have l1 := L.yx
    have l2 := L.b0
    have l3 := L.d1
    have l4 := L.sum
    have l5 : x ≤ X := by
      rcases Int.lt_or_le 0 x with h | h
      · exact (L.most (by omega)).2
      · omega
    obtain ⟨c3, c4, f3, f4⟩ := b3.cells
    obtain ⟨c5, c6, f5, f6⟩ := b4.cells
    by_cases hs : d ≤ y ∧ b + d ≤ x - y
    · obtain ⟨h1, h2⟩ := hs
      have LN := L.next h1 h2
      have SN : c = 0 ∨ Leapt X Y a b c d := by
        by_cases hc : c = 0
        · exact .inl hc
        · exact .inr (L.leapt h1 h2 X1 hc)
      have n1 := LN.most (by omega)
      have n2 := LN.cd
      have n3 := LN.c0
      have n4 : 0 ≤ x / y := Int.ediv_nonneg (by omega) (by omega)
      have n5 : 0 ≤ x / y * c := Int.mul_nonneg n4 L.c0
      have n6 : 0 ≤ x / y * d := Int.mul_nonneg n4 (by omega)
      have n7 := L.a0
      have w1 : IntKind.u64.wrap (x / y * c) = x / y * c := wrap_u64 (by omega) (by omega)
      have w2 : IntKind.u64.wrap (x / y * d) = x / y * d := wrap_u64 (by omega) (by omega)
      have w3 : IntKind.u64.wrap (a + x / y * c) = a + x / y * c := wrap_u64 (by omega) (by omega)
      have w4 : IntKind.u64.wrap (b + x / y * d) = b + x / y * d := wrap_u64 (by omega) (by omega)
      have MM : Hid ((x % y).toNat < y.toNat) := (by have h5 := Int.emod_nonneg x (show y ≠ 0 by omega); have h6 := Int.emod_lt_of_pos x (show 0 < y by omega); omega : (x % y).toNat < y.toNat)
      have C := fun v => common_sure x y a b c d v l0 l1 (by omega) l2 (by omega) (fun h => by have := l4 h; omega) true (by simp; omega)
      have HL : Hid (Leap X Y y (x % y) c d (a + x / y * c) (b + x / y * d) (-s)) := LN
      have HS : Hid (c = 0 ∨ Leapt X Y a b c d) := SN
      have HR : Hid (Box wr w.heap.size p q ∧ Box wr (w.heap.size + 1) r t ∧ Box wr (w.heap.size + 2) a b ∧ Box wr (w.heap.size + 3) c d ∧ Below w.heap.size w wr) := ⟨b1, b2, b3, b4, B⟩
      clear LN SN S b1 b2 b3 b4 B L l4
      go_wp2_with (first
        | (go_at_call 175; (with_reducible refine Calls.mono (C _) ?_); rintro e w1 ⟨rfl, B1⟩))
      obtain ⟨b1, b2, b3, b4, B⟩ := HR.out
      have b1 := b1.more B1
      have b2 := b2.more B1
      have b3 := b3.more B1
      have b4 := b4.more B1
      have B := below_more B B1
      have HR : Hid (Box w1 w.heap.size p q ∧ Box w1 (w.heap.size + 1) r t ∧ Box w1 (w.heap.size + 2) a b ∧ Box w1 (w.heap.size + 3) c d ∧ Below w.heap.size w w1) := ⟨b1, b2, b3, b4, B⟩
      clear c3 c4 f3 f4 c5 c6 f5 f6 C B1
      obtain ⟨c1, c2, f1, f2⟩ := b1.cells
      obtain ⟨d1, d2, g1, g2⟩ := b2.cells
      obtain ⟨c3, c4, f3, f4⟩ := b3.cells
      obtain ⟨c5, c6, f5, f6⟩ := b4.cells
      clear b1 b2 b3 b4 B
      go_region
      go_wp2
      go_quiet (fail)
      go_wp2
      go_region
      obtain ⟨b1, b2, b3, b4, B⟩ := HR.out
      clear c1 c2 f1 f2 d1 d2 g1 g2 c3 c4 f3 f4 c5 c6 f5 f6
      go_wp2
      go_roundw
      case rel =>
        obtain ⟨r1, r2, r3, r4, R⟩ := boxes_round (1 + nq + 1) (a + x / y * c) (b + x / y * d) b1 b2 b3 b4 B _ rfl
        exact ⟨y, x % y, c, d, a + x / y * c, b + x / y * d, -s, a, b, c, d, rfl, rfl, HL.out, HS.out, r1, r2, r3, r4, R⟩
      case measure => simp only [intOf]; exact MM.out
    · have C := fun v => common_sure x y a b c d v l0 l1 (by omega) l2 (by omega) (fun h => by have := l4 h; omega) false (by simp; omega)
      have HR : Hid (Box wr w.heap.size p q ∧ Box wr (w.heap.size + 1) r t ∧ Below w.heap.size w wr) := ⟨b1, b2, B⟩
      have HS : Hid (r = 0 ∨ Leapt X Y p q r t) := S
      clear S b1 b2 b3 b4 B L l4
      go_wp2_with (first
        | (go_at_call 175; (with_reducible refine Calls.mono (C _) ?_); rintro e w1 ⟨rfl, B1⟩))
      obtain ⟨b1, b2, B⟩ := HR.out
      have b1 := b1.more B1
      have b2 := b2.more B1
      have B := below_more B B1
      clear c3 c4 f3 f4 c5 c6 f5 f6 C B1 HR
      obtain ⟨c1, c2, f1, f2⟩ := b1.cells
      obtain ⟨d1, d2, g1, g2⟩ := b2.cells
      have H1 : ∀ k o, w.heap.size ≤ (⟨w.heap.size + k, o, none⟩ : Addr).block := fun k o => Nat.le_add_right _ _
      have HB : Hid (Below w.heap.size w ((((w1.setCell ⟨w.heap.size, 0, none⟩ (.int .u64 p)).setCell ⟨w.heap.size, 1, none⟩ (.int .u64 q)).setCell ⟨w.heap.size + 1, 0, none⟩ (.int .u64 r)).setCell ⟨w.heap.size + 1, 1, none⟩ (.int .u64 t)).drew) :=
        ((((B.setCell (H1 0 0) _).setCell (H1 0 1) _).setCell (H1 1 0) _).setCell (H1 1 1) _).drew
      clear b1 b2 B H1
      go_region
      go_wp2
      exact bodyPost_ret (v := .tuple #[.agg #[.int .u64 p, .int .u64 q], .agg #[.int .u64 r, .int .u64 t]]) (by simp [results, Tryz.results162, go_sem, c1, c2, d1, d2]) rfl ⟨p, q, r, t, rfl, HB.out, HS.out⟩
end Go.Proofs.YtpimcbncmfpdhaaGreatDoor
/-
  A law of no function: what is left of a slice of words behind some of them.
-/
namespace Go.Proofs.YtpimcbncmfpdhaaGreatDoor
open Go.RowKit

theorem IsWords.drop {w : World} {x : Addr} {n c : Nat} {zs : List Int} (h : IsWords w (.slice (some x) n c) zs) (k : Nat) (hk : k ≤ n) (hs : x.spot = none) : IsWords w (.slice (some ⟨x.block, x.off + k, none⟩) (n - k) (c - k)) (zs.drop k) := by
  have hl := h.len
  rcases h with ⟨e, rfl⟩ | ⟨y, cap, e, h1, h2, hc⟩
  · simp at e
  · simp only [Value.slice.injEq, Option.some.injEq] at e
    obtain ⟨rfl, rfl, rfl⟩ := e
    have e2 : (zs.drop k).length = zs.length - k := by rw [List.length_drop]
    refine .inr ⟨_, c - k, by rw [e2], by omega, by omega, fun i hi => ?_⟩
    rw [e2] at hi
    have hci := hc (k + i) (by omega)
    rw [show zs.getD (k + i) 0 = (zs.drop k).getD i 0 by simp [List.getD_eq_getElem?_getD]] at hci
    rw [← hci]
    rw [Go.WideShapes.add_plain]
    have : x = ⟨x.block, x.off, none⟩ := by cases x; simp at hs; simp [hs]
    rw [this, Go.WideShapes.add_plain, Nat.add_assoc]
end Go.Proofs.YtpimcbncmfpdhaaGreatDoor
/-
  Contract of package nat's function Small, for every list of words: the number, if it is below 2^64; memory stays.
-/
namespace Go.Proofs.YtpimcbncmfpdhaaGreatDoor
open Go.RowKit

theorem or_zero (z : Int) (z0 : 0 ≤ z) (z1 : z < 4294967296) : bits BinOp.or IntKind.u64 0 z = z := by
  obtain ⟨y, rfl⟩ : ∃ y : Nat, z = y := ⟨z.toNat, by omega⟩
  have h := bits_or_u64_nat 0 y (by omega) (by omega)
  simpa using h
/-- A word set beside a lower number. -/
theorem or_word (s : Nat) (z : Int) (z0 : 0 ≤ z) (z1 : z < 4294967296) (hs : s < 4294967296) : bits BinOp.or IntKind.u64 (s : Int) (z * 4294967296) = s + z * 4294967296 := by
  obtain ⟨y, rfl⟩ : ∃ y : Nat, z = y := ⟨z.toNat, by omega⟩
  have h := bits_or_u64_nat s (y * 4294967296) (by omega) (by omega)
  have e : s ||| y * 4294967296 = s + y * 4294967296 := by
    rw [Nat.or_comm, Nat.mul_comm, show (4294967296 : Nat) = 2 ^ 32 from rfl, ← Nat.two_pow_add_eq_or_of_lt (by omega)]; omega
  rw [e] at h
  simpa using h

set_option maxHeartbeats 1000000 in
theorem nat_small (a : Option Addr) (n c : Nat) (zs : List Int) (w : World) (h : IsWords w (.slice a n c) zs) (hz : Wd zs) (hv : val zs < 18446744073709551616) :
    Calls Tryz.prog 176 #[.slice a n c] w fun e w' => e = .returned (.tuple #[.int .u64 (val zs), .bool true]) ∧ w = w' := by
  have R := nat_right' a n c zs w h hz
  have hL := (h.low hz).2.2
  have hL2 : nl (val zs) ≤ 2 := nl_le 2 _ hv
  have hr := (h.right hz).reads.1
  have hw := wd_natOf (val zs)
  have EV : Hid (val (natOf (val zs)) = val zs) := val_natOf (val zs)
  have hl : (natOf (val zs)).length = nl (val zs) := rfl
  generalize nl (val zs) = L at R hL hL2 hr hl
  generalize natOf (val zs) = ys at hr hw EV hl
  clear h hz
  go_enter Tryz.func176, Tryz.ntmps176
  go_wp2_with (go_at_call 80; with_reducible refine Calls.mono R ?_; rintro e w1 ⟨rfl, rfl⟩)
  go_loop [4, 13] (fun s i => ∃ k : Nat, k ≤ L ∧ i = .int .i64 k ∧ s = .int .u64 (val (ys.take k))) (fun _ i => L - (intOf i).toNat)
  case atStart => exact ⟨0, by omega, rfl, rfl⟩
  case round =>
    obtain ⟨k, hk, rfl, rfl⟩ := hrel
    by_cases hlt : k < L
    · rcases hr.2 with h0 | ⟨b, off, rfl, hc⟩
      · omega
      have hck := hc k hlt
      obtain ⟨z0, z1⟩ := wd_getD hw k
      have E : Hid (val (ys.take (k + 1)) = val (ys.take k) + (ys.getD k 0).toNat * 4294967296 ^ k) := val_take_succ ys k
      have hp := val_take_lt ys hw k
      clear hr hc hw R hv
      generalize ys.getD k 0 = z at hck z0 z1 E
      obtain rfl | rfl : k = 0 ∨ k = 1 := by omega
      · have e0 : val (ys.take 0) = 0 := rfl
        rw [e0] at E ⊢
        clear hp
        rw [show ((0 : Nat) : Int) = 0 from rfl]
        rw [Nat.add_zero] at hck
        go_wp2
        go_round
        case rel => exact ⟨1, by omega, rfl, val_int (by rw [E.out, or_zero z z0 z1]; omega)⟩
        case measure => simp [intOf]; omega
      · generalize val (ys.take 1) = s at E hp ⊢
        have HP : Hid (s < 4294967296) := (by omega : s < 4294967296)
        clear hp
        go_wp2
        go_round
        case rel => exact ⟨2, by omega, rfl, val_int (by rw [E.out, or_word s z z0 z1 HP.out]; omega)⟩
        case measure => simp [intOf]; omega
    · have e : ys.take k = ys := List.take_of_length_le (by omega)
      rw [e]
      clear hr hw R hv
      go_wp2
      go_ret2
      exact ⟨ret_ib (by rw [EV.out]), rfl⟩
set_option maxHeartbeats 1000000 in
theorem nat_small_no (a : Option Addr) (n c : Nat) (zs : List Int) (w : World) (h : IsWords w (.slice a n c) zs) (hz : Wd zs) (hv : 18446744073709551616 ≤ val zs) :
    Calls Tryz.prog 176 #[.slice a n c] w fun e w' => e = .returned (.tuple #[.int .u64 0, .bool false]) ∧ w = w' := by
  have R := nat_right' a n c zs w h hz
  have hL := (h.low hz).2.2
  have hL2 := nl_big _ hv
  generalize nl (val zs) = L at R hL hL2
  clear h hz hv
  go_enter Tryz.func176, Tryz.ntmps176
  go_wp2_with (go_at_call 80; with_reducible refine Calls.mono R ?_; rintro e w1 ⟨rfl, rfl⟩)
  go_ret2
  exact ⟨rfl, rfl⟩
end Go.Proofs.YtpimcbncmfpdhaaGreatDoor
/-
  Contracts of package common's functions heads, of and later, for every two lists of words without 0s at their ends of which the second one isn't the greater: what they answer; memory that was there stays, and lists that are answered are the call's own.
-/
namespace Go.Proofs.YtpimcbncmfpdhaaGreatDoor
open Go.RowKit

/-- Two numbers' words above the lowest k are their heads. -/
theorem heads_drop (xs ys : List Int) (hx : Wd xs) (hy : Wd ys) (k : Nat) : Heads (val (xs.drop k)) (val (ys.drop k)) (val xs) (val ys) := by
  refine ⟨(4294967296 ^ k : Nat), val (xs.take k), val (ys.take k), by omega, ?_, by omega, ?_, ?_, ?_⟩
  · exact_mod_cast val_take_lt xs hx k
  · exact_mod_cast val_take_lt ys hy k
  · have := val_split xs k
    rw [Nat.mul_comm] at this
    exact_mod_cast (by omega : val xs = val (xs.drop k) * 4294967296 ^ k + val (xs.take k))
  · have := val_split ys k
    rw [Nat.mul_comm] at this
    exact_mod_cast (by omega : val ys = val (ys.drop k) * 4294967296 ^ k + val (ys.take k))

/-- The greater one has the greater head. -/
theorem drop_mono (xs ys : List Int) (hx : Wd xs) (k : Nat) (h : val ys ≤ val xs) : val (ys.drop k) ≤ val (xs.drop k) := by
  have h1 := val_split xs k
  have h2 := val_split ys k
  have h3 := val_take_lt xs hx k
  rcases Nat.lt_or_ge (val (xs.drop k)) (val (ys.drop k)) with h4 | h4
  · have h5 : 4294967296 ^ k * (val (xs.drop k) + 1) ≤ 4294967296 ^ k * val (ys.drop k) := Nat.mul_le_mul_left _ h4
    rw [Nat.mul_add] at h5
    omega
  · exact h4

theorem IsWords.no (w : World) (x : Addr) (c : Nat) (h : c ≤ 9223372036854775807) : IsWords w (.slice (some x) 0 c) [] :=
  .inr ⟨x, c, rfl, Nat.zero_le _, h, fun i hi => by simp at hi⟩
theorem IsWords.none {w : World} {n c : Nat} {zs : List Int} (h : IsWords w (.slice none n c) zs) : n = 0 ∧ c = 0 ∧ zs = [] := by
  rcases h with ⟨e, rfl⟩ | ⟨x, cap, e, -⟩
  · simp only [Value.slice.injEq] at e; exact ⟨e.2.1, e.2.2, rfl⟩
  · simp at e
theorem val_two {xs : List Int} (h : Wd xs) (hl : xs.length ≤ 2) : val xs < 18446744073709551616 := by
  have h1 := val_lt xs h
  have h2 : 4294967296 ^ xs.length ≤ 4294967296 ^ 2 := Nat.pow_le_pow_right (by omega) hl
  omega

set_option maxHeartbeats 2000000 in
theorem common_heads (g n c : Nat) (xs : List Int) (b : Option Addr) (m d : Nat) (ys : List Int) (w : World) (h : IsWords w (.slice (some ⟨g, 0, none⟩) n c) xs) (hx : Wd xs) (k : IsWords w (.slice b m d) ys) (hy : Wd ys)
    (hb : b = none ∨ ∃ gb, b = some ⟨gb, 0, none⟩) (hm : m ≤ n) (hle : val ys ≤ val xs) (hn : n ≤ 1000000000000) :
    Calls Tryz.prog 163 #[.slice (some ⟨g, 0, none⟩) n c, .slice b m d] w fun e w' => ∃ X Y : Nat, e = .returned (.tuple #[.int .u64 X, .int .u64 Y]) ∧ w = w' ∧ X < 18446744073709551616 ∧ Y ≤ X ∧ Heads X Y (val xs) (val ys) := by
  have hcap := h.cap
  have kcap := k.cap
  have hl := h.len
  have kl := k.len
  have HD : Hid (∀ j, Heads (val (xs.drop j)) (val (ys.drop j)) (val xs) (val ys)) := fun j => heads_drop xs ys hx hy j
  have HM : Hid (∀ j, val (ys.drop j) ≤ val (xs.drop j)) := fun j => drop_mono xs ys hx j hle
  rcases (by omega : n ≤ 2 ∨ 2 < n) with h2 | h2
  · have v1 := val_two hx (by omega)
    have C1 := nat_small _ _ _ _ w h hx v1
    have C2 := nat_small _ _ _ _ w k hy (by omega)
    have H0 : Hid (Heads (val xs) (val ys) (val xs) (val ys)) := HD.out 0
    have HL : Hid (val ys ≤ val xs) := hle
    generalize val xs = X at *
    generalize val ys = Y at *
    have HV : Hid (X < 18446744073709551616) := v1
    clear HD HM hl kl hle h hn v1
    rcases (by omega : n < 2 ∨ n = 2) with h2 | rfl
    all_goals
      rcases hb with rfl | ⟨gb, rfl⟩
      · obtain ⟨rfl, rfl, -⟩ := k.none
        clear k
        go_enter Tryz.func163, Tryz.ntmps163
        go_wp2_with (first
          | (go_at_call 176; with_reducible refine Calls.mono C1 ?_; rintro e w1 ⟨rfl, rfl⟩)
          | (go_at_call 176; with_reducible refine Calls.mono C2 ?_; rintro e w1 ⟨rfl, rfl⟩))
        go_ret2
        exact ⟨X, Y, rfl, rfl, HV.out, HL.out, H0.out⟩
      · clear k
        rcases (by omega : m = 0 ∧ d = 0 ∨ m = 0 ∧ 0 < d ∨ 0 < m ∧ 0 < d) with ⟨rfl, rfl⟩ | ⟨rfl, k1⟩ | ⟨k0, k1⟩
        all_goals
          go_enter Tryz.func163, Tryz.ntmps163
          go_wp2_with (first
            | (go_at_call 176; with_reducible refine Calls.mono C1 ?_; rintro e w1 ⟨rfl, rfl⟩)
            | (go_at_call 176; with_reducible refine Calls.mono C2 ?_; rintro e w1 ⟨rfl, rfl⟩))
          go_ret2
          exact ⟨X, Y, rfl, rfl, HV.out, HL.out, H0.out⟩
  · obtain ⟨low, rfl⟩ : ∃ low, n = low + 2 := ⟨n - 2, by omega⟩
    have D1 := h.drop low (by omega) rfl
    simp only [Nat.zero_add, Nat.add_sub_cancel_left] at D1
    have v1 := val_two (wd_drop hx low) (by rw [List.length_drop]; omega)
    have C1 := nat_small _ _ _ _ w D1 (wd_drop hx low) v1
    have H0 := HD.out low
    have HL := HM.out low
    clear HD HM D1 h
    rcases hb with rfl | ⟨gb, rfl⟩
    · obtain ⟨rfl, rfl, rfl⟩ := k.none
      have C2 := nat_small _ _ _ _ w k hy (by simp [val])
      have HV : Hid (val (xs.drop low) < 18446744073709551616 ∧ (val ([] : List Int)) ≤ val (xs.drop low) ∧ Heads (val (xs.drop low)) (val ([] : List Int)) (val xs) (val ([] : List Int))) := ⟨v1, Nat.zero_le _, by simpa using H0⟩
      clear k v1 HL H0 kl hle hl
      generalize val (xs.drop low) = X at C1 HV
      generalize val ([] : List Int) = Y at C2 HV
      go_enter Tryz.func163, Tryz.ntmps163
      go_wp2_with (first
        | (go_at_call 176; with_reducible refine Calls.mono C1 ?_; rintro e w1 ⟨rfl, rfl⟩)
        | (go_at_call 176; with_reducible refine Calls.mono C2 ?_; rintro e w1 ⟨rfl, rfl⟩))
      go_ret2
      exact ⟨X, Y, rfl, rfl, HV.out⟩
    · rcases (by omega : m < low ∨ m = low ∨ low < m) with h3 | rfl | h3
      · have C2 := fun x cc (hc : cc ≤ 9223372036854775807) => nat_small _ _ _ _ w (IsWords.no w x cc hc) wd_nil (by simp [val])
        have e0 : ys.drop low = [] := List.drop_eq_nil_of_le (by omega)
        rw [e0] at H0 HL
        have HV : Hid (val (xs.drop low) < 18446744073709551616 ∧ (val ([] : List Int)) ≤ val (xs.drop low) ∧ Heads (val (xs.drop low)) (val ([] : List Int)) (val xs) (val ys)) := ⟨v1, HL, H0⟩
        clear k v1 HL H0 kl hle hl e0
        generalize val (xs.drop low) = X at C1 HV
        generalize val ([] : List Int) = Y at C2 HV
        rcases (by omega : d - m = 0 ∨ d - m ≠ 0) with h4 | h4
        case' inl => have C2 := C2 ⟨gb, 0, none⟩ 0 (by omega)
        case' inr => have C2 := C2 ⟨gb, m, none⟩ (d - m) (by omega)
        all_goals
          go_enter Tryz.func163, Tryz.ntmps163
          go_wp2_with (first
            | (go_at_call 176; with_reducible refine Calls.mono C1 ?_; rintro e w1 ⟨rfl, rfl⟩)
            | (go_at_call 176; with_reducible refine Calls.mono C2 ?_; rintro e w1 ⟨rfl, rfl⟩))
          go_ret2
          exact ⟨X, Y, rfl, rfl, HV.out⟩
      · have C2 := fun x cc (hc : cc ≤ 9223372036854775807) => nat_small _ _ _ _ w (IsWords.no w x cc hc) wd_nil (by simp [val])
        have e0 : ys.drop m = [] := List.drop_eq_nil_of_le (by omega)
        rw [e0] at H0 HL
        have HV : Hid (val (xs.drop m) < 18446744073709551616 ∧ (val ([] : List Int)) ≤ val (xs.drop m) ∧ Heads (val (xs.drop m)) (val ([] : List Int)) (val xs) (val ys)) := ⟨v1, HL, H0⟩
        clear k v1 HL H0 kl hle hl e0
        generalize val (xs.drop m) = X at C1 HV
        generalize val ([] : List Int) = Y at C2 HV
        rcases (by omega : d - m = 0 ∨ d - m ≠ 0) with h4 | h4
        case' inl => have C2 := C2 ⟨gb, 0, none⟩ 0 (by omega)
        case' inr => have C2 := C2 ⟨gb, m, none⟩ (d - m) (by omega)
        all_goals
          go_enter Tryz.func163, Tryz.ntmps163
          go_wp2_with (first
            | (go_at_call 176; with_reducible refine Calls.mono C1 ?_; rintro e w1 ⟨rfl, rfl⟩)
            | (go_at_call 176; with_reducible refine Calls.mono C2 ?_; rintro e w1 ⟨rfl, rfl⟩))
          go_ret2
          exact ⟨X, Y, rfl, rfl, HV.out⟩
      · have D2 := k.drop low (by omega) rfl
        simp only [Nat.zero_add] at D2
        have C2 := nat_small _ _ _ _ w D2 (wd_drop hy low) (by omega)
        have HV : Hid (val (xs.drop low) < 18446744073709551616 ∧ val (ys.drop low) ≤ val (xs.drop low) ∧ Heads (val (xs.drop low)) (val (ys.drop low)) (val xs) (val ys)) := ⟨v1, HL, H0⟩
        have h4 : d - low ≠ 0 := by omega
        clear k v1 HL H0 kl hle hl D2
        generalize val (xs.drop low) = X at C1 HV
        generalize val (ys.drop low) = Y at C2 HV
        go_enter Tryz.func163, Tryz.ntmps163
        go_wp2_with (first
          | (go_at_call 176; with_reducible refine Calls.mono C1 ?_; rintro e w1 ⟨rfl, rfl⟩)
          | (go_at_call 176; with_reducible refine Calls.mono C2 ?_; rintro e w1 ⟨rfl, rfl⟩))
        go_ret2
        exact ⟨X, Y, rfl, rfl, HV.out⟩

/-- A number times a word has one word more at most. -/
theorem one_words {xs : List Int} {n : Nat} {p : Int} (hx : Wd xs) (hl : xs.length = n) (p0 : 0 ≤ p) (p1 : p < 4294967296) : nl (val xs * p.toNat + (0 : Int).toNat) ≤ n + 1 := by
  refine nl_le _ _ ?_
  have h1 := val_lt xs hx
  rw [hl] at h1
  rw [Nat.pow_succ]
  exact Nat.mul_lt_mul_of_lt_of_le h1 (by omega) (by omega)
theorem wrap_u32 {z : Int} (h0 : 0 ≤ z) (h1 : z < 4294967296) : IntKind.u32.wrap z = z := by
  simp [IntKind.wrap, IntKind.bits, IntKind.signed]; omega

set_option maxHeartbeats 4000000 in
theorem common_of (p q : Int) (a : Option Addr) (n c : Nat) (xs : List Int) (b : Option Addr) (m d : Nat) (ys : List Int) (w : World) (h : IsWords w (.slice a n c) xs) (hx : Wd xs) (k : IsWords w (.slice b m d) ys) (hy : Wd ys)
    (hn : n ≤ 100000000000) (hm : m ≤ 100000000000) (p0 : 0 ≤ p) (p1 : p < 4294967296) (q0 : 0 ≤ q) (q1 : q < 4294967296) (N : Nat) (hN : (p * val xs - q * val ys).natAbs = N) :
    Calls Tryz.prog 164 #[.agg #[.int .u64 p, .int .u64 q], .slice a n c, .slice b m d] w (Ans w N) := by
  have T1 := fun v (hb : Below w.heap.size w v) => times_one' (h.below hb) hx (by omega) p0 p1 (show (0 : Int) ≤ 0 by omega) (by omega) _ rfl
  have T2 := fun v (hb : Below w.heap.size w v) => times_one' (k.below hb) hy (by omega) q0 q1 (show (0 : Int) ≤ 0 by omega) (by omega) _ rfl
  have hl := h.len
  have kl := k.len
  have l1 : nl (val xs * p.toNat + (0 : Int).toNat) ≤ n + 1 := one_words hx hl p0 p1
  have l2 : nl (val ys * q.toNat + (0 : Int).toNat) ≤ m + 1 := one_words hy kl q0 q1
  have e1 : p * val xs = ((val xs * p.toNat + (0 : Int).toNat : Nat) : Int) := by simp [Int.toNat_of_nonneg p0, Int.mul_comm]
  have e2 : q * val ys = ((val ys * q.toNat + (0 : Int).toNat : Nat) : Int) := by simp [Int.toNat_of_nonneg q0, Int.mul_comm]
  rw [e1, e2] at hN
  unfold Ans at T1 T2
  generalize val xs * p.toNat + (0 : Int).toNat = A at T1 l1 hN
  generalize val ys * q.toNat + (0 : Int).toNat = B at T2 l2 hN
  clear e1 e2 hl kl
  have wp := wrap_u32 p0 p1
  have wq := wrap_u32 q0 q1
  have bx := Box.new w p q
  have B0 : Below w.heap.size w (w.alloc (.cells #[.int .u64 p, .int .u64 q] 151)).drew := ((Below.refl _ _).alloc (Nat.le_refl _) _).drew
  clear h k
  go_enter Tryz.func164, Tryz.ntmps164
  go_wp2
  generalize w.alloc (.cells #[.int .u64 p, .int .u64 q] 151) = W0 at *
  obtain ⟨c1, c2, f1, f2⟩ := bx.drew.cells
  go_region_with (first
    | (go_at_call 103; (with_reducible refine Calls.mono (T1 W0.drew B0) ?_); rintro e w1 ⟨a1, k1, rfl, o1⟩; have B1 := below_more B0 o1.below; obtain ⟨d1, d2, g1, g2⟩ := (bx.drew.more o1.below).cells)
    | (go_at_call 103; (with_reducible refine Calls.mono (T2 W0.drew B0) ?_); rintro e w1 ⟨a2, k2, rfl, o2⟩; have B1 := below_more B0 o2.below; obtain ⟨d1, d2, g1, g2⟩ := (bx.drew.more o2.below).cells)
    | (go_at_call 103; (with_reducible refine Calls.mono (T2 w1 B1) ?_); rintro e w2 ⟨a2, k2, rfl, o2⟩; have o1 := o1.more o2.below; have B2 := below_more B1 o2.below)
    | (go_at_call 103; (with_reducible refine Calls.mono (T1 w1 B1) ?_); rintro e w2 ⟨a1, k1, rfl, o1⟩; have o2 := o2.more o1.below; have B2 := below_more B1 o1.below))
  all_goals
    clear T1 T2 c1 c2 f1 f2 d1 d2 g1 g2 wp wq bx
    have P1 := o1.words
    have P2 := o2.words
    have HB : Hid (Below w.heap.size w _) := B2
    clear B0 B1 B2 o1 o2
    rcases Nat.lt_or_ge A B with hlt | hge
    · have C := nat_cmp' P1 (wd_natOf A) P2 (wd_natOf B) (-1) (by rw [val_natOf, val_natOf]; exact sgn_lt (by omega))
      have S := fun v (z1 : IsWords v (.slice a1 (nl A) k1) (natOf A)) (z2 : IsWords v (.slice a2 (nl B) k2) (natOf B)) => nat_sub' z2 (wd_natOf B) z1 (wd_natOf A) (by omega) N (by rw [val_natOf, val_natOf]; omega)
      clear hN hlt l1 l2
      go_wp2_with (first
        | (go_at_call 76; (with_reducible refine Calls.mono C ?_); rintro e w3 ⟨rfl, b3⟩)
        | (go_at_call 169; (with_reducible refine Calls.mono (S _ (P1.below b3) (P2.below b3)) ?_); rintro e w4 ⟨a4, k4, rfl, o4⟩))
      go_ret
      exact ⟨_, _, rfl, o4.outer (below_more HB.out b3)⟩
    · obtain ⟨cs, C, hcs⟩ : ∃ cs : Int, Calls Tryz.prog 76 #[.slice a1 (nl A) k1, .slice a2 (nl B) k2] _ (fun e w' => e = .returned (.int .i64 cs) ∧ Below _ _ w') ∧ 0 ≤ cs := by
        refine ⟨_, nat_cmp' P1 (wd_natOf A) P2 (wd_natOf B) _ rfl, ?_⟩
        rw [val_natOf, val_natOf]
        rcases Nat.lt_or_ge B A with h | h
        · rw [sgn_gt (by omega)]; omega
        · rw [sgn_eq (by omega)]; omega
      have S := fun v (z1 : IsWords v (.slice a1 (nl A) k1) (natOf A)) (z2 : IsWords v (.slice a2 (nl B) k2) (natOf B)) => nat_sub' z1 (wd_natOf A) z2 (wd_natOf B) (by omega) N (by rw [val_natOf, val_natOf]; omega)
      clear hN hge l1 l2
      go_wp2_with (first
        | (go_at_call 76; (with_reducible refine Calls.mono C ?_); rintro e w3 ⟨rfl, b3⟩)
        | (go_at_call 169; (with_reducible refine Calls.mono (S _ (P1.below b3) (P2.below b3)) ?_); rintro e w4 ⟨a4, k4, rfl, o4⟩))
      go_ret
      exact ⟨_, _, rfl, o4.outer (below_more HB.out b3)⟩
end Go.Proofs.YtpimcbncmfpdhaaGreatDoor
/-
  Laws of no function: a slice of words that begins a block from some number on. No conditions of the program.
-/
namespace Go.Proofs.YtpimcbncmfpdhaaGreatDoor
open Go.RowKit

/-- A slice of words that begins a block from n₀ on. -/
def Row (n₀ : Nat) (w : World) (v : Value) (n : Nat) (xs : List Int) : Prop := w.ownsRow n₀ 62 1 v n (xs.map (Value.int .u32))

theorem Own.row {W w : World} {v : Value} {n : Nat} {xs : List Int} (h : Own W w v n xs) {n₀ : Nat} (hn : n₀ ≤ W.heap.size) : Row n₀ w v n xs := by
  refine ⟨h.1.1, ?_⟩
  rcases h.1.2 with h0 | ⟨g, cap, cur, e, h1, h2⟩
  · exact .inl h0
  · exact .inr ⟨g, cap, cur, e, Nat.le_trans hn h1, h2⟩
theorem Row.own {W w : World} {v : Value} {n : Nat} {xs : List Int} {n₀ : Nat} (h : Row n₀ w v n xs) (hn : W.heap.size ≤ n₀) (hb : Below W.heap.size W w) : Own W w v n xs := by
  refine ⟨⟨h.1, ?_⟩, hb⟩
  rcases h.2 with h0 | ⟨g, cap, cur, e, h1, h2⟩
  · exact .inl h0
  · exact .inr ⟨g, cap, cur, e, Nat.le_trans hn h1, h2⟩
theorem Row.words {w : World} {v : Value} {n : Nat} {xs : List Int} {n₀ : Nat} (h : Row n₀ w v n xs) : IsWords w v xs := by
  have hl : xs.length = n := by have := h.1; simpa using this
  rcases h.2 with ⟨rfl, rfl⟩ | ⟨g, cap, cur, rfl, -, hg, hnc, hcm, -, -⟩
  · exact .inl ⟨rfl, List.eq_nil_of_length_eq_zero hl⟩
  · refine .inr ⟨⟨g, 0, none⟩, cap, by rw [hl], by omega, hcm, fun i hi => ?_⟩
    refine World.ownsRow.cells h (g := g) rfl i _ ?_
    simp [hi]
theorem Row.addr {w : World} {a : Option Addr} {n c m : Nat} {xs : List Int} {n₀ : Nat} (h : Row n₀ w (.slice a n c) m xs) : a = none ∨ ∃ g, a = some ⟨g, 0, none⟩ := by
  rcases h.2 with ⟨e, -⟩ | ⟨g, cap, cur, e, -⟩
  · simp only [Value.slice.injEq] at e; exact .inl e.1
  · simp only [Value.slice.injEq] at e; exact .inr ⟨g, e.1⟩
theorem Row.more {w w' : World} {v : Value} {n : Nat} {xs : List Int} {n₀ : Nat} (h : Row n₀ w v n xs) (hb : Below w.heap.size w w') : Row n₀ w' v n xs := by
  refine ⟨h.1, ?_⟩
  rcases h.2 with h0 | ⟨g, cap, cur, e, h1, hg, h2⟩
  · exact .inl h0
  · refine .inr ⟨g, cap, cur, e, h1, ?_, h2⟩
    rw [hb.block g (Array.getElem?_eq_some_iff.1 hg).1]; exact hg
theorem Row.keep {w w' : World} {v : Value} {n : Nat} {xs : List Int} {n₀ : Nat} (h : Row n₀ w v n xs) (hb : ∀ k, n₀ ≤ k → w'.heap[k]? = w.heap[k]?) : Row n₀ w' v n xs := by
  refine ⟨h.1, ?_⟩
  rcases h.2 with h0 | ⟨g, cap, cur, e, h1, hg, h2⟩
  · exact .inl h0
  · exact .inr ⟨g, cap, cur, e, h1, (hb g h1).trans hg, h2⟩
theorem Row.nil (n₀ : Nat) (w : World) : Row n₀ w (.slice none (nl 0) 0) (nl 0) (natOf 0) := by
  rw [nl_zero, natOf_zero]; exact World.ownsRow_nil _ _ _ _
/-- What lies in a block of its own stays while another row grows. -/
theorem Row.grown {w w' : World} {v : Value} {n : Nat} {xs : List Int} {n₀ : Nat} (h : Row n₀ w v n xs) {row : Option Nat} (hg : w.grownBy w' row) (hr : ∀ k, row = some k → k < n₀) : Row n₀ w' v n xs := by
  refine ⟨h.1, ?_⟩
  rcases h.2 with h0 | ⟨g, cap, cur, e, h1, hb, h2⟩
  · exact .inl h0
  · refine .inr ⟨g, cap, cur, e, h1, ?_, h2⟩
    rw [hg.block g (Array.getElem?_eq_some_iff.1 hb).1 (fun e1 => by have := hr g e1.symm; omega)]; exact hb
theorem Own.row_lt {W w : World} {v : Value} {n : Nat} {xs : List Int} (h : Own W w v n xs) (k : Nat) (hk : v.ownBlock = some k) : k < w.heap.size := (h.1.lt k hk).2
end Go.Proofs.YtpimcbncmfpdhaaGreatDoor
/-
  Contract of package common's function later, for every two lists of words without 0s at their ends of which the second one isn't the greater and the first one isn't 0: two numbers further down that have the same common divisor. Memory that was there stays.
-/
namespace Go.Proofs.YtpimcbncmfpdhaaGreatDoor
open Go.RowKit

/-- What later answers of A and B: two numbers u and v. -/
def Later (A B u v : Nat) : Prop := v ≤ u ∧ u ≤ A ∧ u + v < A + B ∧ (0 < B → Nat.gcd u v = Nat.gcd A B ∧ 0 < u) ∧ (B = 0 → u = 0)

theorem later_rest {A B : Nat} (hA : 0 < A) (hB : B ≤ A) : Later A B B (rest A B) := by
  unfold rest
  rcases Nat.eq_zero_or_pos B with rfl | h
  · exact ⟨by simp, by omega, by simp; omega, by omega, by omega⟩
  · rw [if_neg (by omega)]
    have := Nat.mod_lt A h
    refine ⟨by omega, by omega, by omega, fun _ => ⟨?_, h⟩, by omega⟩
    rw [Nat.gcd_comm A B, Nat.gcd_rec B A, Nat.gcd_comm]
theorem later_leapt {X Y p q r t : Int} {A B : Nat} (h : Leapt X Y p q r t) (hh : Heads X Y A B) (hB : B ≤ A) : Later A B (p * A - q * B).natAbs (r * A - t * B).natAbs := by
  obtain ⟨h1, h2, h3⟩ := h.2.2.2.2 A B hh
  exact ⟨by omega, by omega, by omega, fun _ => ⟨h1, by omega⟩, by omega⟩

set_option maxHeartbeats 4000000 in
theorem common_later (n₀ A B : Nat) (a : Option Addr) (c : Nat) (b : Option Addr) (d : Nat) (w : World) (h : Row n₀ w (.slice a (nl A) c) (nl A) (natOf A)) (k : Row n₀ w (.slice b (nl B) d) (nl B) (natOf B)) (hn : n₀ ≤ w.heap.size) (hA : 0 < A) (hB : B ≤ A) (hL : nl A ≤ 10000000000) :
    Calls Tryz.prog 144 #[.slice a (nl A) c, .slice b (nl B) d] w fun e w' => ∃ u v a1 c1 a2 c2, e = .returned (.tuple #[.slice a1 (nl u) c1, .slice a2 (nl v) c2]) ∧ Row n₀ w' (.slice a1 (nl u) c1) (nl u) (natOf u) ∧ Row n₀ w' (.slice a2 (nl v) c2) (nl v) (natOf v) ∧ Below w.heap.size w w' ∧ Later A B u v := by
  have P := h.words
  have Q := k.words
  have hm := nl_mono hB
  have hp := nl_pos hA
  obtain ⟨g, rfl⟩ : ∃ g, a = some ⟨g, 0, none⟩ := by
    rcases h.addr with rfl | h0
    · have := P.none.1; omega
    · exact h0
  have HC := common_heads g (nl A) c (natOf A) b (nl B) d (natOf B) w P (wd_natOf A) Q (wd_natOf B) k.addr hm (by rw [val_natOf, val_natOf]; exact hB) (by omega)
  rw [val_natOf, val_natOf] at HC
  have LC := fun (X Y : Nat) (h1 : X < 18446744073709551616) (h2 : Y ≤ X) => common_leap X Y w (by omega) (by omega) (by omega)
  have DV := fun v (hb : Below w.heap.size w v) => split_div_any (P.below hb) (wd_natOf A) (Q.below hb) (wd_natOf B) (by omega) A B (val_natOf A) (val_natOf B)
  have OF := fun (x y : Int) v (hb : Below w.heap.size w v) (x0 : 0 ≤ x) (x1 : x < 4294967296) (y0 : 0 ≤ y) (y1 : y < 4294967296) => common_of x y _ _ _ _ _ _ _ _ v (P.below hb) (wd_natOf A) (Q.below hb) (wd_natOf B) (by omega) (by omega) x0 x1 y0 y1 _ rfl
  rw [val_natOf, val_natOf] at OF
  have HK : Hid (Row n₀ w (.slice b (nl B) d) (nl B) (natOf B)) := k
  have HA : Hid (0 < A ∧ B ≤ A ∧ n₀ ≤ w.heap.size) := ⟨hA, hB, hn⟩
  unfold AnsDivB at DV
  unfold Ans at OF
  clear h k P Q hA hB hn hL hm hp
  go_enter Tryz.func144, Tryz.ntmps144
  go_wp2_with (first
    | (go_at_call 163; (with_reducible refine Calls.mono HC ?_); rintro e w1 ⟨X, Y, rfl, rfl, x1, yx, hh⟩)
    | (go_at_call 162; (with_reducible refine Calls.mono (LC X Y x1 yx) ?_); rintro e w2 ⟨p, q, r, t, rfl, B2, hr⟩)
    | fail)
  all_goals
    have bx1 := (Box.new w2 p q).alloc (.cells #[.int .u64 r, .int .u64 t] 151)
    have bx2 := Box.new (w2.alloc (.cells #[.int .u64 p, .int .u64 q] 151)) r t
    have B3 : Below w.heap.size w ((w2.alloc (.cells #[.int .u64 p, .int .u64 q] 151)).alloc (.cells #[.int .u64 r, .int .u64 t] 151)) := (B2.alloc B2.size _).alloc (by have := B2.size; simp; omega) _
    have ez : (w2.alloc (.cells #[.int .u64 p, .int .u64 q] 151)).heap.size = w2.heap.size + 1 := by simp
    rw [ez] at bx2
    generalize (w2.alloc (.cells #[.int .u64 p, .int .u64 q] 151)).alloc (.cells #[.int .u64 r, .int .u64 t] 151) = W3 at *
    clear ez
  · clear bx1 bx2 OF HC LC hr hh x1 yx
    go_wp2_with (first
      | (go_at_call 113; (with_reducible refine Calls.mono (DV W3 B3) ?_); rintro e w4 ⟨a4, c4, a5, c5, rfl, o4, o5⟩))
    go_ret2
    obtain ⟨hA, hB, hn⟩ := HA.out
    exact ⟨B, rest A B, b, d, a5, c5, rfl, (HK.out.more B3).more o5.below, o5.row (Nat.le_trans hn B3.size), below_more B3 o5.below, later_rest hA hB⟩
  · have h0 : (r == 0) = false := ‹_›
    have L := hr.resolve_left (by simpa using h0)
    obtain ⟨hA, hB, hn⟩ := HA.out
    have HL : Hid (Later A B (p * A - q * B).natAbs (r * A - t * B).natAbs) := later_leapt L hh hB
    have hn3 := Nat.le_trans hn B3.size
    obtain ⟨⟨p0, p1⟩, ⟨q0, q1⟩, ⟨r0, r1⟩, ⟨t0, t1⟩, -⟩ := L
    have O1 := fun v hb => OF p q v hb p0 p1 q0 q1
    have O2 := fun v hb => OF r t v hb r0 r1 t0 t1
    clear OF DV HC LC hr hh x1 yx HA HK hA hB hn
    generalize (p * A - q * B).natAbs = u at O1 HL
    generalize (r * A - t * B).natAbs = v at O2 HL
    have B4 := B3.drew
    obtain ⟨c1, c2, f1, f2⟩ := bx1.drew.cells
    obtain ⟨c3, c4, f3, f4⟩ := bx2.drew.cells
    go_region_with (first
      | (go_at_call 164; (with_reducible refine Calls.mono (O1 W3.drew B4) ?_); rintro e w4 ⟨a1, k1, rfl, o1⟩; have o1' := o1.row hn3; have B5 := below_more B4 o1.below; obtain ⟨d1, d2, g1, g2⟩ := (bx1.drew.more o1.below).cells; obtain ⟨d3, d4, g3, g4⟩ := (bx2.drew.more o1.below).cells)
      | (go_at_call 164; (with_reducible refine Calls.mono (O2 W3.drew B4) ?_); rintro e w4 ⟨a2, k2, rfl, o2⟩; have o2' := o2.row hn3; have B5 := below_more B4 o2.below; obtain ⟨d1, d2, g1, g2⟩ := (bx1.drew.more o2.below).cells; obtain ⟨d3, d4, g3, g4⟩ := (bx2.drew.more o2.below).cells)
      | (go_at_call 164; (with_reducible refine Calls.mono (O2 w4 B5) ?_); rintro e w5 ⟨a2, k2, rfl, o2⟩; have o1' := o1'.more o2.below; have o2' := o2.row (Nat.le_trans hn3 o1.below.size); have B6 := below_more B5 o2.below)
      | (go_at_call 164; (with_reducible refine Calls.mono (O1 w4 B5) ?_); rintro e w5 ⟨a1, k1, rfl, o1⟩; have o2' := o2'.more o1.below; have o1' := o1.row (Nat.le_trans hn3 o2.below.size); have B6 := below_more B5 o1.below))
    all_goals
      go_wp2
      go_ret2
      exact ⟨u, v, a1, k1, a2, k2, rfl, o1', o2', B6, HL.out⟩
end Go.Proofs.YtpimcbncmfpdhaaGreatDoor
/-
  Contract of the iterator that package common's function Gcd ranges over (lefts$1), inside a range over it: whatever keeps to what is asked of a round, the last slice told is the greatest common divisor of two lists of words. Memory from its own beginning on is its own.
-/
namespace Go.Proofs.YtpimcbncmfpdhaaGreatDoor
open Go.RowKit Go.Shelf
attribute [local go_sem] Oper.semAt_some

theorem cell_below {w w' : World} {p : Addr} {v : Value} (h : w.cell? p = some v) (hb : Below w.heap.size w w') : w'.cell? p = some v := (hb.cell (World.block_lt_of_cell? w _ h)).trans h

/-- A slice: where it begins, how many words it has, for how many it has room. -/
abbrev Sl := Option Addr × Nat × Nat

/-- Where the iterator stands: at two numbers A and B; g is what both are together; u is what was told last. -/
def LeftsAt (n₀ G : Nat) (J : Sl → World → Prop) (g : Nat) (v4 v5 : Value) (w : World) : Prop :=
  ∃ (A B : Nat) (a : Option Addr) (c : Nat) (b : Option Addr) (d : Nat) (u : Sl), v4 = .slice a (nl A) c ∧ v5 = .slice b (nl B) d ∧ Row n₀ w (.slice a (nl A) c) (nl A) (natOf A) ∧ Row n₀ w (.slice b (nl B) d) (nl B) (natOf B) ∧ n₀ ≤ w.heap.size ∧
    B ≤ A ∧ nl A ≤ 10000000000 ∧ g = A + B ∧ J u w ∧ (0 < A ∧ Nat.gcd A B = G ∨ A = 0 ∧ ∃ a' c', u = (a', nl G, c') ∧ Row n₀ w (.slice a' (nl G) c') (nl G) (natOf G))

theorem LeftsAt.start {n₀ G A B : Nat} {J : Sl → World → Prop} {w : World} {a : Option Addr} {c : Nat} {b : Option Addr} {d : Nat} (h : Row n₀ w (.slice a (nl A) c) (nl A) (natOf A)) (k : Row n₀ w (.slice b (nl B) d) (nl B) (natOf B)) (hn : n₀ ≤ w.heap.size) (hB : B ≤ A) (hA : nl A ≤ 1000000000)
    (hJ : J (none, 0, 0) w) (hG : Nat.gcd A B = G) : LeftsAt n₀ G J (A + B) (.slice a (nl A) c) (.slice b (nl B) d) w := by
  refine ⟨A, B, a, c, b, d, _, rfl, rfl, h, k, hn, hB, by omega, rfl, hJ, ?_⟩
  rcases Nat.eq_zero_or_pos A with h0 | h0
  · obtain rfl : B = 0 := by omega
    subst h0
    have e : G = 0 := by rw [← hG]; rfl
    subst e
    exact .inr ⟨rfl, none, 0, by rw [nl_zero], by have := Row.nil n₀ w; rw [nl_zero] at this; rw [nl_zero]; exact this⟩
  · exact .inl ⟨h0, hG⟩

set_option maxHeartbeats 4000000 in
theorem common_lefts1 (n l n₀ Ba Bb : Nat) (hn : 1 ≤ n) (J : Sl → World → Prop) (hJ : ∀ v W W', J v W → Below W.heap.size W W' → J v W')
    (hY : ∀ u x m c W1, J u W1 → YieldAt Fence.wide (n - 1) Tryz.prog l #[.slice x m c] W1 fun e W' => e = .returned (.bool true) ∧ J (x, m, c) W' ∧ W'.heap.size = W1.heap.size ∧ ∀ k, n₀ ≤ k → W'.heap[k]? = W1.heap[k]?)
    (a : Option Addr) (m c : Nat) (xs : List Int) (b : Option Addr) (m' d : Nat) (ys : List Int) (W : World) (hW : W.heap.size = n₀) (ca : W.cell? ⟨Ba, 0, none⟩ = some (.slice a m c)) (cb : W.cell? ⟨Bb, 0, none⟩ = some (.slice b m' d))
    (h : IsWords W (.slice a m c) xs) (hx : Wd xs) (k : IsWords W (.slice b m' d) ys) (hy : Wd ys) (hm : m ≤ 1000000000) (hm' : m' ≤ 1000000000) (h0 : J (none, 0, 0) W) (G : Nat) (hG : Nat.gcd (val xs) (val ys) = G) :
    CallsIn Fence.wide n Tryz.prog 143 #[.func (.yield l) #[] #[], .pointer (some ⟨Ba, 0, none⟩), .pointer (some ⟨Bb, 0, none⟩)] W fun e W' => (∃ v, e = .returned v) ∧ ∃ a' c', J (a', nl G, c') W' ∧ Row n₀ W' (.slice a' (nl G) c') (nl G) (natOf G) := by
  have T1 := fun v (hb : Below W.heap.size W v) => nat_trim' (h.below hb) hx (by omega) _ rfl
  have T2 := fun v (hb : Below W.heap.size W v) => nat_trim' (k.below hb) hy (by omega) _ rfl
  unfold Ans at T1 T2
  have l1 := nl_small hx 1000000000 (by rw [h.len]; omega)
  have l2 := nl_small hy 1000000000 (by rw [k.len]; omega)
  generalize val xs = A at *
  generalize val ys = B at *
  have B0 : Below W.heap.size W W.drew := (Below.refl _ _).drew
  have ca0 : W.drew.cell? ⟨Ba, 0, none⟩ = some (.slice a m c) := ca
  have cb0 : W.drew.cell? ⟨Bb, 0, none⟩ = some (.slice b m' d) := cb
  have hmx : Tryz.prog.follows .mixedOrders = true := by kernel_rfl
  refine callsIn_of_wp Tryz.func143 rfl trivial ?_ rfl
  simp only [Tryz.ntmps143, List.size_toArray, List.length_cons, List.length_nil, Nat.reduceAdd, Nat.reduceSub, Array.replicate_succ, Array.replicate_zero, List.push_toArray, List.append_toArray, List.nil_append, List.cons_append]
  gi_wp2
  gi_region_with_o (first
    | (refine ⟨trivial, ?_⟩; gi_at_call 128; (with_reducible refine CallsIn.mono (callsIn_wide.2 (T1 W.drew B0)) ?_); rintro e w1 ⟨a1, k1, rfl, o1⟩; have B1 := below_more B0 o1.below; have ca1 := cell_below ca0 o1.below; have cb1 := cell_below cb0 o1.below)
    | (refine ⟨trivial, ?_⟩; gi_at_call 128; (with_reducible refine CallsIn.mono (callsIn_wide.2 (T2 W.drew B0)) ?_); rintro e w1 ⟨a2, k2, rfl, o2⟩; have B1 := below_more B0 o2.below; have ca1 := cell_below ca0 o2.below; have cb1 := cell_below cb0 o2.below)
    | (refine ⟨trivial, ?_⟩; gi_at_call 128; (with_reducible refine CallsIn.mono (callsIn_wide.2 (T2 w1 B1)) ?_); rintro e w2 ⟨a2, k2, rfl, o2⟩; have o1 := o1.more o2.below)
    | (refine ⟨trivial, ?_⟩; gi_at_call 128; (with_reducible refine CallsIn.mono (callsIn_wide.2 (T1 w1 B1)) ?_); rintro e w2 ⟨a1, k1, rfl, o1⟩; have o2 := o2.more o1.below))
  all_goals
    have R1 : Row n₀ w2 (.slice a1 (nl A) k1) (nl A) (natOf A) := by first | exact o1.row (Nat.le_of_eq hW.symm) | exact o1.row (hW ▸ B1.size)
    have R2 : Row n₀ w2 (.slice a2 (nl B) k2) (nl B) (natOf B) := by first | exact o2.row (Nat.le_of_eq hW.symm) | exact o2.row (hW ▸ B1.size)
    have J2 : J (none, 0, 0) w2 := by first | exact hJ _ _ _ h0 (below_more B1 o2.below) | exact hJ _ _ _ h0 (below_more B1 o1.below)
    have S2 : n₀ ≤ w2.heap.size := by first | exact hW ▸ (below_more B1 o2.below).size | exact hW ▸ (below_more B1 o1.below).size
    clear T1 T2 ca cb ca0 cb0 ca1 cb1 B0 B1 o1 o2 h k h0
    rcases Nat.lt_or_ge A B with hlt | hge
    case' inl =>
      obtain ⟨cs, C, hcs⟩ : ∃ cs : Int, Calls Tryz.prog 76 #[.slice a1 (nl A) k1, .slice a2 (nl B) k2] w2 (fun e w' => e = .returned (.int .i64 cs) ∧ Below w2.heap.size w2 w') ∧ cs < 0 :=
        ⟨-1, nat_cmp' R1.words (wd_natOf A) R2.words (wd_natOf B) (-1) (by rw [val_natOf, val_natOf]; exact sgn_lt (by omega)), by omega⟩
      have ST := fun v (hb : Below w2.heap.size w2 v) => LeftsAt.start (G := G) (R2.more hb) (R1.more hb) (Nat.le_trans S2 hb.size) (Nat.le_of_lt hlt) l2 (hJ _ _ _ J2 hb) (by rw [Nat.gcd_comm]; exact hG)
      rw [Nat.add_comm B A] at ST
      have hs : Hid (A < B) := hlt
    case' inr =>
      obtain ⟨cs, C, hcs⟩ : ∃ cs : Int, Calls Tryz.prog 76 #[.slice a1 (nl A) k1, .slice a2 (nl B) k2] w2 (fun e w' => e = .returned (.int .i64 cs) ∧ Below w2.heap.size w2 w') ∧ 0 ≤ cs := by
        refine ⟨_, nat_cmp' R1.words (wd_natOf A) R2.words (wd_natOf B) _ rfl, ?_⟩
        rw [val_natOf, val_natOf]
        rcases Nat.lt_or_ge B A with h | h
        · rw [sgn_gt (by omega)]; omega
        · rw [sgn_eq (by omega)]; omega
      have ST := fun v (hb : Below w2.heap.size w2 v) => LeftsAt.start (G := G) (R1.more hb) (R2.more hb) (Nat.le_trans S2 hb.size) hge l1 (hJ _ _ _ J2 hb) hG
      have hs : Hid (B ≤ A) := hge
    all_goals
      clear R1 R2 J2 S2 l1 l2 hG hW
      gi_wp2_with (first
        | (refine ⟨trivial, ?_⟩; gi_at_call 76; (with_reducible refine CallsIn.mono (callsIn_wide.2 C) ?_); rintro e w3 ⟨rfl, b3⟩))
      have ST := ST w3 b3
      gi_loopg [4, 5] (A + B) (fun g v4 v5 v => LeftsAt n₀ G J g v4 v5 v)
      case atStart => exact ST
      case round =>
        obtain ⟨A1, B1, x1, c1, y1, d1, u, rfl, rfl, r1, r2, hz, hBA, hL, hg, hu, hc⟩ := hrel
        clear ST C hcs hs
        rcases hc with ⟨hpos, hgc⟩ | ⟨h0, a', c', rfl, r3⟩
        · have hnl : 0 < nl A1 := nl_pos hpos
          obtain ⟨fn, tmps, assign, body, hy, hR⟩ := hY u x1 (nl A1) c1 wr hu
          gi_wp2
          refine hR.mono ?_
          rintro e W3 ⟨rfl, hJ3, hs3, hk3⟩
          have q1 := r1.keep hk3
          have q2 := r2.keep hk3
          have hz3 : n₀ ≤ W3.heap.size := by omega
          have LT := common_later n₀ A1 B1 x1 c1 y1 d1 W3 q1 q2 hz3 hpos hBA hL
          have HF : Hid (∀ (u v : Nat), Later A1 B1 u v → u + v < gk ∧ v ≤ u ∧ nl u ≤ 10000000000 ∧ ((0 < u ∧ Nat.gcd u v = G) ∨ (u = 0 ∧ A1 = G))) := fun u v hl => by
            obtain ⟨z1, z2, z3, z4, z5⟩ := hl
            refine ⟨by omega, z1, Nat.le_trans (nl_mono z2) hL, ?_⟩
            rcases Nat.eq_zero_or_pos B1 with e | e
            · subst e
              rw [Nat.gcd_zero_right] at hgc
              exact .inr ⟨z5 rfl, hgc⟩
            · obtain ⟨z6, z7⟩ := z4 e
              exact .inl ⟨z7, z6.trans hgc⟩
          clear r1 r2 hg hgc hu hY hy hR hk3 hs3 hL hz
          gi_wp2_with (first
            | (refine ⟨trivial, ?_⟩; gi_at_call 144; (with_reducible refine CallsIn.mono (callsIn_wide.2 LT) ?_); rintro e W4 ⟨u4, v4, a4, c4, a5, c5, rfl, r4, r5, b4, hl4⟩))
          obtain ⟨f1, f2, f3, f4⟩ := HF.out u4 v4 hl4
          gi_roundg (u4 + v4)
          case measure => exact f1
          case rel =>
            refine ⟨u4, v4, a4, c4, a5, c5, (x1, nl A1, c1), rfl, rfl, r4, r5, Nat.le_trans hz3 b4.size, f2, f3, rfl, hJ _ _ _ hJ3 b4, ?_⟩
            rcases f4 with f4 | ⟨f4, f5⟩
            · exact .inl f4
            · subst f5
              exact .inr ⟨f4, x1, c1, rfl, q1.more b4⟩
        · have e0 : nl A1 = 0 := by rw [h0]; exact nl_zero
          rw [e0]
          gi_wp2
          refine ⟨fun _ h => (by cases h), ?_⟩
          gi_wp2
          go_end0
          exact ⟨⟨_, rfl⟩, a', c', hu, r3⟩
end Go.Proofs.YtpimcbncmfpdhaaGreatDoor
/-
  A law of no function: a range over a function whose body goes on in every round, turns nothing but what lay ahead of the loop, and makes no memory: what the function tells last, and what it says of that. Conditions: none of the program.
-/
namespace Go.Proofs.YtpimcbncmfpdhaaGreatDoor
open Go.RowKit

theorem below_put {B : Nat} {w W : World} (h : Below B w W) {r : Nat} (hr : B ≤ r) (o : Obj) : Below B w (W.putObj r o) :=
  h.trans ⟨rfl, rfl, rfl, by simp, fun k hk => World.putObj_heap_other (by omega)⟩

theorem wpIn_range_told {α : Type} (enc : α → Value) {F : Fence} {n : Nat} {P : Program} {g : Operand} {p : Tmp} {assign body : Code} {Q : Exit → Act → World → Prop} {a : Act} {w : World}
    (hro : F.round = none) (h1 : 1 ≤ n) {gf : Nat} {lb : Array Value} (hg : a.eval g = .func (.func gf) #[] lb) (hFg : F.fn gf) (eg : ∀ args w, (callFunc gf args).run P w = .ok (.enter gf args) w)
    (I S : α → World → Prop) (v0 : α) (h0 : I v0 w) (hIb : ∀ v A B, I v A → w.heap.size ≤ A.heap.size → Below A.heap.size A B → I v B) (hIp : ∀ v A r o, I v A → w.heap.size ≤ r → I v (A.putObj r o))
    (a₁ : α → Act)
    (hassign : ∀ l v W K, K (a₁ v) W → assign.wpIn (F.inRound l) (n - 1 - 1) P (Exit.then K (fun _ _ _ => False)) { tmps := a.tmps.setIfInBounds p (enc v), defers := [] } W)
    (hbody : ∀ l u v W, I u W → body.wpIn (F.inRound l) (n - 1 - 1) P (fun e _ W' => e = .normal ∧ I v W' ∧ W'.heap.size = W.heap.size ∧ ∀ k, w.heap.size ≤ k → W'.heap[k]? = W.heap[k]?) (a₁ v) W)
    (hseq : ∀ l (J : α → World → Prop) W, W.heap.size = w.heap.size + 2 → Below w.heap.size w W → (∀ v A B, J v A → Below A.heap.size A B → J v B) →
      (∀ u v A, J u A → YieldAt F (n - 1 - 1) P l #[enc v] A fun e B => e = .returned (.bool true) ∧ J v B ∧ B.heap.size = A.heap.size ∧ ∀ k, w.heap.size + 2 ≤ k → B.heap[k]? = A.heap[k]?) → J v0 W →
      CallsIn F (n - 1) P gf (#[.func (.yield l) #[] #[]] ++ lb) W fun e B => (∃ v, e = .returned v) ∧ ∃ v, J v B ∧ S v B)
    (hS : ∀ v A r o, S v A → r < w.heap.size + 2 → S v (A.putObj r o))
    (hdone : ∀ D v W, w.heap.size ≤ D → D < w.heap.size + 2 → I v W → S v W → W.heap[D]? = some (.deferred (some [])) → Q .normal { a with defers := { target := .collected D, args := #[] } :: a.defers } W) :
    (Code.rangeFunc g #[p] assign body).wpIn F n P Q a w := by
  refine wpIn_rangeFunc ?_
  intro fn hfn
  rw [hro]
  obtain ⟨R, hR⟩ : ∃ R : LoopState → Loop, R = fun st => { state := st, pending := none, fn, tmps := a.tmps, params := #[p], assign, body, defers := w.heap.size } := ⟨_, rfl⟩
  obtain ⟨V, hV⟩ : ∃ V, (w.alloc (.deferred (some []))).alloc (.loop (R .ready)) = V := ⟨_, rfl⟩
  have z1 : V.heap.size = w.heap.size + 2 := by rw [← hV]; simp
  have bV : Below w.heap.size w V := by rw [← hV]; exact ((Below.refl _ w).alloc (Nat.le_refl _) _).alloc (by simp) _
  have kL : V.heap[w.heap.size + 1]? = some (.loop (R .ready)) := by
    rw [← hV]; have := World.alloc_heap_new (w.alloc (.deferred (some []))) (.loop (R .ready)); rwa [World.size_alloc] at this
  have kD : V.heap[w.heap.size]? = some (.deferred (some [])) := by
    rw [← hV]; exact (Below.heap_alloc _ _ _ (by simp)).trans (World.alloc_heap_new w _)
  refine ⟨w.heap.size + 1, [{ target := .collected w.heap.size, args := #[] }], V, { target := .fn (.func gf) lb, args := #[.func (.yield (w.heap.size + 1)) #[] #[]] }, V, gf, #[.func (.yield (w.heap.size + 1)) #[] #[]] ++ lb, V, ?_, ?_, ?_, ?_, fun _ => h1, ?_⟩
  · rw [← hV, hR]; exact run_enterLoop_outer _ _ _ _ _
  · simp only [resolve, hg]; simp [go_sem]
  · intro f' hf'; simp [Target.leads] at hf'; subst hf'; exact hFg
  · simp [invoke, go_sem, eg]
  refine (hseq (w.heap.size + 1) (fun v A => I v A ∧ A.heap[w.heap.size + 1]? = some (.loop (R .ready)) ∧ A.heap[w.heap.size]? = some (.deferred (some []))) V z1 bV ?_ ?_ ⟨hIb _ _ _ h0 (Nat.le_refl _) bV, kL, kD⟩).mono ?_
  · rintro v A B ⟨i, l, d⟩ hb
    have lt := (Array.getElem?_eq_some_iff.1 l).1
    exact ⟨hIb v A B i (by omega) hb, (hb.block _ lt).trans l, (hb.block _ (by omega)).trans d⟩
  · rintro u v A ⟨i, l, d⟩
    have lt := (Array.getElem?_eq_some_iff.1 l).1
    have hy : (Instr.yield (w.heap.size + 1) #[enc v]).run P A = .ok (.round (w.heap.size + 1) fn (a.tmps.setIfInBounds p (enc v)) assign body) A := by
      have := run_yield (P := P) (args := #[enc v]) l (by rw [hR]; rfl)
      rw [hR] at this
      simpa using this
    refine ⟨fn, _, assign, body, hy, roundIn_of_wpIn hfn ?_⟩
    refine hassign _ v A _ ?_
    refine ⟨_, run_beginRound l (by rw [hR]), ?_⟩
    have l2 : (A.putObj (w.heap.size + 1) (.loop { R .ready with state := .busy })).heap[w.heap.size + 1]? = some (.loop { R .ready with state := .busy }) := World.putObj_heap_same lt
    refine wpIn_mono (hbody _ u v _ (hIp _ _ _ _ i (by omega))) ?_
    rintro e a3 B ⟨rfl, i3, z3, k3⟩
    have l3 := (k3 (w.heap.size + 1) (by omega)).trans l2
    have hend := run_endRound (P := P) none l3
    have d3 := (k3 w.heap.size (Nat.le_refl _)).trans ((World.putObj_heap_other (by omega)).trans d)
    have l4 := World.putObj_heap_same (o := .loop (R .ready)) (Array.getElem?_eq_some_iff.1 l3).1
    refine ⟨_, _, hend, rfl, ⟨hIp _ _ _ _ i3 (by omega), ?_, (World.putObj_heap_other (by omega)).trans d3⟩, by simpa using z3, fun k hk => ?_⟩
    · rw [hR] at l4 ⊢; exact l4
    · rw [World.putObj_heap_other (by omega), k3 k (by omega), World.putObj_heap_other (by omega)]
  · rintro e B ⟨⟨v, rfl⟩, u, ⟨i, l, d⟩, s⟩
    have lt := (Array.getElem?_eq_some_iff.1 l).1
    refine ⟨none, _, ?_, hdone w.heap.size u _ (Nat.le_refl _) (by omega) (hIp _ _ (w.heap.size + 1) (.loop { R .ready with state := .exhausted }) i (by omega)) (hS _ _ _ _ s (by omega)) ((World.putObj_heap_other (by omega)).trans d)⟩
    have := run_endLoop (P := P) l (by rw [hR]; simp)
    rw [hR] at this ⊢
    exact this
end Go.Proofs.YtpimcbncmfpdhaaGreatDoor
/-
  Contract of package common's function Gcd, for every two lists of words: the list of the greatest common divisor; memory that was there stays, and what is answered is the call's own.
-/
namespace Go.Proofs.YtpimcbncmfpdhaaGreatDoor
open Go.RowKit Go.Shelf
attribute [local go_sem] Oper.semAt_some

theorem common_lefts (n : Nat) (a : Option Addr) (m c : Nat) (b : Option Addr) (m' d : Nat) (w : World) :
    CallsIn Fence.wide n Tryz.prog 116 #[.slice a m c, .slice b m' d] w fun e w' => e = .returned (.func (.func 143) #[] #[.pointer (some ⟨w.heap.size, 0, none⟩), .pointer (some ⟨w.heap.size + 1, 0, none⟩)]) ∧
      w' = (w.alloc (.cells #[.slice a m c] 22)).alloc (.cells #[.slice b m' d] 22) := by
  refine callsIn_wide.2 ?_
  go_enter Tryz.func116, Tryz.ntmps116
  go_wp2
  go_ret
  exact ⟨by simp, rfl⟩

theorem new_block (v : World) (o : Obj) : (v.alloc o).heap[v.heap.size]? = some o := by show (v.heap.push o)[v.heap.size]? = _; simp
theorem one_cell {w : World} {k : Nat} {v : Value} {T : TypeId} (h : w.heap[k]? = some (.cells #[v] T (0, 0))) : w.cell? ⟨k, 0, none⟩ = some v ∧ w.frozen? ⟨k, 0, none⟩ = false := by
  simp [World.cell?, World.frozen?, h]

set_option maxHeartbeats 4000000 in
theorem common_gcd {a : Option Addr} {m c : Nat} {xs : List Int} {b : Option Addr} {m' d : Nat} {ys : List Int} {w : World} (h : IsWords w (.slice a m c) xs) (hx : Wd xs) (k : IsWords w (.slice b m' d) ys) (hy : Wd ys) (hm : m ≤ 1000000000) (hm' : m' ≤ 1000000000) (G : Nat) (hG : Nat.gcd (val xs) (val ys) = G) :
    Calls Tryz.prog 85 #[.slice a m c, .slice b m' d] w (Ans w G) := by
  refine (callsIn_wide (n := 3)).1 ?_
  refine callsIn_of_wp_marks Tryz.func85 rfl trivial ?_ rfl
  simp only [Tryz.ntmps85, List.size_toArray, List.length_cons, List.length_nil, Nat.reduceAdd, Nat.reduceSub, Array.replicate_succ, Array.replicate_zero, List.push_toArray, List.append_toArray, List.nil_append, List.cons_append]
  gi_wp2_with (refine ⟨trivial, ?_⟩; gi_at_call 116; refine (common_lefts _ _ _ _ _ _ _ _).mono ?_; rintro e w' ⟨rfl, rfl⟩)
  obtain ⟨V, hV⟩ : ∃ V, ((w.alloc (.cells #[.slice none 0 0] 22)).alloc (.cells #[.slice a m c] 22)).alloc (.cells #[.slice b m' d] 22) = V := ⟨_, rfl⟩
  have zV : V.heap.size = w.heap.size + 3 := by rw [← hV]; simp
  have bV : Below w.heap.size w V := by rw [← hV]; exact (((Below.refl _ w).alloc (Nat.le_refl _) _).alloc (by simp) _).alloc (by simp; omega) _
  have k0 : V.heap[w.heap.size]? = some (.cells #[.slice none 0 0] 22 (0, 0)) := by
    rw [← hV, Below.heap_alloc _ _ _ (by simp; omega), Below.heap_alloc _ _ _ (by simp)]; exact new_block w _
  have k1 : V.heap[w.heap.size + 1]? = some (.cells #[.slice a m c] 22 (0, 0)) := by
    rw [← hV, Below.heap_alloc _ _ _ (by simp)]
    have := new_block (w.alloc (.cells #[.slice none 0 0] 22)) (.cells #[.slice a m c] 22)
    rwa [World.size_alloc] at this
  have k2 : V.heap[w.heap.size + 1 + 1]? = some (.cells #[.slice b m' d] 22 (0, 0)) := by
    rw [← hV]
    have := new_block ((w.alloc (.cells #[.slice none 0 0] 22)).alloc (.cells #[.slice a m c] 22)) (.cells #[.slice b m' d] 22)
    rwa [World.size_alloc, World.size_alloc] at this
  rw [hV]
  clear hV
  refine wpIn_range_told (fun s : Sl => .slice s.1 s.2.1 s.2.2) rfl (by omega) (gf := 143) (lb := #[.pointer (some ⟨w.heap.size + 1, 0, none⟩), .pointer (some ⟨w.heap.size + 1 + 1, 0, none⟩)]) rfl trivial (enters_of Tryz.func143 (by kernel_rfl) rfl)
    (fun v W => W.cell? ⟨w.heap.size, 0, none⟩ = some (.slice v.1 v.2.1 v.2.2) ∧ W.frozen? ⟨w.heap.size, 0, none⟩ = false ∧ Below w.heap.size w W)
    (fun v W => ∃ a' c', v = (a', nl G, c') ∧ Row (w.heap.size + 5) W (.slice a' (nl G) c') (nl G) (natOf G))
    (none, 0, 0) ⟨(one_cell k0).1, (one_cell k0).2, bV⟩ ?_ ?_
    (fun v => { tmps := #[.slice a m c, .slice b m' d, undef, undef, .slice none 0 0, .pointer (some ⟨w.heap.size, 0, none⟩), .slice v.1 v.2.1 v.2.2, .slice a m c, .slice b m' d, .func (.func 143) #[] #[.pointer (some ⟨w.heap.size + 1, 0, none⟩), .pointer (some ⟨w.heap.size + 1 + 1, 0, none⟩)], .slice v.1 v.2.1 v.2.2, undef, undef], defers := [] })
    ?assign ?body ?seq ?_ ?done
  · rintro v A B ⟨i1, i2, i3⟩ hz hb
    exact ⟨(hb.cell (p := ⟨w.heap.size, 0, none⟩) (by simp; omega)).trans i1, (hb.frozen (p := ⟨w.heap.size, 0, none⟩) (by simp; omega)).trans i2, i3.trans (hb.mono (by omega))⟩
  · rintro v A r o ⟨i1, i2, i3⟩ hr
    have e : (A.putObj r o).heap[w.heap.size]? = A.heap[w.heap.size]? := World.putObj_heap_other (by omega)
    exact ⟨(World.cell?_of_block (w := A) e).trans i1, (World.frozen?_of_block (w := A) e).trans i2, below_put i3 (by omega) o⟩
  case assign =>
    intro l v W K hK
    gi_wp2
    exact hK
  case body =>
    rintro l u ⟨x, mx, cx⟩ W ⟨i1, i2, i3⟩
    dsimp only
    gi_wp2
    exact ⟨i3.setCell (p := ⟨w.heap.size, 0, none⟩) (Nat.le_refl _) _, fun k hk => Below.heap_setCell _ _ _ _ (by simp; omega)⟩
  case seq =>
    intro l J W hz hb hJ hY h0
    have b2 : Below w.heap.size w W := bV.trans (hb.mono (by omega))
    refine (common_lefts1 2 l (w.heap.size + 5) (w.heap.size + 1) (w.heap.size + 1 + 1) (by omega) J hJ (fun u x mx cx A hj => ?_) a m c xs b m' d ys W (by omega) ?_ ?_ (h.below b2) hx (k.below b2) hy hm hm' h0 G hG).mono ?_
    · have := hY u (x, mx, cx) A hj
      rw [zV] at this
      exact this
    · exact (one_cell ((hb.block _ (by omega)).trans k1)).1
    · exact (one_cell ((hb.block _ (by omega)).trans k2)).1
    · rintro e B ⟨hv, a', c', hj, hr⟩
      exact ⟨hv, _, hj, a', c', rfl, hr⟩
  · rintro v A r o ⟨a', c', rfl, hr⟩ hlt
    exact ⟨a', c', rfl, hr.keep fun k hk => World.putObj_heap_other (by omega)⟩
  case done =>
    rintro D v W hD1 hD2 ⟨i1, i2, i3⟩ ⟨a', c', rfl, hr⟩ hK
    gi_wp2
    refine ⟨by simp, .inl ⟨_, _, rfl, run_takeDeferred hK, ?_⟩⟩
    refine ⟨_, results_tmp rfl _ _ _, a', c', rfl, ?_⟩
    exact (hr.keep fun k hk => World.putObj_heap_other (by omega)).own (by omega) (below_put i3 (by omega) _)
end Go.Proofs.YtpimcbncmfpdhaaGreatDoor
/-
  Contracts of package common's functions Lcm, Apart and Lowest, for every two lists of words, as numbers; memory that was there stays, and lists that are answered are the call's own.
-/
namespace Go.Proofs.YtpimcbncmfpdhaaGreatDoor
open Go.RowKit

/-- The first one of lowest terms, or 0. -/
def low1 (A B : Nat) : Nat := if B = 0 then 0 else A / Nat.gcd A B


set_option maxHeartbeats 1000000 in
theorem common_apart {a : Option Addr} {m c : Nat} {xs : List Int} {b : Option Addr} {m' d : Nat} {ys : List Int} {w : World} (h : IsWords w (.slice a m c) xs) (hx : Wd xs) (k : IsWords w (.slice b m' d) ys) (hy : Wd ys) (hm : m ≤ 1000000000) (hm' : m' ≤ 1000000000) (r : Bool) (hr : decide (Nat.gcd (val xs) (val ys) = 1) = r) :
    Calls Tryz.prog 49 #[.slice a m c, .slice b m' d] w fun e w' => e = .returned (.bool r) ∧ Below w.heap.size w w' := by
  have G := common_gcd h hx k hy hm hm' _ rfl
  unfold Ans at G
  have hr2 : Nat.gcd (val xs) (val ys) = 1 ↔ r = true := by rw [← hr]; simp
  clear hr
  generalize Nat.gcd (val xs) (val ys) = g at G hr2
  have O := fun v => nat_of 1 v (by omega) (by omega)
  unfold Ans at O
  rw [show (1 : Int).toNat = 1 from rfl] at O
  have C := fun v a1 c1 a2 c2 (p : IsWords v (.slice a1 (nl g) c1) (natOf g)) (q : IsWords v (.slice a2 (nl 1) c2) (natOf 1)) => nat_cmp' p (wd_natOf g) q (wd_natOf 1) (sgn g 1) (by rw [val_natOf, val_natOf]; rfl)
  have hs : decide (sgn (g : Int) 1 = 0) = r := by
    rw [Bool.eq_iff_iff]
    simp only [decide_eq_true_eq]
    rw [← hr2]
    rcases Int.lt_trichotomy (g : Int) 1 with h | h | h
    · rw [sgn_lt h]; omega
    · rw [sgn_eq h]; omega
    · rw [sgn_gt h]; omega
  generalize sgn (g : Int) 1 = s at C hs
  generalize nl 1 = k1 at O C
  generalize natOf 1 = z1 at O C
  clear h k hx hy hm hm' hr2
  go_enter Tryz.func49, Tryz.ntmps49
  go_wp2_with (first
    | (go_at_call 85; (with_reducible refine Calls.mono G ?_); rintro e w1 ⟨a1, c1, rfl, o1⟩)
    | (go_at_call 54; (with_reducible refine Calls.mono (O w1) ?_); rintro e w2 ⟨a2, c2, rfl, o2⟩)
    | (go_at_call 76; (with_reducible refine Calls.mono (C w2 _ _ _ _ (o1.more o2.below).words o2.words) ?_); rintro e w3 ⟨rfl, b3⟩))
  go_ret
  exact ⟨ret_bool (by rw [← hs]; rw [Bool.eq_iff_iff]; simp), below_more (below_more o1.below o2.below) b3⟩

set_option maxHeartbeats 1000000 in
theorem common_lowest {a : Option Addr} {m c : Nat} {xs : List Int} {b : Option Addr} {m' d : Nat} {ys : List Int} {w : World} (h : IsWords w (.slice a m c) xs) (hx : Wd xs) (k : IsWords w (.slice b m' d) ys) (hy : Wd ys) (hm : m ≤ 1000000000) (hm' : m' ≤ 1000000000) (A B : Nat) (hA : val xs = A) (hB : val ys = B) :
    Calls Tryz.prog 82 #[.slice a m c, .slice b m' d] w (AnsDivB w (low1 A B) (B / Nat.gcd A B) (decide (0 < B))) := by
  have N := nat_bits' k hy (by omega) _ rfl
  rw [hB] at N
  rcases Nat.eq_zero_or_pos B with h0 | h0
  · subst h0
    rw [nbits_zero, show ((0 : Nat) : Int) = 0 from rfl] at N
    rw [show low1 A 0 = 0 from rfl, Nat.zero_div, show decide (0 < 0) = false from rfl]
    have E := nil_nl (Below.refl w.heap.size w)
    unfold AnsDivB
    rw [nl_zero] at E ⊢
    clear h k hx hy hm hm' hA hB
    go_enter Tryz.func82, Tryz.ntmps82
    go_wp2_with (go_at_call 43; (with_reducible refine Calls.mono N ?_); rintro e w1 ⟨rfl, rfl⟩)
    go_ret3
    exact ⟨_, _, _, _, rfl, E, E⟩
  · have hb0 : ((nbits B : Int) == 0) = false := by
      have := lt_nbits B
      have : nbits B ≠ 0 := fun e => by rw [e] at this; omega
      simp; omega
    have e1 : low1 A B = A / Nat.gcd A B := if_neg (by omega)
    rw [e1, show decide (0 < B) = true from decide_eq_true h0]
    have G := common_gcd h hx k hy hm hm' (Nat.gcd A B) (by rw [hA, hB])
    unfold Ans at G
    have hg : 0 < Nat.gcd A B := Nat.gcd_pos_of_pos_right _ h0
    have D1 := fun v g1 c1 (hb : Below w.heap.size w v) (hg : IsWords v (.slice g1 (nl (Nat.gcd A B)) c1) (natOf (Nat.gcd A B))) => split_div_any (h.below hb) hx hg (wd_natOf _) (by omega) A (Nat.gcd A B) hA (val_natOf _)
    have D2 := fun v g1 c1 (hb : Below w.heap.size w v) (hg : IsWords v (.slice g1 (nl (Nat.gcd A B)) c1) (natOf (Nat.gcd A B))) => split_div_any (k.below hb) hy hg (wd_natOf _) (by omega) B (Nat.gcd A B) hB (val_natOf _)
    unfold AnsDivB at D1 D2 ⊢
    generalize A / Nat.gcd A B = X at D1 ⊢
    generalize B / Nat.gcd A B = Y at D2 ⊢
    generalize rest A (Nat.gcd A B) = R1 at D1
    generalize rest B (Nat.gcd A B) = R2 at D2
    generalize decide (0 < Nat.gcd A B) = r at D1 D2
    generalize Nat.gcd A B = g at G D1 D2
    generalize (nbits B : Int) = nb at N hb0
    clear h k hx hy hm hm' hA hB hg e1 h0
    go_enter Tryz.func82, Tryz.ntmps82
    go_wp2_with (first
      | (go_at_call 43; (with_reducible refine Calls.mono N ?_); rintro e w1 ⟨rfl, rfl⟩)
      | (go_at_call 85; (with_reducible refine Calls.mono G ?_); rintro e w1 ⟨a1, c1, rfl, o1⟩)
      | (go_at_call 113; (with_reducible refine Calls.mono (D1 w1 _ _ o1.below o1.words) ?_); rintro e w2 ⟨a2, c2, a3, c3, rfl, o2, o3⟩)
      | (go_at_call 113; (with_reducible refine Calls.mono (D2 w2 _ _ (below_more o1.below o2.below) (o1.more o2.below).words) ?_); rintro e w3 ⟨a4, c4, a5, c5, rfl, o4, o5⟩))
    go_ret3
    exact ⟨_, _, _, _, rfl, (o2.more o4.below).outer o1.below, o4.outer (below_more o1.below o2.below)⟩
end Go.Proofs.YtpimcbncmfpdhaaGreatDoor
