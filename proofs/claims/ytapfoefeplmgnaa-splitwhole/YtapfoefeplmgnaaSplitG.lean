/-
  Contracts of package split's functions aboveRoot and Root, for every list of words: the root rounded down. Memory that was there stays, and what is answered is the call's own.
-/
import Derived.Test.YtapfoefeplmgnaaSplitF
import Derived.Deep.LoopGhost
namespace Go.Proofs.Ytapfoefeplmgnaa
open Go.RowKit

theorem natOf_zeros (x : Nat) (hx : 0 < x) : ∀ k, natOf (x * 4294967296 ^ k) = List.replicate k 0 ++ natOf x
  | 0 => by simp
  | k + 1 => by
    have hp : 0 < x * 4294967296 ^ k := Nat.mul_pos hx (Nat.pow_pos (by omega))
    rw [Nat.pow_succ, ← Nat.mul_assoc, natOf_pos (by omega), Nat.mul_mod_left, Nat.mul_div_cancel _ (by omega), natOf_zeros x hx k, List.replicate_succ]
    rfl
theorem nl_zeros (x : Nat) (hx : 0 < x) (k : Nat) : nl (x * 4294967296 ^ k) = k + nl x := by
  unfold nl; rw [natOf_zeros x hx k]; simp
theorem nl_few {x A : Nat} (h : x ≤ 4 * A) : nl x ≤ nl A + 1 := by
  refine nl_le _ _ ?_
  have := lt_nl A
  rw [Nat.pow_succ]
  generalize 4294967296 ^ nl A = p at *
  omega

/-- Root keeps its word for numbers of fewer than k words. -/
def RootOk (k : Nat) : Prop := ∀ (a : Option Addr) (n c : Nat) (zs : List Int) (w : World), IsWords w (.slice a n c) zs → Wd zs → n ≤ 1000000000 → nl (val zs) < k → ∀ s, s * s ≤ val zs → val zs < (s + 1) * (s + 1) → Calls Try.prog 22 #[.slice a n c] w (Ans w s)

/-- What aboveRoot answers. -/
def AnsAbove (W : World) (A : Nat) (e : Ending) (w' : World) : Prop := ∃ X, Ans W X e w' ∧ A < X * X ∧ X ≤ 2 * A

set_option maxHeartbeats 2000000 in
theorem split_above (a : Option Addr) (L c : Nat) (A : Nat) (w : World) (h : IsWords w (.slice a L c) (natOf A)) (hL : nl A = L) (hpos : 0 < L) (hn : L ≤ 1000000000) (RT : RootOk L) :
    Calls Try.prog 46 #[.slice a L c] w (AnsAbove w A) := by
  have hA : 0 < A := by
    rcases Nat.eq_zero_or_pos A with rfl | h
    · rw [nl_zero] at hL; omega
    · exact h
  obtain ⟨k, hk⟩ : ∃ k, L / 4 = k := ⟨_, rfl⟩
  have eK : (L : Int).tdiv 4 = k := by rw [Int.tdiv_eq_ediv_of_nonneg (by omega)]; omega
  have eK2 : (L : Int) / 4 = k := by omega
  by_cases hk0 : k = 0
  · subst hk0
    have BT := nat_bits a L c _ w h (wd_natOf _) (by omega)
    rw [val_natOf] at BT
    obtain ⟨f1, f2⟩ := above_bits hA
    have hb : nbits A ≤ 96 := by
      refine nbits_le 96 _ ?_
      have h1 := lt_nl A
      rw [pow_word] at h1
      exact Nat.lt_of_lt_of_le h1 (Nat.pow_le_pow_right (by omega) (by omega))
    obtain ⟨v, hv⟩ : ∃ v, nbits A = v := ⟨_, rfl⟩
    rw [hv] at BT f1 f2 hb
    obtain ⟨u, hu⟩ : ∃ u, (v + 1) / 2 = u := ⟨_, rfl⟩
    rw [hu] at f1 f2
    have eU : ((v : Int) + 1).tdiv 2 = u := by rw [Int.tdiv_eq_ediv_of_nonneg (by omega)]; omega
    have eU2 : ((v : Int) + 1) / 2 = u := by omega
    have u1 : u ≤ 48 := by omega
    obtain ⟨P, hP⟩ : ∃ P : Nat, P = 2 ^ u := ⟨_, rfl⟩
    have hP1 : P < 18446744073709551616 := by
      rw [hP]; exact Nat.pow_lt_pow_right (n := 64) (a := 2) (by omega) (by omega)
    have XW : Hid (IntKind.u64.wrap ((2 : Int) ^ u) = (P : Int)) := by
      show _ = _
      have e : ((2 ^ u : Nat) : Int) = 2 ^ u := by simp
      rw [← e, ← hP, IntKind.wrap_u64]
      omega
    rw [← hP] at f1 f2
    have OF := fun w' (X : Int) (hX : X = (P : Int)) => nat_of X w' (by omega) (by omega)
    have HP : Hid (∀ X : Int, X = (P : Int) → X.toNat = P) := fun X hX => by rw [hX]; exact Int.toNat_natCast P
    have F1 : Hid (A < P * P ∧ P ≤ 2 * A) := ⟨f1, f2⟩
    clear h hL hA hk f1 f2 hv hu hP RT hP1
    go_enter Try.func46, Try.ntmps46
    go_wp2_with (first
      | (go_at_call 16; (with_reducible refine Calls.mono BT ?_); rintro e w1 ⟨rfl, rfl⟩)
      | (go_at_call 24; (with_reducible refine Calls.mono (OF _ _ XW.out) ?_); rintro e w2 ⟨a2, c2, rfl, o2⟩))
    go_ret
    have e8 := HP.out _ XW.out
    rw [e8] at o2 ⊢
    exact ⟨P, ⟨_, _, rfl, o2⟩, F1.out⟩
  · rcases h.reads.1.2 with h0 | ⟨b, off, rfl, hcz⟩
    · omega
    have D1 := h.drop (2 * k) (by omega) rfl
    have wD := wd_drop (wd_natOf A) (2 * k)
    obtain ⟨s, s1, s2⟩ := root_ex (val ((natOf A).drop (2 * k)))
    have hH : nl (val ((natOf A).drop (2 * k))) ≤ L - 2 * k := by
      have h1 := nl_val_le _ wD
      rw [List.length_drop, show (natOf A).length = nl A from rfl, hL] at h1
      exact h1
    have hsplit := val_split (natOf A) (2 * k)
    rw [val_natOf] at hsplit
    have htk := val_take_lt (natOf A) (wd_natOf A) (2 * k)
    have RC := RT _ _ _ _ w D1 wD (by omega) (by omega) s s1 s2
    have hpp : 4294967296 ^ (2 * k) = 4294967296 ^ k * 4294967296 ^ k := by rw [← Nat.pow_add]; congr 1; omega
    have hHpos : 0 < val ((natOf A).drop (2 * k)) := by
      rcases Nat.eq_zero_or_pos (val ((natOf A).drop (2 * k))) with h1 | h1
      · rw [h1, Nat.mul_zero, Nat.add_zero] at hsplit
        rw [← hsplit] at htk
        have := nl_le _ _ htk
        omega
      · exact h1
    obtain ⟨f1, f2⟩ := above_high (A := A) (H := val ((natOf A).drop (2 * k))) (s := s) hpp (by rw [Nat.add_mul, Nat.one_mul, Nat.mul_comm (val ((natOf A).drop (2 * k)))]; omega) (by rw [Nat.mul_comm (val ((natOf A).drop (2 * k)))]; omega) hHpos (Nat.pow_pos (by omega)) s1 s2
    have hs : s ≤ val ((natOf A).drop (2 * k)) := by
      rcases Nat.eq_zero_or_pos s with h | h
      · omega
      · exact Nat.le_trans (Nat.le_mul_of_pos_left s h) s1
    have hnls : nl s ≤ L - 2 * k := Nat.le_trans (nl_mono hs) hH
    have hnls1 : nl (s + 1) ≤ L := by
      have := nl_few (x := s + 1) (A := val ((natOf A).drop (2 * k))) (by omega)
      omega
    have O1 := fun w' => nat_of 1 w' (by omega) (by omega)
    rw [show (1 : Int).toNat = 1 from rfl] at O1
    have AD := fun w' a1 c1 a2 c2 (q1 : IsWords w' (.slice a1 (nl s) c1) (natOf s)) (q2 : IsWords w' (.slice a2 (nl 1) c2) (natOf 1)) => nat_add' q1 (wd_natOf _) q2 (wd_natOf _) (by omega) (by have := nl_le 1 1 (by omega); omega) (s + 1) (by rw [val_natOf, val_natOf])
    have F1 : Hid (A < (s + 1) * 4294967296 ^ k * ((s + 1) * 4294967296 ^ k) ∧ (s + 1) * 4294967296 ^ k ≤ 2 * A) := ⟨f1, f2⟩
    have HZ : Hid (natOf ((s + 1) * 4294967296 ^ k) = List.replicate k 0 ++ natOf (s + 1)) := natOf_zeros (s + 1) (by omega) k
    have HLZ : Hid (nl ((s + 1) * 4294967296 ^ k) = k + nl (s + 1)) := nl_zeros (s + 1) (by omega) k
    have k4 : 4 * k ≤ L := by omega
    have k5 : 1 ≤ k := by omega
    have hcap := h.cap
    have k6 : 2 * k < c := by omega
    have k7 : c - 2 * k ≠ 0 := by omega
    clear hcap
    clear h hA hk f1 f2 RT hcz D1 wD s1 s2 hH hsplit htk hpp hHpos hs hL
    go_enter Try.func46, Try.ntmps46
    go_wp2_with (first
      | (go_at_call 22; (with_reducible refine Calls.mono RC ?_); rintro e w1 ⟨a1, c1, rfl, o1⟩)
      | (go_at_call 24; (with_reducible refine Calls.mono (O1 _) ?_); rintro e w2 ⟨a2, c2, rfl, o2⟩; have p2 := o1.more o2.below)
      | (go_at_call 18; (with_reducible refine Calls.mono (AD _ _ _ _ _ p2.words o2.words) ?_); rintro e w3 ⟨a3, c3, rfl, o3⟩; have p3 := o3.outer p2.below)
      | (at_make; refine wpl_make_words (.tmp 23) rfl rfl w3 w3 k _ rfl (by omega) (by omega) (Below.refl _ _) ?_; intro g4 w4 hg4 o4; have p4 := o4.outer p3.below; have q4 := p3.more o4.below)
      | (at_builtin; refine wpl_append_words (.tmp 24) (.tmp 25) rfl rfl w _ _ _ k (nl (s + 1)) (List.replicate k 0) (natOf (s + 1)) rfl rfl p4 q4.words rfl (k + nl (s + 1)) rfl (by omega) ?_; intro a5 c5 w5 o5 g5))
    go_ret
    refine ⟨(s + 1) * 4294967296 ^ k, ⟨a5, c5, ?_, ?_⟩, F1.out⟩
    · rw [HLZ.out]; rfl
    · rw [HLZ.out, HZ.out]; exact o5

set_option maxHeartbeats 2000000 in
theorem split_root_step (k : Nat) (RT : RootOk k) : RootOk (k + 1) := by
  intro a n c zs w h hz hn hk s s1 s2
  have R1 := split_right a n c zs w h hz
  have S1 := h.right hz
  have b1 := (h.low hz).2.2
  clear h hz
  generalize val zs = A at *
  rcases Nat.eq_zero_or_pos (nl A) with h0 | h0
  · have hs : s = 0 := by
      have := nl_eq_zero h0
      subst this
      rcases Nat.eq_zero_or_pos s with h | h
      · exact h
      · have := Nat.mul_pos h h; omega
    rw [h0] at R1
    subst hs
    clear s1 s2 S1 b1 hk h0
    go_enter Try.func22, Try.ntmps22
    go_wp2_with (first
      | (go_at_call 27; with_reducible refine Calls.mono R1 ?_; rintro e w1 ⟨rfl, rfl⟩))
    go_ret
    refine ⟨none, 0, by rw [nl_zero]; rfl, ?_⟩
    rw [nl_zero, natOf_zero]
    exact Own.nil (Below.refl _ _)
  · have RT' : RootOk (nl A) := fun a n c zs w h hz hn hk' => RT a n c zs w h hz hn (by omega)
    have AB := split_above a (nl A) c A w S1 rfl h0 (by omega) RT'
    clear RT' RT
    obtain ⟨L, hL⟩ : ∃ L, nl A = L := ⟨_, rfl⟩
    rw [hL] at R1 S1 b1 h0 AB
    have hA : 0 < A := by
      rcases Nat.eq_zero_or_pos A with rfl | h
      · rw [nl_zero] at hL; omega
      · exact h
    have hf : ∀ x, x ≤ 4 * A → nl x ≤ L + 1 := fun x hx => by have := nl_few hx; omega
    have HF : Hid (∀ x, x ≤ 4 * A → nl x ≤ L + 1) := hf
    have HS1 : Hid (s * s ≤ A) := s1
    have HS2 : Hid (A < (s + 1) * (s + 1)) := s2
    have HA : Hid (0 < A) := hA
    clear s1 s2 hL hk hf hA
    go_enter Try.func22, Try.ntmps22
    go_wp2_with (first
      | (go_at_call 27; with_reducible refine Calls.mono R1 ?_; rintro e w1 ⟨rfl, rfl⟩)
      | (go_at_call 46; (with_reducible refine Calls.mono AB ?_); rintro e w1 ⟨X0, ⟨a1, c1, rfl, o1⟩, hX0, hX1⟩))
    clear AB R1
    go_loopg [3] X0 (fun X s3 v => ∃ (ra : Option Addr) (rn rc : Nat), s3 = .slice ra rn rc ∧ rn = nl X ∧ Own w v (.slice ra rn rc) rn (natOf X) ∧ s ≤ X ∧ 0 < X ∧ X ≤ 2 * A)
    case atStart =>
      refine ⟨a1, _, c1, rfl, rfl, o1, ?_, ?_, hX1⟩
      · have := sq_lt (Nat.lt_of_le_of_lt HS1.out hX0); omega
      · rcases Nat.eq_zero_or_pos X0 with h | h
        · subst h; omega
        · exact h
    case round =>
      obtain ⟨ra, rn, rc, rfl, hrn, o, hge, hXp, hX2⟩ := hrel
      have HRN : Hid (rn = nl gk) := hrn
      have hq : gk + A / gk ≤ 4 * A := by
        have : A / gk ≤ A := Nat.div_le_self _ _
        omega
      have l1 : nl gk ≤ L + 1 := HF.out _ (by omega)
      have l2 : nl (A / gk) ≤ L + 1 := HF.out _ (Nat.le_trans (Nat.div_le_self A gk) (by omega))
      have l3 : nl (gk + A / gk) ≤ L + 1 := HF.out _ hq
      have S2 := S1.below o.below
      have DV := split_div S2 (wd_natOf _) o.words (wd_natOf _) (by omega) A gk (val_natOf _) (val_natOf _) hXp
      have AD := fun w' a2 c2 (q1 : IsWords w' (.slice ra rn rc) (natOf gk)) (q2 : IsWords w' (.slice a2 (nl (A / gk)) c2) (natOf (A / gk))) => nat_add' q1 (wd_natOf _) q2 (wd_natOf _) (by omega) (by omega) (gk + A / gk) (by rw [val_natOf, val_natOf])
      have HH := fun w' a3 c3 (q : IsWords w' (.slice a3 (nl (gk + A / gk)) c3) (natOf (gk + A / gk))) => split_half a3 _ c3 _ w' q (wd_natOf _) (by omega) (gk + A / gk) (val_natOf _)
      have NG : Hid (s ≤ (gk + A / gk) / 2) := newton_ge HS1.out hXp
      have NE : Hid (gk ≤ (gk + A / gk) / 2 → gk = s) := fun h => newton_end HS2.out hXp hge h
      have l4 : (gk + A / gk) / 2 ≤ gk + A / gk := Nat.div_le_self _ _
      generalize gk + A / gk = T at *
      have CM := fun w' a4 c4 (q1 : IsWords w' (.slice a4 (nl (T / 2)) c4) (natOf (T / 2))) (q2 : IsWords w' (.slice ra rn rc) (natOf gk)) => nat_cmp' q1 (wd_natOf _) q2 (wd_natOf _) _ rfl
      simp only [val_natOf] at CM
      clear S2 hrn
      rcases Nat.lt_or_ge (T / 2) gk with hlt | hge2
      · rw [sgn_lt (by omega)] at CM
        have HLT : Hid (T / 2 < gk) := hlt
        have HPOS : Hid (0 < T / 2) := by
          show 0 < _
          rcases Nat.eq_zero_or_pos (T / 2) with h | h
          · have h1 := NG.out
            rw [h] at h1
            have h2 : s = 0 := by omega
            have h3 := HS2.out
            have h4 := HA.out
            rw [h2] at h3
            omega
          · exact h
        have HX4 : Hid (T / 2 ≤ 2 * A) := by show _ ≤ _; omega
        clear hlt NE l4 hq
        go_wp2_with (first
          | (go_at_call 11; (with_reducible refine Calls.mono DV ?_); rintro e w2 ⟨a2, c2, a3, c3, rfl, o2, -⟩; have p2 := o.more o2.below)
          | (go_at_call 18; (with_reducible refine Calls.mono (AD _ _ _ p2.words o2.words) ?_); rintro e w3 ⟨a4, c4, rfl, o4⟩; have p3 := p2.more o4.below)
          | (go_at_call 23; (with_reducible refine Calls.mono (HH _ _ _ o4.words) ?_); rintro e w4 ⟨a5, c5, rfl, o5⟩; have p4 := p3.more o5.below)
          | (go_at_call 17; (with_reducible refine Calls.mono (CM _ _ _ o5.words p4.words) ?_); rintro e w5 ⟨rfl, b5⟩))
        go_roundg (T / 2)
        case measure => exact HLT.out
        case rel => exact ⟨a5, _, c5, rfl, rfl, (o5.more b5).outer p3.below, NG.out, HPOS.out, HX4.out⟩
      · have HE : gk = s := NE.out hge2
        subst HE
        obtain ⟨cs, CM', hcs⟩ : ∃ cs : Int, (∀ w' a4 c4, IsWords w' (.slice a4 (nl (T / 2)) c4) (natOf (T / 2)) → IsWords w' (.slice ra rn rc) (natOf gk) → Calls Try.prog 17 #[.slice a4 (nl (T / 2)) c4, .slice ra rn rc] w' (fun e w'' => e = .returned (.int .i64 cs) ∧ Below w'.heap.size w' w'')) ∧ 0 ≤ cs := by
          refine ⟨_, CM, ?_⟩
          rcases Nat.lt_or_ge gk (T / 2) with h | h
          · rw [sgn_gt (by omega)]; omega
          · rw [sgn_eq (by omega)]; omega
        clear CM hge2 NE NG l4 hq hge
        go_wp2_with (first
          | (go_at_call 11; (with_reducible refine Calls.mono DV ?_); rintro e w2 ⟨a2, c2, a3, c3, rfl, o2, -⟩; have p2 := o.more o2.below)
          | (go_at_call 18; (with_reducible refine Calls.mono (AD _ _ _ p2.words o2.words) ?_); rintro e w3 ⟨a4, c4, rfl, o4⟩; have p3 := p2.more o4.below)
          | (go_at_call 23; (with_reducible refine Calls.mono (HH _ _ _ o4.words) ?_); rintro e w4 ⟨a5, c5, rfl, o5⟩; have p4 := p3.more o5.below)
          | (go_at_call 17; (with_reducible refine Calls.mono (CM' _ _ _ o5.words p4.words) ?_); rintro e w5 ⟨rfl, b5⟩))
        go_ret
        have p5 := p4.more b5
        rw [HRN.out] at p5 ⊢
        exact ⟨_, _, rfl, p5⟩

theorem root_ok : ∀ k, RootOk k
  | 0 => fun _ _ _ _ _ _ _ _ h => by omega
  | k + 1 => split_root_step k (root_ok k)

/-- Root, with the numbers named. -/
theorem split_root {a : Option Addr} {n c : Nat} {zs : List Int} {w : World} (h : IsWords w (.slice a n c) zs) (hz : Wd zs) (hn : n ≤ 1000000000) (A s : Nat) (hA : val zs = A) (s1 : s * s ≤ A) (s2 : A < (s + 1) * (s + 1)) :
    Calls Try.prog 22 #[.slice a n c] w (Ans w s) := by
  subst hA
  exact root_ok (nl (val zs) + 1) a n c zs w h hz hn (by omega) s s1 s2
end Go.Proofs.Ytapfoefeplmgnaa
