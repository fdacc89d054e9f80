/-
  The walk of the statement NatSmall: for all two numbers of 64 bits it returns true; memory that was there stays.
-/
import Derived.Test.YtophlnaebmilmaaNatLawsB
namespace Go.Proofs.Ytophlnaebmilmaa
open Go.RowKit

theorem wf_u64' {a : Int} (h : (Lit.int .u64 a).wf = true) : 0 ≤ a ∧ a < 18446744073709551616 := by
  simp [Lit.wf, IntKind.min, IntKind.max, IntKind.signed, IntKind.bits] at h; omega

theorem nat_small' {a : Option Addr} {n c : Nat} {zs : List Int} {w : World} (h : IsWords w (.slice a n c) zs) (hz : Wd zs) (s : Int) (hs : (val zs : Int) = s) (h1 : s < 18446744073709551616) :
    Calls Try.prog 10 #[.slice a n c] w fun e w' => e = .returned (.tuple #[.int .u64 s, .bool true]) ∧ w = w' := by
  rw [← hs]; exact nat_small a n c zs w h hz (by omega)

set_option maxHeartbeats 4000000 in
theorem law_NatSmall (x y : Int) (h0 : (Lit.int .u64 x).wf = true) (h1 : (Lit.int .u64 y).wf = true) (w : World) :
    Calls Try.prog 7 #[.int .u64 x, .int .u64 y] w fun e w' => e = .returned (.bool true) ∧ Below w.heap.size w w' := by
  obtain ⟨x0, x1⟩ := wf_u64' h0
  obtain ⟨y0, y1⟩ := wf_u64' h1
  clear h0 h1
  by_cases hx : 9223372036854775808 ≤ x
  · go_enter Try.func7, Try.ntmps7
    go_wp2_with (go_at_call 9; refine (nat_awake _).mono ?_; rintro e u0 ⟨rfl, b0⟩)
    go_ret
    exact ⟨rfl, b0⟩
  by_cases hy : 9223372036854775808 ≤ y
  · go_enter Try.func7, Try.ntmps7
    go_wp2_with (go_at_call 9; refine (nat_awake _).mono ?_; rintro e u0 ⟨rfl, b0⟩)
    go_ret
    exact ⟨rfl, b0⟩
  have k1 : nl x.toNat ≤ 2 := nl_le 2 _ (by omega)
  have k2 : nl y.toNat ≤ 2 := nl_le 2 _ (by omega)
  have O1 := fun v => nat_of x v x0 x1
  have O2 := fun v => nat_of y v y0 y1
  have A := fun v a c (p : IsWords v (.slice a (nl x.toNat) c) (natOf x.toNat)) b d (q : IsWords v (.slice b (nl y.toNat) d) (natOf y.toNat)) => nat_add' p (wd_natOf _) q (wd_natOf _) (by omega) (by omega) (x.toNat + y.toNat) (by rw [val_natOf, val_natOf])
  have S := fun v a c (p : IsWords v (.slice a (nl (x.toNat + y.toNat)) c) (natOf (x.toNat + y.toNat))) => nat_small' p (wd_natOf _) (x + y) (by rw [val_natOf]; omega) (by omega)
  generalize x.toNat + y.toNat = N at A S
  rcases Int.lt_trichotomy x y with h | h | h
  · have D := fun v a c (p : IsWords v (.slice a (nl x.toNat) c) (natOf x.toNat)) b d (q : IsWords v (.slice b (nl y.toNat) d) (natOf y.toNat)) => nat_sub_no _ _ _ _ _ _ _ _ v p (wd_natOf _) q (wd_natOf _) (by rw [val_natOf, val_natOf]; omega)
    have S0 := fun v => nat_small' (w := v) (a := none) (n := 0) (c := 0) (zs := []) (.inl ⟨rfl, rfl⟩) wd_nil 0 rfl (by omega)
    have C := fun v a c (p : IsWords v (.slice a (nl x.toNat) c) (natOf x.toNat)) b d (q : IsWords v (.slice b (nl y.toNat) d) (natOf y.toNat)) => nat_cmp' p (wd_natOf _) q (wd_natOf _) (-1) (by rw [val_natOf, val_natOf]; exact sgn_lt (by omega))
    have h' : ¬ y < x := by omega
    have h2 : ¬ y ≤ x := by omega
    generalize x.toNat = X at *
    generalize y.toNat = Y at *
    go_enter Try.func7, Try.ntmps7
    go_wp2_with (first
      | (go_at_call 9; refine (nat_awake _).mono ?_; rintro e u0 ⟨rfl, b0⟩)
      | (go_at_call 17; (with_reducible refine Calls.mono (O1 _) ?_); rintro e w1 ⟨a1, c1, rfl, o1⟩)
      | (go_at_call 17; (with_reducible refine Calls.mono (O2 _) ?_); rintro e w2 ⟨a2, c2, rfl, o2⟩; have p2 := o1.more o2.below)
      | (go_at_call 26; (with_reducible refine Calls.mono (A _ _ _ p2.words _ _ o2.words) ?_); rintro e w3 ⟨a3, c3, rfl, o3⟩; have p3 := p2.more o3.below; have q3 := o2.more o3.below)
      | (go_at_call 10; (with_reducible refine Calls.mono (S _ _ _ o3.words) ?_); rintro e v1 ⟨rfl, rfl⟩)
      | (go_at_call 22; (with_reducible refine Calls.mono (D _ _ _ p3.words _ _ q3.words) ?_); rintro e w4 ⟨rfl, b4⟩; have p4 := p3.more b4; have q4 := q3.more b4)
      | (go_at_call 10; (with_reducible refine Calls.mono (S0 _) ?_); rintro e v1 ⟨rfl, rfl⟩)
      | (go_at_call 24; (with_reducible refine Calls.mono (C _ _ _ p4.words _ _ q4.words) ?_); rintro e w5 ⟨rfl, b5⟩))
    go_ret
    exact ⟨ret_bool (by simp; omega), below_more b0 (p4.more b5).below⟩
  · have D := fun v a c (p : IsWords v (.slice a (nl x.toNat) c) (natOf x.toNat)) b d (q : IsWords v (.slice b (nl y.toNat) d) (natOf y.toNat)) => nat_sub' p (wd_natOf _) q (wd_natOf _) (by omega) (x.toNat - y.toNat) (by rw [val_natOf, val_natOf]; omega)
    have S0 := fun v a c (p : IsWords v (.slice a (nl (x.toNat - y.toNat)) c) (natOf (x.toNat - y.toNat))) => nat_small' p (wd_natOf _) (x - y) (by rw [val_natOf]; omega) (by omega)
    have C := fun v a c (p : IsWords v (.slice a (nl x.toNat) c) (natOf x.toNat)) b d (q : IsWords v (.slice b (nl y.toNat) d) (natOf y.toNat)) => nat_cmp' p (wd_natOf _) q (wd_natOf _) 0 (by rw [val_natOf, val_natOf]; exact sgn_eq (by omega))
    generalize x.toNat - y.toNat = M at D S0
    have h1 : ¬ x < y := by omega
    have h2 : ¬ y < x := by omega
    have h3 : y ≤ x := by omega
    clear h
    generalize x.toNat = X at *
    generalize y.toNat = Y at *
    go_enter Try.func7, Try.ntmps7
    go_wp2_with (first
      | (go_at_call 9; refine (nat_awake _).mono ?_; rintro e u0 ⟨rfl, b0⟩)
      | (go_at_call 17; (with_reducible refine Calls.mono (O1 _) ?_); rintro e w1 ⟨a1, c1, rfl, o1⟩)
      | (go_at_call 17; (with_reducible refine Calls.mono (O2 _) ?_); rintro e w2 ⟨a2, c2, rfl, o2⟩; have p2 := o1.more o2.below)
      | (go_at_call 26; (with_reducible refine Calls.mono (A _ _ _ p2.words _ _ o2.words) ?_); rintro e w3 ⟨a3, c3, rfl, o3⟩; have p3 := p2.more o3.below; have q3 := o2.more o3.below)
      | (go_at_call 10; (with_reducible refine Calls.mono (S _ _ _ o3.words) ?_); rintro e v1 ⟨rfl, rfl⟩)
      | (go_at_call 22; (with_reducible refine Calls.mono (D _ _ _ p3.words _ _ q3.words) ?_); rintro e w4 ⟨a4, c4, rfl, o4⟩; have p4 := p3.more o4.below; have q4 := q3.more o4.below)
      | (go_at_call 10; (with_reducible refine Calls.mono (S0 _ _ _ o4.words) ?_); rintro e v1 ⟨rfl, rfl⟩)
      | (go_at_call 24; (with_reducible refine Calls.mono (C _ _ _ p4.words _ _ q4.words) ?_); rintro e w5 ⟨rfl, b5⟩))
    go_ret
    exact ⟨ret_bool (by simp), below_more b0 (p4.more b5).below⟩
  · have D := fun v a c (p : IsWords v (.slice a (nl x.toNat) c) (natOf x.toNat)) b d (q : IsWords v (.slice b (nl y.toNat) d) (natOf y.toNat)) => nat_sub' p (wd_natOf _) q (wd_natOf _) (by omega) (x.toNat - y.toNat) (by rw [val_natOf, val_natOf]; omega)
    have S0 := fun v a c (p : IsWords v (.slice a (nl (x.toNat - y.toNat)) c) (natOf (x.toNat - y.toNat))) => nat_small' p (wd_natOf _) (x - y) (by rw [val_natOf]; omega) (by omega)
    have C := fun v a c (p : IsWords v (.slice a (nl x.toNat) c) (natOf x.toNat)) b d (q : IsWords v (.slice b (nl y.toNat) d) (natOf y.toNat)) => nat_cmp' p (wd_natOf _) q (wd_natOf _) 1 (by rw [val_natOf, val_natOf]; exact sgn_gt (by omega))
    generalize x.toNat - y.toNat = M at D S0
    have h1 : ¬ x < y := by omega
    have h3 : y ≤ x := by omega
    generalize x.toNat = X at *
    generalize y.toNat = Y at *
    go_enter Try.func7, Try.ntmps7
    go_wp2_with (first
      | (go_at_call 9; refine (nat_awake _).mono ?_; rintro e u0 ⟨rfl, b0⟩)
      | (go_at_call 17; (with_reducible refine Calls.mono (O1 _) ?_); rintro e w1 ⟨a1, c1, rfl, o1⟩)
      | (go_at_call 17; (with_reducible refine Calls.mono (O2 _) ?_); rintro e w2 ⟨a2, c2, rfl, o2⟩; have p2 := o1.more o2.below)
      | (go_at_call 26; (with_reducible refine Calls.mono (A _ _ _ p2.words _ _ o2.words) ?_); rintro e w3 ⟨a3, c3, rfl, o3⟩; have p3 := p2.more o3.below; have q3 := o2.more o3.below)
      | (go_at_call 10; (with_reducible refine Calls.mono (S _ _ _ o3.words) ?_); rintro e v1 ⟨rfl, rfl⟩)
      | (go_at_call 22; (with_reducible refine Calls.mono (D _ _ _ p3.words _ _ q3.words) ?_); rintro e w4 ⟨a4, c4, rfl, o4⟩; have p4 := p3.more o4.below; have q4 := q3.more o4.below)
      | (go_at_call 10; (with_reducible refine Calls.mono (S0 _ _ _ o4.words) ?_); rintro e v1 ⟨rfl, rfl⟩)
      | (go_at_call 24; (with_reducible refine Calls.mono (C _ _ _ p4.words _ _ q4.words) ?_); rintro e w5 ⟨rfl, b5⟩))
    go_ret
    exact ⟨ret_bool (by simp), below_more b0 (p4.more b5).below⟩
end Go.Proofs.Ytophlnaebmilmaa
