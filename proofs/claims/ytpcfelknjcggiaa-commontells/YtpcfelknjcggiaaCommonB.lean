/-
  Contracts of package common's functions heads, of and later, for every two lists of words without 0s at their ends of which the second one isn't the greater: what they answer; memory that was there stays, and lists that are answered are the call's own.
-/
import Derived.Test.YtpcfelknjcggiaaCommonA
import Derived.Test.YtpcfelknjcggiaaWordsDrop
import Derived.Test.YtpcfelknjcggiaaNatSmall0
import Derived.Test.YtpcfelknjcggiaaSplitMore
import Derived.Test.YtpcfelknjcggiaaNatMore
import Derived.Deep.RegionWith
import Derived.Deep.DrawnRows
namespace Go.Proofs.Ytpcfelknjcggiaa
open Go.RowKit

/-- Two numbers' words above the lowest k are their heads. -/
theorem heads_drop (xs ys : List Int) (hx : Wd xs) (hy : Wd ys) (k : Nat) : Heads (val (xs.drop k)) (val (ys.drop k)) (val xs) (val ys) := by
  refine ⟨(4294967296 ^ k : Nat), val (xs.take k), val (ys.take k), by omega, ?_, by omega, ?_, ?_, ?_⟩
  · exact_mod_cast val_take_lt xs hx k
  · exact_mod_cast val_take_lt ys hy k
  · have := val_split xs k
    rw [Nat.mul_comm] at this
    exact_mod_cast (by omega : val xs = val (xs.drop k) * 4294967296 ^ k + val (xs.take k))
  · have := val_split ys k
    rw [Nat.mul_comm] at this
    exact_mod_cast (by omega : val ys = val (ys.drop k) * 4294967296 ^ k + val (ys.take k))

/-- The greater one has the greater head. -/
theorem drop_mono (xs ys : List Int) (hx : Wd xs) (k : Nat) (h : val ys ≤ val xs) : val (ys.drop k) ≤ val (xs.drop k) := by
  have h1 := val_split xs k
  have h2 := val_split ys k
  have h3 := val_take_lt xs hx k
  rcases Nat.lt_or_ge (val (xs.drop k)) (val (ys.drop k)) with h4 | h4
  · have h5 : 4294967296 ^ k * (val (xs.drop k) + 1) ≤ 4294967296 ^ k * val (ys.drop k) := Nat.mul_le_mul_left _ h4
    rw [Nat.mul_add] at h5
    omega
  · exact h4

theorem IsWords.no (w : World) (x : Addr) (c : Nat) (h : c ≤ 9223372036854775807) : IsWords w (.slice (some x) 0 c) [] :=
  .inr ⟨x, c, rfl, Nat.zero_le _, h, fun i hi => by simp at hi⟩
theorem IsWords.none {w : World} {n c : Nat} {zs : List Int} (h : IsWords w (.slice none n c) zs) : n = 0 ∧ c = 0 ∧ zs = [] := by
  rcases h with ⟨e, rfl⟩ | ⟨x, cap, e, -⟩
  · simp only [Value.slice.injEq] at e; exact ⟨e.2.1, e.2.2, rfl⟩
  · simp at e
theorem val_two {xs : List Int} (h : Wd xs) (hl : xs.length ≤ 2) : val xs < 18446744073709551616 := by
  have h1 := val_lt xs h
  have h2 : 4294967296 ^ xs.length ≤ 4294967296 ^ 2 := Nat.pow_le_pow_right (by omega) hl
  omega

set_option maxHeartbeats 2000000 in
theorem common_heads (g n c : Nat) (xs : List Int) (b : Option Addr) (m d : Nat) (ys : List Int) (w : World) (h : IsWords w (.slice (some ⟨g, 0, none⟩) n c) xs) (hx : Wd xs) (k : IsWords w (.slice b m d) ys) (hy : Wd ys)
    (hb : b = none ∨ ∃ gb, b = some ⟨gb, 0, none⟩) (hm : m ≤ n) (hle : val ys ≤ val xs) (hn : n ≤ 1000000000000) :
    Calls Try.prog 67 #[.slice (some ⟨g, 0, none⟩) n c, .slice b m d] w fun e w' => ∃ X Y : Nat, e = .returned (.tuple #[.int .u64 X, .int .u64 Y]) ∧ w = w' ∧ X < 18446744073709551616 ∧ Y ≤ X ∧ Heads X Y (val xs) (val ys) := by
  have hcap := h.cap
  have kcap := k.cap
  have hl := h.len
  have kl := k.len
  have HD : Hid (∀ j, Heads (val (xs.drop j)) (val (ys.drop j)) (val xs) (val ys)) := fun j => heads_drop xs ys hx hy j
  have HM : Hid (∀ j, val (ys.drop j) ≤ val (xs.drop j)) := fun j => drop_mono xs ys hx j hle
  rcases (by omega : n ≤ 2 ∨ 2 < n) with h2 | h2
  · have v1 := val_two hx (by omega)
    have C1 := nat_small _ _ _ _ w h hx v1
    have C2 := nat_small _ _ _ _ w k hy (by omega)
    have H0 : Hid (Heads (val xs) (val ys) (val xs) (val ys)) := HD.out 0
    have HL : Hid (val ys ≤ val xs) := hle
    generalize val xs = X at *
    generalize val ys = Y at *
    have HV : Hid (X < 18446744073709551616) := v1
    clear HD HM hl kl hle h hn v1
    rcases (by omega : n < 2 ∨ n = 2) with h2 | rfl
    all_goals
      rcases hb with rfl | ⟨gb, rfl⟩
      · obtain ⟨rfl, rfl, -⟩ := k.none
        clear k
        go_enter Try.func67, Try.ntmps67
        go_wp2_with (first
          | (go_at_call 72; with_reducible refine Calls.mono C1 ?_; rintro e w1 ⟨rfl, rfl⟩)
          | (go_at_call 72; with_reducible refine Calls.mono C2 ?_; rintro e w1 ⟨rfl, rfl⟩))
        go_ret2
        exact ⟨X, Y, rfl, rfl, HV.out, HL.out, H0.out⟩
      · clear k
        rcases (by omega : m = 0 ∧ d = 0 ∨ m = 0 ∧ 0 < d ∨ 0 < m ∧ 0 < d) with ⟨rfl, rfl⟩ | ⟨rfl, k1⟩ | ⟨k0, k1⟩
        all_goals
          go_enter Try.func67, Try.ntmps67
          go_wp2_with (first
            | (go_at_call 72; with_reducible refine Calls.mono C1 ?_; rintro e w1 ⟨rfl, rfl⟩)
            | (go_at_call 72; with_reducible refine Calls.mono C2 ?_; rintro e w1 ⟨rfl, rfl⟩))
          go_ret2
          exact ⟨X, Y, rfl, rfl, HV.out, HL.out, H0.out⟩
  · obtain ⟨low, rfl⟩ : ∃ low, n = low + 2 := ⟨n - 2, by omega⟩
    have D1 := h.drop low (by omega) rfl
    simp only [Nat.zero_add, Nat.add_sub_cancel_left] at D1
    have v1 := val_two (wd_drop hx low) (by rw [List.length_drop]; omega)
    have C1 := nat_small _ _ _ _ w D1 (wd_drop hx low) v1
    have H0 := HD.out low
    have HL := HM.out low
    clear HD HM D1 h
    rcases hb with rfl | ⟨gb, rfl⟩
    · obtain ⟨rfl, rfl, rfl⟩ := k.none
      have C2 := nat_small _ _ _ _ w k hy (by simp [val])
      have HV : Hid (val (xs.drop low) < 18446744073709551616 ∧ (val ([] : List Int)) ≤ val (xs.drop low) ∧ Heads (val (xs.drop low)) (val ([] : List Int)) (val xs) (val ([] : List Int))) := ⟨v1, Nat.zero_le _, by simpa using H0⟩
      clear k v1 HL H0 kl hle hl
      generalize val (xs.drop low) = X at C1 HV
      generalize val ([] : List Int) = Y at C2 HV
      go_enter Try.func67, Try.ntmps67
      go_wp2_with (first
        | (go_at_call 72; with_reducible refine Calls.mono C1 ?_; rintro e w1 ⟨rfl, rfl⟩)
        | (go_at_call 72; with_reducible refine Calls.mono C2 ?_; rintro e w1 ⟨rfl, rfl⟩))
      go_ret2
      exact ⟨X, Y, rfl, rfl, HV.out⟩
    · rcases (by omega : m < low ∨ m = low ∨ low < m) with h3 | rfl | h3
      · have C2 := fun x cc (hc : cc ≤ 9223372036854775807) => nat_small _ _ _ _ w (IsWords.no w x cc hc) wd_nil (by simp [val])
        have e0 : ys.drop low = [] := List.drop_eq_nil_of_le (by omega)
        rw [e0] at H0 HL
        have HV : Hid (val (xs.drop low) < 18446744073709551616 ∧ (val ([] : List Int)) ≤ val (xs.drop low) ∧ Heads (val (xs.drop low)) (val ([] : List Int)) (val xs) (val ys)) := ⟨v1, HL, H0⟩
        clear k v1 HL H0 kl hle hl e0
        generalize val (xs.drop low) = X at C1 HV
        generalize val ([] : List Int) = Y at C2 HV
        rcases (by omega : d - m = 0 ∨ d - m ≠ 0) with h4 | h4
        case' inl => have C2 := C2 ⟨gb, 0, none⟩ 0 (by omega)
        case' inr => have C2 := C2 ⟨gb, m, none⟩ (d - m) (by omega)
        all_goals
          go_enter Try.func67, Try.ntmps67
          go_wp2_with (first
            | (go_at_call 72; with_reducible refine Calls.mono C1 ?_; rintro e w1 ⟨rfl, rfl⟩)
            | (go_at_call 72; with_reducible refine Calls.mono C2 ?_; rintro e w1 ⟨rfl, rfl⟩))
          go_ret2
          exact ⟨X, Y, rfl, rfl, HV.out⟩
      · have C2 := fun x cc (hc : cc ≤ 9223372036854775807) => nat_small _ _ _ _ w (IsWords.no w x cc hc) wd_nil (by simp [val])
        have e0 : ys.drop m = [] := List.drop_eq_nil_of_le (by omega)
        rw [e0] at H0 HL
        have HV : Hid (val (xs.drop m) < 18446744073709551616 ∧ (val ([] : List Int)) ≤ val (xs.drop m) ∧ Heads (val (xs.drop m)) (val ([] : List Int)) (val xs) (val ys)) := ⟨v1, HL, H0⟩
        clear k v1 HL H0 kl hle hl e0
        generalize val (xs.drop m) = X at C1 HV
        generalize val ([] : List Int) = Y at C2 HV
        rcases (by omega : d - m = 0 ∨ d - m ≠ 0) with h4 | h4
        case' inl => have C2 := C2 ⟨gb, 0, none⟩ 0 (by omega)
        case' inr => have C2 := C2 ⟨gb, m, none⟩ (d - m) (by omega)
        all_goals
          go_enter Try.func67, Try.ntmps67
          go_wp2_with (first
            | (go_at_call 72; with_reducible refine Calls.mono C1 ?_; rintro e w1 ⟨rfl, rfl⟩)
            | (go_at_call 72; with_reducible refine Calls.mono C2 ?_; rintro e w1 ⟨rfl, rfl⟩))
          go_ret2
          exact ⟨X, Y, rfl, rfl, HV.out⟩
      · have D2 := k.drop low (by omega) rfl
        simp only [Nat.zero_add] at D2
        have C2 := nat_small _ _ _ _ w D2 (wd_drop hy low) (by omega)
        have HV : Hid (val (xs.drop low) < 18446744073709551616 ∧ val (ys.drop low) ≤ val (xs.drop low) ∧ Heads (val (xs.drop low)) (val (ys.drop low)) (val xs) (val ys)) := ⟨v1, HL, H0⟩
        have h4 : d - low ≠ 0 := by omega
        clear k v1 HL H0 kl hle hl D2
        generalize val (xs.drop low) = X at C1 HV
        generalize val (ys.drop low) = Y at C2 HV
        go_enter Try.func67, Try.ntmps67
        go_wp2_with (first
          | (go_at_call 72; with_reducible refine Calls.mono C1 ?_; rintro e w1 ⟨rfl, rfl⟩)
          | (go_at_call 72; with_reducible refine Calls.mono C2 ?_; rintro e w1 ⟨rfl, rfl⟩))
        go_ret2
        exact ⟨X, Y, rfl, rfl, HV.out⟩

/-- A number times a word has one word more at most. -/
theorem one_words {xs : List Int} {n : Nat} {p : Int} (hx : Wd xs) (hl : xs.length = n) (p0 : 0 ≤ p) (p1 : p < 4294967296) : nl (val xs * p.toNat + (0 : Int).toNat) ≤ n + 1 := by
  refine nl_le _ _ ?_
  have h1 := val_lt xs hx
  rw [hl] at h1
  rw [Nat.pow_succ]
  exact Nat.mul_lt_mul_of_lt_of_le h1 (by omega) (by omega)
theorem wrap_u32 {z : Int} (h0 : 0 ≤ z) (h1 : z < 4294967296) : IntKind.u32.wrap z = z := by
  simp [IntKind.wrap, IntKind.bits, IntKind.signed]; omega

set_option maxHeartbeats 4000000 in
theorem common_of (p q : Int) (a : Option Addr) (n c : Nat) (xs : List Int) (b : Option Addr) (m d : Nat) (ys : List Int) (w : World) (h : IsWords w (.slice a n c) xs) (hx : Wd xs) (k : IsWords w (.slice b m d) ys) (hy : Wd ys)
    (hn : n ≤ 100000000000) (hm : m ≤ 100000000000) (p0 : 0 ≤ p) (p1 : p < 4294967296) (q0 : 0 ≤ q) (q1 : q < 4294967296) (N : Nat) (hN : (p * val xs - q * val ys).natAbs = N) :
    Calls Try.prog 68 #[.agg #[.int .u64 p, .int .u64 q], .slice a n c, .slice b m d] w (Ans w N) := by
  have T1 := fun v (hb : Below w.heap.size w v) => times_one' (h.below hb) hx (by omega) p0 p1 (show (0 : Int) ≤ 0 by omega) (by omega) _ rfl
  have T2 := fun v (hb : Below w.heap.size w v) => times_one' (k.below hb) hy (by omega) q0 q1 (show (0 : Int) ≤ 0 by omega) (by omega) _ rfl
  have hl := h.len
  have kl := k.len
  have l1 : nl (val xs * p.toNat + (0 : Int).toNat) ≤ n + 1 := one_words hx hl p0 p1
  have l2 : nl (val ys * q.toNat + (0 : Int).toNat) ≤ m + 1 := one_words hy kl q0 q1
  have e1 : p * val xs = ((val xs * p.toNat + (0 : Int).toNat : Nat) : Int) := by simp [Int.toNat_of_nonneg p0, Int.mul_comm]
  have e2 : q * val ys = ((val ys * q.toNat + (0 : Int).toNat : Nat) : Int) := by simp [Int.toNat_of_nonneg q0, Int.mul_comm]
  rw [e1, e2] at hN
  unfold Ans at T1 T2
  generalize val xs * p.toNat + (0 : Int).toNat = A at T1 l1 hN
  generalize val ys * q.toNat + (0 : Int).toNat = B at T2 l2 hN
  clear e1 e2 hl kl
  have wp := wrap_u32 p0 p1
  have wq := wrap_u32 q0 q1
  have bx := Box.new w p q
  have B0 : Below w.heap.size w (w.alloc (.cells #[.int .u64 p, .int .u64 q] 68)).drew := ((Below.refl _ _).alloc (Nat.le_refl _) _).drew
  clear h k
  go_enter Try.func68, Try.ntmps68
  go_wp2
  generalize w.alloc (.cells #[.int .u64 p, .int .u64 q] 68) = W0 at *
  obtain ⟨c1, c2, f1, f2⟩ := bx.drew.cells
  go_region_with (first
    | (go_at_call 73; (with_reducible refine Calls.mono (T1 W0.drew B0) ?_); rintro e w1 ⟨a1, k1, rfl, o1⟩; have B1 := below_more B0 o1.below; obtain ⟨d1, d2, g1, g2⟩ := (bx.drew.more o1.below).cells)
    | (go_at_call 73; (with_reducible refine Calls.mono (T2 W0.drew B0) ?_); rintro e w1 ⟨a2, k2, rfl, o2⟩; have B1 := below_more B0 o2.below; obtain ⟨d1, d2, g1, g2⟩ := (bx.drew.more o2.below).cells)
    | (go_at_call 73; (with_reducible refine Calls.mono (T2 w1 B1) ?_); rintro e w2 ⟨a2, k2, rfl, o2⟩; have o1 := o1.more o2.below; have B2 := below_more B1 o2.below)
    | (go_at_call 73; (with_reducible refine Calls.mono (T1 w1 B1) ?_); rintro e w2 ⟨a1, k1, rfl, o1⟩; have o2 := o2.more o1.below; have B2 := below_more B1 o1.below))
  all_goals
    clear T1 T2 c1 c2 f1 f2 d1 d2 g1 g2 wp wq bx
    have P1 := o1.words
    have P2 := o2.words
    have HB : Hid (Below w.heap.size w _) := B2
    clear B0 B1 B2 o1 o2
    rcases Nat.lt_or_ge A B with hlt | hge
    · have C := nat_cmp' P1 (wd_natOf A) P2 (wd_natOf B) (-1) (by rw [val_natOf, val_natOf]; exact sgn_lt (by omega))
      have S := fun v (z1 : IsWords v (.slice a1 (nl A) k1) (natOf A)) (z2 : IsWords v (.slice a2 (nl B) k2) (natOf B)) => nat_sub' z2 (wd_natOf B) z1 (wd_natOf A) (by omega) N (by rw [val_natOf, val_natOf]; omega)
      clear hN hlt l1 l2
      go_wp2_with (first
        | (go_at_call 32; (with_reducible refine Calls.mono C ?_); rintro e w3 ⟨rfl, b3⟩)
        | (go_at_call 21; (with_reducible refine Calls.mono (S _ (P1.below b3) (P2.below b3)) ?_); rintro e w4 ⟨a4, k4, rfl, o4⟩))
      go_ret
      exact ⟨_, _, rfl, o4.outer (below_more HB.out b3)⟩
    · obtain ⟨cs, C, hcs⟩ : ∃ cs : Int, Calls Try.prog 32 #[.slice a1 (nl A) k1, .slice a2 (nl B) k2] _ (fun e w' => e = .returned (.int .i64 cs) ∧ Below _ _ w') ∧ 0 ≤ cs := by
        refine ⟨_, nat_cmp' P1 (wd_natOf A) P2 (wd_natOf B) _ rfl, ?_⟩
        rw [val_natOf, val_natOf]
        rcases Nat.lt_or_ge B A with h | h
        · rw [sgn_gt (by omega)]; omega
        · rw [sgn_eq (by omega)]; omega
      have S := fun v (z1 : IsWords v (.slice a1 (nl A) k1) (natOf A)) (z2 : IsWords v (.slice a2 (nl B) k2) (natOf B)) => nat_sub' z1 (wd_natOf A) z2 (wd_natOf B) (by omega) N (by rw [val_natOf, val_natOf]; omega)
      clear hN hge l1 l2
      go_wp2_with (first
        | (go_at_call 32; (with_reducible refine Calls.mono C ?_); rintro e w3 ⟨rfl, b3⟩)
        | (go_at_call 21; (with_reducible refine Calls.mono (S _ (P1.below b3) (P2.below b3)) ?_); rintro e w4 ⟨a4, k4, rfl, o4⟩))
      go_ret
      exact ⟨_, _, rfl, o4.outer (below_more HB.out b3)⟩
end Go.Proofs.Ytpcfelknjcggiaa
