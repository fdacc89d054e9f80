/-
  Contracts of the document's own answers for numbers (package talwegref02: Cmp, Add, Sub), for all two lists of words: as numbers; memory that was there stays, and what is answered is the call's own.
-/
import Derived.Test.YtlokidddbkdclaaDoorNatRefB
import Derived.Test.YtlokidddbkdclaaDoorNatCmp
import Derived.Test.YtlokidddbkdclaaDoorNatSub
namespace Go.Proofs.YtlokidddbkdclaaDoor
open Go.RowKit

set_option maxHeartbeats 2000000 in
theorem ref_cmp (a : Option Addr) (n c : Nat) (zs : List Int) (b : Option Addr) (m d : Nat) (ys : List Int) (w : World) (h : IsWords w (.slice a n c) zs) (hz : Wd zs) (g : IsWords w (.slice b m d) ys) (gz : Wd ys)
    (hn : n ≤ 1000000000000) (hm : m ≤ 1000000000000) :
    Calls Tryd.prog 62 #[.slice a n c, .slice b m d] w fun e w' => e = .returned (.int .i64 (sgn (val zs) (val ys))) ∧ w = w' := by
  have l1 : Hid (zs.length = n) := h.len
  have l2 : Hid (ys.length = m) := g.len
  have A1 := fun k hk => ref_at a n c zs w h k hk _ rfl (wd_getD hz k).1 (wd_getD hz k).2
  have A2 := fun k hk => ref_at b m d ys w g k hk _ rfl (wd_getD gz k).1 (wd_getD gz k).2
  have HZ : Hid (Wd zs) := hz
  have GZ : Hid (Wd ys) := gz
  clear h g hz gz
  rcases Nat.lt_or_ge n m with hnm | hnm
  all_goals
    go_enter Tryd.func62, Tryd.ntmps62
    go_wp2
    go_loop [6] (fun i => ∃ k : Nat, k ≤ 1000000000000 ∧ i = .int .i64 ((k : Int) - 1) ∧ val (zs.drop k) = val (ys.drop k)) (fun i => (intOf i + 1).toNat)
    case atStart =>
      have e1 := l1.out
      have e2 := l2.out
      first
        | exact ⟨m, hm, rfl, by rw [List.drop_of_length_le (by omega), List.drop_of_length_le (by omega)]⟩
        | exact ⟨n, hn, rfl, by rw [List.drop_of_length_le (by omega), List.drop_of_length_le (by omega)]⟩
    case round =>
      obtain ⟨k, hk, rfl, hd⟩ := hrel
      have HD : Hid (val (zs.drop k) = val (ys.drop k)) := hd
      clear hd
      rcases Nat.eq_zero_or_pos k with hk0 | hk0
      · subst hk0
        have HE : Hid (sgn (val zs) (val ys) = 0) := sgn_eq (by have := HD.out; rw [List.drop_zero, List.drop_zero] at this; omega)
        clear HD A1 A2
        rw [show ((0 : Nat) : Int) - 1 = -1 from rfl]
        go_wp2
        go_ret
        exact ⟨ret_int HE.out.symm, rfl⟩
      · obtain ⟨t, rfl⟩ : ∃ t, k = t + 1 := ⟨k - 1, by omega⟩
        rw [show ((t + 1 : Nat) : Int) - 1 = t by omega]
        have B1 := A1 t (by omega)
        have B2 := A2 t (by omega)
        obtain ⟨x0, x1⟩ := wd_getD HZ.out t
        obtain ⟨y0, y1⟩ := wd_getD GZ.out t
        have D1 : Hid (val (zs.drop t) = (zs.getD t 0).toNat + 4294967296 * val (zs.drop (t + 1))) := val_drop zs t
        have D2 : Hid (val (ys.drop t) = (ys.getD t 0).toNat + 4294967296 * val (ys.drop (t + 1))) := val_drop ys t
        have HS : zs.getD t 0 ≠ ys.getD t 0 → Hid (sgn (zs.getD t 0) (ys.getD t 0) = sgn (val zs) (val ys)) := fun hne => sgn_val HZ.out GZ.out t HD.out hne
        clear A1 A2
        generalize zs.getD t 0 = x at B1 D1 HS x0 x1
        generalize ys.getD t 0 = y at B2 D2 HS y0 y1
        rcases Int.lt_trichotomy x y with hxy | hxy | hxy
        · have H := HS (by omega)
          rw [sgn_lt hxy] at H
          clear HS
          go_wp2_with (first
            | (go_at_call 45; with_reducible refine Calls.mono B1 ?_; rintro e w1 ⟨rfl, rfl⟩)
            | (go_at_call 45; with_reducible refine Calls.mono B2 ?_; rintro e w1 ⟨rfl, rfl⟩))
          go_ret
          exact ⟨ret_int H.out, rfl⟩
        · subst hxy
          clear HS
          go_wp2_with (first
            | (go_at_call 45; with_reducible refine Calls.mono B1 ?_; rintro e w1 ⟨rfl, rfl⟩)
            | (go_at_call 45; with_reducible refine Calls.mono B2 ?_; rintro e w1 ⟨rfl, rfl⟩))
          go_round
          case rel => exact ⟨t, by omega, rfl, by rw [D1.out, D2.out, HD.out]⟩
          case measure => simp [intOf]
        · have H := HS (by omega)
          rw [sgn_gt hxy] at H
          have hxy' : ¬ x < y := by omega
          clear HS
          go_wp2_with (first
            | (go_at_call 45; with_reducible refine Calls.mono B1 ?_; rintro e w1 ⟨rfl, rfl⟩)
            | (go_at_call 45; with_reducible refine Calls.mono B2 ?_; rintro e w1 ⟨rfl, rfl⟩))
          go_ret
          exact ⟨ret_int H.out, rfl⟩

/-- The document's sum: its last carry is 0. -/
theorem ref_add_last {ps qs ss : List Int} {M cy : Nat} (hp : Wd ps) (hq : Wd qs) (h1 : ps.length ≤ M) (h2 : qs.length ≤ M) (hi : val ss + cy * 4294967296 ^ (M + 1) = val (ps.take (M + 1)) + val (qs.take (M + 1))) : val ss = val ps + val qs := by
  rw [List.take_of_length_le (by omega), List.take_of_length_le (by omega)] at hi
  have g1 : val ps < 4294967296 ^ M := Nat.lt_of_lt_of_le (val_lt ps hp) (Nat.pow_le_pow_right (by omega) h1)
  have g2 : val qs < 4294967296 ^ M := Nat.lt_of_lt_of_le (val_lt qs hq) (Nat.pow_le_pow_right (by omega) h2)
  rw [Nat.pow_succ, ← Nat.mul_assoc] at hi
  rcases Nat.eq_zero_or_pos cy with rfl | hc
  · omega
  · have h3 : 1 * 4294967296 ^ M ≤ cy * 4294967296 ^ M := Nat.mul_le_mul_right _ hc
    generalize cy * 4294967296 ^ M = r at hi h3
    generalize 4294967296 ^ M = p at g1 g2 h3
    omega

/-- One word's step of the document's sum. -/
theorem ref_add_step {p S A B x y b c c' : Nat} (hi : S + c * p = A + B) (hy : y + 4294967296 * c' = x + b + c) : (S + y * p) + c' * (p * 4294967296) = (A + x * p) + (B + b * p) := by
  have e : (y + 4294967296 * c') * p = (x + b + c) * p := by rw [hy]
  rw [Nat.add_mul, Nat.add_mul, Nat.add_mul] at e
  have e2 : c' * (p * 4294967296) = 4294967296 * c' * p := by rw [Nat.mul_comm p, ← Nat.mul_assoc, Nat.mul_comm c']
  rw [e2]; omega
/-- One word's step of the document's difference. -/
theorem ref_sub_step {p S A B x y b c c' : Nat} (hi : S + B = A + c * p) (hy : y + b + c = x + 4294967296 * c') : (S + y * p) + (B + b * p) = (A + x * p) + c' * (p * 4294967296) := by
  have e : (y + b + c) * p = (x + 4294967296 * c') * p := by rw [hy]
  rw [Nat.add_mul, Nat.add_mul, Nat.add_mul] at e
  have e2 : c' * (p * 4294967296) = 4294967296 * c' * p := by rw [Nat.mul_comm p, ← Nat.mul_assoc, Nat.mul_comm c']
  rw [e2]; omega

set_option maxHeartbeats 2000000 in
theorem ref_nadd (a : Option Addr) (n c : Nat) (zs : List Int) (b : Option Addr) (m d : Nat) (ys : List Int) (w : World) (h : IsWords w (.slice a n c) zs) (hz : Wd zs) (g : IsWords w (.slice b m d) ys) (gz : Wd ys)
    (hn : n ≤ 1000000000) (hm : m ≤ 1000000000) :
    Calls Tryd.prog 24 #[.slice a n c, .slice b m d] w (Ans w (val zs + val ys)) := by
  have l1 : Hid (zs.length = n) := h.len
  have l2 : Hid (ys.length = m) := g.len
  rcases Nat.lt_or_ge n m with hnm | hnm
  case' inl => obtain ⟨M, hM1, hM2⟩ : ∃ M : Nat, M ≤ m ∧ m ≤ M := ⟨m, by omega, by omega⟩
  case' inr => obtain ⟨M, hM1, hM2⟩ : ∃ M : Nat, M ≤ n ∧ n ≤ M := ⟨n, by omega, by omega⟩
  all_goals
    go_enter Tryd.func24, Tryd.ntmps24
    go_wp2
    go_loopw [5, 6, 7] (fun s cr i v => ∃ (k : Nat) (cy : Int) (oa : Option Addr) (oc : Nat) (ss : List Int), k ≤ M + 1 ∧ i = .int .i64 k ∧ cr = .int .u64 cy ∧ 0 ≤ cy ∧ cy ≤ 1 ∧ s = .slice oa k oc ∧ Own w v (.slice oa k oc) k ss ∧ Wd ss ∧ val ss + cy.toNat * 4294967296 ^ k = val (zs.take k) + val (ys.take k)) (fun _ _ i _ => M + 1 - (intOf i).toNat)
    case atStart => exact ⟨0, 0, none, 0, [], by omega, rfl, rfl, by omega, by omega, rfl, Own.nil (Below.refl _ _), wd_nil, by simp [val]⟩
    case round =>
      obtain ⟨k, cy, oa, oc, ss, hk, rfl, rfl, hc0, hc1, rfl, o, wS, hI⟩ := hrel
      have HI : Hid (val ss + cy.toNat * 4294967296 ^ k = val (zs.take k) + val (ys.take k)) := hI
      clear hI
      by_cases hlt : k ≤ M
      · have B1 := ref_at a n c zs wr (h.below o.below) k (by omega) _ rfl (wd_getD hz k).1 (wd_getD hz k).2
        have B2 := ref_at b m d ys wr (g.below o.below) k (by omega) _ rfl (wd_getD gz k).1 (wd_getD gz k).2
        obtain ⟨x0, x1⟩ := wd_getD hz k
        obtain ⟨y0, y1⟩ := wd_getD gz k
        have T1 : Hid (val (zs.take (k + 1)) = val (zs.take k) + (zs.getD k 0).toNat * 4294967296 ^ k) := val_take_succ zs k
        have T2 : Hid (val (ys.take (k + 1)) = val (ys.take k) + (ys.getD k 0).toNat * 4294967296 ^ k) := val_take_succ ys k
        have HL : Hid (ss.length = k) := o.length
        generalize zs.getD k 0 = x at B1 T1 x0 x1
        generalize ys.getD k 0 = y at B2 T2 y0 y1
        have HN : Hid (val (ss ++ [(x + y + cy) % 4294967296]) + ((x + y + cy) / 4294967296).toNat * 4294967296 ^ (k + 1) = val (zs.take (k + 1)) + val (ys.take (k + 1))) := by
          show _ = _
          rw [T1.out, T2.out, val_snoc, HL.out, Nat.pow_succ]
          exact ref_add_step HI.out (by omega)
        have WN : Wd (ss ++ [(x + y + cy) % 4294967296]) := wd_append wS (wd_one (by omega) (by omega))
        clear T1 T2 HL HI h g hz gz l1 l2 wS
        go_wp2_with (first
          | (go_at_call 45; with_reducible refine Calls.mono B1 ?_; rintro e w1 ⟨rfl, rfl⟩)
          | (go_at_call 45; with_reducible refine Calls.mono B2 ?_; rintro e w1 ⟨rfl, rfl⟩)
          | (at_builtin; refine wpl_append_words (.tmp 27) (.tmp 31) rfl rfl w _ _ _ k 1 ss [(x + y + cy) % 4294967296] rfl rfl (o.alloc _) (lit_words _ [(x + y + cy) % 4294967296] 1 rfl (by decide)) rfl (k + 1) rfl (by omega) ?_; intro a1 c1 w1 o1 g1))
        go_roundw
        case rel => exact ⟨k + 1, (x + y + cy) / 4294967296, a1, c1, _, by omega, by go_num, rfl, by omega, by omega, rfl, o1, WN, HN.out⟩
        case measure => simp [intOf]; omega
      · obtain rfl : k = M + 1 := by omega
        have HS := ref_add_last hz gz (by rw [l1.out]; omega) (by rw [l2.out]; omega) HI.out
        have R := ref_trim oa (M + 1) oc ss wr o.words wS (by omega)
        rw [HS] at R
        have ob := o.below
        clear HS HI h g hz gz l1 l2 wS o
        have hgt : ¬ ((M : Int) + 1 ≤ M) := by omega
        go_wp2_with (first
          | (go_at_call 26; (with_reducible refine Calls.mono R ?_); rintro e w1 ⟨a1, c1, rfl, o1⟩))
        go_ret
        exact ⟨_, _, rfl, o1.outer ob⟩

-- <<IF F talweg/talwegref02.Sub>>
/-- The document's difference: its last borrow is 0. -/
theorem ref_sub_last {ps qs ss : List Int} {r : Nat} (hs : Wd ss) (hp : Wd ps) (hls : ss.length = ps.length) (hle : val qs ≤ val ps) (hi : val ss + val (qs.take ps.length) = val (ps.take ps.length) + r * 4294967296 ^ ps.length) : val ss = val ps - val qs := by
  have h0 := val_lt ps hp
  rw [val_take_all qs _ (by omega), List.take_of_length_le (Nat.le_refl _)] at hi
  have h1 := val_lt ss hs
  rw [hls] at h1
  rcases Nat.eq_zero_or_pos r with rfl | hc
  · omega
  · have h3 : 1 * 4294967296 ^ ps.length ≤ r * 4294967296 ^ ps.length := Nat.mul_le_mul_right _ hc
    omega

set_option maxHeartbeats 1000000 in
theorem ref_nsub_no (a : Option Addr) (n c : Nat) (zs : List Int) (b : Option Addr) (m d : Nat) (ys : List Int) (w : World) (h : IsWords w (.slice a n c) zs) (hz : Wd zs) (g : IsWords w (.slice b m d) ys) (gz : Wd ys)
    (hn : n ≤ 1000000000) (hm : m ≤ 1000000000) (hlt : val zs < val ys) :
    Calls Tryd.prog 63 #[.slice a n c, .slice b m d] w fun e w' => e = .returned (.tuple #[.slice none 0 0, .bool false]) ∧ w = w' := by
  have C := ref_cmp _ _ _ _ _ _ _ _ w h hz g gz (by omega) (by omega)
  rw [sgn_lt (by omega)] at C
  clear h g hz gz hlt
  go_enter Tryd.func63, Tryd.ntmps63
  go_wp2_with (first
    | (go_at_call 62; with_reducible refine Calls.mono C ?_; rintro e w1 ⟨rfl, rfl⟩))
  go_ret2
  exact ⟨rfl, rfl⟩

set_option maxHeartbeats 2000000 in
theorem ref_nsub (a : Option Addr) (n c : Nat) (zs : List Int) (b : Option Addr) (m d : Nat) (ys : List Int) (w : World) (h : IsWords w (.slice a n c) zs) (hz : Wd zs) (g : IsWords w (.slice b m d) ys) (gz : Wd ys)
    (hn : n ≤ 1000000000) (hm : m ≤ 1000000000) (hge : val ys ≤ val zs) :
    Calls Tryd.prog 63 #[.slice a n c, .slice b m d] w (AnsOk w (val zs - val ys)) := by
  have C := ref_cmp _ _ _ _ _ _ _ _ w h hz g gz (by omega) (by omega)
  have l1 : Hid (zs.length = n) := h.len
  have hs : 0 ≤ sgn (val zs) (val ys) := by
    rcases Nat.lt_or_ge (val ys) (val zs) with h | h
    · rw [sgn_gt (by omega)]; omega
    · rw [sgn_eq (by omega)]; omega
  generalize sgn (val zs) (val ys) = sg at C hs
  have HG : Hid (val ys ≤ val zs) := hge
  clear hge
  go_enter Tryd.func63, Tryd.ntmps63
  go_wp2_with (first
    | (go_at_call 62; with_reducible refine Calls.mono C ?_; rintro e w1 ⟨rfl, rfl⟩))
  clear C
  go_loopw [6, 7, 8] (fun s cr i v => ∃ (k : Nat) (cy : Int) (oa : Option Addr) (oc : Nat) (ss : List Int), k ≤ n ∧ i = .int .i64 k ∧ cr = .int .u64 cy ∧ 0 ≤ cy ∧ cy ≤ 1 ∧ s = .slice oa k oc ∧ Own w v (.slice oa k oc) k ss ∧ Wd ss ∧ val ss + val (ys.take k) = val (zs.take k) + cy.toNat * 4294967296 ^ k) (fun _ _ i _ => n - (intOf i).toNat)
  case atStart => exact ⟨0, 0, none, 0, [], by omega, rfl, rfl, by omega, by omega, rfl, Own.nil (Below.refl _ _), wd_nil, by simp [val]⟩
  case round =>
    obtain ⟨k, cy, oa, oc, ss, hk, rfl, rfl, hc0, hc1, rfl, o, wS, hI⟩ := hrel
    have HI : Hid (val ss + val (ys.take k) = val (zs.take k) + cy.toNat * 4294967296 ^ k) := hI
    clear hI
    by_cases hlt : k < n
    · have B1 := ref_at a n c zs wr (h.below o.below) k (by omega) _ rfl (wd_getD hz k).1 (wd_getD hz k).2
      have B2 := ref_at b m d ys wr (g.below o.below) k (by omega) _ rfl (wd_getD gz k).1 (wd_getD gz k).2
      obtain ⟨x0, x1⟩ := wd_getD hz k
      obtain ⟨y0, y1⟩ := wd_getD gz k
      have T1 : Hid (val (zs.take (k + 1)) = val (zs.take k) + (zs.getD k 0).toNat * 4294967296 ^ k) := val_take_succ zs k
      have T2 : Hid (val (ys.take (k + 1)) = val (ys.take k) + (ys.getD k 0).toNat * 4294967296 ^ k) := val_take_succ ys k
      have HL : Hid (ss.length = k) := o.length
      generalize zs.getD k 0 = x at B1 T1 x0 x1
      generalize ys.getD k 0 = y at B2 T2 y0 y1
      have HN : Hid (val (ss ++ [(4294967296 + x - y - cy) % 4294967296]) + val (ys.take (k + 1)) = val (zs.take (k + 1)) + (1 - (4294967296 + x - y - cy) / 4294967296).toNat * 4294967296 ^ (k + 1)) := by
        show _ = _
        rw [T1.out, T2.out, val_snoc, HL.out, Nat.pow_succ]
        exact ref_sub_step HI.out (by omega)
      have WN : Wd (ss ++ [(4294967296 + x - y - cy) % 4294967296]) := wd_append wS (wd_one (by omega) (by omega))
      clear T1 T2 HL HI h g hz gz l1 wS
      go_wp2_with (first
        | (go_at_call 45; with_reducible refine Calls.mono B1 ?_; rintro e w1 ⟨rfl, rfl⟩)
        | (go_at_call 45; with_reducible refine Calls.mono B2 ?_; rintro e w1 ⟨rfl, rfl⟩)
        | (at_builtin; refine wpl_append_words (.tmp 30) (.tmp 34) rfl rfl w _ _ _ k 1 ss [(4294967296 + x - y - cy) % 4294967296] rfl rfl (o.alloc _) (lit_words _ [(4294967296 + x - y - cy) % 4294967296] 1 rfl (by decide)) rfl (k + 1) rfl (by omega) ?_; intro a1 c1 w1 o1 g1))
      go_roundw
      case rel => exact ⟨k + 1, 1 - (4294967296 + x - y - cy) / 4294967296, a1, c1, _, by omega, by go_num, rfl, by omega, by omega, rfl, o1, WN, HN.out⟩
      case measure => simp [intOf]; omega
    · obtain rfl : k = n := by omega
      have e1 := l1.out
      have HI' := HI.out
      rw [← e1] at HI'
      have HS := ref_sub_last wS hz (by rw [o.length, e1]) HG.out HI'
      have R := ref_trim oa k oc ss wr o.words wS (by omega)
      rw [HS] at R
      have ob := o.below
      clear HS HI HI' e1 h g hz gz l1 wS o
      go_wp2_with (first
        | (go_at_call 26; (with_reducible refine Calls.mono R ?_); rintro e w1 ⟨a1, c1, rfl, o1⟩))
      go_ret2
      exact ⟨_, _, rfl, o1.outer ob⟩
-- <<END>>
end Go.Proofs.YtlokidddbkdclaaDoor
