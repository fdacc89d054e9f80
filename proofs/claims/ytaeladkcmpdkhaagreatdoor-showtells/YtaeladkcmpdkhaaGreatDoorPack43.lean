/-
  Texts of mine in build order. No conditions of their own.
-/
import Derived.Test.YtaeladkcmpdkhaaGreatDoorPack8
import Derived.Test.YtaeladkcmpdkhaaGreatDoorPack42
set_option maxHeartbeats 4000000
namespace Go.Proofs.YtaeladkcmpdkhaaGreatDoor
section
open Go.RowKit
theorem ref_cmp (a : Option Addr) (n c : Nat) (zs : List Int) (b : Option Addr) (m d : Nat) (ys : List Int) (w : World) (h : IsWords w (.slice a n c) zs) (hz : Wd zs) (g : IsWords w (.slice b m d) ys) (gz : Wd ys)
  (hn : n ≤ 1000000000000) (hm : m ≤ 1000000000000) :
  Calls Tryz.prog 134 #[.slice a n c, .slice b m d] w fun e w' => e = .returned (.int .i64 (sgn (val zs) (val ys))) ∧ w = w' := by
 have l1 : Hid (zs.length = n) := h.len
 have l2 : Hid (ys.length = m) := g.len
 have A1 := fun k hk => ref_at a n c zs w h k hk _ rfl (wd_getD hz k).1 (wd_getD hz k).2
 have A2 := fun k hk => ref_at b m d ys w g k hk _ rfl (wd_getD gz k).1 (wd_getD gz k).2
 have HZ : Hid (Wd zs) := hz
 have GZ : Hid (Wd ys) := gz
 clear h g hz gz
 rcases Nat.lt_or_ge n m with hnm | hnm
 all_goals
  go_enter Tryz.func134, Tryz.ntmps134
  go_wp2
  go_loop [6] (fun i => ∃ k : Nat, k ≤ 1000000000000 ∧ i = .int .i64 ((k : Int) - 1) ∧ val (zs.drop k) = val (ys.drop k)) (fun i => (intOf i + 1).toNat)
  case atStart =>
   have e1 := l1.out
   have e2 := l2.out
   first
    | exact ⟨m, hm, rfl, by rw [List.drop_of_length_le (by omega), List.drop_of_length_le (by omega)]⟩
    | exact ⟨n, hn, rfl, by rw [List.drop_of_length_le (by omega), List.drop_of_length_le (by omega)]⟩
  case round =>
   obtain ⟨k, hk, rfl, hd⟩ := hrel
   have HD : Hid (val (zs.drop k) = val (ys.drop k)) := hd
   clear hd
   rcases Nat.eq_zero_or_pos k with hk0 | hk0
   ·subst hk0
    have HE : Hid (sgn (val zs) (val ys) = 0) := sgn_eq (by have := HD.out; rw [List.drop_zero, List.drop_zero] at this; omega)
    clear HD A1 A2
    rw [show ((0 : Nat) : Int) - 1 = -1 from rfl]
    go_wp2
    go_ret
    exact ⟨ret_int HE.out.symm, rfl⟩
   ·obtain ⟨t, rfl⟩ : ∃ t, k = t + 1 := ⟨k - 1, by omega⟩
    rw [show ((t + 1 : Nat) : Int) - 1 = t by omega]
    have B1 := A1 t (by omega)
    have B2 := A2 t (by omega)
    obtain ⟨x0, x1⟩ := wd_getD HZ.out t
    obtain ⟨y0, y1⟩ := wd_getD GZ.out t
    have D1 : Hid (val (zs.drop t) = (zs.getD t 0).toNat + 4294967296 * val (zs.drop (t + 1))) := val_drop zs t
    have D2 : Hid (val (ys.drop t) = (ys.getD t 0).toNat + 4294967296 * val (ys.drop (t + 1))) := val_drop ys t
    have HS : zs.getD t 0 ≠ ys.getD t 0 → Hid (sgn (zs.getD t 0) (ys.getD t 0) = sgn (val zs) (val ys)) := fun hne => sgn_val HZ.out GZ.out t HD.out hne
    clear A1 A2
    generalize zs.getD t 0 = x at B1 D1 HS x0 x1
    generalize ys.getD t 0 = y at B2 D2 HS y0 y1
    rcases Int.lt_trichotomy x y with hxy | hxy | hxy
    ·have H := HS (by omega)
     rw [sgn_lt hxy] at H
     clear HS
     go_wp2_with (first
      | (go_at_call 166; with_reducible refine Calls.mono B1 ?_; rintro e w1 ⟨rfl, rfl⟩)
      | (go_at_call 166; with_reducible refine Calls.mono B2 ?_; rintro e w1 ⟨rfl, rfl⟩))
     go_ret
     exact ⟨ret_int H.out, rfl⟩
    ·subst hxy
     clear HS
     go_wp2_with (first
      | (go_at_call 166; with_reducible refine Calls.mono B1 ?_; rintro e w1 ⟨rfl, rfl⟩)
      | (go_at_call 166; with_reducible refine Calls.mono B2 ?_; rintro e w1 ⟨rfl, rfl⟩))
     go_round
     case rel => exact ⟨t, by omega, rfl, by rw [D1.out, D2.out, HD.out]⟩
     case measure => simp [intOf]
    ·have H := HS (by omega)
     rw [sgn_gt hxy] at H
     have hxy' : ¬ x < y := by omega
     clear HS
     go_wp2_with (first
      | (go_at_call 166; with_reducible refine Calls.mono B1 ?_; rintro e w1 ⟨rfl, rfl⟩)
      | (go_at_call 166; with_reducible refine Calls.mono B2 ?_; rintro e w1 ⟨rfl, rfl⟩))
     go_ret
     exact ⟨ret_int H.out, rfl⟩
theorem ref_sub_step {p S A B x y b c c' : Nat} (hi : S + B = A + c * p) (hy : y + b + c = x + 4294967296 * c') : (S + y * p) + (B + b * p) = (A + x * p) + c' * (p * 4294967296) := by
 have e : (y + b + c) * p = (x + 4294967296 * c') * p := by rw [hy]
 rw [Nat.add_mul, Nat.add_mul, Nat.add_mul] at e
 have e2 : c' * (p * 4294967296) = 4294967296 * c' * p := by rw [Nat.mul_comm p, ← Nat.mul_assoc, Nat.mul_comm c']
 rw [e2]; omega
theorem ref_sub_last {ps qs ss : List Int} {r : Nat} (hs : Wd ss) (hp : Wd ps) (hls : ss.length = ps.length) (hle : val qs ≤ val ps) (hi : val ss + val (qs.take ps.length) = val (ps.take ps.length) + r * 4294967296 ^ ps.length) : val ss = val ps - val qs := by
 have h0 := val_lt ps hp
 rw [val_take_all qs _ (by omega), List.take_of_length_le (Nat.le_refl _)] at hi
 have h1 := val_lt ss hs
 rw [hls] at h1
 rcases Nat.eq_zero_or_pos r with rfl | hc
 ·omega
 ·have h3 : 1 * 4294967296 ^ ps.length ≤ r * 4294967296 ^ ps.length := Nat.mul_le_mul_right _ hc
  omega
theorem ref_nsub_no (a : Option Addr) (n c : Nat) (zs : List Int) (b : Option Addr) (m d : Nat) (ys : List Int) (w : World) (h : IsWords w (.slice a n c) zs) (hz : Wd zs) (g : IsWords w (.slice b m d) ys) (gz : Wd ys)
  (hn : n ≤ 1000000000) (hm : m ≤ 1000000000) (hlt : val zs < val ys) :
  Calls Tryz.prog 135 #[.slice a n c, .slice b m d] w fun e w' => e = .returned (.tuple #[.slice none 0 0, .bool false]) ∧ w = w' := by
 have C := ref_cmp _ _ _ _ _ _ _ _ w h hz g gz (by omega) (by omega)
 rw [sgn_lt (by omega)] at C
 clear h g hz gz hlt
 go_enter Tryz.func135, Tryz.ntmps135
 go_wp2_with (first
  | (go_at_call 134; with_reducible refine Calls.mono C ?_; rintro e w1 ⟨rfl, rfl⟩))
 go_ret2
 exact ⟨rfl, rfl⟩
theorem ref_nsub (a : Option Addr) (n c : Nat) (zs : List Int) (b : Option Addr) (m d : Nat) (ys : List Int) (w : World) (h : IsWords w (.slice a n c) zs) (hz : Wd zs) (g : IsWords w (.slice b m d) ys) (gz : Wd ys)
  (hn : n ≤ 1000000000) (hm : m ≤ 1000000000) (hge : val ys ≤ val zs) :
  Calls Tryz.prog 135 #[.slice a n c, .slice b m d] w (AnsOk w (val zs - val ys)) := by
 have C := ref_cmp _ _ _ _ _ _ _ _ w h hz g gz (by omega) (by omega)
 have l1 : Hid (zs.length = n) := h.len
 have hs : 0 ≤ sgn (val zs) (val ys) := by
  rcases Nat.lt_or_ge (val ys) (val zs) with h | h
  ·rw [sgn_gt (by omega)]; omega
  ·rw [sgn_eq (by omega)]; omega
 generalize sgn (val zs) (val ys) = sg at C hs
 have HG : Hid (val ys ≤ val zs) := hge
 clear hge
 go_enter Tryz.func135, Tryz.ntmps135
 go_wp2_with (first
  | (go_at_call 134; with_reducible refine Calls.mono C ?_; rintro e w1 ⟨rfl, rfl⟩))
 clear C
 go_loopw [6, 7, 8] (fun s cr i v => ∃ (k : Nat) (cy : Int) (oa : Option Addr) (oc : Nat) (ss : List Int), k ≤ n ∧ i = .int .i64 k ∧ cr = .int .u64 cy ∧ 0 ≤ cy ∧ cy ≤ 1 ∧ s = .slice oa k oc ∧ Own w v (.slice oa k oc) k ss ∧ Wd ss ∧ val ss + val (ys.take k) = val (zs.take k) + cy.toNat * 4294967296 ^ k) (fun _ _ i _ => n - (intOf i).toNat)
 case atStart => exact ⟨0, 0, none, 0, [], by omega, rfl, rfl, by omega, by omega, rfl, Own.nil (Below.refl _ _), wd_nil, by simp [val]⟩
 case round =>
  obtain ⟨k, cy, oa, oc, ss, hk, rfl, rfl, hc0, hc1, rfl, o, wS, hI⟩ := hrel
  have HI : Hid (val ss + val (ys.take k) = val (zs.take k) + cy.toNat * 4294967296 ^ k) := hI
  clear hI
  by_cases hlt : k < n
  ·have B1 := ref_at a n c zs wr (h.below o.below) k (by omega) _ rfl (wd_getD hz k).1 (wd_getD hz k).2
   have B2 := ref_at b m d ys wr (g.below o.below) k (by omega) _ rfl (wd_getD gz k).1 (wd_getD gz k).2
   obtain ⟨x0, x1⟩ := wd_getD hz k
   obtain ⟨y0, y1⟩ := wd_getD gz k
   have T1 : Hid (val (zs.take (k + 1)) = val (zs.take k) + (zs.getD k 0).toNat * 4294967296 ^ k) := val_take_succ zs k
   have T2 : Hid (val (ys.take (k + 1)) = val (ys.take k) + (ys.getD k 0).toNat * 4294967296 ^ k) := val_take_succ ys k
   have HL : Hid (ss.length = k) := o.length
   generalize zs.getD k 0 = x at B1 T1 x0 x1
   generalize ys.getD k 0 = y at B2 T2 y0 y1
   have HN : Hid (val (ss ++ [(4294967296 + x - y - cy) % 4294967296]) + val (ys.take (k + 1)) = val (zs.take (k + 1)) + (1 - (4294967296 + x - y - cy) / 4294967296).toNat * 4294967296 ^ (k + 1)) := by
    show _ = _
    rw [T1.out, T2.out, val_snoc, HL.out, Nat.pow_succ]
    exact ref_sub_step HI.out (by omega)
   have WN : Wd (ss ++ [(4294967296 + x - y - cy) % 4294967296]) := wd_append wS (wd_one (by omega) (by omega))
   clear T1 T2 HL HI h g hz gz l1 wS
   go_wp2_with (first
    | (go_at_call 166; with_reducible refine Calls.mono B1 ?_; rintro e w1 ⟨rfl, rfl⟩)
    | (go_at_call 166; with_reducible refine Calls.mono B2 ?_; rintro e w1 ⟨rfl, rfl⟩)
    | (at_builtin; refine wpl_append_words (.tmp 30) (.tmp 34) rfl rfl w _ _ _ k 1 ss [(4294967296 + x - y - cy) % 4294967296] rfl rfl (o.alloc _) (lit_words _ [(4294967296 + x - y - cy) % 4294967296] 1 rfl (by decide)) rfl (k + 1) rfl (by omega) ?_; intro a1 c1 w1 o1 g1))
   go_roundw
   case rel => exact ⟨k + 1, 1 - (4294967296 + x - y - cy) / 4294967296, a1, c1, _, by omega, by go_num, rfl, by omega, by omega, rfl, o1, WN, HN.out⟩
   case measure => simp [intOf]; omega
  ·obtain rfl : k = n := by omega
   have e1 := l1.out
   have HI' := HI.out
   rw [← e1] at HI'
   have HS := ref_sub_last wS hz (by rw [o.length, e1]) HG.out HI'
   have R := ref_trim oa k oc ss wr o.words wS (by omega)
   rw [HS] at R
   have ob := o.below
   clear HS HI HI' e1 h g hz gz l1 wS o
   go_wp2_with (first
    | (go_at_call 71; (with_reducible refine Calls.mono R ?_); rintro e w1 ⟨a1, c1, rfl, o1⟩))
   go_ret2
   exact ⟨_, _, rfl, o1.outer ob⟩
-- <<END>>
end
section
open Go.RowKit
theorem ref_one_step {p S V A x z y c c' : Nat} (hi : S + c * p = A * x + V) (hy : y + 4294967296 * c' = z * x + c) : (S + y * p) + c' * (p * 4294967296) = (A + z * p) * x + V := by
 have e : (y + 4294967296 * c') * p = (z * x + c) * p := by rw [hy]
 rw [Nat.add_mul, Nat.add_mul] at e
 have e2 : c' * (p * 4294967296) = 4294967296 * c' * p := by rw [Nat.mul_comm p, ← Nat.mul_assoc, Nat.mul_comm c']
 have e3 : (A + z * p) * x = A * x + z * x * p := by rw [Nat.add_mul, Nat.mul_right_comm]
 rw [e2, e3]; omega
theorem ref_one (a : Option Addr) (n c : Nat) (zs : List Int) (x y : Int) (w : World) (h : IsWords w (.slice a n c) zs) (hz : Wd zs) (hn : n ≤ 1000000000) (x0 : 0 ≤ x) (x1 : x < 4294967296) (y0 : 0 ≤ y) (y1 : y < 4294967296) :
  Calls Tryz.prog 132 #[.slice a n c, .int .u32 x, .int .u32 y] w (Ans w (val zs * x.toNat + y.toNat)) := by
 have l1 : Hid (zs.length = n) := h.len
 go_enter Tryz.func132, Tryz.ntmps132
 go_wp2
 go_loopw [7, 8, 9] (fun s cr i v => ∃ (k : Nat) (cy : Int) (oa : Option Addr) (oc : Nat) (ss : List Int), k ≤ n ∧ i = .int .i64 k ∧ cr = .int .u64 cy ∧ 0 ≤ cy ∧ cy < 4294967296 ∧ s = .slice oa k oc ∧ Own w v (.slice oa k oc) k ss ∧ Wd ss ∧ val ss + cy.toNat * 4294967296 ^ k = val (zs.take k) * x.toNat + y.toNat) (fun _ _ i _ => n - (intOf i).toNat)
 case atStart => exact ⟨0, y, none, 0, [], by omega, rfl, rfl, y0, y1, rfl, Own.nil (Below.refl _ _), wd_nil, by simp [val]⟩
 case round =>
  obtain ⟨k, cy, oa, oc, ss, hk, rfl, rfl, c0, c1, rfl, o, wS, hI⟩ := hrel
  have HI : Hid (val ss + cy.toNat * 4294967296 ^ k = val (zs.take k) * x.toNat + y.toNat) := hI
  clear hI
  have HL : Hid (ss.length = k) := o.length
  by_cases hlt : k < n
  ·obtain ⟨z0, z1⟩ := wd_getD hz k
   rcases (h.below o.below).reads.1.2 with h0 | ⟨b, off, rfl, hcz⟩
   ·omega
   have hck := hcz k hlt
   have T1 : Hid (val (zs.take (k + 1)) = val (zs.take k) + (zs.getD k 0).toNat * 4294967296 ^ k) := val_take_succ zs k
   generalize zs.getD k 0 = z at hck T1 z0 z1
   have m0 : 0 ≤ z * x := Int.mul_nonneg z0 x0
   have m1 : z * x ≤ 4294967295 * 4294967295 := Int.mul_le_mul (by omega) (by omega) x0 (by omega)
   have m2 : (z * x).toNat = z.toNat * x.toNat := Int.toNat_mul z0 x0
   have HN : Hid (val (ss ++ [(z * x + cy) % 4294967296]) + ((z * x + cy) / 4294967296).toNat * 4294967296 ^ (k + 1) = val (zs.take (k + 1)) * x.toNat + y.toNat) := by
    show _ = _
    rw [T1.out, val_snoc, HL.out, Nat.pow_succ]
    refine ref_one_step HI.out ?_
    rw [← m2]
    generalize z * x = p at m0 m1
    omega
   have HC : 0 ≤ (z * x + cy) / 4294967296 ∧ (z * x + cy) / 4294967296 < 4294967296 := by
    generalize z * x = p at m0 m1
    omega
   have WN : Wd (ss ++ [(z * x + cy) % 4294967296]) := wd_append wS (wd_one (by omega) (by omega))
   clear T1 HL HI h hz l1 wS hcz m2
   go_wp2_with (first
    | (at_builtin; refine wpl_append_words (.tmp 29) (.tmp 33) rfl rfl w _ _ _ k 1 ss [(z * x + cy) % 4294967296] rfl rfl (o.alloc _) (lit_words _ [(z * x + cy) % 4294967296] 1 rfl (by decide)) rfl (k + 1) rfl (by omega) ?_; intro a1 c1' w1 o1 g1))
   go_roundw
   case rel => exact ⟨k + 1, (z * x + cy) / 4294967296, a1, c1', _, by omega, by go_num, rfl, HC.1, HC.2, rfl, o1, WN, HN.out⟩
   case measure => simp [intOf]; omega
  ·obtain rfl : k = n := by omega
   have HN : Hid (val (ss ++ [cy]) = val zs * x.toNat + y.toNat) := by
    show _ = _
    have h1 := HI.out
    have h2 := l1.out
    rw [List.take_of_length_le (by omega)] at h1
    rw [val_snoc, HL.out, h1]
   have WN : Wd (ss ++ [cy]) := wd_append wS (wd_one c0 c1)
   have R := fun v a1 c1 (p : IsWords v (.slice a1 (k + 1) c1) (ss ++ [cy])) => ref_trim a1 (k + 1) c1 (ss ++ [cy]) v p WN (by omega)
   rw [HN.out] at R
   clear HN HI HL h hz l1 wS
   go_wp2_with (first
    | (at_builtin; refine wpl_append_words (.tmp 37) (.tmp 40) rfl rfl w _ _ _ k 1 ss [cy] rfl rfl (o.alloc _) (lit_words _ [cy] 1 rfl (by decide)) rfl (k + 1) rfl (by omega) ?_; intro a1 c1' w1 o1 g1)
    | (go_at_call 71; (with_reducible refine Calls.mono (R _ _ _ o1.words) ?_); rintro e w2 ⟨a2, c2, rfl, o2⟩))
   go_ret
   exact ⟨_, _, rfl, o2.outer o1.below⟩
end
section
open Go.RowKit
theorem and_one_w (x : Nat) (h : x < 4294967296) : bits BinOp.and IntKind.u32 (x : Int) 1 = ((x % 2 : Nat) : Int) := by
 have h1 : (BitVec.ofInt 32 (x : Int)).toNat = x := by
  rw [BitVec.ofInt_natCast, BitVec.toNat_ofNat]; exact Nat.mod_eq_of_lt h
 have h2 : (BitVec.ofInt 32 (1 : Int)).toNat = 1 := by decide
 show IntKind.u32.wrap ((BitVec.ofInt 32 (x : Int) &&& BitVec.ofInt 32 (1 : Int)).toNat : Int) = _
 rw [BitVec.toNat_and, h1, h2, IntKind.wrap_u32, Nat.and_one_is_mod]
 omega
theorem bit_val (zs : List Int) (hz : Wd zs) (j r : Nat) (hr : r < 32) : val zs / 2 ^ (32 * j + r) % 2 = (zs.getD j 0).toNat / 2 ^ r % 2 := by
 have h1 := val_split zs j
 have h2 := val_take_lt zs hz j
 have h3 := val_drop zs j
 have e1 : val zs / 4294967296 ^ j = val (zs.drop j) := by
  rw [h1, Nat.add_comm, Nat.mul_add_div (Nat.pow_pos (by omega)), Nat.div_eq_of_lt h2, Nat.add_zero]
 have e2 : 4294967296 = 2 ^ r * 2 ^ (32 - r) := by rw [← Nat.pow_add, show r + (32 - r) = 32 by omega]
 have e3 : 2 ^ (32 - r) = 2 * 2 ^ (31 - r) := by rw [show 32 - r = (31 - r) + 1 by omega, Nat.pow_succ, Nat.mul_comm]
 rw [Nat.pow_add, ← pow_word, ← Nat.div_div_eq_div_mul, e1, h3]
 generalize (zs.getD j 0).toNat = z
 generalize val (zs.drop (j + 1)) = t
 rw [e2, e3, Nat.add_comm, Nat.mul_assoc, Nat.mul_add_div (Nat.pow_pos (by omega)), Nat.mul_assoc]
 omega
theorem ref_bit (a : Option Addr) (n c : Nat) (zs : List Int) (w : World) (h : IsWords w (.slice a n c) zs) (hz : Wd zs) (hn : n ≤ 1000000000) (i : Nat) (hi : i < 32 * n) (B : Int) (hB : B = ((val zs / 2 ^ i % 2 : Nat) : Int)) :
  Calls Tryz.prog 133 #[.slice a n c, .int .i64 i] w fun e w' => e = .returned (.int .u32 B) ∧ w = w' := by
 obtain ⟨j, hj⟩ : ∃ j, i / 32 = j := ⟨_, rfl⟩
 obtain ⟨r, hr⟩ : ∃ r, i % 32 = r := ⟨_, rfl⟩
 have q1 : (i : Int).tdiv 32 = j := by rw [Int.tdiv_eq_ediv_of_nonneg (by omega)]; omega
 have q2 : (i : Int) / 32 = j := by omega
 have r1 : (i : Int).tmod 32 = r := by rw [Int.tmod_eq_emod_of_nonneg (by omega)]; omega
 have r2 : (i : Int) % 32 = r := by omega
 have j1 : j < n := by omega
 have r3 : r < 32 := by omega
 obtain ⟨z0, z1⟩ := wd_getD hz j
 have BV := bit_val zs hz j r r3
 rw [show 32 * j + r = i by omega] at BV
 rw [BV] at hB
 rcases h.reads.1.2 with h0 | ⟨b, off, rfl, hcz⟩
 ·omega
 have hck := hcz j j1
 generalize zs.getD j 0 = z at hck z0 z1 hB
 have HB : Hid (bits BinOp.and IntKind.u32 (z / 2 ^ r) 1 = B) := by
  show _ = _
  have e : z / 2 ^ r = ((z.toNat / 2 ^ r : Nat) : Int) := by
   rw [Int.natCast_ediv, Int.toNat_of_nonneg z0]; simp
  rw [e, and_one_w _ (Nat.lt_of_le_of_lt (Nat.div_le_self _ _) (by omega)), hB]
 clear hcz h hB BV hj hr
 go_enter Tryz.func133, Tryz.ntmps133
 go_wp2
 go_ret
 exact ⟨ret_int HB.out, rfl⟩
theorem ref_one' {a : Option Addr} {n c : Nat} {zs : List Int} {x y : Int} {w : World} (h : IsWords w (.slice a n c) zs) (hz : Wd zs) (hn : n ≤ 1000000000) (x0 : 0 ≤ x) (x1 : x < 4294967296) (y0 : 0 ≤ y) (y1 : y < 4294967296) (N : Nat) (hN : val zs * x.toNat + y.toNat = N) :
  Calls Tryz.prog 132 #[.slice a n c, .int .u32 x, .int .u32 y] w (Ans w N) := by
 subst hN; exact ref_one a n c zs x y w h hz hn x0 x1 y0 y1
theorem ref_div_no (a : Option Addr) (n c : Nat) (b : Option Addr) (m d : Nat) (ys : List Int) (w : World) (g : IsWords w (.slice b m d) ys) (gz : Wd ys) (hm : m ≤ 1000000000) (h0 : val ys = 0) :
  Calls Tryz.prog 107 #[.slice a n c, .slice b m d] w fun e w' => e = .returned (.tuple #[.slice none 0 0, .slice none 0 0, .bool false]) ∧ Below w.heap.size w w' := by
 have T := ref_trim b m d ys w g gz (by omega)
 unfold Ans at T
 rw [h0, nl_zero] at T
 clear g gz h0
 go_enter Tryz.func107, Tryz.ntmps107
 go_wp2_with (first
  | (go_at_call 71; (with_reducible refine Calls.mono T ?_); rintro e w1 ⟨a1, c1, rfl, o1⟩))
 go_ret3
 exact ⟨rfl, o1.below⟩
theorem nl_few2 {x A : Nat} (h : x ≤ 4 * A) : nl x ≤ nl A + 1 := by
 refine nl_le _ _ ?_
 have := lt_nl A
 rw [Nat.pow_succ]
 generalize 4294967296 ^ nl A = p at *
 omega
theorem bit_step (A k : Nat) : A / 2 ^ k = 2 * (A / 2 ^ (k + 1)) + A / 2 ^ k % 2 := by
 rw [Nat.pow_succ, ← Nat.div_div_eq_div_mul]; omega
theorem ref_div (a : Option Addr) (n c : Nat) (zs : List Int) (b : Option Addr) (m d : Nat) (ys : List Int) (w : World) (h : IsWords w (.slice a n c) zs) (hz : Wd zs) (g : IsWords w (.slice b m d) ys) (gz : Wd ys) (hn : n ≤ 100000000) (hm : m ≤ 100000000) (hpos : 0 < val ys) :
  Calls Tryz.prog 107 #[.slice a n c, .slice b m d] w (AnsDiv w (val zs / val ys) (val zs % val ys)) := by
 have T := ref_trim b m d ys w g gz (by omega)
 have b2 := (g.low gz).2.2
 have b1 := nl_val_le zs hz
 rw [h.len] at b1
 have hlt := val_lt zs hz
 rw [h.len, pow_word] at hlt
 have HLT : Hid (val zs < 2 ^ (32 * n)) := hlt
 have BI := fun w' (q : IsWords w' (.slice a n c) zs) i hi B hB => ref_bit a n c zs w' q hz (by omega) i hi B hB
 clear hlt hz g gz
 generalize val zs = A at *
 generalize val ys = D at *
 have hne : nl D ≠ 0 := fun e => by have := nl_eq_zero e; omega
 have HP : Hid (0 < D) := hpos
 clear hpos
 obtain ⟨N, hN⟩ : ∃ N, nl D = N := ⟨_, rfl⟩
 unfold Ans at T
 rw [hN] at T hne b2
 have HND : Hid (nl D = N) := hN
 have hN0 : ((N : Int) == 0) = false := by simp; omega
 clear hN
 go_enter Tryz.func107, Tryz.ntmps107
 go_wp2_with (first
  | (go_at_call 71; (with_reducible refine Calls.mono T ?_); rintro e w1 ⟨a1, c1, rfl, o1⟩))
 clear T
 go_loopg [8, 9, 10] (32 * n) (fun k q r i v => ∃ (qa : Option Addr) (qn qc : Nat) (ra : Option Addr) (rn rc : Nat) (Q R : Nat), k ≤ 32 * n ∧ i = .int .i64 ((k : Int) - 1) ∧ q = .slice qa qn qc ∧ r = .slice ra rn rc ∧ qn = nl Q ∧ rn = nl R ∧ Own w1 v (.slice qa qn qc) qn (natOf Q) ∧ Own w1 v (.slice ra rn rc) rn (natOf R) ∧ R < D ∧ A / 2 ^ k = Q * D + R)
 case atStart =>
  refine ⟨none, 0, 0, none, 0, 0, 0, 0, by omega, by go_num, rfl, rfl, nl_zero.symm, nl_zero.symm, ?_, ?_, HP.out, ?_⟩
  ·rw [natOf_zero]; exact Own.nil (Below.refl _ _)
  ·rw [natOf_zero]; exact Own.nil (Below.refl _ _)
  ·rw [Nat.div_eq_of_lt HLT.out]; omega
 case round =>
  obtain ⟨k, rfl⟩ : ∃ k, k = gk := ⟨_, rfl⟩
  obtain ⟨qa, qn, qc, ra, rn, rc, Q, R, hk, rfl, rfl, rfl, hqn, hrn, oQ, oR, hR, hI⟩ := hrel
  have HI : Hid (A / 2 ^ k = Q * D + R) := hI
  have HQN : Hid (qn = nl Q) := hqn
  have HRN : Hid (rn = nl R) := hrn
  have HRD : Hid (R < D) := hR
  have hQA : Q ≤ A := by
   have h1 : A / 2 ^ k ≤ A := Nat.div_le_self _ _
   have h2 : Q * 1 ≤ Q * D := Nat.mul_le_mul_left _ HP.out
   omega
  have qn1 : qn ≤ n := by rw [hqn]; exact Nat.le_trans (nl_mono hQA) b1
  have rn1 : rn ≤ m := by rw [hrn]; exact Nat.le_trans (nl_mono (Nat.le_of_lt hR)) (by rw [HND.out]; exact b2)
  clear hI hqn hrn hR hQA
  rcases Nat.eq_zero_or_pos k with hk0 | hk0
  ·subst hk0
   rw [show ((0 : Nat) : Int) - 1 = -1 from rfl]
   have HS : A = Q * D + R := by have := HI.out; simpa using this
   have e1 : Q = A / D := by
    rw [HS, Nat.mul_comm, Nat.mul_add_div HP.out, Nat.div_eq_of_lt HRD.out, Nat.add_zero]
   have e2 : R = A % D := by
    rw [HS, Nat.mul_comm, Nat.mul_add_mod, Nat.mod_eq_of_lt HRD.out]
   have p1 := oQ.outer o1.below
   have p2 := oR.outer o1.below
   rw [e1] at HQN p1
   rw [e2] at HRN p2
   clear HS e1 e2 HI HRD oQ oR h BI
   go_wp2
   go_ret3
   have e3 := HQN.out
   have e4 := HRN.out
   subst e3 e4
   exact ⟨_, _, _, _, rfl, p1, p2⟩
  ·obtain ⟨t, rfl⟩ : ∃ t, k = t + 1 := ⟨k - 1, by omega⟩
   rw [show ((t + 1 : Nat) : Int) - 1 = t by omega]
   have BS := bit_step A t
   have hbit : A / 2 ^ t % 2 < 2 := Nat.mod_lt _ (by omega)
   obtain ⟨B, hB⟩ : ∃ B : Nat, B = A / 2 ^ t % 2 := ⟨_, rfl⟩
   have BI2 := fun w' q => BI w' q t (by omega) (B : Int) (by rw [hB])
   rw [← hB] at BS hbit
   rw [HI.out] at BS
   have HBS : Hid (A / 2 ^ t = 2 * (Q * D + R) + B) := BS
   clear BS hB BI HI
   have O1 := ref_one' oQ.words (wd_natOf _) (x := 2) (y := 0) (by omega) (by omega) (by omega) (by omega) (by omega) (2 * Q) (by rw [val_natOf, show (2 : Int).toNat = 2 from rfl, show (0 : Int).toNat = 0 from rfl]; omega)
   have O2 := fun w' (q : IsWords w' (.slice ra rn rc) (natOf R)) => ref_one' q (wd_natOf _) (x := 2) (y := B) (by omega) (by omega) (by omega) (by omega) (by omega) (2 * R + B) (by rw [val_natOf, show (2 : Int).toNat = 2 from rfl, Int.toNat_natCast]; omega)
   have hq2 : nl (2 * Q) ≤ qn + 1 := by
    have := nl_few2 (x := 2 * Q) (A := Q) (by omega)
    rw [HQN.out]; exact this
   have hr2 : nl (2 * R + B) ≤ m + 1 := by
    have h1 := HRD.out
    have := nl_few2 (x := 2 * R + B) (A := D) (by omega)
    rw [HND.out] at this
    omega
   have oD := fun v (bb : Below w1.heap.size w1 v) => o1.more bb
   have CM := fun w' a3 c3 (q1 : IsWords w' (.slice a3 (nl (2 * R + B)) c3) (natOf (2 * R + B))) (q2 : IsWords w' (.slice a1 N c1) (natOf D)) => ref_cmp a3 _ c3 _ a1 N c1 _ w' q1 (wd_natOf _) q2 (wd_natOf _) (by omega) (by omega)
   simp only [val_natOf] at CM
   clear HQN HRN
   rcases Nat.lt_or_ge (2 * R + B) D with hlt | hge
   ·rw [sgn_lt (by omega)] at CM
    have HN1 : Hid (2 * R + B < D ∧ A / 2 ^ t = 2 * Q * D + (2 * R + B)) := ⟨hlt, by rw [HBS.out, Nat.mul_add, Nat.mul_assoc]; omega⟩
    clear hlt HBS
    go_wp2_with (first
     | (go_at_call 132; (with_reducible refine Calls.mono O1 ?_); rintro e w2 ⟨a2, c2, rfl, o2⟩; have p2 := oR.more o2.below; have q2 := o2.outer oQ.below)
     | (go_at_call 133; (with_reducible refine Calls.mono (BI2 _ ((h.below o1.below).below p2.below)) ?_); rintro e w3 ⟨rfl, rfl⟩)
     | (go_at_call 132; (with_reducible refine Calls.mono (O2 _ p2.words) ?_); rintro e w3 ⟨a3, c3, rfl, o3⟩; have q3 := q2.more o3.below; have p3 := o3.outer p2.below)
     | (go_at_call 134; (with_reducible refine Calls.mono (CM _ _ _ o3.words (oD _ p3.below).words) ?_); rintro e w4 ⟨rfl, rfl⟩))
    go_roundg t
    case rel => exact ⟨a2, _, c2, a3, _, c3, 2 * Q, 2 * R + B, by omega, rfl, rfl, rfl, rfl, rfl, q3, p3, HN1.out.1, HN1.out.2⟩
    case measure => omega
   ·obtain ⟨cs, CM', hcs⟩ : ∃ cs : Int, (∀ w' a3 c3, IsWords w' (.slice a3 (nl (2 * R + B)) c3) (natOf (2 * R + B)) → IsWords w' (.slice a1 N c1) (natOf D) → Calls Tryz.prog 134 #[.slice a3 (nl (2 * R + B)) c3, .slice a1 N c1] w' (fun e w'' => e = .returned (.int .i64 cs) ∧ w' = w'')) ∧ 0 ≤ cs := by
     refine ⟨_, CM, ?_⟩
     rcases Nat.lt_or_ge D (2 * R + B) with h | h
     ·rw [sgn_gt (by omega)]; omega
     ·rw [sgn_eq (by omega)]; omega
    have HN1 : Hid (2 * R + B - D < D ∧ A / 2 ^ t = (2 * Q + 1) * D + (2 * R + B - D)) := ⟨by have := HRD.out; omega, by rw [HBS.out, Nat.mul_add, Nat.add_mul, Nat.mul_assoc]; omega⟩
    have SB := fun w' a3 c3 (q1 : IsWords w' (.slice a3 (nl (2 * R + B)) c3) (natOf (2 * R + B))) (q2 : IsWords w' (.slice a1 N c1) (natOf D)) => ref_nsub a3 _ c3 _ a1 N c1 _ w' q1 (wd_natOf _) q2 (wd_natOf _) (by omega) (by omega) (by rw [val_natOf, val_natOf]; exact hge)
    simp only [val_natOf] at SB
    have O3 := fun w' a3 c3 (q : IsWords w' (.slice a3 (nl (2 * Q)) c3) (natOf (2 * Q))) => ref_one' q (wd_natOf _) (x := 1) (y := 1) (by omega) (by omega) (by omega) (by omega) (by omega) (2 * Q + 1) (by rw [val_natOf, show (1 : Int).toNat = 1 from rfl]; omega)
    clear hge HBS CM
    go_wp2_with (first
     | (go_at_call 132; (with_reducible refine Calls.mono O1 ?_); rintro e w2 ⟨a2, c2, rfl, o2⟩; have p2 := oR.more o2.below; have q2 := o2.outer oQ.below)
     | (go_at_call 133; (with_reducible refine Calls.mono (BI2 _ ((h.below o1.below).below p2.below)) ?_); rintro e w3 ⟨rfl, rfl⟩)
     | (go_at_call 132; (with_reducible refine Calls.mono (O2 _ p2.words) ?_); rintro e w3 ⟨a3, c3, rfl, o3⟩; have q3 := q2.more o3.below; have p3 := o3.outer p2.below)
     | (go_at_call 134; (with_reducible refine Calls.mono (CM' _ _ _ o3.words (oD _ p3.below).words) ?_); rintro e w4 ⟨rfl, rfl⟩)
     | (go_at_call 135; (with_reducible refine Calls.mono (SB _ _ _ o3.words (oD _ p3.below).words) ?_); rintro e w5 ⟨a5, c5, rfl, o5⟩; have q5 := q3.more o5.below; have p5 := o5.outer p3.below)
     | (go_at_call 132; (with_reducible refine Calls.mono (O3 _ _ _ q5.words) ?_); rintro e w6 ⟨a6, c6, rfl, o6⟩; have p6 := p5.more o6.below; have q6 := o6.outer q5.below))
    go_roundg t
    case rel => exact ⟨a6, _, c6, a5, _, c5, 2 * Q + 1, 2 * R + B - D, by omega, rfl, rfl, rfl, rfl, rfl, q6, p6, HN1.out.1, HN1.out.2⟩
    case measure => omega
theorem natOf_word {x : Nat} (h0 : 0 < x) (h1 : x < 4294967296) : natOf x = [(x : Int)] := by
 rw [natOf_pos (by omega), Nat.mod_eq_of_lt h1, Nat.div_eq_of_lt h1, natOf_zero]
theorem ref_small4 (a : Option Addr) (n c : Nat) (zs : List Int) (d : Int) (w : World) (h : IsWords w (.slice a n c) zs) (hz : Wd zs) (hn : n ≤ 100000000) (d0 : 0 < d) (d1 : d < 4294967296) :
  Calls Tryz.prog 72 #[.slice a n c, .int .u32 d] w (AnsSmall w (val zs / d.toNat) ((val zs % d.toNat : Nat) : Int)) := by
 have hb0 : Below w.heap.size w (w.alloc (.cells #[.int .u32 d] 85)) := (Below.refl _ w).alloc (Nat.le_refl _) _
 have ev : val [d] = d.toNat := by simp [val]
 have L1 : IsWords (w.alloc (.cells #[.int .u32 d] 85)) (.slice (some ⟨w.heap.size, 0, none⟩) 1 1) [d] := lit_words w [d] 1 rfl (by decide)
 have T := ref_div a n c zs _ _ _ [d] _ (h.below hb0) hz L1 (wd_one (by omega) d1) hn (by omega) (by rw [ev]; omega)
 rw [ev] at T
 have hm : val zs % d.toNat < 4294967296 := Nat.lt_of_lt_of_le (Nat.mod_lt _ (by omega)) (by omega)
 have HB : Hid (Below w.heap.size w (w.alloc (.cells #[.int .u32 d] 85))) := hb0
 clear h hz ev hb0 L1
 generalize val zs / d.toNat = Q at *
 generalize val zs % d.toNat = R at *
 unfold AnsDiv at T
 rcases Nat.eq_zero_or_pos R with h0 | h0
 ·subst h0
  rw [nl_zero] at T
  go_enter Tryz.func72, Tryz.ntmps72
  go_wp2_with (first
   | (go_at_call 107; (with_reducible refine Calls.mono T ?_); rintro e w1 ⟨a1, c1, a2, c2, rfl, o1, o2⟩))
  go_ret3
  exact ⟨_, _, rfl, o1.outer HB.out⟩
 ·have e1 := natOf_word h0 hm
  have e2 : nl R = 1 := by unfold nl; rw [e1]; rfl
  rw [e1, e2] at T
  clear e1 e2
  go_enter Tryz.func72, Tryz.ntmps72
  go_wp2_with (first
   | (go_at_call 107; (with_reducible refine Calls.mono T ?_); rintro e w1 ⟨a1, c1, a2, c2, rfl, o1, o2⟩; obtain ⟨g2, rfl⟩ := o2.at0 (by omega); have hc2 := (o2.cell 0 (by omega)).1; rw [show ([(R : Int)]).getD 0 0 = (R : Int) from rfl] at hc2))
  go_quiet (fail)
  go_wp2
  go_ret3
  refine ⟨_, _, rfl, ?_⟩
  have o3 := o1.outer HB.out
  exact ⟨o3.1, below_drewN o3.2 _⟩
end
section
open Go.RowKit
theorem ref_div_any {a : Option Addr} {n c : Nat} {zs : List Int} {b : Option Addr} {m d : Nat} {ys : List Int} {w : World} (h : IsWords w (.slice a n c) zs) (hz : Wd zs) (g : IsWords w (.slice b m d) ys) (gz : Wd ys) (hn : n ≤ 100000000) (hm : m ≤ 100000000) (A D : Nat) (hA : val zs = A) (hD : val ys = D) :
  Calls Tryz.prog 107 #[.slice a n c, .slice b m d] w (AnsDivB w (A / D) (rest A D) (decide (0 < D))) := by
 rcases Nat.eq_zero_or_pos D with h0 | h0
 ·subst h0
  refine (ref_div_no a n c b m d ys w g gz (by omega) hD).mono ?_
  rintro e w1 ⟨rfl, b1⟩
  rw [Nat.div_zero, show rest A 0 = 0 from rfl]
  exact ⟨none, 0, none, 0, by rw [nl_zero]; rfl, nil_nl b1, nil_nl b1⟩
 ·have e : rest A D = A % D := if_neg (by omega)
  rw [e, show decide (0 < D) = true from decide_eq_true h0]
  subst hA hD
  exact ref_div a n c zs b m d ys w h hz g gz hn hm h0
end
section
open Go.RowKit
theorem ref_ifix {s : Bool} {a : Option Addr} {n c : Nat} {zs : List Int} {w : World} (h : IsWords w (.slice a n c) zs) (hz : Wd zs) (hn : n ≤ 1000000000) (z : Int) (hv : iv s (val zs) = z) :
  Calls Tryz.prog 79 #[.agg #[.bool s, .slice a n c]] w (AnsI w z) := by
 subst hv
 unfold AnsI
 rw [iv_abs, iv_neg]
 have T := fun v (hb : Below w.heap.size w v) => ref_trim a n c zs v (h.below hb) hz (by omega)
 unfold Ans at T
 have hd : decide (0 < val zs) = decide (0 < (nl (val zs) : Int)) := by
  rw [Bool.eq_iff_iff]; simp only [decide_eq_true_eq]
  constructor
  ·intro h; have := nl_pos h; omega
  ·intro h; rcases Nat.eq_zero_or_pos (val zs) with e | e
   ·rw [e, nl_zero] at h; omega
   ·exact e
 rw [hd]
 generalize val zs = N at T
 have b1 := (BoxC.new w #[.bool s, .slice a n c] 83).alloc (.cells #[.bool false, .slice none 0 0] 83)
 have b2 := BoxC.new (w.alloc (.cells #[.bool s, .slice a n c] 83)) #[.bool false, .slice none 0 0] 83
 rw [World.size_alloc] at b2
 have bV : Below w.heap.size w ((w.alloc (.cells #[.bool s, .slice a n c] 83)).alloc (.cells #[.bool false, .slice none 0 0] 83)) := ((Below.refl _ w).alloc (Nat.le_refl _) _).alloc (by simp) _
 have hs : w.heap.size + 1 < ((w.alloc (.cells #[.bool s, .slice a n c] 83)).alloc (.cells #[.bool false, .slice none 0 0] 83)).heap.size := by simp
 clear h hz hn hd
 cases s
 case' false => obtain ⟨r, HR⟩ : ∃ r : Bool, Hid (r = false) := ⟨_, (rfl : false = false)⟩
 case' true => obtain ⟨r, HR⟩ : ∃ r : Bool, Hid (r = decide (0 < nl N)) := ⟨_, (rfl : decide (0 < nl N) = decide (0 < nl N))⟩
 all_goals
  go_enter Tryz.func79, Tryz.ntmps79
  go_wp2_with (go_at_call 71; (with_reducible refine Calls.mono (T _ bV) ?_); rintro e w1 ⟨a1, c1, rfl, o1⟩; obtain ⟨x0, x1, f0, f1⟩ := (b1.more o1.below).cells2; obtain ⟨y0, y1, g0, g1⟩ := (b2.more o1.below).cells2)
  have q := fun x y => ((o1.above bV).set (k := w.heap.size + 1) (by omega) hs 0 x).set (k := w.heap.size + 1) (by omega) hs 1 y
  exact bodyPost_ret (v := .agg #[.bool r, .slice a1 (nl N) c1]) (by simp [results, Tryz.results79, go_sem, y0, y1, HR.out]) rfl ⟨a1, c1, by simp [HR.out], (q _ _).own (by omega)⟩
end
section
open Go.RowKit
theorem conv_byte1 (v : World) (d : UInt8) (x : Int) (hx : (d.toNat : Int) = x) :
  Sem.run Tryz.prog (convert 89 9 (.slice (some ⟨v.heap.size, 0, none⟩) 1 1)) (v.alloc (.cells #[.int .u8 x] 5)) = .ok (.string ⟨#[d]⟩) (v.alloc (.cells #[.int .u8 x] 5)) := by
 have h := run_convert_bytes_back (P := Tryz.prog) (v.alloc (.cells #[.int .u8 x] 5)) 89 9 5 ⟨v.heap.size, 0, none⟩ 1 [d] Tryz.underlying89 Tryz.underlying5 Tryz.underlying9 (fun j hj => by
  rw [Go.WideShapes.add_plain]
  have : j = 0 := by simp at hj; omega
  subst this
  simp [hx])
 exact h
theorem ref_print {a : Option Addr} {n c : Nat} {zs : List Int} {w : World} (h : IsWords w (.slice a n c) zs) (hz : Wd zs) (hn : n ≤ 1000000) (N : Nat) (hN : val zs = N) :
  Calls Tryz.prog 44 #[.slice a n c] w fun e w' => e = .returned (.string ⟨(decOf N).toArray⟩) ∧ Below w.heap.size w w' := by
 have T := ref_trim a n c zs w h hz (by omega)
 rw [hN] at T
 unfold Ans at T
 have lN : nl N ≤ 1000000 := by rw [← hN]; exact nl_small hz _ (by rw [h.len]; exact hn)
 clear h hz hn hN
 rcases Nat.eq_zero_or_pos N with h0 | h0
 ·subst h0
  simp only [nl_zero] at T
  rw [decOf_zero]
  go_enter Tryz.func44, Tryz.ntmps44
  go_wp2_with (go_at_call 71; (with_reducible refine Calls.mono T ?_); rintro e w1 ⟨a1, c1, rfl, o1⟩)
  go_ret
  exact ⟨rfl, o1.below⟩
 ·have hN0 : ((nl N : Int) == 0) = false := by have := nl_pos h0; simp; omega
  rw [decOf_pos h0]
  have LD := dg_words N
  have HL : Hid (nl N ≤ 1000000 ∧ (dg N).length ≤ 10000000) := ⟨lN, by omega⟩
  clear h0 LD lN
  go_enter Tryz.func44, Tryz.ntmps44
  go_wp2_with (go_at_call 71; (with_reducible refine Calls.mono T ?_); rintro e w1 ⟨a1, c1, rfl, o1⟩)
  clear T hN0
  go_loopg [3, 4, 5, 6, 7] N (fun X s3 s4 s5 s6 s7 v => ∃ (a3 : Option Addr) (c3 : Nat) (l : List UInt8), s3 = .slice a3 (nl X) c3 ∧ s4 = .string ⟨l.toArray⟩ ∧ Own w v (.slice a3 (nl X) c3) (nl X) (natOf X) ∧ dg X ++ l = dg N ∧ nl X ≤ 1000000)
  case atStart => exact ⟨_, _, [], rfl, rfl, o1, by simp, HL.out.1⟩
  case round =>
   obtain ⟨a3, c3, l, rfl, rfl, o3, hd, hl⟩ := hrel
   clear o1
   rcases Nat.eq_zero_or_pos gk with h0 | h0
   ·subst h0
    rw [dg_zero, List.nil_append] at hd
    rw [nl_zero] at o3 ⊢
    have HD : Hid (l = dg N) := hd
    clear hd hl
    go_wp2
    go_ret
    exact ⟨by rw [← HD.out]; rfl, o3.below⟩
   ·have S := ref_small4 a3 (nl gk) c3 (natOf gk) 10 wr o3.words (wd_natOf gk) (by omega) (by omega) (by omega)
    rw [val_natOf, show (10 : Int).toNat = 10 from rfl] at S
    unfold AnsSmall at S
    have hp : 0 < (nl gk : Int) := by have := nl_pos h0; omega
    have HX : Hid (dg gk ++ l = dg N ∧ 0 < gk ∧ nl gk ≤ 1000000) := ⟨hd, h0, hl⟩
    have hls : (1 : Int) + l.length ≤ 9223372036854775807 := by
     have := congrArg List.length hd
     rw [List.length_append] at this
     have := HL.out.2
     omega
    clear hd h0 hl
    obtain ⟨r, hr, r0, r1⟩ : ∃ r : Int, ((gk % 10 : Nat) : Int) = r ∧ 0 ≤ r ∧ r < 10 := ⟨_, rfl, by omega, by omega⟩
    rw [hr] at S
    have CV := fun v => conv_byte1 v (UInt8.ofNat (48 + gk % 10)) (48 + r) (by rw [digit_nat]; omega)
    have hdg := dg_pos HX.out.2.1
    generalize UInt8.ofNat (48 + gk % 10) = d at CV hdg
    have HG : Hid (dg gk = dg (gk / 10) ++ [d]) := hdg
    clear hr hdg
    go_wp2_with (go_at_call 72; (with_reducible refine Calls.mono S ?_); rintro e w2 ⟨a4, c4, rfl, o4⟩)
    obtain ⟨x1, x2, x3⟩ := HX.out
    go_roundg (gk / 10)
    case measure => omega
    case rel => exact ⟨a4, c4, d :: l, rfl, by rw [ByteArray.mk_append_mk]; simp, (o4.outer o3.below).alloc _, by rw [← x1, HG.out]; simp, Nat.le_trans (nl_mono (by omega)) x3⟩
end
section
open Go.RowKit
theorem ref_iprint {s : Bool} {a : Option Addr} {n c : Nat} {zs : List Int} {w : World} (h : IsWords w (.slice a n c) zs) (hz : Wd zs) (hn : n ≤ 1000000) (z : Int) (hv : iv s (val zs) = z) :
  Calls Tryz.prog 50 #[.agg #[.bool s, .slice a n c]] w fun e w' => e = .returned (.string ⟨(decI z).toArray⟩) ∧ Below w.heap.size w w' := by
 have F1 := fun v (hb : Below w.heap.size w v) => ref_ifix (s := s) (h.below hb) hz (by omega) z hv
 have l1 : nl z.natAbs ≤ n := by rw [← hv, iv_abs]; exact nl_small hz n (by rw [h.len]; omega)
 have P := fun v a1 c1 (p : IsWords v (.slice a1 (nl z.natAbs) c1) (natOf z.natAbs)) => ref_print p (wd_natOf _) (by omega) _ (val_natOf _)
 have ld := decOf_words (n := n + 1) (A := z.natAbs) (by omega) (by omega)
 have hsz : (1 : Int) + (decOf z.natAbs).length ≤ 9223372036854775807 := by omega
 obtain ⟨b1, bV, hs⟩ := boxes1 w #[.bool s, .slice a n c] 83
 unfold AnsI at F1
 clear h hz hn hv l1 ld
 by_cases h0 : z < 0
 case' pos =>
  have e : decI z = 45 :: decOf z.natAbs := if_pos h0
  rw [decide_eq_true h0] at F1
  have HA : Hid ((⟨#[45]⟩ ++ ⟨(decOf z.natAbs).toArray⟩ : ByteArray) = ⟨(45 :: decOf z.natAbs).toArray⟩) := by
   show _ = _
   rw [ByteArray.mk_append_mk]; simp
 case' neg =>
  have e : decI z = decOf z.natAbs := if_neg h0
  rw [decide_eq_false h0] at F1
 all_goals
  rw [e]
  clear e
  generalize decOf z.natAbs = l at *
  generalize z.natAbs = N at *
  go_enter Tryz.func50, Tryz.ntmps50
  go_wp2_with (first
   | (go_at_call 79; (with_reducible refine Calls.mono (F1 _ bV) ?_); rintro e w1 ⟨a1, c1, rfl, o1⟩; have d1 := fun o => (below_more bV o1.below).alloc (below_more bV o1.below).size o; have p1 := fun o => (o1.alloc o).words)
   | (go_at_call 44; (with_reducible refine Calls.mono (P _ _ _ (p1 _)) ?_); rintro e w2 ⟨rfl, b2⟩))
  go_ret
  first
   | exact ⟨rfl, below_more (d1 _) b2⟩
   | exact ⟨by rw [← HA.out]; rfl, below_more (d1 _) b2⟩
end
section
theorem rv_zero_iff (s : Bool) (A D : Nat) : rv s A D = 0 ↔ A = 0 ∨ D = 0 := by
 rcases Nat.eq_zero_or_pos D with h | h
 ·subst h; simp [rv_den0]
 ·unfold rv
  rw [Rat.mkRat_eq_zero (by omega)]
  have := iv_abs s A
  constructor
  ·intro e; rw [e] at this; simp at this; omega
  ·rintro (e | e)
   ·subst e; unfold iv; cases s <;> rfl
   ·omega
end
section
open Go.RowKit
theorem nl_shift (A k : Nat) : nl (A * 2 ^ k) ≤ nl A + k := by
 refine Nat.le_trans (nl_le (nl A + k) _ ?_) (Nat.le_refl _)
 rw [Nat.pow_add]
 exact Nat.mul_lt_mul_of_lt_of_le (lt_nl A) (Nat.pow_le_pow_left (by omega) k) (Nat.pow_pos (by omega))
/-- N is the number of bits that counts. -/
theorem ref_tshift (a : Option Addr) (m c : Nat) (zs : List Int) (s : Int) (w : World) (h : IsWords w (.slice a m c) zs) (hz : Wd zs) (hm : m ≤ 1000000) (N : Int) (hN : s ≤ 0 ∧ N = 0 ∨ 0 ≤ s ∧ s ≤ 100000 ∧ N = s) :
  Calls Tryz.prog 168 #[.slice a m c, .int .i64 s] w (Ans w (val zs * 2 ^ N.toNat)) := by
 have T := ref_trim a m c zs w h hz (by omega)
 have hL := (h.low hz).2.2
 clear h hz
 generalize val zs = A at *
 obtain ⟨E, hE1, hE2⟩ : ∃ E : Nat, (E : Int) ≤ N ∧ N ≤ E := ⟨N.toNat, by omega, by omega⟩
 have HE : Hid (N.toNat = E) := (by omega : N.toNat = E)
 have hs : s ≤ E ∧ (E = 0 ∨ (E : Int) ≤ s) ∧ E ≤ 100000 := by omega
 obtain ⟨hs1, hs2, hs3⟩ := hs
 rw [HE.out]
 clear hN hE1 hE2 HE
 go_enter Tryz.func168, Tryz.ntmps168
 go_wp2_with (first
  | (go_at_call 71; (with_reducible refine Calls.mono T ?_); rintro e w1 ⟨a1, c1, rfl, o1⟩))
 clear T
 go_loopw [5, 6] (fun s i v => ∃ (k : Nat) (oa : Option Addr) (ol oc : Nat) (P : List Int), k ≤ E ∧ i = .int .i64 k ∧ s = .slice oa ol oc ∧ Own w v (.slice oa ol oc) ol P ∧ ol = nl (A * 2 ^ k) ∧ P = natOf (A * 2 ^ k)) (fun _ i _ => E - (intOf i).toNat)
 case atStart => exact ⟨0, a1, _, c1, _, by omega, rfl, rfl, o1, by simp, by simp⟩
 case round =>
  obtain ⟨k, oa, ol, oc, P, hk, rfl, rfl, o, hol, rfl⟩ := hrel
  clear o1
  by_cases hlt : k < E
  ·by_cases hA : A = 0
   ·have h0 : ol = 0 := by rw [hol, hA]; simp [nl_zero]
    have HE : Hid (A * 2 ^ k = A * 2 ^ E) := by show _ = _; rw [hA]; simp
    rw [HE.out] at o hol
    have HO : Hid (ol = nl (A * 2 ^ E)) := hol
    clear hol hA
    have h1 : (k : Int) < s := by omega
    have h3 : (k : Int) < 100000 := by omega
    subst h0
    clear hs3 hs2 hs1 hlt hk hL
    go_wp2
    go_ret
    have e := HO.out
    exact ⟨oa, oc, by rw [← e]; rfl, by rw [← e]; exact o⟩
   ·have h0 : 0 < ol := by rw [hol]; exact nl_pos (Nat.mul_pos (by omega) (Nat.pow_pos (by omega)))
    have W1 := nl_shift A k
    have M1 := ref_one _ _ _ _ 2 0 _ o.words (wd_natOf (A * 2 ^ k)) (by rw [hol]; omega) (by omega) (by omega) (by omega) (by omega)
    rw [val_natOf, show A * 2 ^ k * (2 : Int).toNat + (0 : Int).toNat = A * 2 ^ (k + 1) by rw [Nat.pow_succ, ← Nat.mul_assoc]; rfl] at M1
    have HO : Hid (ol = nl (A * 2 ^ k)) := hol
    have h1 : (k : Int) < s := by omega
    have h2 : ol ≤ 2000000 := by omega
    have h3 : (k : Int) < 100000 := by omega
    have h4 : k + 1 ≤ E := hlt
    clear hol hA W1 hs3 hs2 hs1 hk hL
    go_wp2_with (first
     | (go_at_call 132; (with_reducible refine Calls.mono M1 ?_); rintro e w3 ⟨a3, c3, rfl, o3⟩))
    go_roundw
    case rel => exact ⟨k + 1, a3, _, c3, _, by omega, by go_num, rfl, o3.outer o.below, rfl, rfl⟩
    case measure => simp [intOf]; omega
  ·obtain rfl : k = E := by omega
   subst hol
   have h1 : ¬ (k : Int) < s := by omega
   go_wp2
   go_ret
   exact ⟨_, _, rfl, o⟩
end
end Go.Proofs.YtaeladkcmpdkhaaGreatDoor
