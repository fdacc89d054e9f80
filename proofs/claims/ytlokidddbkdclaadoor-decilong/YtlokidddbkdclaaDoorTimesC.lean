/-
  Contracts of package times's functions tooLong and Pow, for every list of words and every exponent: the list of the power, or that there is none; memory that was there stays, and what is answered is the call's own.
-/
import Derived.Test.YtlokidddbkdclaaDoorTimesB
import Derived.Test.YtlokidddbkdclaaDoorBitsLen
import Derived.Test.YtlokidddbkdclaaDoorNatSub
namespace Go.Proofs.YtlokidddbkdclaaDoor
open Go.RowKit

/-- How many words a power has. -/
theorem nl_pow {A n k : Nat} (h : A ≤ 1 ∨ nl A * n ≤ 4096) (hk : k ≤ n) : nl (A ^ k) ≤ 4096 := by
  rcases h with h | h
  · have : A ^ k ≤ 1 := by
      rcases Nat.le_one_iff_eq_zero_or_eq_one.1 h with rfl | rfl
      · rcases Nat.eq_zero_or_pos k with rfl | h0
        · simp
        · rw [Nat.zero_pow h0]; omega
      · simp
    exact Nat.le_trans (nl_le 1 _ (by omega)) (by omega)
  · have h1 : A ^ k ≤ (4294967296 ^ nl A) ^ k := Nat.pow_le_pow_left (Nat.le_of_lt (lt_nl A)) k
    rcases Nat.eq_zero_or_pos k with rfl | h0
    · simp only [Nat.pow_zero]
      exact Nat.le_trans (nl_le 1 _ (by omega)) (by omega)
    · have h2 : A ^ k < (4294967296 ^ nl A) ^ k := Nat.pow_lt_pow_left (lt_nl A) (by omega)
      rw [← Nat.pow_mul] at h2
      have h3 : nl A * k ≤ nl A * n := Nat.mul_le_mul_left _ hk
      exact Nat.le_trans (nl_le _ _ h2) (by omega)

theorem ret_tb {a : Option Addr} {n c : Nat} {r s : Bool} (h : r = s) : Ending.returned (.tuple #[.slice a n c, .bool r]) = .returned (.tuple #[.slice a n c, .bool s]) := by rw [h]

theorem one_of (w : World) : Calls Tryd.prog 39 #[.int .u64 1] w (Ans w 1) := nat_of 1 w (by omega) (by omega)
theorem wd_nat_one : Wd (natOf 1) := wd_natOf 1

set_option maxHeartbeats 1000000 in
theorem times_tooLong (a : Option Addr) (L c : Nat) (ps : List Int) (n : Int) (w : World) (h : IsWords w (.slice a L c) ps) (hp : Wd ps) (hL : L ≤ 1000000000000) (r : Bool) (hr : decide (1 < val ps ∧ (4096 / L : Int) < n) = r) :
    Calls Tryd.prog 38 #[.slice a L c, .int .i64 n] w fun e w' => e = .returned (.bool r) ∧ Below w.heap.size w w' := by
  have C := fun v a1 c1 (p : IsWords v (.slice a L c) ps) (q : IsWords v (.slice a1 (nl 1) c1) (natOf 1)) => nat_cmp a L c ps a1 (nl 1) c1 (natOf 1) v p hp q wd_nat_one
  rw [val_natOf] at C
  by_cases h1 : 1 < val ps
  · rw [sgn_gt (by omega)] at C
    have l0 : 0 < L := by
      rcases Nat.eq_zero_or_pos L with h0 | h0
      · have e := h.len
        rw [h0] at e
        rw [List.eq_nil_of_length_eq_zero e] at h1
        simp [val] at h1
      · exact h0
    have HR : Hid (decide ((4096 / L : Int) < n) = r) := by
      show _ = _
      rw [← hr]; simp [h1]
    clear hr h1
    go_enter Tryd.func38, Tryd.ntmps38
    go_wp2_with (first
      | (go_at_call 39; (with_reducible refine Calls.mono (one_of _) ?_); rintro e w1 ⟨a1, c1, rfl, o1⟩; have p1 := h.below o1.below)
      | (go_at_call 16; (with_reducible refine Calls.mono (C _ _ _ p1 o1.words) ?_); rintro e w2 ⟨rfl, b2⟩; have bb := below_more o1.below b2))
    go_ret
    exact ⟨ret_bool HR.out, bb⟩
  · have hs : sgn (val ps) (1 : Nat) ≤ 0 := by
      rcases Nat.lt_or_ge (val ps) 1 with h0 | h0
      · rw [sgn_lt (by omega)]; omega
      · rw [sgn_eq (by omega)]; omega
    generalize sgn (val ps) (1 : Nat) = sg at C hs
    have HR : r = false := by rw [← hr]; simp [h1]
    subst HR
    clear hr h1
    go_enter Tryd.func38, Tryd.ntmps38
    go_wp2_with (first
      | (go_at_call 39; (with_reducible refine Calls.mono (one_of _) ?_); rintro e w1 ⟨a1, c1, rfl, o1⟩; have p1 := h.below o1.below)
      | (go_at_call 16; (with_reducible refine Calls.mono (C _ _ _ p1 o1.words) ?_); rintro e w2 ⟨rfl, b2⟩; have bb := below_more o1.below b2))
    go_ret
    exact ⟨ret_bool (by simp), bb⟩

set_option maxHeartbeats 1000000 in
theorem times_pow_no (a : Option Addr) (m c : Nat) (zs : List Int) (n : Int) (w : World) (h : IsWords w (.slice a m c) zs) (hz : Wd zs) (hm : m ≤ 1000000000000) (hn : n < 0 ∨ 1 < val zs ∧ (4096 / nl (val zs) : Int) < n) :
    Calls Tryd.prog 19 #[.slice a m c, .int .i64 n] w fun e w' => e = .returned (.tuple #[.slice none 0 0, .bool false]) ∧ Below w.heap.size w w' := by
  have R1 := times_right a m c zs w h hz
  by_cases h0 : n < 0
  · clear h hz hn
    go_enter Tryd.func19, Tryd.ntmps19
    go_wp2_with (first
      | (go_at_call 37; with_reducible refine Calls.mono R1 ?_; rintro e w1 ⟨rfl, rfl⟩))
    go_ret2
    exact ⟨rfl, Below.refl _ _⟩
  · have b1 := (h.low hz).2.2
    have T := fun r hr => times_tooLong a _ c _ n w (h.right hz) (wd_natOf _) (by omega) r hr
    rw [val_natOf] at T
    have T1 := T true (by simpa using hn.resolve_left h0)
    clear T h hz hn
    go_enter Tryd.func19, Tryd.ntmps19
    go_wp2_with (first
      | (go_at_call 37; with_reducible refine Calls.mono R1 ?_; rintro e w1 ⟨rfl, rfl⟩)
      | (go_at_call 38; with_reducible refine Calls.mono T1 ?_; rintro e w1 ⟨rfl, bb⟩))
    go_ret2
    exact ⟨rfl, bb⟩

theorem and_one (x : Nat) (hx : x < 9223372036854775808) : bits BinOp.and IntKind.i64 (x : Int) 1 = ((x % 2 : Nat) : Int) := by
  have h1 : (BitVec.ofInt 64 (x : Int)).toNat = x := by
    rw [BitVec.ofInt_natCast, BitVec.toNat_ofNat]; exact Nat.mod_eq_of_lt (by omega)
  have h2 : (BitVec.ofInt 64 (1 : Int)).toNat = 1 := by decide
  show IntKind.i64.wrap ((BitVec.ofInt 64 (x : Int) &&& BitVec.ofInt 64 (1 : Int)).toNat : Int) = _
  rw [BitVec.toNat_and, h1, h2, IntKind.wrap_i64, Nat.and_one_is_mod]
  omega

/-- One bit of the exponent. -/
theorem pow_step (N t : Nat) : N / 2 ^ t = 2 * (N / 2 ^ (t + 1)) + N / 2 ^ t % 2 := by
  rw [Nat.pow_succ, ← Nat.div_div_eq_div_mul]; omega
theorem pow_sq (A q : Nat) : A ^ q * A ^ q = A ^ (2 * q) := by rw [← Nat.pow_add]; congr 1; omega

set_option maxHeartbeats 2000000 in
theorem times_pow (a : Option Addr) (m c : Nat) (zs : List Int) (n : Int) (w : World) (h : IsWords w (.slice a m c) zs) (hz : Wd zs) (hm : m ≤ 1000000000000) (hn : 0 ≤ n) (hn1 : n < 9223372036854775808) (hok : val zs ≤ 1 ∨ nl (val zs) * n.toNat ≤ 4096) :
    Calls Tryd.prog 19 #[.slice a m c, .int .i64 n] w (AnsOk w (val zs ^ n.toNat)) := by
  have R1 := times_right a m c zs w h hz
  have b1 := (h.low hz).2.2
  have T := fun r hr => times_tooLong a _ c _ n w (h.right hz) (wd_natOf _) (by omega) r hr
  rw [val_natOf] at T
  have T1 := T false (by
    simp only [decide_eq_false_iff_not]
    rintro ⟨g1, g2⟩
    rcases hok with h0 | h0
    · omega
    · have hp := nl_pos (A := val zs) (by omega)
      have : n.toNat ≤ 4096 / nl (val zs) := (Nat.le_div_iff_mul_le hp).2 (by rw [Nat.mul_comm]; exact h0)
      have e : ((4096 / nl (val zs) : Nat) : Int) = 4096 / (nl (val zs) : Int) := by simp
      omega)
  have S1 := h.right hz
  have B := fun v => bits_len n v hn (by omega)
  have hb := Lib.bitLen_le n.toNat 63 (by omega) (by omega)
  have HB : Hid (n.toNat < 2 ^ Lib.bitLen n.toNat) := by
    show _ < _
    rw [nbits_bitLen _ (by omega)]; exact lt_nbits _
  have NW := fun k hk => nl_pow (A := val zs) (n := n.toNat) (k := k) hok hk
  clear T h hz hok
  generalize val zs = A at *
  generalize hN : n.toNat = N at *
  have HN : Hid (n = (N : Int)) := (by omega : n = (N : Int))
  clear hN
  generalize Lib.bitLen N = K at B hb HB
  go_enter Tryd.func19, Tryd.ntmps19
  go_wp2_with (first
    | (go_at_call 37; with_reducible refine Calls.mono R1 ?_; rintro e w1 ⟨rfl, rfl⟩)
    | (go_at_call 38; with_reducible refine Calls.mono T1 ?_; rintro e w2 ⟨rfl, bb⟩)
    | (go_at_call 39; (with_reducible refine Calls.mono (one_of _) ?_); rintro e w3 ⟨a3, c3, rfl, o3⟩)
    | (go_at_call 40; with_reducible refine Calls.mono (B _) ?_; rintro e w4 ⟨rfl, rfl⟩))
  clear R1 T1 B
  go_loopw [6, 7] (fun p i v => ∃ (k : Nat) (pa : Option Addr) (pl pc : Nat) (P : List Int), k ≤ 63 ∧ i = .int .i64 ((k : Int) - 1) ∧ p = .slice pa pl pc ∧ Own w v (.slice pa pl pc) pl P ∧ pl = nl (A ^ (N / 2 ^ k)) ∧ P = natOf (A ^ (N / 2 ^ k))) (fun _ i _ => (intOf i + 1).toNat)
  case atStart => exact ⟨K, a3, _, c3, _, hb, rfl, rfl, o3.outer bb, by rw [Nat.div_eq_of_lt HB.out, Nat.pow_zero], by rw [Nat.div_eq_of_lt HB.out, Nat.pow_zero]⟩
  case round =>
    obtain ⟨k, pa, pl, pc, P, hk, rfl, rfl, o, hpl, hP⟩ := hrel
    rcases Nat.eq_zero_or_pos k with hk0 | hk0
    · subst hk0
      rw [Nat.pow_zero, Nat.div_one] at hpl hP
      subst hpl hP
      rw [show ((0 : Nat) : Int) - 1 = -1 from rfl]
      go_wp2
      go_ret2
      exact ⟨_, _, rfl, o⟩
    · obtain ⟨t, rfl⟩ : ∃ t, k = t + 1 := ⟨k - 1, by omega⟩
      rw [show ((t + 1 : Nat) : Int) - 1 = t by omega]
      have W1 := NW (N / 2 ^ (t + 1)) (Nat.div_le_self _ _)
      have W2 := NW (2 * (N / 2 ^ (t + 1))) (by have := pow_step N t; have := Nat.div_le_self N (2 ^ t); omega)
      subst hP
      have M1 := fun v (p : IsWords v (.slice pa pl pc) _) => times_mul pa pl pc _ pa pl pc _ v p (wd_natOf (A ^ (N / 2 ^ (t + 1)))) p (wd_natOf (A ^ (N / 2 ^ (t + 1)))) (by rw [hpl]; omega) (by rw [hpl]; omega)
      rw [val_natOf, pow_sq] at M1
      have HP : Hid (pl = nl (A ^ (N / 2 ^ (t + 1)))) := hpl
      clear hpl
      have EB : bits BinOp.and IntKind.i64 (n / 2 ^ t) 1 = ((N / 2 ^ t % 2 : Nat) : Int) := by
        rw [HN.out, ← and_one _ (Nat.lt_of_le_of_lt (Nat.div_le_self N (2 ^ t)) (by have := HN.out; omega))]
        congr 1
      have PS := pow_step N t
      rcases Nat.mod_two_eq_zero_or_one (N / 2 ^ t) with hb0 | hb0
      · have EB' : (bits BinOp.and IntKind.i64 (n / 2 ^ t) 1 == 1) = false := by rw [EB, hb0]; rfl
        have HE : Hid (N / 2 ^ t = 2 * (N / 2 ^ (t + 1))) := (by omega : N / 2 ^ t = 2 * (N / 2 ^ (t + 1)))
        clear EB PS hb0 NW
        go_wp2_with (first
          | (go_at_call 21; (with_reducible refine Calls.mono (M1 _ o.words) ?_); rintro e w5 ⟨a5, c5, rfl, o5⟩))
        go_roundw
        case rel => exact ⟨t, a5, _, c5, _, by omega, rfl, rfl, o5.outer o.below, by rw [HE.out], by rw [HE.out]⟩
        case measure => simp [intOf]
      · have EB' : (bits BinOp.and IntKind.i64 (n / 2 ^ t) 1 == 1) = true := by rw [EB, hb0]; rfl
        have HE : Hid (N / 2 ^ t = 2 * (N / 2 ^ (t + 1)) + 1) := (by omega : N / 2 ^ t = 2 * (N / 2 ^ (t + 1)) + 1)
        have M2 := fun v a5 c5 (p : IsWords v (.slice a5 (nl (A ^ (2 * (N / 2 ^ (t + 1))))) c5) (natOf (A ^ (2 * (N / 2 ^ (t + 1)))))) (q : IsWords v (.slice a (nl A) c) (natOf A)) => times_mul _ _ _ _ _ _ _ _ v p (wd_natOf _) q (wd_natOf _) (by omega) (by omega)
        rw [val_natOf, val_natOf, ← Nat.pow_succ] at M2
        clear EB PS hb0 NW
        go_wp2_with (first
          | (go_at_call 21; (with_reducible refine Calls.mono (M1 _ o.words) ?_); rintro e w5 ⟨a5, c5, rfl, o5⟩; have p5 := o5.outer o.below; have q5 := S1.below p5.below)
          | (go_at_call 21; (with_reducible refine Calls.mono (M2 _ _ _ o5.words q5) ?_); rintro e w6 ⟨a6, c6, rfl, o6⟩))
        go_roundw
        case rel => exact ⟨t, a6, _, c6, _, by omega, rfl, rfl, o6.outer p5.below, by rw [HE.out], by rw [HE.out]⟩
        case measure => simp [intOf]
end Go.Proofs.YtlokidddbkdclaaDoor
