/-
  Contracts of the document's own answers of layer 4 (package talwegref04: bit, Div, Small), for every two lists of words: bit by bit, as numbers. Memory that was there stays, and what is answered is the call's own.
-/
import Derived.Test.YtlokidddbkdclaaDoorTimesRef
import Derived.Test.YtlokidddbkdclaaDoorSplitE
import Derived.Deep.LoopGhost
namespace Go.Proofs.YtlokidddbkdclaaDoor
open Go.RowKit

theorem and_one_w (x : Nat) (h : x < 4294967296) : bits BinOp.and IntKind.u32 (x : Int) 1 = ((x % 2 : Nat) : Int) := by
  have h1 : (BitVec.ofInt 32 (x : Int)).toNat = x := by
    rw [BitVec.ofInt_natCast, BitVec.toNat_ofNat]; exact Nat.mod_eq_of_lt h
  have h2 : (BitVec.ofInt 32 (1 : Int)).toNat = 1 := by decide
  show IntKind.u32.wrap ((BitVec.ofInt 32 (x : Int) &&& BitVec.ofInt 32 (1 : Int)).toNat : Int) = _
  rw [BitVec.toNat_and, h1, h2, IntKind.wrap_u32, Nat.and_one_is_mod]
  omega

/-- A number's bit is its word's. -/
theorem bit_val (zs : List Int) (hz : Wd zs) (j r : Nat) (hr : r < 32) : val zs / 2 ^ (32 * j + r) % 2 = (zs.getD j 0).toNat / 2 ^ r % 2 := by
  have h1 := val_split zs j
  have h2 := val_take_lt zs hz j
  have h3 := val_drop zs j
  have e1 : val zs / 4294967296 ^ j = val (zs.drop j) := by
    rw [h1, Nat.add_comm, Nat.mul_add_div (Nat.pow_pos (by omega)), Nat.div_eq_of_lt h2, Nat.add_zero]
  have e2 : 4294967296 = 2 ^ r * 2 ^ (32 - r) := by rw [← Nat.pow_add, show r + (32 - r) = 32 by omega]
  have e3 : 2 ^ (32 - r) = 2 * 2 ^ (31 - r) := by rw [show 32 - r = (31 - r) + 1 by omega, Nat.pow_succ, Nat.mul_comm]
  rw [Nat.pow_add, ← pow_word, ← Nat.div_div_eq_div_mul, e1, h3]
  generalize (zs.getD j 0).toNat = z
  generalize val (zs.drop (j + 1)) = t
  rw [e2, e3, Nat.add_comm, Nat.mul_assoc, Nat.mul_add_div (Nat.pow_pos (by omega)), Nat.mul_assoc]
  omega

theorem ref_bit (a : Option Addr) (n c : Nat) (zs : List Int) (w : World) (h : IsWords w (.slice a n c) zs) (hz : Wd zs) (hn : n ≤ 1000000000) (i : Nat) (hi : i < 32 * n) (B : Int) (hB : B = ((val zs / 2 ^ i % 2 : Nat) : Int)) :
    Calls Tryd.prog 61 #[.slice a n c, .int .i64 i] w fun e w' => e = .returned (.int .u32 B) ∧ w = w' := by
  obtain ⟨j, hj⟩ : ∃ j, i / 32 = j := ⟨_, rfl⟩
  obtain ⟨r, hr⟩ : ∃ r, i % 32 = r := ⟨_, rfl⟩
  have q1 : (i : Int).tdiv 32 = j := by rw [Int.tdiv_eq_ediv_of_nonneg (by omega)]; omega
  have q2 : (i : Int) / 32 = j := by omega
  have r1 : (i : Int).tmod 32 = r := by rw [Int.tmod_eq_emod_of_nonneg (by omega)]; omega
  have r2 : (i : Int) % 32 = r := by omega
  have j1 : j < n := by omega
  have r3 : r < 32 := by omega
  obtain ⟨z0, z1⟩ := wd_getD hz j
  have BV := bit_val zs hz j r r3
  rw [show 32 * j + r = i by omega] at BV
  rw [BV] at hB
  rcases h.reads.1.2 with h0 | ⟨b, off, rfl, hcz⟩
  · omega
  have hck := hcz j j1
  generalize zs.getD j 0 = z at hck z0 z1 hB
  have HB : Hid (bits BinOp.and IntKind.u32 (z / 2 ^ r) 1 = B) := by
    show _ = _
    have e : z / 2 ^ r = ((z.toNat / 2 ^ r : Nat) : Int) := by
      rw [Int.natCast_ediv, Int.toNat_of_nonneg z0]; simp
    rw [e, and_one_w _ (Nat.lt_of_le_of_lt (Nat.div_le_self _ _) (by omega)), hB]
  clear hcz h hB BV hj hr
  go_enter Tryd.func61, Tryd.ntmps61
  go_wp2
  go_ret
  exact ⟨ret_int HB.out, rfl⟩

theorem ref_one' {a : Option Addr} {n c : Nat} {zs : List Int} {x y : Int} {w : World} (h : IsWords w (.slice a n c) zs) (hz : Wd zs) (hn : n ≤ 1000000000) (x0 : 0 ≤ x) (x1 : x < 4294967296) (y0 : 0 ≤ y) (y1 : y < 4294967296) (N : Nat) (hN : val zs * x.toNat + y.toNat = N) :
    Calls Tryd.prog 25 #[.slice a n c, .int .u32 x, .int .u32 y] w (Ans w N) := by
  subst hN; exact ref_one a n c zs x y w h hz hn x0 x1 y0 y1

theorem ref_div_no (a : Option Addr) (n c : Nat) (b : Option Addr) (m d : Nat) (ys : List Int) (w : World) (g : IsWords w (.slice b m d) ys) (gz : Wd ys) (hm : m ≤ 1000000000) (h0 : val ys = 0) :
    Calls Tryd.prog 47 #[.slice a n c, .slice b m d] w fun e w' => e = .returned (.tuple #[.slice none 0 0, .slice none 0 0, .bool false]) ∧ Below w.heap.size w w' := by
  have T := ref_trim b m d ys w g gz (by omega)
  unfold Ans at T
  rw [h0, nl_zero] at T
  clear g gz h0
  go_enter Tryd.func47, Tryd.ntmps47
  go_wp2_with (first
    | (go_at_call 26; (with_reducible refine Calls.mono T ?_); rintro e w1 ⟨a1, c1, rfl, o1⟩))
  go_ret3
  exact ⟨rfl, o1.below⟩

theorem nl_few2 {x A : Nat} (h : x ≤ 4 * A) : nl x ≤ nl A + 1 := by
  refine nl_le _ _ ?_
  have := lt_nl A
  rw [Nat.pow_succ]
  generalize 4294967296 ^ nl A = p at *
  omega

theorem bit_step (A k : Nat) : A / 2 ^ k = 2 * (A / 2 ^ (k + 1)) + A / 2 ^ k % 2 := by
  rw [Nat.pow_succ, ← Nat.div_div_eq_div_mul]; omega

set_option maxHeartbeats 4000000 in
theorem ref_div (a : Option Addr) (n c : Nat) (zs : List Int) (b : Option Addr) (m d : Nat) (ys : List Int) (w : World) (h : IsWords w (.slice a n c) zs) (hz : Wd zs) (g : IsWords w (.slice b m d) ys) (gz : Wd ys) (hn : n ≤ 100000000) (hm : m ≤ 100000000) (hpos : 0 < val ys) :
    Calls Tryd.prog 47 #[.slice a n c, .slice b m d] w (AnsDiv w (val zs / val ys) (val zs % val ys)) := by
  have T := ref_trim b m d ys w g gz (by omega)
  have b2 := (g.low gz).2.2
  have b1 := nl_val_le zs hz
  rw [h.len] at b1
  have hlt := val_lt zs hz
  rw [h.len, pow_word] at hlt
  have HLT : Hid (val zs < 2 ^ (32 * n)) := hlt
  have BI := fun w' (q : IsWords w' (.slice a n c) zs) i hi B hB => ref_bit a n c zs w' q hz (by omega) i hi B hB
  clear hlt hz g gz
  generalize val zs = A at *
  generalize val ys = D at *
  have hne : nl D ≠ 0 := fun e => by have := nl_eq_zero e; omega
  have HP : Hid (0 < D) := hpos
  clear hpos
  obtain ⟨N, hN⟩ : ∃ N, nl D = N := ⟨_, rfl⟩
  unfold Ans at T
  rw [hN] at T hne b2
  have HND : Hid (nl D = N) := hN
  have hN0 : ((N : Int) == 0) = false := by simp; omega
  clear hN
  go_enter Tryd.func47, Tryd.ntmps47
  go_wp2_with (first
    | (go_at_call 26; (with_reducible refine Calls.mono T ?_); rintro e w1 ⟨a1, c1, rfl, o1⟩))
  clear T
  go_loopg [8, 9, 10] (32 * n) (fun k q r i v => ∃ (qa : Option Addr) (qn qc : Nat) (ra : Option Addr) (rn rc : Nat) (Q R : Nat), k ≤ 32 * n ∧ i = .int .i64 ((k : Int) - 1) ∧ q = .slice qa qn qc ∧ r = .slice ra rn rc ∧ qn = nl Q ∧ rn = nl R ∧ Own w1 v (.slice qa qn qc) qn (natOf Q) ∧ Own w1 v (.slice ra rn rc) rn (natOf R) ∧ R < D ∧ A / 2 ^ k = Q * D + R)
  case atStart =>
    refine ⟨none, 0, 0, none, 0, 0, 0, 0, by omega, by go_num, rfl, rfl, nl_zero.symm, nl_zero.symm, ?_, ?_, HP.out, ?_⟩
    · rw [natOf_zero]; exact Own.nil (Below.refl _ _)
    · rw [natOf_zero]; exact Own.nil (Below.refl _ _)
    · rw [Nat.div_eq_of_lt HLT.out]; omega
  case round =>
    obtain ⟨k, rfl⟩ : ∃ k, k = gk := ⟨_, rfl⟩
    obtain ⟨qa, qn, qc, ra, rn, rc, Q, R, hk, rfl, rfl, rfl, hqn, hrn, oQ, oR, hR, hI⟩ := hrel
    have HI : Hid (A / 2 ^ k = Q * D + R) := hI
    have HQN : Hid (qn = nl Q) := hqn
    have HRN : Hid (rn = nl R) := hrn
    have HRD : Hid (R < D) := hR
    have hQA : Q ≤ A := by
      have h1 : A / 2 ^ k ≤ A := Nat.div_le_self _ _
      have h2 : Q * 1 ≤ Q * D := Nat.mul_le_mul_left _ HP.out
      omega
    have qn1 : qn ≤ n := by rw [hqn]; exact Nat.le_trans (nl_mono hQA) b1
    have rn1 : rn ≤ m := by rw [hrn]; exact Nat.le_trans (nl_mono (Nat.le_of_lt hR)) (by rw [HND.out]; exact b2)
    clear hI hqn hrn hR hQA
    rcases Nat.eq_zero_or_pos k with hk0 | hk0
    · subst hk0
      rw [show ((0 : Nat) : Int) - 1 = -1 from rfl]
      have HS : A = Q * D + R := by have := HI.out; simpa using this
      have e1 : Q = A / D := by
        rw [HS, Nat.mul_comm, Nat.mul_add_div HP.out, Nat.div_eq_of_lt HRD.out, Nat.add_zero]
      have e2 : R = A % D := by
        rw [HS, Nat.mul_comm, Nat.mul_add_mod, Nat.mod_eq_of_lt HRD.out]
      have p1 := oQ.outer o1.below
      have p2 := oR.outer o1.below
      rw [e1] at HQN p1
      rw [e2] at HRN p2
      clear HS e1 e2 HI HRD oQ oR h BI
      go_wp2
      go_ret3
      have e3 := HQN.out
      have e4 := HRN.out
      subst e3 e4
      exact ⟨_, _, _, _, rfl, p1, p2⟩
    · obtain ⟨t, rfl⟩ : ∃ t, k = t + 1 := ⟨k - 1, by omega⟩
      rw [show ((t + 1 : Nat) : Int) - 1 = t by omega]
      have BS := bit_step A t
      have hbit : A / 2 ^ t % 2 < 2 := Nat.mod_lt _ (by omega)
      obtain ⟨B, hB⟩ : ∃ B : Nat, B = A / 2 ^ t % 2 := ⟨_, rfl⟩
      have BI2 := fun w' q => BI w' q t (by omega) (B : Int) (by rw [hB])
      rw [← hB] at BS hbit
      rw [HI.out] at BS
      have HBS : Hid (A / 2 ^ t = 2 * (Q * D + R) + B) := BS
      clear BS hB BI HI
      have O1 := ref_one' oQ.words (wd_natOf _) (x := 2) (y := 0) (by omega) (by omega) (by omega) (by omega) (by omega) (2 * Q) (by rw [val_natOf, show (2 : Int).toNat = 2 from rfl, show (0 : Int).toNat = 0 from rfl]; omega)
      have O2 := fun w' (q : IsWords w' (.slice ra rn rc) (natOf R)) => ref_one' q (wd_natOf _) (x := 2) (y := B) (by omega) (by omega) (by omega) (by omega) (by omega) (2 * R + B) (by rw [val_natOf, show (2 : Int).toNat = 2 from rfl, Int.toNat_natCast]; omega)
      have hq2 : nl (2 * Q) ≤ qn + 1 := by
        have := nl_few2 (x := 2 * Q) (A := Q) (by omega)
        rw [HQN.out]; exact this
      have hr2 : nl (2 * R + B) ≤ m + 1 := by
        have h1 := HRD.out
        have := nl_few2 (x := 2 * R + B) (A := D) (by omega)
        rw [HND.out] at this
        omega
      have oD := fun v (bb : Below w1.heap.size w1 v) => o1.more bb
      have CM := fun w' a3 c3 (q1 : IsWords w' (.slice a3 (nl (2 * R + B)) c3) (natOf (2 * R + B))) (q2 : IsWords w' (.slice a1 N c1) (natOf D)) => ref_cmp a3 _ c3 _ a1 N c1 _ w' q1 (wd_natOf _) q2 (wd_natOf _) (by omega) (by omega)
      simp only [val_natOf] at CM
      clear HQN HRN
      rcases Nat.lt_or_ge (2 * R + B) D with hlt | hge
      · rw [sgn_lt (by omega)] at CM
        have HN1 : Hid (2 * R + B < D ∧ A / 2 ^ t = 2 * Q * D + (2 * R + B)) := ⟨hlt, by rw [HBS.out, Nat.mul_add, Nat.mul_assoc]; omega⟩
        clear hlt HBS
        go_wp2_with (first
          | (go_at_call 25; (with_reducible refine Calls.mono O1 ?_); rintro e w2 ⟨a2, c2, rfl, o2⟩; have p2 := oR.more o2.below; have q2 := o2.outer oQ.below)
          | (go_at_call 61; (with_reducible refine Calls.mono (BI2 _ ((h.below o1.below).below p2.below)) ?_); rintro e w3 ⟨rfl, rfl⟩)
          | (go_at_call 25; (with_reducible refine Calls.mono (O2 _ p2.words) ?_); rintro e w3 ⟨a3, c3, rfl, o3⟩; have q3 := q2.more o3.below; have p3 := o3.outer p2.below)
          | (go_at_call 62; (with_reducible refine Calls.mono (CM _ _ _ o3.words (oD _ p3.below).words) ?_); rintro e w4 ⟨rfl, rfl⟩))
        go_roundg t
        case rel => exact ⟨a2, _, c2, a3, _, c3, 2 * Q, 2 * R + B, by omega, rfl, rfl, rfl, rfl, rfl, q3, p3, HN1.out.1, HN1.out.2⟩
        case measure => omega
      · obtain ⟨cs, CM', hcs⟩ : ∃ cs : Int, (∀ w' a3 c3, IsWords w' (.slice a3 (nl (2 * R + B)) c3) (natOf (2 * R + B)) → IsWords w' (.slice a1 N c1) (natOf D) → Calls Tryd.prog 62 #[.slice a3 (nl (2 * R + B)) c3, .slice a1 N c1] w' (fun e w'' => e = .returned (.int .i64 cs) ∧ w' = w'')) ∧ 0 ≤ cs := by
          refine ⟨_, CM, ?_⟩
          rcases Nat.lt_or_ge D (2 * R + B) with h | h
          · rw [sgn_gt (by omega)]; omega
          · rw [sgn_eq (by omega)]; omega
        have HN1 : Hid (2 * R + B - D < D ∧ A / 2 ^ t = (2 * Q + 1) * D + (2 * R + B - D)) := ⟨by have := HRD.out; omega, by rw [HBS.out, Nat.mul_add, Nat.add_mul, Nat.mul_assoc]; omega⟩
        have SB := fun w' a3 c3 (q1 : IsWords w' (.slice a3 (nl (2 * R + B)) c3) (natOf (2 * R + B))) (q2 : IsWords w' (.slice a1 N c1) (natOf D)) => ref_nsub a3 _ c3 _ a1 N c1 _ w' q1 (wd_natOf _) q2 (wd_natOf _) (by omega) (by omega) (by rw [val_natOf, val_natOf]; exact hge)
        simp only [val_natOf] at SB
        have O3 := fun w' a3 c3 (q : IsWords w' (.slice a3 (nl (2 * Q)) c3) (natOf (2 * Q))) => ref_one' q (wd_natOf _) (x := 1) (y := 1) (by omega) (by omega) (by omega) (by omega) (by omega) (2 * Q + 1) (by rw [val_natOf, show (1 : Int).toNat = 1 from rfl]; omega)
        clear hge HBS CM
        go_wp2_with (first
          | (go_at_call 25; (with_reducible refine Calls.mono O1 ?_); rintro e w2 ⟨a2, c2, rfl, o2⟩; have p2 := oR.more o2.below; have q2 := o2.outer oQ.below)
          | (go_at_call 61; (with_reducible refine Calls.mono (BI2 _ ((h.below o1.below).below p2.below)) ?_); rintro e w3 ⟨rfl, rfl⟩)
          | (go_at_call 25; (with_reducible refine Calls.mono (O2 _ p2.words) ?_); rintro e w3 ⟨a3, c3, rfl, o3⟩; have q3 := q2.more o3.below; have p3 := o3.outer p2.below)
          | (go_at_call 62; (with_reducible refine Calls.mono (CM' _ _ _ o3.words (oD _ p3.below).words) ?_); rintro e w4 ⟨rfl, rfl⟩)
          | (go_at_call 63; (with_reducible refine Calls.mono (SB _ _ _ o3.words (oD _ p3.below).words) ?_); rintro e w5 ⟨a5, c5, rfl, o5⟩; have q5 := q3.more o5.below; have p5 := o5.outer p3.below)
          | (go_at_call 25; (with_reducible refine Calls.mono (O3 _ _ _ q5.words) ?_); rintro e w6 ⟨a6, c6, rfl, o6⟩; have p6 := p5.more o6.below; have q6 := o6.outer q5.below))
        go_roundg t
        case rel => exact ⟨a6, _, c6, a5, _, c5, 2 * Q + 1, 2 * R + B - D, by omega, rfl, rfl, rfl, rfl, rfl, q6, p6, HN1.out.1, HN1.out.2⟩
        case measure => omega

theorem natOf_word {x : Nat} (h0 : 0 < x) (h1 : x < 4294967296) : natOf x = [(x : Int)] := by
  rw [natOf_pos (by omega), Nat.mod_eq_of_lt h1, Nat.div_eq_of_lt h1, natOf_zero]

theorem ref_small_no (a : Option Addr) (n c : Nat) (w : World) :
    Calls Tryd.prog 27 #[.slice a n c, .int .u32 0] w fun e w' => e = .returned (.tuple #[.slice none 0 0, .int .u32 0, .bool false]) ∧ Below w.heap.size w w' := by
  have L1 : IsWords (w.alloc (.cells #[.int .u32 0] 36)) (.slice (some ⟨w.heap.size, 0, none⟩) 1 1) [0] := lit_words w [0] 1 rfl (by decide)
  have T := ref_div_no a n c _ _ _ [0] _ L1 (wd_one (by omega) (by omega)) (by omega) (by simp [val])
  go_enter Tryd.func27, Tryd.ntmps27
  go_wp2_with (first
    | (go_at_call 47; (with_reducible refine Calls.mono T ?_); rintro e w1 ⟨rfl, b1⟩))
  go_ret3
  exact ⟨rfl, ((Below.refl _ w).alloc (Nat.le_refl _) _).trans (b1.mono (by simp))⟩

set_option maxHeartbeats 2000000 in
theorem ref_small4 (a : Option Addr) (n c : Nat) (zs : List Int) (d : Int) (w : World) (h : IsWords w (.slice a n c) zs) (hz : Wd zs) (hn : n ≤ 100000000) (d0 : 0 < d) (d1 : d < 4294967296) :
    Calls Tryd.prog 27 #[.slice a n c, .int .u32 d] w (AnsSmall w (val zs / d.toNat) ((val zs % d.toNat : Nat) : Int)) := by
  have hb0 : Below w.heap.size w (w.alloc (.cells #[.int .u32 d] 36)) := (Below.refl _ w).alloc (Nat.le_refl _) _
  have ev : val [d] = d.toNat := by simp [val]
  have L1 : IsWords (w.alloc (.cells #[.int .u32 d] 36)) (.slice (some ⟨w.heap.size, 0, none⟩) 1 1) [d] := lit_words w [d] 1 rfl (by decide)
  have T := ref_div a n c zs _ _ _ [d] _ (h.below hb0) hz L1 (wd_one (by omega) d1) hn (by omega) (by rw [ev]; omega)
  rw [ev] at T
  have hm : val zs % d.toNat < 4294967296 := Nat.lt_of_lt_of_le (Nat.mod_lt _ (by omega)) (by omega)
  have HB : Hid (Below w.heap.size w (w.alloc (.cells #[.int .u32 d] 36))) := hb0
  clear h hz ev hb0 L1
  generalize val zs / d.toNat = Q at *
  generalize val zs % d.toNat = R at *
  unfold AnsDiv at T
  rcases Nat.eq_zero_or_pos R with h0 | h0
  · subst h0
    rw [nl_zero] at T
    go_enter Tryd.func27, Tryd.ntmps27
    go_wp2_with (first
      | (go_at_call 47; (with_reducible refine Calls.mono T ?_); rintro e w1 ⟨a1, c1, a2, c2, rfl, o1, o2⟩))
    go_ret3
    exact ⟨_, _, rfl, o1.outer HB.out⟩
  · have e1 := natOf_word h0 hm
    have e2 : nl R = 1 := by unfold nl; rw [e1]; rfl
    rw [e1, e2] at T
    clear e1 e2
    go_enter Tryd.func27, Tryd.ntmps27
    go_wp2_with (first
      | (go_at_call 47; (with_reducible refine Calls.mono T ?_); rintro e w1 ⟨a1, c1, a2, c2, rfl, o1, o2⟩; obtain ⟨g2, rfl⟩ := o2.at0 (by omega); have hc2 := (o2.cell 0 (by omega)).1; rw [show ([(R : Int)]).getD 0 0 = (R : Int) from rfl] at hc2))
    go_quiet (fail)
    go_wp2
    go_ret3
    refine ⟨_, _, rfl, ?_⟩
    have o3 := o1.outer HB.out
    exact ⟨o3.1, below_drewN o3.2 _⟩
end Go.Proofs.YtlokidddbkdclaaDoor
