/-
  Texts of mine put together in build order: SplitRef, TimesMore, SplitMore, WholeRef, WholeRefB, DeciMath, DeciRef, WholeRefC, WholeWalks, WholeWalksB, WholeWalksC, WholeWalksD, WholeWalksE, WholeWalksF, WholeA, WholeB. Each says at its head what it proves. No conditions of its own.
-/
import Derived.Test.YtokjhpjglpgmcaaDoorPack1
import Derived.Deep.LoopGhost
import Derived.Deep.RegionHeld3
import Derived.Laws.IdiomStrings
import Derived.Deep.DeepCutAuto
import Derived.Laws.EntriesVeiled
/-
  Contracts of the document's own answers of layer 4 (package talwegref04: bit, Div, Small), for every two lists of words: bit by bit, as numbers. Memory that was there stays, and what is answered is the call's own.
-/
namespace Go.Proofs.YtokjhpjglpgmcaaDoor
open Go.RowKit

theorem and_one_w (x : Nat) (h : x < 4294967296) : bits BinOp.and IntKind.u32 (x : Int) 1 = ((x % 2 : Nat) : Int) := by
  have h1 : (BitVec.ofInt 32 (x : Int)).toNat = x := by
    rw [BitVec.ofInt_natCast, BitVec.toNat_ofNat]; exact Nat.mod_eq_of_lt h
  have h2 : (BitVec.ofInt 32 (1 : Int)).toNat = 1 := by decide
  show IntKind.u32.wrap ((BitVec.ofInt 32 (x : Int) &&& BitVec.ofInt 32 (1 : Int)).toNat : Int) = _
  rw [BitVec.toNat_and, h1, h2, IntKind.wrap_u32, Nat.and_one_is_mod]
  omega

/-- A number's bit is its word's. -/
theorem bit_val (zs : List Int) (hz : Wd zs) (j r : Nat) (hr : r < 32) : val zs / 2 ^ (32 * j + r) % 2 = (zs.getD j 0).toNat / 2 ^ r % 2 := by
  have h1 := val_split zs j
  have h2 := val_take_lt zs hz j
  have h3 := val_drop zs j
  have e1 : val zs / 4294967296 ^ j = val (zs.drop j) := by
    rw [h1, Nat.add_comm, Nat.mul_add_div (Nat.pow_pos (by omega)), Nat.div_eq_of_lt h2, Nat.add_zero]
  have e2 : 4294967296 = 2 ^ r * 2 ^ (32 - r) := by rw [← Nat.pow_add, show r + (32 - r) = 32 by omega]
  have e3 : 2 ^ (32 - r) = 2 * 2 ^ (31 - r) := by rw [show 32 - r = (31 - r) + 1 by omega, Nat.pow_succ, Nat.mul_comm]
  rw [Nat.pow_add, ← pow_word, ← Nat.div_div_eq_div_mul, e1, h3]
  generalize (zs.getD j 0).toNat = z
  generalize val (zs.drop (j + 1)) = t
  rw [e2, e3, Nat.add_comm, Nat.mul_assoc, Nat.mul_add_div (Nat.pow_pos (by omega)), Nat.mul_assoc]
  omega

theorem ref_bit (a : Option Addr) (n c : Nat) (zs : List Int) (w : World) (h : IsWords w (.slice a n c) zs) (hz : Wd zs) (hn : n ≤ 1000000000) (i : Nat) (hi : i < 32 * n) (B : Int) (hB : B = ((val zs / 2 ^ i % 2 : Nat) : Int)) :
    Calls Tryd.prog 95 #[.slice a n c, .int .i64 i] w fun e w' => e = .returned (.int .u32 B) ∧ w = w' := by
  obtain ⟨j, hj⟩ : ∃ j, i / 32 = j := ⟨_, rfl⟩
  obtain ⟨r, hr⟩ : ∃ r, i % 32 = r := ⟨_, rfl⟩
  have q1 : (i : Int).tdiv 32 = j := by rw [Int.tdiv_eq_ediv_of_nonneg (by omega)]; omega
  have q2 : (i : Int) / 32 = j := by omega
  have r1 : (i : Int).tmod 32 = r := by rw [Int.tmod_eq_emod_of_nonneg (by omega)]; omega
  have r2 : (i : Int) % 32 = r := by omega
  have j1 : j < n := by omega
  have r3 : r < 32 := by omega
  obtain ⟨z0, z1⟩ := wd_getD hz j
  have BV := bit_val zs hz j r r3
  rw [show 32 * j + r = i by omega] at BV
  rw [BV] at hB
  rcases h.reads.1.2 with h0 | ⟨b, off, rfl, hcz⟩
  · omega
  have hck := hcz j j1
  generalize zs.getD j 0 = z at hck z0 z1 hB
  have HB : Hid (bits BinOp.and IntKind.u32 (z / 2 ^ r) 1 = B) := by
    show _ = _
    have e : z / 2 ^ r = ((z.toNat / 2 ^ r : Nat) : Int) := by
      rw [Int.natCast_ediv, Int.toNat_of_nonneg z0]; simp
    rw [e, and_one_w _ (Nat.lt_of_le_of_lt (Nat.div_le_self _ _) (by omega)), hB]
  clear hcz h hB BV hj hr
  go_enter Tryd.func95, Tryd.ntmps95
  go_wp2
  go_ret
  exact ⟨ret_int HB.out, rfl⟩

theorem ref_one' {a : Option Addr} {n c : Nat} {zs : List Int} {x y : Int} {w : World} (h : IsWords w (.slice a n c) zs) (hz : Wd zs) (hn : n ≤ 1000000000) (x0 : 0 ≤ x) (x1 : x < 4294967296) (y0 : 0 ≤ y) (y1 : y < 4294967296) (N : Nat) (hN : val zs * x.toNat + y.toNat = N) :
    Calls Tryd.prog 62 #[.slice a n c, .int .u32 x, .int .u32 y] w (Ans w N) := by
  subst hN; exact ref_one a n c zs x y w h hz hn x0 x1 y0 y1

theorem ref_div_no (a : Option Addr) (n c : Nat) (b : Option Addr) (m d : Nat) (ys : List Int) (w : World) (g : IsWords w (.slice b m d) ys) (gz : Wd ys) (hm : m ≤ 1000000000) (h0 : val ys = 0) :
    Calls Tryd.prog 85 #[.slice a n c, .slice b m d] w fun e w' => e = .returned (.tuple #[.slice none 0 0, .slice none 0 0, .bool false]) ∧ Below w.heap.size w w' := by
  have T := ref_trim b m d ys w g gz (by omega)
  unfold Ans at T
  rw [h0, nl_zero] at T
  clear g gz h0
  go_enter Tryd.func85, Tryd.ntmps85
  go_wp2_with (first
    | (go_at_call 34; (with_reducible refine Calls.mono T ?_); rintro e w1 ⟨a1, c1, rfl, o1⟩))
  go_ret3
  exact ⟨rfl, o1.below⟩

theorem nl_few2 {x A : Nat} (h : x ≤ 4 * A) : nl x ≤ nl A + 1 := by
  refine nl_le _ _ ?_
  have := lt_nl A
  rw [Nat.pow_succ]
  generalize 4294967296 ^ nl A = p at *
  omega

theorem bit_step (A k : Nat) : A / 2 ^ k = 2 * (A / 2 ^ (k + 1)) + A / 2 ^ k % 2 := by
  rw [Nat.pow_succ, ← Nat.div_div_eq_div_mul]; omega

set_option maxHeartbeats 4000000 in
theorem ref_div (a : Option Addr) (n c : Nat) (zs : List Int) (b : Option Addr) (m d : Nat) (ys : List Int) (w : World) (h : IsWords w (.slice a n c) zs) (hz : Wd zs) (g : IsWords w (.slice b m d) ys) (gz : Wd ys) (hn : n ≤ 100000000) (hm : m ≤ 100000000) (hpos : 0 < val ys) :
    Calls Tryd.prog 85 #[.slice a n c, .slice b m d] w (AnsDiv w (val zs / val ys) (val zs % val ys)) := by
  have T := ref_trim b m d ys w g gz (by omega)
  have b2 := (g.low gz).2.2
  have b1 := nl_val_le zs hz
  rw [h.len] at b1
  have hlt := val_lt zs hz
  rw [h.len, pow_word] at hlt
  have HLT : Hid (val zs < 2 ^ (32 * n)) := hlt
  have BI := fun w' (q : IsWords w' (.slice a n c) zs) i hi B hB => ref_bit a n c zs w' q hz (by omega) i hi B hB
  clear hlt hz g gz
  generalize val zs = A at *
  generalize val ys = D at *
  have hne : nl D ≠ 0 := fun e => by have := nl_eq_zero e; omega
  have HP : Hid (0 < D) := hpos
  clear hpos
  obtain ⟨N, hN⟩ : ∃ N, nl D = N := ⟨_, rfl⟩
  unfold Ans at T
  rw [hN] at T hne b2
  have HND : Hid (nl D = N) := hN
  have hN0 : ((N : Int) == 0) = false := by simp; omega
  clear hN
  go_enter Tryd.func85, Tryd.ntmps85
  go_wp2_with (first
    | (go_at_call 34; (with_reducible refine Calls.mono T ?_); rintro e w1 ⟨a1, c1, rfl, o1⟩))
  clear T
  go_loopg [8, 9, 10] (32 * n) (fun k q r i v => ∃ (qa : Option Addr) (qn qc : Nat) (ra : Option Addr) (rn rc : Nat) (Q R : Nat), k ≤ 32 * n ∧ i = .int .i64 ((k : Int) - 1) ∧ q = .slice qa qn qc ∧ r = .slice ra rn rc ∧ qn = nl Q ∧ rn = nl R ∧ Own w1 v (.slice qa qn qc) qn (natOf Q) ∧ Own w1 v (.slice ra rn rc) rn (natOf R) ∧ R < D ∧ A / 2 ^ k = Q * D + R)
  case atStart =>
    refine ⟨none, 0, 0, none, 0, 0, 0, 0, by omega, by go_num, rfl, rfl, nl_zero.symm, nl_zero.symm, ?_, ?_, HP.out, ?_⟩
    · rw [natOf_zero]; exact Own.nil (Below.refl _ _)
    · rw [natOf_zero]; exact Own.nil (Below.refl _ _)
    · rw [Nat.div_eq_of_lt HLT.out]; omega
  case round =>
    obtain ⟨k, rfl⟩ : ∃ k, k = gk := ⟨_, rfl⟩
    obtain ⟨qa, qn, qc, ra, rn, rc, Q, R, hk, rfl, rfl, rfl, hqn, hrn, oQ, oR, hR, hI⟩ := hrel
    have HI : Hid (A / 2 ^ k = Q * D + R) := hI
    have HQN : Hid (qn = nl Q) := hqn
    have HRN : Hid (rn = nl R) := hrn
    have HRD : Hid (R < D) := hR
    have hQA : Q ≤ A := by
      have h1 : A / 2 ^ k ≤ A := Nat.div_le_self _ _
      have h2 : Q * 1 ≤ Q * D := Nat.mul_le_mul_left _ HP.out
      omega
    have qn1 : qn ≤ n := by rw [hqn]; exact Nat.le_trans (nl_mono hQA) b1
    have rn1 : rn ≤ m := by rw [hrn]; exact Nat.le_trans (nl_mono (Nat.le_of_lt hR)) (by rw [HND.out]; exact b2)
    clear hI hqn hrn hR hQA
    rcases Nat.eq_zero_or_pos k with hk0 | hk0
    · subst hk0
      rw [show ((0 : Nat) : Int) - 1 = -1 from rfl]
      have HS : A = Q * D + R := by have := HI.out; simpa using this
      have e1 : Q = A / D := by
        rw [HS, Nat.mul_comm, Nat.mul_add_div HP.out, Nat.div_eq_of_lt HRD.out, Nat.add_zero]
      have e2 : R = A % D := by
        rw [HS, Nat.mul_comm, Nat.mul_add_mod, Nat.mod_eq_of_lt HRD.out]
      have p1 := oQ.outer o1.below
      have p2 := oR.outer o1.below
      rw [e1] at HQN p1
      rw [e2] at HRN p2
      clear HS e1 e2 HI HRD oQ oR h BI
      go_wp2
      go_ret3
      have e3 := HQN.out
      have e4 := HRN.out
      subst e3 e4
      exact ⟨_, _, _, _, rfl, p1, p2⟩
    · obtain ⟨t, rfl⟩ : ∃ t, k = t + 1 := ⟨k - 1, by omega⟩
      rw [show ((t + 1 : Nat) : Int) - 1 = t by omega]
      have BS := bit_step A t
      have hbit : A / 2 ^ t % 2 < 2 := Nat.mod_lt _ (by omega)
      obtain ⟨B, hB⟩ : ∃ B : Nat, B = A / 2 ^ t % 2 := ⟨_, rfl⟩
      have BI2 := fun w' q => BI w' q t (by omega) (B : Int) (by rw [hB])
      rw [← hB] at BS hbit
      rw [HI.out] at BS
      have HBS : Hid (A / 2 ^ t = 2 * (Q * D + R) + B) := BS
      clear BS hB BI HI
      have O1 := ref_one' oQ.words (wd_natOf _) (x := 2) (y := 0) (by omega) (by omega) (by omega) (by omega) (by omega) (2 * Q) (by rw [val_natOf, show (2 : Int).toNat = 2 from rfl, show (0 : Int).toNat = 0 from rfl]; omega)
      have O2 := fun w' (q : IsWords w' (.slice ra rn rc) (natOf R)) => ref_one' q (wd_natOf _) (x := 2) (y := B) (by omega) (by omega) (by omega) (by omega) (by omega) (2 * R + B) (by rw [val_natOf, show (2 : Int).toNat = 2 from rfl, Int.toNat_natCast]; omega)
      have hq2 : nl (2 * Q) ≤ qn + 1 := by
        have := nl_few2 (x := 2 * Q) (A := Q) (by omega)
        rw [HQN.out]; exact this
      have hr2 : nl (2 * R + B) ≤ m + 1 := by
        have h1 := HRD.out
        have := nl_few2 (x := 2 * R + B) (A := D) (by omega)
        rw [HND.out] at this
        omega
      have oD := fun v (bb : Below w1.heap.size w1 v) => o1.more bb
      have CM := fun w' a3 c3 (q1 : IsWords w' (.slice a3 (nl (2 * R + B)) c3) (natOf (2 * R + B))) (q2 : IsWords w' (.slice a1 N c1) (natOf D)) => ref_cmp a3 _ c3 _ a1 N c1 _ w' q1 (wd_natOf _) q2 (wd_natOf _) (by omega) (by omega)
      simp only [val_natOf] at CM
      clear HQN HRN
      rcases Nat.lt_or_ge (2 * R + B) D with hlt | hge
      · rw [sgn_lt (by omega)] at CM
        have HN1 : Hid (2 * R + B < D ∧ A / 2 ^ t = 2 * Q * D + (2 * R + B)) := ⟨hlt, by rw [HBS.out, Nat.mul_add, Nat.mul_assoc]; omega⟩
        clear hlt HBS
        go_wp2_with (first
          | (go_at_call 62; (with_reducible refine Calls.mono O1 ?_); rintro e w2 ⟨a2, c2, rfl, o2⟩; have p2 := oR.more o2.below; have q2 := o2.outer oQ.below)
          | (go_at_call 95; (with_reducible refine Calls.mono (BI2 _ ((h.below o1.below).below p2.below)) ?_); rintro e w3 ⟨rfl, rfl⟩)
          | (go_at_call 62; (with_reducible refine Calls.mono (O2 _ p2.words) ?_); rintro e w3 ⟨a3, c3, rfl, o3⟩; have q3 := q2.more o3.below; have p3 := o3.outer p2.below)
          | (go_at_call 38; (with_reducible refine Calls.mono (CM _ _ _ o3.words (oD _ p3.below).words) ?_); rintro e w4 ⟨rfl, rfl⟩))
        go_roundg t
        case rel => exact ⟨a2, _, c2, a3, _, c3, 2 * Q, 2 * R + B, by omega, rfl, rfl, rfl, rfl, rfl, q3, p3, HN1.out.1, HN1.out.2⟩
        case measure => omega
      · obtain ⟨cs, CM', hcs⟩ : ∃ cs : Int, (∀ w' a3 c3, IsWords w' (.slice a3 (nl (2 * R + B)) c3) (natOf (2 * R + B)) → IsWords w' (.slice a1 N c1) (natOf D) → Calls Tryd.prog 38 #[.slice a3 (nl (2 * R + B)) c3, .slice a1 N c1] w' (fun e w'' => e = .returned (.int .i64 cs) ∧ w' = w'')) ∧ 0 ≤ cs := by
          refine ⟨_, CM, ?_⟩
          rcases Nat.lt_or_ge D (2 * R + B) with h | h
          · rw [sgn_gt (by omega)]; omega
          · rw [sgn_eq (by omega)]; omega
        have HN1 : Hid (2 * R + B - D < D ∧ A / 2 ^ t = (2 * Q + 1) * D + (2 * R + B - D)) := ⟨by have := HRD.out; omega, by rw [HBS.out, Nat.mul_add, Nat.add_mul, Nat.mul_assoc]; omega⟩
        have SB := fun w' a3 c3 (q1 : IsWords w' (.slice a3 (nl (2 * R + B)) c3) (natOf (2 * R + B))) (q2 : IsWords w' (.slice a1 N c1) (natOf D)) => ref_nsub a3 _ c3 _ a1 N c1 _ w' q1 (wd_natOf _) q2 (wd_natOf _) (by omega) (by omega) (by rw [val_natOf, val_natOf]; exact hge)
        simp only [val_natOf] at SB
        have O3 := fun w' a3 c3 (q : IsWords w' (.slice a3 (nl (2 * Q)) c3) (natOf (2 * Q))) => ref_one' q (wd_natOf _) (x := 1) (y := 1) (by omega) (by omega) (by omega) (by omega) (by omega) (2 * Q + 1) (by rw [val_natOf, show (1 : Int).toNat = 1 from rfl]; omega)
        clear hge HBS CM
        go_wp2_with (first
          | (go_at_call 62; (with_reducible refine Calls.mono O1 ?_); rintro e w2 ⟨a2, c2, rfl, o2⟩; have p2 := oR.more o2.below; have q2 := o2.outer oQ.below)
          | (go_at_call 95; (with_reducible refine Calls.mono (BI2 _ ((h.below o1.below).below p2.below)) ?_); rintro e w3 ⟨rfl, rfl⟩)
          | (go_at_call 62; (with_reducible refine Calls.mono (O2 _ p2.words) ?_); rintro e w3 ⟨a3, c3, rfl, o3⟩; have q3 := q2.more o3.below; have p3 := o3.outer p2.below)
          | (go_at_call 38; (with_reducible refine Calls.mono (CM' _ _ _ o3.words (oD _ p3.below).words) ?_); rintro e w4 ⟨rfl, rfl⟩)
          | (go_at_call 42; (with_reducible refine Calls.mono (SB _ _ _ o3.words (oD _ p3.below).words) ?_); rintro e w5 ⟨a5, c5, rfl, o5⟩; have q5 := q3.more o5.below; have p5 := o5.outer p3.below)
          | (go_at_call 62; (with_reducible refine Calls.mono (O3 _ _ _ q5.words) ?_); rintro e w6 ⟨a6, c6, rfl, o6⟩; have p6 := p5.more o6.below; have q6 := o6.outer q5.below))
        go_roundg t
        case rel => exact ⟨a6, _, c6, a5, _, c5, 2 * Q + 1, 2 * R + B - D, by omega, rfl, rfl, rfl, rfl, rfl, q6, p6, HN1.out.1, HN1.out.2⟩
        case measure => omega

theorem natOf_word {x : Nat} (h0 : 0 < x) (h1 : x < 4294967296) : natOf x = [(x : Int)] := by
  rw [natOf_pos (by omega), Nat.mod_eq_of_lt h1, Nat.div_eq_of_lt h1, natOf_zero]

theorem ref_small_no (a : Option Addr) (n c : Nat) (w : World) :
    Calls Tryd.prog 70 #[.slice a n c, .int .u32 0] w fun e w' => e = .returned (.tuple #[.slice none 0 0, .int .u32 0, .bool false]) ∧ Below w.heap.size w w' := by
  have L1 : IsWords (w.alloc (.cells #[.int .u32 0] 61)) (.slice (some ⟨w.heap.size, 0, none⟩) 1 1) [0] := lit_words w [0] 1 rfl (by decide)
  have T := ref_div_no a n c _ _ _ [0] _ L1 (wd_one (by omega) (by omega)) (by omega) (by simp [val])
  go_enter Tryd.func70, Tryd.ntmps70
  go_wp2_with (first
    | (go_at_call 85; (with_reducible refine Calls.mono T ?_); rintro e w1 ⟨rfl, b1⟩))
  go_ret3
  exact ⟨rfl, ((Below.refl _ w).alloc (Nat.le_refl _) _).trans (b1.mono (by simp))⟩

set_option maxHeartbeats 2000000 in
theorem ref_small4 (a : Option Addr) (n c : Nat) (zs : List Int) (d : Int) (w : World) (h : IsWords w (.slice a n c) zs) (hz : Wd zs) (hn : n ≤ 100000000) (d0 : 0 < d) (d1 : d < 4294967296) :
    Calls Tryd.prog 70 #[.slice a n c, .int .u32 d] w (AnsSmall w (val zs / d.toNat) ((val zs % d.toNat : Nat) : Int)) := by
  have hb0 : Below w.heap.size w (w.alloc (.cells #[.int .u32 d] 61)) := (Below.refl _ w).alloc (Nat.le_refl _) _
  have ev : val [d] = d.toNat := by simp [val]
  have L1 : IsWords (w.alloc (.cells #[.int .u32 d] 61)) (.slice (some ⟨w.heap.size, 0, none⟩) 1 1) [d] := lit_words w [d] 1 rfl (by decide)
  have T := ref_div a n c zs _ _ _ [d] _ (h.below hb0) hz L1 (wd_one (by omega) d1) hn (by omega) (by rw [ev]; omega)
  rw [ev] at T
  have hm : val zs % d.toNat < 4294967296 := Nat.lt_of_lt_of_le (Nat.mod_lt _ (by omega)) (by omega)
  have HB : Hid (Below w.heap.size w (w.alloc (.cells #[.int .u32 d] 61))) := hb0
  clear h hz ev hb0 L1
  generalize val zs / d.toNat = Q at *
  generalize val zs % d.toNat = R at *
  unfold AnsDiv at T
  rcases Nat.eq_zero_or_pos R with h0 | h0
  · subst h0
    rw [nl_zero] at T
    go_enter Tryd.func70, Tryd.ntmps70
    go_wp2_with (first
      | (go_at_call 85; (with_reducible refine Calls.mono T ?_); rintro e w1 ⟨a1, c1, a2, c2, rfl, o1, o2⟩))
    go_ret3
    exact ⟨_, _, rfl, o1.outer HB.out⟩
  · have e1 := natOf_word h0 hm
    have e2 : nl R = 1 := by unfold nl; rw [e1]; rfl
    rw [e1, e2] at T
    clear e1 e2
    go_enter Tryd.func70, Tryd.ntmps70
    go_wp2_with (first
      | (go_at_call 85; (with_reducible refine Calls.mono T ?_); rintro e w1 ⟨a1, c1, a2, c2, rfl, o1, o2⟩; obtain ⟨g2, rfl⟩ := o2.at0 (by omega); have hc2 := (o2.cell 0 (by omega)).1; rw [show ([(R : Int)]).getD 0 0 = (R : Int) from rfl] at hc2))
    go_quiet (fail)
    go_wp2
    go_ret3
    refine ⟨_, _, rfl, ?_⟩
    have o3 := o1.outer HB.out
    exact ⟨o3.1, below_drewN o3.2 _⟩
end Go.Proofs.YtokjhpjglpgmcaaDoor
/-
  Package times's contract of Mul with the product named.
-/
namespace Go.Proofs.YtokjhpjglpgmcaaDoor
open Go.RowKit

theorem times_mul' {a : Option Addr} {n c : Nat} {zs : List Int} {b : Option Addr} {m d : Nat} {ys : List Int} {w : World} (h : IsWords w (.slice a n c) zs) (hz : Wd zs) (g : IsWords w (.slice b m d) ys) (gz : Wd ys)
    (hn : n ≤ 1000000000000) (hm : m ≤ 1000000000000) (N : Nat) (hN : val zs * val ys = N) : Calls Tryd.prog 43 #[.slice a n c, .slice b m d] w (Ans w N) := by
  rw [← hN]; exact times_mul a n c zs b m d ys w h hz g gz hn hm
theorem times_one' {a : Option Addr} {n c : Nat} {zs : List Int} {x y : Int} {w : World} (h : IsWords w (.slice a n c) zs) (hz : Wd zs) (hn : n ≤ 1000000000000) (x0 : 0 ≤ x) (x1 : x < 4294967296) (y0 : 0 ≤ y) (y1 : y < 4294967296) (N : Nat) (hN : val zs * x.toNat + y.toNat = N) :
    Calls Tryd.prog 65 #[.slice a n c, .int .u32 x, .int .u32 y] w (Ans w N) := by
  subst hN; exact times_one a n c zs x y w h hz hn x0 x1 y0 y1
theorem nat_bits' {a : Option Addr} {n c : Nat} {zs : List Int} {w : World} (h : IsWords w (.slice a n c) zs) (hz : Wd zs) (hn : n ≤ 35184372088832) (N : Int) (hN : (nbits (val zs) : Int) = N) :
    Calls Tryd.prog 79 #[.slice a n c] w fun e w' => e = .returned (.int .i64 N) ∧ w = w' := by
  rw [← hN]; exact nat_bits a n c zs w h hz hn
theorem nat_trim' {a : Option Addr} {n c : Nat} {zs : List Int} {w : World} (h : IsWords w (.slice a n c) zs) (hz : Wd zs) (hn : n ≤ 35184372088832) (N : Nat) (hN : val zs = N) :
    Calls Tryd.prog 33 #[.slice a n c] w (Ans w N) := by
  rw [← hN]; exact nat_trim a n c zs w h hz hn
end Go.Proofs.YtokjhpjglpgmcaaDoor
/-
  Contracts of package split's functions Div and Small, and of the document's own answers for them, whether it can be told or not, with the numbers named; lists of one word.
-/
namespace Go.Proofs.YtokjhpjglpgmcaaDoor
open Go.RowKit

theorem nat_word1 {x : Nat} (h0 : 0 < x) (h1 : x < 4294967296) : natOf x = [(x : Int)] ∧ nl x = 1 := by
  have e : natOf x = [(x : Int)] := by rw [natOf_pos (by omega), Nat.mod_eq_of_lt h1, Nat.div_eq_of_lt h1, natOf_zero]
  exact ⟨e, by unfold nl; rw [e]; rfl⟩

/-- What Div answers, whether it can be told or not. -/
def AnsDivB (W : World) (Q R : Nat) (r : Bool) (e : Ending) (w' : World) : Prop := ∃ a1 c1 a2 c2, e = .returned (.tuple #[.slice a1 (nl Q) c1, .slice a2 (nl R) c2, .bool r]) ∧ Own W w' (.slice a1 (nl Q) c1) (nl Q) (natOf Q) ∧ Own W w' (.slice a2 (nl R) c2) (nl R) (natOf R)
/-- What Small answers, whether it can be told or not. -/
def AnsSmallB (W : World) (Q : Nat) (R : Int) (r : Bool) (e : Ending) (w' : World) : Prop := ∃ a1 c1, e = .returned (.tuple #[.slice a1 (nl Q) c1, .int .u32 R, .bool r]) ∧ Own W w' (.slice a1 (nl Q) c1) (nl Q) (natOf Q)
/-- What is left, or 0. -/
def rest (A D : Nat) : Nat := if D = 0 then 0 else A % D

theorem nil_nl {W w : World} (h : Below W.heap.size W w) : Own W w (.slice none (nl 0) 0) (nl 0) (natOf 0) := by
  rw [nl_zero, natOf_zero]; exact Own.nil h

theorem ref_div_any {a : Option Addr} {n c : Nat} {zs : List Int} {b : Option Addr} {m d : Nat} {ys : List Int} {w : World} (h : IsWords w (.slice a n c) zs) (hz : Wd zs) (g : IsWords w (.slice b m d) ys) (gz : Wd ys) (hn : n ≤ 100000000) (hm : m ≤ 100000000) (A D : Nat) (hA : val zs = A) (hD : val ys = D) :
    Calls Tryd.prog 85 #[.slice a n c, .slice b m d] w (AnsDivB w (A / D) (rest A D) (decide (0 < D))) := by
  rcases Nat.eq_zero_or_pos D with h0 | h0
  · subst h0
    refine (ref_div_no a n c b m d ys w g gz (by omega) hD).mono ?_
    rintro e w1 ⟨rfl, b1⟩
    rw [Nat.div_zero, show rest A 0 = 0 from rfl]
    exact ⟨none, 0, none, 0, by rw [nl_zero]; rfl, nil_nl b1, nil_nl b1⟩
  · have e : rest A D = A % D := if_neg (by omega)
    rw [e, show decide (0 < D) = true from decide_eq_true h0]
    subst hA hD
    exact ref_div a n c zs b m d ys w h hz g gz hn hm h0
theorem split_small_any {a : Option Addr} {n c : Nat} {zs : List Int} {d : Int} {w : World} (h : IsWords w (.slice a n c) zs) (hz : Wd zs) (hn : n ≤ 35184372088832) (d0 : 0 ≤ d) (d1 : d < 4294967296) (A D : Nat) (hA : val zs = A) (hD : d.toNat = D) :
    Calls Tryd.prog 80 #[.slice a n c, .int .u32 d] w (AnsSmallB w (A / D) ((rest A D : Nat) : Int) (decide (0 < D))) := by
  rcases Nat.eq_zero_or_pos D with h0 | h0
  · obtain rfl : d = 0 := by omega
    subst h0
    refine (split_small_no a n c w).mono ?_
    rintro e w1 ⟨rfl, rfl⟩
    rw [Nat.div_zero, show rest A 0 = 0 from rfl]
    exact ⟨none, 0, by rw [nl_zero]; rfl, nil_nl (Below.refl _ _)⟩
  · have e : rest A D = A % D := if_neg (by omega)
    rw [e, show decide (0 < D) = true from decide_eq_true h0]
    subst hA hD
    exact split_small a n c zs d w h hz hn (by omega) d1
theorem ref_small_any {a : Option Addr} {n c : Nat} {zs : List Int} {d : Int} {w : World} (h : IsWords w (.slice a n c) zs) (hz : Wd zs) (hn : n ≤ 100000000) (d0 : 0 ≤ d) (d1 : d < 4294967296) (A D : Nat) (hA : val zs = A) (hD : d.toNat = D) :
    Calls Tryd.prog 70 #[.slice a n c, .int .u32 d] w (AnsSmallB w (A / D) ((rest A D : Nat) : Int) (decide (0 < D))) := by
  rcases Nat.eq_zero_or_pos D with h0 | h0
  · obtain rfl : d = 0 := by omega
    subst h0
    refine (ref_small_no a n c w).mono ?_
    rintro e w1 ⟨rfl, b1⟩
    rw [Nat.div_zero, show rest A 0 = 0 from rfl]
    exact ⟨none, 0, by rw [nl_zero]; rfl, nil_nl b1⟩
  · have e : rest A D = A % D := if_neg (by omega)
    rw [e, show decide (0 < D) = true from decide_eq_true h0]
    subst hA hD
    exact ref_small4 a n c zs d w h hz hn (by omega) d1
end Go.Proofs.YtokjhpjglpgmcaaDoor
/-
  Contracts of the document's own answers of layer 7 (package talwegref07), for every list of up to a hundred million words: as integers; memory that was there stays, and what is answered is the call's own.
-/
namespace Go.Proofs.YtokjhpjglpgmcaaDoor
open Go.RowKit

/-- The integer of a sign and a number. -/
def iv (s : Bool) (m : Nat) : Int := if s then -(m : Int) else m
/-- The answer is the right Int of z, memory of the call's own. -/
def AnsI (W : World) (z : Int) (e : Ending) (w' : World) : Prop :=
  ∃ a c, e = .returned (.agg #[.bool (decide (z < 0)), .slice a (nl z.natAbs) c]) ∧ Own W w' (.slice a (nl z.natAbs) c) (nl z.natAbs) (natOf z.natAbs)

theorem iv_abs (s : Bool) (m : Nat) : (iv s m).natAbs = m := by unfold iv; split <;> simp
theorem iv_neg (s : Bool) (m : Nat) : decide (iv s m < 0) = (s && decide (0 < m)) := by
  unfold iv; cases s <;> simp <;> omega

set_option maxHeartbeats 2000000 in
theorem ref_ifix {s : Bool} {a : Option Addr} {n c : Nat} {zs : List Int} {w : World} (h : IsWords w (.slice a n c) zs) (hz : Wd zs) (hn : n ≤ 1000000000) (z : Int) (hv : iv s (val zs) = z) :
    Calls Tryd.prog 14 #[.agg #[.bool s, .slice a n c]] w (AnsI w z) := by
  subst hv
  unfold AnsI
  rw [iv_abs, iv_neg]
  have T := fun v (hb : Below w.heap.size w v) => ref_trim a n c zs v (h.below hb) hz (by omega)
  unfold Ans at T
  have hd : decide (0 < val zs) = decide (0 < (nl (val zs) : Int)) := by
    rw [Bool.eq_iff_iff]; simp only [decide_eq_true_eq]
    constructor
    · intro h; have := nl_pos h; omega
    · intro h; rcases Nat.eq_zero_or_pos (val zs) with e | e
      · rw [e, nl_zero] at h; omega
      · exact e
  rw [hd]
  generalize val zs = N at T
  have b1 := (BoxC.new w #[.bool s, .slice a n c] 24).alloc (.cells #[.bool false, .slice none 0 0] 24)
  have b2 := BoxC.new (w.alloc (.cells #[.bool s, .slice a n c] 24)) #[.bool false, .slice none 0 0] 24
  rw [World.size_alloc] at b2
  have bV : Below w.heap.size w ((w.alloc (.cells #[.bool s, .slice a n c] 24)).alloc (.cells #[.bool false, .slice none 0 0] 24)) := ((Below.refl _ w).alloc (Nat.le_refl _) _).alloc (by simp) _
  have hs : w.heap.size + 1 < ((w.alloc (.cells #[.bool s, .slice a n c] 24)).alloc (.cells #[.bool false, .slice none 0 0] 24)).heap.size := by simp
  clear h hz hn hd
  cases s
  case' false => obtain ⟨r, HR⟩ : ∃ r : Bool, Hid (r = false) := ⟨_, (rfl : false = false)⟩
  case' true => obtain ⟨r, HR⟩ : ∃ r : Bool, Hid (r = decide (0 < nl N)) := ⟨_, (rfl : decide (0 < nl N) = decide (0 < nl N))⟩
  all_goals
    go_enter Tryd.func14, Tryd.ntmps14
    go_wp2_with (go_at_call 34; (with_reducible refine Calls.mono (T _ bV) ?_); rintro e w1 ⟨a1, c1, rfl, o1⟩; obtain ⟨x0, x1, f0, f1⟩ := (b1.more o1.below).cells2; obtain ⟨y0, y1, g0, g1⟩ := (b2.more o1.below).cells2)
    have q := fun x y => ((o1.above bV).set (k := w.heap.size + 1) (by omega) hs 0 x).set (k := w.heap.size + 1) (by omega) hs 1 y
    exact bodyPost_ret (v := .agg #[.bool r, .slice a1 (nl N) c1]) (by simp [results, Tryd.results14, go_sem, y0, y1, HR.out]) rfl ⟨a1, c1, by simp [HR.out], (q _ _).own (by omega)⟩

theorem iv_not (s : Bool) (m : Nat) : iv (!s) m = - iv s m := by unfold iv; cases s <;> simp

set_option maxHeartbeats 2000000 in
theorem ref_ineg {s : Bool} {a : Option Addr} {n c : Nat} {zs : List Int} {w : World} (h : IsWords w (.slice a n c) zs) (hz : Wd zs) (hn : n ≤ 1000000000) (z : Int) (hv : - iv s (val zs) = z) :
    Calls Tryd.prog 16 #[.agg #[.bool s, .slice a n c]] w (AnsI w z) := by
  have FX := fun v (hb : Below w.heap.size w v) => ref_ifix (s := !s) (h.below hb) hz hn z (by rw [iv_not]; exact hv)
  unfold AnsI at FX ⊢
  obtain ⟨b1, b2, bV, hs⟩ := boxes2 w #[.bool s, .slice a n c] #[.bool false, .slice none 0 0] 24 24
  generalize decide (z < 0) = r at FX ⊢
  generalize z.natAbs = N at FX ⊢
  clear h hz hn hv
  go_enter Tryd.func16, Tryd.ntmps16
  go_wp2_with (go_at_call 14; (with_reducible refine Calls.mono (FX _ bV) ?_); rintro e w1 ⟨a1, c1, rfl, o1⟩; obtain ⟨y0, y1, g0, g1⟩ := (b2.more o1.below).cells2)
  have q := fun x y => ((o1.above bV).set (k := w.heap.size + 1) (by omega) hs 0 x).set (k := w.heap.size + 1) (by omega) hs 1 y
  exact bodyPost_ret (v := .agg #[.bool r, .slice a1 (nl N) c1]) (by simp [results, Tryd.results16, go_sem, y0, y1]) rfl ⟨a1, c1, rfl, (q _ _).own (by omega)⟩

set_option maxHeartbeats 2000000 in
theorem ref_same {s : Bool} {a : Option Addr} {n c : Nat} {xs : List Int} {t : Bool} {b : Option Addr} {m d : Nat} {ys : List Int} {w : World} (h : IsWords w (.slice a n c) xs) (k : IsWords w (.slice b m d) ys) (r : Bool) (hr : decide (s = t ∧ xs = ys) = r) :
    Calls Tryd.prog 12 #[.agg #[.bool s, .slice a n c], .agg #[.bool t, .slice b m d]] w fun e w' => e = .returned (.bool r) ∧ Below w.heap.size w w' := by
  have W1 := fun v (hb : Below w.heap.size w v) => ref_words a n c xs b m d ys v (h.below hb) (k.below hb) _ rfl
  obtain ⟨b1, b2, bV, hs⟩ := boxes2 w #[.bool s, .slice a n c] #[.bool t, .slice b m d] 24 24
  clear h k
  by_cases he : s = t
  · subst he
    rw [show decide (s = s ∧ xs = ys) = decide (xs = ys) by simp] at hr
    rw [hr] at W1
    clear hr
    go_enter Tryd.func12, Tryd.ntmps12
    go_wp2_with (go_at_call 31; (with_reducible refine Calls.mono (W1 _ bV) ?_); rintro e w1 ⟨rfl, o1⟩)
    go_ret
    exact ⟨rfl, below_more bV o1⟩
  · have he2 : (s == t) = false := by simpa using he
    obtain rfl : r = false := by rw [← hr]; simp [he]
    clear hr he
    go_enter Tryd.func12, Tryd.ntmps12
    go_wp2
    go_ret
    exact ⟨rfl, bV⟩

set_option maxHeartbeats 2000000 in
theorem ref_iright {s : Bool} {a : Option Addr} {n c : Nat} {zs : List Int} {w : World} (h : IsWords w (.slice a n c) zs) (hz : Wd zs) (hn : n ≤ 1000000000) (r : Bool) (hr : decide (nl (val zs) = n ∧ decide (iv s (val zs) < 0) = s) = r) :
    Calls Tryd.prog 11 #[.agg #[.bool s, .slice a n c]] w fun e w' => e = .returned (.bool r) ∧ Below w.heap.size w w' := by
  have FX := fun v (hb : Below w.heap.size w v) => ref_ifix (s := s) (h.below hb) hz hn _ rfl
  unfold AnsI at FX
  rw [iv_abs] at FX
  generalize decide (iv s (val zs) < 0) = q at FX hr
  generalize val zs = N at FX hr
  clear h hz
  obtain ⟨b1, bV, hs⟩ := boxes1 w #[.bool s, .slice a n c] 24
  by_cases he : nl N = n
  case' pos =>
    have he2 : ((nl N : Int) == (n : Int)) = true := by rw [beq_iff_eq]; omega
    have hr2 : (q == s) = r := by rw [← hr]; cases q <;> cases s <;> simp [he]
  case' neg =>
    have he2 : ((nl N : Int) == (n : Int)) = false := by rw [beq_eq_false_iff_ne]; omega
    obtain rfl : r = false := by rw [← hr]; simp [he]
  all_goals
    clear hr he
    go_enter Tryd.func11, Tryd.ntmps11
    go_wp2_with (go_at_call 14; (with_reducible refine Calls.mono (FX _ bV) ?_); rintro e w1 ⟨a1, c1, rfl, o1⟩; have b3 := b1.more o1.below; have y0 := fun o => (b3.alloc o).cells2.1; have y1 := fun o => (b3.alloc o).cells2.2.1)
    go_ret
    exact ⟨rfl, (below_more bV o1.below).alloc (below_more bV o1.below).size _⟩
end Go.Proofs.YtokjhpjglpgmcaaDoor
/-
  Contracts of the document's own answers of layer 7 (package talwegref07: Of, Mul, Add, Cmp), for every list of up to a hundred million words: as integers; memory that was there stays, and what is answered is the call's own.
-/
namespace Go.Proofs.YtokjhpjglpgmcaaDoor
open Go.RowKit

set_option maxHeartbeats 2000000 in
theorem ref_iof (n : Int) (w : World) (h0 : -9223372036854775808 ≤ n) (h1 : n < 9223372036854775808) :
    Calls Tryd.prog 18 #[.int .i64 n] w (AnsI w n) := by
  obtain ⟨b1, bV, hs⟩ := boxes1 w #[.bool false, .slice none 0 0] 24
  rcases Int.lt_or_le n 0 with h | h
  · have O := fun v => ref_of (-n) v (by omega) (by omega)
    have e1 : IntKind.u64.wrap n = n + 18446744073709551616 := by simp [IntKind.wrap, IntKind.bits, IntKind.signed]; omega
    have e2 : IntKind.u64.wrap (0 - (n + 18446744073709551616)) = -n := by simp [IntKind.wrap, IntKind.bits, IntKind.signed]; omega
    have e3 : IntKind.u64.wrap (-(n + 18446744073709551616)) = -n := by simp [IntKind.wrap, IntKind.bits, IntKind.signed]; omega
    rw [show (-n).toNat = n.natAbs by omega] at O
    unfold Ans at O
    unfold AnsI
    rw [decide_eq_true h]
    generalize n.natAbs = N at O ⊢
    go_enter Tryd.func18, Tryd.ntmps18
    go_wp2_with (go_at_call 36; (with_reducible refine Calls.mono (O _) ?_); rintro e w1 ⟨a1, c1, rfl, o1⟩; obtain ⟨y0, y1, g0, g1⟩ := (b1.more o1.below).cells2)
    have q := fun x y => ((o1.above bV).set (k := w.heap.size) (by omega) hs 0 x).set (k := w.heap.size) (by omega) hs 1 y
    exact bodyPost_ret (v := .agg #[.bool true, .slice a1 (nl N) c1]) (by simp [results, Tryd.results18, go_sem, y0, y1]) rfl ⟨a1, c1, rfl, (q _ _).own (by omega)⟩
  · have O := fun v => ref_of n v (by omega) (by omega)
    have e1 : IntKind.u64.wrap n = n := by simp [IntKind.wrap, IntKind.bits, IntKind.signed]; omega
    rw [show n.toNat = n.natAbs by omega] at O
    unfold Ans at O
    unfold AnsI
    rw [decide_eq_false (by omega)]
    generalize n.natAbs = N at O ⊢
    go_enter Tryd.func18, Tryd.ntmps18
    go_wp2_with (go_at_call 36; (with_reducible refine Calls.mono (O _) ?_); rintro e w1 ⟨a1, c1, rfl, o1⟩; obtain ⟨y0, y1, g0, g1⟩ := (b1.more o1.below).cells2)
    have q := fun x y => ((o1.above bV).set (k := w.heap.size) (by omega) hs 0 x).set (k := w.heap.size) (by omega) hs 1 y
    exact bodyPost_ret (v := .agg #[.bool false, .slice a1 (nl N) c1]) (by simp [results, Tryd.results18, go_sem, y0, y1]) rfl ⟨a1, c1, rfl, (q _ _).own (by omega)⟩

theorem iv_mul (s t : Bool) (m n : Nat) : iv (!(s == t)) (m * n) = iv s m * iv t n := by
  unfold iv; cases s <;> cases t <;> simp [Int.neg_mul, Int.mul_neg]

set_option maxHeartbeats 2000000 in
theorem ref_imul {s : Bool} {a : Option Addr} {n c : Nat} {xs : List Int} {t : Bool} {b : Option Addr} {m d : Nat} {ys : List Int} {w : World} (h : IsWords w (.slice a n c) xs) (hx : Wd xs) (k : IsWords w (.slice b m d) ys) (hy : Wd ys) (hn : n ≤ 100000000) (hm : m ≤ 100000000) (z : Int) (hv : iv s (val xs) * iv t (val ys) = z) :
    Calls Tryd.prog 24 #[.agg #[.bool s, .slice a n c], .agg #[.bool t, .slice b m d]] w (AnsI w z) := by
  have M := fun v (hb : Below w.heap.size w v) => ref_tmul a n c xs b m d ys v (h.below hb) hx (k.below hb) hy hn hm
  have lM := nl_mul (val xs) (val ys)
  have l1 := nl_small hx n (by rw [h.len]; omega)
  have l2 := nl_small hy m (by rw [k.len]; omega)
  have FX := fun v a1 c1 (p : IsWords v (.slice a1 (nl (val xs * val ys)) c1) (natOf (val xs * val ys))) => ref_ifix (s := !(s == t)) p (wd_natOf _) (by omega) z (by rw [val_natOf, iv_mul]; exact hv)
  unfold Ans at M
  unfold AnsI at FX ⊢
  obtain ⟨b1, b2, b3, bV, hs⟩ := boxes3 w #[.bool s, .slice a n c] #[.bool t, .slice b m d] #[.bool false, .slice none 0 0] 24 24 24
  generalize decide (z < 0) = r at FX ⊢
  generalize z.natAbs = N at FX ⊢
  generalize val xs * val ys = K at M FX
  clear h k hx hy hn hm hv lM l1 l2
  go_enter Tryd.func24, Tryd.ntmps24
  go_wp2
  generalize ((w.alloc (.cells #[.bool s, .slice a n c] 24)).alloc (.cells #[.bool t, .slice b m d] 24)).alloc (.cells #[.bool false, .slice none 0 0] 24) = V at *
  obtain ⟨x0, x1, -, -⟩ := b1.drew.cells2
  obtain ⟨y0, y1, -, -⟩ := b2.drew.cells2
  go_region_held3 (fun w' => w'.cell? ⟨w.heap.size, 0, none⟩ = some (.bool s) ∧ w'.cell? ⟨w.heap.size, 1, none⟩ = some (.slice a n c) ∧ w'.cell? ⟨w.heap.size + 1, 0, none⟩ = some (.bool t) ∧ w'.cell? ⟨w.heap.size + 1, 1, none⟩ = some (.slice b m d))
    (first | exact ⟨x0, x1, y0, y1⟩ | exact ⟨p0, p1, q0, q1⟩ | exact ⟨P0, P1, Q0, Q1⟩ | exact ⟨(R1 _ _).1, (R1 _ _).2.1, (R2 _ _).1, (R2 _ _).2.1⟩)
    (first
    | (go_at_call 44; (with_reducible refine Calls.mono (M V.drew bV.drew) ?_); rintro e w1 ⟨a1, c1, rfl, o1⟩; obtain ⟨p0, p1, -, -⟩ := (b1.drew.more o1.below).cells2; obtain ⟨q0, q1, -, -⟩ := (b2.drew.more o1.below).cells2)
    | (go_at_call 14; (with_reducible refine Calls.mono (FX w1 _ _ o1.words) ?_); rintro e w2 ⟨a2, c2, rfl, o2⟩; obtain ⟨z0, z1, f0, f1⟩ := ((b3.drew.more o1.below).more o2.below).cells2; obtain ⟨P0, P1, -, -⟩ := ((b1.drew.more o1.below).more o2.below).cells2; obtain ⟨Q0, Q1, -, -⟩ := ((b2.drew.more o1.below).more o2.below).cells2; have R1 := fun u v => ((((b1.drew.more o1.below).more o2.below).other (g := w.heap.size + 1 + 1) (i := 0) (by omega) u).other (g := w.heap.size + 1 + 1) (i := 1) (by omega) v).cells2; have R2 := fun u v => ((((b2.drew.more o1.below).more o2.below).other (g := w.heap.size + 1 + 1) (i := 0) (by omega) u).other (g := w.heap.size + 1 + 1) (i := 1) (by omega) v).cells2))
  have B1 := below_more bV.drew o1.below
  have hs1 : w.heap.size + 1 + 1 < w1.heap.size := Nat.lt_of_lt_of_le hs o1.below.size
  have q := fun x y => ((o2.above B1).set (k := w.heap.size + 1 + 1) (by omega) hs1 0 x).set (k := w.heap.size + 1 + 1) (by omega) hs1 1 y
  go_wp2
  exact bodyPost_ret (v := .agg #[.bool r, .slice a2 (nl N) c2]) (by simp [results, Tryd.results24, go_sem, z0, z1]) rfl ⟨a2, c2, rfl, (q _ _).own (by omega)⟩

theorem iv_add_same (s : Bool) (m n : Nat) : iv s (m + n) = iv s m + iv s n := by unfold iv; cases s <;> simp <;> omega
theorem iv_add_ge {s t : Bool} (hst : s ≠ t) {m n : Nat} (h : n ≤ m) : iv s (m - n) = iv s m + iv t n := by
  unfold iv; cases s <;> cases t <;> simp at hst ⊢ <;> omega

set_option maxHeartbeats 4000000 in
theorem ref_iadd {s : Bool} {a : Option Addr} {n c : Nat} {xs : List Int} {t : Bool} {b : Option Addr} {m d : Nat} {ys : List Int} {w : World} (h : IsWords w (.slice a n c) xs) (hx : Wd xs) (k : IsWords w (.slice b m d) ys) (hy : Wd ys) (hn : n ≤ 100000000) (hm : m ≤ 100000000) (z : Int) (hv : iv s (val xs) + iv t (val ys) = z) :
    Calls Tryd.prog 22 #[.agg #[.bool s, .slice a n c], .agg #[.bool t, .slice b m d]] w (AnsI w z) := by
  have l1 := nl_small hx n (by rw [h.len]; omega)
  have l2 := nl_small hy m (by rw [k.len]; omega)
  obtain ⟨b1, b2, b3, bV, hs⟩ := boxes3 w #[.bool s, .slice a n c] #[.bool t, .slice b m d] #[.bool false, .slice none 0 0] 24 24 24
  by_cases hst : s = t
  · subst hst
    have A := fun v (hb : Below w.heap.size w v) => ref_nadd a n c xs b m d ys v (h.below hb) hx (k.below hb) hy (by omega) (by omega)
    have lA : nl (val xs + val ys) ≤ n + m + 1 := by
      refine nl_le _ _ ?_
      have e1 := lt_nl (val xs)
      have e2 := lt_nl (val ys)
      have e3 : 4294967296 ^ nl (val xs) ≤ 4294967296 ^ (n + m) := Nat.pow_le_pow_right (by omega) (by omega)
      have e4 : 4294967296 ^ nl (val ys) ≤ 4294967296 ^ (n + m) := Nat.pow_le_pow_right (by omega) (by omega)
      rw [Nat.pow_succ]
      omega
    have FX := fun v a1 c1 (p : IsWords v (.slice a1 (nl (val xs + val ys)) c1) (natOf (val xs + val ys))) => ref_ifix (s := s) p (wd_natOf _) (by omega) z (by rw [val_natOf, iv_add_same]; exact hv)
    unfold Ans at A
    unfold AnsI at FX ⊢
    generalize decide (z < 0) = r at FX ⊢
    generalize z.natAbs = N at FX ⊢
    generalize val xs + val ys = K at A FX
    clear h k hx hy hn hm hv lA l1 l2
    go_enter Tryd.func22, Tryd.ntmps22
    go_wp2
    generalize ((w.alloc (.cells #[.bool s, .slice a n c] 24)).alloc (.cells #[.bool s, .slice b m d] 24)).alloc (.cells #[.bool false, .slice none 0 0] 24) = V at *
    obtain ⟨x0, x1, -, -⟩ := b1.drew.cells2
    obtain ⟨-, y1, -, -⟩ := b2.drew.cells2
    go_region_held3 (fun w' => w'.cell? ⟨w.heap.size, 0, none⟩ = some (.bool s) ∧ w'.cell? ⟨w.heap.size, 1, none⟩ = some (.slice a n c) ∧ w'.cell? ⟨w.heap.size + 1, 1, none⟩ = some (.slice b m d))
      (first | exact ⟨x0, x1, y1⟩ | exact ⟨p0, p1, q1⟩ | exact ⟨P0, P1, Q1⟩ | exact ⟨(R1 _ _).1, (R1 _ _).2.1, (R2 _ _).2.1⟩)
      (first
      | (go_at_call 41; (with_reducible refine Calls.mono (A V.drew bV.drew) ?_); rintro e w1 ⟨a1, c1, rfl, o1⟩; obtain ⟨p0, p1, -, -⟩ := (b1.drew.more o1.below).cells2; obtain ⟨-, q1, -, -⟩ := (b2.drew.more o1.below).cells2)
      | (go_at_call 14; (with_reducible refine Calls.mono (FX w1 _ _ o1.words) ?_); rintro e w2 ⟨a2, c2, rfl, o2⟩; obtain ⟨z0, z1, f0, f1⟩ := ((b3.drew.more o1.below).more o2.below).cells2; obtain ⟨P0, P1, -, -⟩ := ((b1.drew.more o1.below).more o2.below).cells2; obtain ⟨-, Q1, -, -⟩ := ((b2.drew.more o1.below).more o2.below).cells2; have R1 := fun u v => ((((b1.drew.more o1.below).more o2.below).other (g := w.heap.size + 1 + 1) (i := 0) (by omega) u).other (g := w.heap.size + 1 + 1) (i := 1) (by omega) v).cells2; have R2 := fun u v => ((((b2.drew.more o1.below).more o2.below).other (g := w.heap.size + 1 + 1) (i := 0) (by omega) u).other (g := w.heap.size + 1 + 1) (i := 1) (by omega) v).cells2))
    have B1 := below_more bV.drew o1.below
    have hs1 : w.heap.size + 1 + 1 < w1.heap.size := Nat.lt_of_lt_of_le hs o1.below.size
    have q := fun x y => ((o2.above B1).set (k := w.heap.size + 1 + 1) (by omega) hs1 0 x).set (k := w.heap.size + 1 + 1) (by omega) hs1 1 y
    go_wp2
    exact bodyPost_ret (v := .agg #[.bool r, .slice a2 (nl N) c2]) (by simp [results, Tryd.results22, go_sem, z0, z1]) rfl ⟨a2, c2, rfl, (q _ _).own (by omega)⟩
  · have hst2 : (s == t) = false := by simpa using hst
    have C := fun v (hb : Below w.heap.size w v) => ref_cmp a n c xs b m d ys v (h.below hb) hx (k.below hb) hy (by omega) (by omega)
    rcases Nat.lt_or_ge (val xs) (val ys) with hlt | hge
    case' inl =>
      rw [sgn_lt (by omega)] at C
      have S := fun v (hb : Below w.heap.size w v) => ref_nsub b m d ys a n c xs v (k.below hb) hy (h.below hb) hx (by omega) (by omega) (by omega)
      have FX := fun v a1 c1 (p : IsWords v (.slice a1 (nl (val ys - val xs)) c1) (natOf (val ys - val xs))) => ref_ifix (s := t) p (wd_natOf _) (Nat.le_trans (nl_mono (Nat.sub_le _ _)) (by omega)) z (by rw [val_natOf, iv_add_ge (fun e => hst e.symm) (by omega), Int.add_comm]; exact hv)
      generalize val ys - val xs = K at S FX
    case' inr =>
      obtain ⟨sg, hsg, C⟩ : ∃ sg : Int, 0 ≤ sg ∧ ∀ v, Below w.heap.size w v → Calls Tryd.prog 38 #[.slice a n c, .slice b m d] v fun e w' => e = .returned (.int .i64 sg) ∧ v = w' := by
        refine ⟨_, ?_, C⟩
        rcases Nat.lt_or_eq_of_le hge with e | e
        · rw [sgn_gt (by omega)]; omega
        · rw [sgn_eq (by omega)]; omega
      have S := fun v (hb : Below w.heap.size w v) => ref_nsub a n c xs b m d ys v (h.below hb) hx (k.below hb) hy (by omega) (by omega) (by omega)
      have FX := fun v a1 c1 (p : IsWords v (.slice a1 (nl (val xs - val ys)) c1) (natOf (val xs - val ys))) => ref_ifix (s := s) p (wd_natOf _) (Nat.le_trans (nl_mono (Nat.sub_le _ _)) (by omega)) z (by rw [val_natOf, iv_add_ge hst (by omega)]; exact hv)
      generalize val xs - val ys = K at S FX
    all_goals
      unfold AnsOk at S
      unfold AnsI at FX ⊢
      generalize decide (z < 0) = r at FX ⊢
      generalize z.natAbs = N at FX ⊢
      clear h k hx hy hn hm hv l1 l2 hst
      go_enter Tryd.func22, Tryd.ntmps22
      go_wp2_with (first
        | (go_at_call 38; (with_reducible refine Calls.mono (C _ bV) ?_); rintro e w0 ⟨rfl, rfl⟩)
        | (go_at_call 42; (with_reducible refine Calls.mono (S _ bV) ?_); rintro e w1 ⟨a1, c1, rfl, o1⟩; obtain ⟨p0, p1, -, -⟩ := (b1.more o1.below).cells2; obtain ⟨q0, q1, -, -⟩ := (b2.more o1.below).cells2)
        | (go_at_call 14; (with_reducible refine Calls.mono (FX w1 _ _ o1.words) ?_); rintro e w2 ⟨a2, c2, rfl, o2⟩; obtain ⟨z0, z1, f0, f1⟩ := ((b3.more o1.below).more o2.below).cells2))
      have B1 := below_more bV o1.below
      have hs1 : w.heap.size + 1 + 1 < w1.heap.size := Nat.lt_of_lt_of_le hs o1.below.size
      have q := fun x y => ((o2.above B1).set (k := w.heap.size + 1 + 1) (by omega) hs1 0 x).set (k := w.heap.size + 1 + 1) (by omega) hs1 1 y
      exact bodyPost_ret (v := .agg #[.bool r, .slice a2 (nl N) c2]) (by simp [results, Tryd.results22, go_sem, z0, z1]) rfl ⟨a2, c2, rfl, (q _ _).own (by omega)⟩
end Go.Proofs.YtokjhpjglpgmcaaDoor
/-
  Plain mathematics of decimal digits: the digits of a number, the number of digits, and how both belong together. No conditions of the program.
-/
namespace Go.Proofs.YtokjhpjglpgmcaaDoor

/-- A list is built at its end. -/
theorem snoc_ind {α : Type} {p : List α → Prop} (h0 : p []) (h1 : ∀ l a, p l → p (l ++ [a])) (l : List α) : p l := by
  rw [← List.reverse_reverse l]
  induction l.reverse with
  | nil => exact h0
  | cons a m ih => rw [List.reverse_cons]; exact h1 _ _ ih

/-- The digits of a number, the highest one first; none of 0. -/
def dg (n : Nat) : List UInt8 := if n = 0 then [] else dg (n / 10) ++ [UInt8.ofNat (48 + n % 10)]
/-- The text of a number. -/
def decOf (n : Nat) : List UInt8 := if n = 0 then [48] else dg n
/-- The number of digits, the highest one first. -/
def valD (l : List UInt8) : Nat := l.foldl (fun a c => 10 * a + (c.toNat - 48)) 0
/-- All are digits. -/
abbrev DigS (l : List UInt8) : Prop := ∀ c ∈ l, 48 ≤ c.toNat ∧ c.toNat ≤ 57
/-- A text that is a number's. -/
abbrev Num (l : List UInt8) : Prop := l ≠ [] ∧ DigS l ∧ (l.head? = some 48 → l.length ≤ 1)

theorem dg_zero : dg 0 = [] := by unfold dg; simp
theorem dg_pos {n : Nat} (h : 0 < n) : dg n = dg (n / 10) ++ [UInt8.ofNat (48 + n % 10)] := by
  conv => lhs; unfold dg
  rw [if_neg (by omega)]
theorem decOf_zero : decOf 0 = [48] := rfl
theorem decOf_pos {n : Nat} (h : 0 < n) : decOf n = dg n := if_neg (by omega)
theorem digit_nat (n : Nat) : (UInt8.ofNat (48 + n % 10)).toNat = 48 + n % 10 := by
  simp; omega
theorem valD_nil : valD [] = 0 := rfl
theorem valD_snoc (l : List UInt8) (c : UInt8) : valD (l ++ [c]) = 10 * valD l + (c.toNat - 48) := by
  unfold valD; rw [List.foldl_append]; rfl
theorem valD_append (l m : List UInt8) : valD (l ++ m) = valD l * 10 ^ m.length + valD m := by
  refine snoc_ind (p := fun m => valD (l ++ m) = valD l * 10 ^ m.length + valD m) ?_ ?_ m
  · simp [valD_nil]
  · intro m c ih
    rw [← List.append_assoc, valD_snoc, ih, valD_snoc, List.length_append, List.length_singleton, Nat.pow_succ]; grind
theorem valD_one (c : UInt8) : valD [c] = c.toNat - 48 := by rw [← List.nil_append [c], valD_snoc, valD_nil]; omega
theorem valD_cons (c : UInt8) (l : List UInt8) : valD (c :: l) = (c.toNat - 48) * 10 ^ l.length + valD l := by
  rw [show c :: l = [c] ++ l from rfl, valD_append, valD_one]
theorem valD_dg (n : Nat) : valD (dg n) = n := by
  induction n using Nat.strongRecOn with
  | ind n ih =>
    rcases Nat.eq_zero_or_pos n with rfl | h
    · rw [dg_zero]; rfl
    · rw [dg_pos h, valD_snoc, ih _ (by omega), digit_nat]; omega
theorem valD_decOf (n : Nat) : valD (decOf n) = n := by
  rcases Nat.eq_zero_or_pos n with rfl | h
  · rfl
  · rw [decOf_pos h, valD_dg]
theorem digS_append {l m : List UInt8} : DigS (l ++ m) ↔ DigS l ∧ DigS m := by
  unfold DigS; simp only [List.mem_append]
  exact ⟨fun h => ⟨fun c hc => h c (.inl hc), fun c hc => h c (.inr hc)⟩, fun h c hc => hc.elim (h.1 c) (h.2 c)⟩
theorem digS_one {c : UInt8} : DigS [c] ↔ 48 ≤ c.toNat ∧ c.toNat ≤ 57 := by unfold DigS; simp
theorem digS_cons {c : UInt8} {l : List UInt8} : DigS (c :: l) ↔ (48 ≤ c.toNat ∧ c.toNat ≤ 57) ∧ DigS l := by
  rw [show c :: l = [c] ++ l from rfl, digS_append, digS_one]
theorem digS_dg (n : Nat) : DigS (dg n) := by
  induction n using Nat.strongRecOn with
  | ind n ih =>
    rcases Nat.eq_zero_or_pos n with rfl | h
    · rw [dg_zero]; intro c hc; cases hc
    · rw [dg_pos h, digS_append, digS_one, digit_nat]; exact ⟨ih _ (by omega), by omega⟩
theorem digS_decOf (n : Nat) : DigS (decOf n) := by
  rcases Nat.eq_zero_or_pos n with rfl | h
  · rw [decOf_zero, digS_one]; decide
  · rw [decOf_pos h]; exact digS_dg n
theorem dg_ne {n : Nat} (h : 0 < n) : dg n ≠ [] := by rw [dg_pos h]; simp
theorem decOf_ne (n : Nat) : decOf n ≠ [] := by
  rcases Nat.eq_zero_or_pos n with rfl | h
  · rw [decOf_zero]; simp
  · rw [decOf_pos h]; exact dg_ne h
theorem head_append {l m : List UInt8} (h : l ≠ []) : (l ++ m).head? = l.head? := by
  cases l with
  | nil => exact absurd rfl h
  | cons a l => rfl
theorem dg_head (n : Nat) : (dg n).head? ≠ some 48 := by
  induction n using Nat.strongRecOn with
  | ind n ih =>
    rcases Nat.eq_zero_or_pos n with rfl | h
    · rw [dg_zero]; simp
    · rw [dg_pos h]
      rcases Nat.eq_zero_or_pos (n / 10) with h0 | h0
      · rw [h0, dg_zero, List.nil_append, List.head?_cons]
        intro e
        have e2 := congrArg UInt8.toNat (Option.some.inj e)
        rw [digit_nat] at e2
        have : (48 : UInt8).toNat = 48 := rfl
        omega
      · rw [head_append (dg_ne h0)]; exact ih _ (by omega)
theorem num_decOf (n : Nat) : Num (decOf n) := by
  refine ⟨decOf_ne n, digS_decOf n, fun h => ?_⟩
  rcases Nat.eq_zero_or_pos n with rfl | h0
  · simp [decOf_zero]
  · rw [decOf_pos h0] at h; exact absurd h (dg_head n)
theorem ofNat_digit {c : UInt8} (h : 48 ≤ c.toNat) : UInt8.ofNat (48 + (c.toNat - 48)) = c := by
  rw [show 48 + (c.toNat - 48) = c.toNat by omega]; simp
theorem dg_valD {l : List UInt8} (h : DigS l) (h0 : l.head? ≠ some 48) : dg (valD l) = l := by
  revert h h0
  refine snoc_ind (p := fun l => DigS l → l.head? ≠ some 48 → dg (valD l) = l) ?_ ?_ l
  · intro _ _; rw [valD_nil, dg_zero]
  · intro l c ih h h0
    obtain ⟨h1, h2⟩ := digS_append.1 h
    rw [digS_one] at h2
    rw [valD_snoc]
    have hp : 0 < 10 * valD l + (c.toNat - 48) := by
      rcases Nat.eq_zero_or_pos (10 * valD l + (c.toNat - 48)) with e | e
      · have e1 : valD l = 0 := by omega
        have e2 : c = 48 := by
          have : c.toNat = 48 := by omega
          exact UInt8.toNat_inj.1 this
        by_cases hl : l = []
        · rw [hl, e2] at h0; simp at h0
        · rw [head_append hl] at h0
          have := ih h1 h0
          rw [e1, dg_zero] at this
          exact absurd this.symm hl
      · exact e
    rw [dg_pos hp, show (10 * valD l + (c.toNat - 48)) / 10 = valD l by omega, show (10 * valD l + (c.toNat - 48)) % 10 = c.toNat - 48 by omega, ofNat_digit h2.1]
    by_cases hl : l = []
    · rw [hl, valD_nil, dg_zero]
    · rw [head_append hl] at h0; rw [ih h1 h0]
theorem decOf_valD {l : List UInt8} (h : Num l) : decOf (valD l) = l := by
  obtain ⟨h1, h2, h3⟩ := h
  by_cases h0 : l.head? = some 48
  · have hl := h3 h0
    match l, h1, h0, hl with
    | [c], _, h0, _ => simp at h0; subst h0; rfl
  · have e := dg_valD h2 h0
    rw [decOf_pos ?_]
    · exact e
    · rcases Nat.eq_zero_or_pos (valD l) with e2 | e2
      · rw [e2, dg_zero] at e; exact absurd e.symm h1
      · exact e2
theorem valD_lt {l : List UInt8} (h : DigS l) : valD l < 10 ^ l.length := by
  revert h
  refine snoc_ind (p := fun l => DigS l → valD l < 10 ^ l.length) ?_ ?_ l
  · intro _; simp [valD_nil]
  · intro l c ih h
    obtain ⟨h1, h2⟩ := digS_append.1 h
    rw [digS_one] at h2
    have := ih h1
    rw [valD_snoc, List.length_append, List.length_singleton, Nat.pow_succ]
    omega
theorem lt_decOf (n : Nat) : n < 10 ^ (decOf n).length := by
  have := valD_lt (digS_decOf n)
  rwa [valD_decOf] at this
theorem dg_len_le {n k : Nat} (h : n < 10 ^ k) : (dg n).length ≤ k := by
  induction k generalizing n with
  | zero => rw [Nat.pow_zero] at h; obtain rfl : n = 0 := by omega
            rw [dg_zero]; simp
  | succ k ih =>
    rcases Nat.eq_zero_or_pos n with rfl | h0
    · rw [dg_zero]; simp
    · rw [dg_pos h0, List.length_append, List.length_singleton]
      have := ih (n := n / 10) (by rw [Nat.pow_succ] at h; omega)
      omega
theorem decOf_len_le {n k : Nat} (h : n < 10 ^ k) (hk : 1 ≤ k) : (decOf n).length ≤ k := by
  rcases Nat.eq_zero_or_pos n with rfl | h0
  · simpa [decOf_zero] using hk
  · rw [decOf_pos h0]; exact dg_len_le h
theorem decOf_len_pos (n : Nat) : 1 ≤ (decOf n).length := by
  have := List.length_pos_iff.2 (decOf_ne n); omega
theorem decOf_len_mono {n m : Nat} (h : n ≤ m) : (decOf n).length ≤ (decOf m).length :=
  decOf_len_le (Nat.lt_of_le_of_lt h (lt_decOf m)) (decOf_len_pos m)
theorem ge_decOf (n : Nat) : 10 ^ ((decOf n).length - 1) ≤ n ∨ (decOf n).length = 1 := by
  rcases Nat.lt_or_ge n (10 ^ ((decOf n).length - 1)) with h | h
  · right
    have h1 := decOf_len_pos n
    rcases Nat.lt_or_ge 1 (decOf n).length with h2 | h2
    · have := decOf_len_le h (by omega)
      omega
    · omega
  · exact .inl h
theorem num_append {a : Nat} (ha : 0 < a) (l : List UInt8) (hl : DigS l) : Num (decOf a ++ l) := by
  refine ⟨by simp [decOf_ne a], digS_append.2 ⟨digS_decOf a, hl⟩, fun h => ?_⟩
  rw [head_append (decOf_ne a), decOf_pos ha] at h
  exact absurd h (dg_head a)
end Go.Proofs.YtokjhpjglpgmcaaDoor
/-
  Contracts of the document's own answers of layer 6 (package talwegref06: Print, Parse), for every list of up to a million words, and every text: as digits and numbers; memory that was there stays.
-/
namespace Go.Proofs.YtokjhpjglpgmcaaDoor
open Go.RowKit

/-- string([]byte{x}), of one byte in a new block. -/
theorem conv_byte1 (v : World) (d : UInt8) (x : Int) (hx : (d.toNat : Int) = x) :
    Sem.run Tryd.prog (convert 70 9 (.slice (some ⟨v.heap.size, 0, none⟩) 1 1)) (v.alloc (.cells #[.int .u8 x] 5)) = .ok (.string ⟨#[d]⟩) (v.alloc (.cells #[.int .u8 x] 5)) := by
  have h := run_convert_bytes_back (P := Tryd.prog) (v.alloc (.cells #[.int .u8 x] 5)) 70 9 5 ⟨v.heap.size, 0, none⟩ 1 [d] Tryd.underlying70 Tryd.underlying5 Tryd.underlying9 (fun j hj => by
    rw [Go.WideShapes.add_plain]
    have : j = 0 := by simp at hj; omega
    subst this
    simp [hx])
  exact h

theorem dg_words (N : Nat) : (dg N).length ≤ 10 * nl N := by
  refine dg_len_le ?_
  have h := lt_nl N
  have h2 : 4294967296 ^ nl N ≤ (10 ^ 10) ^ nl N := Nat.pow_le_pow_left (by decide) _
  rw [← Nat.pow_mul] at h2
  omega

set_option maxHeartbeats 2000000 in
theorem ref_print {a : Option Addr} {n c : Nat} {zs : List Int} {w : World} (h : IsWords w (.slice a n c) zs) (hz : Wd zs) (hn : n ≤ 1000000) (N : Nat) (hN : val zs = N) :
    Calls Tryd.prog 49 #[.slice a n c] w fun e w' => e = .returned (.string ⟨(decOf N).toArray⟩) ∧ Below w.heap.size w w' := by
  have T := ref_trim a n c zs w h hz (by omega)
  rw [hN] at T
  unfold Ans at T
  have lN : nl N ≤ 1000000 := by rw [← hN]; exact nl_small hz _ (by rw [h.len]; exact hn)
  clear h hz hn hN
  rcases Nat.eq_zero_or_pos N with h0 | h0
  · subst h0
    simp only [nl_zero] at T
    rw [decOf_zero]
    go_enter Tryd.func49, Tryd.ntmps49
    go_wp2_with (go_at_call 34; (with_reducible refine Calls.mono T ?_); rintro e w1 ⟨a1, c1, rfl, o1⟩)
    go_ret
    exact ⟨rfl, o1.below⟩
  · have hN0 : ((nl N : Int) == 0) = false := by have := nl_pos h0; simp; omega
    rw [decOf_pos h0]
    have LD := dg_words N
    have HL : Hid (nl N ≤ 1000000 ∧ (dg N).length ≤ 10000000) := ⟨lN, by omega⟩
    clear h0 LD lN
    go_enter Tryd.func49, Tryd.ntmps49
    go_wp2_with (go_at_call 34; (with_reducible refine Calls.mono T ?_); rintro e w1 ⟨a1, c1, rfl, o1⟩)
    clear T hN0
    go_loopg [3, 4, 5, 6, 7] N (fun X s3 s4 s5 s6 s7 v => ∃ (a3 : Option Addr) (c3 : Nat) (l : List UInt8), s3 = .slice a3 (nl X) c3 ∧ s4 = .string ⟨l.toArray⟩ ∧ Own w v (.slice a3 (nl X) c3) (nl X) (natOf X) ∧ dg X ++ l = dg N ∧ nl X ≤ 1000000)
    case atStart => exact ⟨_, _, [], rfl, rfl, o1, by simp, HL.out.1⟩
    case round =>
      obtain ⟨a3, c3, l, rfl, rfl, o3, hd, hl⟩ := hrel
      clear o1
      rcases Nat.eq_zero_or_pos gk with h0 | h0
      · subst h0
        rw [dg_zero, List.nil_append] at hd
        rw [nl_zero] at o3 ⊢
        have HD : Hid (l = dg N) := hd
        clear hd hl
        go_wp2
        go_ret
        exact ⟨by rw [← HD.out]; rfl, o3.below⟩
      · have S := ref_small4 a3 (nl gk) c3 (natOf gk) 10 wr o3.words (wd_natOf gk) (by omega) (by omega) (by omega)
        rw [val_natOf, show (10 : Int).toNat = 10 from rfl] at S
        unfold AnsSmall at S
        have hp : 0 < (nl gk : Int) := by have := nl_pos h0; omega
        have HX : Hid (dg gk ++ l = dg N ∧ 0 < gk ∧ nl gk ≤ 1000000) := ⟨hd, h0, hl⟩
        have hls : (1 : Int) + l.length ≤ 9223372036854775807 := by
          have := congrArg List.length hd
          rw [List.length_append] at this
          have := HL.out.2
          omega
        clear hd h0 hl
        obtain ⟨r, hr, r0, r1⟩ : ∃ r : Int, ((gk % 10 : Nat) : Int) = r ∧ 0 ≤ r ∧ r < 10 := ⟨_, rfl, by omega, by omega⟩
        rw [hr] at S
        have CV := fun v => conv_byte1 v (UInt8.ofNat (48 + gk % 10)) (48 + r) (by rw [digit_nat]; omega)
        have hdg := dg_pos HX.out.2.1
        generalize UInt8.ofNat (48 + gk % 10) = d at CV hdg
        have HG : Hid (dg gk = dg (gk / 10) ++ [d]) := hdg
        clear hr hdg
        go_wp2_with (go_at_call 70; (with_reducible refine Calls.mono S ?_); rintro e w2 ⟨a4, c4, rfl, o4⟩)
        obtain ⟨x1, x2, x3⟩ := HX.out
        go_roundg (gk / 10)
        case measure => omega
        case rel => exact ⟨a4, c4, d :: l, rfl, by rw [ByteArray.mk_append_mk]; simp, (o4.outer o3.below).alloc _, by rw [← x1, HG.out]; simp, Nat.le_trans (nl_mono (by omega)) x3⟩

/-- What Parse tells: the number, and the error. -/
def pnum (l : List UInt8) : Nat := if l.length ≤ 1000 ∧ Num l then valD l else 0
def perr (l : List UInt8) : Int := if 1000 < l.length then 4 else if Num l then 0 else 2
/-- What Parse answers. -/
def AnsP (W : World) (N : Nat) (E : Int) (e : Ending) (w' : World) : Prop := ∃ a c, e = .returned (.tuple #[.slice a (nl N) c, .int .i64 E]) ∧ Own W w' (.slice a (nl N) c) (nl N) (natOf N)

theorem ansP_no {W w' : World} {E : Int} (h : Below W.heap.size W w') : AnsP W 0 E (.returned (.tuple #[.slice none 0 0, .int .i64 E])) w' :=
  ⟨none, 0, by rw [nl_zero], by rw [nl_zero, natOf_zero]; exact Own.nil h⟩
theorem pnum_long {l : List UInt8} (h : 1000 < l.length) : pnum l = 0 := if_neg (by omega)
theorem perr_long {l : List UInt8} (h : 1000 < l.length) : perr l = 4 := if_pos h
theorem pnum_no {l : List UInt8} (h : ¬ Num l) : pnum l = 0 := if_neg (by rintro ⟨-, e⟩; exact h e)
theorem perr_no {l : List UInt8} (h1 : l.length ≤ 1000) (h : ¬ Num l) : perr l = 2 := by unfold perr; rw [if_neg (by omega), if_neg h]
theorem pnum_ok {l : List UInt8} (h1 : l.length ≤ 1000) (h : Num l) : pnum l = valD l := if_pos ⟨h1, h⟩
theorem perr_ok {l : List UInt8} (h1 : l.length ≤ 1000) (h : Num l) : perr l = 0 := by unfold perr; rw [if_neg (by omega), if_pos h]

theorem byte_eq48 {c : UInt8} (h : ((c.toNat : Int) == 48) = true) : c = 48 := by
  have h1 : (c.toNat : Int) = 48 := by simpa using h
  refine UInt8.toNat_inj.1 ?_
  show c.toNat = 48
  omega
theorem drop_byte (s : ByteArray) (t : Nat) (h : t < s.size) : s.data.toList.drop t = s[t] :: s.data.toList.drop (t + 1) := by
  rw [List.drop_eq_getElem_cons (by simpa using h)]; rfl
theorem nl_ten (j : Nat) : nl (10 ^ j) ≤ j + 1 := by
  refine nl_le _ _ ?_
  have h : (10 : Nat) ^ j ≤ 4294967296 ^ j := Nat.pow_le_pow_left (by omega) j
  have h2 : (4294967296 : Nat) ^ j < 4294967296 ^ (j + 1) := Nat.pow_lt_pow_right (by omega) (by omega)
  omega
theorem nl_digits {l : List UInt8} (h : DigS l) : nl (valD l) ≤ l.length + 1 := Nat.le_trans (nl_mono (Nat.le_of_lt (valD_lt h))) (nl_ten _)

set_option maxHeartbeats 4000000 in
theorem ref_parse (s : ByteArray) (w : World) (hs : s.size ≤ maxLen) :
    Calls Tryd.prog 47 #[.string s] w (AnsP w (pnum s.data.toList) (perr s.data.toList)) := by
  unfold maxLen at hs
  have hsz : s.data.toList.length = s.size := by simp
  by_cases h1 : 1000 < s.size
  · rw [pnum_long (by omega), perr_long (by omega)]
    clear hsz
    go_enter Tryd.func47, Tryd.ntmps47
    go_wp2
    go_ret2
    exact ansP_no (Below.refl _ _)
  have h1' : ¬ (1000 : Int) < (s.size : Int) := by omega
  by_cases h2 : s.size = 0
  · have hn : ¬ Num s.data.toList := fun h => h.1 (List.eq_nil_of_length_eq_zero (by omega))
    rw [pnum_no hn, perr_no (by omega) hn]
    clear hsz hs
    go_enter Tryd.func47, Tryd.ntmps47
    go_wp2
    go_ret2
    exact ansP_no (Below.refl _ _)
  have h2' : ((s.size : Int) == 0) = false := by rw [beq_eq_false_iff_ne]; omega
  have L1 : Own w (w.alloc (.cells #[.int .u32 1] 61)) (.slice (some ⟨w.heap.size, 0, none⟩) 1 1) 1 [1] := own_lit w w [1] 1 (Below.refl _ _) rfl (by decide)
  go_enter Tryd.func47, Tryd.ntmps47
  go_wp2
  obtain ⟨n1, l1⟩ := nat_word1 (x := 1) (by omega) (by omega)
  go_loopg [4, 5, 6] s.size (fun k s4 s5 s6 v => ∃ (a4 : Option Addr) (c4 : Nat) (a5 : Option Addr) (c5 : Nat) (n4 n5 : Nat), k ≤ s.size ∧ s4 = .slice a4 n4 c4 ∧ s5 = .slice a5 n5 c5 ∧ s6 = .int .i64 ((k : Int) - 1) ∧ n4 = nl (valD (s.data.toList.drop k)) ∧ n5 = nl (10 ^ (s.size - k)) ∧ Own w v (.slice a4 n4 c4) n4 (natOf (valD (s.data.toList.drop k))) ∧ Own w v (.slice a5 n5 c5) n5 (natOf (10 ^ (s.size - k))) ∧ DigS (s.data.toList.drop k))
  case atStart =>
    have e : s.data.toList.drop s.size = [] := List.drop_of_length_le (by simp)
    refine ⟨none, 0, _, _, _, _, Nat.le_refl _, rfl, rfl, rfl, ?_, ?_, ?_, ?_, ?_⟩
    · rw [e, valD_nil, nl_zero]
    · rw [Nat.sub_self, Nat.pow_zero, l1]
    · rw [e, valD_nil, natOf_zero]; exact Own.nil L1.below
    · rw [Nat.sub_self, Nat.pow_zero, n1]; exact L1
    · rw [e]; intro c hc; cases hc
  case round =>
    obtain ⟨a4, c4, a5, c5, n4, n5, hk, rfl, rfl, rfl, e4, e5, o4, o5, hd⟩ := hrel
    clear L1 n1 l1
    have HD : Hid (DigS (s.data.toList.drop gk)) := hd
    cases gk with
    | zero =>
      rw [List.drop_zero] at e4 o4 hd HD
      subst e4
      have HL : Hid (s.data.toList.length = s.size) := hsz
      have hpos : 0 < s.size := by omega
      have hhd : s.data.toList.head? = some s[0] := by
        have := drop_byte s 0 hpos
        rw [List.drop_zero] at this
        rw [this]; rfl
      rw [show ((0 : Nat) : Int) - 1 = -1 from rfl]
      clear e5 o5 hsz
      by_cases hc : ((s[0].toNat : Int) == 48) = true
      · have e48 := byte_eq48 hc
        by_cases hl : (1 : Int) < (s.size : Int)
        · have hn : ¬ Num s.data.toList := fun h => by
            have := h.2.2 (by rw [hhd, e48])
            have := HL.out
            omega
          have HQ : Hid (pnum s.data.toList = 0 ∧ perr s.data.toList = 2) := ⟨pnum_no hn, perr_no (by have := HL.out; omega) hn⟩
          clear hn hd HD hhd e48 h2 hs
          go_wp2
          go_ret2
          rw [HQ.out.1, HQ.out.2]
          exact ansP_no o4.below
        · have hn : Num s.data.toList := ⟨fun e => (by rw [e] at hhd; cases hhd), hd, fun _ => (by have := HL.out; omega)⟩
          have HQ : Hid (pnum s.data.toList = valD s.data.toList ∧ perr s.data.toList = 0) := ⟨pnum_ok (by have := HL.out; omega) hn, perr_ok (by have := HL.out; omega) hn⟩
          clear hn hd HD hhd e48 h2 hs
          go_wp2
          go_ret2
          rw [HQ.out.1, HQ.out.2]
          exact ⟨_, _, rfl, o4⟩
      · have hc' : ((s[0].toNat : Int) == 48) = false := by simpa using hc
        have hn : Num s.data.toList := by
          refine ⟨fun e => (by rw [e] at hhd; cases hhd), hd, fun e => ?_⟩
          rw [hhd] at e
          have := Option.some.inj e
          rw [this] at hc
          exact absurd rfl hc
        have HQ : Hid (pnum s.data.toList = valD s.data.toList ∧ perr s.data.toList = 0) := ⟨pnum_ok (by have := HL.out; omega) hn, perr_ok (by have := HL.out; omega) hn⟩
        clear hn hd HD hhd h2 hs hc
        go_wp2
        go_ret2
        rw [HQ.out.1, HQ.out.2]
        exact ⟨_, _, rfl, o4⟩
    | succ t =>
      have ht : t < s.size := by omega
      have hdr := drop_byte s t ht
      rw [show ((t + 1 : Nat) : Int) - 1 = t by omega]
      by_cases hc : 48 ≤ (s[t].toNat : Int) ∧ (s[t].toNat : Int) ≤ 57
      · obtain ⟨c0, c1⟩ := hc
        have HV : Hid (valD (s.data.toList.drop t) = 10 ^ (s.size - (t + 1)) * (s[t].toNat - 48) + 0 + valD (s.data.toList.drop (t + 1))) := by
          show _ = _
          rw [hdr, valD_cons, List.length_drop, hsz, Nat.mul_comm]; omega
        have HP : Hid (10 ^ (s.size - t) = 10 ^ (s.size - (t + 1)) * 10 + 0) := by
          show _ = _
          rw [← Nat.pow_succ]; congr 1; omega
        have HD2 : Hid (DigS (s.data.toList.drop t)) := by
          show DigS _
          rw [hdr, digS_cons]; exact ⟨by omega, hd⟩
        have b4 := nl_digits hd
        rw [List.length_drop, hsz] at b4
        have b5 := nl_ten (s.size - (t + 1))
        have O1 := fun v (p : IsWords v (.slice a5 n5 c5) (natOf (10 ^ (s.size - (t + 1))))) => ref_one a5 n5 c5 _ ((s[t].toNat : Int) - 48) 0 v p (wd_natOf _) (by omega) (by omega) (by omega) (by omega) (by omega)
        have O2 := fun v (p : IsWords v (.slice a5 n5 c5) (natOf (10 ^ (s.size - (t + 1))))) => ref_one a5 n5 c5 _ 10 0 v p (wd_natOf _) (by omega) (by omega) (by omega) (by omega) (by omega)
        simp only [val_natOf, show (0 : Int).toNat = 0 from rfl, show (10 : Int).toNat = 10 from rfl, show ((s[t].toNat : Int) - 48).toNat = s[t].toNat - 48 by omega] at O1 O2
        rw [← HP.out] at O2
        have b6 : nl (10 ^ (s.size - (t + 1)) * (s[t].toNat - 48) + 0) ≤ 2000 := by
          have h1 : 10 ^ (s.size - (t + 1)) * (s[t].toNat - 48) + 0 ≤ 10 ^ (s.size - t) := by
            rw [HP.out]; exact Nat.add_le_add_right (Nat.mul_le_mul_left _ (by omega)) 0
          exact Nat.le_trans (nl_mono h1) (Nat.le_trans (nl_ten _) (by omega))
        have AD := fun v a1 c1 (p : IsWords v (.slice a4 n4 c4) (natOf (valD (s.data.toList.drop (t + 1))))) (q : IsWords v (.slice a1 (nl (10 ^ (s.size - (t + 1)) * (s[t].toNat - 48) + 0)) c1) (natOf (10 ^ (s.size - (t + 1)) * (s[t].toNat - 48) + 0))) => ref_nadd _ _ _ _ _ _ _ _ v p (wd_natOf _) q (wd_natOf _) (by omega) (by omega)
        simp only [val_natOf] at AD
        rw [Nat.add_comm (valD _), ← HV.out] at AD
        unfold Ans at O1 O2 AD
        clear HV HP
        generalize 10 ^ (s.size - (t + 1)) * (s[t].toNat - 48) + 0 = K1 at O1 AD b6
        generalize 10 ^ (s.size - (t + 1)) = K2 at O1 O2 o5 e5 b5
        generalize hK3 : 10 ^ (s.size - t) = K3 at O2
        generalize valD (s.data.toList.drop (t + 1)) = K4 at e4 o4 b4 AD
        generalize hK5 : valD (s.data.toList.drop t) = K5 at AD
        have HK : Hid (10 ^ (s.size - t) = K3 ∧ valD (s.data.toList.drop t) = K5) := ⟨hK3, hK5⟩
        clear hK3 hK5 hdr hd HD hsz hs b4 b5 b6 e4 e5 h2
        go_wp2_with (first
          | (go_at_call 62; (with_reducible refine Calls.mono (O1 _ o5.words) ?_); rintro e w2 ⟨a6, c6, rfl, o6⟩; have p4 := o4.more o6.below; have p5 := o5.more o6.below)
          | (go_at_call 41; (with_reducible refine Calls.mono (AD _ _ _ p4.words o6.words) ?_); rintro e w3 ⟨a7, c7, rfl, o7⟩; have q5 := p5.more o7.below)
          | (go_at_call 62; (with_reducible refine Calls.mono (O2 _ q5.words) ?_); rintro e w4 ⟨a8, c8, rfl, o8⟩; have r7 := (o7.more o8.below).outer p4.below; have r8 := o8.outer q5.below))
        obtain ⟨k3, k5⟩ := HK.out
        go_roundg t
        case measure => omega
        case rel => exact ⟨_, _, _, _, _, _, by omega, rfl, rfl, by go_num, by rw [k5], by rw [k3], by rw [k5]; exact r7, by rw [k3]; exact r8, HD2.out⟩
      · have hn : ¬ Num s.data.toList := fun h => by
          have := h.2.1 s[t] (by rw [← List.take_append_drop t s.data.toList, hdr]; simp)
          omega
        have HQ : Hid (pnum s.data.toList = 0 ∧ perr s.data.toList = 2) := ⟨pnum_no hn, perr_no (by omega) hn⟩
        rcases (by omega : (s[t].toNat : Int) < 48 ∨ (¬ (s[t].toNat : Int) < 48 ∧ 57 < (s[t].toNat : Int))) with c0 | ⟨c0, c1⟩
        all_goals
          clear hn hdr hd HD hsz hs hc e4 e5 o5 h2
          go_wp2
          go_ret2
          rw [HQ.out.1, HQ.out.2]
          exact ansP_no o4.below

theorem decOf_words {A n : Nat} (h : nl A ≤ n) (hn : 1 ≤ n) : (decOf A).length ≤ 10 * n := by
  rcases Nat.eq_zero_or_pos A with rfl | h0
  · rw [decOf_zero]; simp; omega
  · rw [decOf_pos h0]; have := dg_words A; omega

theorem mk_inj {l m : List UInt8} : (ByteArray.mk l.toArray = ByteArray.mk m.toArray) ↔ l = m := by
  rw [ByteArray.mk.injEq]; simp
theorem mk_data (s : ByteArray) : ByteArray.mk s.data.toList.toArray = s := by cases s; simp
end Go.Proofs.YtokjhpjglpgmcaaDoor
/-
  Contracts of the document's own answers of layer 7 (package talwegref07: Cmp, Print, Parse): as integers and texts; memory that was there stays, and what is answered is the call's own.
-/
namespace Go.Proofs.YtokjhpjglpgmcaaDoor
open Go.RowKit

theorem sgn_signs {x y : Int} : (x < 0 ∧ y < 0 ∧ sgn x y = - sgn (x.natAbs : Int) y.natAbs) ∨ (x < 0 ∧ ¬ y < 0 ∧ sgn x y = -1) ∨ (¬ x < 0 ∧ y < 0 ∧ sgn x y = 1) ∨ (¬ x < 0 ∧ ¬ y < 0 ∧ sgn x y = sgn (x.natAbs : Int) y.natAbs) := by
  rcases Int.lt_or_le x 0 with h1 | h1 <;> rcases Int.lt_or_le y 0 with h2 | h2
  · refine .inl ⟨h1, h2, ?_⟩
    rcases Int.lt_trichotomy x y with h | h | h
    · rw [sgn_lt h, sgn_gt (by omega)]
    · rw [sgn_eq h, sgn_eq (by omega)]; rfl
    · rw [sgn_gt h, sgn_lt (by omega)]; rfl
  · exact .inr (.inl ⟨h1, by omega, sgn_lt (by omega)⟩)
  · exact .inr (.inr (.inl ⟨by omega, h2, sgn_gt (by omega)⟩))
  · refine .inr (.inr (.inr ⟨by omega, by omega, ?_⟩))
    rw [show ((x.natAbs : Nat) : Int) = x by omega, show ((y.natAbs : Nat) : Int) = y by omega]

theorem sgn_range (x y : Int) : -1 ≤ sgn x y ∧ sgn x y ≤ 1 := by
  unfold sgn; split
  · omega
  · split <;> omega

set_option maxHeartbeats 4000000 in
theorem ref_icmp {s : Bool} {a : Option Addr} {n c : Nat} {xs : List Int} {t : Bool} {b : Option Addr} {m d : Nat} {ys : List Int} {w : World} (h : IsWords w (.slice a n c) xs) (hx : Wd xs) (k : IsWords w (.slice b m d) ys) (hy : Wd ys) (hn : n ≤ 100000000) (hm : m ≤ 100000000) (g : Int) (hv : sgn (iv s (val xs)) (iv t (val ys)) = g) :
    Calls Tryd.prog 20 #[.agg #[.bool s, .slice a n c], .agg #[.bool t, .slice b m d]] w fun e w' => e = .returned (.int .i64 g) ∧ Below w.heap.size w w' := by
  have l1 : nl (iv s (val xs)).natAbs ≤ n := by rw [iv_abs]; exact nl_small hx n (by rw [h.len]; omega)
  have l2 : nl (iv t (val ys)).natAbs ≤ m := by rw [iv_abs]; exact nl_small hy m (by rw [k.len]; omega)
  obtain ⟨b1, b2, bV, hs⟩ := boxes2 w #[.bool s, .slice a n c] #[.bool t, .slice b m d] 24 24
  have F1 := fun v (hb : Below w.heap.size w v) => ref_ifix (s := s) (h.below hb) hx (by omega) _ rfl
  have F2 := fun v (hb : Below w.heap.size w v) => ref_ifix (s := t) (k.below hb) hy (by omega) _ rfl
  unfold AnsI at F1 F2
  have C := fun v a1 c1 a2 c2 (p : IsWords v (.slice a1 (nl (iv s (val xs)).natAbs) c1) (natOf (iv s (val xs)).natAbs)) (q : IsWords v (.slice a2 (nl (iv t (val ys)).natAbs) c2) (natOf (iv t (val ys)).natAbs)) => ref_cmp _ _ _ _ _ _ _ _ v p (wd_natOf _) q (wd_natOf _) (by omega) (by omega)
  simp only [val_natOf] at C
  clear h k hx hy hn hm l1 l2
  generalize iv s (val xs) = x at *
  generalize iv t (val ys) = y at *
  have hr := sgn_range (x.natAbs : Int) y.natAbs
  rcases sgn_signs (x := x) (y := y) with ⟨h1, h2, e⟩ | ⟨h1, h2, e⟩ | ⟨h1, h2, e⟩ | ⟨h1, h2, e⟩
  case' inl => rw [decide_eq_true h1] at F1; rw [decide_eq_true h2] at F2
  case' inr.inl => rw [decide_eq_true h1] at F1; rw [decide_eq_false h2] at F2
  case' inr.inr.inl => rw [decide_eq_false h1] at F1; rw [decide_eq_true h2] at F2
  case' inr.inr.inr => rw [decide_eq_false h1] at F1; rw [decide_eq_false h2] at F2
  all_goals
    rw [e] at hv
    generalize sgn (x.natAbs : Int) y.natAbs = cc at C hv hr
    subst hv
    clear h1 h2 e
    generalize x.natAbs = N1 at *
    generalize y.natAbs = N2 at *
    go_enter Tryd.func20, Tryd.ntmps20
    go_wp2_with (first
      | (go_at_call 14; (with_reducible refine Calls.mono (F1 _ bV) ?_); rintro e w1 ⟨a1, c1, rfl, o1⟩; have B1 := fun q => BoxC.new w1 #[.bool q, .slice a1 (nl N1) c1] 24; have u0 := fun o => ((b2.more o1.below).alloc o).cells2.1; have u1 := fun o => ((b2.more o1.below).alloc o).cells2.2.1; have d1 := fun o => (below_more bV o1.below).alloc (below_more bV o1.below).size o)
      | (go_at_call 14; (with_reducible refine Calls.mono (F2 _ (d1 _)) ?_); rintro e w2 ⟨a2, c2, rfl, o2⟩; have v0 := fun o => (((B1 _).more o2.below).alloc o).cells2.1; have v1 := fun o => (((B1 _).more o2.below).alloc o).cells2.2.1; have p1 := fun o => (((o1.alloc _).more o2.below).alloc o).words; have p2 := fun o => (o2.alloc o).words; have d2 := fun o => (below_more (d1 _) o2.below).alloc (below_more (d1 _) o2.below).size o)
      | (go_at_call 38; (with_reducible refine Calls.mono (C _ _ _ _ _ (p1 _) (p2 _)) ?_); rintro e w3 ⟨rfl, rfl⟩))
    go_ret
    exact ⟨rfl, d2 _⟩

/-- The text of an integer. -/
def decI (z : Int) : List UInt8 := if z < 0 then 45 :: decOf z.natAbs else decOf z.natAbs

set_option maxHeartbeats 4000000 in
theorem ref_iprint {s : Bool} {a : Option Addr} {n c : Nat} {zs : List Int} {w : World} (h : IsWords w (.slice a n c) zs) (hz : Wd zs) (hn : n ≤ 1000000) (z : Int) (hv : iv s (val zs) = z) :
    Calls Tryd.prog 29 #[.agg #[.bool s, .slice a n c]] w fun e w' => e = .returned (.string ⟨(decI z).toArray⟩) ∧ Below w.heap.size w w' := by
  have F1 := fun v (hb : Below w.heap.size w v) => ref_ifix (s := s) (h.below hb) hz (by omega) z hv
  have l1 : nl z.natAbs ≤ n := by rw [← hv, iv_abs]; exact nl_small hz n (by rw [h.len]; omega)
  have P := fun v a1 c1 (p : IsWords v (.slice a1 (nl z.natAbs) c1) (natOf z.natAbs)) => ref_print p (wd_natOf _) (by omega) _ (val_natOf _)
  have ld := decOf_words (n := n + 1) (A := z.natAbs) (by omega) (by omega)
  have hsz : (1 : Int) + (decOf z.natAbs).length ≤ 9223372036854775807 := by omega
  obtain ⟨b1, bV, hs⟩ := boxes1 w #[.bool s, .slice a n c] 24
  unfold AnsI at F1
  clear h hz hn hv l1 ld
  by_cases h0 : z < 0
  case' pos =>
    have e : decI z = 45 :: decOf z.natAbs := if_pos h0
    rw [decide_eq_true h0] at F1
    have HA : Hid ((⟨#[45]⟩ ++ ⟨(decOf z.natAbs).toArray⟩ : ByteArray) = ⟨(45 :: decOf z.natAbs).toArray⟩) := by
      show _ = _
      rw [ByteArray.mk_append_mk]; simp
  case' neg =>
    have e : decI z = decOf z.natAbs := if_neg h0
    rw [decide_eq_false h0] at F1
  all_goals
    rw [e]
    clear e
    generalize decOf z.natAbs = l at *
    generalize z.natAbs = N at *
    go_enter Tryd.func29, Tryd.ntmps29
    go_wp2_with (first
      | (go_at_call 14; (with_reducible refine Calls.mono (F1 _ bV) ?_); rintro e w1 ⟨a1, c1, rfl, o1⟩; have d1 := fun o => (below_more bV o1.below).alloc (below_more bV o1.below).size o; have p1 := fun o => (o1.alloc o).words)
      | (go_at_call 49; (with_reducible refine Calls.mono (P _ _ _ (p1 _)) ?_); rintro e w2 ⟨rfl, b2⟩))
    go_ret
    first
      | exact ⟨rfl, below_more (d1 _) b2⟩
      | exact ⟨by rw [← HA.out]; rfl, below_more (d1 _) b2⟩

/-- A text without its sign; whether it has one. -/
def stripI (l : List UInt8) : List UInt8 := if l.head? = some 45 then l.tail else l
def minusI (l : List UInt8) : Bool := decide (l.head? = some 45)
/-- The integer of a text, and the error. -/
def znum (l : List UInt8) : Int := iv (minusI l) (pnum (stripI l))
def zerr (l : List UInt8) : Int := perr (stripI l)
/-- What Parse answers. -/
def AnsIP (W : World) (z E : Int) (e : Ending) (w' : World) : Prop :=
  ∃ a c, e = .returned (.tuple #[.agg #[.bool (decide (z < 0)), .slice a (nl z.natAbs) c], .int .i64 E]) ∧ Own W w' (.slice a (nl z.natAbs) c) (nl z.natAbs) (natOf z.natAbs)

theorem extract_tail (s : ByteArray) : (s.extract 1 s.size).data.toList = s.data.toList.tail := by
  rw [ByteArray.data_extract, Array.toList_extract]
  simp
  exact List.take_of_length_le (by simp)
theorem pnum_err {l : List UInt8} (h : perr l ≠ 0) : pnum l = 0 := by
  by_cases h1 : l.length ≤ 1000 ∧ Num l
  · exact absurd (perr_ok h1.1 h1.2) h
  · exact if_neg h1
theorem iv_zero (s : Bool) : iv s 0 = 0 := by cases s <;> rfl
theorem pnum_words (l : List UInt8) : nl (pnum l) ≤ 1001 := by
  unfold pnum; split
  · rename_i h; exact Nat.le_trans (nl_digits h.2.2.1) (by omega)
  · rw [nl_zero]; omega

set_option maxHeartbeats 4000000 in
theorem ref_iparse (s : ByteArray) (w : World) (hs : s.size ≤ maxLen) :
    Calls Tryd.prog 27 #[.string s] w (AnsIP w (znum s.data.toList) (zerr s.data.toList)) := by
  obtain ⟨b1, bV, hb⟩ := boxes1 w #[.bool false, .slice none 0 0] 24
  have hs' := hs
  unfold maxLen at hs'
  obtain ⟨g, u, hu, hg, hg2, hsz⟩ : ∃ (g : Bool) (u : ByteArray), stripI s.data.toList = u.data.toList ∧ minusI s.data.toList = g ∧ (g = true ∧ 0 < s.size ∧ (∀ h : 0 < s.size, ((s[0].toNat : Int) == 45) = true) ∧ s.extract 1 s.size = u ∨ g = false ∧ u = s ∧ (s.size = 0 ∨ 0 < s.size ∧ ∀ h : 0 < s.size, ((s[0].toNat : Int) == 45) = false)) ∧ u.size ≤ maxLen := by
    rcases Nat.eq_zero_or_pos s.size with h0 | h0
    · have e : s.data.toList = [] := List.eq_nil_of_length_eq_zero (by simpa using h0)
      exact ⟨false, s, by rw [e]; rfl, by rw [e]; rfl, .inr ⟨rfl, rfl, .inl h0⟩, hs⟩
    · have hh : s.data.toList.head? = some s[0] := by
        have := drop_byte s 0 h0
        rw [List.drop_zero] at this
        rw [this]; rfl
      by_cases hc : s[0] = 45
      · refine ⟨true, s.extract 1 s.size, ?_, ?_, .inl ⟨rfl, h0, fun _ => by rw [hc]; rfl, rfl⟩, ?_⟩
        · rw [extract_tail]; unfold stripI; rw [if_pos (by rw [hh, hc])]
        · unfold minusI; rw [hh, hc]; rfl
        · rw [ByteArray.size_extract]; unfold maxLen at hs ⊢; omega
      · refine ⟨false, s, ?_, ?_, .inr ⟨rfl, rfl, .inr ⟨h0, fun _ => ?_⟩⟩, hs⟩
        · unfold stripI; rw [if_neg (by rw [hh]; intro e; exact hc (Option.some.inj e))]
        · unfold minusI; rw [hh]; simp [hc]
        · rw [beq_eq_false_iff_ne]
          intro e
          refine hc (UInt8.toNat_inj.1 ?_)
          show s[0].toNat = 45
          omega
  have P := fun v => ref_parse u v hsz
  unfold znum zerr
  rw [hu, hg]
  have lp := pnum_words u.data.toList
  have FX := fun v a1 c1 (p : IsWords v (.slice a1 (nl (pnum u.data.toList)) c1) (natOf (pnum u.data.toList))) => ref_ifix (s := g) p (wd_natOf _) (by omega) (iv g (pnum u.data.toList)) (by rw [val_natOf])
  have hE : perr u.data.toList = 0 ∨ (perr u.data.toList != 0) = true ∧ pnum u.data.toList = 0 := by
    by_cases h : perr u.data.toList = 0
    · exact .inl h
    · exact .inr ⟨by simpa using h, pnum_err h⟩
  unfold AnsP at P
  unfold AnsI at FX
  generalize pnum u.data.toList = K at *
  generalize perr u.data.toList = E at *
  clear hu hg hs lp hsz
  have HZ : Hid (K = 0 → iv g K = 0) := fun e => by rw [e]; exact iv_zero g
  rcases hE with rfl | ⟨hE, hK⟩
  · generalize iv g K = z at FX HZ ⊢
    unfold AnsIP
    generalize decide (z < 0) = r at FX ⊢
    generalize z.natAbs = N at FX ⊢
    clear HZ
    rcases hg2 with ⟨rfl, h0, hc, hu⟩ | ⟨rfl, rfl, hz⟩
    case' inl =>
      have hc := hc h0
      have h0' : (0 : Int) < s.size := by omega
      have h1' : (1 : Int) ≤ s.size := by omega
    case' inr =>
      rcases hz with hz | ⟨h0, hc⟩
    case' inr.inl => have h0' : ¬ (0 : Int) < u.size := by omega
    case' inr.inr =>
      have hc := hc h0
      have h0' : (0 : Int) < u.size := by omega
    all_goals
      go_enter Tryd.func27, Tryd.ntmps27
      go_wp2_with (first
        | (go_at_call 47; (with_reducible refine Calls.mono (P _) ?_); rintro e w1 ⟨a1, c1, rfl, o1⟩)
        | (go_at_call 14; (with_reducible refine Calls.mono (FX w1 _ _ o1.words) ?_); rintro e w2 ⟨a2, c2, rfl, o2⟩; obtain ⟨z0, z1, f0, f1⟩ := ((b1.more o1.below).more o2.below).cells2))
      have B1 := below_more bV o1.below
      have hs1 : w.heap.size < w1.heap.size := Nat.lt_of_lt_of_le hb o1.below.size
      have q := fun x y => ((o2.above B1).set (k := w.heap.size) (by omega) hs1 0 x).set (k := w.heap.size) (by omega) hs1 1 y
      exact bodyPost_ret (v := .tuple #[.agg #[.bool r, .slice a2 (nl N) c2], .int .i64 0]) (by simp [results, Tryd.results27, go_sem, z0, z1]) rfl ⟨a2, c2, rfl, (q _ _).own (by omega)⟩
  · rw [HZ.out hK]
    subst hK
    clear FX HZ
    simp only [nl_zero] at P
    rcases hg2 with ⟨rfl, h0, hc, hu⟩ | ⟨rfl, rfl, hz⟩
    case' inl =>
      have hc := hc h0
      have h0' : (0 : Int) < s.size := by omega
      have h1' : (1 : Int) ≤ s.size := by omega
    case' inr =>
      rcases hz with hz | ⟨h0, hc⟩
    case' inr.inr.inl => have h0' : ¬ (0 : Int) < u.size := by omega
    case' inr.inr.inr =>
      have hc := hc h0
      have h0' : (0 : Int) < u.size := by omega
    all_goals
      go_enter Tryd.func27, Tryd.ntmps27
      go_wp2_with (go_at_call 47; (with_reducible refine Calls.mono (P _) ?_); rintro e w1 ⟨a1, c1, rfl, o1⟩; obtain ⟨z0, z1, f0, f1⟩ := (b1.more o1.below).cells2)
      have B1 := below_more bV o1.below
      have q := fun x y => (B1.setCell (p := ⟨w.heap.size, 0, none⟩) (Nat.le_refl _) x).setCell (p := ⟨w.heap.size, 1, none⟩) (Nat.le_refl _) y
      exact bodyPost_ret (v := .tuple #[.agg #[.bool false, .slice none 0 0], .int .i64 E]) (by simp [results, Tryd.results27, go_sem, z0, z1]) rfl ⟨none, 0, by simp [nl_zero], by simpa [nl_zero, natOf_zero] using Own.nil (q _ _)⟩
end Go.Proofs.YtokjhpjglpgmcaaDoor
/-
  What the statements over integers ask of package whole (its contracts), and the chapter's examples by them: for whatever package whole keeps these; memory that was there stays.
-/
namespace Go.Proofs.YtokjhpjglpgmcaaDoor
open Go.RowKit

/-- An Int that reads as the integer x. -/
def RI (w : World) (s : Bool) (a : Option Addr) (n c : Nat) (x : Int) : Prop := ∃ zs, IsWords w (.slice a n c) zs ∧ Wd zs ∧ n ≤ 100000 ∧ iv s (val zs) = x
theorem RI.below {w w' : World} {s : Bool} {a : Option Addr} {n c : Nat} {x : Int} (h : RI w s a n c x) (hb : Below w.heap.size w w') : RI w' s a n c x := by
  obtain ⟨zs, h1, h2⟩ := h; exact ⟨zs, h1.below hb, h2⟩
theorem iv_self (z : Int) : iv (decide (z < 0)) z.natAbs = z := by
  unfold iv; by_cases h : z < 0 <;> simp [h] <;> omega
theorem Own.ri {W w : World} {a : Option Addr} {c : Nat} {z : Int} (o : Own W w (.slice a (nl z.natAbs) c) (nl z.natAbs) (natOf z.natAbs)) (hb : nl z.natAbs ≤ 100000) : RI w (decide (z < 0)) a (nl z.natAbs) c z :=
  ⟨_, o.words, wd_natOf _, hb, by rw [val_natOf, iv_self]⟩

/-- Package whole's contracts. -/
structure WholeOk : Prop where
  right : ∀ {s : Bool} {a : Option Addr} {n c : Nat} {zs : List Int} {w : World}, IsWords w (.slice a n c) zs → Wd zs → n ≤ 100000 → ∀ r : Bool, decide (nl (val zs) = n ∧ decide (iv s (val zs) < 0) = s) = r →
    Calls Tryd.prog 10 #[.agg #[.bool s, .slice a n c]] w fun e w' => e = .returned (.bool r) ∧ Below w.heap.size w w'
  fix : ∀ {s : Bool} {a : Option Addr} {n c : Nat} {x : Int} {w : World}, RI w s a n c x → Calls Tryd.prog 13 #[.agg #[.bool s, .slice a n c]] w (AnsI w x)
  of : ∀ (n : Int) (w : World), -9223372036854775808 ≤ n → n < 9223372036854775808 → Calls Tryd.prog 17 #[.int .i64 n] w (AnsI w n)
  neg : ∀ {s : Bool} {a : Option Addr} {n c : Nat} {x : Int} {w : World}, RI w s a n c x → ∀ z, -x = z → Calls Tryd.prog 15 #[.agg #[.bool s, .slice a n c]] w (AnsI w z)
  cmp : ∀ {s : Bool} {a : Option Addr} {n c : Nat} {x : Int} {t : Bool} {b : Option Addr} {m d : Nat} {y : Int} {w : World}, RI w s a n c x → RI w t b m d y → ∀ g, sgn x y = g →
    Calls Tryd.prog 19 #[.agg #[.bool s, .slice a n c], .agg #[.bool t, .slice b m d]] w fun e w' => e = .returned (.int .i64 g) ∧ Below w.heap.size w w'
  add : ∀ {s : Bool} {a : Option Addr} {n c : Nat} {x : Int} {t : Bool} {b : Option Addr} {m d : Nat} {y : Int} {w : World}, RI w s a n c x → RI w t b m d y → ∀ z, x + y = z →
    Calls Tryd.prog 21 #[.agg #[.bool s, .slice a n c], .agg #[.bool t, .slice b m d]] w (AnsI w z)
  sub : ∀ {s : Bool} {a : Option Addr} {n c : Nat} {x : Int} {t : Bool} {b : Option Addr} {m d : Nat} {y : Int} {w : World}, RI w s a n c x → RI w t b m d y → ∀ z, x - y = z →
    Calls Tryd.prog 25 #[.agg #[.bool s, .slice a n c], .agg #[.bool t, .slice b m d]] w (AnsI w z)
  mul : ∀ {s : Bool} {a : Option Addr} {n c : Nat} {x : Int} {t : Bool} {b : Option Addr} {m d : Nat} {y : Int} {w : World}, RI w s a n c x → RI w t b m d y → ∀ z, x * y = z →
    Calls Tryd.prog 23 #[.agg #[.bool s, .slice a n c], .agg #[.bool t, .slice b m d]] w (AnsI w z)
  parse : ∀ (s : ByteArray) (w : World), s.size ≤ maxLen → Calls Tryd.prog 26 #[.string s] w (AnsIP w (znum s.data.toList) (zerr s.data.toList))
  print : ∀ {s : Bool} {a : Option Addr} {n c : Nat} {x : Int} {w : World}, RI w s a n c x → Calls Tryd.prog 28 #[.agg #[.bool s, .slice a n c]] w fun e w' => e = .returned (.string ⟨(decI x).toArray⟩) ∧ Below w.heap.size w w'

theorem nl_iadd (x y : Int) : nl (x + y).natAbs ≤ nl x.natAbs + nl y.natAbs + 1 := by
  refine nl_le _ _ ?_
  have e1 := lt_nl x.natAbs
  have e2 := lt_nl y.natAbs
  have e3 : 4294967296 ^ nl x.natAbs ≤ 4294967296 ^ (nl x.natAbs + nl y.natAbs) := Nat.pow_le_pow_right (by omega) (by omega)
  have e4 : 4294967296 ^ nl y.natAbs ≤ 4294967296 ^ (nl x.natAbs + nl y.natAbs) := Nat.pow_le_pow_right (by omega) (by omega)
  rw [Nat.pow_succ]
  generalize 4294967296 ^ (nl x.natAbs + nl y.natAbs) = p at *
  omega
theorem nl_imul (x y : Int) : nl (x * y).natAbs ≤ nl x.natAbs + nl y.natAbs := by rw [Int.natAbs_mul]; exact nl_mul _ _
theorem nl_ineg (x : Int) : nl (-x).natAbs = nl x.natAbs := by rw [Int.natAbs_neg]
theorem nl_isub (x y : Int) : nl (x - y).natAbs ≤ nl x.natAbs + nl y.natAbs + 1 := by
  have := nl_iadd x (-y)
  rw [nl_ineg] at this
  exact this

theorem nl_two (n : Int) (h : n.natAbs < 18446744073709551616) : nl n.natAbs ≤ 2 := nl_le 2 _ h

set_option maxHeartbeats 4000000 in
theorem whole_awake (K : WholeOk) (w : World) : Calls Tryd.prog 8 #[] w fun e w' => e = .returned (.bool true) ∧ Below w.heap.size w w' := by
  have P := fun v => K.parse ⟨#[45, 48]⟩ v (by decide)
  have e1 : znum (ByteArray.mk #[45, 48]).data.toList = 0 := by decide
  have e2 : zerr (ByteArray.mk #[45, 48]).data.toList = 0 := by decide
  rw [e1, e2] at P
  unfold AnsIP at P
  simp only [show decide ((0 : Int) < 0) = false from rfl, show (0 : Int).natAbs = 0 from rfl, nl_zero, natOf_zero] at P
  have O1 := fun v => K.of (-5) v (by omega) (by omega)
  have O2 := fun v => K.of 3 v (by omega) (by omega)
  have l1 := nl_two (-5) (by decide)
  have l2 := nl_two 3 (by decide)
  have l3 := nl_two (-2) (by decide)
  have A := fun v a1 c1 a2 c2 (p : RI v (decide ((-5 : Int) < 0)) a1 (nl (-5 : Int).natAbs) c1 (-5)) (q : RI v (decide ((3 : Int) < 0)) a2 (nl (3 : Int).natAbs) c2 3) => K.add p q (-2) (by omega)
  have Q := fun v a1 c1 (p : RI v (decide ((-2 : Int) < 0)) a1 (nl (-2 : Int).natAbs) c1 (-2)) => K.print p
  have R := fun v a1 c1 (p : IsWords v (.slice a1 0 c1) []) => K.right (s := false) p (fun _ h => by cases h) (by omega) true (decide_eq_true ⟨by rw [show val [] = 0 from rfl, nl_zero], by decide⟩)
  have e3 : decI (-2) = [45, 50] := by
    show (if (-2 : Int) < 0 then 45 :: decOf (-2 : Int).natAbs else decOf (-2 : Int).natAbs) = _
    rw [if_pos (by omega), show (-2 : Int).natAbs = valD [50] from rfl, decOf_valD (by decide)]
  rw [e3] at Q
  unfold AnsI at O1 O2 A
  simp only [show decide ((-5 : Int) < 0) = true from rfl, show decide ((3 : Int) < 0) = false from rfl, show decide ((-2 : Int) < 0) = true from rfl] at O1 O2 A Q
  have r1 := fun {W v : World} {a : Option Addr} {c : Nat} (o : Own W v (.slice a (nl (-5 : Int).natAbs) c) (nl (-5 : Int).natAbs) (natOf (-5 : Int).natAbs)) => o.ri (z := -5) (by omega)
  have r2 := fun {W v : World} {a : Option Addr} {c : Nat} (o : Own W v (.slice a (nl (3 : Int).natAbs) c) (nl (3 : Int).natAbs) (natOf (3 : Int).natAbs)) => o.ri (z := 3) (by omega)
  have r3 := fun {W v : World} {a : Option Addr} {c : Nat} (o : Own W v (.slice a (nl (-2 : Int).natAbs) c) (nl (-2 : Int).natAbs) (natOf (-2 : Int).natAbs)) => o.ri (z := -2) (by omega)
  simp only [show decide ((-5 : Int) < 0) = true from rfl, show decide ((3 : Int) < 0) = false from rfl, show decide ((-2 : Int) < 0) = true from rfl] at r1 r2 r3
  generalize (-5 : Int).natAbs = N1 at *
  generalize (3 : Int).natAbs = N2 at *
  generalize (-2 : Int).natAbs = N3 at *
  clear l1 l2 l3 e1 e2 e3 K
  go_enter Tryd.func8, Tryd.ntmps8
  go_wp2_with (first
    | (go_at_call 26; (with_reducible refine Calls.mono (P _) ?_); rintro e w1 ⟨a1, c1, rfl, o1⟩; have B1 := fun q => BoxC.new w1 #[.bool q, .slice a1 0 c1] 24; have t1 := fun o => o1.alloc o)
    | (go_at_call 17; (with_reducible refine Calls.mono (O1 _) ?_); rintro e w2 ⟨a2, c2, rfl, o2⟩)
    | (go_at_call 17; (with_reducible refine Calls.mono (O2 _) ?_); rintro e w3 ⟨a3, c3, rfl, o3⟩; have p3 := o2.more o3.below)
    | (go_at_call 21; (with_reducible refine Calls.mono (A _ _ _ _ _ (r1 p3) (r2 o3)) ?_); rintro e w4 ⟨a4, c4, rfl, o4⟩)
    | (go_at_call 28; (with_reducible refine Calls.mono (Q _ _ _ (r3 o4)) ?_); rintro e w5 ⟨rfl, b5⟩; have be := below_more (below_more (below_more o2.below o3.below) o4.below) b5; obtain ⟨y0, y1, -, -⟩ := ((B1 false).more be).cells2; have q5 := (t1 _).more be)
    | (go_at_call 10; (with_reducible refine Calls.mono (R _ _ _ q5.words) ?_); rintro e w6 ⟨rfl, b6⟩; have q6 := q5.more b6))
  go_ret
  exact ⟨rfl, q6.below⟩
end Go.Proofs.YtokjhpjglpgmcaaDoor
/-
  The walk of the statement WholeOrder, for whatever package whole keeps its contracts: it returns true; memory that was there stays.
-/
namespace Go.Proofs.YtokjhpjglpgmcaaDoor
open Go.RowKit

theorem came_ri {w : World} {s : Bool} {a : Option Addr} {len cap : Nat} {zs : List Int} (h : CameIn .u32 w a len cap zs) (hl : len ≤ 12) : ∃ x : Int, RI w s a len cap x ∧ nl x.natAbs ≤ 12 := by
  have P := came_words h
  have hw := came_wd h
  refine ⟨iv s (val (zs.take len)), ⟨_, P, hw, by omega, rfl⟩, ?_⟩
  rw [iv_abs]
  exact nl_small hw _ (by rw [P.len]; exact hl)

/-- Right of a right one. -/
theorem right_own (K : WholeOk) {W v : World} {a : Option Addr} {c : Nat} {z : Int} (o : Own W v (.slice a (nl z.natAbs) c) (nl z.natAbs) (natOf z.natAbs)) (hb : nl z.natAbs ≤ 100000) :
    Calls Tryd.prog 10 #[.agg #[.bool (decide (z < 0)), .slice a (nl z.natAbs) c]] v fun e w' => e = .returned (.bool true) ∧ Below v.heap.size v w' :=
  K.right o.words (wd_natOf _) hb true (decide_eq_true ⟨by rw [val_natOf], by rw [val_natOf, iv_self]⟩)

set_option maxHeartbeats 40000000 in
theorem walk_WholeOrder (K : WholeOk) (s0 : Bool) (a0 : Option Addr) (len0 cap0 : Nat) (z0 : List Int) (s1 : Bool) (a1 : Option Addr) (len1 cap1 : Nat) (z1 : List Int) (s2 : Bool) (a2 : Option Addr) (len2 cap2 : Nat) (z2 : List Int) (w : World)
    (w0 : CameIn .u32 w a0 len0 cap0 z0) (w1 : CameIn .u32 w a1 len1 cap1 z1) (w2 : CameIn .u32 w a2 len2 cap2 z2) :
    Calls Tryd.prog 5 #[.agg #[.bool s0, .slice a0 len0 cap0], .agg #[.bool s1, .slice a1 len1 cap1], .agg #[.bool s2, .slice a2 len2 cap2]] w fun e w' => e = .returned (.bool true) ∧ Below w.heap.size w w' := by
  obtain ⟨b0, b1, b2, bV, hs⟩ := boxes3 w #[.bool s0, .slice a0 len0 cap0] #[.bool s1, .slice a1 len1 cap1] #[.bool s2, .slice a2 len2 cap2] 24 24 24
  have AW := fun v => whole_awake K v
  by_cases hf : len0 ≤ 12 ∧ len1 ≤ 12
  case neg =>
    have F := fun v => ref_few a0 len0 cap0 a1 len1 cap1 12 v false (by simpa using hf)
    clear hf w0 w1 w2 K
    go_enter Tryd.func5, Tryd.ntmps5
    go_wp2_with (first
      | (go_at_call 8; (with_reducible refine Calls.mono (AW _) ?_); rintro e u0 ⟨rfl, c0⟩; obtain ⟨x0, x1, -, -⟩ := (b0.more c0).cells2; obtain ⟨y0, y1, -, -⟩ := (b1.more c0).cells2)
      | (go_at_call 9; (with_reducible refine Calls.mono (F _) ?_); rintro e v1 ⟨rfl, rfl⟩))
    go_ret
    exact ⟨rfl, below_more bV c0⟩
  case pos =>
  have F := fun v => ref_few a0 len0 cap0 a1 len1 cap1 12 v true (by simpa using hf)
  by_cases hf2 : len2 ≤ 12
  case neg =>
    clear hf w0 w1 w2 K
    go_enter Tryd.func5, Tryd.ntmps5
    go_wp2_with (first
      | (go_at_call 8; (with_reducible refine Calls.mono (AW _) ?_); rintro e u0 ⟨rfl, c0⟩; obtain ⟨x0, x1, -, -⟩ := (b0.more c0).cells2; obtain ⟨y0, y1, -, -⟩ := (b1.more c0).cells2; obtain ⟨t0, t1, -, -⟩ := (b2.more c0).cells2)
      | (go_at_call 9; (with_reducible refine Calls.mono (F _) ?_); rintro e v1 ⟨rfl, rfl⟩))
    go_ret
    exact ⟨rfl, below_more bV c0⟩
  case pos =>
  obtain ⟨X, PX, lX⟩ := came_ri (s := s0) w0 hf.1
  obtain ⟨Y, PY, lY⟩ := came_ri (s := s1) w1 hf.2
  obtain ⟨Z, PZ, lZ⟩ := came_ri (s := s2) w2 hf2
  clear w0 w1 w2 z0 z1 z2 hf
  obtain ⟨S, hS⟩ : ∃ S, X + Y = S := ⟨_, rfl⟩
  obtain ⟨M, hM⟩ : ∃ M, X * Y = M := ⟨_, rfl⟩
  obtain ⟨T, hT⟩ : ∃ T, S + Z = T := ⟨_, rfl⟩
  obtain ⟨U, hU⟩ : ∃ U, Y + Z = U := ⟨_, rfl⟩
  obtain ⟨M1, hM1⟩ : ∃ M1, M * Z = M1 := ⟨_, rfl⟩
  obtain ⟨M2, hM2⟩ : ∃ M2, Y * Z = M2 := ⟨_, rfl⟩
  obtain ⟨D, hD⟩ : ∃ D, S * Z = D := ⟨_, rfl⟩
  obtain ⟨E, hE⟩ : ∃ E, X * Z = E := ⟨_, rfl⟩
  have lS : nl S.natAbs ≤ 100000 := by have := nl_iadd X Y; rw [hS] at this; omega
  have lM : nl M.natAbs ≤ 100 := by have := nl_imul X Y; rw [hM] at this; omega
  have lT : nl T.natAbs ≤ 100000 := by have := nl_iadd S Z; have h2 := nl_iadd X Y; rw [hS] at h2; rw [hT] at this; omega
  have lU : nl U.natAbs ≤ 100000 := by have := nl_iadd Y Z; rw [hU] at this; omega
  have lM1 : nl M1.natAbs ≤ 100000 := by have := nl_imul M Z; rw [hM1] at this; omega
  have lM2 : nl M2.natAbs ≤ 100000 := by have := nl_imul Y Z; rw [hM2] at this; omega
  have lD : nl D.natAbs ≤ 100000 := by have := nl_imul S Z; have h2 := nl_iadd X Y; rw [hS] at h2; rw [hD] at this; omega
  have lE : nl E.natAbs ≤ 100000 := by have := nl_imul X Z; rw [hE] at this; omega
  have e1 : Y + X = S := by rw [Int.add_comm]; exact hS
  have e2 : Y * X = M := by rw [Int.mul_comm]; exact hM
  have e3 : X + U = T := by rw [← hU, ← hT, ← hS]; omega
  have e4 : X * M2 = M1 := by rw [← hM2, ← hM1, ← hM, Int.mul_assoc]
  have e5 : E + M2 = D := by rw [← hE, ← hM2, ← hD, ← hS, Int.add_mul]
  have c0 := fun v (p : RI v s0 a0 len0 cap0 X) (q : RI v s1 a1 len1 cap1 Y) => K.add p q S hS
  have c0' := fun v (p : RI v s0 a0 len0 cap0 X) (q : RI v s1 a1 len1 cap1 Y) => K.mul p q M hM
  have c1 := fun v (p : RI v s0 a0 len0 cap0 X) (q : RI v s1 a1 len1 cap1 Y) => K.add q p S e1
  have c2 := fun v (p : RI v s0 a0 len0 cap0 X) (q : RI v s1 a1 len1 cap1 Y) => K.mul q p M e2
  have c3 := fun v a c (p : RI v (decide (S < 0)) a (nl S.natAbs) c S) (q : RI v s2 a2 len2 cap2 Z) => K.add p q T hT
  have c4 := fun v (p : RI v s1 a1 len1 cap1 Y) (q : RI v s2 a2 len2 cap2 Z) => K.add p q U hU
  have c5 := fun v a c (p : RI v s0 a0 len0 cap0 X) (q : RI v (decide (U < 0)) a (nl U.natAbs) c U) => K.add p q T e3
  have c6 := fun v a c (p : RI v (decide (M < 0)) a (nl M.natAbs) c M) (q : RI v s2 a2 len2 cap2 Z) => K.mul p q M1 hM1
  have c7 := fun v (p : RI v s1 a1 len1 cap1 Y) (q : RI v s2 a2 len2 cap2 Z) => K.mul p q M2 hM2
  have c8 := fun v a c (p : RI v s0 a0 len0 cap0 X) (q : RI v (decide (M2 < 0)) a (nl M2.natAbs) c M2) => K.mul p q M1 e4
  have c9 := fun v a c (p : RI v (decide (S < 0)) a (nl S.natAbs) c S) (q : RI v s2 a2 len2 cap2 Z) => K.mul p q D hD
  have c10 := fun v (p : RI v s0 a0 len0 cap0 X) (q : RI v s2 a2 len2 cap2 Z) => K.mul p q E hE
  have c11 := fun v a c b d (p : RI v (decide (E < 0)) a (nl E.natAbs) c E) (q : RI v (decide (M2 < 0)) b (nl M2.natAbs) d M2) => K.add p q D e5
  unfold AnsI at c0 c0' c1 c2 c3 c4 c5 c6 c7 c8 c9 c10 c11
  have lM' : nl M.natAbs ≤ 100000 := by omega
  have rS := fun {W v : World} {a : Option Addr} {c : Nat} (o : Own W v (.slice a (nl S.natAbs) c) (nl S.natAbs) (natOf S.natAbs)) => o.ri lS
  have rM := fun {W v : World} {a : Option Addr} {c : Nat} (o : Own W v (.slice a (nl M.natAbs) c) (nl M.natAbs) (natOf M.natAbs)) => o.ri lM'
  have rU := fun {W v : World} {a : Option Addr} {c : Nat} (o : Own W v (.slice a (nl U.natAbs) c) (nl U.natAbs) (natOf U.natAbs)) => o.ri lU
  have rE := fun {W v : World} {a : Option Addr} {c : Nat} (o : Own W v (.slice a (nl E.natAbs) c) (nl E.natAbs) (natOf E.natAbs)) => o.ri lE
  have rM2 := fun {W v : World} {a : Option Addr} {c : Nat} (o : Own W v (.slice a (nl M2.natAbs) c) (nl M2.natAbs) (natOf M2.natAbs)) => o.ri lM2
  have RS := fun {W : World} (v : World) {a : Option Addr} {c : Nat} (o : Own W v (.slice a (nl S.natAbs) c) (nl S.natAbs) (natOf S.natAbs)) => right_own K o lS
  have RM := fun {W : World} (v : World) {a : Option Addr} {c : Nat} (o : Own W v (.slice a (nl M.natAbs) c) (nl M.natAbs) (natOf M.natAbs)) => right_own K o lM'
  clear hS hM hT hU hM1 hM2 hD hE e1 e2 e3 e4 e5 lX lY lZ lS lM lM' lT lU lM1 lM2 lD lE K
  generalize (decide (S < 0)) = gS at *
  generalize (decide (M < 0)) = gM at *
  go_enter Tryd.func5, Tryd.ntmps5
  go_wp2_with (first
    | (go_at_call 8; (with_reducible refine Calls.mono (AW _) ?_); rintro e u0 ⟨rfl, d0⟩; have bs := below_more bV d0; obtain ⟨x0, x1, -, -⟩ := (b0.more d0).cells2; obtain ⟨y0, y1, -, -⟩ := (b1.more d0).cells2; obtain ⟨t0, t1, -, -⟩ := (b2.more d0).cells2)
    | (go_at_call 9; (with_reducible refine Calls.mono (F _) ?_); rintro e v1 ⟨rfl, rfl⟩)
    | (go_at_call 21; (with_reducible refine Calls.mono (c0 _ (PX.below bs) (PY.below bs)) ?_); rintro e w1 ⟨a3, c3', rfl, o3⟩; have d1 := below_more d0 o3.below; have f0 := fun o => ((b0.more d1).alloc o).cells2.1; have f1 := fun o => ((b0.more d1).alloc o).cells2.2.1; have g0 := fun o => ((b1.more d1).alloc o).cells2.1; have g1 := fun o => ((b1.more d1).alloc o).cells2.2.1; have bs1 := fun o => (below_more bs o3.below).alloc (below_more bs o3.below).size o)
    | (go_at_call 23; (with_reducible refine Calls.mono (c0' _ (PX.below (bs1 _)) (PY.below (bs1 _))) ?_); rintro e w2 ⟨a4, c4', rfl, o4⟩))
  have dA := d1.alloc d1.size (.cells #[.bool gS, .slice a3 (nl S.natAbs) c3'] 24)
  have dB := below_more dA o4.below
  have dC := dB.alloc dB.size (.cells #[.bool gM, .slice a4 (nl M.natAbs) c4'] 24)
  have B0 := b0.more dC
  have B1 := b1.more dC
  have B2 := b2.more dC
  have BS := ((BoxC.new w1 #[.bool gS, .slice a3 (nl S.natAbs) c3'] 24).more o4.below).alloc (.cells #[.bool gM, .slice a4 (nl M.natAbs) c4'] 24)
  have BM := BoxC.new w2 #[.bool gM, .slice a4 (nl M.natAbs) c4'] 24
  have oS := ((o3.alloc (.cells #[.bool gS, .slice a3 (nl S.natAbs) c3'] 24)).more o4.below).alloc (.cells #[.bool gM, .slice a4 (nl M.natAbs) c4'] 24)
  have oM := o4.alloc (.cells #[.bool gM, .slice a4 (nl M.natAbs) c4'] 24)
  have bW := below_more bV dC
  generalize w1.heap.size = k3 at *
  generalize w2.heap.size = k4 at *
  generalize w2.alloc (.cells #[.bool gM, .slice a4 (nl M.natAbs) c4'] 24) = V at *
  clear f0 f1 g0 g1 bs1 d0 d1 dA dB dC b0 b1 b2 bV hs x0 x1 y0 y1 t0 t1 c0 c0' o3 o4 bs AW F
  have SO : ∀ v, Below V.heap.size V v → v.cell? ⟨w.heap.size, 0, none⟩ = some (.bool s0) ∧ v.cell? ⟨w.heap.size, 1, none⟩ = some (.slice a0 len0 cap0) ∧ v.cell? ⟨w.heap.size + 1, 0, none⟩ = some (.bool s1) ∧ v.cell? ⟨w.heap.size + 1, 1, none⟩ = some (.slice a1 len1 cap1) ∧ v.cell? ⟨w.heap.size + 1 + 1, 0, none⟩ = some (.bool s2) ∧ v.cell? ⟨w.heap.size + 1 + 1, 1, none⟩ = some (.slice a2 len2 cap2) ∧ v.cell? ⟨k3, 0, none⟩ = some (.bool gS) ∧ v.cell? ⟨k3, 1, none⟩ = some (.slice a3 (nl S.natAbs) c3') ∧ v.cell? ⟨k4, 0, none⟩ = some (.bool gM) ∧ v.cell? ⟨k4, 1, none⟩ = some (.slice a4 (nl M.natAbs) c4') := fun v hb =>
    ⟨(B0.more hb).cells2.1, (B0.more hb).cells2.2.1, (B1.more hb).cells2.1, (B1.more hb).cells2.2.1, (B2.more hb).cells2.1, (B2.more hb).cells2.2.1, (BS.more hb).cells2.1, (BS.more hb).cells2.2.1, (BM.more hb).cells2.1, (BM.more hb).cells2.2.1⟩
  have bs : Below V.heap.size V V.drew := (Below.refl _ _).drew
  have HB : Hid (Below w.heap.size w V) := bW
  replace PX := PX.below bW
  replace PY := PY.below bW
  replace PZ := PZ.below bW
  clear B0 B1 B2 BS BM bW hf2
  go_region_held3 (fun v => v.cell? ⟨w.heap.size, 0, none⟩ = some (.bool s0) ∧ v.cell? ⟨w.heap.size, 1, none⟩ = some (.slice a0 len0 cap0) ∧ v.cell? ⟨w.heap.size + 1, 0, none⟩ = some (.bool s1) ∧ v.cell? ⟨w.heap.size + 1, 1, none⟩ = some (.slice a1 len1 cap1) ∧ v.cell? ⟨w.heap.size + 1 + 1, 0, none⟩ = some (.bool s2) ∧ v.cell? ⟨w.heap.size + 1 + 1, 1, none⟩ = some (.slice a2 len2 cap2) ∧ v.cell? ⟨k3, 0, none⟩ = some (.bool gS) ∧ v.cell? ⟨k3, 1, none⟩ = some (.slice a3 (nl S.natAbs) c3') ∧ v.cell? ⟨k4, 0, none⟩ = some (.bool gM) ∧ v.cell? ⟨k4, 1, none⟩ = some (.slice a4 (nl M.natAbs) c4'))
    (exact SO _ bs)
    (first
    | (go_at_call 21; (with_reducible refine Calls.mono (c1 _ (PX.below bs) (PY.below bs)) ?_); rintro e w5 ⟨a5, c5', rfl, o5⟩; replace bs := below_more bs o5.below)
    | (go_at_call 12; (with_reducible refine Calls.mono (ref_same (oS.more bs).words o5.words true (by simp)) ?_); rintro e w6 ⟨rfl, b6⟩; replace bs := below_more bs b6; clear o5 c1)
    | (go_at_call 23; (with_reducible refine Calls.mono (c2 _ (PX.below bs) (PY.below bs)) ?_); rintro e w7 ⟨a7, c7', rfl, o7⟩; replace bs := below_more bs o7.below)
    | (go_at_call 12; (with_reducible refine Calls.mono (ref_same (oM.more bs).words o7.words true (by simp)) ?_); rintro e w8 ⟨rfl, b8⟩; replace bs := below_more bs b8; clear o7 c2)
    | (go_at_call 21; (with_reducible refine Calls.mono (c3 _ _ _ (rS (oS.more bs)) (PZ.below bs)) ?_); rintro e w9 ⟨a9, c9', rfl, o9⟩; replace bs := below_more bs o9.below)
    | (go_at_call 21; (with_reducible refine Calls.mono (c4 _ (PY.below bs) (PZ.below bs)) ?_); rintro e w10 ⟨a10, c10', rfl, o10⟩; replace bs := below_more bs o10.below; replace o9 := o9.more o10.below)
    | (go_at_call 21; (with_reducible refine Calls.mono (c5 _ _ _ (PX.below bs) (rU o10)) ?_); rintro e w11 ⟨a11, c11', rfl, o11⟩; replace bs := below_more bs o11.below; replace o9 := o9.more o11.below)
    | (go_at_call 12; (with_reducible refine Calls.mono (ref_same o9.words o11.words true (by simp)) ?_); rintro e w12 ⟨rfl, b12⟩; replace bs := below_more bs b12; clear o9 o10 o11 c3 c4 c5)
    | (go_at_call 23; (with_reducible refine Calls.mono (c6 _ _ _ (rM (oM.more bs)) (PZ.below bs)) ?_); rintro e w13 ⟨a13, c13', rfl, o13⟩; replace bs := below_more bs o13.below)
    | (go_at_call 23; (with_reducible refine Calls.mono (c7 _ (PY.below bs) (PZ.below bs)) ?_); rintro e w14 ⟨a14, c14', rfl, o14⟩; replace bs := below_more bs o14.below; (try replace o13 := o13.more o14.below); (try replace o17 := o17.more o14.below); (try replace o18 := o18.more o14.below))
    | (go_at_call 23; (with_reducible refine Calls.mono (c8 _ _ _ (PX.below bs) (rM2 o14)) ?_); rintro e w15 ⟨a15, c15', rfl, o15⟩; replace bs := below_more bs o15.below; replace o13 := o13.more o15.below)
    | (go_at_call 12; (with_reducible refine Calls.mono (ref_same o13.words o15.words true (by simp)) ?_); rintro e w16 ⟨rfl, b16⟩; replace bs := below_more bs b16; clear o13 o14 o15 c6 c8)
    | (go_at_call 23; (with_reducible refine Calls.mono (c9 _ _ _ (rS (oS.more bs)) (PZ.below bs)) ?_); rintro e w17 ⟨a17, c17', rfl, o17⟩; replace bs := below_more bs o17.below)
    | (go_at_call 23; (with_reducible refine Calls.mono (c10 _ (PX.below bs) (PZ.below bs)) ?_); rintro e w18 ⟨a18, c18', rfl, o18⟩; replace bs := below_more bs o18.below; replace o17 := o17.more o18.below)
    | (go_at_call 21; (with_reducible refine Calls.mono (c11 _ _ _ _ _ (rE o18) (rM2 o14)) ?_); rintro e w19 ⟨a19, c19', rfl, o19⟩; replace bs := below_more bs o19.below; replace o17 := o17.more o19.below)
    | (go_at_call 12; (with_reducible refine Calls.mono (ref_same o17.words o19.words true (by simp)) ?_); rintro e w20 ⟨rfl, b20⟩; replace bs := below_more bs b20; clear o17 o18 o19 o14 c7 c9 c10 c11)
    | (go_at_call 10; (with_reducible refine Calls.mono (RS _ (oS.more bs)) ?_); rintro e w21 ⟨rfl, b21⟩; replace bs := below_more bs b21)
    | (go_at_call 10; (with_reducible refine Calls.mono (RM _ (oM.more bs)) ?_); rintro e w22 ⟨rfl, b22⟩; replace bs := below_more bs b22))
  all_goals
    go_wp2
    go_ret
    exact ⟨rfl, below_more HB.out bs⟩
end Go.Proofs.YtokjhpjglpgmcaaDoor
/-
  The walks of the statements WholeSmall and WholeBack, for whatever package whole keeps its contracts: they return true; memory that was there stays.
-/
namespace Go.Proofs.YtokjhpjglpgmcaaDoor
open Go.RowKit

theorem wf_i32 {a : Int} (h : (Lit.int .i32 a).wf = true) : -2147483648 ≤ a ∧ a < 2147483648 := by
  simp [Lit.wf, IntKind.min, IntKind.max, IntKind.signed, IntKind.bits] at h; omega
theorem mul_small {a b : Int} (a0 : -2147483648 ≤ a) (a1 : a < 2147483648) (b0 : -2147483648 ≤ b) (b1 : b < 2147483648) : -4611686018427387904 ≤ a * b ∧ a * b ≤ 4611686018427387904 := by
  have h : (a * b).natAbs ≤ 2147483648 * 2147483648 := by rw [Int.natAbs_mul]; exact Nat.mul_le_mul (by omega) (by omega)
  omega
theorem wrap_i64 {z : Int} (h0 : -9223372036854775808 ≤ z) (h1 : z < 9223372036854775808) : IntKind.i64.wrap z = z := by rw [IntKind.wrap_i64]; omega

set_option maxHeartbeats 8000000 in
theorem walk_WholeSmall (K : WholeOk) (a b : Int) (w : World) (h0 : (Lit.int .i32 a).wf = true) (h1 : (Lit.int .i32 b).wf = true) :
    Calls Tryd.prog 7 #[.int .i32 a, .int .i32 b] w fun e w' => e = .returned (.bool true) ∧ Below w.heap.size w w' := by
  obtain ⟨a0, a1⟩ := wf_i32 h0
  obtain ⟨b0, b1⟩ := wf_i32 h1
  obtain ⟨m0, m1⟩ := mul_small a0 a1 b0 b1
  have AW := fun v => whole_awake K v
  have OA := fun v => K.of a v (by omega) (by omega)
  have OB := fun v => K.of b v (by omega) (by omega)
  have OS := fun v => K.of (a + b) v (by omega) (by omega)
  have OD := fun v => K.of (a - b) v (by omega) (by omega)
  have OM := fun v => K.of (a * b) v (by omega) (by omega)
  have lA := nl_two a (by omega)
  have lB := nl_two b (by omega)
  have c1 := fun v a3 c3 a4 c4 (p : RI v (decide (a < 0)) a3 (nl a.natAbs) c3 a) (q : RI v (decide (b < 0)) a4 (nl b.natAbs) c4 b) => K.add p q (a + b) rfl
  have c2 := fun v a3 c3 a4 c4 (p : RI v (decide (a < 0)) a3 (nl a.natAbs) c3 a) (q : RI v (decide (b < 0)) a4 (nl b.natAbs) c4 b) => K.sub p q (a - b) rfl
  have c3 := fun v a3 c3 a4 c4 (p : RI v (decide (a < 0)) a3 (nl a.natAbs) c3 a) (q : RI v (decide (b < 0)) a4 (nl b.natAbs) c4 b) => K.mul p q (a * b) rfl
  have c4 := fun v a3 c3 a4 c4 (p : RI v (decide (a < 0)) a3 (nl a.natAbs) c3 a) (q : RI v (decide (b < 0)) a4 (nl b.natAbs) c4 b) => K.cmp p q (sgn a b) rfl
  have rA := fun {W v : World} {x : Option Addr} {c : Nat} (o : Own W v (.slice x (nl a.natAbs) c) (nl a.natAbs) (natOf a.natAbs)) => o.ri (by omega)
  have rB := fun {W v : World} {x : Option Addr} {c : Nat} (o : Own W v (.slice x (nl b.natAbs) c) (nl b.natAbs) (natOf b.natAbs)) => o.ri (by omega)
  unfold AnsI at OA OB OS OD OM c1 c2 c3
  have wS := wrap_i64 (z := a + b) (by omega) (by omega)
  have wD := wrap_i64 (z := a - b) (by omega) (by omega)
  have wM := wrap_i64 (z := a * b) (by omega) (by omega)
  clear h0 h1 lA lB K
  generalize decide (a < 0) = gA at *
  generalize decide (b < 0) = gB at *
  generalize decide (a + b < 0) = gS at *
  generalize decide (a - b < 0) = gD at *
  generalize decide (a * b < 0) = gM at *
  generalize a.natAbs = NA at *
  generalize b.natAbs = NB at *
  generalize (a + b).natAbs = NS at *
  generalize (a - b).natAbs = ND at *
  generalize (a * b).natAbs = NM at *
  rcases (by omega : a < b ∨ (¬ a < b ∧ ¬ b < a) ∨ b < a) with hl | ⟨hl, hl'⟩ | hl
  case' inl => rw [sgn_lt hl] at c4
  case' inr.inl => rw [sgn_eq (by omega)] at c4
  case' inr.inr => rw [sgn_gt hl] at c4
  all_goals
    go_enter Tryd.func7, Tryd.ntmps7
    go_wp2_with (first
      | (go_at_call 8; (with_reducible refine Calls.mono (AW _) ?_); rintro e u0 ⟨rfl, d0⟩; clear AW)
      | (go_at_call 17; (with_reducible refine Calls.mono (OA _) ?_); rintro e w1 ⟨a3, c3', rfl, o3⟩; clear OA; have B1 := BoxC.new w1 #[.bool gA, .slice a3 (nl NA) c3'] 24)
      | (go_at_call 17; (with_reducible refine Calls.mono (OB _) ?_); rintro e w2 ⟨a4, c4', rfl, o4⟩; clear OB; have SO : ∀ v, Below (w2.alloc (.cells #[.bool gB, .slice a4 (nl NB) c4'] 24)).heap.size (w2.alloc (.cells #[.bool gB, .slice a4 (nl NB) c4'] 24)) v → v.cell? ⟨w1.heap.size, 0, none⟩ = some (.bool gA) ∧ v.cell? ⟨w1.heap.size, 1, none⟩ = some (.slice a3 (nl NA) c3') ∧ v.cell? ⟨w2.heap.size, 0, none⟩ = some (.bool gB) ∧ v.cell? ⟨w2.heap.size, 1, none⟩ = some (.slice a4 (nl NB) c4') := fun v hb => ⟨(((B1.more o4.below).alloc _).more hb).cells2.1, (((B1.more o4.below).alloc _).more hb).cells2.2.1, ((BoxC.new w2 _ _).more hb).cells2.1, ((BoxC.new w2 _ _).more hb).cells2.2.1⟩; have bs := Below.refl (w2.alloc (.cells #[.bool gB, .slice a4 (nl NB) c4'] 24)).heap.size (w2.alloc (.cells #[.bool gB, .slice a4 (nl NB) c4'] 24)); obtain ⟨f0, f1, f2, f3⟩ := SO _ bs; have oA := ((o3.alloc (.cells #[.bool gA, .slice a3 (nl NA) c3'] 24)).more o4.below).alloc (.cells #[.bool gB, .slice a4 (nl NB) c4'] 24); have oB := o4.alloc (.cells #[.bool gB, .slice a4 (nl NB) c4'] 24))
      | (go_at_call 21; (with_reducible refine Calls.mono (c1 _ _ _ _ _ (rA (oA.more bs)) (rB (oB.more bs))) ?_); rintro e w5 ⟨a5, c5', rfl, o5⟩; replace bs := below_more bs o5.below)
      | (go_at_call 17; (with_reducible refine Calls.mono (OS _) ?_); rintro e w6 ⟨a6, c6', rfl, o6⟩; clear OS; replace bs := below_more bs o6.below; replace o5 := o5.more o6.below)
      | (go_at_call 12; (with_reducible refine Calls.mono (ref_same o5.words o6.words true (by simp)) ?_); rintro e w7 ⟨rfl, b7⟩; replace bs := below_more bs b7; obtain ⟨f0, f1, f2, f3⟩ := SO _ bs; clear o5 o6 c1)
      | (go_at_call 25; (with_reducible refine Calls.mono (c2 _ _ _ _ _ (rA (oA.more bs)) (rB (oB.more bs))) ?_); rintro e w8 ⟨a8, c8', rfl, o8⟩; replace bs := below_more bs o8.below)
      | (go_at_call 17; (with_reducible refine Calls.mono (OD _) ?_); rintro e w9 ⟨a9, c9', rfl, o9⟩; clear OD; replace bs := below_more bs o9.below; replace o8 := o8.more o9.below)
      | (go_at_call 12; (with_reducible refine Calls.mono (ref_same o8.words o9.words true (by simp)) ?_); rintro e w10 ⟨rfl, b10⟩; replace bs := below_more bs b10; obtain ⟨f0, f1, f2, f3⟩ := SO _ bs; clear o8 o9 c2)
      | (go_at_call 23; (with_reducible refine Calls.mono (c3 _ _ _ _ _ (rA (oA.more bs)) (rB (oB.more bs))) ?_); rintro e w11 ⟨a11, c11', rfl, o11⟩; replace bs := below_more bs o11.below)
      | (go_at_call 17; (with_reducible refine Calls.mono (OM _) ?_); rintro e w12 ⟨a12, c12', rfl, o12⟩; clear OM; replace bs := below_more bs o12.below; replace o11 := o11.more o12.below)
      | (go_at_call 12; (with_reducible refine Calls.mono (ref_same o11.words o12.words true (by simp)) ?_); rintro e w13 ⟨rfl, b13⟩; replace bs := below_more bs b13; obtain ⟨f0, f1, f2, f3⟩ := SO _ bs; clear o11 o12 c3)
      | (go_at_call 19; (with_reducible refine Calls.mono (c4 _ _ _ _ _ (rA (oA.more bs)) (rB (oB.more bs))) ?_); rintro e w14 ⟨rfl, b14⟩; replace bs := below_more bs b14))
    go_ret
    exact ⟨rfl, below_more d0 (oA.more bs).below⟩
end Go.Proofs.YtokjhpjglpgmcaaDoor
/-
  The walk of the statement WholeTexts, for whatever package whole keeps its contracts: it returns true; memory that was there stays.
-/
namespace Go.Proofs.YtokjhpjglpgmcaaDoor
open Go.RowKit

theorem decOf_head (n : Nat) : (decOf n).head? ≠ some 45 := by
  intro h
  have hm : (45 : UInt8) ∈ decOf n := List.mem_of_mem_head? h
  have := digS_decOf n 45 hm
  have e : (45 : UInt8).toNat = 45 := rfl
  omega
theorem strip_decI (x : Int) : stripI (decI x) = decOf x.natAbs ∧ minusI (decI x) = decide (x < 0) := by
  by_cases h : x < 0
  · rw [show decI x = 45 :: decOf x.natAbs from if_pos h, decide_eq_true h]; exact ⟨rfl, rfl⟩
  · rw [show decI x = decOf x.natAbs from if_neg h, decide_eq_false h]
    exact ⟨if_neg (decOf_head _), decide_eq_false (decOf_head _)⟩
theorem znum_decI (x : Int) (h : (decOf x.natAbs).length ≤ 1000) : znum (decI x) = x ∧ zerr (decI x) = 0 := by
  unfold znum zerr
  obtain ⟨h1, h2⟩ := strip_decI x
  rw [h1, h2, pnum_ok h (num_decOf _), valD_decOf, perr_ok h (num_decOf _), iv_self]
  exact ⟨rfl, rfl⟩
theorem decI_len (x : Int) : (decI x).length ≤ (decOf x.natAbs).length + 1 := by
  unfold decI; split <;> simp

set_option maxHeartbeats 40000000 in
theorem walk_WholeTexts (K : WholeOk) (s : ByteArray) (s1 : Bool) (a1 : Option Addr) (len1 cap1 : Nat) (z1 : List Int) (w : World) (hs : s.size ≤ maxLen) (w1 : CameIn .u32 w a1 len1 cap1 z1) :
    Calls Tryd.prog 4 #[.string s, .agg #[.bool s1, .slice a1 len1 cap1]] w fun e w' => e = .returned (.bool true) ∧ Below w.heap.size w w' := by
  obtain ⟨b1, bV, -⟩ := boxes1 w #[.bool s1, .slice a1 len1 cap1] 24
  have AW := fun v => whole_awake K v
  have hs' := hs
  unfold maxLen at hs'
  by_cases h6 : (60 : Int) < s.size
  case pos =>
    clear K w1
    go_enter Tryd.func4, Tryd.ntmps4
    go_wp2_with (go_at_call 8; (with_reducible refine Calls.mono (AW _) ?_); rintro e u0 ⟨rfl, c0⟩; obtain ⟨x0, x1, -, -⟩ := (b1.more c0).cells2)
    go_ret
    exact ⟨rfl, below_more bV c0⟩
  case neg =>
  by_cases hf : len1 ≤ 6
  case neg =>
    clear K w1
    go_enter Tryd.func4, Tryd.ntmps4
    go_wp2_with (go_at_call 8; (with_reducible refine Calls.mono (AW _) ?_); rintro e u0 ⟨rfl, c0⟩; obtain ⟨x0, x1, -, -⟩ := (b1.more c0).cells2)
    go_ret
    exact ⟨rfl, below_more bV c0⟩
  case pos =>
  obtain ⟨X, PX, lX⟩ := came_ri (s := s1) w1 (by omega)
  obtain ⟨zs, h1, h2, -, h4⟩ := PX
  have PX : RI w s1 a1 len1 cap1 X := ⟨zs, h1, h2, by omega, h4⟩
  have QR := fun v (hb : Below w.heap.size w v) => ref_iprint (s := s1) (h1.below hb) h2 (by omega) X h4
  have FR := fun v (hb : Below w.heap.size w v) => ref_ifix (s := s1) (h1.below hb) h2 (by omega) X h4
  have P1 := fun v => K.parse s v hs
  have R1 := fun v => ref_iparse s v hs
  have Q1 := fun v (p : RI v s1 a1 len1 cap1 X) => K.print p
  have ld := decOf_words (n := 12) lX (by omega)
  have le := decI_len X
  have P2 := fun v => K.parse ⟨(decI X).toArray⟩ v (by show (decI X).toArray.size ≤ maxLen; unfold maxLen; rw [List.size_toArray]; omega)
  have e1 : znum (ByteArray.mk (decI X).toArray).data.toList = X := (znum_decI X (by omega)).1
  have e2 : zerr (ByteArray.mk (decI X).toArray).data.toList = 0 := (znum_decI X (by omega)).2
  rw [e1, e2] at P2
  unfold AnsIP at P1 R1 P2
  unfold AnsI at FR
  generalize znum s.data.toList = Z at P1 R1
  generalize zerr s.data.toList = E at P1 R1
  generalize decide (Z < 0) = gZ at P1 R1
  generalize Z.natAbs = NZ at P1 R1
  generalize decI X = t at *
  clear e1 e2 ld le lX h1 h2 h4 w1 hs K
  generalize decide (X < 0) = gX at *
  generalize X.natAbs = NX at *
  go_enter Tryd.func4, Tryd.ntmps4
  go_wp2_with (first
    | (go_at_call 8; (with_reducible refine Calls.mono (AW _) ?_); rintro e u0 ⟨rfl, d0⟩; clear AW; obtain ⟨x0, x1, -, -⟩ := (b1.more d0).cells2)
    | (go_at_call 26; (with_reducible refine Calls.mono (P1 _) ?_); rintro e w1 ⟨a3, c3, rfl, o3⟩; clear P1; have d1 := (below_more d0 o3.below).alloc (below_more d0 o3.below).size (.cells #[.bool gZ, .slice a3 (nl NZ) c3] 24); have B3 := BoxC.new w1 #[.bool gZ, .slice a3 (nl NZ) c3] 24; have p3 := o3.alloc (.cells #[.bool gZ, .slice a3 (nl NZ) c3] 24))
    | (go_at_call 27; (with_reducible refine Calls.mono (R1 _) ?_); rintro e w2 ⟨a4, c4, rfl, o4⟩; clear R1; have d2 := (below_more d1 o4.below).alloc (below_more d1 o4.below).size (.cells #[.bool gZ, .slice a4 (nl NZ) c4] 24); have B4 := BoxC.new w2 #[.bool gZ, .slice a4 (nl NZ) c4] 24; have p4 := o4.alloc (.cells #[.bool gZ, .slice a4 (nl NZ) c4] 24); replace B3 := (B3.more o4.below).alloc (.cells #[.bool gZ, .slice a4 (nl NZ) c4] 24); replace p3 := (p3.more o4.below).alloc (.cells #[.bool gZ, .slice a4 (nl NZ) c4] 24); obtain ⟨f0, f1, -, -⟩ := (b1.more d2).cells2)
    | (go_at_call 28; (with_reducible refine Calls.mono (Q1 _ (PX.below (below_more bV d2))) ?_); rintro e w3 ⟨rfl, b3⟩; clear Q1; have d3 := below_more d2 b3; replace B3 := B3.more b3; replace B4 := B4.more b3; replace p3 := p3.more b3; replace p4 := p4.more b3)
    | (go_at_call 26; (with_reducible refine Calls.mono (P2 _) ?_); rintro e w4 ⟨a5, c5, rfl, o5⟩; clear P2; have d4 := (below_more d3 o5.below).alloc (below_more d3 o5.below).size (.cells #[.bool gX, .slice a5 (nl NX) c5] 24); have B5 := BoxC.new w4 #[.bool gX, .slice a5 (nl NX) c5] 24; have p5 := o5.alloc (.cells #[.bool gX, .slice a5 (nl NX) c5] 24); replace B3 := (B3.more o5.below).alloc (.cells #[.bool gX, .slice a5 (nl NX) c5] 24); replace p3 := (p3.more o5.below).alloc (.cells #[.bool gX, .slice a5 (nl NX) c5] 24); replace B4 := (B4.more o5.below).alloc (.cells #[.bool gX, .slice a5 (nl NX) c5] 24); replace p4 := (p4.more o5.below).alloc (.cells #[.bool gX, .slice a5 (nl NX) c5] 24)))
  have B1 := b1.more d4
  have bW := below_more bV d4
  generalize w1.heap.size = k3 at *
  generalize w2.heap.size = k4 at *
  generalize w4.heap.size = k5 at *
  generalize w4.alloc (.cells #[.bool gX, .slice a5 (nl NX) c5] 24) = V at *
  clear d0 d1 d2 d3 d4 b1 bV x0 x1 f0 f1 o3 o4 o5 b3
  have SO : ∀ v, Below V.heap.size V v → v.cell? ⟨w.heap.size, 0, none⟩ = some (.bool s1) ∧ v.cell? ⟨w.heap.size, 1, none⟩ = some (.slice a1 len1 cap1) ∧ v.cell? ⟨k3, 0, none⟩ = some (.bool gZ) ∧ v.cell? ⟨k3, 1, none⟩ = some (.slice a3 (nl NZ) c3) ∧ v.cell? ⟨k4, 0, none⟩ = some (.bool gZ) ∧ v.cell? ⟨k4, 1, none⟩ = some (.slice a4 (nl NZ) c4) ∧ v.cell? ⟨k5, 0, none⟩ = some (.bool gX) ∧ v.cell? ⟨k5, 1, none⟩ = some (.slice a5 (nl NX) c5) := fun v hb =>
    ⟨(B1.more hb).cells2.1, (B1.more hb).cells2.2.1, (B3.more hb).cells2.1, (B3.more hb).cells2.2.1, (B4.more hb).cells2.1, (B4.more hb).cells2.2.1, (B5.more hb).cells2.1, (B5.more hb).cells2.2.1⟩
  have bs : Below V.heap.size V V.drew := (Below.refl _ _).drew
  have HB : Hid (Below w.heap.size w V) := bW
  have QR := fun v (hb : Below V.heap.size V v) => QR v (below_more bW hb)
  have FR := fun v (hb : Below V.heap.size V v) => FR v (below_more bW hb)
  clear B1 B3 B4 B5 bW PX
  go_region_held3 (fun v => v.cell? ⟨w.heap.size, 0, none⟩ = some (.bool s1) ∧ v.cell? ⟨w.heap.size, 1, none⟩ = some (.slice a1 len1 cap1) ∧ v.cell? ⟨k3, 0, none⟩ = some (.bool gZ) ∧ v.cell? ⟨k3, 1, none⟩ = some (.slice a3 (nl NZ) c3) ∧ v.cell? ⟨k4, 0, none⟩ = some (.bool gZ) ∧ v.cell? ⟨k4, 1, none⟩ = some (.slice a4 (nl NZ) c4) ∧ v.cell? ⟨k5, 0, none⟩ = some (.bool gX) ∧ v.cell? ⟨k5, 1, none⟩ = some (.slice a5 (nl NX) c5))
    (exact SO _ bs)
    (first
    | (go_at_call 12; (with_reducible refine Calls.mono (ref_same (p3.more bs).words (p4.more bs).words true (by simp)) ?_); rintro e w6 ⟨rfl, b6⟩; replace bs := below_more bs b6; clear p4)
    | (go_at_call 29; (with_reducible refine Calls.mono (QR _ bs) ?_); rintro e w7 ⟨rfl, b7⟩; replace bs := below_more bs b7; clear QR)
    | (go_at_call 14; (with_reducible refine Calls.mono (FR _ bs) ?_); rintro e w8 ⟨a8, c8, rfl, o8⟩; replace bs := below_more bs o8.below)
    | (go_at_call 12; (with_reducible refine Calls.mono (ref_same (p5.more bs).words o8.words true (by simp)) ?_); rintro e w9 ⟨rfl, b9⟩; replace bs := below_more bs b9))
  all_goals
    go_wp2
    go_ret
    exact ⟨rfl, below_more HB.out bs⟩
end Go.Proofs.YtokjhpjglpgmcaaDoor
/-
  The walk of the statement WholeTells, for whatever package whole keeps its contracts: it returns true; memory that was there stays.
-/
namespace Go.Proofs.YtokjhpjglpgmcaaDoor
open Go.RowKit

theorem wf_int {a : Int} (h : (Lit.int .i64 a).wf = true) : -9223372036854775808 ≤ a ∧ a < 9223372036854775808 := by
  simp [Lit.wf, IntKind.min, IntKind.max, IntKind.signed, IntKind.bits] at h; omega

set_option maxHeartbeats 40000000 in
theorem walk_WholeTells (K : WholeOk) (s0 : Bool) (a0 : Option Addr) (len0 cap0 : Nat) (z0 : List Int) (s1 : Bool) (a1 : Option Addr) (len1 cap1 : Nat) (z1 : List Int) (n : Int) (w : World)
    (w0 : CameIn .u32 w a0 len0 cap0 z0) (w1 : CameIn .u32 w a1 len1 cap1 z1) (w2 : (Lit.int .i64 n).wf = true) :
    Calls Tryd.prog 3 #[.agg #[.bool s0, .slice a0 len0 cap0], .agg #[.bool s1, .slice a1 len1 cap1], .int .i64 n] w fun e w' => e = .returned (.bool true) ∧ Below w.heap.size w w' := by
  obtain ⟨b0, b1, bV, -⟩ := boxes2 w #[.bool s0, .slice a0 len0 cap0] #[.bool s1, .slice a1 len1 cap1] 24 24
  have AW := fun v => whole_awake K v
  by_cases hf : len0 ≤ 12 ∧ len1 ≤ 12
  case neg =>
    have F := fun v => ref_few a0 len0 cap0 a1 len1 cap1 12 v false (by simpa using hf)
    clear hf w0 w1 w2 K
    go_enter Tryd.func3, Tryd.ntmps3
    go_wp2_with (first
      | (go_at_call 8; (with_reducible refine Calls.mono (AW _) ?_); rintro e u0 ⟨rfl, c0⟩; obtain ⟨x0, x1, -, -⟩ := (b0.more c0).cells2; obtain ⟨y0, y1, -, -⟩ := (b1.more c0).cells2)
      | (go_at_call 9; (with_reducible refine Calls.mono (F _) ?_); rintro e v1 ⟨rfl, rfl⟩))
    go_ret
    exact ⟨rfl, below_more bV c0⟩
  case pos =>
  have F := fun v => ref_few a0 len0 cap0 a1 len1 cap1 12 v true (by simpa using hf)
  obtain ⟨n0, n1⟩ := wf_int w2
  obtain ⟨X, ⟨xs, h1, h2, -, h4⟩, lX⟩ := came_ri (s := s0) w0 hf.1
  obtain ⟨Y, ⟨ys, k1, k2, -, k4⟩, lY⟩ := came_ri (s := s1) w1 hf.2
  have PX : RI w s0 a0 len0 cap0 X := ⟨xs, h1, h2, by omega, h4⟩
  have PY : RI w s1 a1 len1 cap1 Y := ⟨ys, k1, k2, by omega, k4⟩
  have R1 := fun v (hb : Below w.heap.size w v) => K.right (s := s0) (h1.below hb) h2 (by omega) _ rfl
  have R2 := fun v (hb : Below w.heap.size w v) => ref_iright (s := s0) (h1.below hb) h2 (by omega) _ rfl
  have F1 := fun v (hb : Below w.heap.size w v) => K.fix (PX.below hb)
  have F2 := fun v (hb : Below w.heap.size w v) => ref_ifix (s := s0) (h1.below hb) h2 (by omega) X h4
  have N1 := fun v (hb : Below w.heap.size w v) => K.neg (PX.below hb) _ rfl
  have N2 := fun v (hb : Below w.heap.size w v) => ref_ineg (s := s0) (h1.below hb) h2 (by omega) (-X) (by rw [h4])
  have O1 := fun v => K.of n v n0 n1
  have O2 := fun v => ref_iof n v n0 n1
  have C1 := fun v (hb : Below w.heap.size w v) => K.cmp (PX.below hb) (PY.below hb) _ rfl
  have C2 := fun v (hb : Below w.heap.size w v) => ref_icmp (s := s0) (t := s1) (h1.below hb) h2 (k1.below hb) k2 (by omega) (by omega) (sgn X Y) (by rw [h4, k4])
  have A1 := fun v (hb : Below w.heap.size w v) => K.add (PX.below hb) (PY.below hb) _ rfl
  have A2 := fun v (hb : Below w.heap.size w v) => ref_iadd (s := s0) (t := s1) (h1.below hb) h2 (k1.below hb) k2 (by omega) (by omega) (X + Y) (by rw [h4, k4])
  have M1 := fun v (hb : Below w.heap.size w v) => K.mul (PX.below hb) (PY.below hb) _ rfl
  have M2 := fun v (hb : Below w.heap.size w v) => ref_imul (s := s0) (t := s1) (h1.below hb) h2 (k1.below hb) k2 (by omega) (by omega) (X * Y) (by rw [h4, k4])
  have S1 := fun v (hb : Below w.heap.size w v) => K.sub (PX.below hb) (PY.below hb) _ rfl
  have N3 := fun v (hb : Below w.heap.size w v) => ref_ineg (s := s1) (k1.below hb) k2 (by omega) (-Y) (by rw [k4])
  have lN : nl (-Y).natAbs ≤ 12 := by rw [nl_ineg]; exact lY
  have A3 := fun v a c (hb : Below w.heap.size w v) (q : IsWords v (.slice a (nl (-Y).natAbs) c) (natOf (-Y).natAbs)) => ref_iadd (s := s0) (t := decide (-Y < 0)) (h1.below hb) h2 q (wd_natOf _) (by omega) (by omega) (X - Y) (by rw [h4, val_natOf, iv_self]; omega)
  unfold AnsI at F1 F2 N1 N2 O1 O2 A1 A2 M1 M2 S1 N3 A3
  generalize decide (nl (val xs) = len0 ∧ decide (iv s0 (val xs) < 0) = s0) = r at R1 R2
  generalize decide (X < 0) = gX at *
  generalize decide (-X < 0) = gN at *
  generalize decide (n < 0) = gn at *
  generalize decide (X + Y < 0) = gA at *
  generalize decide (X * Y < 0) = gM at *
  generalize decide (X - Y < 0) = gS at *
  generalize decide (-Y < 0) = gY at *
  generalize X.natAbs = NX at *
  generalize (-X).natAbs = NN at *
  generalize n.natAbs = Nn at *
  generalize (X + Y).natAbs = NA at *
  generalize (X * Y).natAbs = NM at *
  generalize (X - Y).natAbs = NS at *
  generalize (-Y).natAbs = NY at *
  generalize sgn X Y = sg at *
  clear h1 h2 h4 k1 k2 k4 lX lY lN PX PY w0 w1 w2 K hf n0 n1
  go_enter Tryd.func3, Tryd.ntmps3
  go_wp2_with (first
    | (go_at_call 8; (with_reducible refine Calls.mono (AW _) ?_); rintro e V ⟨rfl, d0⟩; clear AW; obtain ⟨x0, x1, -, -⟩ := (b0.more d0).cells2; obtain ⟨y0, y1, -, -⟩ := (b1.more d0).cells2)
    | (go_at_call 9; (with_reducible refine Calls.mono (F _) ?_); rintro e v1 ⟨rfl, rfl⟩))
  have B0 := b0.more d0
  have B1 := b1.more d0
  have bW := below_more bV d0
  have SO : ∀ v, Below V.heap.size V v → v.cell? ⟨w.heap.size, 0, none⟩ = some (.bool s0) ∧ v.cell? ⟨w.heap.size, 1, none⟩ = some (.slice a0 len0 cap0) ∧ v.cell? ⟨w.heap.size + 1, 0, none⟩ = some (.bool s1) ∧ v.cell? ⟨w.heap.size + 1, 1, none⟩ = some (.slice a1 len1 cap1) := fun v hb =>
    ⟨(B0.more hb).cells2.1, (B0.more hb).cells2.2.1, (B1.more hb).cells2.1, (B1.more hb).cells2.2.1⟩
  have bs : Below V.heap.size V V.drew := (Below.refl _ _).drew
  have HB : Hid (Below w.heap.size w V) := bW
  clear B0 B1 b0 b1 bV d0 x0 x1 y0 y1 F
  go_region_held3 (fun v => v.cell? ⟨w.heap.size, 0, none⟩ = some (.bool s0) ∧ v.cell? ⟨w.heap.size, 1, none⟩ = some (.slice a0 len0 cap0) ∧ v.cell? ⟨w.heap.size + 1, 0, none⟩ = some (.bool s1) ∧ v.cell? ⟨w.heap.size + 1, 1, none⟩ = some (.slice a1 len1 cap1))
    (exact SO _ bs)
    (first
    | (go_at_call 10; (with_reducible refine Calls.mono (R1 _ (below_more bW bs)) ?_); rintro e w3 ⟨rfl, b3⟩; replace bs := below_more bs b3; clear R1)
    | (go_at_call 11; (with_reducible refine Calls.mono (R2 _ (below_more bW bs)) ?_); rintro e w4 ⟨rfl, b4⟩; replace bs := below_more bs b4; clear R2)
    | (go_at_call 13; (with_reducible refine Calls.mono (F1 _ (below_more bW bs)) ?_); rintro e w5 ⟨a5, c5, rfl, o5⟩; replace bs := below_more bs o5.below; clear F1)
    | (go_at_call 14; (with_reducible refine Calls.mono (F2 _ (below_more bW bs)) ?_); rintro e w6 ⟨a6, c6, rfl, o6⟩; replace bs := below_more bs o6.below; replace o5 := o5.more o6.below; clear F2)
    | (go_at_call 12; (with_reducible refine Calls.mono (ref_same o5.words o6.words true (by simp)) ?_); rintro e w7 ⟨rfl, b7⟩; replace bs := below_more bs b7; clear o5 o6)
    | (go_at_call 15; (with_reducible refine Calls.mono (N1 _ (below_more bW bs)) ?_); rintro e w8 ⟨a8, c8, rfl, o8⟩; replace bs := below_more bs o8.below; clear N1)
    | (go_at_call 16; (with_reducible refine Calls.mono (N2 _ (below_more bW bs)) ?_); rintro e w9 ⟨a9, c9, rfl, o9⟩; replace bs := below_more bs o9.below; replace o8 := o8.more o9.below; clear N2)
    | (go_at_call 12; (with_reducible refine Calls.mono (ref_same o8.words o9.words true (by simp)) ?_); rintro e w10 ⟨rfl, b10⟩; replace bs := below_more bs b10; clear o8 o9)
    | (go_at_call 17; (with_reducible refine Calls.mono (O1 _) ?_); rintro e w11 ⟨a11, c11, rfl, o11⟩; replace bs := below_more bs o11.below; clear O1)
    | (go_at_call 18; (with_reducible refine Calls.mono (O2 _) ?_); rintro e w12 ⟨a12, c12, rfl, o12⟩; replace bs := below_more bs o12.below; replace o11 := o11.more o12.below; clear O2)
    | (go_at_call 12; (with_reducible refine Calls.mono (ref_same o11.words o12.words true (by simp)) ?_); rintro e w13 ⟨rfl, b13⟩; replace bs := below_more bs b13; clear o11 o12))
  go_wp2
  replace bs := bs.drew
  go_region_held3 (fun v => v.cell? ⟨w.heap.size, 0, none⟩ = some (.bool s0) ∧ v.cell? ⟨w.heap.size, 1, none⟩ = some (.slice a0 len0 cap0) ∧ v.cell? ⟨w.heap.size + 1, 0, none⟩ = some (.bool s1) ∧ v.cell? ⟨w.heap.size + 1, 1, none⟩ = some (.slice a1 len1 cap1))
    (exact SO _ bs)
    (first
    | (go_at_call 19; (with_reducible refine Calls.mono (C1 _ (below_more bW bs)) ?_); rintro e w14 ⟨rfl, b14⟩; replace bs := below_more bs b14; clear C1)
    | (go_at_call 20; (with_reducible refine Calls.mono (C2 _ (below_more bW bs)) ?_); rintro e w15 ⟨rfl, b15⟩; replace bs := below_more bs b15; clear C2)
    | (go_at_call 21; (with_reducible refine Calls.mono (A1 _ (below_more bW bs)) ?_); rintro e w16 ⟨a16, c16, rfl, o16⟩; replace bs := below_more bs o16.below; clear A1)
    | (go_at_call 22; (with_reducible refine Calls.mono (A2 _ (below_more bW bs)) ?_); rintro e w17 ⟨a17, c17, rfl, o17⟩; replace bs := below_more bs o17.below; replace o16 := o16.more o17.below; clear A2)
    | (go_at_call 12; (with_reducible refine Calls.mono (ref_same o16.words o17.words true (by simp)) ?_); rintro e w18 ⟨rfl, b18⟩; replace bs := below_more bs b18; clear o16 o17)
    | (go_at_call 23; (with_reducible refine Calls.mono (M1 _ (below_more bW bs)) ?_); rintro e w19 ⟨a19, c19, rfl, o19⟩; replace bs := below_more bs o19.below; clear M1)
    | (go_at_call 24; (with_reducible refine Calls.mono (M2 _ (below_more bW bs)) ?_); rintro e w20 ⟨a20, c20, rfl, o20⟩; replace bs := below_more bs o20.below; replace o19 := o19.more o20.below; clear M2)
    | (go_at_call 12; (with_reducible refine Calls.mono (ref_same o19.words o20.words true (by simp)) ?_); rintro e w21 ⟨rfl, b21⟩; replace bs := below_more bs b21; clear o19 o20))
  go_wp2
  replace bs := bs.drew
  go_region_held3 (fun v => v.cell? ⟨w.heap.size, 0, none⟩ = some (.bool s0) ∧ v.cell? ⟨w.heap.size, 1, none⟩ = some (.slice a0 len0 cap0) ∧ v.cell? ⟨w.heap.size + 1, 0, none⟩ = some (.bool s1) ∧ v.cell? ⟨w.heap.size + 1, 1, none⟩ = some (.slice a1 len1 cap1))
    (exact SO _ bs)
    (first
    | (go_at_call 25; (with_reducible refine Calls.mono (S1 _ (below_more bW bs)) ?_); rintro e w22 ⟨a22, c22, rfl, o22⟩; replace bs := below_more bs o22.below; clear S1)
    | (go_at_call 16; (with_reducible refine Calls.mono (N3 _ (below_more bW bs)) ?_); rintro e w23 ⟨a23, c23, rfl, o23⟩; replace bs := below_more bs o23.below; replace o22 := o22.more o23.below; clear N3)
    | (go_at_call 22; (with_reducible refine Calls.mono (A3 _ _ _ (below_more bW bs) o23.words) ?_); rintro e w24 ⟨a24, c24, rfl, o24⟩; replace bs := below_more bs o24.below; replace o22 := o22.more o24.below; clear A3)
    | (go_at_call 12; (with_reducible refine Calls.mono (ref_same o22.words o24.words true (by simp)) ?_); rintro e w25 ⟨rfl, b25⟩; replace bs := below_more bs b25; clear o22 o24))
  go_wp2
  go_ret
  exact ⟨rfl, below_more HB.out bs⟩
end Go.Proofs.YtokjhpjglpgmcaaDoor
/-
  The walk of the statement WholeBack, for whatever package whole keeps its contracts: it returns true; memory that was there stays.
-/
namespace Go.Proofs.YtokjhpjglpgmcaaDoor
open Go.RowKit

theorem sgn_neg (x y : Int) : sgn (-y) (-x) = sgn x y := by
  rcases Int.lt_trichotomy x y with h | h | h
  · rw [sgn_lt h, sgn_lt (by omega)]
  · rw [sgn_eq h, sgn_eq (by omega)]
  · rw [sgn_gt h, sgn_gt (by omega)]

set_option maxHeartbeats 40000000 in
theorem walk_WholeBack (K : WholeOk) (s0 : Bool) (a0 : Option Addr) (len0 cap0 : Nat) (z0 : List Int) (s1 : Bool) (a1 : Option Addr) (len1 cap1 : Nat) (z1 : List Int) (s2 : Bool) (a2 : Option Addr) (len2 cap2 : Nat) (z2 : List Int) (w : World)
    (w0 : CameIn .u32 w a0 len0 cap0 z0) (w1 : CameIn .u32 w a1 len1 cap1 z1) (w2 : CameIn .u32 w a2 len2 cap2 z2) :
    Calls Tryd.prog 6 #[.agg #[.bool s0, .slice a0 len0 cap0], .agg #[.bool s1, .slice a1 len1 cap1], .agg #[.bool s2, .slice a2 len2 cap2]] w fun e w' => e = .returned (.bool true) ∧ Below w.heap.size w w' := by
  obtain ⟨b0, b1, b2, bV, hs⟩ := boxes3 w #[.bool s0, .slice a0 len0 cap0] #[.bool s1, .slice a1 len1 cap1] #[.bool s2, .slice a2 len2 cap2] 24 24 24
  have AW := fun v => whole_awake K v
  by_cases hf : len0 ≤ 12 ∧ len1 ≤ 12
  case neg =>
    have F := fun v => ref_few a0 len0 cap0 a1 len1 cap1 12 v false (by simpa using hf)
    clear hf w0 w1 w2 K
    go_enter Tryd.func6, Tryd.ntmps6
    go_wp2_with (first
      | (go_at_call 8; (with_reducible refine Calls.mono (AW _) ?_); rintro e u0 ⟨rfl, c0⟩; obtain ⟨x0, x1, -, -⟩ := (b0.more c0).cells2; obtain ⟨y0, y1, -, -⟩ := (b1.more c0).cells2)
      | (go_at_call 9; (with_reducible refine Calls.mono (F _) ?_); rintro e v1 ⟨rfl, rfl⟩))
    go_ret
    exact ⟨rfl, below_more bV c0⟩
  case pos =>
  have F := fun v => ref_few a0 len0 cap0 a1 len1 cap1 12 v true (by simpa using hf)
  by_cases hf2 : len2 ≤ 12
  case neg =>
    clear hf w0 w1 w2 K
    go_enter Tryd.func6, Tryd.ntmps6
    go_wp2_with (first
      | (go_at_call 8; (with_reducible refine Calls.mono (AW _) ?_); rintro e u0 ⟨rfl, c0⟩; obtain ⟨x0, x1, -, -⟩ := (b0.more c0).cells2; obtain ⟨y0, y1, -, -⟩ := (b1.more c0).cells2; obtain ⟨t0, t1, -, -⟩ := (b2.more c0).cells2)
      | (go_at_call 9; (with_reducible refine Calls.mono (F _) ?_); rintro e v1 ⟨rfl, rfl⟩))
    go_ret
    exact ⟨rfl, below_more bV c0⟩
  case pos =>
  obtain ⟨X, PX, lX⟩ := came_ri (s := s0) w0 hf.1
  obtain ⟨Y, PY, lY⟩ := came_ri (s := s1) w1 hf.2
  obtain ⟨Z, PZ, lZ⟩ := came_ri (s := s2) w2 hf2
  clear w0 w1 w2 z0 z1 z2 hf
  obtain ⟨T, hT⟩ : ∃ T, X + Y = T := ⟨_, rfl⟩
  obtain ⟨P, hP⟩ : ∃ P, X + Z = P := ⟨_, rfl⟩
  obtain ⟨Q, hQ⟩ : ∃ Q, Y + Z = Q := ⟨_, rfl⟩
  obtain ⟨MX, hMX⟩ : ∃ M, -X = M := ⟨_, rfl⟩
  obtain ⟨MY, hMY⟩ : ∃ M, -Y = M := ⟨_, rfl⟩
  have lT : nl T.natAbs ≤ 100000 := by have := nl_iadd X Y; rw [hT] at this; omega
  have lP : nl P.natAbs ≤ 100000 := by have := nl_iadd X Z; rw [hP] at this; omega
  have lQ : nl Q.natAbs ≤ 100000 := by have := nl_iadd Y Z; rw [hQ] at this; omega
  have lMX : nl MX.natAbs ≤ 100000 := by rw [← hMX, nl_ineg]; omega
  have lMY : nl MY.natAbs ≤ 100000 := by rw [← hMY, nl_ineg]; omega
  have A1 := fun v (hb : Below w.heap.size w v) => K.add (PX.below hb) (PY.below hb) T hT
  have S1 := fun v a c (hb : Below w.heap.size w v) (p : RI v (decide (T < 0)) a (nl T.natAbs) c T) => K.sub p (PY.below hb) X (by omega)
  have S2 := fun v (hb : Below w.heap.size w v) => K.sub (PX.below hb) (PX.below hb) 0 (by omega)
  have C1 := fun v (hb : Below w.heap.size w v) => K.cmp (PX.below hb) (PY.below hb) _ rfl
  have F1 := fun v (hb : Below w.heap.size w v) => K.fix (PX.below hb)
  have N1 := fun v (hb : Below w.heap.size w v) => K.neg (PX.below hb) MX hMX
  have N2 := fun v a c (p : RI v (decide (MX < 0)) a (nl MX.natAbs) c MX) => K.neg p X (by omega)
  have N3 := fun v (hb : Below w.heap.size w v) => K.neg (PY.below hb) MY hMY
  have C2 := fun v a c b d (p : RI v (decide (MY < 0)) a (nl MY.natAbs) c MY) (q : RI v (decide (MX < 0)) b (nl MX.natAbs) d MX) => K.cmp p q (sgn X Y) (by rw [← hMX, ← hMY]; exact sgn_neg X Y)
  have A2 := fun v (hb : Below w.heap.size w v) => K.add (PX.below hb) (PZ.below hb) P hP
  have A3 := fun v (hb : Below w.heap.size w v) => K.add (PY.below hb) (PZ.below hb) Q hQ
  have C3 := fun v a c b d (p : RI v (decide (P < 0)) a (nl P.natAbs) c P) (q : RI v (decide (Q < 0)) b (nl Q.natAbs) d Q) => K.cmp p q (sgn X Y) (by rw [← hP, ← hQ]; exact sgn_add X Y Z)
  unfold AnsI at A1 S1 S2 F1 N1 N2 N3 A2 A3
  simp only [show decide ((0 : Int) < 0) = false from rfl, show (0 : Int).natAbs = 0 from rfl, nl_zero, natOf_zero] at S2
  have rT := fun {W v : World} {a : Option Addr} {c : Nat} (o : Own W v (.slice a (nl T.natAbs) c) (nl T.natAbs) (natOf T.natAbs)) => o.ri lT
  have rP := fun {W v : World} {a : Option Addr} {c : Nat} (o : Own W v (.slice a (nl P.natAbs) c) (nl P.natAbs) (natOf P.natAbs)) => o.ri lP
  have rQ := fun {W v : World} {a : Option Addr} {c : Nat} (o : Own W v (.slice a (nl Q.natAbs) c) (nl Q.natAbs) (natOf Q.natAbs)) => o.ri lQ
  have rMX := fun {W v : World} {a : Option Addr} {c : Nat} (o : Own W v (.slice a (nl MX.natAbs) c) (nl MX.natAbs) (natOf MX.natAbs)) => o.ri lMX
  have rMY := fun {W v : World} {a : Option Addr} {c : Nat} (o : Own W v (.slice a (nl MY.natAbs) c) (nl MY.natAbs) (natOf MY.natAbs)) => o.ri lMY
  generalize sgn X Y = sg at *
  generalize decide (T < 0) = gT at *
  generalize decide (X < 0) = gX at *
  generalize decide (MX < 0) = gMX at *
  generalize decide (MY < 0) = gMY at *
  generalize decide (P < 0) = gP at *
  generalize decide (Q < 0) = gQ at *
  generalize T.natAbs = NT at *
  generalize X.natAbs = NX at *
  generalize MX.natAbs = NMX at *
  generalize MY.natAbs = NMY at *
  generalize P.natAbs = NP at *
  generalize Q.natAbs = NQ at *
  clear hT hP hQ hMX hMY lX lY lZ lT lP lQ lMX lMY PX PY PZ K hs
  go_enter Tryd.func6, Tryd.ntmps6
  go_upto_region 5 with (first
    | (go_at_call 8; (with_reducible refine Calls.mono (AW _) ?_); rintro e V ⟨rfl, d0⟩; clear AW; obtain ⟨x0, x1, -, -⟩ := (b0.more d0).cells2; obtain ⟨y0, y1, -, -⟩ := (b1.more d0).cells2; obtain ⟨t0, t1, -, -⟩ := (b2.more d0).cells2)
    | (go_at_call 9; (with_reducible refine Calls.mono (F _) ?_); rintro e v1 ⟨rfl, rfl⟩))
  have B0 := b0.more d0
  have B1 := b1.more d0
  have B2 := b2.more d0
  have bW := below_more bV d0
  have SO : ∀ v, Below V.heap.size V v → v.cell? ⟨w.heap.size, 0, none⟩ = some (.bool s0) ∧ v.cell? ⟨w.heap.size, 1, none⟩ = some (.slice a0 len0 cap0) ∧ v.cell? ⟨w.heap.size + 1, 0, none⟩ = some (.bool s1) ∧ v.cell? ⟨w.heap.size + 1, 1, none⟩ = some (.slice a1 len1 cap1) ∧ v.cell? ⟨w.heap.size + 1 + 1, 0, none⟩ = some (.bool s2) ∧ v.cell? ⟨w.heap.size + 1 + 1, 1, none⟩ = some (.slice a2 len2 cap2) := fun v hb =>
    ⟨(B0.more hb).cells2.1, (B0.more hb).cells2.2.1, (B1.more hb).cells2.1, (B1.more hb).cells2.2.1, (B2.more hb).cells2.1, (B2.more hb).cells2.2.1⟩
  clear B0 B1 B2 b0 b1 b2 bV d0 x0 x1 y0 y1 t0 t1 F hf2
  go_cut [9] from 27 to 31 (fun s9 wx => ∃ (k : Nat) (a3 : Option Addr) (c3 : Nat), s9 = .pointer (some ⟨k, 0, none⟩) ∧ BoxC wx k #[.bool gX, .slice a3 (nl NX) c3] 24 ∧ Own w wx (.slice a3 (nl NX) c3) (nl NX) (natOf NX) ∧ Below V.heap.size V wx)
  case first =>
    have bs : Below V.heap.size V V.drew := (Below.refl _ _).drew
    have bA := ((Below.refl V.heap.size V).alloc (Nat.le_refl _) (.cells #[.bool false, .slice none 0 0] 24)).drew
    go_region_held3 (fun v => v.cell? ⟨w.heap.size, 0, none⟩ = some (.bool s0) ∧ v.cell? ⟨w.heap.size, 1, none⟩ = some (.slice a0 len0 cap0) ∧ v.cell? ⟨w.heap.size + 1, 0, none⟩ = some (.bool s1) ∧ v.cell? ⟨w.heap.size + 1, 1, none⟩ = some (.slice a1 len1 cap1) ∧ v.cell? ⟨w.heap.size + 1 + 1, 0, none⟩ = some (.bool s2) ∧ v.cell? ⟨w.heap.size + 1 + 1, 1, none⟩ = some (.slice a2 len2 cap2))
      (first | exact SO _ bs | exact SO _ bA | exact SO _ (bs.alloc bs.size _) | exact SO _ (SB _ _))
      (first
      | (go_at_call 21; (with_reducible refine Calls.mono (A1 _ (below_more bW bs)) ?_); rintro e w3 ⟨a3, c3, rfl, o3⟩; replace bs := below_more bs o3.below; have b3 := below_more bW bs)
      | (go_at_call 21; (with_reducible refine Calls.mono (A1 _ (below_more bW bA)) ?_); rintro e w3 ⟨a3, c3, rfl, o3⟩; have BN := (BoxC.new V #[.bool false, .slice none 0 0] 24).drew.more o3.below; replace bs := below_more bA o3.below; have b3 := below_more bW bs; have hk3 : V.heap.size < w3.heap.size := Nat.lt_of_lt_of_le (by simp) o3.below.size)
      | (go_at_call 25; (with_reducible refine Calls.mono (S1 _ _ _ (below_more bW bs) (rT o3)) ?_); rintro e w4 ⟨a4, c4, rfl, o4⟩; replace bs := below_more bs o4.below; (try (replace BN := BN.more o4.below; obtain ⟨f0, f1, f2, f3⟩ := BN.cells2; have SB := fun x y => (bs.setCell (p := ⟨V.heap.size, 0, none⟩) (Nat.le_refl _) x).setCell (p := ⟨V.heap.size, 1, none⟩) (Nat.le_refl _) y)))
      | (go_at_call 25; (with_reducible refine Calls.mono (S1 _ _ _ (below_more bW (bs.alloc bs.size (.cells #[.bool false, .slice none 0 0] 24))) (rT (o3.alloc (.cells #[.bool false, .slice none 0 0] 24)))) ?_); rintro e w4 ⟨a4, c4, rfl, o4⟩; have BN := (BoxC.new w3 #[.bool false, .slice none 0 0] 24).more o4.below; obtain ⟨f0, f1, f2, f3⟩ := BN.cells2; have hk := bs.size; have b3a := b3.alloc b3.size (.cells #[.bool false, .slice none 0 0] 24); replace bs := below_more (bs.alloc bs.size (.cells #[.bool false, .slice none 0 0] 24)) o4.below; have SB := fun x y => (bs.setCell (p := ⟨w3.heap.size, 0, none⟩) hk x).setCell (p := ⟨w3.heap.size, 1, none⟩) hk y))
    · have q := fun o => (o4.outer b3).alloc o
      have r := fun o => bs.alloc bs.size o
      have bx := BoxC.new w4 #[.bool gX, .slice a4 (nl NX) c4] 24
      go_wp2_with fail
      go_meet
      exact ⟨_, a4, c4, rfl, bx, q _, r _⟩
    · have q := fun x y => ((o4.above b3a).set (k := w3.heap.size) b3.size (by simp) 0 x).set (k := w3.heap.size) b3.size (by simp) 1 y
      have bx := (BN.set 0 (.bool gX)).set 1 (.slice a4 (nl NX) c4)
      have hq := b3a.size
      go_wp2_with fail
      go_meet
      exact ⟨_, a4, c4, rfl, bx, (q _ _).own hq, SB _ _⟩
    · have q := fun x y => ((o4.above b3).set (k := V.heap.size) bW.size hk3 0 x).set (k := V.heap.size) bW.size hk3 1 y
      have bx := (BN.set 0 (.bool gX)).set 1 (.slice a4 (nl NX) c4)
      have hq := b3.size
      go_wp2_with fail
      go_meet
      exact ⟨_, a4, c4, rfl, bx, (q _ _).own hq, SB _ _⟩
  case rest =>
    obtain ⟨k3, a3, c3, rfl, B3, o3, bs⟩ := hcut
    obtain ⟨x0, x1, y0, y1, t0, t1⟩ := SO _ bs
    go_wp2_with (first
      | (go_at_call 25; (with_reducible refine Calls.mono (S2 _ (below_more bW bs)) ?_); rintro e w5 ⟨a5, c5, rfl, o5⟩; have bs5 := fun o => (below_more bs o5.below).alloc (below_more bs o5.below).size o; have f0 := fun o => (SO _ (bs5 o)).1; have f1 := fun o => (SO _ (bs5 o)).2.1; have f2 := fun o => (SO _ (bs5 o)).2.2.1; have f3 := fun o => (SO _ (bs5 o)).2.2.2.1)
      | (go_at_call 19; (with_reducible refine Calls.mono (C1 _ (below_more bW (bs5 _))) ?_); rintro e w6 ⟨rfl, b6⟩))
    have bV6 := below_more (bs5 (.cells #[.bool false, .slice a5 0 c5] 24)) b6
    have b56 := below_more (o5.below.alloc o5.below.size (.cells #[.bool false, .slice a5 0 c5] 24)) b6
    have BX := B3.more b56
    have BZ := (BoxC.new w5 #[.bool false, .slice a5 0 c5] 24).more b6
    have oX := o3.more b56
    have SO2 : ∀ v, Below w6.heap.size w6 v → v.cell? ⟨w.heap.size, 0, none⟩ = some (.bool s0) ∧ v.cell? ⟨w.heap.size, 1, none⟩ = some (.slice a0 len0 cap0) ∧ v.cell? ⟨w.heap.size + 1, 0, none⟩ = some (.bool s1) ∧ v.cell? ⟨w.heap.size + 1, 1, none⟩ = some (.slice a1 len1 cap1) ∧ v.cell? ⟨w.heap.size + 1 + 1, 0, none⟩ = some (.bool s2) ∧ v.cell? ⟨w.heap.size + 1 + 1, 1, none⟩ = some (.slice a2 len2 cap2) ∧ v.cell? ⟨k3, 0, none⟩ = some (.bool gX) ∧ v.cell? ⟨k3, 1, none⟩ = some (.slice a3 (nl NX) c3) ∧ v.cell? ⟨w5.heap.size, 0, none⟩ = some (.bool false) ∧ v.cell? ⟨w5.heap.size, 1, none⟩ = some (.slice a5 0 c5) := fun v hb => by
      obtain ⟨i0, i1, i2, i3, i4, i5⟩ := SO _ (below_more bV6 hb)
      exact ⟨i0, i1, i2, i3, i4, i5, (BX.more hb).cells2.1, (BX.more hb).cells2.2.1, (BZ.more hb).cells2.1, (BZ.more hb).cells2.2.1⟩
    have bW6 := below_more bW bV6
    have HB : Hid (Below w.heap.size w w6) := bW6
    generalize w5.heap.size = k5 at *
    clear SO f0 f1 f2 f3 bs5 bV6 b56 BX BZ B3 o3 x0 x1 y0 y1 t0 t1 A1 S1 S2 C1 rT bs b6 o5
    have bs : Below w6.heap.size w6 w6.drew := (Below.refl _ _).drew
    go_region_held3 (fun v => v.cell? ⟨w.heap.size, 0, none⟩ = some (.bool s0) ∧ v.cell? ⟨w.heap.size, 1, none⟩ = some (.slice a0 len0 cap0) ∧ v.cell? ⟨w.heap.size + 1, 0, none⟩ = some (.bool s1) ∧ v.cell? ⟨w.heap.size + 1, 1, none⟩ = some (.slice a1 len1 cap1) ∧ v.cell? ⟨w.heap.size + 1 + 1, 0, none⟩ = some (.bool s2) ∧ v.cell? ⟨w.heap.size + 1 + 1, 1, none⟩ = some (.slice a2 len2 cap2) ∧ v.cell? ⟨k3, 0, none⟩ = some (.bool gX) ∧ v.cell? ⟨k3, 1, none⟩ = some (.slice a3 (nl NX) c3) ∧ v.cell? ⟨k5, 0, none⟩ = some (.bool false) ∧ v.cell? ⟨k5, 1, none⟩ = some (.slice a5 0 c5))
      (exact SO2 _ bs)
      (first
      | (go_at_call 13; (with_reducible refine Calls.mono (F1 _ (below_more bW6 bs)) ?_); rintro e w7 ⟨a7, c7, rfl, o7⟩; replace bs := below_more bs o7.below; (try replace p9 := p9.more o7.below))
      | (go_at_call 12; (with_reducible refine Calls.mono (ref_same (oX.more bs).words o7.words true (by simp)) ?_); rintro e w8 ⟨rfl, b8⟩; replace bs := below_more bs b8; clear o7 oX)
      | (go_at_call 15; (with_reducible refine Calls.mono (N3 _ (below_more bW6 bs)) ?_); rintro e w9 ⟨a9, c9, rfl, o9⟩; replace bs := below_more bs o9.below)
      | (go_at_call 15; (with_reducible refine Calls.mono (N1 _ (below_more bW6 bs)) ?_); rintro e w10 ⟨a10, c10, rfl, o10⟩; replace bs := below_more bs o10.below; (try replace o9 := o9.more o10.below))
      | (go_at_call 15; (with_reducible refine Calls.mono (N2 _ _ _ (rMX o10)) ?_); rintro e w11 ⟨a11, c11, rfl, p9⟩; replace bs := below_more bs p9.below)
      | (go_at_call 12; (with_reducible refine Calls.mono (ref_same p9.words o7.words true (by simp)) ?_); rintro e w12 ⟨rfl, b12⟩; replace bs := below_more bs b12; clear p9 o7 o10)
      | (go_at_call 19; (with_reducible refine Calls.mono (C2 _ _ _ _ _ (rMY o9) (rMX o10)) ?_); rintro e w13 ⟨rfl, b13⟩; replace bs := below_more bs b13; clear o9 o10)
      | (go_at_call 21; (with_reducible refine Calls.mono (A2 _ (below_more bW6 bs)) ?_); rintro e w14 ⟨a14, c14, rfl, o14⟩; replace bs := below_more bs o14.below)
      | (go_at_call 21; (with_reducible refine Calls.mono (A3 _ (below_more bW6 bs)) ?_); rintro e w15 ⟨a15, c15, rfl, o15⟩; replace bs := below_more bs o15.below; replace o14 := o14.more o15.below)
      | (go_at_call 19; (with_reducible refine Calls.mono (C3 _ _ _ _ _ (rP o14) (rQ o15)) ?_); rintro e w16 ⟨rfl, b16⟩; replace bs := below_more bs b16))
    all_goals
      go_wp2
      go_ret
      exact ⟨rfl, below_more HB.out bs⟩
end Go.Proofs.YtokjhpjglpgmcaaDoor
/-
  Contracts of package whole (signed, Fix, Neg, Of, Right) for every Int of up to a hundred thousand words: as integers; memory that was there stays, and what is answered is the call's own.
-/
namespace Go.Proofs.YtokjhpjglpgmcaaDoor
open Go.RowKit

theorem sign_nl (s : Bool) (m : Nat) : (s && decide (0 < nl m)) = decide (iv s m < 0) := by
  rw [iv_neg]
  congr 1
  rw [Bool.eq_iff_iff]; simp only [decide_eq_true_eq]
  constructor
  · intro h; rcases Nat.eq_zero_or_pos m with e | e
    · rw [e, nl_zero] at h; omega
    · exact e
  · exact nl_pos

set_option maxHeartbeats 2000000 in
theorem whole_signed (s : Bool) (a : Option Addr) (n c : Nat) (w : World) (r : Bool) (hr : (s && decide (0 < n)) = r) :
    Calls Tryd.prog 32 #[.bool s, .slice a n c] w fun e w' => e = .returned (.agg #[.bool r, .slice a n c]) ∧ Below w.heap.size w w' := by
  cases s
  case' false => obtain ⟨r', HR⟩ : ∃ r' : Bool, Hid (r = false) := ⟨false, by rw [← hr]; exact (rfl : false = false)⟩
  case' true => obtain ⟨r', HR⟩ : ∃ r' : Bool, Hid (r = decide (0 < n)) := ⟨false, by rw [← hr]; exact (rfl : decide (0 < n) = decide (0 < n))⟩
  all_goals
    clear hr
    have q := fun o => (Below.refl _ w).alloc (Nat.le_refl _) o
    go_enter Tryd.func32, Tryd.ntmps32
    go_wp2
    exact bodyPost_ret (v := .agg #[.bool r, .slice a n c]) (by simp [results, Tryd.results32, go_sem, HR.out]) rfl ⟨by rw [HR.out], q _⟩

set_option maxHeartbeats 4000000 in
theorem whole_fix {s : Bool} {a : Option Addr} {n c : Nat} {x : Int} {w : World} (h : RI w s a n c x) :
    Calls Tryd.prog 13 #[.agg #[.bool s, .slice a n c]] w (AnsI w x) := by
  obtain ⟨zs, h, hz, hn, rfl⟩ := h
  skip
  have T := fun v (hb : Below w.heap.size w v) => nat_trim' (h.below hb) hz (by omega) _ rfl
  unfold Ans at T
  have G := fun v a1 c1 => whole_signed (s) a1 (nl (val zs)) c1 v _ (sign_nl (s) (val zs))
  unfold AnsI
  rw [iv_abs]
  generalize decide (iv (s) (val zs) < 0) = r at G ⊢
  generalize val zs = N at T G ⊢
  clear h hz hn
  obtain ⟨b1, b2, bV, hs⟩ := boxes2 w #[.bool s, .slice a n c] #[.bool false, .slice none 0 0] 24 24
  go_enter Tryd.func13, Tryd.ntmps13
  go_wp2
  generalize (w.alloc (.cells #[.bool s, .slice a n c] 24)).alloc (.cells #[.bool false, .slice none 0 0] 24) = V at *
  have SO : ∀ v, Below V.heap.size V v → v.cell? ⟨w.heap.size, 0, none⟩ = some (.bool s) ∧ v.cell? ⟨w.heap.size, 1, none⟩ = some (.slice a n c) := fun v hb => ⟨(b1.more hb).cells2.1, (b1.more hb).cells2.2.1⟩
  have SR : ∀ v x y, Below V.heap.size V v → ((v.setCell ⟨w.heap.size + 1, 0, none⟩ x).setCell ⟨w.heap.size + 1, 1, none⟩ y).cell? ⟨w.heap.size, 0, none⟩ = some (.bool s) ∧ ((v.setCell ⟨w.heap.size + 1, 0, none⟩ x).setCell ⟨w.heap.size + 1, 1, none⟩ y).cell? ⟨w.heap.size, 1, none⟩ = some (.slice a n c) := fun v x y hb => ⟨(((b1.more hb).other (g := w.heap.size + 1) (i := 0) (by omega) x).other (g := w.heap.size + 1) (i := 1) (by omega) y).cells2.1, (((b1.more hb).other (g := w.heap.size + 1) (i := 0) (by omega) x).other (g := w.heap.size + 1) (i := 1) (by omega) y).cells2.2.1⟩
  have bs : Below V.heap.size V V.drew := (Below.refl _ _).drew
  go_region_held3 (fun v => v.cell? ⟨w.heap.size, 0, none⟩ = some (.bool s) ∧ v.cell? ⟨w.heap.size, 1, none⟩ = some (.slice a n c))
    (first | exact SO _ bs | exact SR _ _ _ bs)
    (first
    | (go_at_call 33; (with_reducible refine Calls.mono (T _ bV.drew) ?_); rintro e w1 ⟨a1, c1, rfl, o1⟩; replace bs := below_more bs o1.below)
    | (go_at_call 32; (with_reducible refine Calls.mono (G _ _ _) ?_); rintro e w2 ⟨rfl, d2⟩; replace bs := below_more bs d2; obtain ⟨y0, y1, f0, f1⟩ := (b2.more bs).cells2))
  have q := fun x y => ((o1.more d2).above bV.drew).set (k := w.heap.size + 1) (by omega) hs 0 x |>.set (k := w.heap.size + 1) (by omega) hs 1 y
  go_wp2
  exact bodyPost_ret (v := .agg #[.bool r, .slice a1 (nl N) c1]) (by simp [results, Tryd.results13, go_sem, y0, y1]) rfl ⟨a1, c1, rfl, (q _ _).own bV.size⟩

set_option maxHeartbeats 4000000 in
theorem whole_neg {s : Bool} {a : Option Addr} {n c : Nat} {x : Int} {w : World} (h : RI w s a n c x) (z : Int) (hv : -x = z) :
    Calls Tryd.prog 15 #[.agg #[.bool s, .slice a n c]] w (AnsI w z) := by
  obtain ⟨zs, h, hz, hn, rfl⟩ := h
  subst hv; rw [← iv_not]
  have T := fun v (hb : Below w.heap.size w v) => nat_trim' (h.below hb) hz (by omega) _ rfl
  unfold Ans at T
  have G := fun v a1 c1 => whole_signed (!s) a1 (nl (val zs)) c1 v _ (sign_nl (!s) (val zs))
  unfold AnsI
  rw [iv_abs]
  generalize decide (iv (!s) (val zs) < 0) = r at G ⊢
  generalize val zs = N at T G ⊢
  clear h hz hn
  obtain ⟨b1, b2, bV, hs⟩ := boxes2 w #[.bool s, .slice a n c] #[.bool false, .slice none 0 0] 24 24
  go_enter Tryd.func15, Tryd.ntmps15
  go_wp2
  generalize (w.alloc (.cells #[.bool s, .slice a n c] 24)).alloc (.cells #[.bool false, .slice none 0 0] 24) = V at *
  have SO : ∀ v, Below V.heap.size V v → v.cell? ⟨w.heap.size, 0, none⟩ = some (.bool s) ∧ v.cell? ⟨w.heap.size, 1, none⟩ = some (.slice a n c) := fun v hb => ⟨(b1.more hb).cells2.1, (b1.more hb).cells2.2.1⟩
  have SR : ∀ v x y, Below V.heap.size V v → ((v.setCell ⟨w.heap.size + 1, 0, none⟩ x).setCell ⟨w.heap.size + 1, 1, none⟩ y).cell? ⟨w.heap.size, 0, none⟩ = some (.bool s) ∧ ((v.setCell ⟨w.heap.size + 1, 0, none⟩ x).setCell ⟨w.heap.size + 1, 1, none⟩ y).cell? ⟨w.heap.size, 1, none⟩ = some (.slice a n c) := fun v x y hb => ⟨(((b1.more hb).other (g := w.heap.size + 1) (i := 0) (by omega) x).other (g := w.heap.size + 1) (i := 1) (by omega) y).cells2.1, (((b1.more hb).other (g := w.heap.size + 1) (i := 0) (by omega) x).other (g := w.heap.size + 1) (i := 1) (by omega) y).cells2.2.1⟩
  have bs : Below V.heap.size V V.drew := (Below.refl _ _).drew
  go_region_held3 (fun v => v.cell? ⟨w.heap.size, 0, none⟩ = some (.bool s) ∧ v.cell? ⟨w.heap.size, 1, none⟩ = some (.slice a n c))
    (first | exact SO _ bs | exact SR _ _ _ bs)
    (first
    | (go_at_call 33; (with_reducible refine Calls.mono (T _ bV.drew) ?_); rintro e w1 ⟨a1, c1, rfl, o1⟩; replace bs := below_more bs o1.below)
    | (go_at_call 32; (with_reducible refine Calls.mono (G _ _ _) ?_); rintro e w2 ⟨rfl, d2⟩; replace bs := below_more bs d2; obtain ⟨y0, y1, f0, f1⟩ := (b2.more bs).cells2))
  have q := fun x y => ((o1.more d2).above bV.drew).set (k := w.heap.size + 1) (by omega) hs 0 x |>.set (k := w.heap.size + 1) (by omega) hs 1 y
  go_wp2
  exact bodyPost_ret (v := .agg #[.bool r, .slice a1 (nl N) c1]) (by simp [results, Tryd.results15, go_sem, y0, y1]) rfl ⟨a1, c1, rfl, (q _ _).own bV.size⟩

set_option maxHeartbeats 2000000 in
theorem whole_of (n : Int) (w : World) (h0 : -9223372036854775808 ≤ n) (h1 : n < 9223372036854775808) :
    Calls Tryd.prog 17 #[.int .i64 n] w (AnsI w n) := by
  obtain ⟨b1, bV, hs⟩ := boxes1 w #[.bool false, .slice none 0 0] 24
  have e0 := iv_self n
  have G := fun v a1 c1 => whole_signed (decide (n < 0)) a1 (nl n.natAbs) c1 v _ (by rw [sign_nl (decide (n < 0)) n.natAbs, e0])
  clear e0
  rcases Int.lt_or_le n 0 with h | h
  case' inl =>
    have O := fun v => nat_of (-n) v (by omega) (by omega)
    have e1 : IntKind.u64.wrap n = n + 18446744073709551616 := by simp [IntKind.wrap, IntKind.bits, IntKind.signed]; omega
    have e2 : IntKind.u64.wrap (0 - (n + 18446744073709551616)) = -n := by simp [IntKind.wrap, IntKind.bits, IntKind.signed]; omega
    have e3 : IntKind.u64.wrap (-(n + 18446744073709551616)) = -n := by simp [IntKind.wrap, IntKind.bits, IntKind.signed]; omega
    rw [show (-n).toNat = n.natAbs by omega] at O
    unfold AnsI
    rw [decide_eq_true h] at G ⊢
    obtain ⟨r, hr⟩ : ∃ r : Bool, r = true := ⟨_, rfl⟩
  case' inr =>
    have O := fun v => nat_of n v (by omega) (by omega)
    have e1 : IntKind.u64.wrap n = n := by simp [IntKind.wrap, IntKind.bits, IntKind.signed]; omega
    rw [show n.toNat = n.natAbs by omega] at O
    unfold AnsI
    rw [decide_eq_false (by omega : ¬ n < 0)] at G ⊢
    obtain ⟨r, hr⟩ : ∃ r : Bool, r = false := ⟨_, rfl⟩
  all_goals
    unfold Ans at O
    generalize n.natAbs = N at O G ⊢
    go_enter Tryd.func17, Tryd.ntmps17
    go_wp2_with (first
      | (go_at_call 35; (with_reducible refine Calls.mono (O _) ?_); rintro e w1 ⟨a1, c1, rfl, o1⟩)
      | (go_at_call 32; (with_reducible refine Calls.mono (G _ _ _) ?_); rintro e w2 ⟨rfl, d2⟩; obtain ⟨y0, y1, g0, g1⟩ := ((b1.more o1.below).more d2).cells2))
    have q := fun x y => (((o1.more d2).above bV).set (k := w.heap.size) (by omega) hs 0 x).set (k := w.heap.size) (by omega) hs 1 y
    exact bodyPost_ret (v := .agg #[.bool r, .slice a1 (nl N) c1]) (by simp [results, Tryd.results17, go_sem, y0, y1, hr]) rfl ⟨a1, c1, by rw [hr], (q _ _).own (by omega)⟩

set_option maxHeartbeats 2000000 in
theorem whole_right {s : Bool} {a : Option Addr} {n c : Nat} {zs : List Int} {w : World} (h : IsWords w (.slice a n c) zs) (hz : Wd zs) (r : Bool) (hr : decide (nl (val zs) = n ∧ decide (iv s (val zs) < 0) = s) = r) :
    Calls Tryd.prog 10 #[.agg #[.bool s, .slice a n c]] w fun e w' => e = .returned (.bool r) ∧ Below w.heap.size w w' := by
  obtain ⟨b1, bV, hs⟩ := boxes1 w #[.bool s, .slice a n c] 24
  have R := nat_Right a n c zs _ (h.below bV) _ (by rw [(h.low hz).1])
  rw [← sign_nl] at hr
  clear h hz
  obtain ⟨y0, y1, -, -⟩ := b1.cells2
  by_cases he : nl (val zs) = n
  case' neg =>
    obtain rfl : r = false := by rw [← hr]; simp [he]
    rw [decide_eq_false he] at R
  case' pos =>
    rw [decide_eq_true he] at R
    rw [he] at hr
    cases s
    case' false => obtain rfl : r = true := by rw [← hr]; simp
    case' true =>
      have hd : (!((n : Int) == 0)) = r := by rw [← hr]; rcases Nat.eq_zero_or_pos n with e | e <;> simp [e] <;> omega
  all_goals
    clear hr he
    go_enter Tryd.func10, Tryd.ntmps10
    go_wp2_with (go_at_call 30; (with_reducible refine Calls.mono R ?_); rintro e w1 ⟨rfl, rfl⟩)
    go_ret
    exact ⟨rfl, bV⟩
end Go.Proofs.YtokjhpjglpgmcaaDoor
/-
  Contracts of package whole (less, over, sum, done, Add, Sub, Mul) for every Int of up to a hundred thousand words: as integers; memory that was there stays, and what is answered is the call's own.
-/
namespace Go.Proofs.YtokjhpjglpgmcaaDoor
open Go.RowKit

theorem boxes4 (w : World) (cs ds es fs : Array Value) (T U X Y : TypeId) :
    BoxC ((((w.alloc (.cells cs T)).alloc (.cells ds U)).alloc (.cells es X)).alloc (.cells fs Y)) w.heap.size cs T ∧ BoxC ((((w.alloc (.cells cs T)).alloc (.cells ds U)).alloc (.cells es X)).alloc (.cells fs Y)) (w.heap.size + 1) ds U ∧ BoxC ((((w.alloc (.cells cs T)).alloc (.cells ds U)).alloc (.cells es X)).alloc (.cells fs Y)) (w.heap.size + 1 + 1) es X ∧ BoxC ((((w.alloc (.cells cs T)).alloc (.cells ds U)).alloc (.cells es X)).alloc (.cells fs Y)) (w.heap.size + 1 + 1 + 1) fs Y ∧
    Below w.heap.size w ((((w.alloc (.cells cs T)).alloc (.cells ds U)).alloc (.cells es X)).alloc (.cells fs Y)) ∧ w.heap.size + 1 + 1 + 1 < ((((w.alloc (.cells cs T)).alloc (.cells ds U)).alloc (.cells es X)).alloc (.cells fs Y)).heap.size := by
  obtain ⟨h1, h2, h3, h4, h5⟩ := boxes3 w cs ds es T U X
  have b4 := BoxC.new (((w.alloc (.cells cs T)).alloc (.cells ds U)).alloc (.cells es X)) fs Y
  rw [World.size_alloc, World.size_alloc, World.size_alloc] at b4
  exact ⟨h1.alloc _, h2.alloc _, h3.alloc _, b4, h4.alloc (by simp; omega) _, by simp⟩

theorem whole_less {a : Option Addr} {n c : Nat} {zs : List Int} {b : Option Addr} {m d : Nat} {ys : List Int} {w : World} (h : IsWords w (.slice a n c) zs) (hz : Wd zs) (g : IsWords w (.slice b m d) ys) (gz : Wd ys)
    (hn : n ≤ 1000000000000) (N : Nat) (hN : N + val ys = val zs) : Calls Tryd.prog 58 #[.slice a n c, .slice b m d] w (Ans w N) := by
  have S := nat_sub' h hz g gz hn N hN
  unfold AnsOk at S
  unfold Ans
  clear h hz g gz hn hN
  go_enter Tryd.func58, Tryd.ntmps58
  go_wp2_with (go_at_call 75; (with_reducible refine Calls.mono S ?_); rintro e w1 ⟨a1, c1, rfl, o1⟩)
  go_ret
  exact ⟨a1, c1, rfl, o1⟩
theorem whole_over {a : Option Addr} {n c : Nat} {zs : List Int} {b : Option Addr} {m d : Nat} {ys : List Int} {w : World} (h : IsWords w (.slice a n c) zs) (hz : Wd zs) (g : IsWords w (.slice b m d) ys) (gz : Wd ys)
    (hm : m ≤ 1000000000000) (N : Nat) (hN : N + val zs = val ys) : Calls Tryd.prog 57 #[.slice a n c, .slice b m d] w (Ans w N) := by
  have S := whole_less g gz h hz hm N hN
  unfold Ans at S ⊢
  clear h hz g gz hm hN
  go_enter Tryd.func57, Tryd.ntmps57
  go_wp2_with (go_at_call 58; (with_reducible refine Calls.mono S ?_); rintro e w1 ⟨a1, c1, rfl, o1⟩)
  go_ret
  exact ⟨a1, c1, rfl, o1⟩

set_option maxHeartbeats 4000000 in
theorem done_add {s : Bool} {a : Option Addr} {n c : Nat} {t : Bool} {b : Option Addr} {m d : Nat} {w : World} (g : Bool) (N : Nat) (z : Int) (hz : iv g N = z)
    (HF : ∀ v, Below w.heap.size w v → Calls Tryd.prog 56 #[.slice a n c, .slice b m d] v (Ans v N)) :
    Calls Tryd.prog 39 #[.agg #[.bool g, .func (.func 56) #[] #[]], .agg #[.bool s, .slice a n c], .agg #[.bool t, .slice b m d]] w (AnsI w z) := by
  subst hz
  unfold Ans at HF
  have G := fun v a1 c1 => whole_signed g a1 (nl N) c1 v _ (sign_nl g N)
  unfold AnsI
  rw [iv_abs]
  generalize decide (iv g N < 0) = r at G ⊢
  obtain ⟨b0, b1, b2, b3, bV, hs⟩ := boxes4 w #[.bool g, .func (.func 56) #[] #[]] #[.bool s, .slice a n c] #[.bool t, .slice b m d] #[.bool false, .slice none 0 0] 51 24 24 24
  go_enter Tryd.func39, Tryd.ntmps39
  go_wp2
  generalize (((w.alloc (.cells #[.bool g, .func (.func 56) #[] #[]] 51)).alloc (.cells #[.bool s, .slice a n c] 24)).alloc (.cells #[.bool t, .slice b m d] 24)).alloc (.cells #[.bool false, .slice none 0 0] 24) = V at *
  have SO : ∀ v, Below V.heap.size V v → v.cell? ⟨w.heap.size, 0, none⟩ = some (.bool g) ∧ v.cell? ⟨w.heap.size, 1, none⟩ = some (.func (.func 56) #[] #[]) ∧ v.cell? ⟨w.heap.size + 1, 1, none⟩ = some (.slice a n c) ∧ v.cell? ⟨w.heap.size + 1 + 1, 1, none⟩ = some (.slice b m d) := fun v hb => ⟨(b0.more hb).cells2.1, (b0.more hb).cells2.2.1, (b1.more hb).cells2.2.1, (b2.more hb).cells2.2.1⟩
  have SR : ∀ u x y, Below V.heap.size V u → ∀ v, v = (u.setCell ⟨w.heap.size + 1 + 1 + 1, 0, none⟩ x).setCell ⟨w.heap.size + 1 + 1 + 1, 1, none⟩ y → v.cell? ⟨w.heap.size, 0, none⟩ = some (.bool g) ∧ v.cell? ⟨w.heap.size, 1, none⟩ = some (.func (.func 56) #[] #[]) ∧ v.cell? ⟨w.heap.size + 1, 1, none⟩ = some (.slice a n c) ∧ v.cell? ⟨w.heap.size + 1 + 1, 1, none⟩ = some (.slice b m d) := fun u x y hb v e => by
    subst e
    exact ⟨(((b0.more hb).other (g := w.heap.size + 1 + 1 + 1) (i := 0) (by omega) x).other (g := w.heap.size + 1 + 1 + 1) (i := 1) (by omega) y).cells2.1, (((b0.more hb).other (g := w.heap.size + 1 + 1 + 1) (i := 0) (by omega) x).other (g := w.heap.size + 1 + 1 + 1) (i := 1) (by omega) y).cells2.2.1, (((b1.more hb).other (g := w.heap.size + 1 + 1 + 1) (i := 0) (by omega) x).other (g := w.heap.size + 1 + 1 + 1) (i := 1) (by omega) y).cells2.2.1, (((b2.more hb).other (g := w.heap.size + 1 + 1 + 1) (i := 0) (by omega) x).other (g := w.heap.size + 1 + 1 + 1) (i := 1) (by omega) y).cells2.2.1⟩
  have bs : Below V.heap.size V V.drew := (Below.refl _ _).drew
  go_region_held3 (fun v => v.cell? ⟨w.heap.size, 0, none⟩ = some (.bool g) ∧ v.cell? ⟨w.heap.size, 1, none⟩ = some (.func (.func 56) #[] #[]) ∧ v.cell? ⟨w.heap.size + 1, 1, none⟩ = some (.slice a n c) ∧ v.cell? ⟨w.heap.size + 1 + 1, 1, none⟩ = some (.slice b m d))
    (first | exact SO _ bs | exact SR _ _ _ bs _ rfl)
    (first
    | (go_at_call 56; (with_reducible refine Calls.mono (HF _ bV.drew) ?_); rintro e w1 ⟨a1, c1, rfl, o1⟩; replace bs := below_more bs o1.below)
    | (go_at_call 32; (with_reducible refine Calls.mono (G _ _ _) ?_); rintro e w2 ⟨rfl, d2⟩; replace bs := below_more bs d2; obtain ⟨y0, y1, f0, f1⟩ := (b3.more bs).cells2))
  have q := fun x y => ((o1.more d2).above bV.drew).set (k := w.heap.size + 1 + 1 + 1) (by omega) hs 0 x |>.set (k := w.heap.size + 1 + 1 + 1) (by omega) hs 1 y
  go_wp2
  exact bodyPost_ret (v := .agg #[.bool r, .slice a1 (nl N) c1]) (by simp [results, Tryd.results39, go_sem, y0, y1]) rfl ⟨a1, c1, rfl, (q _ _).own bV.size⟩

set_option maxHeartbeats 4000000 in
theorem done_over {s : Bool} {a : Option Addr} {n c : Nat} {t : Bool} {b : Option Addr} {m d : Nat} {w : World} (g : Bool) (N : Nat) (z : Int) (hz : iv g N = z)
    (HF : ∀ v, Below w.heap.size w v → Calls Tryd.prog 57 #[.slice a n c, .slice b m d] v (Ans v N)) :
    Calls Tryd.prog 39 #[.agg #[.bool g, .func (.func 57) #[] #[]], .agg #[.bool s, .slice a n c], .agg #[.bool t, .slice b m d]] w (AnsI w z) := by
  subst hz
  unfold Ans at HF
  have G := fun v a1 c1 => whole_signed g a1 (nl N) c1 v _ (sign_nl g N)
  unfold AnsI
  rw [iv_abs]
  generalize decide (iv g N < 0) = r at G ⊢
  obtain ⟨b0, b1, b2, b3, bV, hs⟩ := boxes4 w #[.bool g, .func (.func 57) #[] #[]] #[.bool s, .slice a n c] #[.bool t, .slice b m d] #[.bool false, .slice none 0 0] 51 24 24 24
  go_enter Tryd.func39, Tryd.ntmps39
  go_wp2
  generalize (((w.alloc (.cells #[.bool g, .func (.func 57) #[] #[]] 51)).alloc (.cells #[.bool s, .slice a n c] 24)).alloc (.cells #[.bool t, .slice b m d] 24)).alloc (.cells #[.bool false, .slice none 0 0] 24) = V at *
  have SO : ∀ v, Below V.heap.size V v → v.cell? ⟨w.heap.size, 0, none⟩ = some (.bool g) ∧ v.cell? ⟨w.heap.size, 1, none⟩ = some (.func (.func 57) #[] #[]) ∧ v.cell? ⟨w.heap.size + 1, 1, none⟩ = some (.slice a n c) ∧ v.cell? ⟨w.heap.size + 1 + 1, 1, none⟩ = some (.slice b m d) := fun v hb => ⟨(b0.more hb).cells2.1, (b0.more hb).cells2.2.1, (b1.more hb).cells2.2.1, (b2.more hb).cells2.2.1⟩
  have SR : ∀ u x y, Below V.heap.size V u → ∀ v, v = (u.setCell ⟨w.heap.size + 1 + 1 + 1, 0, none⟩ x).setCell ⟨w.heap.size + 1 + 1 + 1, 1, none⟩ y → v.cell? ⟨w.heap.size, 0, none⟩ = some (.bool g) ∧ v.cell? ⟨w.heap.size, 1, none⟩ = some (.func (.func 57) #[] #[]) ∧ v.cell? ⟨w.heap.size + 1, 1, none⟩ = some (.slice a n c) ∧ v.cell? ⟨w.heap.size + 1 + 1, 1, none⟩ = some (.slice b m d) := fun u x y hb v e => by
    subst e
    exact ⟨(((b0.more hb).other (g := w.heap.size + 1 + 1 + 1) (i := 0) (by omega) x).other (g := w.heap.size + 1 + 1 + 1) (i := 1) (by omega) y).cells2.1, (((b0.more hb).other (g := w.heap.size + 1 + 1 + 1) (i := 0) (by omega) x).other (g := w.heap.size + 1 + 1 + 1) (i := 1) (by omega) y).cells2.2.1, (((b1.more hb).other (g := w.heap.size + 1 + 1 + 1) (i := 0) (by omega) x).other (g := w.heap.size + 1 + 1 + 1) (i := 1) (by omega) y).cells2.2.1, (((b2.more hb).other (g := w.heap.size + 1 + 1 + 1) (i := 0) (by omega) x).other (g := w.heap.size + 1 + 1 + 1) (i := 1) (by omega) y).cells2.2.1⟩
  have bs : Below V.heap.size V V.drew := (Below.refl _ _).drew
  go_region_held3 (fun v => v.cell? ⟨w.heap.size, 0, none⟩ = some (.bool g) ∧ v.cell? ⟨w.heap.size, 1, none⟩ = some (.func (.func 57) #[] #[]) ∧ v.cell? ⟨w.heap.size + 1, 1, none⟩ = some (.slice a n c) ∧ v.cell? ⟨w.heap.size + 1 + 1, 1, none⟩ = some (.slice b m d))
    (first | exact SO _ bs | exact SR _ _ _ bs _ rfl)
    (first
    | (go_at_call 57; (with_reducible refine Calls.mono (HF _ bV.drew) ?_); rintro e w1 ⟨a1, c1, rfl, o1⟩; replace bs := below_more bs o1.below)
    | (go_at_call 32; (with_reducible refine Calls.mono (G _ _ _) ?_); rintro e w2 ⟨rfl, d2⟩; replace bs := below_more bs d2; obtain ⟨y0, y1, f0, f1⟩ := (b3.more bs).cells2))
  have q := fun x y => ((o1.more d2).above bV.drew).set (k := w.heap.size + 1 + 1 + 1) (by omega) hs 0 x |>.set (k := w.heap.size + 1 + 1 + 1) (by omega) hs 1 y
  go_wp2
  exact bodyPost_ret (v := .agg #[.bool r, .slice a1 (nl N) c1]) (by simp [results, Tryd.results39, go_sem, y0, y1]) rfl ⟨a1, c1, rfl, (q _ _).own bV.size⟩

set_option maxHeartbeats 4000000 in
theorem done_less {s : Bool} {a : Option Addr} {n c : Nat} {t : Bool} {b : Option Addr} {m d : Nat} {w : World} (g : Bool) (N : Nat) (z : Int) (hz : iv g N = z)
    (HF : ∀ v, Below w.heap.size w v → Calls Tryd.prog 58 #[.slice a n c, .slice b m d] v (Ans v N)) :
    Calls Tryd.prog 39 #[.agg #[.bool g, .func (.func 58) #[] #[]], .agg #[.bool s, .slice a n c], .agg #[.bool t, .slice b m d]] w (AnsI w z) := by
  subst hz
  unfold Ans at HF
  have G := fun v a1 c1 => whole_signed g a1 (nl N) c1 v _ (sign_nl g N)
  unfold AnsI
  rw [iv_abs]
  generalize decide (iv g N < 0) = r at G ⊢
  obtain ⟨b0, b1, b2, b3, bV, hs⟩ := boxes4 w #[.bool g, .func (.func 58) #[] #[]] #[.bool s, .slice a n c] #[.bool t, .slice b m d] #[.bool false, .slice none 0 0] 51 24 24 24
  go_enter Tryd.func39, Tryd.ntmps39
  go_wp2
  generalize (((w.alloc (.cells #[.bool g, .func (.func 58) #[] #[]] 51)).alloc (.cells #[.bool s, .slice a n c] 24)).alloc (.cells #[.bool t, .slice b m d] 24)).alloc (.cells #[.bool false, .slice none 0 0] 24) = V at *
  have SO : ∀ v, Below V.heap.size V v → v.cell? ⟨w.heap.size, 0, none⟩ = some (.bool g) ∧ v.cell? ⟨w.heap.size, 1, none⟩ = some (.func (.func 58) #[] #[]) ∧ v.cell? ⟨w.heap.size + 1, 1, none⟩ = some (.slice a n c) ∧ v.cell? ⟨w.heap.size + 1 + 1, 1, none⟩ = some (.slice b m d) := fun v hb => ⟨(b0.more hb).cells2.1, (b0.more hb).cells2.2.1, (b1.more hb).cells2.2.1, (b2.more hb).cells2.2.1⟩
  have SR : ∀ u x y, Below V.heap.size V u → ∀ v, v = (u.setCell ⟨w.heap.size + 1 + 1 + 1, 0, none⟩ x).setCell ⟨w.heap.size + 1 + 1 + 1, 1, none⟩ y → v.cell? ⟨w.heap.size, 0, none⟩ = some (.bool g) ∧ v.cell? ⟨w.heap.size, 1, none⟩ = some (.func (.func 58) #[] #[]) ∧ v.cell? ⟨w.heap.size + 1, 1, none⟩ = some (.slice a n c) ∧ v.cell? ⟨w.heap.size + 1 + 1, 1, none⟩ = some (.slice b m d) := fun u x y hb v e => by
    subst e
    exact ⟨(((b0.more hb).other (g := w.heap.size + 1 + 1 + 1) (i := 0) (by omega) x).other (g := w.heap.size + 1 + 1 + 1) (i := 1) (by omega) y).cells2.1, (((b0.more hb).other (g := w.heap.size + 1 + 1 + 1) (i := 0) (by omega) x).other (g := w.heap.size + 1 + 1 + 1) (i := 1) (by omega) y).cells2.2.1, (((b1.more hb).other (g := w.heap.size + 1 + 1 + 1) (i := 0) (by omega) x).other (g := w.heap.size + 1 + 1 + 1) (i := 1) (by omega) y).cells2.2.1, (((b2.more hb).other (g := w.heap.size + 1 + 1 + 1) (i := 0) (by omega) x).other (g := w.heap.size + 1 + 1 + 1) (i := 1) (by omega) y).cells2.2.1⟩
  have bs : Below V.heap.size V V.drew := (Below.refl _ _).drew
  go_region_held3 (fun v => v.cell? ⟨w.heap.size, 0, none⟩ = some (.bool g) ∧ v.cell? ⟨w.heap.size, 1, none⟩ = some (.func (.func 58) #[] #[]) ∧ v.cell? ⟨w.heap.size + 1, 1, none⟩ = some (.slice a n c) ∧ v.cell? ⟨w.heap.size + 1 + 1, 1, none⟩ = some (.slice b m d))
    (first | exact SO _ bs | exact SR _ _ _ bs _ rfl)
    (first
    | (go_at_call 58; (with_reducible refine Calls.mono (HF _ bV.drew) ?_); rintro e w1 ⟨a1, c1, rfl, o1⟩; replace bs := below_more bs o1.below)
    | (go_at_call 32; (with_reducible refine Calls.mono (G _ _ _) ?_); rintro e w2 ⟨rfl, d2⟩; replace bs := below_more bs d2; obtain ⟨y0, y1, f0, f1⟩ := (b3.more bs).cells2))
  have q := fun x y => ((o1.more d2).above bV.drew).set (k := w.heap.size + 1 + 1 + 1) (by omega) hs 0 x |>.set (k := w.heap.size + 1 + 1 + 1) (by omega) hs 1 y
  go_wp2
  exact bodyPost_ret (v := .agg #[.bool r, .slice a1 (nl N) c1]) (by simp [results, Tryd.results39, go_sem, y0, y1]) rfl ⟨a1, c1, rfl, (q _ _).own bV.size⟩

set_option maxHeartbeats 4000000 in
theorem done_mul {s : Bool} {a : Option Addr} {n c : Nat} {t : Bool} {b : Option Addr} {m d : Nat} {w : World} (g : Bool) (N : Nat) (z : Int) (hz : iv g N = z)
    (HF : ∀ v, Below w.heap.size w v → Calls Tryd.prog 43 #[.slice a n c, .slice b m d] v (Ans v N)) :
    Calls Tryd.prog 39 #[.agg #[.bool g, .func (.func 43) #[] #[]], .agg #[.bool s, .slice a n c], .agg #[.bool t, .slice b m d]] w (AnsI w z) := by
  subst hz
  unfold Ans at HF
  have G := fun v a1 c1 => whole_signed g a1 (nl N) c1 v _ (sign_nl g N)
  unfold AnsI
  rw [iv_abs]
  generalize decide (iv g N < 0) = r at G ⊢
  obtain ⟨b0, b1, b2, b3, bV, hs⟩ := boxes4 w #[.bool g, .func (.func 43) #[] #[]] #[.bool s, .slice a n c] #[.bool t, .slice b m d] #[.bool false, .slice none 0 0] 51 24 24 24
  go_enter Tryd.func39, Tryd.ntmps39
  go_wp2
  generalize (((w.alloc (.cells #[.bool g, .func (.func 43) #[] #[]] 51)).alloc (.cells #[.bool s, .slice a n c] 24)).alloc (.cells #[.bool t, .slice b m d] 24)).alloc (.cells #[.bool false, .slice none 0 0] 24) = V at *
  have SO : ∀ v, Below V.heap.size V v → v.cell? ⟨w.heap.size, 0, none⟩ = some (.bool g) ∧ v.cell? ⟨w.heap.size, 1, none⟩ = some (.func (.func 43) #[] #[]) ∧ v.cell? ⟨w.heap.size + 1, 1, none⟩ = some (.slice a n c) ∧ v.cell? ⟨w.heap.size + 1 + 1, 1, none⟩ = some (.slice b m d) := fun v hb => ⟨(b0.more hb).cells2.1, (b0.more hb).cells2.2.1, (b1.more hb).cells2.2.1, (b2.more hb).cells2.2.1⟩
  have SR : ∀ u x y, Below V.heap.size V u → ∀ v, v = (u.setCell ⟨w.heap.size + 1 + 1 + 1, 0, none⟩ x).setCell ⟨w.heap.size + 1 + 1 + 1, 1, none⟩ y → v.cell? ⟨w.heap.size, 0, none⟩ = some (.bool g) ∧ v.cell? ⟨w.heap.size, 1, none⟩ = some (.func (.func 43) #[] #[]) ∧ v.cell? ⟨w.heap.size + 1, 1, none⟩ = some (.slice a n c) ∧ v.cell? ⟨w.heap.size + 1 + 1, 1, none⟩ = some (.slice b m d) := fun u x y hb v e => by
    subst e
    exact ⟨(((b0.more hb).other (g := w.heap.size + 1 + 1 + 1) (i := 0) (by omega) x).other (g := w.heap.size + 1 + 1 + 1) (i := 1) (by omega) y).cells2.1, (((b0.more hb).other (g := w.heap.size + 1 + 1 + 1) (i := 0) (by omega) x).other (g := w.heap.size + 1 + 1 + 1) (i := 1) (by omega) y).cells2.2.1, (((b1.more hb).other (g := w.heap.size + 1 + 1 + 1) (i := 0) (by omega) x).other (g := w.heap.size + 1 + 1 + 1) (i := 1) (by omega) y).cells2.2.1, (((b2.more hb).other (g := w.heap.size + 1 + 1 + 1) (i := 0) (by omega) x).other (g := w.heap.size + 1 + 1 + 1) (i := 1) (by omega) y).cells2.2.1⟩
  have bs : Below V.heap.size V V.drew := (Below.refl _ _).drew
  go_region_held3 (fun v => v.cell? ⟨w.heap.size, 0, none⟩ = some (.bool g) ∧ v.cell? ⟨w.heap.size, 1, none⟩ = some (.func (.func 43) #[] #[]) ∧ v.cell? ⟨w.heap.size + 1, 1, none⟩ = some (.slice a n c) ∧ v.cell? ⟨w.heap.size + 1 + 1, 1, none⟩ = some (.slice b m d))
    (first | exact SO _ bs | exact SR _ _ _ bs _ rfl)
    (first
    | (go_at_call 43; (with_reducible refine Calls.mono (HF _ bV.drew) ?_); rintro e w1 ⟨a1, c1, rfl, o1⟩; replace bs := below_more bs o1.below)
    | (go_at_call 32; (with_reducible refine Calls.mono (G _ _ _) ?_); rintro e w2 ⟨rfl, d2⟩; replace bs := below_more bs d2; obtain ⟨y0, y1, f0, f1⟩ := (b3.more bs).cells2))
  have q := fun x y => ((o1.more d2).above bV.drew).set (k := w.heap.size + 1 + 1 + 1) (by omega) hs 0 x |>.set (k := w.heap.size + 1 + 1 + 1) (by omega) hs 1 y
  go_wp2
  exact bodyPost_ret (v := .agg #[.bool r, .slice a1 (nl N) c1]) (by simp [results, Tryd.results39, go_sem, y0, y1]) rfl ⟨a1, c1, rfl, (q _ _).own bV.size⟩

set_option maxHeartbeats 4000000 in
theorem sum_add {s : Bool} {a : Option Addr} {n c : Nat} {t : Bool} {b : Option Addr} {m d : Nat} {w : World} (hst : s = t) :
    Calls Tryd.prog 40 #[.agg #[.bool s, .slice a n c], .agg #[.bool t, .slice b m d]] w fun e w' => e = .returned (.agg #[.bool s, .func (.func 56) #[] #[]]) ∧ Below w.heap.size w w' := by
  subst hst
  have he : (s == s) = true := by simp
  obtain ⟨b1, b2, b3, bV, hs⟩ := boxes3 w #[.bool s, .slice a n c] #[.bool s, .slice b m d] #[.bool false, .nilFunc] 24 24 51
  obtain ⟨x0, x1, -, -⟩ := b1.cells2
  obtain ⟨y0, y1, -, -⟩ := b2.cells2
  obtain ⟨z0, z1, f0, f1⟩ := b3.cells2
  go_enter Tryd.func40, Tryd.ntmps40
  go_wp2_with (go_at_call 37; (with_reducible refine Calls.mono (C _ bV) ?_); rintro e w1 ⟨rfl, b4⟩; obtain ⟨x0, x1, -, -⟩ := (b1.more b4).cells2; obtain ⟨y0, y1, -, -⟩ := (b2.more b4).cells2; obtain ⟨z0, z1, f0, f1⟩ := (b3.more b4).cells2)
  exact bodyPost_ret (v := .agg #[.bool _, .func (.func 56) #[] #[]]) (by simp [results, Tryd.results40, go_sem]) rfl ⟨rfl, (boxes2 w _ _ _ _).2.2.1.alloc (boxes2 w _ _ _ _).2.2.1.size _⟩

set_option maxHeartbeats 4000000 in
theorem sum_over {s : Bool} {a : Option Addr} {n c : Nat} {t : Bool} {b : Option Addr} {m d : Nat} {w : World} {cc : Int} (hst : s ≠ t) (C : ∀ v, Below w.heap.size w v → Calls Tryd.prog 37 #[.slice a n c, .slice b m d] v fun e w' => e = .returned (.int .i64 cc) ∧ Below v.heap.size v w') (hc : cc < 0) :
    Calls Tryd.prog 40 #[.agg #[.bool s, .slice a n c], .agg #[.bool t, .slice b m d]] w fun e w' => e = .returned (.agg #[.bool t, .func (.func 57) #[] #[]]) ∧ Below w.heap.size w w' := by
  have he : (s == t) = false := by simp [hst]
  obtain ⟨b1, b2, b3, bV, hs⟩ := boxes3 w #[.bool s, .slice a n c] #[.bool t, .slice b m d] #[.bool false, .nilFunc] 24 24 51
  obtain ⟨x0, x1, -, -⟩ := b1.cells2
  obtain ⟨y0, y1, -, -⟩ := b2.cells2
  obtain ⟨z0, z1, f0, f1⟩ := b3.cells2
  go_enter Tryd.func40, Tryd.ntmps40
  go_wp2_with (go_at_call 37; (with_reducible refine Calls.mono (C _ bV) ?_); rintro e w1 ⟨rfl, b4⟩; obtain ⟨x0, x1, -, -⟩ := (b1.more b4).cells2; obtain ⟨y0, y1, -, -⟩ := (b2.more b4).cells2; obtain ⟨z0, z1, f0, f1⟩ := (b3.more b4).cells2)
  exact bodyPost_ret (v := .agg #[.bool _, .func (.func 57) #[] #[]]) (by simp [results, Tryd.results40, go_sem, z0, z1]) rfl ⟨rfl, (below_more bV b4).setCell (p := ⟨w.heap.size + 1 + 1, 0, none⟩) (show w.heap.size ≤ w.heap.size + 1 + 1 by omega) _ |>.setCell (p := ⟨w.heap.size + 1 + 1, 1, none⟩) (show w.heap.size ≤ w.heap.size + 1 + 1 by omega) _⟩

set_option maxHeartbeats 4000000 in
theorem sum_less {s : Bool} {a : Option Addr} {n c : Nat} {t : Bool} {b : Option Addr} {m d : Nat} {w : World} {cc : Int} (hst : s ≠ t) (C : ∀ v, Below w.heap.size w v → Calls Tryd.prog 37 #[.slice a n c, .slice b m d] v fun e w' => e = .returned (.int .i64 cc) ∧ Below v.heap.size v w') (hc : ¬ cc < 0) :
    Calls Tryd.prog 40 #[.agg #[.bool s, .slice a n c], .agg #[.bool t, .slice b m d]] w fun e w' => e = .returned (.agg #[.bool s, .func (.func 58) #[] #[]]) ∧ Below w.heap.size w w' := by
  have he : (s == t) = false := by simp [hst]
  obtain ⟨b1, b2, b3, bV, hs⟩ := boxes3 w #[.bool s, .slice a n c] #[.bool t, .slice b m d] #[.bool false, .nilFunc] 24 24 51
  obtain ⟨x0, x1, -, -⟩ := b1.cells2
  obtain ⟨y0, y1, -, -⟩ := b2.cells2
  obtain ⟨z0, z1, f0, f1⟩ := b3.cells2
  go_enter Tryd.func40, Tryd.ntmps40
  go_wp2_with (go_at_call 37; (with_reducible refine Calls.mono (C _ bV) ?_); rintro e w1 ⟨rfl, b4⟩; obtain ⟨x0, x1, -, -⟩ := (b1.more b4).cells2; obtain ⟨y0, y1, -, -⟩ := (b2.more b4).cells2; obtain ⟨z0, z1, f0, f1⟩ := (b3.more b4).cells2)
  exact bodyPost_ret (v := .agg #[.bool _, .func (.func 58) #[] #[]]) (by simp [results, Tryd.results40, go_sem, z0, z1]) rfl ⟨rfl, (below_more bV b4).setCell (p := ⟨w.heap.size + 1 + 1, 0, none⟩) (show w.heap.size ≤ w.heap.size + 1 + 1 by omega) _ |>.setCell (p := ⟨w.heap.size + 1 + 1, 1, none⟩) (show w.heap.size ≤ w.heap.size + 1 + 1 by omega) _⟩

set_option maxHeartbeats 4000000 in
theorem add_by {s : Bool} {a : Option Addr} {n c : Nat} {t : Bool} {b : Option Addr} {m d : Nat} {w : World} {g : Bool} {k : Nat} {z : Int}
    (S : ∀ v, Below w.heap.size w v → Calls Tryd.prog 40 #[.agg #[.bool s, .slice a n c], .agg #[.bool t, .slice b m d]] v fun e w' => e = .returned (.agg #[.bool g, .func (.func k) #[] #[]]) ∧ Below v.heap.size v w')
    (D : ∀ v, Below w.heap.size w v → Calls Tryd.prog 39 #[.agg #[.bool g, .func (.func k) #[] #[]], .agg #[.bool s, .slice a n c], .agg #[.bool t, .slice b m d]] v (AnsI v z)) :
    Calls Tryd.prog 21 #[.agg #[.bool s, .slice a n c], .agg #[.bool t, .slice b m d]] w (AnsI w z) := by
  unfold AnsI at D ⊢
  generalize decide (z < 0) = r at D ⊢
  generalize z.natAbs = N at D ⊢
  obtain ⟨b1, b2, b3, bV, hs⟩ := boxes3 w #[.bool s, .slice a n c] #[.bool t, .slice b m d] #[.bool false, .slice none 0 0] 24 24 24
  go_enter Tryd.func21, Tryd.ntmps21
  go_wp2
  generalize ((w.alloc (.cells #[.bool s, .slice a n c] 24)).alloc (.cells #[.bool t, .slice b m d] 24)).alloc (.cells #[.bool false, .slice none 0 0] 24) = V at *
  have SO : ∀ v, Below V.heap.size V v → v.cell? ⟨w.heap.size, 0, none⟩ = some (.bool s) ∧ v.cell? ⟨w.heap.size, 1, none⟩ = some (.slice a n c) ∧ v.cell? ⟨w.heap.size + 1, 0, none⟩ = some (.bool t) ∧ v.cell? ⟨w.heap.size + 1, 1, none⟩ = some (.slice b m d) := fun v hb => ⟨(b1.more hb).cells2.1, (b1.more hb).cells2.2.1, (b2.more hb).cells2.1, (b2.more hb).cells2.2.1⟩
  have SR : ∀ u x y, Below V.heap.size V u → ∀ v, v = (u.setCell ⟨w.heap.size + 1 + 1, 0, none⟩ x).setCell ⟨w.heap.size + 1 + 1, 1, none⟩ y → v.cell? ⟨w.heap.size, 0, none⟩ = some (.bool s) ∧ v.cell? ⟨w.heap.size, 1, none⟩ = some (.slice a n c) ∧ v.cell? ⟨w.heap.size + 1, 0, none⟩ = some (.bool t) ∧ v.cell? ⟨w.heap.size + 1, 1, none⟩ = some (.slice b m d) := fun u x y hb v e => by
    subst e
    have i1 := ((b1.more hb).other (g := w.heap.size + 1 + 1) (i := 0) (by omega) x).other (g := w.heap.size + 1 + 1) (i := 1) (by omega) y
    have i2 := ((b2.more hb).other (g := w.heap.size + 1 + 1) (i := 0) (by omega) x).other (g := w.heap.size + 1 + 1) (i := 1) (by omega) y
    exact ⟨i1.cells2.1, i1.cells2.2.1, i2.cells2.1, i2.cells2.2.1⟩
  have bs : Below V.heap.size V V.drew := (Below.refl _ _).drew
  go_region_held3 (fun v => v.cell? ⟨w.heap.size, 0, none⟩ = some (.bool s) ∧ v.cell? ⟨w.heap.size, 1, none⟩ = some (.slice a n c) ∧ v.cell? ⟨w.heap.size + 1, 0, none⟩ = some (.bool t) ∧ v.cell? ⟨w.heap.size + 1, 1, none⟩ = some (.slice b m d))
    (first | exact SO _ bs | exact SR _ _ _ bs _ rfl)
    (first
    | (go_at_call 40; (with_reducible refine Calls.mono (S _ bV.drew) ?_); rintro e w1 ⟨rfl, d1⟩; replace bs := below_more bs d1; have BW := below_more bV bs; have hs1 : w.heap.size + 1 + 1 < w1.heap.size := Nat.lt_of_lt_of_le hs bs.size)
    | (go_at_call 39; (with_reducible refine Calls.mono (D _ BW) ?_); rintro e w2 ⟨a2, c2, rfl, o2⟩; replace bs := below_more bs o2.below; obtain ⟨y0, y1, f0, f1⟩ := (b3.more bs).cells2))
  have q := fun x y => (o2.above BW).set (k := w.heap.size + 1 + 1) (by omega) hs1 0 x |>.set (k := w.heap.size + 1 + 1) (by omega) hs1 1 y
  go_wp2
  exact bodyPost_ret (v := .agg #[.bool r, .slice a2 (nl N) c2]) (by simp [results, Tryd.results21, go_sem, y0, y1]) rfl ⟨a2, c2, rfl, (q _ _).own BW.size⟩

theorem whole_add {s : Bool} {a : Option Addr} {n c : Nat} {x : Int} {t : Bool} {b : Option Addr} {m d : Nat} {y : Int} {w : World} (h : RI w s a n c x) (k : RI w t b m d y) (z : Int) (hv : x + y = z) :
    Calls Tryd.prog 21 #[.agg #[.bool s, .slice a n c], .agg #[.bool t, .slice b m d]] w (AnsI w z) := by
  obtain ⟨xs, h, hx, hn, rfl⟩ := h
  obtain ⟨ys, k, hy, hm, rfl⟩ := k
  subst hv
  have C := fun v (hb : Below w.heap.size w v) => nat_cmp' (h.below hb) hx (k.below hb) hy _ rfl
  by_cases hst : s = t
  · subst hst
    exact add_by (fun v hb => sum_add rfl) (fun v hb => done_add s _ _ (iv_add_same s _ _) fun u hu => nat_add' (h.below (below_more hb hu)) hx (k.below (below_more hb hu)) hy (by omega) (by omega) _ rfl)
  · rcases Nat.lt_or_ge (val xs) (val ys) with hl | hl
    · exact add_by (fun v hb => sum_over hst (fun u hu => C u (below_more hb hu)) (by rw [sgn_lt (by omega)]; omega)) (fun v hb => done_over t _ _ (by rw [iv_add_ge (Ne.symm hst) (Nat.le_of_lt hl), Int.add_comm]) fun u hu => whole_over (h.below (below_more hb hu)) hx (k.below (below_more hb hu)) hy (by omega) _ (by omega))
    · have hge : ¬ sgn (val xs : Int) (val ys : Int) < 0 := by
        rcases Nat.lt_or_ge (val ys) (val xs) with e | e
        · rw [sgn_gt (by omega)]; omega
        · rw [sgn_eq (by omega)]; omega
      exact add_by (fun v hb => sum_less hst (fun u hu => C u (below_more hb hu)) hge) (fun v hb => done_less s _ _ (iv_add_ge hst hl) fun u hu => whole_less (h.below (below_more hb hu)) hx (k.below (below_more hb hu)) hy (by omega) _ (by omega))

set_option maxHeartbeats 4000000 in
theorem whole_mul {s : Bool} {a : Option Addr} {n c : Nat} {x : Int} {t : Bool} {b : Option Addr} {m d : Nat} {y : Int} {w : World} (h : RI w s a n c x) (k : RI w t b m d y) (z : Int) (hv : x * y = z) :
    Calls Tryd.prog 23 #[.agg #[.bool s, .slice a n c], .agg #[.bool t, .slice b m d]] w (AnsI w z) := by
  obtain ⟨xs, h, hx, hn, rfl⟩ := h
  obtain ⟨ys, k, hy, hm, rfl⟩ := k
  have D := fun v (hb : Below w.heap.size w v) => done_mul (s := s) (t := t) (w := v) (!(s == t)) _ z (by rw [iv_mul]; exact hv) fun u hu => times_mul' (h.below (below_more hb hu)) hx (k.below (below_more hb hu)) hy (by omega) (by omega) _ rfl
  unfold AnsI at D ⊢
  generalize decide (z < 0) = r at D ⊢
  generalize z.natAbs = N at D ⊢
  clear h k hx hy hn hm hv
  obtain ⟨b1, b2, b3, bV, hs⟩ := boxes3 w #[.bool s, .slice a n c] #[.bool t, .slice b m d] #[.bool false, .slice none 0 0] 24 24 24
  go_enter Tryd.func23, Tryd.ntmps23
  go_wp2_with (go_at_call 39; (with_reducible refine Calls.mono (D _ bV) ?_); rintro e w2 ⟨a2, c2, rfl, o2⟩; obtain ⟨y0, y1, f0, f1⟩ := (b3.more o2.below).cells2)
  have q := fun x y => (o2.above bV).set (k := w.heap.size + 1 + 1) (by omega) hs 0 x |>.set (k := w.heap.size + 1 + 1) (by omega) hs 1 y
  exact bodyPost_ret (v := .agg #[.bool r, .slice a2 (nl N) c2]) (by simp [results, Tryd.results23, go_sem, y0, y1]) rfl ⟨a2, c2, rfl, (q _ _).own bV.size⟩

set_option maxHeartbeats 4000000 in
theorem whole_sub {s : Bool} {a : Option Addr} {n c : Nat} {x : Int} {t : Bool} {b : Option Addr} {m d : Nat} {y : Int} {w : World} (h : RI w s a n c x) (k : RI w t b m d y) (z : Int) (hv : x - y = z) :
    Calls Tryd.prog 25 #[.agg #[.bool s, .slice a n c], .agg #[.bool t, .slice b m d]] w (AnsI w z) := by
  have M := fun v (hb : Below w.heap.size w v) => whole_neg (k.below hb) _ rfl
  have ly : nl (-y).natAbs ≤ 100000 := by
    obtain ⟨ys, k, hy, hm, rfl⟩ := k
    rw [nl_ineg, iv_abs]
    exact Nat.le_trans (nl_small hy m (by rw [k.len]; omega)) hm
  have A := fun v a1 c1 (hb : Below w.heap.size w v) (p : RI v (decide (-y < 0)) a1 (nl (-y).natAbs) c1 (-y)) => whole_add (h.below hb) p z (by omega)
  have rY := fun {W v : World} {a : Option Addr} {c : Nat} (o : Own W v (.slice a (nl (-y).natAbs) c) (nl (-y).natAbs) (natOf (-y).natAbs)) => o.ri ly
  unfold AnsI at M A ⊢
  generalize -y = Y at *
  generalize decide (Y < 0) = rr at *
  generalize Y.natAbs = N1 at *
  generalize decide (z < 0) = r at A ⊢
  generalize z.natAbs = N at A ⊢
  clear h k ly hv
  obtain ⟨b1, b2, b3, bV, hs⟩ := boxes3 w #[.bool s, .slice a n c] #[.bool t, .slice b m d] #[.bool false, .slice none 0 0] 24 24 24
  go_enter Tryd.func25, Tryd.ntmps25
  go_wp2
  generalize ((w.alloc (.cells #[.bool s, .slice a n c] 24)).alloc (.cells #[.bool t, .slice b m d] 24)).alloc (.cells #[.bool false, .slice none 0 0] 24) = V at *
  have SO : ∀ v, Below V.heap.size V v → v.cell? ⟨w.heap.size, 0, none⟩ = some (.bool s) ∧ v.cell? ⟨w.heap.size, 1, none⟩ = some (.slice a n c) ∧ v.cell? ⟨w.heap.size + 1, 0, none⟩ = some (.bool t) ∧ v.cell? ⟨w.heap.size + 1, 1, none⟩ = some (.slice b m d) := fun v hb => ⟨(b1.more hb).cells2.1, (b1.more hb).cells2.2.1, (b2.more hb).cells2.1, (b2.more hb).cells2.2.1⟩
  have SR : ∀ u x y, Below V.heap.size V u → ∀ v, v = (u.setCell ⟨w.heap.size + 1 + 1, 0, none⟩ x).setCell ⟨w.heap.size + 1 + 1, 1, none⟩ y → v.cell? ⟨w.heap.size, 0, none⟩ = some (.bool s) ∧ v.cell? ⟨w.heap.size, 1, none⟩ = some (.slice a n c) ∧ v.cell? ⟨w.heap.size + 1, 0, none⟩ = some (.bool t) ∧ v.cell? ⟨w.heap.size + 1, 1, none⟩ = some (.slice b m d) := fun u x y hb v e => by
    subst e
    have i1 := ((b1.more hb).other (g := w.heap.size + 1 + 1) (i := 0) (by omega) x).other (g := w.heap.size + 1 + 1) (i := 1) (by omega) y
    have i2 := ((b2.more hb).other (g := w.heap.size + 1 + 1) (i := 0) (by omega) x).other (g := w.heap.size + 1 + 1) (i := 1) (by omega) y
    exact ⟨i1.cells2.1, i1.cells2.2.1, i2.cells2.1, i2.cells2.2.1⟩
  have bs : Below V.heap.size V V.drew := (Below.refl _ _).drew
  go_region_held3 (fun v => v.cell? ⟨w.heap.size, 0, none⟩ = some (.bool s) ∧ v.cell? ⟨w.heap.size, 1, none⟩ = some (.slice a n c) ∧ v.cell? ⟨w.heap.size + 1, 0, none⟩ = some (.bool t) ∧ v.cell? ⟨w.heap.size + 1, 1, none⟩ = some (.slice b m d))
    (first | exact SO _ bs | exact SR _ _ _ bs _ rfl)
    (first
    | (go_at_call 15; (with_reducible refine Calls.mono (M _ bV.drew) ?_); rintro e w1 ⟨a1, c1, rfl, o1⟩; replace bs := below_more bs o1.below; have BW := below_more bV bs; have hs1 : w.heap.size + 1 + 1 < w1.heap.size := Nat.lt_of_lt_of_le hs bs.size)
    | (go_at_call 21; (with_reducible refine Calls.mono (A _ _ _ BW (rY o1)) ?_); rintro e w2 ⟨a2, c2, rfl, o2⟩; replace bs := below_more bs o2.below; obtain ⟨y0, y1, f0, f1⟩ := (b3.more bs).cells2))
  have q := fun x y => (o2.above BW).set (k := w.heap.size + 1 + 1) (by omega) hs1 0 x |>.set (k := w.heap.size + 1 + 1) (by omega) hs1 1 y
  go_wp2
  exact bodyPost_ret (v := .agg #[.bool r, .slice a2 (nl N) c2]) (by simp [results, Tryd.results25, go_sem, y0, y1]) rfl ⟨a2, c2, rfl, (q _ _).own BW.size⟩

end Go.Proofs.YtokjhpjglpgmcaaDoor
