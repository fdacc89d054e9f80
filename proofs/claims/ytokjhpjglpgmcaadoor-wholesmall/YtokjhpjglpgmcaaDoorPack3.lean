/-
  Texts of mine put together in build order: WholeC, BitsLen, TimesC, DeciWalks, StrIter, DeciA, DeciPad, RowW, DeciB, BytesW, DeciC, DeciD, RangeTold, RangeMade, DeciE, DeciF, WholeD, WholeLaws, IntFrame. Each says at its head what it proves. No conditions of its own.
-/
import Derived.Test.YtokjhpjglpgmcaaDoorPack2
import Derived.Deep.DeepCutAuto
import Derived.Test.YtokjhpjglpgmcaaDoorPack1
import Derived.Lib.OthersKept
import Derived.Test.YtokjhpjglpgmcaaDoorRows
import Derived.RangeFuncNested
import Derived.RangeFuncLeaves
import Derived.RangeFuncBound
import Derived.RangeFuncCalls
import Derived.Shelf.Abstract
import Derived.Shelf.RegionOpen
import Derived.OwnWalkIn
import Derived.TacticsInMore
import Derived.LoopNIn
import Derived.LoopIn
import Derived.Sort.LoopGhostIn
import Derived.ProofKit
import Derived.Lib.SmallJoins
/-
  Contract of package whole's Cmp for every two Ints of up to a hundred thousand words: as integers; memory that was there stays.
-/
namespace Go.Proofs.YtokjhpjglpgmcaaDoor
open Go.RowKit

theorem sgn_flip (x y : Int) : sgn y x = - sgn x y := by
  rcases Int.lt_trichotomy x y with h | h | h
  · rw [sgn_lt h, sgn_gt (by omega)]; rfl
  · rw [sgn_eq h, sgn_eq (by omega)]; rfl
  · rw [sgn_gt h, sgn_lt (by omega)]
theorem BoxC.new1 (v : World) (o : Obj) (cs : Array Value) (T : TypeId) : BoxC ((v.alloc o).alloc (.cells cs T)) (v.heap.size + 1) cs T := by
  have := BoxC.new (v.alloc o) cs T
  rwa [World.size_alloc] at this
theorem BoxC.newS (v : World) (k : Nat) (x y : Value) (cs : Array Value) (T : TypeId) : BoxC (((v.setCell ⟨k, 0, none⟩ x).setCell ⟨k, 1, none⟩ y).alloc (.cells cs T)) v.heap.size cs T := by
  have := BoxC.new ((v.setCell ⟨k, 0, none⟩ x).setCell ⟨k, 1, none⟩ y) cs T
  have e : ((v.setCell ⟨k, 0, none⟩ x).setCell ⟨k, 1, none⟩ y).heap.size = v.heap.size := by simp
  rwa [e] at this
theorem BoxC.set2 {v : World} {k : Nat} {x y : Value} {T : TypeId} (h : BoxC v k #[.bool false, .slice none 0 0] T) : BoxC ((v.setCell ⟨k, 0, none⟩ x).setCell ⟨k, 1, none⟩ y) k #[x, y] T := (h.set 0 x).set 1 y
theorem BoxC.other2 {v : World} {k g : Nat} {cs : Array Value} {x y : Value} {T : TypeId} (h : BoxC v k cs T) (hg : k ≠ g) : BoxC ((v.setCell ⟨g, 0, none⟩ x).setCell ⟨g, 1, none⟩ y) k cs T := (h.other hg x).other hg y
/-- What is owned stays where a variable of another type is written. -/
theorem Own.ibox {W w : World} {v : Value} {n : Nat} {xs : List Int} (h : Own W w v n xs) {k : Nat} {cs : Array Value} (B : BoxC w k cs 24) (hk : W.heap.size ≤ k) (i : Nat) (x : Value) : Own W (w.setCell ⟨k, i, none⟩ x) v n xs := by
  refine ⟨⟨h.1.1, ?_⟩, h.2.setCell (p := ⟨k, i, none⟩) hk _⟩
  rcases h.1.2 with h0 | ⟨g, cap, cur, e, h3, hg, h4⟩
  · exact .inl h0
  · refine .inr ⟨g, cap, cur, e, h3, ?_, h4⟩
    have hne : g ≠ k := by
      intro e1
      subst e1
      unfold BoxC at B
      rw [B] at hg
      simp at hg
    rw [Below.heap_setCell w ⟨k, i, none⟩ x g (by simpa using hne)]; exact hg
theorem Own.ibox2 {W w : World} {v : Value} {n : Nat} {xs : List Int} {k : Nat} {x y : Value} (h : Own W w v n xs) (B : BoxC w k #[.bool false, .slice none 0 0] 24) (hk : W.heap.size ≤ k) : Own W ((w.setCell ⟨k, 0, none⟩ x).setCell ⟨k, 1, none⟩ y) v n xs :=
  (h.ibox B hk 0 x).ibox (B.set 0 x) hk 1 y

set_option maxHeartbeats 8000000 in
theorem whole_cmp {s : Bool} {a : Option Addr} {n c : Nat} {x : Int} {t : Bool} {b : Option Addr} {m d : Nat} {y : Int} {w : World} (h : RI w s a n c x) (k : RI w t b m d y) (g : Int) (hv : sgn x y = g) :
    Calls Tryd.prog 19 #[.agg #[.bool s, .slice a n c], .agg #[.bool t, .slice b m d]] w fun e w' => e = .returned (.int .i64 g) ∧ Below w.heap.size w w' := by
  have F1 := fun v (hb : Below w.heap.size w v) => whole_fix (h.below hb)
  have F2 := fun v (hb : Below w.heap.size w v) => whole_fix (k.below hb)
  have C1 := fun v a1 c1 a2 c2 (p : IsWords v (.slice a1 (nl x.natAbs) c1) (natOf x.natAbs)) (q : IsWords v (.slice a2 (nl y.natAbs) c2) (natOf y.natAbs)) => nat_cmp' p (wd_natOf _) q (wd_natOf _) _ rfl
  have C2 := fun v a1 c1 a2 c2 (p : IsWords v (.slice a1 (nl x.natAbs) c1) (natOf x.natAbs)) (q : IsWords v (.slice a2 (nl y.natAbs) c2) (natOf y.natAbs)) => nat_cmp' q (wd_natOf _) p (wd_natOf _) _ rfl
  simp only [val_natOf] at C1 C2
  unfold AnsI at F1 F2
  clear h k
  obtain ⟨b1, b2, bV, hs⟩ := boxes2 w #[.bool s, .slice a n c] #[.bool t, .slice b m d] 24 24
  go_enter Tryd.func19, Tryd.ntmps19
  go_upto_region 1 with fail
  generalize (w.alloc (.cells #[.bool s, .slice a n c] 24)).alloc (.cells #[.bool t, .slice b m d] 24) = V at *
  have SO : ∀ v, Below V.heap.size V v → v.cell? ⟨w.heap.size, 0, none⟩ = some (.bool s) ∧ v.cell? ⟨w.heap.size, 1, none⟩ = some (.slice a n c) ∧ v.cell? ⟨w.heap.size + 1, 0, none⟩ = some (.bool t) ∧ v.cell? ⟨w.heap.size + 1, 1, none⟩ = some (.slice b m d) := fun v hb =>
    ⟨(b1.more hb).cells2.1, (b1.more hb).cells2.2.1, (b2.more hb).cells2.1, (b2.more hb).cells2.2.1⟩
  clear b1 b2
  go_cut [5, 6] from 7 to 10 (fun s5 s6 wx => ∃ (k5 k6 : Nat) (a1 : Option Addr) (c1 : Nat) (a2 : Option Addr) (c2 : Nat), s5 = .pointer (some ⟨k5, 0, none⟩) ∧ s6 = .pointer (some ⟨k6, 0, none⟩) ∧ BoxC wx k5 #[.bool (decide (x < 0)), .slice a1 (nl x.natAbs) c1] 24 ∧ BoxC wx k6 #[.bool (decide (y < 0)), .slice a2 (nl y.natAbs) c2] 24 ∧ Own w wx (.slice a1 (nl x.natAbs) c1) (nl x.natAbs) (natOf x.natAbs) ∧ Own w wx (.slice a2 (nl y.natAbs) c2) (nl y.natAbs) (natOf y.natAbs))
  case first =>
    have bs : Below V.heap.size V V.drew := (Below.refl _ _).drew
    generalize decide (x < 0) = r1 at *
    generalize decide (y < 0) = r2 at *
    generalize x.natAbs = N1 at *
    generalize y.natAbs = N2 at *
    have bs0 : Below V.heap.size V V := Below.refl _ _
    go_region_held3 (fun v => v.cell? ⟨w.heap.size, 0, none⟩ = some (.bool s) ∧ v.cell? ⟨w.heap.size, 1, none⟩ = some (.slice a n c) ∧ v.cell? ⟨w.heap.size + 1, 0, none⟩ = some (.bool t) ∧ v.cell? ⟨w.heap.size + 1, 1, none⟩ = some (.slice b m d))
      ((refine SO _ ?_; have hsz := bs.size; repeat' first | exact bs | exact bs0 | with_reducible refine Below.alloc ?_ ?_ _ | with_reducible refine Below.setCell ?_ ?_ _ | with_reducible refine Below.drew ?_ | exact hsz | exact Nat.le_refl _ | omega | (simp; done) | (simp; omega)))
      (first
      | (go_at_call 13; (with_reducible refine Calls.mono (F1 _ (below_more bV bs)) ?_); rintro e w1 ⟨a1, c1, rfl, o1⟩; have o1' := o1.outer (below_more bV bs); clear F1; replace bs := below_more bs o1.below)
      | (go_at_call 13; (with_reducible refine Calls.mono (F1 _ (below_more bV (bs0.alloc bs0.size _).drew)) ?_); rintro e w1 ⟨a1, c1, rfl, o1⟩; have o1' := o1.outer (below_more bV (bs0.alloc bs0.size (.cells #[.bool false, .slice none 0 0] 24)).drew); clear F1; have P1 := (BoxC.new V #[.bool false, .slice none 0 0] 24).drew.more o1.below; have hP := P1.lt; replace bs := below_more (bs0.alloc bs0.size (.cells #[.bool false, .slice none 0 0] 24)).drew o1.below)
      | (go_at_call 13; (with_reducible refine Calls.mono (F1 _ (below_more bV ((bs0.alloc bs0.size _).alloc (bs0.alloc bs0.size _).size _).drew)) ?_); rintro e w1 ⟨a1, c1, rfl, o1⟩; have o1' := o1.outer (below_more bV ((bs0.alloc bs0.size (.cells #[.bool false, .slice none 0 0] 24)).alloc (bs0.alloc bs0.size (.cells #[.bool false, .slice none 0 0] 24)).size (.cells #[.bool false, .slice none 0 0] 24)).drew); clear F1; have P1 := ((BoxC.new V #[.bool false, .slice none 0 0] 24).alloc (.cells #[.bool false, .slice none 0 0] 24)).drew.more o1.below; have P2 := (BoxC.new (V.alloc (.cells #[.bool false, .slice none 0 0] 24)) #[.bool false, .slice none 0 0] 24).drew.more o1.below; rw [World.size_alloc] at P2; have hP := P1.lt; have hP2 := P2.lt; replace bs := below_more ((bs0.alloc bs0.size (.cells #[.bool false, .slice none 0 0] 24)).alloc (bs0.alloc bs0.size (.cells #[.bool false, .slice none 0 0] 24)).size (.cells #[.bool false, .slice none 0 0] 24)).drew o1.below)
      | (go_at_call 13; (with_reducible refine Calls.mono (F2 _ (below_more bV bs)) ?_); rintro e w2 ⟨a2, c2, rfl, o2⟩; replace o1' := o1'.more o2.below; have o2' := o2.outer (below_more bV bs); have hz := bs.size; have hw := o2.below.size; replace bs := below_more bs o2.below; (try (have Q1 := (P1).more o2.below; obtain ⟨f0, f1, f2, f3⟩ := Q1.cells2; have f4 := fun o => (Q1.alloc o).cells2.1; have f5 := fun o => (Q1.alloc o).cells2.2.1; have f6 := fun o => (Q1.alloc o).cells2.2.2.1; have f7 := fun o => (Q1.alloc o).cells2.2.2.2)); (try (have Q2 := (P2).more o2.below; obtain ⟨g0, g1, g2, g3⟩ := Q2.cells2; have g4 := fun o => (Q2.alloc o).cells2.1; have g5 := fun o => (Q2.alloc o).cells2.2.1; have g6 := fun o => (Q2.alloc o).cells2.2.2.1; have g7 := fun o => (Q2.alloc o).cells2.2.2.2)))
      | (go_at_call 13; (with_reducible refine Calls.mono (F2 _ (below_more bV (bs.alloc bs.size _))) ?_); rintro e w2 ⟨a2, c2, rfl, o2⟩; replace o1' := (o1'.alloc (.cells #[.bool false, .slice none 0 0] 24)).more o2.below; have o2' := o2.outer (below_more bV (bs.alloc bs.size (.cells #[.bool false, .slice none 0 0] 24))); have hz := bs.size; replace bs := below_more (bs.alloc bs.size (.cells #[.bool false, .slice none 0 0] 24)) o2.below; have R1 := (BoxC.new w1 #[.bool false, .slice none 0 0] 24).more o2.below; have hR := R1.lt; obtain ⟨h0, h1, h2, h3⟩ := R1.cells2; have h4 := fun o => (R1.alloc o).cells2.1; have h5 := fun o => (R1.alloc o).cells2.2.1; have h6 := fun o => (R1.alloc o).cells2.2.2.1; have h7 := fun o => (R1.alloc o).cells2.2.2.2; (try (have Q1 := (P1.alloc (.cells #[.bool false, .slice none 0 0] 24)).more o2.below; obtain ⟨f0, f1, f2, f3⟩ := Q1.cells2; have f4 := fun o => (Q1.alloc o).cells2.1; have f5 := fun o => (Q1.alloc o).cells2.2.1; have f6 := fun o => (Q1.alloc o).cells2.2.2.1; have f7 := fun o => (Q1.alloc o).cells2.2.2.2)); (try (have Q2 := (P2.alloc (.cells #[.bool false, .slice none 0 0] 24)).more o2.below; obtain ⟨g0, g1, g2, g3⟩ := Q2.cells2; have g4 := fun o => (Q2.alloc o).cells2.1; have g5 := fun o => (Q2.alloc o).cells2.2.1; have g6 := fun o => (Q2.alloc o).cells2.2.2.1; have g7 := fun o => (Q2.alloc o).cells2.2.2.2)))
      | (go_at_call 13; (with_reducible refine Calls.mono (F2 _ (below_more bV ((bs.alloc bs.size _).alloc (bs.alloc bs.size _).size _))) ?_); rintro e w2 ⟨a2, c2, rfl, o2⟩; replace o1' := ((o1'.alloc (.cells #[.bool false, .slice none 0 0] 24)).alloc (.cells #[.bool false, .slice none 0 0] 24)).more o2.below; have o2' := o2.outer (below_more bV ((bs.alloc bs.size (.cells #[.bool false, .slice none 0 0] 24)).alloc (bs.alloc bs.size (.cells #[.bool false, .slice none 0 0] 24)).size (.cells #[.bool false, .slice none 0 0] 24))); have hz := bs.size; replace bs := below_more ((bs.alloc bs.size (.cells #[.bool false, .slice none 0 0] 24)).alloc (bs.alloc bs.size (.cells #[.bool false, .slice none 0 0] 24)).size (.cells #[.bool false, .slice none 0 0] 24)) o2.below; have R1 := ((BoxC.new w1 #[.bool false, .slice none 0 0] 24).alloc (.cells #[.bool false, .slice none 0 0] 24)).more o2.below; have hR := R1.lt; have R2 := (BoxC.new (w1.alloc (.cells #[.bool false, .slice none 0 0] 24)) #[.bool false, .slice none 0 0] 24).more o2.below; rw [World.size_alloc] at R2; have hR2 := R2.lt; obtain ⟨h0, h1, h2, h3⟩ := R1.cells2; have h4 := fun o => (R1.alloc o).cells2.1; have h5 := fun o => (R1.alloc o).cells2.2.1; have h6 := fun o => (R1.alloc o).cells2.2.2.1; have h7 := fun o => (R1.alloc o).cells2.2.2.2; obtain ⟨i0, i1, i2, i3⟩ := R2.cells2; have i4 := fun o => (R2.alloc o).cells2.1; have i5 := fun o => (R2.alloc o).cells2.2.1; have i6 := fun o => (R2.alloc o).cells2.2.2.1; have i7 := fun o => (R2.alloc o).cells2.2.2.2))
    all_goals go_wp2_with fail
    all_goals go_meet
    all_goals clear SO C1 C2 F2
    all_goals refine ⟨_, _, a1, c1, a2, c2, rfl, rfl, ?_, ?_, ?_, ?_⟩
    all_goals repeat' first | with_reducible assumption | with_reducible exact BoxC.new _ _ _ | with_reducible exact BoxC.new1 _ _ _ _ | with_reducible exact BoxC.newS _ _ _ _ _ _ | with_reducible refine BoxC.set2 ?_ | with_reducible refine BoxC.other2 ?_ ?_ | with_reducible refine BoxC.alloc ?_ _ | with_reducible refine Own.alloc ?_ _ | with_reducible refine Own.ibox2 ?_ ?_ ?_ | omega
  case rest =>
    obtain ⟨k5, k6, a1, c1, a2, c2, rfl, rfl, B5, B6, o1, o2⟩ := hcut
    replace C1 := C1 _ _ _ _ _ o1.words o2.words
    replace C2 := C2 _ _ _ _ _ o1.words o2.words
    rw [sgn_flip] at C2
    obtain ⟨x0, x1, -, -⟩ := B5.cells2
    obtain ⟨y0, y1, -, -⟩ := B6.cells2
    have hb := o2.below
    clear o1 o2 F1 F2 SO B5 B6 bV hs
    rcases sgn_signs (x := x) (y := y) with ⟨h1, h2, e⟩ | ⟨h1, h2, e⟩ | ⟨h1, h2, e⟩ | ⟨h1, h2, e⟩
    case' inl => rw [decide_eq_true h1] at x0; rw [decide_eq_true h2] at y0
    case' inr.inl => rw [decide_eq_true h1] at x0; rw [decide_eq_false h2] at y0
    case' inr.inr.inl => rw [decide_eq_false h1] at x0; rw [decide_eq_true h2] at y0
    case' inr.inr.inr => rw [decide_eq_false h1] at x0; rw [decide_eq_false h2] at y0
    all_goals
      rw [e] at hv
      generalize sgn (x.natAbs : Int) y.natAbs = cc at C1 C2 hv
      subst hv
      clear h1 h2 e
      generalize x.natAbs = N1 at *
      generalize y.natAbs = N2 at *
      go_wp2_with (first
        | (go_at_call 37; (with_reducible refine Calls.mono C1 ?_); rintro e w3 ⟨rfl, b3⟩; replace hb := below_more hb b3)
        | (go_at_call 37; (with_reducible refine Calls.mono C2 ?_); rintro e w3 ⟨rfl, b3⟩; replace hb := below_more hb b3))
      go_ret
      exact ⟨rfl, hb⟩
end Go.Proofs.YtokjhpjglpgmcaaDoor
/-
  Contracts of the standard library's bits.Len64 and bits.Len, for every number of 64 bits: how many binary digits it has; memory stays.
-/
namespace Go.Proofs.YtokjhpjglpgmcaaDoor
open Go.RowKit

theorem len8_shift (a y : Int) (s : Nat) (h0 : 0 ≤ a) (h1 : a < 18446744073709551616) (y0 : 0 ≤ y) (y1 : y ≤ 255) (hy : y.toNat = a.toNat / 2 ^ s) (hs : 2 ^ s ≤ a.toNat ∨ s = 0) :
    Hid (Lib.len8 y + s = Lib.bitLen a.toNat) ∧ 0 ≤ Lib.len8 y ∧ Lib.len8 y ≤ 8 := by
  have e : Lib.len8 y = (Lib.bitLen (a.toNat / 2 ^ s) : Int) := by rw [Lib.len8_of _ y0 y1, hy]
  have l1 : Lib.bitLen (a.toNat / 2 ^ s) ≤ 8 := Lib.bitLen_le _ 8 (by omega) (by rw [← hy]; omega)
  refine ⟨?_, by omega, by omega⟩
  show _ = _
  rw [e]
  rcases hs with hs | rfl
  · rw [Lib.bitLen_shift s a.toNat hs (by omega)]; omega
  · simp


end Go.Proofs.YtokjhpjglpgmcaaDoor
/-
  Contracts of package times's functions tooLong and Pow, for every list of words and every exponent: the list of the power, or that there is none; memory that was there stays, and what is answered is the call's own.
-/
namespace Go.Proofs.YtokjhpjglpgmcaaDoor
open Go.RowKit

/-- How many words a power has. -/
theorem nl_pow {A n k : Nat} (h : A ≤ 1 ∨ nl A * n ≤ 4096) (hk : k ≤ n) : nl (A ^ k) ≤ 4096 := by
  rcases h with h | h
  · have : A ^ k ≤ 1 := by
      rcases Nat.le_one_iff_eq_zero_or_eq_one.1 h with rfl | rfl
      · rcases Nat.eq_zero_or_pos k with rfl | h0
        · simp
        · rw [Nat.zero_pow h0]; omega
      · simp
    exact Nat.le_trans (nl_le 1 _ (by omega)) (by omega)
  · have h1 : A ^ k ≤ (4294967296 ^ nl A) ^ k := Nat.pow_le_pow_left (Nat.le_of_lt (lt_nl A)) k
    rcases Nat.eq_zero_or_pos k with rfl | h0
    · simp only [Nat.pow_zero]
      exact Nat.le_trans (nl_le 1 _ (by omega)) (by omega)
    · have h2 : A ^ k < (4294967296 ^ nl A) ^ k := Nat.pow_lt_pow_left (lt_nl A) (by omega)
      rw [← Nat.pow_mul] at h2
      have h3 : nl A * k ≤ nl A * n := Nat.mul_le_mul_left _ hk
      exact Nat.le_trans (nl_le _ _ h2) (by omega)

theorem ret_tb {a : Option Addr} {n c : Nat} {r s : Bool} (h : r = s) : Ending.returned (.tuple #[.slice a n c, .bool r]) = .returned (.tuple #[.slice a n c, .bool s]) := by rw [h]

theorem one_of (w : World) : Calls Tryd.prog 35 #[.int .u64 1] w (Ans w 1) := nat_of 1 w (by omega) (by omega)
theorem wd_nat_one : Wd (natOf 1) := wd_natOf 1

theorem and_one (x : Nat) (hx : x < 9223372036854775808) : bits BinOp.and IntKind.i64 (x : Int) 1 = ((x % 2 : Nat) : Int) := by
  have h1 : (BitVec.ofInt 64 (x : Int)).toNat = x := by
    rw [BitVec.ofInt_natCast, BitVec.toNat_ofNat]; exact Nat.mod_eq_of_lt (by omega)
  have h2 : (BitVec.ofInt 64 (1 : Int)).toNat = 1 := by decide
  show IntKind.i64.wrap ((BitVec.ofInt 64 (x : Int) &&& BitVec.ofInt 64 (1 : Int)).toNat : Int) = _
  rw [BitVec.toNat_and, h1, h2, IntKind.wrap_i64, Nat.and_one_is_mod]
  omega

/-- One bit of the exponent. -/
theorem pow_step (N t : Nat) : N / 2 ^ t = 2 * (N / 2 ^ (t + 1)) + N / 2 ^ t % 2 := by
  rw [Nat.pow_succ, ← Nat.div_div_eq_div_mul]; omega
theorem pow_sq (A q : Nat) : A ^ q * A ^ q = A ^ (2 * q) := by rw [← Nat.pow_add]; congr 1; omega

end Go.Proofs.YtokjhpjglpgmcaaDoor
/-
  The walks of the statements over digits (DeciParses, DeciPrints, DeciBack), for whatever package deci keeps its three contracts: they return true; memory that was there stays.
-/
namespace Go.Proofs.YtokjhpjglpgmcaaDoor
open Go.RowKit

/-- Package deci's three contracts. -/
def ParseOk : Prop := ∀ (s : ByteArray) (w : World), s.size ≤ maxLen → Calls Tryd.prog 46 #[.string s] w (AnsP w (pnum s.data.toList) (perr s.data.toList))
def PrintOk : Prop := ∀ {a : Option Addr} {n c : Nat} {zs : List Int} {w : World}, IsWords w (.slice a n c) zs → Wd zs → n ≤ 1000000 → ∀ N : Nat, val zs = N →
    Calls Tryd.prog 48 #[.slice a n c] w fun e w' => e = .returned (.string ⟨(decOf N).toArray⟩) ∧ Below w.heap.size w w'
theorem num_ex : Num [52, 50, 57, 52, 57, 54, 55, 50, 57, 54] := by decide
theorem val_ex : valD [52, 50, 57, 52, 57, 54, 55, 50, 57, 54] = 4294967296 := by decide
theorem dec_ex : decOf 4294967296 = [52, 50, 57, 52, 57, 54, 55, 50, 57, 54] := by rw [← val_ex]; exact decOf_valD num_ex
theorem nat_ex : natOf 4294967296 = [0, 1] := natOf_lit [0, 1] (wd_cons' (by omega) (by omega) (wd_one (by omega) (by omega))) (by decide) (by decide)

end Go.Proofs.YtokjhpjglpgmcaaDoor
/-
  Laws of no function: ranging over a text while the call makes memory: what the call owns stays while the range goes on; what a sign at a byte is. No conditions of the program.
-/
namespace Go.Proofs.YtokjhpjglpgmcaaDoor
open Go.RowKit Go.Lib

theorem Own.iterAt {W w : World} {v : Value} {n : Nat} {xs : List Int} (h : Own W w v n xs) {k : Nat} {s : ByteArray} {pos : Nat} (hk : w.heap[k]? = some (.stringIter s pos)) (hW : W.heap.size ≤ k) (pos' : Nat) :
    Own W (w.iterAt k s pos') v n xs := by
  refine ⟨⟨h.1.1, ?_⟩, below_iterAt h.2 hW s pos'⟩
  rcases h.1.2 with h0 | ⟨g, cap, cur, e, h1, hg, h2⟩
  · exact .inl h0
  · have hkg : g ≠ k := by
      intro e1
      rw [e1, hk] at hg
      cases hg
    exact .inr ⟨g, cap, cur, e, h1, (iterAt_other w k g s pos' hkg).trans hg, h2⟩

/-- A range's place stays while a callee makes memory. -/
theorem iter_more {w w' : World} {k : Nat} {s : ByteArray} {pos : Nat} (hk : w.heap[k]? = some (.stringIter s pos)) (hb : Below w.heap.size w w') : w'.heap[k]? = some (.stringIter s pos) :=
  (hb.block k (Array.getElem?_eq_some_iff.1 hk).1).trans hk

theorem iter_new (w : World) (s : ByteArray) : (w.iter s 0).heap[w.heap.size]? = some (.stringIter s 0) := World.iter_heap w s 0
theorem below_iter (w : World) (s : ByteArray) (pos : Nat) : Below w.heap.size w (w.iter s pos) := (Below.refl _ w).alloc (Nat.le_refl _) _

/-- A sign above the plain ones at a byte that is not plain. -/
theorem decode_not {s : ByteArray} {pos : Nat} (h : pos < s.size) {a b : Nat} (hb : b < 128) (hc : ¬ (a ≤ (s[pos]'h).toNat ∧ (s[pos]'h).toNat ≤ b)) : (Utf8.decode s pos).1 < a ∨ b < (Utf8.decode s pos).1 := by
  by_cases ha : (s[pos]'h).toNat < 128
  · rw [decode_ascii s pos h ha]; dsimp only; omega
  · have := (decode_high s pos h (by omega)).1; omega
end Go.Proofs.YtokjhpjglpgmcaaDoor
/-
  Contracts of package deci's functions isNumber and Parse, for every text: as digits and numbers; memory that was there stays.
-/
namespace Go.Proofs.YtokjhpjglpgmcaaDoor
open Go.RowKit Go.Lib

theorem take_byte (s : ByteArray) (k : Nat) (h : k < s.size) : s.data.toList.take (k + 1) = s.data.toList.take k ++ [s[k]] := by
  rw [List.take_succ_eq_append_getElem (by simpa using h)]; rfl

theorem below_iterAt' {w wr : World} (hb : Below w.heap.size w wr) (s : ByteArray) (pos : Nat) : Below w.heap.size w (wr.iterAt w.heap.size s pos) := below_iterAt hb (Nat.le_refl w.heap.size) s pos

/-- The four ways in which a text of digits is a number, or isn't. -/
theorem deci_ways (s : ByteArray) (h : DigS s.data.toList) :
    ((s.toList == [48]) = false ∧ s.toList.isEmpty = true ∧ (Num s.data.toList ↔ False)) ∨ ((s.toList == [48]) = true ∧ (Num s.data.toList ↔ True)) ∨
    ((s.toList == [48]) = false ∧ s.toList.isEmpty = false ∧ ∃ h : 0 < s.size, ((s[0]'h).toNat : Int) = 48 ∧ (Num s.data.toList ↔ False)) ∨
    ((s.toList == [48]) = false ∧ s.toList.isEmpty = false ∧ ∃ h : 0 < s.size, ((s[0]'h).toNat : Int) ≠ 48 ∧ (Num s.data.toList ↔ True)) := by
  have hl : s.data.toList.length = s.size := by simp
  by_cases h0 : 0 < s.size
  · have hd := drop_byte s 0 h0
    rw [List.drop_zero] at hd
    have ht : s.toList = s[0] :: s.data.toList.drop (0 + 1) := by rw [ByteArray.toList_eq]; exact hd
    by_cases e : s.toList = [48]
    · refine .inr (.inl ⟨by rw [e]; rfl, ?_⟩)
      rw [ByteArray.toList_eq] at e
      rw [e]
      exact ⟨fun _ => trivial, fun _ => by decide⟩
    · have e1 : (s.toList == [48]) = false := by simpa using e
      have e2 : s.toList.isEmpty = false := by rw [ht]; rfl
      by_cases hc : ((s[0]'h0).toNat : Int) = 48
      · refine .inr (.inr (.inl ⟨e1, e2, h0, hc, ?_⟩))
        have h48 : s[0] = 48 := UInt8.toNat_inj.1 (by show s[0].toNat = 48; omega)
        refine ⟨fun hn => e ?_, False.elim⟩
        have := hn.2.2 (by rw [hd, h48]; rfl)
        rw [ht, h48, List.eq_nil_of_length_eq_zero (l := s.data.toList.drop (0 + 1)) (by rw [List.length_drop]; omega)]
      · refine .inr (.inr (.inr ⟨e1, e2, h0, hc, ?_⟩))
        refine ⟨fun _ => trivial, fun _ => ⟨by rw [hd]; simp, h, fun hh => ?_⟩⟩
        rw [hd] at hh
        have h48 : s[0] = 48 := Option.some.inj hh
        exact absurd (by rw [h48]; rfl) hc
  · have e : s.data.toList = [] := List.eq_nil_of_length_eq_zero (by omega)
    have ht : s.toList = [] := by rw [ByteArray.toList_eq]; exact e
    exact .inl ⟨by rw [ht]; rfl, by rw [ht]; rfl, fun hn => hn.1 e, False.elim⟩

set_option maxHeartbeats 4000000 in
theorem deci_isNumber (s : ByteArray) (w : World) (hs : s.size ≤ 1000) (b : Bool) (hb : (b = true ↔ Num s.data.toList)) :
    Calls Tryd.prog 64 #[.string s] w fun e w' => e = .returned (.bool b) ∧ Below w.heap.size w w' := by
  have HB : Hid (b = true ↔ Num s.data.toList) := hb
  have HS : Hid (s.data.toList.length = s.size ∧ s.size ≤ 1000) := ⟨by simp, hs⟩
  clear hb hs
  go_enter Tryd.func64, Tryd.ntmps64
  go_wp2
  go_loopg [4] s.size (fun k s4 v => ∃ (pos : Nat), pos + k = s.size ∧ v.heap[w.heap.size]? = some (.stringIter s pos) ∧ Below w.heap.size w v ∧ DigS (s.data.toList.take pos))
  case atStart => exact ⟨0, by omega, iter_new w s, below_iter w s 0, by rw [List.take_zero]; intro c hc; cases hc⟩
  case round =>
    obtain ⟨pos, hk, hit, bw, hd⟩ := hrel
    have HD : Hid (DigS (s.data.toList.take pos)) := hd
    cases gk with
    | zero =>
      have e : s.data.toList.take pos = s.data.toList := List.take_of_length_le (by rw [HS.out.1]; omega)
      rw [e] at hd
      have hnx : ∀ ty, (Instr.next (.pointer (some ⟨w.heap.size, 0, none⟩)) true ty).run Tryd.prog wr = _ := fun ty => run_next_end_at wr w.heap.size s pos ty hit (by omega)
      have HD2 : Hid (DigS s.data.toList) := hd
      clear e hd HD hit hk
      rcases deci_ways s HD2.out with ⟨c1, c2, c3⟩ | ⟨c1, c3⟩ | ⟨c1, c2, c0, c4, c3⟩ | ⟨c1, c2, c0, c4, c3⟩
      all_goals
        have HC : Hid (b = true ↔ _) := HB.out.trans c3
        clear c3
        go_wp2
        go_ret
        exact ⟨ret_bool (by rw [Bool.eq_iff_iff, HC.out]; first | (simp; done) | simpa using c4), bw⟩
    | succ k =>
      have hp : pos < s.size := by omega
      by_cases hdig : 48 ≤ (s[pos].toNat : Int) ∧ (s[pos].toNat : Int) ≤ 57
      · obtain ⟨c0, c1⟩ := hdig
        have hnx : ∀ ty, (Instr.next (.pointer (some ⟨w.heap.size, 0, none⟩)) true ty).run Tryd.prog wr = _ := fun ty => run_next_ascii_at wr w.heap.size s pos ty hit hp (by omega)
        have HD2 : Hid (DigS (s.data.toList.take (pos + 1))) := by
          show DigS _
          rw [take_byte s pos hp, digS_append, digS_one]; exact ⟨hd, by omega⟩
        have hi2 := iterAt_heap wr w.heap.size s pos (pos + 1) hit
        have hbl := below_iterAt' bw s (pos + 1)
        generalize wr.iterAt w.heap.size s (pos + 1) = wi at hnx hi2 hbl
        clear hd HD hit
        go_wp2
        go_roundg k
        case measure => omega
        case rel => exact ⟨pos + 1, by omega, hi2, hbl, HD2.out⟩
      · have hn : ¬ Num s.data.toList := fun hN => hdig (by have := hN.2.1 s[pos] (by rw [← List.take_append_drop pos s.data.toList, drop_byte s pos hp]; simp); omega)
        have hbf : b = false := by
          cases b with
          | false => rfl
          | true => exact absurd (HB.out.1 rfl) hn
        have HQ : Hid (b = false) := hbf
        have hdec := decode_not hp (a := 48) (b := 57) (by omega) (by omega)
        have hnx : ∀ ty, (Instr.next (.pointer (some ⟨w.heap.size, 0, none⟩)) true ty).run Tryd.prog wr = _ := fun ty => run_next_any_at wr w.heap.size s pos ty hit hp
        have hbl := below_iterAt' bw s (pos + (Utf8.decode s pos).2)
        generalize wr.iterAt w.heap.size s (pos + (Utf8.decode s pos).2) = wi at hnx hbl
        generalize (Utf8.decode s pos).1 = r at hnx hdec
        clear hd HD hit hn hbf hdig
        rcases (by omega : (r : Int) < 48 ∨ (¬ (r : Int) < 48 ∧ 57 < (r : Int))) with d0 | ⟨d0, d1⟩
        all_goals
          clear hdec
          go_wp2
          go_ret
          exact ⟨by rw [HQ.out]; rfl, hbl⟩

set_option maxHeartbeats 4000000 in
theorem deci_parse : ParseOk := by
  intro s w hs
  unfold maxLen at hs
  have hsz : s.data.toList.length = s.size := by simp
  by_cases h1 : 1000 < s.size
  · rw [pnum_long (by omega), perr_long (by omega)]
    clear hsz
    go_enter Tryd.func46, Tryd.ntmps46
    go_wp2
    go_ret2
    exact ansP_no (Below.refl _ _)
  have h1' : ¬ (1000 : Int) < (s.size : Int) := by omega
  by_cases hn : Num s.data.toList
  case neg =>
    rw [pnum_no hn, perr_no (by omega) hn]
    have N1 := fun v => deci_isNumber s v (by omega) false (by simpa using hn)
    clear hsz hs hn
    go_enter Tryd.func46, Tryd.ntmps46
    go_wp2_with (go_at_call 64; (with_reducible refine Calls.mono (N1 _) ?_); rintro e w1 ⟨rfl, b1⟩)
    go_ret2
    exact ansP_no b1
  case pos =>
    rw [pnum_ok (by omega) hn, perr_ok (by omega) hn]
    have N1 := fun v => deci_isNumber s v (by omega) true (by simpa using hn)
    have HN : Hid (DigS s.data.toList ∧ s.data.toList.length = s.size) := ⟨hn.2.1, hsz⟩
    clear hsz hs hn
    go_enter Tryd.func46, Tryd.ntmps46
    go_wp2_with (go_at_call 64; (with_reducible refine Calls.mono (N1 _) ?_); rintro e w1 ⟨rfl, b1⟩)
    clear N1
    go_loopg [4, 6] s.size (fun k s4 s6 v => ∃ (pos : Nat) (a4 : Option Addr) (n4 c4 : Nat), pos + k = s.size ∧ v.heap[w1.heap.size]? = some (.stringIter s pos) ∧ s4 = .slice a4 n4 c4 ∧ n4 = nl (valD (s.data.toList.take pos)) ∧ Own w v (.slice a4 n4 c4) n4 (natOf (valD (s.data.toList.take pos))))
    case atStart =>
      refine ⟨0, none, 0, 0, by omega, iter_new w1 s, rfl, ?_, ?_⟩
      · rw [List.take_zero, valD_nil, nl_zero]
      · rw [List.take_zero, valD_nil, natOf_zero]; exact Own.nil (below_more b1 (below_iter w1 s 0))
    case round =>
      obtain ⟨pos, a4, n4, c4, hk, hit, rfl, e4, o4⟩ := hrel
      cases gk with
      | zero =>
        have e : s.data.toList.take pos = s.data.toList := List.take_of_length_le (by rw [HN.out.2]; omega)
        rw [e] at e4 o4
        subst e4
        have hnx : ∀ ty, (Instr.next (.pointer (some ⟨w1.heap.size, 0, none⟩)) true ty).run Tryd.prog wr = _ := fun ty => run_next_end_at wr w1.heap.size s pos ty hit (by omega)
        clear e hit hk
        go_wp2
        go_ret2
        exact ⟨_, _, rfl, o4⟩
      | succ k =>
        have hp : pos < s.size := by omega
        have hsize : w.heap.size ≤ w1.heap.size := b1.size
        have hdig := HN.out.1 s[pos] (by rw [← List.take_append_drop pos s.data.toList, drop_byte s pos hp]; simp)
        have c0 : 48 ≤ (s[pos].toNat : Int) := by omega
        have c1 : (s[pos].toNat : Int) ≤ 57 := by omega
        have hd : DigS (s.data.toList.take pos) := fun c hc => HN.out.1 c (List.mem_of_mem_take hc)
        have hnx : ∀ ty, (Instr.next (.pointer (some ⟨w1.heap.size, 0, none⟩)) true ty).run Tryd.prog wr = _ := fun ty => run_next_ascii_at wr w1.heap.size s pos ty hit hp (by omega)
        have b4 := nl_digits hd
        have hlen := List.length_take_le pos s.data.toList
        have O1 := fun v (p : IsWords v (.slice a4 n4 c4) (natOf (valD (s.data.toList.take pos)))) => times_one' p (wd_natOf _) (x := 10) (y := (s[pos].toNat : Int) - 48) (by omega) (by omega) (by omega) (by omega) (by omega) (valD (s.data.toList.take (pos + 1))) (by rw [val_natOf, take_byte s pos hp, valD_snoc, show (10 : Int).toNat = 10 from rfl]; omega)
        unfold Ans at O1
        generalize valD (s.data.toList.take pos) = K1 at e4 o4 b4 O1
        generalize hK2 : valD (s.data.toList.take (pos + 1)) = K2 at O1
        have HK : Hid (valD (s.data.toList.take (pos + 1)) = K2) := hK2
        have oi := o4.iterAt hit hsize (pos + 1)
        have hi2 := iterAt_heap wr w1.heap.size s pos (pos + 1) hit
        generalize wr.iterAt w1.heap.size s (pos + 1) = wi at hnx oi hi2
        clear hK2 hd b4 e4 hit hlen hdig
        go_wp2_with (go_at_call 65; (with_reducible refine Calls.mono (O1 _ oi.words) ?_); rintro e w2 ⟨a6, c6, rfl, o6⟩)
        have k2 := HK.out
        go_roundg k
        case measure => omega
        case rel => exact ⟨pos + 1, _, _, _, by omega, iter_more hi2 o6.below, rfl, by rw [k2], by rw [k2]; exact o6.outer oi.below⟩
end Go.Proofs.YtokjhpjglpgmcaaDoor
/-
  Plain mathematics of decimal digits in groups: so many digits of a number, also the 0s ahead; the digits of a text without the 0s ahead. No conditions of the program.
-/
namespace Go.Proofs.YtokjhpjglpgmcaaDoor

/-- The last k digits of a number, also the 0s ahead. -/
def pad : Nat → Nat → List UInt8
  | 0, _ => []
  | k + 1, g => pad k (g / 10) ++ [UInt8.ofNat (48 + g % 10)]

theorem pad_len (k g : Nat) : (pad k g).length = k := by
  induction k generalizing g with
  | zero => rfl
  | succ k ih => rw [pad, List.length_append, ih, List.length_singleton]
theorem digS_pad (k g : Nat) : DigS (pad k g) := by
  induction k generalizing g with
  | zero => intro c hc; cases hc
  | succ k ih => rw [pad, digS_append, digS_one, digit_nat]; exact ⟨ih _, by omega⟩
theorem valD_pad (k g : Nat) : valD (pad k g) = g % 10 ^ k := by
  induction k generalizing g with
  | zero => rw [Nat.pow_zero, Nat.mod_one]; rfl
  | succ k ih =>
    rw [pad, valD_snoc, ih, digit_nat, Nat.pow_succ, Nat.mul_comm (10 ^ k) 10, Nat.mod_mul]
    omega
/-- One group more. -/
theorem valD_group (l : List UInt8) {k g : Nat} (h : g < 10 ^ k) : valD (l ++ pad k g) = valD l * 10 ^ k + g := by
  rw [valD_append, pad_len, valD_pad, Nat.mod_eq_of_lt h]
/-- Without the 0s ahead a text of digits is its number's. -/
theorem trim_dg {l : List UInt8} (h : DigS l) : l.dropWhile (· == 48) = dg (valD l) := by
  induction l with
  | nil => rw [valD_nil, dg_zero]; rfl
  | cons c l ih =>
    obtain ⟨hc, hl⟩ := digS_cons.1 h
    by_cases e : c = 48
    · subst e
      rw [List.dropWhile_cons_of_pos (by decide), ih hl, valD_cons]
      congr 1
      simp
    · rw [List.dropWhile_cons_of_neg (by simpa using e)]
      exact (dg_valD h (by simpa using e)).symm
/-- The groups of a number, told from the highest one on: what has been told, and one more. -/
theorem told_step (N B j : Nat) : N / B ^ (j + 1) * B + N / B ^ j % B = N / B ^ j := by
  rw [Nat.pow_succ, ← Nat.div_div_eq_div_mul]
  have := Nat.div_add_mod (N / B ^ j) B
  rw [Nat.mul_comm] at this
  exact this
end Go.Proofs.YtokjhpjglpgmcaaDoor
/-
  Laws of no function: a slice of words that begins a block from some number on. No conditions of the program.
-/
namespace Go.Proofs.YtokjhpjglpgmcaaDoor
open Go.RowKit

/-- A slice of words that begins a block from n₀ on. -/
def Row (n₀ : Nat) (w : World) (v : Value) (n : Nat) (xs : List Int) : Prop := w.ownsRow n₀ 61 1 v n (xs.map (Value.int .u32))

theorem Own.row {W w : World} {v : Value} {n : Nat} {xs : List Int} (h : Own W w v n xs) {n₀ : Nat} (hn : n₀ ≤ W.heap.size) : Row n₀ w v n xs := by
  refine ⟨h.1.1, ?_⟩
  rcases h.1.2 with h0 | ⟨g, cap, cur, e, h1, h2⟩
  · exact .inl h0
  · exact .inr ⟨g, cap, cur, e, Nat.le_trans hn h1, h2⟩
theorem Row.own {W w : World} {v : Value} {n : Nat} {xs : List Int} {n₀ : Nat} (h : Row n₀ w v n xs) (hn : W.heap.size ≤ n₀) (hb : Below W.heap.size W w) : Own W w v n xs := by
  refine ⟨⟨h.1, ?_⟩, hb⟩
  rcases h.2 with h0 | ⟨g, cap, cur, e, h1, h2⟩
  · exact .inl h0
  · exact .inr ⟨g, cap, cur, e, Nat.le_trans hn h1, h2⟩
theorem Row.words {w : World} {v : Value} {n : Nat} {xs : List Int} {n₀ : Nat} (h : Row n₀ w v n xs) : IsWords w v xs := by
  have hl : xs.length = n := by have := h.1; simpa using this
  rcases h.2 with ⟨rfl, rfl⟩ | ⟨g, cap, cur, rfl, -, hg, hnc, hcm, -, -⟩
  · exact .inl ⟨rfl, List.eq_nil_of_length_eq_zero hl⟩
  · refine .inr ⟨⟨g, 0, none⟩, cap, by rw [hl], by omega, hcm, fun i hi => ?_⟩
    refine World.ownsRow.cells h (g := g) rfl i _ ?_
    simp [hi]
theorem Row.addr {w : World} {a : Option Addr} {n c m : Nat} {xs : List Int} {n₀ : Nat} (h : Row n₀ w (.slice a n c) m xs) : a = none ∨ ∃ g, a = some ⟨g, 0, none⟩ := by
  rcases h.2 with ⟨e, -⟩ | ⟨g, cap, cur, e, -⟩
  · simp only [Value.slice.injEq] at e; exact .inl e.1
  · simp only [Value.slice.injEq] at e; exact .inr ⟨g, e.1⟩
theorem Row.more {w w' : World} {v : Value} {n : Nat} {xs : List Int} {n₀ : Nat} (h : Row n₀ w v n xs) (hb : Below w.heap.size w w') : Row n₀ w' v n xs := by
  refine ⟨h.1, ?_⟩
  rcases h.2 with h0 | ⟨g, cap, cur, e, h1, hg, h2⟩
  · exact .inl h0
  · refine .inr ⟨g, cap, cur, e, h1, ?_, h2⟩
    rw [hb.block g (Array.getElem?_eq_some_iff.1 hg).1]; exact hg
theorem Row.keep {w w' : World} {v : Value} {n : Nat} {xs : List Int} {n₀ : Nat} (h : Row n₀ w v n xs) (hb : ∀ k, n₀ ≤ k → w'.heap[k]? = w.heap[k]?) : Row n₀ w' v n xs := by
  refine ⟨h.1, ?_⟩
  rcases h.2 with h0 | ⟨g, cap, cur, e, h1, hg, h2⟩
  · exact .inl h0
  · exact .inr ⟨g, cap, cur, e, h1, (hb g h1).trans hg, h2⟩
theorem Row.nil (n₀ : Nat) (w : World) : Row n₀ w (.slice none (nl 0) 0) (nl 0) (natOf 0) := by
  rw [nl_zero, natOf_zero]; exact World.ownsRow_nil _ _ _ _
/-- What lies in a block of its own stays while another row grows. -/
theorem Row.grown {w w' : World} {v : Value} {n : Nat} {xs : List Int} {n₀ : Nat} (h : Row n₀ w v n xs) {row : Option Nat} (hg : w.grownBy w' row) (hr : ∀ k, row = some k → k < n₀) : Row n₀ w' v n xs := by
  refine ⟨h.1, ?_⟩
  rcases h.2 with h0 | ⟨g, cap, cur, e, h1, hb, h2⟩
  · exact .inl h0
  · refine .inr ⟨g, cap, cur, e, h1, ?_, h2⟩
    rw [hg.block g (Array.getElem?_eq_some_iff.1 hb).1 (fun e1 => by have := hr g e1.symm; omega)]; exact hb
theorem Own.row_lt {W w : World} {v : Value} {n : Nat} {xs : List Int} (h : Own W w v n xs) (k : Nat) (hk : v.ownBlock = some k) : k < w.heap.size := (h.1.lt k hk).2
end Go.Proofs.YtokjhpjglpgmcaaDoor
/-
  Contract of package deci's function groups, for every list of up to a million words: the number's digits by nine, the lowest ones first; memory that was there stays.
-/
namespace Go.Proofs.YtokjhpjglpgmcaaDoor
open Go.RowKit

/-- Words that are a number's digits by nine, the lowest ones first: m of them. -/
def Grps (N m : Nat) (zs : List Int) : Prop := zs.length = m ∧ ∀ i, i < m → zs.getD i 0 = ((N / 1000000000 ^ i % 1000000000 : Nat) : Int)

theorem grps_nil (N : Nat) : Grps N 0 [] := ⟨rfl, fun i h => absurd h (Nat.not_lt_zero i)⟩
theorem grps_more {N m : Nat} {zs : List Int} (h : Grps N m zs) : Grps N (m + 1) (zs ++ [((N / 1000000000 ^ m % 1000000000 : Nat) : Int)]) := by
  refine ⟨by rw [List.length_append, h.1, List.length_singleton], fun i hi => ?_⟩
  rcases Nat.lt_or_ge i m with h1 | h1
  · rw [List.getD_eq_getElem?_getD, List.getElem?_append_left (by rw [h.1]; exact h1), ← List.getD_eq_getElem?_getD]; exact h.2 i h1
  · obtain rfl : i = m := by omega
    rw [List.getD_eq_getElem?_getD, List.getElem?_append_right (by rw [h.1]; exact Nat.le_refl _), h.1, Nat.sub_self]; rfl
/-- As long as something is left there are fewer than two groups a word. -/
theorem grps_few {N m : Nat} (h : 0 < N / 1000000000 ^ m) : m < 2 * nl N := by
  have h1 : 1000000000 ^ m ≤ N := by
    rcases Nat.lt_or_ge N (1000000000 ^ m) with h2 | h2
    · rw [Nat.div_eq_of_lt h2] at h; omega
    · exact h2
  have h2 : 65536 ^ m ≤ 1000000000 ^ m := Nat.pow_le_pow_left (by omega) m
  have h3 := lt_nl N
  have h4 : 4294967296 ^ nl N = 65536 ^ (2 * nl N) := by rw [Nat.pow_mul]
  rw [h4] at h3
  exact (Nat.pow_lt_pow_iff_right (by omega : 1 < 65536)).1 (by omega)

set_option maxHeartbeats 4000000 in
theorem deci_groups {a : Option Addr} {n c : Nat} {zs : List Int} {w : World} (h : IsWords w (.slice a n c) zs) (hz : Wd zs) (hn : n ≤ 1000000) (N : Nat) (hN : val zs = N) :
    Calls Tryd.prog 67 #[.slice a n c] w fun e w' => ∃ (a' : Option Addr) (m c' : Nat) (ys : List Int), e = .returned (.slice a' m c') ∧ Own w w' (.slice a' m c') m ys ∧ Grps N m ys ∧ N < 1000000000 ^ m ∧ m ≤ 2000000 := by
  have lN : nl N ≤ 1000000 := by rw [← hN]; exact nl_small hz _ (by rw [h.len]; exact hn)
  have HL : Hid (nl N ≤ 1000000) := lN
  have HI : Hid (IsWords w (.slice a n c) zs ∧ Wd zs ∧ n ≤ 1000000 ∧ val zs = N) := ⟨h, hz, hn, hN⟩
  clear h hz hn hN lN
  go_enter Tryd.func67, Tryd.ntmps67
  go_wp2
  go_loopg [0, 3] N (fun X s0 s3 v => ∃ (a0 : Option Addr) (n0 c0 : Nat) (xs : List Int) (a3 : Option Addr) (m c3 : Nat) (ys : List Int), s0 = .slice a0 n0 c0 ∧ s3 = .slice a3 m c3 ∧ IsWords v (.slice a0 n0 c0) xs ∧ Wd xs ∧ n0 ≤ 1000000 ∧ val xs = X ∧ Own w v (.slice a3 m c3) m ys ∧ Grps N m ys ∧ X = N / 1000000000 ^ m ∧ m ≤ 2000000)
  case atStart =>
    obtain ⟨i1, i2, i3, i4⟩ := HI.out
    exact ⟨_, _, _, zs, none, 0, 0, [], rfl, rfl, i1, i2, i3, i4, Own.nil (Below.refl _ _), grps_nil N, by simp, by omega⟩
  case round =>
    obtain ⟨a0, n0, c0, xs, a3, m, c3, ys, rfl, rfl, i0, hw, hn0, hX, o3, hg, hX2, hm⟩ := hrel
    clear HI
    have B1 := fun (N1 : Int) (e : (nbits (val xs) : Int) = N1) => nat_bits' i0 hw (by omega) N1 e
    rw [hX] at B1
    rcases Nat.eq_zero_or_pos gk with h0 | h0
    · subst h0
      have B2 := B1 0 (by rw [nbits_zero]; rfl)
      have HQ : Hid (N < 1000000000 ^ m) := by
        show N < _
        rcases Nat.lt_or_ge N (1000000000 ^ m) with h2 | h2
        · exact h2
        · have := Nat.div_pos h2 (Nat.pow_pos (by omega)); omega
      clear B1 hX2 hX i0 hw
      go_wp2_with (go_at_call 79; (with_reducible refine Calls.mono B2 ?_); rintro e w1 ⟨rfl, rfl⟩)
      go_ret
      exact ⟨_, _, _, ys, rfl, o3, hg, HQ.out, hm⟩
    · obtain ⟨nb, hnb, nb0⟩ : ∃ nb : Int, (nbits gk : Int) = nb ∧ 0 < nb := ⟨_, rfl, by rw [nbits_pos (by omega)]; omega⟩
      have B2 := B1 nb hnb
      have S := split_small a0 n0 c0 xs 1000000000 wr i0 hw (by omega) (by omega) (by omega)
      rw [hX, show (1000000000 : Int).toNat = 1000000000 from rfl] at S
      unfold AnsSmall at S
      have hlt : m < 2 * nl N := grps_few (by rw [← hX2]; exact h0)
      obtain ⟨r, hr⟩ : ∃ r : Int, ((gk % 1000000000 : Nat) : Int) = r := ⟨_, rfl⟩
      have HG : Hid (Grps N (m + 1) (ys ++ [r])) := by
        show Grps N (m + 1) _
        rw [← hr, hX2]; exact grps_more hg
      have HX : Hid (gk / 1000000000 = N / 1000000000 ^ (m + 1)) := by
        show _ = _
        rw [hX2, Nat.pow_succ, Nat.div_div_eq_div_mul]
      have HM : Hid (m + 1 ≤ 2000000 ∧ nl (gk / 1000000000) ≤ 1000000 ∧ 0 < gk) := ⟨by have := HL.out; omega, Nat.le_trans (nl_mono (Nat.le_trans (Nat.div_le_self _ _) (by rw [hX2]; exact Nat.div_le_self _ _))) HL.out, h0⟩
      have hm1 : m + 1 ≤ 35184372088832 := by omega
      rw [hr] at S
      clear B1 hX2 hX i0 hw hg hr hnb hn0 h0 hlt hm
      go_wp2_with (first
        | (go_at_call 79; (with_reducible refine Calls.mono B2 ?_); rintro e w1 ⟨rfl, rfl⟩)
        | (go_at_call 80; (with_reducible refine Calls.mono S ?_); rintro e w2 ⟨a4, c4, rfl, o4⟩; have o5 := o3.more o4.below)
        | (at_builtin; refine wpl_append_words (.tmp 14) (.tmp 16) rfl rfl w _ _ _ m 1 ys [r] rfl rfl (o5.alloc _) (lit_words w2 [r] 1 rfl (by decide)) rfl (m + 1) rfl hm1 ?_; intro a6 c6 w6 o6 g6))
      obtain ⟨m1, m2, m3⟩ := HM.out
      go_roundg (gk / 1000000000)
      case measure => omega
      case rel =>
        have r4 : Row wr.heap.size w6 (.slice a4 (nl (gk / 1000000000)) c4) (nl (gk / 1000000000)) (natOf (gk / 1000000000)) := ((o4.alloc _).row (Nat.le_refl _)).grown g6 (fun k hk => o3.row_lt k hk)
        exact ⟨_, _, _, _, _, _, _, _, rfl, rfl, r4.words, wd_natOf _, m2, val_natOf _, o6, HG.out, HX.out, m1⟩
end Go.Proofs.YtokjhpjglpgmcaaDoor
/-
  Laws of no function: a slice of bytes that begins a block from some number on: what it holds, what stays, append onto it. Conditions: Go's own limits on sizes.
-/
namespace Go.Proofs.YtokjhpjglpgmcaaDoor
open Go.RowKit

theorem infoU8 : (Tryd.prog.info? 5).map (fun i => (i.zero, i.size, i.bytes)) = some (some (.int .u8 0), 1, 1) := by kernel_rfl

/-- A slice of bytes that begins a block from n₀ on. -/
def RowB (n₀ : Nat) (w : World) (v : Value) (n : Nat) (bs : List UInt8) : Prop := w.ownsRow n₀ 5 1 v n (bs.map fun b => Value.int .u8 (b.toNat : Int))

theorem RowB.length {w : World} {v : Value} {n : Nat} {bs : List UInt8} {n₀ : Nat} (h : RowB n₀ w v n bs) : bs.length = n := by
  have := h.1; simpa using this
theorem RowB.nil (n₀ : Nat) (w : World) : RowB n₀ w (.slice none 0 0) 0 [] := World.ownsRow_nil _ _ _ _
theorem RowB.more {w w' : World} {v : Value} {n : Nat} {bs : List UInt8} {n₀ : Nat} (h : RowB n₀ w v n bs) (hb : Below w.heap.size w w') : RowB n₀ w' v n bs := by
  refine ⟨h.1, ?_⟩
  rcases h.2 with h0 | ⟨g, cap, cur, e, h1, hg, h2⟩
  · exact .inl h0
  · refine .inr ⟨g, cap, cur, e, h1, ?_, h2⟩
    rw [hb.block g (Array.getElem?_eq_some_iff.1 hg).1]; exact hg
theorem RowB.keep {w w' : World} {v : Value} {n : Nat} {bs : List UInt8} {n₀ : Nat} (h : RowB n₀ w v n bs) (hb : ∀ k, n₀ ≤ k → w'.heap[k]? = w.heap[k]?) : RowB n₀ w' v n bs := by
  refine ⟨h.1, ?_⟩
  rcases h.2 with h0 | ⟨g, cap, cur, e, h1, hg, h2⟩
  · exact .inl h0
  · exact .inr ⟨g, cap, cur, e, h1, (hb g h1).trans hg, h2⟩
theorem RowB.alloc {w : World} {v : Value} {n : Nat} {bs : List UInt8} {n₀ : Nat} (h : RowB n₀ w v n bs) (o : Obj) : RowB n₀ (w.alloc o) v n bs := World.ownsRow.alloc h o
theorem RowB.lit {w : World} {v : Value} {n : Nat} {bs : List UInt8} {n₀ : Nat} (h : RowB n₀ w v n bs) : ∃ a c, v = .slice a n c := by
  rcases h.2 with ⟨rfl, rfl⟩ | ⟨g, cap, cur, rfl, -⟩
  · exact ⟨none, 0, rfl⟩
  · exact ⟨_, _, rfl⟩
theorem RowB.cell {w : World} {a : Option Addr} {n c : Nat} {bs : List UInt8} {n₀ : Nat} (h : RowB n₀ w (.slice a n c) n bs) : (a = none ∧ bs = []) ∨ ∃ g, a = some ⟨g, 0, none⟩ ∧ ∀ j (hj : j < bs.length), w.cell? ((⟨g, 0, none⟩ : Addr).add j) = some (.int .u8 (bs[j].toNat : Int)) := by
  have hl := h.length
  rcases h.2 with ⟨e, h0⟩ | ⟨g, cap, cur, e, h1, h2⟩
  · simp only [Value.slice.injEq] at e
    exact .inl ⟨e.1, List.eq_nil_of_length_eq_zero (by omega)⟩
  · simp only [Value.slice.injEq] at e
    obtain ⟨rfl, -, -⟩ := e
    refine .inr ⟨g, rfl, fun j hj => ?_⟩
    refine World.ownsRow.cells h (g := g) rfl j _ ?_
    simp [hj]

/-- append(v, b), v in a block of its own. -/
theorem wpl_append_byte {ops : Array Oper} {rest : List Oper} {o : Oper} {a : Act} {Q : Exit → Act → World → Prop} (s x : Operand)
    (ho : o.op = .call { callee := .builtin .append, args := #[s, x], argTypes := #[70, 70] }) (hgd : Region.wanted o (yielded ops a.tmps) = true)
    (n₀ : Nat) (w : World) (v : Value) (n : Nat) (bs : List UInt8) (b : UInt8) (z : Int) (hz : (b.toNat : Int) = z) (hs : a.eval s = v) (hx : a.eval x = .slice (some ⟨w.heap.size, 0, none⟩) 1 1) (hrow : RowB n₀ w v n bs) (h0 : n₀ ≤ w.heap.size) (N : Nat) (hN : n + 1 = N) (hle : N ≤ 35184372088832)
    (h : ∀ a' c' w', RowB n₀ w' (.slice a' N c') N (bs ++ [b]) → Below n₀ w w' → wpList Tryd.prog ops Q rest (a.put o.dst (.slice a' N c')) w') : wpList Tryd.prog ops Q (o :: rest) a (w.alloc (.cells #[.int .u8 z] 5)) := by
  subst hN
  subst hz
  obtain ⟨i, hi, hz, hs1, hby⟩ := info_parts infoU8
  have hmax : n + 1 ≤ maxLen := by unfold maxLen; omega
  refine wpList_step fun K hK => ?_
  rw [if_pos hgd]
  refine wp_append_own (P := Tryd.prog) _ s x 70 ho n₀ 5 i (.int .u8 0) 1 1 Tryd.underlying70 hi hz hs1 hby rfl (by decide) v n _ hs (hrow.alloc _) ⟨w.heap.size, 0, none⟩ 1 1 [.int .u8 (b.toNat : Int)] hx rfl ?_ (by intro u hu; simp at hu; subst hu; rfl) (by omega) (by omega) (by simp; omega) ?_
  · intro j u hj
    rw [Go.WideShapes.add_plain]
    have : j = 0 := by
      have := (List.getElem?_eq_some_iff.1 hj).1
      simp at this; exact this
    subst this
    simp at hj
    subst hj
    simp
  · intro v' w' h1 h2 _
    have hb : Below n₀ w w' := by
      refine ((Below.refl n₀ w).alloc h0 _).grown h2 (by simp; omega) (fun k hk => ?_)
      exact (World.ownsRow.lt (hrow.alloc (.cells #[.int .u8 (b.toNat : Int)] 5)) k hk).1
    have hnew : RowB n₀ w' v' (n + 1) (bs ++ [b]) := by unfold RowB; rw [List.map_append]; exact h1
    obtain ⟨a', c', rfl⟩ := hnew.lit
    exact hK _ _ (h a' c' w' hnew hb)
end Go.Proofs.YtokjhpjglpgmcaaDoor
/-
  Contract of package deci's function appendGroup, for every text of bytes in a block of the caller's and every word: the last nine digits of the word are behind what was; nothing below that block turns.
-/
namespace Go.Proofs.YtokjhpjglpgmcaaDoor
open Go.RowKit

theorem pad_next (g t : Nat) (ht : t < 9) : pad (9 - t) (g / 10 ^ t) = pad (9 - (t + 1)) (g / 10 ^ (t + 1)) ++ [UInt8.ofNat (48 + g / 10 ^ t % 10)] := by
  rw [show 9 - t = (9 - (t + 1)) + 1 by omega, pad, Nat.pow_succ, Nat.div_div_eq_div_mul]

set_option maxHeartbeats 4000000 in
theorem deci_appendGroup (n₀ : Nat) (a : Option Addr) (n c : Nat) (bs : List UInt8) (g : Int) (w : World) (h : RowB n₀ w (.slice a n c) n bs) (h0 : n₀ ≤ w.heap.size) (hn : n ≤ 1000000000) (g0 : 0 ≤ g) (g1 : g < 4294967296) :
    Calls Tryd.prog 68 #[.slice a n c, .int .u32 g] w fun e w' => ∃ (a' : Option Addr) (c' : Nat), e = .returned (.slice a' (n + 9) c') ∧ RowB n₀ w' (.slice a' (n + 9) c') (n + 9) (bs ++ pad 9 g.toNat) ∧ Below n₀ w w' := by
  have HI : Hid (RowB n₀ w (.slice a n c) n bs ∧ n₀ ≤ w.heap.size ∧ n ≤ 1000000000) := ⟨h, h0, hn⟩
  clear h h0 hn
  go_enter Tryd.func68, Tryd.ntmps68
  go_wp2
  go_loopg [0, 5] 9 (fun k s0 s5 v => ∃ (a0 : Option Addr) (m c0 : Nat), k ≤ 9 ∧ s0 = .slice a0 m c0 ∧ s5 = .int .u32 ((10 ^ k / 10 : Nat) : Int) ∧ m + k = n + 9 ∧ RowB n₀ v (.slice a0 m c0) m (bs ++ pad (9 - k) (g.toNat / 10 ^ k)) ∧ Below n₀ w v)
  case atStart =>
    obtain ⟨i1, i2, i3⟩ := HI.out
    refine ⟨a, n, c, Nat.le_refl _, rfl, rfl, rfl, ?_, Below.refl _ _⟩
    rw [Nat.sub_self]
    simpa [pad] using i1
  case round =>
    obtain ⟨a0, m, c0, hk, rfl, rfl, hm, r0, b0⟩ := hrel
    cases gk with
    | zero =>
      obtain rfl : m = n + 9 := by omega
      rw [Nat.sub_zero, Nat.pow_zero, Nat.div_one] at r0
      rw [show ((10 ^ 0 / 10 : Nat) : Int) = 0 from rfl]
      clear hm hk
      go_wp2
      go_ret
      exact ⟨_, _, rfl, r0, b0⟩
    | succ t =>
      have hn2 := HI.out.2.2
      have hpt : 10 ^ (t + 1) / 10 = 10 ^ t := by rw [Nat.pow_succ]; omega
      have hp1 : 10 ^ t ≤ 10 ^ 8 := Nat.pow_le_pow_right (by omega) (by omega)
      have hp0 : 0 < 10 ^ t := Nat.pow_pos (by omega)
      have HP := pad_next g.toNat t (by omega)
      have HU : Hid (((10 ^ t / 10 : Nat) : Int) = ((10 ^ t : Nat) : Int) / 10) := by show _ = _; rw [Int.natCast_ediv]; rfl
      rw [hpt]
      have e1 : ((g.toNat / 10 ^ t % 10 : Nat) : Int) = g / ((10 ^ t : Nat) : Int) % 10 := by
        rw [Int.natCast_emod, Int.natCast_ediv, Int.toNat_of_nonneg g0]; rfl
      have hd : ((UInt8.ofNat (48 + g.toNat / 10 ^ t % 10)).toNat : Int) = 48 + g / ((10 ^ t : Nat) : Int) % 10 := by rw [digit_nat, ← e1]; omega
      generalize UInt8.ofNat (48 + g.toNat / 10 ^ t % 10) = b at HP hd
      have HP2 : Hid (pad (9 - t) (g.toNat / 10 ^ t) = pad (9 - (t + 1)) (g.toNat / 10 ^ (t + 1)) ++ [b]) := HP
      have u1 : ((10 ^ t : Nat) : Int) ≤ 100000000 := by
        have : (10 : Nat) ^ 8 = 100000000 := rfl
        omega
      have u0 : 0 < ((10 ^ t : Nat) : Int) := by omega
      generalize ((10 ^ t : Nat) : Int) = u at u0 u1 hd HU
      have hsz := Nat.le_trans HI.out.2.1 b0.size
      generalize hl : bs ++ pad (9 - (t + 1)) (g.toNat / 10 ^ (t + 1)) = l at r0
      have HL : Hid (bs ++ pad (9 - (t + 1)) (g.toNat / 10 ^ (t + 1)) = l) := hl
      have q0 : 0 ≤ g / u := Int.ediv_nonneg g0 (by omega)
      have q1 : g / u ≤ g := Int.ediv_le_self _ g0
      clear hpt hp1 hp0 HP e1 hl HI
      have hm1 : m + 1 ≤ 35184372088832 := by omega
      go_wp2_with (at_builtin; refine wpl_append_byte (.tmp 10) (.tmp 17) rfl rfl n₀ wr _ m l b (48 + g / u % 10) hd rfl rfl r0 hsz (m + 1) rfl hm1 ?_; intro a6 c6 w6 r6 b6)
      go_roundg t
      case measure => omega
      case rel => exact ⟨_, _, _, by omega, rfl, by rw [HU.out], by omega, by rw [HP2.out, ← List.append_assoc, HL.out]; exact r6, b0.trans b6⟩
end Go.Proofs.YtokjhpjglpgmcaaDoor
/-
  Contract of the library's strings.TrimLeft at the cutset 0, for every text: the text without the 0s ahead. The world is as it was.
-/
namespace Go.Proofs.YtokjhpjglpgmcaaDoor
open Go.RowKit

theorem extract_tl (t : ByteArray) (b : UInt8) (l : List UInt8) (h : t.data.toList = b :: l) : (t.extract 1 t.size).data.toList = l := by
  have hl := congrArg List.length h
  have : t.size = l.length + 1 := by simpa using hl
  rw [ByteArray.data_extract, Array.toList_extract, List.extract_eq_take_drop, h]
  simp [this]

set_option maxHeartbeats 2000000 in
theorem trim_byte (s : ByteArray) (w : World) (hs : s.size ≤ maxLen) :
    Calls Tryd.prog 81 #[.string s, .int .u8 48] w fun e w' => e = .returned (.string ⟨(s.data.toList.dropWhile (· == 48)).toArray⟩) ∧ w = w' := by
  obtain ⟨L, hL⟩ : ∃ L, s.data.toList.dropWhile (· == 48) = L := ⟨_, rfl⟩
  rw [hL]
  have HL : Hid (s.data.toList.dropWhile (· == 48) = L ∧ s.size ≤ maxLen) := ⟨hL, hs⟩
  clear hL hs
  go_enter Tryd.func81, Tryd.ntmps81
  go_wp2
  go_loopg [0] s.size (fun k s0 v => ∃ t : ByteArray, s0 = .string t ∧ t.size = k ∧ k ≤ maxLen ∧ t.data.toList.dropWhile (· == 48) = L ∧ w = v)
  case atStart => exact ⟨s, rfl, rfl, HL.out.2, HL.out.1, rfl⟩
  case round =>
    obtain ⟨t, rfl, hk, hm, ht, rfl⟩ := hrel
    have hsz : t.data.toList.length = t.size := by simp
    cases gk with
    | zero =>
      have HQ : Hid (L = t.data.toList) := by
        show _ = _
        rw [← ht, List.eq_nil_of_length_eq_zero (hsz.trans hk)]; rfl
      clear hsz ht HL
      go_wp2
      go_ret
      exact ⟨by rw [HQ.out, mk_data]; rfl, rfl⟩
    | succ k =>
      have h0 : 0 < t.size := by omega
      have hd := drop_byte t 0 h0
      rw [List.drop_zero] at hd
      unfold maxLen at hm
      by_cases hc : (t[0].toNat : Int) = 48
      · have h48 : t[0] = 48 := UInt8.toNat_inj.1 (by show t[0].toNat = 48; omega)
        have e1 := extract_tl t _ _ hd
        have HQ : Hid ((t.extract 1 t.size).size = k ∧ k ≤ maxLen ∧ (t.extract 1 t.size).data.toList.dropWhile (· == 48) = L) := by
          refine ⟨?_, by unfold maxLen; omega, ?_⟩
          · rw [ByteArray.size_extract]; omega
          · rw [e1, ← ht, hd, h48]; rfl
        clear ht hd h48 hsz e1 HL
        rw [hk] at HQ
        go_wp2
        go_roundg k
        case measure => omega
        case rel => exact ⟨_, rfl, HQ.out.1, HQ.out.2.1, HQ.out.2.2, rfl⟩
      · have h48 : t[0] ≠ 48 := fun e => hc (by rw [e]; rfl)
        have HQ : Hid (L = t.data.toList) := by
          show _ = _
          rw [← ht, hd, List.dropWhile_cons_of_neg (by simpa using h48)]
        clear ht hd h48 hsz HL
        go_wp2
        go_ret
        exact ⟨by rw [HQ.out, mk_data]; rfl, rfl⟩

set_option maxHeartbeats 2000000 in
set_option maxRecDepth 100000 in
theorem trim_left (s : ByteArray) (w : World) (hs : s.size ≤ maxLen) :
    Calls Tryd.prog 69 #[.string s, .string ⟨#[48]⟩] w fun e w' => e = .returned (.string ⟨(s.data.toList.dropWhile (· == 48)).toArray⟩) ∧ w = w' := by
  have T := trim_byte s w hs
  by_cases h0 : s.toList.isEmpty = true
  · have e : s.data.toList = [] := by rw [← ByteArray.toList_eq]; simpa using h0
    have HE : Hid (s = ⟨([] : List UInt8).toArray⟩) := by show _ = _; rw [← e, mk_data]
    rw [e]
    clear e T hs
    go_enter Tryd.func69, Tryd.ntmps69
    go_wp2
    go_ret
    exact ⟨by rw [HE.out]; rfl, rfl⟩
  · have h0' : s.toList.isEmpty = false := by simpa using h0
    clear h0 hs
    generalize s.data.toList.dropWhile (· == 48) = L at T
    go_enter Tryd.func69, Tryd.ntmps69
    go_wp2_with (go_at_call 81; (refine Calls.mono T ?_); rintro e w1 ⟨rfl, rfl⟩)
    go_ret
    exact ⟨rfl, rfl⟩
end Go.Proofs.YtokjhpjglpgmcaaDoor
/-
  A law of no function: a range over a function whose body goes on in every round, turns nothing but what lay ahead of the loop, and makes no memory: what the function tells last, and what it says of that. Conditions: none of the program.
-/
namespace Go.Proofs.YtokjhpjglpgmcaaDoor
open Go.RowKit

theorem below_put {B : Nat} {w W : World} (h : Below B w W) {r : Nat} (hr : B ≤ r) (o : Obj) : Below B w (W.putObj r o) :=
  h.trans ⟨rfl, rfl, rfl, by simp, fun k hk => World.putObj_heap_other (by omega)⟩

theorem wpIn_range_told {α : Type} (enc : α → Value) {F : Fence} {n : Nat} {P : Program} {g : Operand} {p : Tmp} {assign body : Code} {Q : Exit → Act → World → Prop} {a : Act} {w : World}
    (hro : F.round = none) (h1 : 1 ≤ n) {gf : Nat} {lb : Array Value} (hg : a.eval g = .func (.func gf) #[] lb) (hFg : F.fn gf) (eg : ∀ args w, (callFunc gf args).run P w = .ok (.enter gf args) w)
    (I S : α → World → Prop) (v0 : α) (h0 : I v0 w) (hIb : ∀ v A B, I v A → w.heap.size ≤ A.heap.size → Below A.heap.size A B → I v B) (hIp : ∀ v A r o, I v A → w.heap.size ≤ r → I v (A.putObj r o))
    (a₁ : α → Act)
    (hassign : ∀ l v W K, K (a₁ v) W → assign.wpIn (F.inRound l) (n - 1 - 1) P (Exit.then K (fun _ _ _ => False)) { tmps := a.tmps.setIfInBounds p (enc v), defers := [] } W)
    (hbody : ∀ l u v W, I u W → body.wpIn (F.inRound l) (n - 1 - 1) P (fun e _ W' => e = .normal ∧ I v W' ∧ W'.heap.size = W.heap.size ∧ ∀ k, w.heap.size ≤ k → W'.heap[k]? = W.heap[k]?) (a₁ v) W)
    (hseq : ∀ l (J : α → World → Prop) W, W.heap.size = w.heap.size + 2 → Below w.heap.size w W → (∀ v A B, J v A → Below A.heap.size A B → J v B) →
      (∀ u v A, J u A → YieldAt F (n - 1 - 1) P l #[enc v] A fun e B => e = .returned (.bool true) ∧ J v B ∧ B.heap.size = A.heap.size ∧ ∀ k, w.heap.size + 2 ≤ k → B.heap[k]? = A.heap[k]?) → J v0 W →
      CallsIn F (n - 1) P gf (#[.func (.yield l) #[] #[]] ++ lb) W fun e B => (∃ v, e = .returned v) ∧ ∃ v, J v B ∧ S v B)
    (hS : ∀ v A r o, S v A → r < w.heap.size + 2 → S v (A.putObj r o))
    (hdone : ∀ D v W, w.heap.size ≤ D → D < w.heap.size + 2 → I v W → S v W → W.heap[D]? = some (.deferred (some [])) → Q .normal { a with defers := { target := .collected D, args := #[] } :: a.defers } W) :
    (Code.rangeFunc g #[p] assign body).wpIn F n P Q a w := by
  refine wpIn_rangeFunc ?_
  intro fn hfn
  rw [hro]
  obtain ⟨R, hR⟩ : ∃ R : LoopState → Loop, R = fun st => { state := st, pending := none, fn, tmps := a.tmps, params := #[p], assign, body, defers := w.heap.size } := ⟨_, rfl⟩
  obtain ⟨V, hV⟩ : ∃ V, (w.alloc (.deferred (some []))).alloc (.loop (R .ready)) = V := ⟨_, rfl⟩
  have z1 : V.heap.size = w.heap.size + 2 := by rw [← hV]; simp
  have bV : Below w.heap.size w V := by rw [← hV]; exact ((Below.refl _ w).alloc (Nat.le_refl _) _).alloc (by simp) _
  have kL : V.heap[w.heap.size + 1]? = some (.loop (R .ready)) := by
    rw [← hV]; have := World.alloc_heap_new (w.alloc (.deferred (some []))) (.loop (R .ready)); rwa [World.size_alloc] at this
  have kD : V.heap[w.heap.size]? = some (.deferred (some [])) := by
    rw [← hV]; exact (Below.heap_alloc _ _ _ (by simp)).trans (World.alloc_heap_new w _)
  refine ⟨w.heap.size + 1, [{ target := .collected w.heap.size, args := #[] }], V, { target := .fn (.func gf) lb, args := #[.func (.yield (w.heap.size + 1)) #[] #[]] }, V, gf, #[.func (.yield (w.heap.size + 1)) #[] #[]] ++ lb, V, ?_, ?_, ?_, ?_, fun _ => h1, ?_⟩
  · rw [← hV, hR]; exact run_enterLoop_outer _ _ _ _ _
  · simp only [resolve, hg]; simp [go_sem]
  · intro f' hf'; simp [Target.leads] at hf'; subst hf'; exact hFg
  · simp [invoke, go_sem, eg]
  refine (hseq (w.heap.size + 1) (fun v A => I v A ∧ A.heap[w.heap.size + 1]? = some (.loop (R .ready)) ∧ A.heap[w.heap.size]? = some (.deferred (some []))) V z1 bV ?_ ?_ ⟨hIb _ _ _ h0 (Nat.le_refl _) bV, kL, kD⟩).mono ?_
  · rintro v A B ⟨i, l, d⟩ hb
    have lt := (Array.getElem?_eq_some_iff.1 l).1
    exact ⟨hIb v A B i (by omega) hb, (hb.block _ lt).trans l, (hb.block _ (by omega)).trans d⟩
  · rintro u v A ⟨i, l, d⟩
    have lt := (Array.getElem?_eq_some_iff.1 l).1
    have hy : (Instr.yield (w.heap.size + 1) #[enc v]).run P A = .ok (.round (w.heap.size + 1) fn (a.tmps.setIfInBounds p (enc v)) assign body) A := by
      have := run_yield (P := P) (args := #[enc v]) l (by rw [hR]; rfl)
      rw [hR] at this
      simpa using this
    refine ⟨fn, _, assign, body, hy, roundIn_of_wpIn hfn ?_⟩
    refine hassign _ v A _ ?_
    refine ⟨_, run_beginRound l (by rw [hR]), ?_⟩
    have l2 : (A.putObj (w.heap.size + 1) (.loop { R .ready with state := .busy })).heap[w.heap.size + 1]? = some (.loop { R .ready with state := .busy }) := World.putObj_heap_same lt
    refine wpIn_mono (hbody _ u v _ (hIp _ _ _ _ i (by omega))) ?_
    rintro e a3 B ⟨rfl, i3, z3, k3⟩
    have l3 := (k3 (w.heap.size + 1) (by omega)).trans l2
    have hend := run_endRound (P := P) none l3
    have d3 := (k3 w.heap.size (Nat.le_refl _)).trans ((World.putObj_heap_other (by omega)).trans d)
    have l4 := World.putObj_heap_same (o := .loop (R .ready)) (Array.getElem?_eq_some_iff.1 l3).1
    refine ⟨_, _, hend, rfl, ⟨hIp _ _ _ _ i3 (by omega), ?_, (World.putObj_heap_other (by omega)).trans d3⟩, by simpa using z3, fun k hk => ?_⟩
    · rw [hR] at l4 ⊢; exact l4
    · rw [World.putObj_heap_other (by omega), k3 k (by omega), World.putObj_heap_other (by omega)]
  · rintro e B ⟨⟨v, rfl⟩, u, ⟨i, l, d⟩, s⟩
    have lt := (Array.getElem?_eq_some_iff.1 l).1
    refine ⟨none, _, ?_, hdone w.heap.size u _ (Nat.le_refl _) (by omega) (hIp _ _ (w.heap.size + 1) (.loop { R .ready with state := .exhausted }) i (by omega)) (hS _ _ _ _ s (by omega)) ((World.putObj_heap_other (by omega)).trans d)⟩
    have := run_endLoop (P := P) l (by rw [hR]; simp)
    rw [hR] at this ⊢
    exact this
end Go.Proofs.YtokjhpjglpgmcaaDoor
/-
  A law of no function: a range over a function that tells pairs, one after the other, so many: each round goes on, turns what it keeps account of, may make memory, and leaves the range's own two blocks alone. Conditions: none of the program.
-/
namespace Go.Proofs.YtokjhpjglpgmcaaDoor
open Go.RowKit

theorem wpIn_range_made {x y : Nat → Value} {F : Fence} {n : Nat} {P : Program} {g : Operand} {p q : Tmp} {assign body : Code} {Q : Exit → Act → World → Prop} {a : Act} {w : World}
    (hro : F.round = none) (h1 : 1 ≤ n) {gf : Nat} {lb : Array Value} (hg : a.eval g = .func (.func gf) #[] lb) (hFg : F.fn gf) (eg : ∀ args w, (callFunc gf args).run P w = .ok (.enter gf args) w)
    (m : Nat) (I : Nat → World → Prop) (h0 : I 0 w) (hIb : ∀ k A B, I k A → Below A.heap.size A B → I k B) (hIp : ∀ k A r o, I k A → r = w.heap.size ∨ r = w.heap.size + 1 → I k (A.putObj r o))
    (a₁ : Nat → Act)
    (hassign : ∀ l k W K, K (a₁ k) W → assign.wpIn (F.inRound l) (n - 1 - 1) P (Exit.then K (fun _ _ _ => False)) { tmps := (a.tmps.setIfInBounds p (x k)).setIfInBounds q (y k), defers := [] } W)
    (hbody : ∀ l k W, k < m → I k W → w.heap.size + 2 ≤ W.heap.size → body.wpIn (F.inRound l) (n - 1 - 1) P (fun e _ W' => e = .normal ∧ I (k + 1) W' ∧ W.heap.size ≤ W'.heap.size ∧ ∀ j, j = w.heap.size ∨ j = w.heap.size + 1 → W'.heap[j]? = W.heap[j]?) (a₁ k) W)
    (hseq : ∀ l (J : Nat → World → Prop) W, (∀ k A, J k A → I k A) → (∀ k A B, J k A → Below A.heap.size A B → J k B) →
      (∀ k A, k < m → J k A → YieldAt F (n - 1 - 1) P l #[x k, y k] A fun e B => e = .returned (.bool true) ∧ J (k + 1) B) → J 0 W →
      CallsIn F (n - 1) P gf (#[.func (.yield l) #[] #[]] ++ lb) W fun e B => (∃ v, e = .returned v) ∧ J m B)
    (hdone : ∀ D W, w.heap.size ≤ D → D < w.heap.size + 2 → I m W → w.heap.size + 2 ≤ W.heap.size → W.heap[D]? = some (.deferred (some [])) → Q .normal { a with defers := { target := .collected D, args := #[] } :: a.defers } W) :
    (Code.rangeFunc g #[p, q] assign body).wpIn F n P Q a w := by
  refine wpIn_rangeFunc ?_
  intro fn hfn
  rw [hro]
  obtain ⟨R, hR⟩ : ∃ R : LoopState → Loop, R = fun st => { state := st, pending := none, fn, tmps := a.tmps, params := #[p, q], assign, body, defers := w.heap.size } := ⟨_, rfl⟩
  obtain ⟨V, hV⟩ : ∃ V, (w.alloc (.deferred (some []))).alloc (.loop (R .ready)) = V := ⟨_, rfl⟩
  have z1 : V.heap.size = w.heap.size + 2 := by rw [← hV]; simp
  have bV : Below w.heap.size w V := by rw [← hV]; exact ((Below.refl _ w).alloc (Nat.le_refl _) _).alloc (by simp) _
  have kL : V.heap[w.heap.size + 1]? = some (.loop (R .ready)) := by
    rw [← hV]; have := World.alloc_heap_new (w.alloc (.deferred (some []))) (.loop (R .ready)); rwa [World.size_alloc] at this
  have kD : V.heap[w.heap.size]? = some (.deferred (some [])) := by
    rw [← hV]; exact (Below.heap_alloc _ _ _ (by simp)).trans (World.alloc_heap_new w _)
  refine ⟨w.heap.size + 1, [{ target := .collected w.heap.size, args := #[] }], V, { target := .fn (.func gf) lb, args := #[.func (.yield (w.heap.size + 1)) #[] #[]] }, V, gf, #[.func (.yield (w.heap.size + 1)) #[] #[]] ++ lb, V, ?_, ?_, ?_, ?_, fun _ => h1, ?_⟩
  · rw [← hV, hR]; exact run_enterLoop_outer _ _ _ _ _
  · simp only [resolve, hg]; simp [go_sem]
  · intro f' hf'; simp [Target.leads] at hf'; subst hf'; exact hFg
  · simp [invoke, go_sem, eg]
  refine (hseq (w.heap.size + 1) (fun k A => I k A ∧ A.heap[w.heap.size + 1]? = some (.loop (R .ready)) ∧ A.heap[w.heap.size]? = some (.deferred (some []))) V (fun _ _ h => h.1) ?_ ?_ ⟨hIb _ _ _ h0 bV, kL, kD⟩).mono ?_
  · rintro k A B ⟨i, l, d⟩ hb
    have lt := (Array.getElem?_eq_some_iff.1 l).1
    exact ⟨hIb k A B i hb, (hb.block _ lt).trans l, (hb.block _ (by omega)).trans d⟩
  · rintro k A hk ⟨i, l, d⟩
    have lt := (Array.getElem?_eq_some_iff.1 l).1
    have hy : (Instr.yield (w.heap.size + 1) #[x k, y k]).run P A = .ok (.round (w.heap.size + 1) fn ((a.tmps.setIfInBounds p (x k)).setIfInBounds q (y k)) assign body) A := by
      have := run_yield (P := P) (args := #[x k, y k]) l (by rw [hR]; rfl)
      rw [hR] at this
      simpa using this
    refine ⟨fn, _, assign, body, hy, roundIn_of_wpIn hfn ?_⟩
    refine hassign _ k A _ ?_
    refine ⟨_, run_beginRound l (by rw [hR]), ?_⟩
    have l2 : (A.putObj (w.heap.size + 1) (.loop { R .ready with state := .busy })).heap[w.heap.size + 1]? = some (.loop { R .ready with state := .busy }) := World.putObj_heap_same lt
    refine wpIn_mono (hbody _ k _ hk (hIp _ _ _ _ i (.inr rfl)) (by simp; omega)) ?_
    rintro e a3 B ⟨rfl, i3, z3, k3⟩
    have l3 := (k3 (w.heap.size + 1) (.inr rfl)).trans l2
    have hend := run_endRound (P := P) none l3
    have d3 := (k3 w.heap.size (.inl rfl)).trans ((World.putObj_heap_other (by omega)).trans d)
    have l4 := World.putObj_heap_same (o := .loop (R .ready)) (Array.getElem?_eq_some_iff.1 l3).1
    refine ⟨_, _, hend, rfl, hIp _ _ _ _ i3 (.inr rfl), ?_, (World.putObj_heap_other (by omega)).trans d3⟩
    rw [hR] at l4 ⊢; exact l4
  · rintro e B ⟨⟨v, rfl⟩, i, l, d⟩
    have lt := (Array.getElem?_eq_some_iff.1 l).1
    refine ⟨none, _, ?_, hdone w.heap.size _ (Nat.le_refl _) (by omega) (hIp _ _ (w.heap.size + 1) (.loop { R .ready with state := .exhausted }) i (.inr rfl)) (by simp; omega) ((World.putObj_heap_other (by omega)).trans d)⟩
    have := run_endLoop (P := P) l (by rw [hR]; simp)
    rw [hR] at this ⊢
    exact this
end Go.Proofs.YtokjhpjglpgmcaaDoor
/-
  Contract of the library's slices.Backward at a list of words, inside a range over it: whatever keeps to what is asked of a round, all words are told, each once, the last one first. Memory is turned by the rounds alone.
-/
namespace Go.Proofs.YtokjhpjglpgmcaaDoor
open Go.RowKit Go.Shelf
attribute [local go_sem] Oper.semAt_some

theorem back_made (n : Nat) (a : Option Addr) (m c : Nat) (w : World) :
    CallsIn Fence.wide n Tryd.prog 66 #[.slice a m c] w fun e w' => e = .returned (.func (.func 78) #[] #[.pointer (some ⟨w.heap.size, 0, none⟩)]) ∧ w' = w.alloc (.cells #[.slice a m c] 22) := by
  refine callsIn_wide.2 ?_
  go_enter Tryd.func66, Tryd.ntmps66
  go_wp2
  go_ret
  exact ⟨by simp, rfl⟩

set_option maxHeartbeats 4000000 in
theorem back_iter (n l B : Nat) (hn : 1 ≤ n) (J : Nat → World → Prop) (a : Option Addr) (m c : Nat) (zs : List Int) (hm : m ≤ 1000000000)
    (hJ : ∀ k A, J k A → A.cell? ⟨B, 0, none⟩ = some (.slice a m c) ∧ IsWords A (.slice a m c) zs)
    (hY : ∀ k A, k < m → J k A → YieldAt Fence.wide (n - 1) Tryd.prog l #[.int .i64 ((m : Int) - 1 - k), .int .u32 (zs.getD (m - 1 - k) 0)] A fun e A' => e = .returned (.bool true) ∧ J (k + 1) A')
    (W : World) (h0 : J 0 W) :
    CallsIn Fence.wide n Tryd.prog 78 #[.func (.yield l) #[] #[], .pointer (some ⟨B, 0, none⟩)] W fun e W' => (∃ v, e = .returned v) ∧ J m W' := by
  have hmx : Tryd.prog.follows .mixedOrders = true := by kernel_rfl
  have c0 := (hJ _ _ h0).1
  refine callsIn_of_wp Tryd.func78 rfl trivial ?_ rfl
  simp only [Tryd.ntmps78, List.size_toArray, List.length_cons, List.length_nil, Nat.reduceAdd, Nat.reduceSub, Array.replicate_succ, Array.replicate_zero, List.push_toArray, List.append_toArray, List.nil_append, List.cons_append]
  gi_wp2
  gi_loopg [3] m (fun g v3 v => ∃ k : Nat, k + g = m ∧ v3 = .int .i64 ((g : Int) - 1) ∧ J k v)
  case atStart => exact ⟨0, by omega, by first | rfl | (congr 1; omega), h0⟩
  case round =>
    obtain ⟨k, hk, rfl, hj⟩ := hrel
    cases gk with
    | zero =>
      obtain rfl : k = m := by omega
      rw [show ((0 : Nat) : Int) - 1 = -1 from rfl]
      clear hJ hY hk
      gi_wp2
      go_end0
      exact ⟨⟨_, rfl⟩, hj⟩
    | succ t =>
      obtain ⟨cb, iw⟩ := hJ _ _ hj
      obtain ⟨⟨hl, hr⟩, hn2⟩ := iw.reads
      rcases hr with h1 | ⟨b, off, rfl, hc⟩
      · omega
      have hck := hc t (by omega)
      obtain ⟨fn, tmps, assign, body, hy, hR⟩ := hY k wr (by omega) hj
      rw [show (m : Int) - 1 - k = t by omega, show m - 1 - k = t by omega] at hy
      rw [show ((t + 1 : Nat) : Int) - 1 = t by omega]
      generalize zs.getD t 0 = z at hck hy
      clear hJ hc iw hY
      gi_wp2
      refine hR.mono ?_
      rintro e W3 ⟨rfl, hj3⟩
      gi_wp2
      gi_roundg t
      case measure => omega
      case rel => exact ⟨k + 1, by omega, by first | rfl | (congr 1; omega), hj3⟩
end Go.Proofs.YtokjhpjglpgmcaaDoor
/-
  Contracts of package deci's functions Print and Digits, for every list of up to a million words: the number's digits, and how many they are; memory that was there stays.
-/
namespace Go.Proofs.YtokjhpjglpgmcaaDoor
open Go.RowKit Go.Shelf
attribute [local go_sem] Oper.semAt_some

theorem blk_new (v : World) (o : Obj) : (v.alloc o).heap[v.heap.size]? = some o := by show (v.heap.push o)[v.heap.size]? = _; simp
theorem cell_of_box {w : World} {k : Nat} {v : Value} {T : TypeId} (h : w.heap[k]? = some (.cells #[v] T (0, 0))) : w.cell? ⟨k, 0, none⟩ = some v ∧ w.frozen? ⟨k, 0, none⟩ = false := by
  simp [World.cell?, World.frozen?, h]
theorem box_set {w : World} {k : Nat} {v : Value} {T : TypeId} (h : w.heap[k]? = some (.cells #[v] T (0, 0))) (u : Value) : (w.setCell ⟨k, 0, none⟩ u).heap[k]? = some (.cells #[u] T (0, 0)) := Boxed.set u h

/-- Where Print stands: k groups have been told. -/
def PrintAt (w V : World) (N m : Nat) (k : Nat) (W : World) : Prop :=
  ∃ (a : Option Addr) (c : Nat) (bs : List UInt8), W.heap[w.heap.size]? = some (.cells #[.slice a (9 * k) c] 70 (0, 0)) ∧ RowB (V.heap.size + 2) W (.slice a (9 * k) c) (9 * k) bs ∧ DigS bs ∧ valD bs = N / 1000000000 ^ (m - k) ∧
    (∀ j, j < V.heap.size → j ≠ w.heap.size → W.heap[j]? = V.heap[j]?) ∧ Below w.heap.size w W

theorem PrintAt.more {w V : World} {N m k : Nat} {A B : World} (h : PrintAt w V N m k A) (hb : Below A.heap.size A B) : PrintAt w V N m k B := by
  obtain ⟨a, c, bs, h1, h2, h3, h4, h5, h6⟩ := h
  refine ⟨a, c, bs, (hb.block _ (Array.getElem?_eq_some_iff.1 h1).1).trans h1, h2.more hb, h3, h4, fun j hj hne => ?_, below_more h6 hb⟩
  have e := h5 j hj hne
  rw [← e]
  exact hb.block j (by
    rcases Nat.lt_or_ge j A.heap.size with h | h
    · exact h
    · rw [Array.getElem?_eq_none h, Array.getElem?_eq_getElem hj] at e; cases e)
theorem PrintAt.put {w V : World} {N m k : Nat} {A : World} (h : PrintAt w V N m k A) (hV : w.heap.size < V.heap.size) {r : Nat} (hr : r = V.heap.size ∨ r = V.heap.size + 1) (o : Obj) : PrintAt w V N m k (A.putObj r o) := by
  obtain ⟨a, c, bs, h1, h2, h3, h4, h5, h6⟩ := h
  exact ⟨a, c, bs, (World.putObj_heap_other (by omega)).trans h1, h2.keep fun j hj => World.putObj_heap_other (by omega), h3, h4, fun j hj hne => (World.putObj_heap_other (by omega)).trans (h5 j hj hne), below_put h6 (by omega) o⟩
theorem PrintAt.next {w V : World} {N m k : Nat} {A B : World} {a a' : Option Addr} {c c' : Nat} {bs : List UInt8} {g : Int} (hk : k < m) (hV : w.heap.size < V.heap.size)
    (h1 : A.heap[w.heap.size]? = some (.cells #[.slice a (9 * k) c] 70 (0, 0))) (h3 : DigS bs) (h4 : valD bs = N / 1000000000 ^ (m - k)) (h5 : ∀ j, j < V.heap.size → j ≠ w.heap.size → A.heap[j]? = V.heap[j]?) (h6 : Below w.heap.size w A)
    (hg : g = ((N / 1000000000 ^ (m - 1 - k) % 1000000000 : Nat) : Int)) (hr : RowB (V.heap.size + 2) B (.slice a' (9 * k + 9) c') (9 * k + 9) (bs ++ pad 9 g.toNat)) (hb : Below (V.heap.size + 2) A B) :
    PrintAt w V N m (k + 1) (B.setCell ⟨w.heap.size, 0, none⟩ (.slice a' (9 * k + 9) c')) := by
  have b1 : B.heap[w.heap.size]? = some (.cells #[.slice a (9 * k) c] 70 (0, 0)) := (hb.block _ (by omega)).trans h1
  have hgn : g.toNat = N / 1000000000 ^ (m - 1 - k) % 1000000000 := by rw [hg]; exact Int.toNat_natCast _
  refine ⟨a', c', bs ++ pad 9 g.toNat, box_set b1 _, hr.keep fun j hj => Below.heap_setCell _ _ _ _ (by simp; omega), digS_append.2 ⟨h3, digS_pad _ _⟩, ?_, fun j hj hne => ?_, ?_⟩
  · rw [valD_group _ (by rw [hgn]; exact Nat.mod_lt _ (by decide)), h4, hgn, show (10 : Nat) ^ 9 = 1000000000 from rfl, show m - k = (m - 1 - k) + 1 by omega, told_step, show m - 1 - k = m - (k + 1) by omega]
  · rw [Below.heap_setCell _ _ _ _ (by simpa using hne), hb.block j (by omega)]; exact h5 j hj hne
  · exact (h6.trans (hb.mono (by omega))).setCell (p := ⟨w.heap.size, 0, none⟩) (Nat.le_refl _) _

theorem Row.stay {w w' : World} {v : Value} {n : Nat} {xs : List Int} {n₀ : Nat} (h : Row n₀ w v n xs) (hb : ∀ k, n₀ ≤ k → k < w.heap.size → w'.heap[k]? = w.heap[k]?) : Row n₀ w' v n xs := by
  refine ⟨h.1, ?_⟩
  rcases h.2 with h0 | ⟨g, cap, cur, e, h1, hg, h2⟩
  · exact .inl h0
  · exact .inr ⟨g, cap, cur, e, h1, (hb g h1 (Array.getElem?_eq_some_iff.1 hg).1).trans hg, h2⟩

/-- string(text). -/
theorem conv_row {n₀ : Nat} {w : World} {a : Option Addr} {n c : Nat} {bs : List UInt8} (h : RowB n₀ w (.slice a n c) n bs) :
    Sem.run Tryd.prog (convert 70 9 (.slice a n c)) w = .ok (.string ⟨bs.toArray⟩) w := by
  have hl := h.length
  rcases h.cell with ⟨rfl, rfl⟩ | ⟨g, rfl, hc⟩
  · subst hl
    rw [run_convert_bytes_string w 70 9 5 none _ c Tryd.underlying70 Tryd.underlying5 Tryd.underlying9]
    simp [Conv.bytesToString, go_sem]
    rfl
  · subst hl
    exact run_convert_bytes_back (P := Tryd.prog) w 70 9 5 ⟨g, 0, none⟩ c bs Tryd.underlying70 Tryd.underlying5 Tryd.underlying9 hc

set_option maxHeartbeats 4000000 in
theorem deci_print : PrintOk := by
  intro a n c zs w h hz hn N hN
  have G := deci_groups (w := w.alloc (.cells #[.slice none 0 0] 70)) (h.below ((Below.refl _ _).alloc (Nat.le_refl _) _)) hz hn N hN
  clear h hz hn hN
  refine (callsIn_wide (n := 3)).1 ?_
  refine callsIn_of_wp_marks Tryd.func48 rfl trivial ?_ rfl
  simp only [Tryd.ntmps48, List.size_toArray, List.length_cons, List.length_nil, Nat.reduceAdd, Nat.reduceSub, Array.replicate_succ, Array.replicate_zero, List.push_toArray, List.append_toArray, List.nil_append, List.cons_append]
  gi_wp2_with (first
    | (refine ⟨trivial, ?_⟩; gi_at_call 67; (with_reducible refine CallsIn.mono (callsIn_wide.2 G) ?_); rintro e w1 ⟨a1, m, c1, ys, rfl, o1, hgr, hNm, hm⟩)
    | (refine ⟨trivial, ?_⟩; gi_at_call 66; refine (back_made _ _ _ _ _).mono ?_; rintro e w' ⟨rfl, rfl⟩))
  obtain ⟨V, hV⟩ : ∃ V, w1.alloc (.cells #[.slice a1 m c1] 22) = V := ⟨_, rfl⟩
  have z1 : w.heap.size + 1 ≤ w1.heap.size := by have := o1.below.size; simpa using this
  have zV : V.heap.size = w1.heap.size + 1 := by rw [← hV]; simp
  have b1 : Below w.heap.size w w1 := ((Below.refl _ w).alloc (Nat.le_refl _) (.cells #[.slice none 0 0] 70)).trans (o1.below.mono (by simp))
  have bV : Below w.heap.size w V := by rw [← hV]; exact b1.alloc (by omega) _
  have k0 : V.heap[w.heap.size]? = some (.cells #[.slice none 0 0] 70 (0, 0)) := by
    rw [← hV, Below.heap_alloc _ _ _ (by omega), o1.below.block _ (by simp)]; exact blk_new w _
  have k1 : V.heap[w1.heap.size]? = some (.cells #[.slice a1 m c1] 22 (0, 0)) := by rw [← hV]; exact blk_new w1 _
  have r1 : Row (w.heap.size + 1) V (.slice a1 m c1) m ys := by rw [← hV]; exact (o1.alloc _).row (by simp)
  rw [hV]
  clear hV G o1
  refine wpIn_range_made (x := fun k => .int .i64 ((m : Int) - 1 - k)) (y := fun k => .int .u32 (ys.getD (m - 1 - k) 0)) rfl (by omega) (gf := 78) (lb := #[.pointer (some ⟨w1.heap.size, 0, none⟩)]) rfl trivial (enters_of Tryd.func78 (by kernel_rfl) rfl)
    m (PrintAt w V N m) ⟨none, 0, [], by rw [Nat.mul_zero]; exact k0, RowB.nil _ _, (fun c hc => by cases hc), by rw [valD_nil, Nat.sub_zero, Nat.div_eq_of_lt hNm], fun _ _ _ => rfl, bV⟩ (fun k A B h hb => h.more hb) (fun k A r o h hr => h.put (by omega) hr o)
    (fun k => { tmps := #[.slice a n c, undef, .string ⟨#[]⟩, .pointer (some ⟨w.heap.size, 0, none⟩), undef, .int .u32 (ys.getD (m - 1 - k) 0), undef, .slice a n c, .slice a1 m c1, .func (.func 78) #[] #[.pointer (some ⟨w1.heap.size, 0, none⟩)], .int .i64 ((m : Int) - 1 - k), .int .u32 (ys.getD (m - 1 - k) 0), undef, undef, undef, undef, undef, undef, undef, undef, undef], defers := [] })
    ?assign ?body ?seq ?done
  case assign =>
    intro l k W K hK
    gi_wp2
    exact hK
  case body =>
    rintro l k W hk ⟨a5, c5, bs, h1, h2, h3, h4, h5, h6⟩ hz
    have hg := hgr.2 (m - 1 - k) (by omega)
    obtain ⟨z, hzd⟩ : ∃ z, ys.getD (m - 1 - k) 0 = z := ⟨_, rfl⟩
    rw [hzd] at hg
    have hz0 : 0 ≤ z := by omega
    have hz1 : z < 4294967296 := by omega
    have A1 := fun q => CallsIn.inRound l ((callsIn_wide (n := q)).2 (deci_appendGroup (V.heap.size + 2) a5 (9 * k) c5 bs z W h2 hz (by omega) hz0 hz1))
    have hcell := cell_of_box h1
    have HK : Hid (∀ (a' : Option Addr) (c' : Nat) (B : World), RowB (V.heap.size + 2) B (.slice a' (9 * k + 9) c') (9 * k + 9) (bs ++ pad 9 z.toNat) → Below (V.heap.size + 2) W B → PrintAt w V N m (k + 1) (B.setCell ⟨w.heap.size, 0, none⟩ (.slice a' (9 * k + 9) c'))) := fun a' c' B hr hb => PrintAt.next hk (by omega) h1 h3 h4 h5 h6 hg hr hb
    rw [hzd]
    obtain ⟨hc1, hc2⟩ := hcell
    have hbx : ∀ B, Below (V.heap.size + 2) W B → B.cell? ⟨w.heap.size, 0, none⟩ = some (.slice a5 (9 * k) c5) ∧ B.frozen? ⟨w.heap.size, 0, none⟩ = false := fun B hb => cell_of_box ((hb.block _ (by omega)).trans h1)
    clear hg hzd h1 h2 h3 h4 h5 h6 hgr
    gi_wp2_with (refine ⟨trivial, ?_⟩; gi_at_call 68; (with_reducible refine CallsIn.mono (A1 _) ?_); rintro e B ⟨a6, c6, rfl, r6, b6⟩; obtain ⟨hd1, hd2⟩ := hbx B b6)
    exact ⟨HK.out _ _ _ r6 b6, b6.size, (Below.heap_setCell _ _ _ _ (by simp; omega)).trans (b6.block _ (by omega)), (Below.heap_setCell _ _ _ _ (by simp; omega)).trans (b6.block _ (by omega))⟩
  case seq =>
    intro l J W hJI hJb hY h0
    refine (back_iter 2 l w1.heap.size (by omega) J a1 m c1 ys (by omega) (fun k A hj => ?_) (fun k A hk hj => hY k A hk hj) W h0).mono ?_
    · obtain ⟨a5, c5, bs, h1, h2, h3, h4, h5, h6⟩ := hJI k A hj
      exact ⟨(cell_of_box ((h5 _ (by omega) (by omega)).trans k1)).1, (r1.stay fun j hj1 hj2 => h5 j hj2 (by omega)).words⟩
    · rintro e B ⟨hv, hj⟩
      exact ⟨hv, hj⟩
  case done =>
    rintro D W hD1 hD2 ⟨a5, c5, bs, h1, h2, h3, h4, h5, h6⟩ hz hK
    have CV := conv_row h2
    have hlen := h2.length
    rw [Nat.sub_self, Nat.pow_zero, Nat.div_one] at h4
    have T := trim_left ⟨bs.toArray⟩ W (by show bs.toArray.size ≤ maxLen; unfold maxLen; simp; omega)
    rw [show (ByteArray.mk bs.toArray).data.toList = bs by simp, trim_dg h3, h4] at T
    obtain ⟨hc1, hc2⟩ := cell_of_box h1
    have HB : Hid (Below w.heap.size w W ∧ w.heap.size ≤ D) := ⟨h6, by omega⟩
    rcases Nat.eq_zero_or_pos N with h0 | h0
    · subst h0
      rw [dg_zero] at T
      clear h1 h2 h3 h4 h5 h6 hgr hlen
      gi_wp2_with (refine ⟨trivial, ?_⟩; gi_at_call 69; (with_reducible refine CallsIn.mono (callsIn_wide.2 T) ?_); rintro e W2 ⟨rfl, rfl⟩)
      refine ⟨by simp, .inl ⟨_, _, rfl, run_takeDeferred hK, ?_⟩⟩
      exact ⟨_, results_tmp rfl _ _ _, by rw [decOf_zero]; rfl, below_put HB.out.1 HB.out.2 _⟩
    · have he : (ByteArray.mk (dg N).toArray).toList.isEmpty = false := by
        rw [ByteArray.toList_eq]
        have := dg_ne h0
        simpa using this
      have HD : Hid (decOf N = dg N) := decOf_pos h0
      generalize hS : ByteArray.mk (dg N).toArray = S at T he
      have HS : Hid (ByteArray.mk (dg N).toArray = S) := hS
      clear hS h0
      clear h1 h2 h3 h4 h5 h6 hgr hlen
      gi_wp2_with (refine ⟨trivial, ?_⟩; gi_at_call 69; (with_reducible refine CallsIn.mono (callsIn_wide.2 T) ?_); rintro e W2 ⟨rfl, rfl⟩)
      refine ⟨by simp, .inl ⟨_, _, rfl, run_takeDeferred hK, ?_⟩⟩
      exact ⟨_, results_tmp rfl _ _ _, by rw [HD.out, HS.out]; rfl, below_put HB.out.1 HB.out.2 _⟩

end Go.Proofs.YtokjhpjglpgmcaaDoor
/-
  Contracts of package whole (Print, Parse) for every Int of up to a hundred thousand words and every text; and all of the package's contracts together: as integers and texts; memory that was there stays, and what is answered is the call's own.
-/
namespace Go.Proofs.YtokjhpjglpgmcaaDoor
open Go.RowKit

theorem minus_parts (s : ByteArray) (hs : s.size ≤ maxLen) : ∃ (g : Bool) (u : ByteArray), stripI s.data.toList = u.data.toList ∧ minusI s.data.toList = g ∧ u.size ≤ maxLen ∧
    (s.size = 0 ∧ g = false ∧ u = s ∨ 0 < s.size ∧ g = true ∧ ((s.extract 0 1).toList == [45]) = true ∧ s.extract 1 s.size = u ∨ 0 < s.size ∧ g = false ∧ ((s.extract 0 1).toList == [45]) = false ∧ u = s) := by
  rcases Nat.eq_zero_or_pos s.size with h0 | h0
  · have e : s.data.toList = [] := List.eq_nil_of_length_eq_zero (by simpa using h0)
    exact ⟨false, s, by rw [e]; rfl, by rw [e]; rfl, hs, .inl ⟨h0, rfl, rfl⟩⟩
  · have hh : s.data.toList = s[0] :: s.data.toList.tail := by
      have := drop_byte s 0 h0
      rw [List.drop_zero] at this
      rw [this]; rfl
    have hx : s.extract 0 1 = ⟨#[s[0]]⟩ := by
      refine ByteArray.ext ?_
      rw [← Array.toList_inj, ByteArray.data_extract, Array.toList_extract]
      rw [hh]; rfl
    by_cases hc : s[0] = 45
    · refine ⟨true, s.extract 1 s.size, ?_, ?_, ?_, .inr (.inl ⟨h0, rfl, ?_, rfl⟩)⟩
      · rw [extract_tail]; unfold stripI; rw [if_pos (by rw [hh, hc]; rfl)]
      · unfold minusI; rw [hh, hc]; rfl
      · rw [ByteArray.size_extract]; unfold maxLen at hs ⊢; omega
      · rw [hx, hc, ByteArray.toList_eq]; rfl
    · refine ⟨false, s, ?_, ?_, hs, .inr (.inr ⟨h0, rfl, ?_, rfl⟩)⟩
      · unfold stripI; rw [if_neg (by rw [hh]; intro e; exact hc (Option.some.inj e))]
      · unfold minusI; rw [hh]; simp [hc]
      · rw [hx, ByteArray.toList_eq, beq_eq_false_iff_ne]
        intro e
        exact hc (List.cons.inj e).1

set_option maxHeartbeats 4000000 in
theorem cut_minus {s : ByteArray} {g : Bool} {u : ByteArray} (hs : s.size ≤ maxLen) (h : s.size = 0 ∧ g = false ∧ u = s ∨ 0 < s.size ∧ g = true ∧ ((s.extract 0 1).toList == [45]) = true ∧ s.extract 1 s.size = u ∨ 0 < s.size ∧ g = false ∧ ((s.extract 0 1).toList == [45]) = false ∧ u = s) (w : World) :
    Calls Tryd.prog 45 #[.string s, .string ⟨#[45]⟩] w fun e w' => e = .returned (.tuple #[.string u, .bool g]) ∧ w = w' := by
  have H : ∀ (q : Bool), ((s.size = 0 ∧ q = false) ∨ (0 < s.size ∧ ((s.extract 0 1).toList == [45]) = q)) → Calls Tryd.prog 77 #[.string s, .string ⟨#[45]⟩] w fun e w' => e = .returned (.bool q) ∧ w = w' := by
    clear h
    intro q h
    unfold maxLen at hs
    rcases h with ⟨h0, rfl⟩ | ⟨h0, hq⟩
    case' inl => have h1 : ¬ (1 : Int) ≤ s.size := by omega
    case' inr => have h1 : (1 : Int) ≤ s.size := by omega
    all_goals
      go_enter Tryd.func77, Tryd.ntmps77
      go_wp2
      go_ret
      exact ⟨rfl, rfl⟩
  have H2 : Calls Tryd.prog 63 #[.string s, .string ⟨#[45]⟩] w fun e w' => e = .returned (.tuple #[.string u, .bool g]) ∧ w = w' := by
    unfold maxLen at hs
    rcases h with ⟨h0, rfl, rfl⟩ | ⟨h0, rfl, hq, hu⟩ | ⟨h0, rfl, hq, rfl⟩
    case' inl => have H1 := H false (.inl ⟨h0, rfl⟩)
    case' inr.inl =>
      have H1 := H true (.inr ⟨h0, hq⟩)
      have h1 : (1 : Int) ≤ s.size := by omega
    case' inr.inr => have H1 := H false (.inr ⟨h0, hq⟩)
    all_goals
      clear H
      go_enter Tryd.func63, Tryd.ntmps63
      go_wp2_with (go_at_call 77; (with_reducible refine Calls.mono H1 ?_); rintro e w1 ⟨rfl, rfl⟩)
      go_ret2
      exact ⟨rfl, rfl⟩
  clear H h
  go_enter Tryd.func45, Tryd.ntmps45
  go_wp2_with (go_at_call 63; (with_reducible refine Calls.mono H2 ?_); rintro e w1 ⟨rfl, rfl⟩)
  go_ret2
  exact ⟨rfl, rfl⟩

set_option maxHeartbeats 4000000 in
theorem whole_parse (s : ByteArray) (w : World) (hs : s.size ≤ maxLen) :
    Calls Tryd.prog 26 #[.string s] w (AnsIP w (znum s.data.toList) (zerr s.data.toList)) := by
  obtain ⟨b1, bV, hb⟩ := boxes1 w #[.bool false, .slice none 0 0] 24
  obtain ⟨g, u, hu, hg, hsz, hp⟩ := minus_parts s hs
  have CU := fun v => cut_minus hs hp v
  have P := fun v => deci_parse u v hsz
  unfold znum zerr
  rw [hu, hg]
  have G := fun v a1 c1 => whole_signed g a1 (nl (pnum u.data.toList)) c1 v _ (sign_nl g (pnum u.data.toList))
  have hE : perr u.data.toList = 0 ∨ (perr u.data.toList != 0) = true ∧ pnum u.data.toList = 0 := by
    by_cases h : perr u.data.toList = 0
    · exact .inl h
    · exact .inr ⟨by simpa using h, pnum_err h⟩
  unfold AnsP at P
  generalize pnum u.data.toList = K at *
  generalize perr u.data.toList = E at *
  clear hu hg hs hsz hp
  unfold AnsIP
  rw [iv_abs]
  rcases hE with rfl | ⟨hE, hK⟩
  · generalize decide (iv g K < 0) = r at G ⊢
    go_enter Tryd.func26, Tryd.ntmps26
    go_wp2_with (first
      | (go_at_call 45; (with_reducible refine Calls.mono (CU _) ?_); rintro e w0 ⟨rfl, rfl⟩)
      | (go_at_call 46; (with_reducible refine Calls.mono (P _) ?_); rintro e w1 ⟨a1, c1, rfl, o1⟩)
      | (go_at_call 32; (with_reducible refine Calls.mono (G _ _ _) ?_); rintro e w2 ⟨rfl, d2⟩; obtain ⟨z0, z1, f0, f1⟩ := ((b1.more o1.below).more d2).cells2))
    have q := fun x y => (((o1.more d2).above bV).set (k := w.heap.size) (by omega) hb 0 x).set (k := w.heap.size) (by omega) hb 1 y
    exact bodyPost_ret (v := .tuple #[.agg #[.bool r, .slice a1 (nl K) c1], .int .i64 0]) (by simp [results, Tryd.results26, go_sem, z0, z1]) rfl ⟨a1, c1, rfl, (q _ _).own (by omega)⟩
  · subst hK
    rw [iv_zero]
    clear G
    simp only [nl_zero] at P
    go_enter Tryd.func26, Tryd.ntmps26
    go_wp2_with (first
      | (go_at_call 45; (with_reducible refine Calls.mono (CU _) ?_); rintro e w0 ⟨rfl, rfl⟩)
      | (go_at_call 46; (with_reducible refine Calls.mono (P _) ?_); rintro e w1 ⟨a1, c1, rfl, o1⟩; obtain ⟨z0, z1, f0, f1⟩ := (b1.more o1.below).cells2))
    have B1 := below_more bV o1.below
    have q := fun x y => (B1.setCell (p := ⟨w.heap.size, 0, none⟩) (Nat.le_refl _) x).setCell (p := ⟨w.heap.size, 1, none⟩) (Nat.le_refl _) y
    exact bodyPost_ret (v := .tuple #[.agg #[.bool false, .slice none 0 0], .int .i64 E]) (by simp [results, Tryd.results26, go_sem, z0, z1]) rfl ⟨none, 0, by simp [nl_zero], by simpa [nl_zero, natOf_zero] using Own.nil (q _ _)⟩

set_option maxHeartbeats 4000000 in
theorem whole_print {s : Bool} {a : Option Addr} {n c : Nat} {x : Int} {w : World} (h : RI w s a n c x) :
    Calls Tryd.prog 28 #[.agg #[.bool s, .slice a n c]] w fun e w' => e = .returned (.string ⟨(decI x).toArray⟩) ∧ Below w.heap.size w w' := by
  have F1 := fun v (hb : Below w.heap.size w v) => whole_fix (h.below hb)
  obtain ⟨zs, h, hz, hn, rfl⟩ := h
  have P := fun v (hb : Below w.heap.size w v) => deci_print (h.below hb) hz (by omega) (iv s (val zs)).natAbs (by rw [iv_abs])
  have l1 : nl (iv s (val zs)).natAbs ≤ n := by rw [iv_abs]; exact nl_small hz n (by rw [h.len]; omega)
  generalize iv s (val zs) = z at *
  have ld := decOf_words (n := n + 1) (A := z.natAbs) (by omega) (by omega)
  have hsz : (1 : Int) + (decOf z.natAbs).length ≤ 9223372036854775807 := by omega
  obtain ⟨b1, bV, hs⟩ := boxes1 w #[.bool s, .slice a n c] 24
  unfold AnsI at F1
  clear h hz hn l1 ld
  have FD : ∀ (q : Bool) (a1 : Option Addr) (n1 c1 : Nat) (v : World), Sem.run Tryd.prog (Instr.field 24 (.agg #[.bool q, .slice a1 n1 c1]) 0) v = .ok (.bool q) v := fun q a1 n1 c1 v => by kernel_rfl
  by_cases h0 : z < 0
  case' pos =>
    have e : decI z = 45 :: decOf z.natAbs := if_pos h0
    rw [decide_eq_true h0] at F1
    have HA : Hid ((⟨#[45]⟩ ++ ⟨(decOf z.natAbs).toArray⟩ : ByteArray) = ⟨(45 :: decOf z.natAbs).toArray⟩) := by
      show _ = _
      rw [ByteArray.mk_append_mk]; simp
  case' neg =>
    have e : decI z = decOf z.natAbs := if_neg h0
    rw [decide_eq_false h0] at F1
  all_goals
    rw [e]
    clear e
    generalize decOf z.natAbs = l at *
    generalize z.natAbs = N at *
    obtain ⟨x0, x1, -, -⟩ := b1.cells2
    go_enter Tryd.func28, Tryd.ntmps28
    go_wp2_with (first
      | (go_at_call 48; (with_reducible refine Calls.mono (P _ bV) ?_); rintro e w1 ⟨rfl, d1⟩; obtain ⟨x0, x1, -, -⟩ := (b1.more d1).cells2)
      | (go_at_call 13; (with_reducible refine Calls.mono (F1 _ (below_more bV d1)) ?_); rintro e w2 ⟨a1, c1, rfl, o1⟩))
    go_ret
    first
      | exact ⟨rfl, below_more (below_more bV d1) o1.below⟩
      | exact ⟨by rw [← HA.out]; rfl, below_more (below_more bV d1) o1.below⟩

theorem whole_ok : WholeOk where
  right := fun h hz _ r hr => whole_right h hz r hr
  fix := fun h => whole_fix h
  of := whole_of
  neg := fun h z hz => whole_neg h z hz
  cmp := fun h k g hg => whole_cmp h k g hg
  add := fun h k z hz => whole_add h k z hz
  sub := fun h k z hz => whole_sub h k z hz
  mul := fun h k z hz => whole_mul h k z hz
  parse := whole_parse
  print := fun h => whole_print h
end Go.Proofs.YtokjhpjglpgmcaaDoor
/-
  The five statements over integers, out of package whole's contracts. Memory that was there stays.
-/
namespace Go.Proofs.YtokjhpjglpgmcaaDoor
open Go.RowKit

theorem law_WholeTells (s0 : Bool) (a0 : Option Addr) (len0 cap0 : Nat) (z0 : List Int) (s1 : Bool) (a1 : Option Addr) (len1 cap1 : Nat) (z1 : List Int) (n : Int) (w : World)
    (w0 : CameIn .u32 w a0 len0 cap0 z0) (w1 : CameIn .u32 w a1 len1 cap1 z1) (w2 : (Lit.int .i64 n).wf = true) :
    Calls Tryd.prog 3 #[.agg #[.bool s0, .slice a0 len0 cap0], .agg #[.bool s1, .slice a1 len1 cap1], .int .i64 n] w fun e w' => e = .returned (.bool true) ∧ Below w.heap.size w w' := walk_WholeTells whole_ok s0 a0 len0 cap0 z0 s1 a1 len1 cap1 z1 n w w0 w1 w2
theorem law_WholeTexts (s : ByteArray) (s1 : Bool) (a1 : Option Addr) (len1 cap1 : Nat) (z1 : List Int) (w : World) (hs : s.size ≤ maxLen) (w1 : CameIn .u32 w a1 len1 cap1 z1) :
    Calls Tryd.prog 4 #[.string s, .agg #[.bool s1, .slice a1 len1 cap1]] w fun e w' => e = .returned (.bool true) ∧ Below w.heap.size w w' := walk_WholeTexts whole_ok s s1 a1 len1 cap1 z1 w hs w1
theorem law_WholeOrder (s0 : Bool) (a0 : Option Addr) (len0 cap0 : Nat) (z0 : List Int) (s1 : Bool) (a1 : Option Addr) (len1 cap1 : Nat) (z1 : List Int) (s2 : Bool) (a2 : Option Addr) (len2 cap2 : Nat) (z2 : List Int) (w : World)
    (w0 : CameIn .u32 w a0 len0 cap0 z0) (w1 : CameIn .u32 w a1 len1 cap1 z1) (w2 : CameIn .u32 w a2 len2 cap2 z2) :
    Calls Tryd.prog 5 #[.agg #[.bool s0, .slice a0 len0 cap0], .agg #[.bool s1, .slice a1 len1 cap1], .agg #[.bool s2, .slice a2 len2 cap2]] w fun e w' => e = .returned (.bool true) ∧ Below w.heap.size w w' := walk_WholeOrder whole_ok s0 a0 len0 cap0 z0 s1 a1 len1 cap1 z1 s2 a2 len2 cap2 z2 w w0 w1 w2
theorem law_WholeBack (s0 : Bool) (a0 : Option Addr) (len0 cap0 : Nat) (z0 : List Int) (s1 : Bool) (a1 : Option Addr) (len1 cap1 : Nat) (z1 : List Int) (s2 : Bool) (a2 : Option Addr) (len2 cap2 : Nat) (z2 : List Int) (w : World)
    (w0 : CameIn .u32 w a0 len0 cap0 z0) (w1 : CameIn .u32 w a1 len1 cap1 z1) (w2 : CameIn .u32 w a2 len2 cap2 z2) :
    Calls Tryd.prog 6 #[.agg #[.bool s0, .slice a0 len0 cap0], .agg #[.bool s1, .slice a1 len1 cap1], .agg #[.bool s2, .slice a2 len2 cap2]] w fun e w' => e = .returned (.bool true) ∧ Below w.heap.size w w' := walk_WholeBack whole_ok s0 a0 len0 cap0 z0 s1 a1 len1 cap1 z1 s2 a2 len2 cap2 z2 w w0 w1 w2
theorem law_WholeSmall (a b : Int) (w : World) (h0 : (Lit.int .i32 a).wf = true) (h1 : (Lit.int .i32 b).wf = true) :
    Calls Tryd.prog 7 #[.int .i32 a, .int .i32 b] w fun e w' => e = .returned (.bool true) ∧ Below w.heap.size w w' := walk_WholeSmall whole_ok a b w h0 h1
end Go.Proofs.YtokjhpjglpgmcaaDoor
/-
  Laws of no function: how an Int, and a Rat, that came in reads: a bool, and slices of words. No conditions of the program.
-/
namespace Go.Proofs.YtokjhpjglpgmcaaDoor
open Go.ChangeShapes Go.WideShapes Go.ChangeAt Go.RowKit Go.Joins

theorem open_row {H : Type} {enc : TypeId × Value → H} {W : World} {fuel : Nat} {v : Value} {y : DataW H × List MemPlace} (h : DataW.trod enc Tryd.prog W 0 (fun _ => true) true fuel 22 [v] = some y) :
    ∃ a len cap zs, v = .slice a len cap ∧ CameIn .u32 W a len cap zs := by
  rcases open_ints Tryd.underlying22 Tryd.underlying61 (by kernel_rfl) h with ⟨hcs, _⟩ | ⟨x, l, c, zs, hcs, _, hl, hm, hz, _, hcell, hwz⟩
  · exact ⟨none, 0, 0, [], by simpa using hcs, .inl ⟨rfl, rfl, rfl, rfl⟩⟩
  · exact ⟨some x, l, c, zs, by simpa using hcs, .inr ⟨x, rfl, hl, hm, by simpa using hz, hcell, hwz⟩⟩

set_option maxRecDepth 100000 in
theorem open_Int {H : Type} {enc : TypeId × Value → H} {W : World} {base : Nat} {v : Value} {d : DataW H} {p : List MemPlace} (hv : Value.okWide Tryd.prog W .any base 24 v) (h : DataW.Trod enc Tryd.prog W 0 (fun _ => true) true 24 v d p) :
    ∃ s a len cap zs, v = .agg #[.bool s, .slice a len cap] ∧ CameIn .u32 W a len cap zs := by
  obtain ⟨c0, c1, y0, y1, m, rfl, -, -, h0, h1⟩ := open_agg2 Tryd.underlying24 (by kernel_rfl) (by kernel_rfl) hv h
  obtain ⟨s, e0, -⟩ := DataW.trod_bool Tryd.underlying4 h0
  obtain ⟨a, len, cap, zs, e1, hc⟩ := open_row h1
  refine ⟨s, a, len, cap, zs, ?_, hc⟩
  rw [e1, show c0 = .bool s by simpa using e0]

end Go.Proofs.YtokjhpjglpgmcaaDoor
