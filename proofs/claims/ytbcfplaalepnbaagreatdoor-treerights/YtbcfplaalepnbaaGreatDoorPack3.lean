/-
  Texts of mine put together in build order, as far as TreeParses, TreeRight need them: DeciRef, WholeRefC, WholeWalks, RatMath, CommonMath, CommonA, WordsDrop, NatSmall0, CommonB, RowW, CommonC, CommonD, RangeTold, CommonE, CommonF, ShiftRef, CommonRef, CommonRefB, RatRef, RatRefB, RatRefE, RatRefF, RatioWalks, RatParse, RatRefQ, TreeRefE, RatRefP, TreeRefG, TreeRefI, TreeRefJ, TreeOnce, TreeTall, TreeRefK, TreeRefL, TreeRefM, TreeQN. No conditions of their own.
-/
import Derived.Test.YtbcfplaalepnbaaGreatDoorRows
import Derived.WalkKit
import Derived.ProofKit
import Derived.WalkLawsBesides
import Derived.Deep.QuietTactic
import Derived.BigQuiet
import Derived.Outline
import Derived.Lib.BitFns
import Derived.Lib.AppendZerosOnto
import Derived.OpenShut
import Derived.Laws.CopyOwn
import Derived.Deep.RegionWith
import Derived.Deep.DrawnRows
import Derived.Deep.LoopGhost
import Derived.Deep.RegionLaw
import Derived.Laws.IdiomStrings
import Derived.Deep.RegionHeld3
import Derived.Laws.Bits64b
import Derived.RangeFuncNested
import Derived.RangeFuncBound
import Derived.RangeFuncCalls
import Derived.RangeFuncLeaves
import Derived.Shelf.Abstract
import Derived.Shelf.RegionOpen
import Derived.OwnWalkIn
import Derived.TacticsInMore
import Derived.LoopNIn
import Derived.LoopIn
import Derived.Sort.LoopGhostIn
import Derived.Laws.AppendOwn
import Derived.Laws.AppendOwnNone
import Derived.Lib.DecodeN
import Derived.Test.YtbcfplaalepnbaaGreatDoorPack1
import Derived.Test.YtbcfplaalepnbaaGreatDoorPack2
namespace Go.Proofs.YtbcfplaalepnbaaGreatDoor
open Go.RowKit
theorem dg_words (N : Nat) : (dg N).length ≤ 10 * nl N := by
  refine dg_len_le ?_
  have h := lt_nl N
  have h2 : 4294967296 ^ nl N ≤ (10 ^ 10) ^ nl N := Nat.pow_le_pow_left (by decide) _
  rw [← Nat.pow_mul] at h2
  omega
def pnum (l : List UInt8) : Nat := if l.length ≤ 1000 ∧ Num l then valD l else 0
def perr (l : List UInt8) : Int := if 1000 < l.length then 4 else if Num l then 0 else 2
def AnsP (W : World) (N : Nat) (E : Int) (e : Ending) (w' : World) : Prop := ∃ a c, e = .returned (.tuple #[.slice a (nl N) c, .int .i64 E]) ∧ Own W w' (.slice a (nl N) c) (nl N) (natOf N)
theorem ansP_no {W w' : World} {E : Int} (h : Below W.heap.size W w') : AnsP W 0 E (.returned (.tuple #[.slice none 0 0, .int .i64 E])) w' :=
  ⟨none, 0, by rw [nl_zero], by rw [nl_zero, natOf_zero]; exact Own.nil h⟩
theorem pnum_long {l : List UInt8} (h : 1000 < l.length) : pnum l = 0 := if_neg (by omega)
theorem perr_long {l : List UInt8} (h : 1000 < l.length) : perr l = 4 := if_pos h
theorem pnum_no {l : List UInt8} (h : ¬ Num l) : pnum l = 0 := if_neg (by rintro ⟨-, e⟩; exact h e)
theorem perr_no {l : List UInt8} (h1 : l.length ≤ 1000) (h : ¬ Num l) : perr l = 2 := by unfold perr; rw [if_neg (by omega), if_neg h]
theorem pnum_ok {l : List UInt8} (h1 : l.length ≤ 1000) (h : Num l) : pnum l = valD l := if_pos ⟨h1, h⟩
theorem perr_ok {l : List UInt8} (h1 : l.length ≤ 1000) (h : Num l) : perr l = 0 := by unfold perr; rw [if_neg (by omega), if_pos h]
theorem drop_byte (s : ByteArray) (t : Nat) (h : t < s.size) : s.data.toList.drop t = s[t] :: s.data.toList.drop (t + 1) := by
  rw [List.drop_eq_getElem_cons (by simpa using h)]; rfl
theorem nl_ten (j : Nat) : nl (10 ^ j) ≤ j + 1 := by
  refine nl_le _ _ ?_
  have h : (10 : Nat) ^ j ≤ 4294967296 ^ j := Nat.pow_le_pow_left (by omega) j
  have h2 : (4294967296 : Nat) ^ j < 4294967296 ^ (j + 1) := Nat.pow_lt_pow_right (by omega) (by omega)
  omega
theorem nl_digits {l : List UInt8} (h : DigS l) : nl (valD l) ≤ l.length + 1 := Nat.le_trans (nl_mono (Nat.le_of_lt (valD_lt h))) (nl_ten _)
theorem decOf_words {A n : Nat} (h : nl A ≤ n) (hn : 1 ≤ n) : (decOf A).length ≤ 10 * n := by
  rcases Nat.eq_zero_or_pos A with rfl | h0
  · rw [decOf_zero]; simp; omega
  · rw [decOf_pos h0]; have := dg_words A; omega
theorem mk_data (s : ByteArray) : ByteArray.mk s.data.toList.toArray = s := by cases s; simp
end Go.Proofs.YtbcfplaalepnbaaGreatDoor
namespace Go.Proofs.YtbcfplaalepnbaaGreatDoor
open Go.RowKit
def stripI (l : List UInt8) : List UInt8 := if l.head? = some 45 then l.tail else l
def minusI (l : List UInt8) : Bool := decide (l.head? = some 45)
def znum (l : List UInt8) : Int := iv (minusI l) (pnum (stripI l))
def zerr (l : List UInt8) : Int := perr (stripI l)
def AnsIP (W : World) (z E : Int) (e : Ending) (w' : World) : Prop :=
  ∃ a c, e = .returned (.tuple #[.agg #[.bool (decide (z < 0)), .slice a (nl z.natAbs) c], .int .i64 E]) ∧ Own W w' (.slice a (nl z.natAbs) c) (nl z.natAbs) (natOf z.natAbs)
theorem extract_tail (s : ByteArray) : (s.extract 1 s.size).data.toList = s.data.toList.tail := by
  rw [ByteArray.data_extract, Array.toList_extract]
  simp
  exact List.take_of_length_le (by simp)
theorem pnum_err {l : List UInt8} (h : perr l ≠ 0) : pnum l = 0 := by
  by_cases h1 : l.length ≤ 1000 ∧ Num l
  · exact absurd (perr_ok h1.1 h1.2) h
  · exact if_neg h1
theorem iv_zero (s : Bool) : iv s 0 = 0 := by cases s <;> rfl
theorem pnum_words (l : List UInt8) : nl (pnum l) ≤ 1001 := by
  unfold pnum; split
  · rename_i h; exact Nat.le_trans (nl_digits h.2.2.1) (by omega)
  · rw [nl_zero]; omega
end Go.Proofs.YtbcfplaalepnbaaGreatDoor
namespace Go.Proofs.YtbcfplaalepnbaaGreatDoor
open Go.RowKit
theorem iv_self (z : Int) : iv (decide (z < 0)) z.natAbs = z := by
  unfold iv; by_cases h : z < 0 <;> simp [h] <;> omega
theorem nl_two (n : Int) (h : n.natAbs < 18446744073709551616) : nl n.natAbs ≤ 2 := nl_le 2 _ h
end Go.Proofs.YtbcfplaalepnbaaGreatDoor
namespace Go.Proofs.YtbcfplaalepnbaaGreatDoor
def rv (s : Bool) (A D : Nat) : Rat := mkRat (iv s A) D
abbrev R3 := Bool × Nat × Nat
def tri (q : Rat) : R3 := (decide (q.num < 0), q.num.natAbs, q.den)
def tri0 : R3 := (false, 0, 0)
theorem rv_tri (q : Rat) : rv (decide (q.num < 0)) q.num.natAbs q.den = q := by
  unfold rv; rw [iv_self]; exact Rat.mkRat_self q
theorem rv_den0 (s : Bool) (A : Nat) : rv s A 0 = 0 := Rat.mkRat_zero _
theorem rv_num0 (s : Bool) (D : Nat) : rv s 0 D = 0 := by
  unfold rv iv; cases s <;> simp
theorem iv_div (s : Bool) (A g : Nat) (h : g ∣ A) : iv s A / (g : Int) = iv s (A / g) := by
  unfold iv; cases s
  · simp
  · simp only [if_true]
    obtain ⟨k, rfl⟩ := h
    rcases Nat.eq_zero_or_pos g with rfl | hg
    · simp
    · rw [Nat.mul_div_cancel_left _ hg, Int.natCast_mul, ← Int.mul_neg, Int.mul_ediv_cancel_left _ (by omega)]
theorem rv_num (s : Bool) (A D : Nat) (h : 0 < D) : (rv s A D).num = iv s (A / Nat.gcd A D) := by
  unfold rv
  rw [Rat.num_mkRat, if_neg (by omega), iv_abs, Nat.gcd_comm, iv_div _ _ _ (Nat.gcd_dvd_left _ _)]
theorem rv_den (s : Bool) (A D : Nat) (h : 0 < D) : (rv s A D).den = D / Nat.gcd A D := by
  unfold rv
  rw [Rat.den_mkRat, if_neg (by omega), iv_abs, Nat.gcd_comm]
theorem tri_rv (s : Bool) (A D : Nat) (hA : 0 < A) (hD : 0 < D) : tri (rv s A D) = (s, A / Nat.gcd A D, D / Nat.gcd A D) := by
  unfold tri
  rw [rv_num s A D hD, rv_den s A D hD, iv_abs, iv_neg]
  have : 0 < A / Nat.gcd A D := Nat.div_pos (Nat.le_of_dvd hA (Nat.gcd_dvd_left _ _)) (Nat.gcd_pos_of_pos_left _ hA)
  simp [this]
theorem tri_zero : tri 0 = (false, 0, 1) := rfl
theorem rv_zero_iff (s : Bool) (A D : Nat) : rv s A D = 0 ↔ A = 0 ∨ D = 0 := by
  rcases Nat.eq_zero_or_pos D with h | h
  · subst h; simp [rv_den0]
  · unfold rv
    rw [Rat.mkRat_eq_zero (by omega)]
    have := iv_abs s A
    constructor
    · intro e; rw [e] at this; simp at this; omega
    · rintro (e | e)
      · subst e; unfold iv; cases s <;> rfl
      · omega
end Go.Proofs.YtbcfplaalepnbaaGreatDoor
namespace Go.Proofs.YtbcfplaalepnbaaGreatDoor
def Heads (X Y A B : Int) : Prop := ∃ P α β : Int, 0 ≤ α ∧ α < P ∧ 0 ≤ β ∧ β < P ∧ A = X * P + α ∧ B = Y * P + β
def shr (s a b A B : Int) : Int := s * (a * A - b * B)
structure Leap (X Y x y a b c d s : Int) : Prop where
  sg : s = 1 ∨ s = -1
  hx : x = shr s a b X Y
  hy : y = shr (-s) c d X Y
  hX : d * x + b * y = X
  y0 : 0 ≤ y
  yx : y ≤ x
  a0 : 0 ≤ a
  b0 : 0 ≤ b
  c0 : 0 ≤ c
  cd : c ≤ d
  bd : b ≤ d
  d1 : 1 ≤ d
  ab : a ≤ b ∨ (s = 1 ∧ a = 1 ∧ b = 0 ∧ c = 0 ∧ d = 1)
  g : ∀ A B : Int, Int.gcd (shr s a b A B) (shr (-s) c d A B) = Int.gcd A B
  u : (s = 1 ∧ c = 0 ∧ d = 1) ∨ ∀ A B : Int, Heads X Y A B → shr s a b A B ≤ B
theorem Leap.start {X Y : Int} (h0 : 0 ≤ Y) (h : Y ≤ X) : Leap X Y X Y 1 0 0 1 1 := by
  refine ⟨.inl rfl, ?_, ?_, ?_, h0, h, ?_, ?_, ?_, ?_, ?_, ?_, ?_, ?_, .inl ⟨rfl, rfl, rfl⟩⟩ <;> simp [shr]
theorem Leap.sure {X Y x y a b c d s A B : Int} (h : Leap X Y x y a b c d s) (h1 : d ≤ y) (h2 : b + d ≤ x - y) (hh : Heads X Y A B) :
    0 ≤ shr (-s) c d A B ∧ shr (-s) c d A B < shr s a b A B := by
  obtain ⟨P, α, β, α0, α1, β0, β1, rfl, rfl⟩ := hh
  obtain ⟨sg, hx, hy, -, -, -, a0, b0, c0, cd, bd, d1, ab, -, -⟩ := h
  have p1 : 0 ≤ (y - d) * P := Int.mul_nonneg (by omega) (by omega)
  have p2 : 0 ≤ (x - y - (b + d)) * P := Int.mul_nonneg (by omega) (by omega)
  rcases sg with rfl | rfl
  · have p3 : 0 ≤ (d - c) * α := Int.mul_nonneg (by omega) (by omega)
    have p4 : 0 ≤ d * (P - α) := Int.mul_nonneg (by omega) (by omega)
    have p5 : 0 ≤ d * β := Int.mul_nonneg (by omega) (by omega)
    have p6 : 0 < (b + d) * (P - β) := Int.mul_pos (by omega) (by omega)
    have p7 : 0 ≤ (a + c) * α := Int.mul_nonneg (by omega) (by omega)
    unfold shr at *
    subst hx hy
    grind
  · have : a ≤ b := by omega
    have p3 : 0 ≤ c * α := Int.mul_nonneg (by omega) (by omega)
    have p4 : 0 ≤ d * (P - β) := Int.mul_nonneg (by omega) (by omega)
    have p5 : 0 ≤ (b + d - (a + c)) * α := Int.mul_nonneg (by omega) (by omega)
    have p6 : 0 < (b + d) * (P - α) := Int.mul_pos (by omega) (by omega)
    have p7 : 0 ≤ (b + d) * β := Int.mul_nonneg (by omega) (by omega)
    unfold shr at *
    subst hx hy
    grind
theorem gcd_step (u v q : Int) : Int.gcd v (u - q * v) = Int.gcd u v := by
  rw [Int.gcd_comm v]
  rw [show u - q * v = u + (-q) * v by rw [Int.neg_mul]; omega]
  exact Int.gcd_add_mul_right_left _ _ _
theorem Leap.next {X Y x y a b c d s : Int} (h : Leap X Y x y a b c d s) (h1 : d ≤ y) (h2 : b + d ≤ x - y) :
    Leap X Y y (x % y) c d (a + x / y * c) (b + x / y * d) (-s) := by
  have hs := fun A B => h.sure (A := A) (B := B) h1 h2
  obtain ⟨sg, hx, hy, hX, y0, yx, a0, b0, c0, cd, bd, d1, ab, g, u⟩ := h
  have q1 : 1 ≤ x / y := by
    rw [Int.le_ediv_iff_mul_le (by omega)]; omega
  have e : x % y = x - x / y * y := by rw [Int.mul_comm]; exact Int.emod_def x y
  have r0 := Int.emod_nonneg x (show y ≠ 0 by omega)
  have r1 := Int.emod_lt_of_pos x (show 0 < y by omega)
  generalize x / y = q at *
  generalize x % y = r at *
  have qc : 0 ≤ q * c := Int.mul_nonneg (by omega) (by omega)
  have qd : d ≤ q * d := by have : 0 ≤ (q - 1) * d := Int.mul_nonneg (by omega) (by omega); grind
  have qcd : q * c ≤ q * d := Int.mul_le_mul_of_nonneg_left cd (by omega)
  refine ⟨by omega, ?_, ?_, ?_, r0, by omega, c0, by omega, by omega, ?_, by omega, by omega, .inl cd, ?_, ?_⟩
  · exact hy
  · rw [e, hx, hy]; unfold shr; grind
  · rw [e, ← hX]; grind
  · rcases ab with ab | ⟨-, rfl, rfl, rfl, rfl⟩ <;> omega
  · intro A B
    have e2 : shr (- -s) (a + q * c) (b + q * d) A B = shr s a b A B - q * shr (-s) c d A B := by unfold shr; grind
    rw [e2, gcd_step, g]
  · right
    intro A B hh
    have := hs A B hh
    rcases u with ⟨rfl, rfl, rfl⟩ | u
    · simp [shr]
    · have := u A B hh; omega
theorem Leap.most {X Y x y a b c d s : Int} (h : Leap X Y x y a b c d s) (h1 : 1 ≤ x) : d ≤ X ∧ x ≤ X := by
  have p1 : 0 ≤ b * y := Int.mul_nonneg h.b0 h.y0
  have p2 : 0 ≤ (d - 1) * x := Int.mul_nonneg (by have := h.d1; omega) (by omega)
  have p3 : 0 ≤ d * (x - 1) := Int.mul_nonneg (by have := h.d1; omega) (by omega)
  have := h.hX
  constructor <;> grind
theorem Leap.sum {X Y x y a b c d s : Int} (h : Leap X Y x y a b c d s) (h1 : d ≤ y) : b + d ≤ X := by
  have := h.d1
  have := h.yx
  have p1 : 0 ≤ b * (y - 1) := Int.mul_nonneg h.b0 (by omega)
  have p3 : 0 ≤ d * (x - 1) := Int.mul_nonneg (by omega) (by omega)
  have := h.hX
  grind
theorem Leap.half {X Y x y a b c d s : Int} (h : Leap X Y x y a b c d s) (h1 : d ≤ y) (hX : X < 18446744073709551616) : d < 4294967296 := by
  have := h.d1
  have := h.yx
  have p1 : 0 ≤ b * y := Int.mul_nonneg h.b0 h.y0
  have p3 : 0 ≤ d * (x - d) := Int.mul_nonneg (by omega) (by omega)
  have e := h.hX
  rcases Int.lt_or_le d 4294967296 with h2 | h2
  · exact h2
  · have p4 : 0 ≤ (d - 4294967296) * (d + 4294967296) := Int.mul_nonneg (by omega) (by omega)
    grind
def Leapt (X Y a b c d : Int) : Prop :=
  (0 ≤ a ∧ a < 4294967296) ∧ (0 ≤ b ∧ b < 4294967296) ∧ (0 ≤ c ∧ c < 4294967296) ∧ (0 ≤ d ∧ d < 4294967296) ∧
  ∀ A B : Nat, Heads X Y A B → Nat.gcd (a * A - b * B).natAbs (c * A - d * B).natAbs = Nat.gcd A B ∧ (c * A - d * B).natAbs < (a * A - b * B).natAbs ∧ (a * A - b * B).natAbs ≤ B
theorem natAbs_shr {s a b A B : Int} (h : s = 1 ∨ s = -1) : (shr s a b A B).natAbs = (a * A - b * B).natAbs := by
  unfold shr; rcases h with rfl | rfl <;> omega
theorem Leap.leapt {X Y x y a b c d s : Int} (h : Leap X Y x y a b c d s) (h1 : d ≤ y) (h2 : b + d ≤ x - y) (hX : X < 18446744073709551616) (hc : c ≠ 0) : Leapt X Y a b c d := by
  have hd := h.half h1 hX
  have hs := fun A B => h.sure (A := A) (B := B) h1 h2
  obtain ⟨sg, -, -, -, -, -, a0, b0, c0, cd, bd, d1, ab, g, u⟩ := h
  have u := u.resolve_left (by omega)
  refine ⟨by omega, by omega, by omega, by omega, fun A B hh => ?_⟩
  have g := g A B
  have u := u A B hh
  have hs := hs A B hh
  unfold Int.gcd at g
  rw [natAbs_shr sg, natAbs_shr (by omega)] at g
  have e1 := natAbs_shr (a := a) (b := b) (A := A) (B := B) sg
  have e2 := natAbs_shr (s := -s) (a := c) (b := d) (A := A) (B := B) (by omega)
  refine ⟨by simpa using g, by omega, by omega⟩
end Go.Proofs.YtbcfplaalepnbaaGreatDoor
namespace Go.Proofs.YtbcfplaalepnbaaGreatDoor
open Go.RowKit
set_option maxHeartbeats 1000000 in
theorem common_sure (x y a b c d : Int) (w : World) (_y0 : 0 ≤ y) (yx : y ≤ x) (x1 : x < 18446744073709551616) (b0 : 0 ≤ b) (d0 : 0 ≤ d) (hs : d ≤ y → b + d < 18446744073709551616) (r : Bool) (hr : decide (d ≤ y ∧ b + d ≤ x - y) = r) :
    Calls Tryz.prog 239 #[.int .u64 x, .int .u64 y, .agg #[.int .u64 a, .int .u64 b], .agg #[.int .u64 c, .int .u64 d]] w fun e w' => e = .returned (.bool r) ∧ Below w.heap.size w w' := by
  have B : Below w.heap.size w ((w.alloc (.cells #[.int .u64 a, .int .u64 b] 234)).alloc (.cells #[.int .u64 c, .int .u64 d] 234)) := ((Below.refl _ _).alloc (Nat.le_refl _) _).alloc (by simp) _
  by_cases h1 : d ≤ y
  · have h2 := hs h1
    subst hr
    clear hs
    go_enter Tryz.func239, Tryz.ntmps239
    go_wp2
    go_ret
    exact ⟨ret_bool (by rw [Bool.eq_iff_iff]; simp [h1]), B⟩
  · subst hr
    clear hs
    go_enter Tryz.func239, Tryz.ntmps239
    go_wp2
    go_ret
    exact ⟨ret_bool (by simp; omega), B⟩
def Box (v : World) (k : Nat) (a b : Int) : Prop := v.heap[k]? = some (.cells #[.int .u64 a, .int .u64 b] 234 (0, 0))
theorem Box.cells {v : World} {k : Nat} {a b : Int} (h : Box v k a b) : v.cell? ⟨k, 0, none⟩ = some (.int .u64 a) ∧ v.cell? ⟨k, 1, none⟩ = some (.int .u64 b) ∧ v.frozen? ⟨k, 0, none⟩ = false ∧ v.frozen? ⟨k, 1, none⟩ = false := by
  unfold Box at h
  simp [World.cell?, World.frozen?, h]
theorem Box.lt {v : World} {k : Nat} {a b : Int} (h : Box v k a b) : k < v.heap.size := (Array.getElem?_eq_some_iff.1 h).1
theorem Box.more {v w : World} {k : Nat} {a b : Int} (h : Box v k a b) (hb : Below v.heap.size v w) : Box w k a b := (hb.block k h.lt).trans h
theorem Box.drew {v : World} {k : Nat} {a b : Int} (h : Box v k a b) : Box v.drew k a b := h
theorem Box.other {v : World} {k : Nat} {a b : Int} (h : Box v k a b) {j : Nat} (o : Nat) (hne : k ≠ j) (u : Value) : Box (v.setCell ⟨j, o, none⟩ u) k a b :=
  (Below.heap_setCell v ⟨j, o, none⟩ u k hne).trans h
theorem Box.put {v : World} {k : Nat} {a b : Int} (h : Box v k a b) (x y : Int) : Box ((v.setCell ⟨k, 0, none⟩ (.int .u64 x)).setCell ⟨k, 1, none⟩ (.int .u64 y)) k x y := by
  have hlt := h.lt
  have hv := (Array.getElem?_eq_some_iff.1 h).2
  unfold Box
  simp only [World.setCell]
  rw [Array.getElem?_eq_getElem (by simpa using hlt), Array.getElem_modify, if_pos rfl, Array.getElem_modify, if_pos rfl, hv]
  rfl
theorem Box.drewN {v : World} {k : Nat} {a b : Int} (h : Box v k a b) (n : Nat) : Box (v.drewN n) k a b := h.more (below_drewN (Below.refl _ _) n)
theorem boxes_round {w v : World} {p q r t a b c d : Int} (n : Nat) (e f : Int) (b1 : Box v w.heap.size p q) (b2 : Box v (w.heap.size + 1) r t) (b3 : Box v (w.heap.size + 2) a b) (b4 : Box v (w.heap.size + 3) c d) (B : Below w.heap.size w v) :
    ∀ W, W = (((((((((v.setCell ⟨w.heap.size, 0, none⟩ (.int .u64 a)).setCell ⟨w.heap.size, 1, none⟩ (.int .u64 b)).setCell ⟨w.heap.size + 1, 0, none⟩ (.int .u64 c)).setCell ⟨w.heap.size + 1, 1, none⟩ (.int .u64 d)).drewN n).setCell
      ⟨w.heap.size + 2, 0, none⟩ (.int .u64 c)).setCell ⟨w.heap.size + 2, 1, none⟩ (.int .u64 d)).setCell ⟨w.heap.size + 3, 0, none⟩ (.int .u64 e)).setCell ⟨w.heap.size + 3, 1, none⟩ (.int .u64 f)) →
    Box W w.heap.size a b ∧ Box W (w.heap.size + 1) c d ∧ Box W (w.heap.size + 2) c d ∧ Box W (w.heap.size + 3) e f ∧ Below w.heap.size w W := by
  rintro W rfl
  refine ⟨?_, ?_, ?_, ?_, ?_⟩
  · exact ((((((((b1.put a b).other _ (by omega) _).other _ (by omega) _).drewN n).other _ (by omega) _).other _ (by omega) _).other _ (by omega) _).other _ (by omega) _)
  · exact ((((((((b2.other _ (by omega) _).other _ (by omega) _).put c d).drewN n).other _ (by omega) _).other _ (by omega) _).other _ (by omega) _).other _ (by omega) _)
  · exact (((((((((b3.other _ (by omega) _).other _ (by omega) _).other _ (by omega) _).other _ (by omega) _).drewN n).put c d).other _ (by omega) _).other _ (by omega) _))
  · exact (((((((((b4.other _ (by omega) _).other _ (by omega) _).other _ (by omega) _).other _ (by omega) _).drewN n).other _ (by omega) _).other _ (by omega) _).put e f))
  · have h0 : w.heap.size ≤ (⟨w.heap.size, 0, none⟩ : Addr).block := Nat.le_refl _
    have h1 : ∀ k o, w.heap.size ≤ (⟨w.heap.size + k, o, none⟩ : Addr).block := fun k o => Nat.le_add_right _ _
    exact (((((below_drewN ((((B.setCell h0 _).setCell (p := ⟨w.heap.size, 1, none⟩) h0 _).setCell (h1 1 0) _).setCell (h1 1 1) _) n).setCell (h1 2 0) _).setCell (h1 2 1) _).setCell (h1 3 0) _).setCell (h1 3 1) _)
theorem Box.new (v : World) (a b : Int) : Box (v.alloc (.cells #[.int .u64 a, .int .u64 b] 234)) v.heap.size a b := by show (v.heap.push _)[v.heap.size]? = _; simp
theorem Box.alloc {v : World} {k : Nat} {a b : Int} (h : Box v k a b) (o : Obj) : Box (v.alloc o) k a b := h.more ((Below.refl _ _).alloc (Nat.le_refl _) _)
theorem Box.at' {v : World} {k j : Nat} {a b : Int} (h : Box v k a b) (e : k = j) : Box v j a b := e ▸ h
theorem wrap_u64 {z : Int} (h0 : 0 ≤ z) (h1 : z < 18446744073709551616) : IntKind.u64.wrap z = z := by
  simp [IntKind.wrap, IntKind.bits, IntKind.signed]; omega
set_option maxHeartbeats 4000000 in
theorem common_leap (X Y : Int) (w : World) (Y0 : 0 ≤ Y) (YX : Y ≤ X) (X1 : X < 18446744073709551616) :
    Calls Tryz.prog 225 #[.int .u64 X, .int .u64 Y] w fun e w' => ∃ a b c d : Int, e = .returned (.tuple #[.agg #[.int .u64 a, .int .u64 b], .agg #[.int .u64 c, .int .u64 d]]) ∧ Below w.heap.size w w' ∧ (c = 0 ∨ Leapt X Y a b c d) := by
  have L0 := Leap.start Y0 YX
  go_enter Tryz.func225, Tryz.ntmps225
  go_wp2
  go_region
  go_wp2
  go_loopw [0, 1] (fun sx sy v => ∃ x y a b c d s p q r t : Int, sx = .int .u64 x ∧ sy = .int .u64 y ∧ Leap X Y x y a b c d s ∧ (r = 0 ∨ Leapt X Y p q r t) ∧ Box v w.heap.size p q ∧ Box v (w.heap.size + 1) r t ∧ Box v (w.heap.size + 2) a b ∧ Box v (w.heap.size + 3) c d ∧ Below w.heap.size w v) (fun _ y _ => (intOf y).toNat)
  case atStart =>
    have HB : ∀ k o, w.heap.size ≤ (⟨w.heap.size + k, o, none⟩ : Addr).block := fun k o => Nat.le_add_right _ _
    refine ⟨X, Y, 1, 0, 0, 1, 1, 1, 0, 0, 1, rfl, rfl, L0, .inl rfl, ?_, ?_, ?_, ?_, ?_⟩
    · exact Box.drew (((Box.new w 1 0).alloc _).alloc _ |>.alloc _)
    · exact Box.drew ((((Box.new (w.alloc _) 0 1).alloc _).alloc _).at' (by simp))
    · exact Box.drew (((Box.new ((w.alloc _).alloc _) 1 0).alloc _).at' (by simp))
    · exact Box.drew ((Box.new (((w.alloc _).alloc _).alloc _) 0 1).at' (by simp))
    · exact ((((((Below.refl _ w).alloc (Nat.le_refl _) _).alloc (by simp) _).alloc (by simp; omega) _).alloc (by simp; omega) _).drew)
  case round =>
    obtain ⟨x, y, a, b, c, d, s, p, q, r, t, rfl, rfl, L, S, b1, b2, b3, b4, B⟩ := hrel
    have l0 := L.y0
    have l1 := L.yx
    have l2 := L.b0
    have l3 := L.d1
    have l4 := L.sum
    have l5 : x ≤ X := by
      rcases Int.lt_or_le 0 x with h | h
      · exact (L.most (by omega)).2
      · omega
    obtain ⟨c3, c4, f3, f4⟩ := b3.cells
    obtain ⟨c5, c6, f5, f6⟩ := b4.cells
    by_cases hs : d ≤ y ∧ b + d ≤ x - y
    · obtain ⟨h1, h2⟩ := hs
      have LN := L.next h1 h2
      have SN : c = 0 ∨ Leapt X Y a b c d := by
        by_cases hc : c = 0
        · exact .inl hc
        · exact .inr (L.leapt h1 h2 X1 hc)
      have n1 := LN.most (by omega)
      have n2 := LN.cd
      have n3 := LN.c0
      have n4 : 0 ≤ x / y := Int.ediv_nonneg (by omega) (by omega)
      have n5 : 0 ≤ x / y * c := Int.mul_nonneg n4 L.c0
      have n6 : 0 ≤ x / y * d := Int.mul_nonneg n4 (by omega)
      have n7 := L.a0
      have w1 : IntKind.u64.wrap (x / y * c) = x / y * c := wrap_u64 (by omega) (by omega)
      have w2 : IntKind.u64.wrap (x / y * d) = x / y * d := wrap_u64 (by omega) (by omega)
      have w3 : IntKind.u64.wrap (a + x / y * c) = a + x / y * c := wrap_u64 (by omega) (by omega)
      have w4 : IntKind.u64.wrap (b + x / y * d) = b + x / y * d := wrap_u64 (by omega) (by omega)
      have MM : Hid ((x % y).toNat < y.toNat) := (by have h5 := Int.emod_nonneg x (show y ≠ 0 by omega); have h6 := Int.emod_lt_of_pos x (show 0 < y by omega); omega : (x % y).toNat < y.toNat)
      have C := fun v => common_sure x y a b c d v l0 l1 (by omega) l2 (by omega) (fun h => by have := l4 h; omega) true (by simp; omega)
      have HL : Hid (Leap X Y y (x % y) c d (a + x / y * c) (b + x / y * d) (-s)) := LN
      have HS : Hid (c = 0 ∨ Leapt X Y a b c d) := SN
      have HR : Hid (Box wr w.heap.size p q ∧ Box wr (w.heap.size + 1) r t ∧ Box wr (w.heap.size + 2) a b ∧ Box wr (w.heap.size + 3) c d ∧ Below w.heap.size w wr) := ⟨b1, b2, b3, b4, B⟩
      clear LN SN S b1 b2 b3 b4 B L l4
      go_wp2_with (first
        | (go_at_call 239; (with_reducible refine Calls.mono (C _) ?_); rintro e w1 ⟨rfl, B1⟩))
      obtain ⟨b1, b2, b3, b4, B⟩ := HR.out
      have b1 := b1.more B1
      have b2 := b2.more B1
      have b3 := b3.more B1
      have b4 := b4.more B1
      have B := below_more B B1
      have HR : Hid (Box w1 w.heap.size p q ∧ Box w1 (w.heap.size + 1) r t ∧ Box w1 (w.heap.size + 2) a b ∧ Box w1 (w.heap.size + 3) c d ∧ Below w.heap.size w w1) := ⟨b1, b2, b3, b4, B⟩
      clear c3 c4 f3 f4 c5 c6 f5 f6 C B1
      obtain ⟨c1, c2, f1, f2⟩ := b1.cells
      obtain ⟨d1, d2, g1, g2⟩ := b2.cells
      obtain ⟨c3, c4, f3, f4⟩ := b3.cells
      obtain ⟨c5, c6, f5, f6⟩ := b4.cells
      clear b1 b2 b3 b4 B
      go_region
      go_wp2
      go_quiet (fail)
      go_wp2
      go_region
      obtain ⟨b1, b2, b3, b4, B⟩ := HR.out
      clear c1 c2 f1 f2 d1 d2 g1 g2 c3 c4 f3 f4 c5 c6 f5 f6
      go_wp2
      go_roundw
      case rel =>
        obtain ⟨r1, r2, r3, r4, R⟩ := boxes_round (1 + nq + 1) (a + x / y * c) (b + x / y * d) b1 b2 b3 b4 B _ rfl
        exact ⟨y, x % y, c, d, a + x / y * c, b + x / y * d, -s, a, b, c, d, rfl, rfl, HL.out, HS.out, r1, r2, r3, r4, R⟩
      case measure => simp only [intOf]; exact MM.out
    · have C := fun v => common_sure x y a b c d v l0 l1 (by omega) l2 (by omega) (fun h => by have := l4 h; omega) false (by simp; omega)
      have HR : Hid (Box wr w.heap.size p q ∧ Box wr (w.heap.size + 1) r t ∧ Below w.heap.size w wr) := ⟨b1, b2, B⟩
      have HS : Hid (r = 0 ∨ Leapt X Y p q r t) := S
      clear S b1 b2 b3 b4 B L l4
      go_wp2_with (first
        | (go_at_call 239; (with_reducible refine Calls.mono (C _) ?_); rintro e w1 ⟨rfl, B1⟩))
      obtain ⟨b1, b2, B⟩ := HR.out
      have b1 := b1.more B1
      have b2 := b2.more B1
      have B := below_more B B1
      clear c3 c4 f3 f4 c5 c6 f5 f6 C B1 HR
      obtain ⟨c1, c2, f1, f2⟩ := b1.cells
      obtain ⟨d1, d2, g1, g2⟩ := b2.cells
      have H1 : ∀ k o, w.heap.size ≤ (⟨w.heap.size + k, o, none⟩ : Addr).block := fun k o => Nat.le_add_right _ _
      have HB : Hid (Below w.heap.size w ((((w1.setCell ⟨w.heap.size, 0, none⟩ (.int .u64 p)).setCell ⟨w.heap.size, 1, none⟩ (.int .u64 q)).setCell ⟨w.heap.size + 1, 0, none⟩ (.int .u64 r)).setCell ⟨w.heap.size + 1, 1, none⟩ (.int .u64 t)).drew) :=
        ((((B.setCell (H1 0 0) _).setCell (H1 0 1) _).setCell (H1 1 0) _).setCell (H1 1 1) _).drew
      clear b1 b2 B H1
      go_region
      go_wp2
      exact bodyPost_ret (v := .tuple #[.agg #[.int .u64 p, .int .u64 q], .agg #[.int .u64 r, .int .u64 t]]) (by simp [results, Tryz.results225, go_sem, c1, c2, d1, d2]) rfl ⟨p, q, r, t, rfl, HB.out, HS.out⟩
end Go.Proofs.YtbcfplaalepnbaaGreatDoor
namespace Go.Proofs.YtbcfplaalepnbaaGreatDoor
open Go.RowKit
theorem IsWords.drop {w : World} {x : Addr} {n c : Nat} {zs : List Int} (h : IsWords w (.slice (some x) n c) zs) (k : Nat) (hk : k ≤ n) (hs : x.spot = none) : IsWords w (.slice (some ⟨x.block, x.off + k, none⟩) (n - k) (c - k)) (zs.drop k) := by
  have hl := h.len
  rcases h with ⟨e, rfl⟩ | ⟨y, cap, e, h1, h2, hc⟩
  · simp at e
  · simp only [Value.slice.injEq, Option.some.injEq] at e
    obtain ⟨rfl, rfl, rfl⟩ := e
    have e2 : (zs.drop k).length = zs.length - k := by rw [List.length_drop]
    refine .inr ⟨_, c - k, by rw [e2], by omega, by omega, fun i hi => ?_⟩
    rw [e2] at hi
    have hci := hc (k + i) (by omega)
    rw [show zs.getD (k + i) 0 = (zs.drop k).getD i 0 by simp [List.getD_eq_getElem?_getD]] at hci
    rw [← hci]
    rw [Go.WideShapes.add_plain]
    have : x = ⟨x.block, x.off, none⟩ := by cases x; simp at hs; simp [hs]
    rw [this, Go.WideShapes.add_plain, Nat.add_assoc]
end Go.Proofs.YtbcfplaalepnbaaGreatDoor
namespace Go.Proofs.YtbcfplaalepnbaaGreatDoor
open Go.RowKit
theorem or_zero (z : Int) (z0 : 0 ≤ z) (z1 : z < 4294967296) : bits BinOp.or IntKind.u64 0 z = z := by
  obtain ⟨y, rfl⟩ : ∃ y : Nat, z = y := ⟨z.toNat, by omega⟩
  have h := bits_or_u64_nat 0 y (by omega) (by omega)
  simpa using h
theorem or_word (s : Nat) (z : Int) (z0 : 0 ≤ z) (z1 : z < 4294967296) (hs : s < 4294967296) : bits BinOp.or IntKind.u64 (s : Int) (z * 4294967296) = s + z * 4294967296 := by
  obtain ⟨y, rfl⟩ : ∃ y : Nat, z = y := ⟨z.toNat, by omega⟩
  have h := bits_or_u64_nat s (y * 4294967296) (by omega) (by omega)
  have e : s ||| y * 4294967296 = s + y * 4294967296 := by
    rw [Nat.or_comm, Nat.mul_comm, show (4294967296 : Nat) = 2 ^ 32 from rfl, ← Nat.two_pow_add_eq_or_of_lt (by omega)]; omega
  rw [e] at h
  simpa using h
set_option maxHeartbeats 1000000 in
theorem nat_small (a : Option Addr) (n c : Nat) (zs : List Int) (w : World) (h : IsWords w (.slice a n c) zs) (hz : Wd zs) (hv : val zs < 18446744073709551616) :
    Calls Tryz.prog 240 #[.slice a n c] w fun e w' => e = .returned (.tuple #[.int .u64 (val zs), .bool true]) ∧ w = w' := by
  have R := nat_right' a n c zs w h hz
  have hL := (h.low hz).2.2
  have hL2 : nl (val zs) ≤ 2 := nl_le 2 _ hv
  have hr := (h.right hz).reads.1
  have hw := wd_natOf (val zs)
  have EV : Hid (val (natOf (val zs)) = val zs) := val_natOf (val zs)
  have hl : (natOf (val zs)).length = nl (val zs) := rfl
  generalize nl (val zs) = L at R hL hL2 hr hl
  generalize natOf (val zs) = ys at hr hw EV hl
  clear h hz
  go_enter Tryz.func240, Tryz.ntmps240
  go_wp2_with (go_at_call 184; with_reducible refine Calls.mono R ?_; rintro e w1 ⟨rfl, rfl⟩)
  go_loop [4, 13] (fun s i => ∃ k : Nat, k ≤ L ∧ i = .int .i64 k ∧ s = .int .u64 (val (ys.take k))) (fun _ i => L - (intOf i).toNat)
  case atStart => exact ⟨0, by omega, rfl, rfl⟩
  case round =>
    obtain ⟨k, hk, rfl, rfl⟩ := hrel
    by_cases hlt : k < L
    · rcases hr.2 with h0 | ⟨b, off, rfl, hc⟩
      · omega
      have hck := hc k hlt
      obtain ⟨z0, z1⟩ := wd_getD hw k
      have E : Hid (val (ys.take (k + 1)) = val (ys.take k) + (ys.getD k 0).toNat * 4294967296 ^ k) := val_take_succ ys k
      have hp := val_take_lt ys hw k
      clear hr hc hw R hv
      generalize ys.getD k 0 = z at hck z0 z1 E
      obtain rfl | rfl : k = 0 ∨ k = 1 := by omega
      · have e0 : val (ys.take 0) = 0 := rfl
        rw [e0] at E ⊢
        clear hp
        rw [show ((0 : Nat) : Int) = 0 from rfl]
        rw [Nat.add_zero] at hck
        go_wp2
        go_round
        case rel => exact ⟨1, by omega, rfl, val_int (by rw [E.out, or_zero z z0 z1]; omega)⟩
        case measure => simp [intOf]; omega
      · generalize val (ys.take 1) = s at E hp ⊢
        have HP : Hid (s < 4294967296) := (by omega : s < 4294967296)
        clear hp
        go_wp2
        go_round
        case rel => exact ⟨2, by omega, rfl, val_int (by rw [E.out, or_word s z z0 z1 HP.out]; omega)⟩
        case measure => simp [intOf]; omega
    · have e : ys.take k = ys := List.take_of_length_le (by omega)
      rw [e]
      clear hr hw R hv
      go_wp2
      go_ret2
      exact ⟨ret_ib (by rw [EV.out]), rfl⟩
end Go.Proofs.YtbcfplaalepnbaaGreatDoor
namespace Go.Proofs.YtbcfplaalepnbaaGreatDoor
open Go.RowKit
theorem heads_drop (xs ys : List Int) (hx : Wd xs) (hy : Wd ys) (k : Nat) : Heads (val (xs.drop k)) (val (ys.drop k)) (val xs) (val ys) := by
  refine ⟨(4294967296 ^ k : Nat), val (xs.take k), val (ys.take k), by omega, ?_, by omega, ?_, ?_, ?_⟩
  · exact_mod_cast val_take_lt xs hx k
  · exact_mod_cast val_take_lt ys hy k
  · have := val_split xs k
    rw [Nat.mul_comm] at this
    exact_mod_cast (by omega : val xs = val (xs.drop k) * 4294967296 ^ k + val (xs.take k))
  · have := val_split ys k
    rw [Nat.mul_comm] at this
    exact_mod_cast (by omega : val ys = val (ys.drop k) * 4294967296 ^ k + val (ys.take k))
theorem drop_mono (xs ys : List Int) (hx : Wd xs) (k : Nat) (h : val ys ≤ val xs) : val (ys.drop k) ≤ val (xs.drop k) := by
  have h1 := val_split xs k
  have h2 := val_split ys k
  have h3 := val_take_lt xs hx k
  rcases Nat.lt_or_ge (val (xs.drop k)) (val (ys.drop k)) with h4 | h4
  · have h5 : 4294967296 ^ k * (val (xs.drop k) + 1) ≤ 4294967296 ^ k * val (ys.drop k) := Nat.mul_le_mul_left _ h4
    rw [Nat.mul_add] at h5
    omega
  · exact h4
theorem IsWords.no (w : World) (x : Addr) (c : Nat) (h : c ≤ 9223372036854775807) : IsWords w (.slice (some x) 0 c) [] :=
  .inr ⟨x, c, rfl, Nat.zero_le _, h, fun i hi => by simp at hi⟩
theorem IsWords.none {w : World} {n c : Nat} {zs : List Int} (h : IsWords w (.slice none n c) zs) : n = 0 ∧ c = 0 ∧ zs = [] := by
  rcases h with ⟨e, rfl⟩ | ⟨x, cap, e, -⟩
  · simp only [Value.slice.injEq] at e; exact ⟨e.2.1, e.2.2, rfl⟩
  · simp at e
theorem val_two {xs : List Int} (h : Wd xs) (hl : xs.length ≤ 2) : val xs < 18446744073709551616 := by
  have h1 := val_lt xs h
  have h2 : 4294967296 ^ xs.length ≤ 4294967296 ^ 2 := Nat.pow_le_pow_right (by omega) hl
  omega
set_option maxHeartbeats 2000000 in
theorem common_heads (g n c : Nat) (xs : List Int) (b : Option Addr) (m d : Nat) (ys : List Int) (w : World) (h : IsWords w (.slice (some ⟨g, 0, none⟩) n c) xs) (hx : Wd xs) (k : IsWords w (.slice b m d) ys) (hy : Wd ys)
    (hb : b = none ∨ ∃ gb, b = some ⟨gb, 0, none⟩) (hm : m ≤ n) (hle : val ys ≤ val xs) (hn : n ≤ 1000000000000) :
    Calls Tryz.prog 226 #[.slice (some ⟨g, 0, none⟩) n c, .slice b m d] w fun e w' => ∃ X Y : Nat, e = .returned (.tuple #[.int .u64 X, .int .u64 Y]) ∧ w = w' ∧ X < 18446744073709551616 ∧ Y ≤ X ∧ Heads X Y (val xs) (val ys) := by
  have hcap := h.cap
  have kcap := k.cap
  have hl := h.len
  have kl := k.len
  have HD : Hid (∀ j, Heads (val (xs.drop j)) (val (ys.drop j)) (val xs) (val ys)) := fun j => heads_drop xs ys hx hy j
  have HM : Hid (∀ j, val (ys.drop j) ≤ val (xs.drop j)) := fun j => drop_mono xs ys hx j hle
  rcases (by omega : n ≤ 2 ∨ 2 < n) with h2 | h2
  · have v1 := val_two hx (by omega)
    have C1 := nat_small _ _ _ _ w h hx v1
    have C2 := nat_small _ _ _ _ w k hy (by omega)
    have H0 : Hid (Heads (val xs) (val ys) (val xs) (val ys)) := HD.out 0
    have HL : Hid (val ys ≤ val xs) := hle
    generalize val xs = X at *
    generalize val ys = Y at *
    have HV : Hid (X < 18446744073709551616) := v1
    clear HD HM hl kl hle h hn v1
    rcases (by omega : n < 2 ∨ n = 2) with h2 | rfl
    all_goals
      rcases hb with rfl | ⟨gb, rfl⟩
      · obtain ⟨rfl, rfl, -⟩ := k.none
        clear k
        go_enter Tryz.func226, Tryz.ntmps226
        go_wp2_with (first
          | (go_at_call 240; with_reducible refine Calls.mono C1 ?_; rintro e w1 ⟨rfl, rfl⟩)
          | (go_at_call 240; with_reducible refine Calls.mono C2 ?_; rintro e w1 ⟨rfl, rfl⟩))
        go_ret2
        exact ⟨X, Y, rfl, rfl, HV.out, HL.out, H0.out⟩
      · clear k
        rcases (by omega : m = 0 ∧ d = 0 ∨ m = 0 ∧ 0 < d ∨ 0 < m ∧ 0 < d) with ⟨rfl, rfl⟩ | ⟨rfl, k1⟩ | ⟨k0, k1⟩
        all_goals
          go_enter Tryz.func226, Tryz.ntmps226
          go_wp2_with (first
            | (go_at_call 240; with_reducible refine Calls.mono C1 ?_; rintro e w1 ⟨rfl, rfl⟩)
            | (go_at_call 240; with_reducible refine Calls.mono C2 ?_; rintro e w1 ⟨rfl, rfl⟩))
          go_ret2
          exact ⟨X, Y, rfl, rfl, HV.out, HL.out, H0.out⟩
  · obtain ⟨low, rfl⟩ : ∃ low, n = low + 2 := ⟨n - 2, by omega⟩
    have D1 := h.drop low (by omega) rfl
    simp only [Nat.zero_add, Nat.add_sub_cancel_left] at D1
    have v1 := val_two (wd_drop hx low) (by rw [List.length_drop]; omega)
    have C1 := nat_small _ _ _ _ w D1 (wd_drop hx low) v1
    have H0 := HD.out low
    have HL := HM.out low
    clear HD HM D1 h
    rcases hb with rfl | ⟨gb, rfl⟩
    · obtain ⟨rfl, rfl, rfl⟩ := k.none
      have C2 := nat_small _ _ _ _ w k hy (by simp [val])
      have HV : Hid (val (xs.drop low) < 18446744073709551616 ∧ (val ([] : List Int)) ≤ val (xs.drop low) ∧ Heads (val (xs.drop low)) (val ([] : List Int)) (val xs) (val ([] : List Int))) := ⟨v1, Nat.zero_le _, by simpa using H0⟩
      clear k v1 HL H0 kl hle hl
      generalize val (xs.drop low) = X at C1 HV
      generalize val ([] : List Int) = Y at C2 HV
      go_enter Tryz.func226, Tryz.ntmps226
      go_wp2_with (first
        | (go_at_call 240; with_reducible refine Calls.mono C1 ?_; rintro e w1 ⟨rfl, rfl⟩)
        | (go_at_call 240; with_reducible refine Calls.mono C2 ?_; rintro e w1 ⟨rfl, rfl⟩))
      go_ret2
      exact ⟨X, Y, rfl, rfl, HV.out⟩
    · rcases (by omega : m < low ∨ m = low ∨ low < m) with h3 | rfl | h3
      · have C2 := fun x cc (hc : cc ≤ 9223372036854775807) => nat_small _ _ _ _ w (IsWords.no w x cc hc) wd_nil (by simp [val])
        have e0 : ys.drop low = [] := List.drop_eq_nil_of_le (by omega)
        rw [e0] at H0 HL
        have HV : Hid (val (xs.drop low) < 18446744073709551616 ∧ (val ([] : List Int)) ≤ val (xs.drop low) ∧ Heads (val (xs.drop low)) (val ([] : List Int)) (val xs) (val ys)) := ⟨v1, HL, H0⟩
        clear k v1 HL H0 kl hle hl e0
        generalize val (xs.drop low) = X at C1 HV
        generalize val ([] : List Int) = Y at C2 HV
        rcases (by omega : d - m = 0 ∨ d - m ≠ 0) with h4 | h4
        case' inl => have C2 := C2 ⟨gb, 0, none⟩ 0 (by omega)
        case' inr => have C2 := C2 ⟨gb, m, none⟩ (d - m) (by omega)
        all_goals
          go_enter Tryz.func226, Tryz.ntmps226
          go_wp2_with (first
            | (go_at_call 240; with_reducible refine Calls.mono C1 ?_; rintro e w1 ⟨rfl, rfl⟩)
            | (go_at_call 240; with_reducible refine Calls.mono C2 ?_; rintro e w1 ⟨rfl, rfl⟩))
          go_ret2
          exact ⟨X, Y, rfl, rfl, HV.out⟩
      · have C2 := fun x cc (hc : cc ≤ 9223372036854775807) => nat_small _ _ _ _ w (IsWords.no w x cc hc) wd_nil (by simp [val])
        have e0 : ys.drop m = [] := List.drop_eq_nil_of_le (by omega)
        rw [e0] at H0 HL
        have HV : Hid (val (xs.drop m) < 18446744073709551616 ∧ (val ([] : List Int)) ≤ val (xs.drop m) ∧ Heads (val (xs.drop m)) (val ([] : List Int)) (val xs) (val ys)) := ⟨v1, HL, H0⟩
        clear k v1 HL H0 kl hle hl e0
        generalize val (xs.drop m) = X at C1 HV
        generalize val ([] : List Int) = Y at C2 HV
        rcases (by omega : d - m = 0 ∨ d - m ≠ 0) with h4 | h4
        case' inl => have C2 := C2 ⟨gb, 0, none⟩ 0 (by omega)
        case' inr => have C2 := C2 ⟨gb, m, none⟩ (d - m) (by omega)
        all_goals
          go_enter Tryz.func226, Tryz.ntmps226
          go_wp2_with (first
            | (go_at_call 240; with_reducible refine Calls.mono C1 ?_; rintro e w1 ⟨rfl, rfl⟩)
            | (go_at_call 240; with_reducible refine Calls.mono C2 ?_; rintro e w1 ⟨rfl, rfl⟩))
          go_ret2
          exact ⟨X, Y, rfl, rfl, HV.out⟩
      · have D2 := k.drop low (by omega) rfl
        simp only [Nat.zero_add] at D2
        have C2 := nat_small _ _ _ _ w D2 (wd_drop hy low) (by omega)
        have HV : Hid (val (xs.drop low) < 18446744073709551616 ∧ val (ys.drop low) ≤ val (xs.drop low) ∧ Heads (val (xs.drop low)) (val (ys.drop low)) (val xs) (val ys)) := ⟨v1, HL, H0⟩
        have h4 : d - low ≠ 0 := by omega
        clear k v1 HL H0 kl hle hl D2
        generalize val (xs.drop low) = X at C1 HV
        generalize val (ys.drop low) = Y at C2 HV
        go_enter Tryz.func226, Tryz.ntmps226
        go_wp2_with (first
          | (go_at_call 240; with_reducible refine Calls.mono C1 ?_; rintro e w1 ⟨rfl, rfl⟩)
          | (go_at_call 240; with_reducible refine Calls.mono C2 ?_; rintro e w1 ⟨rfl, rfl⟩))
        go_ret2
        exact ⟨X, Y, rfl, rfl, HV.out⟩
theorem one_words {xs : List Int} {n : Nat} {p : Int} (hx : Wd xs) (hl : xs.length = n) (p0 : 0 ≤ p) (p1 : p < 4294967296) : nl (val xs * p.toNat + (0 : Int).toNat) ≤ n + 1 := by
  refine nl_le _ _ ?_
  have h1 := val_lt xs hx
  rw [hl] at h1
  rw [Nat.pow_succ]
  exact Nat.mul_lt_mul_of_lt_of_le h1 (by omega) (by omega)
theorem wrap_u32 {z : Int} (h0 : 0 ≤ z) (h1 : z < 4294967296) : IntKind.u32.wrap z = z := by
  simp [IntKind.wrap, IntKind.bits, IntKind.signed]; omega
set_option maxHeartbeats 4000000 in
theorem common_of (p q : Int) (a : Option Addr) (n c : Nat) (xs : List Int) (b : Option Addr) (m d : Nat) (ys : List Int) (w : World) (h : IsWords w (.slice a n c) xs) (hx : Wd xs) (k : IsWords w (.slice b m d) ys) (hy : Wd ys)
    (hn : n ≤ 100000000000) (hm : m ≤ 100000000000) (p0 : 0 ≤ p) (p1 : p < 4294967296) (q0 : 0 ≤ q) (q1 : q < 4294967296) (N : Nat) (hN : (p * val xs - q * val ys).natAbs = N) :
    Calls Tryz.prog 227 #[.agg #[.int .u64 p, .int .u64 q], .slice a n c, .slice b m d] w (Ans w N) := by
  have T1 := fun v (hb : Below w.heap.size w v) => times_one' (h.below hb) hx (by omega) p0 p1 (show (0 : Int) ≤ 0 by omega) (by omega) _ rfl
  have T2 := fun v (hb : Below w.heap.size w v) => times_one' (k.below hb) hy (by omega) q0 q1 (show (0 : Int) ≤ 0 by omega) (by omega) _ rfl
  have hl := h.len
  have kl := k.len
  have l1 : nl (val xs * p.toNat + (0 : Int).toNat) ≤ n + 1 := one_words hx hl p0 p1
  have l2 : nl (val ys * q.toNat + (0 : Int).toNat) ≤ m + 1 := one_words hy kl q0 q1
  have e1 : p * val xs = ((val xs * p.toNat + (0 : Int).toNat : Nat) : Int) := by simp [Int.toNat_of_nonneg p0, Int.mul_comm]
  have e2 : q * val ys = ((val ys * q.toNat + (0 : Int).toNat : Nat) : Int) := by simp [Int.toNat_of_nonneg q0, Int.mul_comm]
  rw [e1, e2] at hN
  unfold Ans at T1 T2
  generalize val xs * p.toNat + (0 : Int).toNat = A at T1 l1 hN
  generalize val ys * q.toNat + (0 : Int).toNat = B at T2 l2 hN
  clear e1 e2 hl kl
  have wp := wrap_u32 p0 p1
  have wq := wrap_u32 q0 q1
  have bx := Box.new w p q
  have B0 : Below w.heap.size w (w.alloc (.cells #[.int .u64 p, .int .u64 q] 234)).drew := ((Below.refl _ _).alloc (Nat.le_refl _) _).drew
  clear h k
  go_enter Tryz.func227, Tryz.ntmps227
  go_wp2
  generalize w.alloc (.cells #[.int .u64 p, .int .u64 q] 234) = W0 at *
  obtain ⟨c1, c2, f1, f2⟩ := bx.drew.cells
  go_region_with (first
    | (go_at_call 175; (with_reducible refine Calls.mono (T1 W0.drew B0) ?_); rintro e w1 ⟨a1, k1, rfl, o1⟩; have B1 := below_more B0 o1.below; obtain ⟨d1, d2, g1, g2⟩ := (bx.drew.more o1.below).cells)
    | (go_at_call 175; (with_reducible refine Calls.mono (T2 W0.drew B0) ?_); rintro e w1 ⟨a2, k2, rfl, o2⟩; have B1 := below_more B0 o2.below; obtain ⟨d1, d2, g1, g2⟩ := (bx.drew.more o2.below).cells)
    | (go_at_call 175; (with_reducible refine Calls.mono (T2 w1 B1) ?_); rintro e w2 ⟨a2, k2, rfl, o2⟩; have o1 := o1.more o2.below; have B2 := below_more B1 o2.below)
    | (go_at_call 175; (with_reducible refine Calls.mono (T1 w1 B1) ?_); rintro e w2 ⟨a1, k1, rfl, o1⟩; have o2 := o2.more o1.below; have B2 := below_more B1 o1.below))
  all_goals
    clear T1 T2 c1 c2 f1 f2 d1 d2 g1 g2 wp wq bx
    have P1 := o1.words
    have P2 := o2.words
    have HB : Hid (Below w.heap.size w _) := B2
    clear B0 B1 B2 o1 o2
    rcases Nat.lt_or_ge A B with hlt | hge
    · have C := nat_cmp' P1 (wd_natOf A) P2 (wd_natOf B) (-1) (by rw [val_natOf, val_natOf]; exact sgn_lt (by omega))
      have S := fun v (z1 : IsWords v (.slice a1 (nl A) k1) (natOf A)) (z2 : IsWords v (.slice a2 (nl B) k2) (natOf B)) => nat_sub' z2 (wd_natOf B) z1 (wd_natOf A) (by omega) N (by rw [val_natOf, val_natOf]; omega)
      clear hN hlt l1 l2
      go_wp2_with (first
        | (go_at_call 166; (with_reducible refine Calls.mono C ?_); rintro e w3 ⟨rfl, b3⟩)
        | (go_at_call 241; (with_reducible refine Calls.mono (S _ (P1.below b3) (P2.below b3)) ?_); rintro e w4 ⟨a4, k4, rfl, o4⟩))
      go_ret
      exact ⟨_, _, rfl, o4.outer (below_more HB.out b3)⟩
    · obtain ⟨cs, C, hcs⟩ : ∃ cs : Int, Calls Tryz.prog 166 #[.slice a1 (nl A) k1, .slice a2 (nl B) k2] _ (fun e w' => e = .returned (.int .i64 cs) ∧ Below _ _ w') ∧ 0 ≤ cs := by
        refine ⟨_, nat_cmp' P1 (wd_natOf A) P2 (wd_natOf B) _ rfl, ?_⟩
        rw [val_natOf, val_natOf]
        rcases Nat.lt_or_ge B A with h | h
        · rw [sgn_gt (by omega)]; omega
        · rw [sgn_eq (by omega)]; omega
      have S := fun v (z1 : IsWords v (.slice a1 (nl A) k1) (natOf A)) (z2 : IsWords v (.slice a2 (nl B) k2) (natOf B)) => nat_sub' z1 (wd_natOf A) z2 (wd_natOf B) (by omega) N (by rw [val_natOf, val_natOf]; omega)
      clear hN hge l1 l2
      go_wp2_with (first
        | (go_at_call 166; (with_reducible refine Calls.mono C ?_); rintro e w3 ⟨rfl, b3⟩)
        | (go_at_call 241; (with_reducible refine Calls.mono (S _ (P1.below b3) (P2.below b3)) ?_); rintro e w4 ⟨a4, k4, rfl, o4⟩))
      go_ret
      exact ⟨_, _, rfl, o4.outer (below_more HB.out b3)⟩
end Go.Proofs.YtbcfplaalepnbaaGreatDoor
namespace Go.Proofs.YtbcfplaalepnbaaGreatDoor
open Go.RowKit
def Row (n₀ : Nat) (w : World) (v : Value) (n : Nat) (xs : List Int) : Prop := w.ownsRow n₀ 84 1 v n (xs.map (Value.int .u32))
theorem Own.row {W w : World} {v : Value} {n : Nat} {xs : List Int} (h : Own W w v n xs) {n₀ : Nat} (hn : n₀ ≤ W.heap.size) : Row n₀ w v n xs := by
  refine ⟨h.1.1, ?_⟩
  rcases h.1.2 with h0 | ⟨g, cap, cur, e, h1, h2⟩
  · exact .inl h0
  · exact .inr ⟨g, cap, cur, e, Nat.le_trans hn h1, h2⟩
theorem Row.own {W w : World} {v : Value} {n : Nat} {xs : List Int} {n₀ : Nat} (h : Row n₀ w v n xs) (hn : W.heap.size ≤ n₀) (hb : Below W.heap.size W w) : Own W w v n xs := by
  refine ⟨⟨h.1, ?_⟩, hb⟩
  rcases h.2 with h0 | ⟨g, cap, cur, e, h1, h2⟩
  · exact .inl h0
  · exact .inr ⟨g, cap, cur, e, Nat.le_trans hn h1, h2⟩
theorem Row.words {w : World} {v : Value} {n : Nat} {xs : List Int} {n₀ : Nat} (h : Row n₀ w v n xs) : IsWords w v xs := by
  have hl : xs.length = n := by have := h.1; simpa using this
  rcases h.2 with ⟨rfl, rfl⟩ | ⟨g, cap, cur, rfl, -, hg, hnc, hcm, -, -⟩
  · exact .inl ⟨rfl, List.eq_nil_of_length_eq_zero hl⟩
  · refine .inr ⟨⟨g, 0, none⟩, cap, by rw [hl], by omega, hcm, fun i hi => ?_⟩
    refine World.ownsRow.cells h (g := g) rfl i _ ?_
    simp [hi]
theorem Row.addr {w : World} {a : Option Addr} {n c m : Nat} {xs : List Int} {n₀ : Nat} (h : Row n₀ w (.slice a n c) m xs) : a = none ∨ ∃ g, a = some ⟨g, 0, none⟩ := by
  rcases h.2 with ⟨e, -⟩ | ⟨g, cap, cur, e, -⟩
  · simp only [Value.slice.injEq] at e; exact .inl e.1
  · simp only [Value.slice.injEq] at e; exact .inr ⟨g, e.1⟩
theorem Row.more {w w' : World} {v : Value} {n : Nat} {xs : List Int} {n₀ : Nat} (h : Row n₀ w v n xs) (hb : Below w.heap.size w w') : Row n₀ w' v n xs := by
  refine ⟨h.1, ?_⟩
  rcases h.2 with h0 | ⟨g, cap, cur, e, h1, hg, h2⟩
  · exact .inl h0
  · refine .inr ⟨g, cap, cur, e, h1, ?_, h2⟩
    rw [hb.block g (Array.getElem?_eq_some_iff.1 hg).1]; exact hg
theorem Row.keep {w w' : World} {v : Value} {n : Nat} {xs : List Int} {n₀ : Nat} (h : Row n₀ w v n xs) (hb : ∀ k, n₀ ≤ k → w'.heap[k]? = w.heap[k]?) : Row n₀ w' v n xs := by
  refine ⟨h.1, ?_⟩
  rcases h.2 with h0 | ⟨g, cap, cur, e, h1, hg, h2⟩
  · exact .inl h0
  · exact .inr ⟨g, cap, cur, e, h1, (hb g h1).trans hg, h2⟩
theorem Row.nil (n₀ : Nat) (w : World) : Row n₀ w (.slice none (nl 0) 0) (nl 0) (natOf 0) := by
  rw [nl_zero, natOf_zero]; exact World.ownsRow_nil _ _ _ _
theorem Row.grown {w w' : World} {v : Value} {n : Nat} {xs : List Int} {n₀ : Nat} (h : Row n₀ w v n xs) {row : Option Nat} (hg : w.grownBy w' row) (hr : ∀ k, row = some k → k < n₀) : Row n₀ w' v n xs := by
  refine ⟨h.1, ?_⟩
  rcases h.2 with h0 | ⟨g, cap, cur, e, h1, hb, h2⟩
  · exact .inl h0
  · refine .inr ⟨g, cap, cur, e, h1, ?_, h2⟩
    rw [hg.block g (Array.getElem?_eq_some_iff.1 hb).1 (fun e1 => by have := hr g e1.symm; omega)]; exact hb
theorem Own.row_lt {W w : World} {v : Value} {n : Nat} {xs : List Int} (h : Own W w v n xs) (k : Nat) (hk : v.ownBlock = some k) : k < w.heap.size := (h.1.lt k hk).2
end Go.Proofs.YtbcfplaalepnbaaGreatDoor
namespace Go.Proofs.YtbcfplaalepnbaaGreatDoor
open Go.RowKit
def Later (A B u v : Nat) : Prop := v ≤ u ∧ u ≤ A ∧ u + v < A + B ∧ (0 < B → Nat.gcd u v = Nat.gcd A B ∧ 0 < u) ∧ (B = 0 → u = 0)
theorem later_rest {A B : Nat} (hA : 0 < A) (hB : B ≤ A) : Later A B B (rest A B) := by
  unfold rest
  rcases Nat.eq_zero_or_pos B with rfl | h
  · exact ⟨by simp, by omega, by simp; omega, by omega, by omega⟩
  · rw [if_neg (by omega)]
    have := Nat.mod_lt A h
    refine ⟨by omega, by omega, by omega, fun _ => ⟨?_, h⟩, by omega⟩
    rw [Nat.gcd_comm A B, Nat.gcd_rec B A, Nat.gcd_comm]
theorem later_leapt {X Y p q r t : Int} {A B : Nat} (h : Leapt X Y p q r t) (hh : Heads X Y A B) (hB : B ≤ A) : Later A B (p * A - q * B).natAbs (r * A - t * B).natAbs := by
  obtain ⟨h1, h2, h3⟩ := h.2.2.2.2 A B hh
  exact ⟨by omega, by omega, by omega, fun _ => ⟨h1, by omega⟩, by omega⟩
set_option maxHeartbeats 4000000 in
theorem common_later (n₀ A B : Nat) (a : Option Addr) (c : Nat) (b : Option Addr) (d : Nat) (w : World) (h : Row n₀ w (.slice a (nl A) c) (nl A) (natOf A)) (k : Row n₀ w (.slice b (nl B) d) (nl B) (natOf B)) (hn : n₀ ≤ w.heap.size) (hA : 0 < A) (hB : B ≤ A) (hL : nl A ≤ 10000000000) :
    Calls Tryz.prog 207 #[.slice a (nl A) c, .slice b (nl B) d] w fun e w' => ∃ u v a1 c1 a2 c2, e = .returned (.tuple #[.slice a1 (nl u) c1, .slice a2 (nl v) c2]) ∧ Row n₀ w' (.slice a1 (nl u) c1) (nl u) (natOf u) ∧ Row n₀ w' (.slice a2 (nl v) c2) (nl v) (natOf v) ∧ Below w.heap.size w w' ∧ Later A B u v := by
  have P := h.words
  have Q := k.words
  have hm := nl_mono hB
  have hp := nl_pos hA
  obtain ⟨g, rfl⟩ : ∃ g, a = some ⟨g, 0, none⟩ := by
    rcases h.addr with rfl | h0
    · have := P.none.1; omega
    · exact h0
  have HC := common_heads g (nl A) c (natOf A) b (nl B) d (natOf B) w P (wd_natOf A) Q (wd_natOf B) k.addr hm (by rw [val_natOf, val_natOf]; exact hB) (by omega)
  rw [val_natOf, val_natOf] at HC
  have LC := fun (X Y : Nat) (h1 : X < 18446744073709551616) (h2 : Y ≤ X) => common_leap X Y w (by omega) (by omega) (by omega)
  have DV := fun v (hb : Below w.heap.size w v) => split_div_any (P.below hb) (wd_natOf A) (Q.below hb) (wd_natOf B) (by omega) A B (val_natOf A) (val_natOf B)
  have OF := fun (x y : Int) v (hb : Below w.heap.size w v) (x0 : 0 ≤ x) (x1 : x < 4294967296) (y0 : 0 ≤ y) (y1 : y < 4294967296) => common_of x y _ _ _ _ _ _ _ _ v (P.below hb) (wd_natOf A) (Q.below hb) (wd_natOf B) (by omega) (by omega) x0 x1 y0 y1 _ rfl
  rw [val_natOf, val_natOf] at OF
  have HK : Hid (Row n₀ w (.slice b (nl B) d) (nl B) (natOf B)) := k
  have HA : Hid (0 < A ∧ B ≤ A ∧ n₀ ≤ w.heap.size) := ⟨hA, hB, hn⟩
  unfold AnsDivB at DV
  unfold Ans at OF
  clear h k P Q hA hB hn hL hm hp
  go_enter Tryz.func207, Tryz.ntmps207
  go_wp2_with (first
    | (go_at_call 226; (with_reducible refine Calls.mono HC ?_); rintro e w1 ⟨X, Y, rfl, rfl, x1, yx, hh⟩)
    | (go_at_call 225; (with_reducible refine Calls.mono (LC X Y x1 yx) ?_); rintro e w2 ⟨p, q, r, t, rfl, B2, hr⟩)
    | fail)
  all_goals
    have bx1 := (Box.new w2 p q).alloc (.cells #[.int .u64 r, .int .u64 t] 234)
    have bx2 := Box.new (w2.alloc (.cells #[.int .u64 p, .int .u64 q] 234)) r t
    have B3 : Below w.heap.size w ((w2.alloc (.cells #[.int .u64 p, .int .u64 q] 234)).alloc (.cells #[.int .u64 r, .int .u64 t] 234)) := (B2.alloc B2.size _).alloc (by have := B2.size; simp; omega) _
    have ez : (w2.alloc (.cells #[.int .u64 p, .int .u64 q] 234)).heap.size = w2.heap.size + 1 := by simp
    rw [ez] at bx2
    generalize (w2.alloc (.cells #[.int .u64 p, .int .u64 q] 234)).alloc (.cells #[.int .u64 r, .int .u64 t] 234) = W3 at *
    clear ez
  · clear bx1 bx2 OF HC LC hr hh x1 yx
    go_wp2_with (first
      | (go_at_call 213; (with_reducible refine Calls.mono (DV W3 B3) ?_); rintro e w4 ⟨a4, c4, a5, c5, rfl, o4, o5⟩))
    go_ret2
    obtain ⟨hA, hB, hn⟩ := HA.out
    exact ⟨B, rest A B, b, d, a5, c5, rfl, (HK.out.more B3).more o5.below, o5.row (Nat.le_trans hn B3.size), below_more B3 o5.below, later_rest hA hB⟩
  · have h0 : (r == 0) = false := ‹_›
    have L := hr.resolve_left (by simpa using h0)
    obtain ⟨hA, hB, hn⟩ := HA.out
    have HL : Hid (Later A B (p * A - q * B).natAbs (r * A - t * B).natAbs) := later_leapt L hh hB
    have hn3 := Nat.le_trans hn B3.size
    obtain ⟨⟨p0, p1⟩, ⟨q0, q1⟩, ⟨r0, r1⟩, ⟨t0, t1⟩, -⟩ := L
    have O1 := fun v hb => OF p q v hb p0 p1 q0 q1
    have O2 := fun v hb => OF r t v hb r0 r1 t0 t1
    clear OF DV HC LC hr hh x1 yx HA HK hA hB hn
    generalize (p * A - q * B).natAbs = u at O1 HL
    generalize (r * A - t * B).natAbs = v at O2 HL
    have B4 := B3.drew
    obtain ⟨c1, c2, f1, f2⟩ := bx1.drew.cells
    obtain ⟨c3, c4, f3, f4⟩ := bx2.drew.cells
    go_region_with (first
      | (go_at_call 227; (with_reducible refine Calls.mono (O1 W3.drew B4) ?_); rintro e w4 ⟨a1, k1, rfl, o1⟩; have o1' := o1.row hn3; have B5 := below_more B4 o1.below; obtain ⟨d1, d2, g1, g2⟩ := (bx1.drew.more o1.below).cells; obtain ⟨d3, d4, g3, g4⟩ := (bx2.drew.more o1.below).cells)
      | (go_at_call 227; (with_reducible refine Calls.mono (O2 W3.drew B4) ?_); rintro e w4 ⟨a2, k2, rfl, o2⟩; have o2' := o2.row hn3; have B5 := below_more B4 o2.below; obtain ⟨d1, d2, g1, g2⟩ := (bx1.drew.more o2.below).cells; obtain ⟨d3, d4, g3, g4⟩ := (bx2.drew.more o2.below).cells)
      | (go_at_call 227; (with_reducible refine Calls.mono (O2 w4 B5) ?_); rintro e w5 ⟨a2, k2, rfl, o2⟩; have o1' := o1'.more o2.below; have o2' := o2.row (Nat.le_trans hn3 o1.below.size); have B6 := below_more B5 o2.below)
      | (go_at_call 227; (with_reducible refine Calls.mono (O1 w4 B5) ?_); rintro e w5 ⟨a1, k1, rfl, o1⟩; have o2' := o2'.more o1.below; have o1' := o1.row (Nat.le_trans hn3 o2.below.size); have B6 := below_more B5 o1.below))
    all_goals
      go_wp2
      go_ret2
      exact ⟨u, v, a1, k1, a2, k2, rfl, o1', o2', B6, HL.out⟩
end Go.Proofs.YtbcfplaalepnbaaGreatDoor
namespace Go.Proofs.YtbcfplaalepnbaaGreatDoor
open Go.RowKit Go.Shelf
attribute [local go_sem] Oper.semAt_some
theorem cell_below {w w' : World} {p : Addr} {v : Value} (h : w.cell? p = some v) (hb : Below w.heap.size w w') : w'.cell? p = some v := (hb.cell (World.block_lt_of_cell? w _ h)).trans h
abbrev Sl := Option Addr × Nat × Nat
def LeftsAt (n₀ G : Nat) (J : Sl → World → Prop) (g : Nat) (v4 v5 : Value) (w : World) : Prop :=
  ∃ (A B : Nat) (a : Option Addr) (c : Nat) (b : Option Addr) (d : Nat) (u : Sl), v4 = .slice a (nl A) c ∧ v5 = .slice b (nl B) d ∧ Row n₀ w (.slice a (nl A) c) (nl A) (natOf A) ∧ Row n₀ w (.slice b (nl B) d) (nl B) (natOf B) ∧ n₀ ≤ w.heap.size ∧
    B ≤ A ∧ nl A ≤ 10000000000 ∧ g = A + B ∧ J u w ∧ (0 < A ∧ Nat.gcd A B = G ∨ A = 0 ∧ ∃ a' c', u = (a', nl G, c') ∧ Row n₀ w (.slice a' (nl G) c') (nl G) (natOf G))
theorem LeftsAt.start {n₀ G A B : Nat} {J : Sl → World → Prop} {w : World} {a : Option Addr} {c : Nat} {b : Option Addr} {d : Nat} (h : Row n₀ w (.slice a (nl A) c) (nl A) (natOf A)) (k : Row n₀ w (.slice b (nl B) d) (nl B) (natOf B)) (hn : n₀ ≤ w.heap.size) (hB : B ≤ A) (hA : nl A ≤ 1000000000)
    (hJ : J (none, 0, 0) w) (hG : Nat.gcd A B = G) : LeftsAt n₀ G J (A + B) (.slice a (nl A) c) (.slice b (nl B) d) w := by
  refine ⟨A, B, a, c, b, d, _, rfl, rfl, h, k, hn, hB, by omega, rfl, hJ, ?_⟩
  rcases Nat.eq_zero_or_pos A with h0 | h0
  · obtain rfl : B = 0 := by omega
    subst h0
    have e : G = 0 := by rw [← hG]; rfl
    subst e
    exact .inr ⟨rfl, none, 0, by rw [nl_zero], by have := Row.nil n₀ w; rw [nl_zero] at this; rw [nl_zero]; exact this⟩
  · exact .inl ⟨h0, hG⟩
set_option maxHeartbeats 4000000 in
theorem common_lefts1 (n l n₀ Ba Bb : Nat) (hn : 1 ≤ n) (J : Sl → World → Prop) (hJ : ∀ v W W', J v W → Below W.heap.size W W' → J v W')
    (hY : ∀ u x m c W1, J u W1 → YieldAt Fence.wide (n - 1) Tryz.prog l #[.slice x m c] W1 fun e W' => e = .returned (.bool true) ∧ J (x, m, c) W' ∧ W'.heap.size = W1.heap.size ∧ ∀ k, n₀ ≤ k → W'.heap[k]? = W1.heap[k]?)
    (a : Option Addr) (m c : Nat) (xs : List Int) (b : Option Addr) (m' d : Nat) (ys : List Int) (W : World) (hW : W.heap.size = n₀) (ca : W.cell? ⟨Ba, 0, none⟩ = some (.slice a m c)) (cb : W.cell? ⟨Bb, 0, none⟩ = some (.slice b m' d))
    (h : IsWords W (.slice a m c) xs) (hx : Wd xs) (k : IsWords W (.slice b m' d) ys) (hy : Wd ys) (hm : m ≤ 1000000000) (hm' : m' ≤ 1000000000) (h0 : J (none, 0, 0) W) (G : Nat) (hG : Nat.gcd (val xs) (val ys) = G) :
    CallsIn Fence.wide n Tryz.prog 205 #[.func (.yield l) #[] #[], .pointer (some ⟨Ba, 0, none⟩), .pointer (some ⟨Bb, 0, none⟩)] W fun e W' => (∃ v, e = .returned v) ∧ ∃ a' c', J (a', nl G, c') W' ∧ Row n₀ W' (.slice a' (nl G) c') (nl G) (natOf G) := by
  have T1 := fun v (hb : Below W.heap.size W v) => nat_trim' (h.below hb) hx (by omega) _ rfl
  have T2 := fun v (hb : Below W.heap.size W v) => nat_trim' (k.below hb) hy (by omega) _ rfl
  unfold Ans at T1 T2
  have l1 := nl_small hx 1000000000 (by rw [h.len]; omega)
  have l2 := nl_small hy 1000000000 (by rw [k.len]; omega)
  generalize val xs = A at *
  generalize val ys = B at *
  have B0 : Below W.heap.size W W.drew := (Below.refl _ _).drew
  have ca0 : W.drew.cell? ⟨Ba, 0, none⟩ = some (.slice a m c) := ca
  have cb0 : W.drew.cell? ⟨Bb, 0, none⟩ = some (.slice b m' d) := cb
  have hmx : Tryz.prog.follows .mixedOrders = true := by kernel_rfl
  refine callsIn_of_wp Tryz.func205 rfl trivial ?_ rfl
  simp only [Tryz.ntmps205, List.size_toArray, List.length_cons, List.length_nil, Nat.reduceAdd, Nat.reduceSub, Array.replicate_succ, Array.replicate_zero, List.push_toArray, List.append_toArray, List.nil_append, List.cons_append]
  gi_wp2
  gi_region_with_o (first
    | (refine ⟨trivial, ?_⟩; gi_at_call 206; (with_reducible refine CallsIn.mono (callsIn_wide.2 (T1 W.drew B0)) ?_); rintro e w1 ⟨a1, k1, rfl, o1⟩; have B1 := below_more B0 o1.below; have ca1 := cell_below ca0 o1.below; have cb1 := cell_below cb0 o1.below)
    | (refine ⟨trivial, ?_⟩; gi_at_call 206; (with_reducible refine CallsIn.mono (callsIn_wide.2 (T2 W.drew B0)) ?_); rintro e w1 ⟨a2, k2, rfl, o2⟩; have B1 := below_more B0 o2.below; have ca1 := cell_below ca0 o2.below; have cb1 := cell_below cb0 o2.below)
    | (refine ⟨trivial, ?_⟩; gi_at_call 206; (with_reducible refine CallsIn.mono (callsIn_wide.2 (T2 w1 B1)) ?_); rintro e w2 ⟨a2, k2, rfl, o2⟩; have o1 := o1.more o2.below)
    | (refine ⟨trivial, ?_⟩; gi_at_call 206; (with_reducible refine CallsIn.mono (callsIn_wide.2 (T1 w1 B1)) ?_); rintro e w2 ⟨a1, k1, rfl, o1⟩; have o2 := o2.more o1.below))
  all_goals
    have R1 : Row n₀ w2 (.slice a1 (nl A) k1) (nl A) (natOf A) := by first | exact o1.row (Nat.le_of_eq hW.symm) | exact o1.row (hW ▸ B1.size)
    have R2 : Row n₀ w2 (.slice a2 (nl B) k2) (nl B) (natOf B) := by first | exact o2.row (Nat.le_of_eq hW.symm) | exact o2.row (hW ▸ B1.size)
    have J2 : J (none, 0, 0) w2 := by first | exact hJ _ _ _ h0 (below_more B1 o2.below) | exact hJ _ _ _ h0 (below_more B1 o1.below)
    have S2 : n₀ ≤ w2.heap.size := by first | exact hW ▸ (below_more B1 o2.below).size | exact hW ▸ (below_more B1 o1.below).size
    clear T1 T2 ca cb ca0 cb0 ca1 cb1 B0 B1 o1 o2 h k h0
    rcases Nat.lt_or_ge A B with hlt | hge
    case' inl =>
      obtain ⟨cs, C, hcs⟩ : ∃ cs : Int, Calls Tryz.prog 166 #[.slice a1 (nl A) k1, .slice a2 (nl B) k2] w2 (fun e w' => e = .returned (.int .i64 cs) ∧ Below w2.heap.size w2 w') ∧ cs < 0 :=
        ⟨-1, nat_cmp' R1.words (wd_natOf A) R2.words (wd_natOf B) (-1) (by rw [val_natOf, val_natOf]; exact sgn_lt (by omega)), by omega⟩
      have ST := fun v (hb : Below w2.heap.size w2 v) => LeftsAt.start (G := G) (R2.more hb) (R1.more hb) (Nat.le_trans S2 hb.size) (Nat.le_of_lt hlt) l2 (hJ _ _ _ J2 hb) (by rw [Nat.gcd_comm]; exact hG)
      rw [Nat.add_comm B A] at ST
      have hs : Hid (A < B) := hlt
    case' inr =>
      obtain ⟨cs, C, hcs⟩ : ∃ cs : Int, Calls Tryz.prog 166 #[.slice a1 (nl A) k1, .slice a2 (nl B) k2] w2 (fun e w' => e = .returned (.int .i64 cs) ∧ Below w2.heap.size w2 w') ∧ 0 ≤ cs := by
        refine ⟨_, nat_cmp' R1.words (wd_natOf A) R2.words (wd_natOf B) _ rfl, ?_⟩
        rw [val_natOf, val_natOf]
        rcases Nat.lt_or_ge B A with h | h
        · rw [sgn_gt (by omega)]; omega
        · rw [sgn_eq (by omega)]; omega
      have ST := fun v (hb : Below w2.heap.size w2 v) => LeftsAt.start (G := G) (R1.more hb) (R2.more hb) (Nat.le_trans S2 hb.size) hge l1 (hJ _ _ _ J2 hb) hG
      have hs : Hid (B ≤ A) := hge
    all_goals
      clear R1 R2 J2 S2 l1 l2 hG hW
      gi_wp2_with (first
        | (refine ⟨trivial, ?_⟩; gi_at_call 166; (with_reducible refine CallsIn.mono (callsIn_wide.2 C) ?_); rintro e w3 ⟨rfl, b3⟩))
      have ST := ST w3 b3
      gi_loopg [4, 5] (A + B) (fun g v4 v5 v => LeftsAt n₀ G J g v4 v5 v)
      case atStart => exact ST
      case round =>
        obtain ⟨A1, B1, x1, c1, y1, d1, u, rfl, rfl, r1, r2, hz, hBA, hL, hg, hu, hc⟩ := hrel
        clear ST C hcs hs
        rcases hc with ⟨hpos, hgc⟩ | ⟨h0, a', c', rfl, r3⟩
        · have hnl : 0 < nl A1 := nl_pos hpos
          obtain ⟨fn, tmps, assign, body, hy, hR⟩ := hY u x1 (nl A1) c1 wr hu
          gi_wp2
          refine hR.mono ?_
          rintro e W3 ⟨rfl, hJ3, hs3, hk3⟩
          have q1 := r1.keep hk3
          have q2 := r2.keep hk3
          have hz3 : n₀ ≤ W3.heap.size := by omega
          have LT := common_later n₀ A1 B1 x1 c1 y1 d1 W3 q1 q2 hz3 hpos hBA hL
          have HF : Hid (∀ (u v : Nat), Later A1 B1 u v → u + v < gk ∧ v ≤ u ∧ nl u ≤ 10000000000 ∧ ((0 < u ∧ Nat.gcd u v = G) ∨ (u = 0 ∧ A1 = G))) := fun u v hl => by
            obtain ⟨z1, z2, z3, z4, z5⟩ := hl
            refine ⟨by omega, z1, Nat.le_trans (nl_mono z2) hL, ?_⟩
            rcases Nat.eq_zero_or_pos B1 with e | e
            · subst e
              rw [Nat.gcd_zero_right] at hgc
              exact .inr ⟨z5 rfl, hgc⟩
            · obtain ⟨z6, z7⟩ := z4 e
              exact .inl ⟨z7, z6.trans hgc⟩
          clear r1 r2 hg hgc hu hY hy hR hk3 hs3 hL hz
          gi_wp2_with (first
            | (refine ⟨trivial, ?_⟩; gi_at_call 207; (with_reducible refine CallsIn.mono (callsIn_wide.2 LT) ?_); rintro e W4 ⟨u4, v4, a4, c4, a5, c5, rfl, r4, r5, b4, hl4⟩))
          obtain ⟨f1, f2, f3, f4⟩ := HF.out u4 v4 hl4
          gi_roundg (u4 + v4)
          case measure => exact f1
          case rel =>
            refine ⟨u4, v4, a4, c4, a5, c5, (x1, nl A1, c1), rfl, rfl, r4, r5, Nat.le_trans hz3 b4.size, f2, f3, rfl, hJ _ _ _ hJ3 b4, ?_⟩
            rcases f4 with f4 | ⟨f4, f5⟩
            · exact .inl f4
            · subst f5
              exact .inr ⟨f4, x1, c1, rfl, q1.more b4⟩
        · have e0 : nl A1 = 0 := by rw [h0]; exact nl_zero
          rw [e0]
          gi_wp2
          refine ⟨fun _ h => (by cases h), ?_⟩
          gi_wp2
          go_end0
          exact ⟨⟨_, rfl⟩, a', c', hu, r3⟩
end Go.Proofs.YtbcfplaalepnbaaGreatDoor
namespace Go.Proofs.YtbcfplaalepnbaaGreatDoor
open Go.RowKit
theorem below_put {B : Nat} {w W : World} (h : Below B w W) {r : Nat} (hr : B ≤ r) (o : Obj) : Below B w (W.putObj r o) :=
  h.trans ⟨rfl, rfl, rfl, by simp, fun k hk => World.putObj_heap_other (by omega)⟩
theorem wpIn_range_told {α : Type} (enc : α → Value) {F : Fence} {n : Nat} {P : Program} {g : Operand} {p : Tmp} {assign body : Code} {Q : Exit → Act → World → Prop} {a : Act} {w : World}
    (hro : F.round = none) (h1 : 1 ≤ n) {gf : Nat} {lb : Array Value} (hg : a.eval g = .func (.func gf) #[] lb) (hFg : F.fn gf) (eg : ∀ args w, (callFunc gf args).run P w = .ok (.enter gf args) w)
    (I S : α → World → Prop) (v0 : α) (h0 : I v0 w) (hIb : ∀ v A B, I v A → w.heap.size ≤ A.heap.size → Below A.heap.size A B → I v B) (hIp : ∀ v A r o, I v A → w.heap.size ≤ r → I v (A.putObj r o))
    (a₁ : α → Act)
    (hassign : ∀ l v W K, K (a₁ v) W → assign.wpIn (F.inRound l) (n - 1 - 1) P (Exit.then K (fun _ _ _ => False)) { tmps := a.tmps.setIfInBounds p (enc v), defers := [] } W)
    (hbody : ∀ l u v W, I u W → body.wpIn (F.inRound l) (n - 1 - 1) P (fun e _ W' => e = .normal ∧ I v W' ∧ W'.heap.size = W.heap.size ∧ ∀ k, w.heap.size ≤ k → W'.heap[k]? = W.heap[k]?) (a₁ v) W)
    (hseq : ∀ l (J : α → World → Prop) W, W.heap.size = w.heap.size + 2 → Below w.heap.size w W → (∀ v A B, J v A → Below A.heap.size A B → J v B) →
      (∀ u v A, J u A → YieldAt F (n - 1 - 1) P l #[enc v] A fun e B => e = .returned (.bool true) ∧ J v B ∧ B.heap.size = A.heap.size ∧ ∀ k, w.heap.size + 2 ≤ k → B.heap[k]? = A.heap[k]?) → J v0 W →
      CallsIn F (n - 1) P gf (#[.func (.yield l) #[] #[]] ++ lb) W fun e B => (∃ v, e = .returned v) ∧ ∃ v, J v B ∧ S v B)
    (hS : ∀ v A r o, S v A → r < w.heap.size + 2 → S v (A.putObj r o))
    (hdone : ∀ D v W, w.heap.size ≤ D → D < w.heap.size + 2 → I v W → S v W → W.heap[D]? = some (.deferred (some [])) → Q .normal { a with defers := { target := .collected D, args := #[] } :: a.defers } W) :
    (Code.rangeFunc g #[p] assign body).wpIn F n P Q a w := by
  refine wpIn_rangeFunc ?_
  intro fn hfn
  rw [hro]
  obtain ⟨R, hR⟩ : ∃ R : LoopState → Loop, R = fun st => { state := st, pending := none, fn, tmps := a.tmps, params := #[p], assign, body, defers := w.heap.size } := ⟨_, rfl⟩
  obtain ⟨V, hV⟩ : ∃ V, (w.alloc (.deferred (some []))).alloc (.loop (R .ready)) = V := ⟨_, rfl⟩
  have z1 : V.heap.size = w.heap.size + 2 := by rw [← hV]; simp
  have bV : Below w.heap.size w V := by rw [← hV]; exact ((Below.refl _ w).alloc (Nat.le_refl _) _).alloc (by simp) _
  have kL : V.heap[w.heap.size + 1]? = some (.loop (R .ready)) := by
    rw [← hV]; have := World.alloc_heap_new (w.alloc (.deferred (some []))) (.loop (R .ready)); rwa [World.size_alloc] at this
  have kD : V.heap[w.heap.size]? = some (.deferred (some [])) := by
    rw [← hV]; exact (Below.heap_alloc _ _ _ (by simp)).trans (World.alloc_heap_new w _)
  refine ⟨w.heap.size + 1, [{ target := .collected w.heap.size, args := #[] }], V, { target := .fn (.func gf) lb, args := #[.func (.yield (w.heap.size + 1)) #[] #[]] }, V, gf, #[.func (.yield (w.heap.size + 1)) #[] #[]] ++ lb, V, ?_, ?_, ?_, ?_, fun _ => h1, ?_⟩
  · rw [← hV, hR]; exact run_enterLoop_outer _ _ _ _ _
  · simp only [resolve, hg]; simp [go_sem]
  · intro f' hf'; simp [Target.leads] at hf'; subst hf'; exact hFg
  · simp [invoke, go_sem, eg]
  refine (hseq (w.heap.size + 1) (fun v A => I v A ∧ A.heap[w.heap.size + 1]? = some (.loop (R .ready)) ∧ A.heap[w.heap.size]? = some (.deferred (some []))) V z1 bV ?_ ?_ ⟨hIb _ _ _ h0 (Nat.le_refl _) bV, kL, kD⟩).mono ?_
  · rintro v A B ⟨i, l, d⟩ hb
    have lt := (Array.getElem?_eq_some_iff.1 l).1
    exact ⟨hIb v A B i (by omega) hb, (hb.block _ lt).trans l, (hb.block _ (by omega)).trans d⟩
  · rintro u v A ⟨i, l, d⟩
    have lt := (Array.getElem?_eq_some_iff.1 l).1
    have hy : (Instr.yield (w.heap.size + 1) #[enc v]).run P A = .ok (.round (w.heap.size + 1) fn (a.tmps.setIfInBounds p (enc v)) assign body) A := by
      have := run_yield (P := P) (args := #[enc v]) l (by rw [hR]; rfl)
      rw [hR] at this
      simpa using this
    refine ⟨fn, _, assign, body, hy, roundIn_of_wpIn hfn ?_⟩
    refine hassign _ v A _ ?_
    refine ⟨_, run_beginRound l (by rw [hR]), ?_⟩
    have l2 : (A.putObj (w.heap.size + 1) (.loop { R .ready with state := .busy })).heap[w.heap.size + 1]? = some (.loop { R .ready with state := .busy }) := World.putObj_heap_same lt
    refine wpIn_mono (hbody _ u v _ (hIp _ _ _ _ i (by omega))) ?_
    rintro e a3 B ⟨rfl, i3, z3, k3⟩
    have l3 := (k3 (w.heap.size + 1) (by omega)).trans l2
    have hend := run_endRound (P := P) none l3
    have d3 := (k3 w.heap.size (Nat.le_refl _)).trans ((World.putObj_heap_other (by omega)).trans d)
    have l4 := World.putObj_heap_same (o := .loop (R .ready)) (Array.getElem?_eq_some_iff.1 l3).1
    refine ⟨_, _, hend, rfl, ⟨hIp _ _ _ _ i3 (by omega), ?_, (World.putObj_heap_other (by omega)).trans d3⟩, by simpa using z3, fun k hk => ?_⟩
    · rw [hR] at l4 ⊢; exact l4
    · rw [World.putObj_heap_other (by omega), k3 k (by omega), World.putObj_heap_other (by omega)]
  · rintro e B ⟨⟨v, rfl⟩, u, ⟨i, l, d⟩, s⟩
    have lt := (Array.getElem?_eq_some_iff.1 l).1
    refine ⟨none, _, ?_, hdone w.heap.size u _ (Nat.le_refl _) (by omega) (hIp _ _ (w.heap.size + 1) (.loop { R .ready with state := .exhausted }) i (by omega)) (hS _ _ _ _ s (by omega)) ((World.putObj_heap_other (by omega)).trans d)⟩
    have := run_endLoop (P := P) l (by rw [hR]; simp)
    rw [hR] at this ⊢
    exact this
end Go.Proofs.YtbcfplaalepnbaaGreatDoor
namespace Go.Proofs.YtbcfplaalepnbaaGreatDoor
open Go.RowKit Go.Shelf
attribute [local go_sem] Oper.semAt_some
theorem common_lefts (n : Nat) (a : Option Addr) (m c : Nat) (b : Option Addr) (m' d : Nat) (w : World) :
    CallsIn Fence.wide n Tryz.prog 187 #[.slice a m c, .slice b m' d] w fun e w' => e = .returned (.func (.func 205) #[] #[.pointer (some ⟨w.heap.size, 0, none⟩), .pointer (some ⟨w.heap.size + 1, 0, none⟩)]) ∧
      w' = (w.alloc (.cells #[.slice a m c] 40)).alloc (.cells #[.slice b m' d] 40) := by
  refine callsIn_wide.2 ?_
  go_enter Tryz.func187, Tryz.ntmps187
  go_wp2
  go_ret
  exact ⟨by simp, rfl⟩
theorem new_block (v : World) (o : Obj) : (v.alloc o).heap[v.heap.size]? = some o := by show (v.heap.push o)[v.heap.size]? = _; simp
theorem one_cell {w : World} {k : Nat} {v : Value} {T : TypeId} (h : w.heap[k]? = some (.cells #[v] T (0, 0))) : w.cell? ⟨k, 0, none⟩ = some v ∧ w.frozen? ⟨k, 0, none⟩ = false := by
  simp [World.cell?, World.frozen?, h]
set_option maxHeartbeats 4000000 in
theorem common_gcd {a : Option Addr} {m c : Nat} {xs : List Int} {b : Option Addr} {m' d : Nat} {ys : List Int} {w : World} (h : IsWords w (.slice a m c) xs) (hx : Wd xs) (k : IsWords w (.slice b m' d) ys) (hy : Wd ys) (hm : m ≤ 1000000000) (hm' : m' ≤ 1000000000) (G : Nat) (hG : Nat.gcd (val xs) (val ys) = G) :
    Calls Tryz.prog 167 #[.slice a m c, .slice b m' d] w (Ans w G) := by
  refine (callsIn_wide (n := 3)).1 ?_
  refine callsIn_of_wp_marks Tryz.func167 rfl trivial ?_ rfl
  simp only [Tryz.ntmps167, List.size_toArray, List.length_cons, List.length_nil, Nat.reduceAdd, Nat.reduceSub, Array.replicate_succ, Array.replicate_zero, List.push_toArray, List.append_toArray, List.nil_append, List.cons_append]
  gi_wp2_with (refine ⟨trivial, ?_⟩; gi_at_call 187; refine (common_lefts _ _ _ _ _ _ _ _).mono ?_; rintro e w' ⟨rfl, rfl⟩)
  obtain ⟨V, hV⟩ : ∃ V, ((w.alloc (.cells #[.slice none 0 0] 40)).alloc (.cells #[.slice a m c] 40)).alloc (.cells #[.slice b m' d] 40) = V := ⟨_, rfl⟩
  have zV : V.heap.size = w.heap.size + 3 := by rw [← hV]; simp
  have bV : Below w.heap.size w V := by rw [← hV]; exact (((Below.refl _ w).alloc (Nat.le_refl _) _).alloc (by simp) _).alloc (by simp; omega) _
  have k0 : V.heap[w.heap.size]? = some (.cells #[.slice none 0 0] 40 (0, 0)) := by
    rw [← hV, Below.heap_alloc _ _ _ (by simp; omega), Below.heap_alloc _ _ _ (by simp)]; exact new_block w _
  have k1 : V.heap[w.heap.size + 1]? = some (.cells #[.slice a m c] 40 (0, 0)) := by
    rw [← hV, Below.heap_alloc _ _ _ (by simp)]
    have := new_block (w.alloc (.cells #[.slice none 0 0] 40)) (.cells #[.slice a m c] 40)
    rwa [World.size_alloc] at this
  have k2 : V.heap[w.heap.size + 1 + 1]? = some (.cells #[.slice b m' d] 40 (0, 0)) := by
    rw [← hV]
    have := new_block ((w.alloc (.cells #[.slice none 0 0] 40)).alloc (.cells #[.slice a m c] 40)) (.cells #[.slice b m' d] 40)
    rwa [World.size_alloc, World.size_alloc] at this
  rw [hV]
  clear hV
  refine wpIn_range_told (fun s : Sl => .slice s.1 s.2.1 s.2.2) rfl (by omega) (gf := 205) (lb := #[.pointer (some ⟨w.heap.size + 1, 0, none⟩), .pointer (some ⟨w.heap.size + 1 + 1, 0, none⟩)]) rfl trivial (enters_of Tryz.func205 (by kernel_rfl) rfl)
    (fun v W => W.cell? ⟨w.heap.size, 0, none⟩ = some (.slice v.1 v.2.1 v.2.2) ∧ W.frozen? ⟨w.heap.size, 0, none⟩ = false ∧ Below w.heap.size w W)
    (fun v W => ∃ a' c', v = (a', nl G, c') ∧ Row (w.heap.size + 5) W (.slice a' (nl G) c') (nl G) (natOf G))
    (none, 0, 0) ⟨(one_cell k0).1, (one_cell k0).2, bV⟩ ?_ ?_
    (fun v => { tmps := #[.slice a m c, .slice b m' d, undef, undef, .slice none 0 0, .pointer (some ⟨w.heap.size, 0, none⟩), .slice v.1 v.2.1 v.2.2, .slice a m c, .slice b m' d, .func (.func 205) #[] #[.pointer (some ⟨w.heap.size + 1, 0, none⟩), .pointer (some ⟨w.heap.size + 1 + 1, 0, none⟩)], .slice v.1 v.2.1 v.2.2, undef, undef], defers := [] })
    ?assign ?body ?seq ?_ ?done
  · rintro v A B ⟨i1, i2, i3⟩ hz hb
    exact ⟨(hb.cell (p := ⟨w.heap.size, 0, none⟩) (by simp; omega)).trans i1, (hb.frozen (p := ⟨w.heap.size, 0, none⟩) (by simp; omega)).trans i2, i3.trans (hb.mono (by omega))⟩
  · rintro v A r o ⟨i1, i2, i3⟩ hr
    have e : (A.putObj r o).heap[w.heap.size]? = A.heap[w.heap.size]? := World.putObj_heap_other (by omega)
    exact ⟨(World.cell?_of_block (w := A) e).trans i1, (World.frozen?_of_block (w := A) e).trans i2, below_put i3 (by omega) o⟩
  case assign =>
    intro l v W K hK
    gi_wp2
    exact hK
  case body =>
    rintro l u ⟨x, mx, cx⟩ W ⟨i1, i2, i3⟩
    dsimp only
    gi_wp2
    exact ⟨i3.setCell (p := ⟨w.heap.size, 0, none⟩) (Nat.le_refl _) _, fun k hk => Below.heap_setCell _ _ _ _ (by simp; omega)⟩
  case seq =>
    intro l J W hz hb hJ hY h0
    have b2 : Below w.heap.size w W := bV.trans (hb.mono (by omega))
    refine (common_lefts1 2 l (w.heap.size + 5) (w.heap.size + 1) (w.heap.size + 1 + 1) (by omega) J hJ (fun u x mx cx A hj => ?_) a m c xs b m' d ys W (by omega) ?_ ?_ (h.below b2) hx (k.below b2) hy hm hm' h0 G hG).mono ?_
    · have := hY u (x, mx, cx) A hj
      rw [zV] at this
      exact this
    · exact (one_cell ((hb.block _ (by omega)).trans k1)).1
    · exact (one_cell ((hb.block _ (by omega)).trans k2)).1
    · rintro e B ⟨hv, a', c', hj, hr⟩
      exact ⟨hv, _, hj, a', c', rfl, hr⟩
  · rintro v A r o ⟨a', c', rfl, hr⟩ hlt
    exact ⟨a', c', rfl, hr.keep fun k hk => World.putObj_heap_other (by omega)⟩
  case done =>
    rintro D v W hD1 hD2 ⟨i1, i2, i3⟩ ⟨a', c', rfl, hr⟩ hK
    gi_wp2
    refine ⟨by simp, .inl ⟨_, _, rfl, run_takeDeferred hK, ?_⟩⟩
    refine ⟨_, results_tmp rfl _ _ _, a', c', rfl, ?_⟩
    exact (hr.keep fun k hk => World.putObj_heap_other (by omega)).own (by omega) (below_put i3 (by omega) _)
end Go.Proofs.YtbcfplaalepnbaaGreatDoor
namespace Go.Proofs.YtbcfplaalepnbaaGreatDoor
open Go.RowKit
def low1 (A B : Nat) : Nat := if B = 0 then 0 else A / Nat.gcd A B
set_option maxHeartbeats 1000000 in
theorem common_apart {a : Option Addr} {m c : Nat} {xs : List Int} {b : Option Addr} {m' d : Nat} {ys : List Int} {w : World} (h : IsWords w (.slice a m c) xs) (hx : Wd xs) (k : IsWords w (.slice b m' d) ys) (hy : Wd ys) (hm : m ≤ 1000000000) (hm' : m' ≤ 1000000000) (r : Bool) (hr : decide (Nat.gcd (val xs) (val ys) = 1) = r) :
    Calls Tryz.prog 155 #[.slice a m c, .slice b m' d] w fun e w' => e = .returned (.bool r) ∧ Below w.heap.size w w' := by
  have G := common_gcd h hx k hy hm hm' _ rfl
  unfold Ans at G
  have hr2 : Nat.gcd (val xs) (val ys) = 1 ↔ r = true := by rw [← hr]; simp
  clear hr
  generalize Nat.gcd (val xs) (val ys) = g at G hr2
  have O := fun v => nat_of 1 v (by omega) (by omega)
  unfold Ans at O
  rw [show (1 : Int).toNat = 1 from rfl] at O
  have C := fun v a1 c1 a2 c2 (p : IsWords v (.slice a1 (nl g) c1) (natOf g)) (q : IsWords v (.slice a2 (nl 1) c2) (natOf 1)) => nat_cmp' p (wd_natOf g) q (wd_natOf 1) (sgn g 1) (by rw [val_natOf, val_natOf]; rfl)
  have hs : decide (sgn (g : Int) 1 = 0) = r := by
    rw [Bool.eq_iff_iff]
    simp only [decide_eq_true_eq]
    rw [← hr2]
    rcases Int.lt_trichotomy (g : Int) 1 with h | h | h
    · rw [sgn_lt h]; omega
    · rw [sgn_eq h]; omega
    · rw [sgn_gt h]; omega
  generalize sgn (g : Int) 1 = s at C hs
  generalize nl 1 = k1 at O C
  generalize natOf 1 = z1 at O C
  clear h k hx hy hm hm' hr2
  go_enter Tryz.func155, Tryz.ntmps155
  go_wp2_with (first
    | (go_at_call 167; (with_reducible refine Calls.mono G ?_); rintro e w1 ⟨a1, c1, rfl, o1⟩)
    | (go_at_call 168; (with_reducible refine Calls.mono (O w1) ?_); rintro e w2 ⟨a2, c2, rfl, o2⟩)
    | (go_at_call 166; (with_reducible refine Calls.mono (C w2 _ _ _ _ (o1.more o2.below).words o2.words) ?_); rintro e w3 ⟨rfl, b3⟩))
  go_ret
  exact ⟨ret_bool (by rw [← hs]; rw [Bool.eq_iff_iff]; simp), below_more (below_more o1.below o2.below) b3⟩
set_option maxHeartbeats 1000000 in
theorem common_lowest {a : Option Addr} {m c : Nat} {xs : List Int} {b : Option Addr} {m' d : Nat} {ys : List Int} {w : World} (h : IsWords w (.slice a m c) xs) (hx : Wd xs) (k : IsWords w (.slice b m' d) ys) (hy : Wd ys) (hm : m ≤ 1000000000) (hm' : m' ≤ 1000000000) (A B : Nat) (hA : val xs = A) (hB : val ys = B) :
    Calls Tryz.prog 190 #[.slice a m c, .slice b m' d] w (AnsDivB w (low1 A B) (B / Nat.gcd A B) (decide (0 < B))) := by
  have N := nat_bits' k hy (by omega) _ rfl
  rw [hB] at N
  rcases Nat.eq_zero_or_pos B with h0 | h0
  · subst h0
    rw [nbits_zero, show ((0 : Nat) : Int) = 0 from rfl] at N
    rw [show low1 A 0 = 0 from rfl, Nat.zero_div, show decide (0 < 0) = false from rfl]
    have E := nil_nl (Below.refl w.heap.size w)
    unfold AnsDivB
    rw [nl_zero] at E ⊢
    clear h k hx hy hm hm' hA hB
    go_enter Tryz.func190, Tryz.ntmps190
    go_wp2_with (go_at_call 171; (with_reducible refine Calls.mono N ?_); rintro e w1 ⟨rfl, rfl⟩)
    go_ret3
    exact ⟨_, _, _, _, rfl, E, E⟩
  · have hb0 : ((nbits B : Int) == 0) = false := by
      have := lt_nbits B
      have : nbits B ≠ 0 := fun e => by rw [e] at this; omega
      simp; omega
    have e1 : low1 A B = A / Nat.gcd A B := if_neg (by omega)
    rw [e1, show decide (0 < B) = true from decide_eq_true h0]
    have G := common_gcd h hx k hy hm hm' (Nat.gcd A B) (by rw [hA, hB])
    unfold Ans at G
    have hg : 0 < Nat.gcd A B := Nat.gcd_pos_of_pos_right _ h0
    have D1 := fun v g1 c1 (hb : Below w.heap.size w v) (hg : IsWords v (.slice g1 (nl (Nat.gcd A B)) c1) (natOf (Nat.gcd A B))) => split_div_any (h.below hb) hx hg (wd_natOf _) (by omega) A (Nat.gcd A B) hA (val_natOf _)
    have D2 := fun v g1 c1 (hb : Below w.heap.size w v) (hg : IsWords v (.slice g1 (nl (Nat.gcd A B)) c1) (natOf (Nat.gcd A B))) => split_div_any (k.below hb) hy hg (wd_natOf _) (by omega) B (Nat.gcd A B) hB (val_natOf _)
    unfold AnsDivB at D1 D2 ⊢
    generalize A / Nat.gcd A B = X at D1 ⊢
    generalize B / Nat.gcd A B = Y at D2 ⊢
    generalize rest A (Nat.gcd A B) = R1 at D1
    generalize rest B (Nat.gcd A B) = R2 at D2
    generalize decide (0 < Nat.gcd A B) = r at D1 D2
    generalize Nat.gcd A B = g at G D1 D2
    generalize (nbits B : Int) = nb at N hb0
    clear h k hx hy hm hm' hA hB hg e1 h0
    go_enter Tryz.func190, Tryz.ntmps190
    go_wp2_with (first
      | (go_at_call 171; (with_reducible refine Calls.mono N ?_); rintro e w1 ⟨rfl, rfl⟩)
      | (go_at_call 167; (with_reducible refine Calls.mono G ?_); rintro e w1 ⟨a1, c1, rfl, o1⟩)
      | (go_at_call 213; (with_reducible refine Calls.mono (D1 w1 _ _ o1.below o1.words) ?_); rintro e w2 ⟨a2, c2, a3, c3, rfl, o2, o3⟩)
      | (go_at_call 213; (with_reducible refine Calls.mono (D2 w2 _ _ (below_more o1.below o2.below) (o1.more o2.below).words) ?_); rintro e w3 ⟨a4, c4, a5, c5, rfl, o4, o5⟩))
    go_ret3
    exact ⟨_, _, _, _, rfl, (o2.more o4.below).outer o1.below, o4.outer (below_more o1.below o2.below)⟩
end Go.Proofs.YtbcfplaalepnbaaGreatDoor
namespace Go.Proofs.YtbcfplaalepnbaaGreatDoor
open Go.RowKit
theorem nl_shift (A k : Nat) : nl (A * 2 ^ k) ≤ nl A + k := by
  refine Nat.le_trans (nl_le (nl A + k) _ ?_) (Nat.le_refl _)
  rw [Nat.pow_add]
  exact Nat.mul_lt_mul_of_lt_of_le (lt_nl A) (Nat.pow_le_pow_left (by omega) k) (Nat.pow_pos (by omega))
set_option maxHeartbeats 2000000 in
/-- N is the number of bits that counts. -/
theorem ref_tshift (a : Option Addr) (m c : Nat) (zs : List Int) (s : Int) (w : World) (h : IsWords w (.slice a m c) zs) (hz : Wd zs) (hm : m ≤ 1000000) (N : Int) (hN : s ≤ 0 ∧ N = 0 ∨ 0 ≤ s ∧ s ≤ 100000 ∧ N = s) :
    Calls Tryz.prog 126 #[.slice a m c, .int .i64 s] w (Ans w (val zs * 2 ^ N.toNat)) := by
  have T := ref_trim a m c zs w h hz (by omega)
  have hL := (h.low hz).2.2
  clear h hz
  generalize val zs = A at *
  obtain ⟨E, hE1, hE2⟩ : ∃ E : Nat, (E : Int) ≤ N ∧ N ≤ E := ⟨N.toNat, by omega, by omega⟩
  have HE : Hid (N.toNat = E) := (by omega : N.toNat = E)
  have hs : s ≤ E ∧ (E = 0 ∨ (E : Int) ≤ s) ∧ E ≤ 100000 := by omega
  obtain ⟨hs1, hs2, hs3⟩ := hs
  rw [HE.out]
  clear hN hE1 hE2 HE
  go_enter Tryz.func126, Tryz.ntmps126
  go_wp2_with (first
    | (go_at_call 99; (with_reducible refine Calls.mono T ?_); rintro e w1 ⟨a1, c1, rfl, o1⟩))
  clear T
  go_loopw [5, 6] (fun s i v => ∃ (k : Nat) (oa : Option Addr) (ol oc : Nat) (P : List Int), k ≤ E ∧ i = .int .i64 k ∧ s = .slice oa ol oc ∧ Own w v (.slice oa ol oc) ol P ∧ ol = nl (A * 2 ^ k) ∧ P = natOf (A * 2 ^ k)) (fun _ i _ => E - (intOf i).toNat)
  case atStart => exact ⟨0, a1, _, c1, _, by omega, rfl, rfl, o1, by simp, by simp⟩
  case round =>
    obtain ⟨k, oa, ol, oc, P, hk, rfl, rfl, o, hol, rfl⟩ := hrel
    clear o1
    by_cases hlt : k < E
    · by_cases hA : A = 0
      · have h0 : ol = 0 := by rw [hol, hA]; simp [nl_zero]
        have HE : Hid (A * 2 ^ k = A * 2 ^ E) := by show _ = _; rw [hA]; simp
        rw [HE.out] at o hol
        have HO : Hid (ol = nl (A * 2 ^ E)) := hol
        clear hol hA
        have h1 : (k : Int) < s := by omega
        have h3 : (k : Int) < 100000 := by omega
        subst h0
        clear hs3 hs2 hs1 hlt hk hL
        go_wp2
        go_ret
        have e := HO.out
        exact ⟨oa, oc, by rw [← e]; rfl, by rw [← e]; exact o⟩
      · have h0 : 0 < ol := by rw [hol]; exact nl_pos (Nat.mul_pos (by omega) (Nat.pow_pos (by omega)))
        have W1 := nl_shift A k
        have M1 := ref_one _ _ _ _ 2 0 _ o.words (wd_natOf (A * 2 ^ k)) (by rw [hol]; omega) (by omega) (by omega) (by omega) (by omega)
        rw [val_natOf, show A * 2 ^ k * (2 : Int).toNat + (0 : Int).toNat = A * 2 ^ (k + 1) by rw [Nat.pow_succ, ← Nat.mul_assoc]; rfl] at M1
        have HO : Hid (ol = nl (A * 2 ^ k)) := hol
        have h1 : (k : Int) < s := by omega
        have h2 : ol ≤ 2000000 := by omega
        have h3 : (k : Int) < 100000 := by omega
        have h4 : k + 1 ≤ E := hlt
        clear hol hA W1 hs3 hs2 hs1 hk hL
        go_wp2_with (first
          | (go_at_call 127; (with_reducible refine Calls.mono M1 ?_); rintro e w3 ⟨a3, c3, rfl, o3⟩))
        go_roundw
        case rel => exact ⟨k + 1, a3, _, c3, _, by omega, by go_num, rfl, o3.outer o.below, rfl, rfl⟩
        case measure => simp [intOf]; omega
    · obtain rfl : k = E := by omega
      subst hol
      have h1 : ¬ (k : Int) < s := by omega
      go_wp2
      go_ret
      exact ⟨_, _, rfl, o⟩
end Go.Proofs.YtbcfplaalepnbaaGreatDoor
namespace Go.Proofs.YtbcfplaalepnbaaGreatDoor
open Go.RowKit
theorem natOf_low {A : Nat} (h : 0 < A) : (natOf A).getD 0 0 = ((A % 4294967296 : Nat) : Int) := by rw [natOf_pos (by omega)]; rfl
theorem half_step {A1 k A : Nat} (h : A1 * 2 ^ k = A) (he : A1 % 2 = 0) : A1 / 2 * 2 ^ (k + 1) = A := by
  have e : A1 = A1 / 2 * 2 := by omega
  rw [← h, Nat.pow_succ]
  conv => rhs; rw [e]
  rw [Nat.mul_assoc, Nat.mul_comm 2]
theorem twos_le {A1 k A : Nat} (h : A1 * 2 ^ k = A) (hA : 0 < A) : 0 < A1 ∧ k < nbits A + 1 := by
  have h1 : 0 < A1 := by
    rcases Nat.eq_zero_or_pos A1 with e | e
    · rw [e] at h; omega
    · exact e
  refine ⟨h1, ?_⟩
  rcases Nat.lt_or_ge (nbits A) k with h2 | h2
  · have h3 := lt_nbits A
    have h4 : 2 ^ nbits A ≤ 2 ^ k := Nat.pow_le_pow_right (by omega) (by omega)
    have h5 : 2 ^ k ≤ A1 * 2 ^ k := Nat.le_mul_of_pos_left _ h1
    omega
  · omega
theorem nbits_words (A : Nat) : nbits A ≤ 32 * nl A := nbits_le _ _ (by rw [← pow_word]; exact lt_nl A)
set_option maxHeartbeats 2000000 in
theorem ref_odd (W : World) (a : Option Addr) (c A : Nat) (w : World) (o : Own W w (.slice a (nl A) c) (nl A) (natOf A)) (hA : 0 < A) (hL : nl A ≤ 3000) :
    Calls Tryz.prog 123 #[.slice a (nl A) c] w fun e w' => ∃ (A1 k : Nat) (a1 : Option Addr) (c1 : Nat), e = .returned (.tuple #[.slice a1 (nl A1) c1, .int .i64 k]) ∧ Own W w' (.slice a1 (nl A1) c1) (nl A1) (natOf A1) ∧ Below w.heap.size w w' ∧ A1 * 2 ^ k = A ∧ A1 % 2 = 1 ∧ k ≤ 96000 := by
  have hN := nbits_words A
  have HT : Hid (∀ A1 k, A1 * 2 ^ k = A → 0 < A1 ∧ k ≤ 96000 ∧ nl A1 ≤ 3000) := fun A1 k h => by
    obtain ⟨h1, h2⟩ := twos_le h hA
    exact ⟨h1, by omega, Nat.le_trans (nl_mono (by rw [← h]; exact Nat.le_mul_of_pos_right _ (Nat.pow_pos (by omega)))) hL⟩
  clear hN
  go_enter Tryz.func123, Tryz.ntmps123
  go_wp2
  go_loopg [0, 4] A (fun A1 s0 s4 v => ∃ (k : Nat) (a1 : Option Addr) (c1 : Nat), s0 = .slice a1 (nl A1) c1 ∧ s4 = .int .i64 k ∧ Own W v (.slice a1 (nl A1) c1) (nl A1) (natOf A1) ∧ Below w.heap.size w v ∧ A1 * 2 ^ k = A)
  case atStart => exact ⟨0, a, c, rfl, rfl, o, Below.refl _ _, by simp⟩
  case round =>
    obtain ⟨k, a1, c1, rfl, rfl, o1, b1, hk⟩ := hrel
    clear o
    obtain ⟨p1, k1, l1⟩ := HT.out gk k hk
    have hnl : 0 < nl gk := nl_pos p1
    obtain ⟨g, rfl⟩ := o1.at0 hnl
    obtain ⟨hc, hf, -, -⟩ := o1.cell 0 hnl
    rw [natOf_low p1] at hc
    have S := fun v (q : IsWords v (.slice (some ⟨g, 0, none⟩) (nl gk) c1) (natOf gk)) => ref_small4 _ _ _ _ 2 v q (wd_natOf gk) (by omega) (by omega) (by omega)
    rw [val_natOf, show (2 : Int).toNat = 2 from rfl] at S
    unfold AnsSmall at S
    obtain ⟨z, hz, z0, z1, hz2⟩ : ∃ z : Int, ((gk % 4294967296 : Nat) : Int) = z ∧ 0 ≤ z ∧ z < 4294967296 ∧ z % 2 = ((gk % 2 : Nat) : Int) := ⟨_, rfl, by omega, by omega, by omega⟩
    rw [hz] at hc
    clear hz
    have HK : Hid (gk * 2 ^ k = A) := hk
    clear hk hA hL
    rcases (by omega : gk % 2 = 0 ∨ gk % 2 = 1) with he | he
    · rw [he, show ((0 : Nat) : Int) = 0 from rfl] at hz2
      have HE : Hid (gk % 2 = 0 ∧ 0 < gk) := ⟨he, p1⟩
      clear he p1 l1
      go_wp2_with (first
        | (go_at_call 100; (with_reducible refine Calls.mono (S wr o1.words) ?_); rintro e w2 ⟨a2, c2, rfl, o2⟩))
      obtain ⟨f1, f2⟩ := HE.out
      go_roundg (gk / 2)
      case measure => omega
      case rel => exact ⟨k + 1, a2, c2, rfl, by go_num, o2.outer o1.below, below_more b1 o2.below, half_step HK.out f1⟩
    · rw [he, show ((1 : Nat) : Int) = 1 from rfl] at hz2
      have HE : Hid (gk % 2 = 1) := he
      clear he p1 l1 S
      go_wp2
      go_ret2
      exact ⟨gk, k, some ⟨g, 0, none⟩, c1, rfl, o1, b1, HK.out, HE.out, k1⟩
end Go.Proofs.YtbcfplaalepnbaaGreatDoor
namespace Go.Proofs.YtbcfplaalepnbaaGreatDoor
open Go.RowKit
theorem odd_co {a : Nat} (h : a % 2 = 1) (j : Nat) : Nat.Coprime (2 ^ j) a := by
  refine (Nat.Coprime.pow_right j ?_).symm
  unfold Nat.Coprime; rw [Nat.gcd_comm, Nat.gcd_rec, h]; rfl
theorem gcd_twos {A1 B1 n k : Nat} (ha : A1 % 2 = 1) (h : n ≤ k) : Nat.gcd (A1 * 2 ^ n) (B1 * 2 ^ k) = Nat.gcd A1 B1 * 2 ^ n := by
  rw [show B1 * 2 ^ k = B1 * 2 ^ (k - n) * 2 ^ n by rw [Nat.mul_assoc, ← Nat.pow_add, Nat.sub_add_cancel h], Nat.gcd_mul_right, Nat.Coprime.gcd_mul_right_cancel_right _ (odd_co ha _)]
theorem gcd_down {X Y D j : Nat} (hD : D * 2 ^ j = X - Y) (h : Y ≤ X) (hy : Y % 2 = 1) : Nat.gcd D Y = Nat.gcd X Y := by
  rw [← Nat.gcd_sub_self_left h, ← hD, Nat.Coprime.gcd_mul_right_cancel _ (odd_co hy _)]
theorem odd_less {X Y D j : Nat} (hD : D * 2 ^ j = X - Y) : D ≤ X - Y := by
  rw [← hD]; exact Nat.le_mul_of_pos_right _ (Nat.pow_pos (by omega))
set_option maxHeartbeats 4000000 in
theorem ref_gcd {a : Option Addr} {m c : Nat} {xs : List Int} {b : Option Addr} {m' d : Nat} {ys : List Int} {w : World} (h : IsWords w (.slice a m c) xs) (hx : Wd xs) (k : IsWords w (.slice b m' d) ys) (hy : Wd ys) (hm : m ≤ 3000) (hm' : m' ≤ 3000) (A B : Nat) (hA : val xs = A) (hB : val ys = B) :
    Calls Tryz.prog 106 #[.slice a m c, .slice b m' d] w (Ans w (Nat.gcd A B)) := by
  have T1 := ref_trim a m c xs w h hx (by omega)
  have T2 := fun v (hb : Below w.heap.size w v) => ref_trim b m' d ys v (k.below hb) hy (by omega)
  have lA : nl A ≤ 3000 := by rw [← hA]; exact nl_small hx _ (by rw [h.len]; exact hm)
  have lB : nl B ≤ 3000 := by rw [← hB]; exact nl_small hy _ (by rw [k.len]; exact hm')
  rw [hA] at T1
  simp only [hB] at T2
  unfold Ans at T1 T2 ⊢
  clear h k hx hy hm hm' hA hB
  rcases Nat.eq_zero_or_pos A with h0 | h0
  · subst h0
    rw [Nat.gcd_zero_left]
    simp only [nl_zero] at T1
    clear lA lB
    go_enter Tryz.func106, Tryz.ntmps106
    go_wp2_with (first
      | (go_at_call 99; (with_reducible refine Calls.mono T1 ?_); rintro e w1 ⟨a1, c1, rfl, o1⟩)
      | (go_at_call 99; (with_reducible refine Calls.mono (T2 w1 o1.below) ?_); rintro e w2 ⟨a2, c2, rfl, o2⟩))
    go_ret
    exact ⟨_, _, rfl, o2.outer o1.below⟩
  have hA0 : ((nl A : Int) == 0) = false := by have := nl_pos h0; simp; omega
  rcases Nat.eq_zero_or_pos B with g0 | g0
  · subst g0
    rw [Nat.gcd_zero_right]
    simp only [nl_zero] at T2
    clear lA lB h0
    go_enter Tryz.func106, Tryz.ntmps106
    go_wp2_with (first
      | (go_at_call 99; (with_reducible refine Calls.mono T1 ?_); rintro e w1 ⟨a1, c1, rfl, o1⟩)
      | (go_at_call 99; (with_reducible refine Calls.mono (T2 w1 o1.below) ?_); rintro e w2 ⟨a2, c2, rfl, o2⟩))
    go_ret
    exact ⟨_, _, rfl, o1.more o2.below⟩
  have hB0 : ((nl B : Int) == 0) = false := by have := nl_pos g0; simp; omega
  have D1 := fun v a1 c1 (o : Own w v (.slice a1 (nl A) c1) (nl A) (natOf A)) => ref_odd w a1 c1 A v o h0 lA
  have D2 := fun v a1 c1 (o : Own w v (.slice a1 (nl B) c1) (nl B) (natOf B)) => ref_odd w a1 c1 B v o g0 lB
  have HL : Hid (nl A ≤ 3000 ∧ nl B ≤ 3000) := ⟨lA, lB⟩
  clear lA lB h0 g0
  go_enter Tryz.func106, Tryz.ntmps106
  go_wp2_with (first
    | (go_at_call 99; (with_reducible refine Calls.mono T1 ?_); rintro e w1 ⟨a1, c1, rfl, o1⟩)
    | (go_at_call 99; (with_reducible refine Calls.mono (T2 w1 o1.below) ?_); rintro e w2 ⟨a2, c2, rfl, o2⟩; have p2 := o1.more o2.below; have q2 := o2.outer o1.below)
    | (go_at_call 123; (with_reducible refine Calls.mono (D1 w2 _ _ p2) ?_); rintro e w3 ⟨A1, n, a3, c3, rfl, o3, b3, e3, f3, n3⟩; have q3 := q2.more b3; have E3 : Hid (A1 * 2 ^ n = A) := e3; have F3 : Hid (A1 % 2 = 1) := f3; clear e3 f3 D1)
    | (go_at_call 123; (with_reducible refine Calls.mono (D2 w3 _ _ q3) ?_); rintro e w4 ⟨B1, k, a4, c4, rfl, o4, b4, e4, f4, n4⟩; have p4 := o3.more b4; have E4 : Hid (B1 * 2 ^ k = B) := e4; have F4 : Hid (B1 % 2 = 1) := f4; clear e4 f4 D2))
  have HS : Hid (nl A1 ≤ 3000 ∧ nl B1 ≤ 3000) := by
    refine ⟨Nat.le_trans (nl_mono ?_) HL.out.1, Nat.le_trans (nl_mono ?_) HL.out.2⟩
    · rw [← E3.out]; exact Nat.le_mul_of_pos_right _ (Nat.pow_pos (by omega))
    · rw [← E4.out]; exact Nat.le_mul_of_pos_right _ (Nat.pow_pos (by omega))
  clear o1 o2 o3 p2 q2 q3 b3 b4 T1 T2 HL hA0 hB0
  go_loopg [5, 6, 9] (A1 + B1) (fun g s5 s6 s9 v => ∃ (X Y : Nat) (a5 : Option Addr) (c5 : Nat) (a6 : Option Addr) (c6 : Nat), g = X + Y ∧ s5 = .slice a5 (nl X) c5 ∧ s6 = .slice a6 (nl Y) c6 ∧ Own w v (.slice a5 (nl X) c5) (nl X) (natOf X) ∧ Own w v (.slice a6 (nl Y) c6) (nl Y) (natOf Y) ∧ X % 2 = 1 ∧ Y % 2 = 1 ∧ Nat.gcd X Y = Nat.gcd A1 B1 ∧ nl X ≤ 3000 ∧ nl Y ≤ 3000)
  case atStart => exact ⟨A1, B1, _, _, _, _, rfl, rfl, rfl, p4, o4, F3.out, F4.out, rfl, HS.out.1, HS.out.2⟩
  case round =>
    obtain ⟨X, Y, a5, c5, a6, c6, rfl, rfl, rfl, oX, oY, oddX, oddY, hg, lX, lY⟩ := hrel
    clear p4 o4 HS
    have C := fun v (p : IsWords v (.slice a5 (nl X) c5) (natOf X)) (q : IsWords v (.slice a6 (nl Y) c6) (natOf Y)) => ref_cmp _ _ _ _ _ _ _ _ v p (wd_natOf X) q (wd_natOf Y) (by omega) (by omega)
    simp only [val_natOf] at C
    have HG : Hid (Nat.gcd X Y = Nat.gcd A1 B1) := hg
    have HX : Hid (X % 2 = 1 ∧ nl X ≤ 3000) := ⟨oddX, lX⟩
    have HY : Hid (Y % 2 = 1 ∧ nl Y ≤ 3000) := ⟨oddY, lY⟩
    clear hg oddX oddY
    rcases Nat.lt_trichotomy X Y with hlt | rfl | hlt
    · rw [sgn_lt (by omega)] at C
      have S := fun v (p : IsWords v (.slice a5 (nl X) c5) (natOf X)) (q : IsWords v (.slice a6 (nl Y) c6) (natOf Y)) => ref_nsub _ _ _ _ _ _ _ _ v q (wd_natOf Y) p (wd_natOf X) (by omega) (by omega) (by rw [val_natOf, val_natOf]; omega)
      simp only [val_natOf] at S
      unfold AnsOk at S
      have O := fun v a1 c1 (o : Own w v (.slice a1 (nl (Y - X)) c1) (nl (Y - X)) (natOf (Y - X))) => ref_odd w a1 c1 (Y - X) v o (by omega) (Nat.le_trans (nl_mono (by omega)) lY)
      have HD : Hid (X < Y ∧ nl (Y - X) ≤ 3000) := ⟨hlt, Nat.le_trans (nl_mono (by omega)) lY⟩
      clear lX lY hlt
      generalize hZ : Y - X = Z at S O HD
      have HZ : Hid (Y - X = Z) := hZ
      clear hZ
      go_wp2_with (first
        | (go_at_call 124; (with_reducible refine Calls.mono (C _ oX.words oY.words) ?_); rintro e w5 ⟨rfl, rfl⟩)
        | (go_at_call 125; (with_reducible refine Calls.mono (S _ oX.words oY.words) ?_); rintro e w6 ⟨a7, c7, rfl, o7⟩; have o7' := o7.outer oX.below)
        | (go_at_call 123; (with_reducible refine Calls.mono (O w6 _ _ o7') ?_); rintro e w7 ⟨D, j, a8, c8, rfl, o8, b8, e8, f8, n8⟩; have E8 : Hid (D * 2 ^ j = Z) := e8; have F8 : Hid (D % 2 = 1) := f8; clear e8 f8))
      have E9 : D * 2 ^ j = Y - X := by rw [HZ.out]; exact E8.out
      have h9 := odd_less E9
      have h10 := HD.out.1
      go_roundg (D + X)
      case measure => have := HX.out.1; omega
      case rel => exact ⟨D, X, _, _, _, _, rfl, rfl, rfl, o8, (oX.more o7.below).more b8, F8.out, HX.out.1, by rw [gcd_down E9 (by omega) HX.out.1, Nat.gcd_comm]; exact HG.out, Nat.le_trans (nl_mono (by omega)) HY.out.2, HX.out.2⟩
    · rw [sgn_eq rfl] at C
      have SH := fun v (s : Nat) (hs : s ≤ 96000) (p : IsWords v (.slice a5 (nl X) c5) (natOf X)) => ref_tshift a5 (nl X) c5 (natOf X) s v p (wd_natOf X) (by omega) s (.inr ⟨by omega, by omega, rfl⟩)
      simp only [val_natOf, Int.toNat_natCast] at SH
      unfold Ans at SH
      have hG := HG.out
      rw [Nat.gcd_self] at hG
      rcases Nat.lt_or_ge k n with hnk | hnk
      case' inl =>
        have SN := fun v => SH v k n4
        have HE : Hid (X * 2 ^ k = Nat.gcd A B) := by show _ = _; rw [← E3.out, ← E4.out, Nat.gcd_comm, gcd_twos F4.out (by omega), Nat.gcd_comm, hG]
      case' inr =>
        have SN := fun v => SH v n n3
        have HE : Hid (X * 2 ^ n = Nat.gcd A B) := by show _ = _; rw [← E3.out, ← E4.out, gcd_twos F3.out hnk, hG]
      all_goals
        clear SH hG lX lY n3 n4
        go_wp2_with (first
          | (go_at_call 124; (with_reducible refine Calls.mono (C _ oX.words oY.words) ?_); rintro e w5 ⟨rfl, rfl⟩)
          | (go_at_call 126; (with_reducible refine Calls.mono (SN _ oX.words) ?_); rintro e w6 ⟨a7, c7, rfl, o7⟩))
        rw [HE.out] at o7
        go_ret
        exact ⟨_, _, by rw [HE.out]; rfl, o7.outer oX.below⟩
    · rw [sgn_gt (by omega)] at C
      have S := fun v (p : IsWords v (.slice a5 (nl X) c5) (natOf X)) (q : IsWords v (.slice a6 (nl Y) c6) (natOf Y)) => ref_nsub _ _ _ _ _ _ _ _ v p (wd_natOf X) q (wd_natOf Y) (by omega) (by omega) (by rw [val_natOf, val_natOf]; omega)
      simp only [val_natOf] at S
      unfold AnsOk at S
      have O := fun v a1 c1 (o : Own w v (.slice a1 (nl (X - Y)) c1) (nl (X - Y)) (natOf (X - Y))) => ref_odd w a1 c1 (X - Y) v o (by omega) (Nat.le_trans (nl_mono (by omega)) lX)
      have HD : Hid (Y < X ∧ nl (X - Y) ≤ 3000) := ⟨hlt, Nat.le_trans (nl_mono (by omega)) lX⟩
      clear lX lY hlt
      generalize hZ : X - Y = Z at S O HD
      have HZ : Hid (X - Y = Z) := hZ
      clear hZ
      go_wp2_with (first
        | (go_at_call 124; (with_reducible refine Calls.mono (C _ oX.words oY.words) ?_); rintro e w5 ⟨rfl, rfl⟩)
        | (go_at_call 125; (with_reducible refine Calls.mono (S _ oX.words oY.words) ?_); rintro e w6 ⟨a7, c7, rfl, o7⟩; have o7' := o7.outer oX.below)
        | (go_at_call 123; (with_reducible refine Calls.mono (O w6 _ _ o7') ?_); rintro e w7 ⟨D, j, a8, c8, rfl, o8, b8, e8, f8, n8⟩; have E8 : Hid (D * 2 ^ j = Z) := e8; have F8 : Hid (D % 2 = 1) := f8; clear e8 f8))
      have E9 : D * 2 ^ j = X - Y := by rw [HZ.out]; exact E8.out
      have h9 := odd_less E9
      have h10 := HD.out.1
      go_roundg (D + Y)
      case measure => have := HY.out.1; omega
      case rel => exact ⟨D, Y, _, _, _, _, rfl, rfl, rfl, o8, (oY.more o7.below).more b8, F8.out, HY.out.1, by rw [gcd_down E9 (by omega) HY.out.1]; exact HG.out, Nat.le_trans (nl_mono (by omega)) HX.out.2, HY.out.2⟩
theorem ref_lowest {a : Option Addr} {m c : Nat} {xs : List Int} {b : Option Addr} {m' d : Nat} {ys : List Int} {w : World} (h : IsWords w (.slice a m c) xs) (hx : Wd xs) (k : IsWords w (.slice b m' d) ys) (hy : Wd ys) (hm : m ≤ 3000) (hm' : m' ≤ 3000) (A B : Nat) (hA : val xs = A) (hB : val ys = B) :
    Calls Tryz.prog 73 #[.slice a m c, .slice b m' d] w (AnsDivB w (low1 A B) (B / Nat.gcd A B) (decide (0 < B))) := by
  have T2 := ref_trim b m' d ys w k hy (by omega)
  rw [hB] at T2
  unfold Ans at T2
  have lB : nl B ≤ 3000 := by rw [← hB]; exact nl_small hy _ (by rw [k.len]; exact hm')
  rcases Nat.eq_zero_or_pos B with h0 | h0
  · subst h0
    rw [show low1 A 0 = 0 from rfl, Nat.zero_div, show decide (0 < 0) = false from rfl]
    unfold AnsDivB
    simp only [nl_zero] at T2 ⊢
    clear h k hx hy hm hm' hA hB lB
    go_enter Tryz.func73, Tryz.ntmps73
    go_wp2_with (go_at_call 99; (with_reducible refine Calls.mono T2 ?_); rintro e w1 ⟨a1, c1, rfl, o1⟩)
    have E := nil_nl o1.below
    rw [nl_zero] at E
    go_ret3
    exact ⟨_, _, _, _, rfl, E, E⟩
  · have hB0 : ((nl B : Int) == 0) = false := by have := nl_pos h0; simp; omega
    have e1 : low1 A B = A / Nat.gcd A B := if_neg (by omega)
    rw [e1, show decide (0 < B) = true from decide_eq_true h0]
    have G := fun v a1 c1 (hb : Below w.heap.size w v) (hg : IsWords v (.slice a1 (nl B) c1) (natOf B)) => ref_gcd (h.below hb) hx hg (wd_natOf B) hm lB A B hA (val_natOf B)
    have hg : nl (Nat.gcd A B) ≤ 3000 := Nat.le_trans (nl_mono (Nat.gcd_le_right _ h0)) lB
    have D1 := fun v g1 c1 (hb : Below w.heap.size w v) (hg : IsWords v (.slice g1 (nl (Nat.gcd A B)) c1) (natOf (Nat.gcd A B))) => ref_div_any (h.below hb) hx hg (wd_natOf _) (by omega) (by omega) A (Nat.gcd A B) hA (val_natOf _)
    have D2 := fun v b1 d1 g1 c1 (hk : IsWords v (.slice b1 (nl B) d1) (natOf B)) (hg : IsWords v (.slice g1 (nl (Nat.gcd A B)) c1) (natOf (Nat.gcd A B))) => ref_div_any hk (wd_natOf _) hg (wd_natOf _) (by omega) (by omega) B (Nat.gcd A B) (val_natOf _) (val_natOf _)
    unfold Ans at G
    unfold AnsDivB at D1 D2 ⊢
    generalize A / Nat.gcd A B = X at D1 ⊢
    generalize B / Nat.gcd A B = Y at D2 ⊢
    generalize rest A (Nat.gcd A B) = R1 at D1
    generalize rest B (Nat.gcd A B) = R2 at D2
    generalize decide (0 < Nat.gcd A B) = r at D1 D2
    generalize Nat.gcd A B = g at G D1 D2 hg
    clear h k hx hy hm hm' hA hB hg e1 h0 lB
    go_enter Tryz.func73, Tryz.ntmps73
    go_wp2_with (first
      | (go_at_call 99; (with_reducible refine Calls.mono T2 ?_); rintro e w1 ⟨a1, c1, rfl, o1⟩)
      | (go_at_call 106; (with_reducible refine Calls.mono (G w1 _ _ o1.below o1.words) ?_); rintro e w2 ⟨a2, c2, rfl, o2⟩; have b2 := below_more o1.below o2.below)
      | (go_at_call 107; (with_reducible refine Calls.mono (D1 w2 _ _ b2 o2.words) ?_); rintro e w3 ⟨a3, c3, a4, c4, rfl, o3, o4⟩; have p3 := (o1.more o2.below).more o3.below; have q3 := o2.more o3.below)
      | (go_at_call 107; (with_reducible refine Calls.mono (D2 w3 _ _ _ _ p3.words q3.words) ?_); rintro e w4 ⟨a5, c5, a6, c6, rfl, o5, o6⟩))
    go_ret3
    exact ⟨_, _, _, _, rfl, (o3.more o5.below).outer b2, o5.outer (below_more b2 o3.below)⟩
end Go.Proofs.YtbcfplaalepnbaaGreatDoor
namespace Go.Proofs.YtbcfplaalepnbaaGreatDoor
open Go.RowKit
def AnsT (W : World) (t : R3) (e : Ending) (w' : World) : Prop :=
  ∃ a c b d, e = .returned (.agg #[.bool t.1, .slice a (nl t.2.1) c, .slice b (nl t.2.2) d]) ∧ Own W w' (.slice a (nl t.2.1) c) (nl t.2.1) (natOf t.2.1) ∧ Own W w' (.slice b (nl t.2.2) d) (nl t.2.2) (natOf t.2.2)
def AnsTE (W : World) (t : R3) (E : Int) (e : Ending) (w' : World) : Prop :=
  ∃ a c b d, e = .returned (.tuple #[.agg #[.bool t.1, .slice a (nl t.2.1) c, .slice b (nl t.2.2) d], .int .i64 E]) ∧ Own W w' (.slice a (nl t.2.1) c) (nl t.2.1) (natOf t.2.1) ∧ Own W w' (.slice b (nl t.2.2) d) (nl t.2.2) (natOf t.2.2)
theorem OwnA.set3 {W w : World} {B : Nat} {v : Value} {n : Nat} {xs : List Int} (h : OwnA W B w v n xs) {k : Nat} (h1 : W.heap.size ≤ k) (h2 : k < B) (x y z : Value) : OwnA W B (((w.setCell ⟨k, 0, none⟩ x).setCell ⟨k, 1, none⟩ y).setCell ⟨k, 2, none⟩ z) v n xs :=
  ((h.set h1 h2 0 x).set h1 h2 1 y).set h1 h2 2 z
theorem ansT_mk {W w' : World} {s : Bool} {a : Option Addr} {c : Nat} {b : Option Addr} {d N D : Nat} (h1 : Own W w' (.slice a (nl N) c) (nl N) (natOf N)) (h2 : Own W w' (.slice b (nl D) d) (nl D) (natOf D)) : AnsT W (s, N, D) (.returned (.agg #[.bool s, .slice a (nl N) c, .slice b (nl D) d])) w' := ⟨a, c, b, d, rfl, h1, h2⟩
set_option maxHeartbeats 4000000 in
theorem ref_rlow {s : Bool} {a : Option Addr} {n c : Nat} {xs : List Int} {b : Option Addr} {m d : Nat} {ys : List Int} {w : World} (h : IsWords w (.slice a n c) xs) (hx : Wd xs) (k : IsWords w (.slice b m d) ys) (hy : Wd ys) (hn : n ≤ 3000) (hm : m ≤ 3000) (q : Rat) (hq : rv s (val xs) (val ys) = q) :
    Calls Tryz.prog 49 #[.agg #[.bool s, .slice a n c], .slice b m d] w (AnsT w (tri q)) := by
  subst hq
  have L := fun v (hb : Below w.heap.size w v) => ref_lowest (h.below hb) hx (k.below hb) hy hn hm _ _ rfl rfl
  unfold AnsDivB at L
  obtain ⟨b1, b2, bV, hs⟩ := boxes2 w #[.bool s, .slice a n c] #[.bool false, .slice none 0 0, .slice none 0 0] 82 42
  clear h k hx hy hn hm
  generalize val xs = A at *
  generalize val ys = D at *
  have ONE := fun (v : World) (hv : Below w.heap.size w v) => own_lit w v [1] 1 hv rfl (by decide)
  have n1 : natOf 1 = [1] := natOf_lit [1] (wd_one (by omega) (by omega)) (by decide) (by decide)
  have l1 : nl 1 = 1 := by unfold nl; rw [n1]; rfl
  by_cases h0 : 0 < A ∧ 0 < D
  · obtain ⟨hA, hD⟩ := h0
    rw [tri_rv s A D hA hD]
    rw [show low1 A D = A / Nat.gcd A D from if_neg (by omega), show decide (0 < D) = true from decide_eq_true hD] at L
    have hX : 0 < A / Nat.gcd A D := Nat.div_pos (Nat.le_of_dvd hA (Nat.gcd_dvd_left _ _)) (Nat.gcd_pos_of_pos_left _ hA)
    generalize A / Nat.gcd A D = X at *
    generalize D / Nat.gcd A D = Y at *
    have hX0 : ((nl X : Int) == 0) = false := by have := nl_pos hX; simp; omega
    clear hA hD hX ONE n1 l1
    go_enter Tryz.func49, Tryz.ntmps49
    go_wp2_with (go_at_call 73; (with_reducible refine Calls.mono (L _ bV) ?_); rintro e w1 ⟨a1, c1, a2, c2, rfl, o1, o2⟩; obtain ⟨x0, x1, f0, f1⟩ := (b1.more o1.below).cells2; obtain ⟨y0, y1, y2, g0, g1, g2⟩ := (b2.more o1.below).cells3)
    exact bodyPost_ret (v := .agg #[.bool s, .slice a1 (nl X) c1, .slice a2 (nl Y) c2]) (by simp [results, Tryz.results49, go_sem, y0, y1, y2]) rfl (ansT_mk (((o1.above bV).set3 (by omega) hs _ _ _).own (by omega)) (((o2.above bV).set3 (by omega) hs _ _ _).own (by omega)))
  · have e0 : rv s A D = 0 := (rv_zero_iff s A D).2 (by omega)
    rw [e0, tri_zero]
    have hR : decide (0 < D) = false ∨ decide (0 < D) = true ∧ low1 A D = 0 := by
      rcases Nat.eq_zero_or_pos D with h | h
      · exact .inl (by simp [h])
      · refine .inr ⟨decide_eq_true h, ?_⟩
        obtain rfl : A = 0 := by omega
        rw [show low1 0 D = 0 / Nat.gcd 0 D from if_neg (by omega), Nat.zero_div]
    generalize low1 A D = X at L hR
    generalize D / Nat.gcd A D = Y at L
    clear h0 e0
    have q : ∀ (w1 : World) (x y : Value), Below w.heap.size w w1 → w.heap.size + 1 < w1.heap.size → AnsT w (false, 0, 1) (.returned (.agg #[.bool false, .slice none (nl 0) 0, .slice (some ⟨w1.heap.size, 0, none⟩) (nl 1) 1])) ((((w1.alloc (.cells #[.int .u32 1] 84)).setCell ⟨w.heap.size + 1, 0, none⟩ (.bool false)).setCell ⟨w.heap.size + 1, 1, none⟩ x).setCell ⟨w.heap.size + 1, 2, none⟩ y) := fun w1 x y hb hw => by
      have o : Own w1 (w1.alloc (.cells #[.int .u32 1] 84)) (.slice (some ⟨w1.heap.size, 0, none⟩) (nl 1) 1) (nl 1) (natOf 1) := by rw [l1, n1]; exact own_lit w1 w1 [1] 1 (Below.refl _ _) rfl (by decide)
      have oa := (o.above hb).set3 (k := w.heap.size + 1) (by omega) hw (.bool false) x y
      exact ansT_mk (nil_nl oa.2) (oa.own hb.size)
    clear ONE
    rcases hR with h1 | ⟨h1, h2⟩
    case' inl => rw [h1] at L
    case' inr => rw [h1, h2, nl_zero] at L
    all_goals
      clear h1 n1
      go_enter Tryz.func49, Tryz.ntmps49
      go_wp2_with (go_at_call 73; (with_reducible refine Calls.mono (L _ bV) ?_); rintro e w1 ⟨a1, c1, a2, c2, rfl, o1, o2⟩; obtain ⟨x0, x1, f0, f1⟩ := (b1.more o1.below).cells2; have B2 := fun o => ((b2.more o1.below).alloc o).cells3; have y0 := fun o => (B2 o).1; have y1 := fun o => (B2 o).2.1; have y2 := fun o => (B2 o).2.2.1; have g0 := fun o => (B2 o).2.2.2.1; have g1 := fun o => (B2 o).2.2.2.2.1; have g2 := fun o => (B2 o).2.2.2.2.2)
      exact bodyPost_ret (v := .agg #[.bool false, .slice none (nl 0) 0, .slice (some ⟨w1.heap.size, 0, none⟩) (nl 1) 1]) (by rw [nl_zero, l1]; simp [results, Tryz.results49, go_sem, y0, y1, y2]) rfl (q w1 _ _ (below_more bV o1.below) (Nat.lt_of_lt_of_le hs o1.below.size))
set_option maxHeartbeats 4000000 in
theorem ref_requal {s : Bool} {a : Option Addr} {n c : Nat} {xs : List Int} {b : Option Addr} {m d : Nat} {ys : List Int} {s' : Bool} {a' : Option Addr} {n' c' : Nat} {xs' : List Int} {b' : Option Addr} {m' d' : Nat} {ys' : List Int} {w : World}
    (h : IsWords w (.slice a n c) xs) (k : IsWords w (.slice b m d) ys) (h' : IsWords w (.slice a' n' c') xs') (k' : IsWords w (.slice b' m' d') ys') (r : Bool) (hr : decide (s = s' ∧ xs = xs' ∧ ys = ys') = r) :
    Calls Tryz.prog 64 #[.agg #[.bool s, .slice a n c, .slice b m d], .agg #[.bool s', .slice a' n' c', .slice b' m' d']] w fun e w' => e = .returned (.bool r) ∧ Below w.heap.size w w' := by
  have W1 := fun v (hb : Below w.heap.size w v) => ref_words _ _ _ _ _ _ _ _ v (h.below hb) (h'.below hb) _ rfl
  have W2 := fun v (hb : Below w.heap.size w v) => ref_words _ _ _ _ _ _ _ _ v (k.below hb) (k'.below hb) _ rfl
  obtain ⟨b1, b2, bV, hs⟩ := boxes2 w #[.bool s, .slice a n c, .slice b m d] #[.bool s', .slice a' n' c', .slice b' m' d'] 42 42
  clear h k h' k'
  obtain ⟨x0, x1, x2, -, -, -⟩ := b1.cells3
  obtain ⟨y0, y1, y2, -, -, -⟩ := b2.cells3
  by_cases he : s = s'
  case neg =>
    have he2 : (s == s') = false := by simpa using he
    obtain rfl : r = false := by rw [← hr]; simp [he]
    clear hr he
    go_enter Tryz.func64, Tryz.ntmps64
    go_wp2
    go_ret
    exact ⟨rfl, bV⟩
  case pos =>
    subst he
    by_cases hX : xs = xs'
    case neg =>
      rw [decide_eq_false hX] at W1
      obtain rfl : r = false := by rw [← hr]; simp [hX]
      clear hr hX
      go_enter Tryz.func64, Tryz.ntmps64
      go_wp2_with (go_at_call 97; (with_reducible refine Calls.mono (W1 _ bV) ?_); rintro e w1 ⟨rfl, o1⟩)
      go_ret
      exact ⟨rfl, below_more bV o1⟩
    case pos =>
      rw [decide_eq_true hX] at W1
      rw [show decide (s = s ∧ xs = xs' ∧ ys = ys') = decide (ys = ys') by simp [hX]] at hr
      rw [hr] at W2
      clear hr hX
      go_enter Tryz.func64, Tryz.ntmps64
      go_wp2_with (first
        | (go_at_call 97; (with_reducible refine Calls.mono (W1 _ bV) ?_); rintro e w1 ⟨rfl, o1⟩; obtain ⟨x0, x1, x2, -, -, -⟩ := (b1.more o1).cells3; obtain ⟨y0, y1, y2, -, -, -⟩ := (b2.more o1).cells3)
        | (go_at_call 97; (with_reducible refine Calls.mono (W2 _ (below_more bV o1)) ?_); rintro e w2 ⟨rfl, o2⟩))
      go_ret
      exact ⟨rfl, below_more (below_more bV o1) o2⟩
end Go.Proofs.YtbcfplaalepnbaaGreatDoor
namespace Go.Proofs.YtbcfplaalepnbaaGreatDoor
open Go.RowKit
def RR (k : Nat) (w : World) (s : Bool) (a : Option Addr) (n c : Nat) (b : Option Addr) (m d : Nat) (q : Rat) : Prop :=
  ∃ xs ys, IsWords w (.slice a n c) xs ∧ Wd xs ∧ IsWords w (.slice b m d) ys ∧ Wd ys ∧ n ≤ k ∧ m ≤ k ∧ rv s (val xs) (val ys) = q
def OwnR (W w : World) (a : Option Addr) (c : Nat) (b : Option Addr) (d : Nat) (q : Rat) : Prop :=
  Own W w (.slice a (nl q.num.natAbs) c) (nl q.num.natAbs) (natOf q.num.natAbs) ∧ Own W w (.slice b (nl q.den) d) (nl q.den) (natOf q.den)
def AnsR (W : World) (q : Rat) (e : Ending) (w' : World) : Prop :=
  ∃ a c b d, e = .returned (.agg #[.bool (decide (q.num < 0)), .slice a (nl q.num.natAbs) c, .slice b (nl q.den) d]) ∧ OwnR W w' a c b d q
theorem ansR_iff {W : World} {q : Rat} {e : Ending} {w' : World} : AnsR W q e w' ↔ AnsT W (tri q) e w' := Iff.rfl
end Go.Proofs.YtbcfplaalepnbaaGreatDoor
namespace Go.Proofs.YtbcfplaalepnbaaGreatDoor
open Go.RowKit
theorem BoxC.set3 {v : World} {k : Nat} {x' y' z' : Value} {T : TypeId} (h : BoxC v k #[x', y', z'] T) (x y z : Value) : BoxC (((v.setCell ⟨k, 0, none⟩ x).setCell ⟨k, 1, none⟩ y).setCell ⟨k, 2, none⟩ z) k #[x, y, z] T := by
  have := ((h.set 0 x).set 1 y).set 2 z
  simpa using this
end Go.Proofs.YtbcfplaalepnbaaGreatDoor
namespace Go.Proofs.YtbcfplaalepnbaaGreatDoor
open Go.RowKit
theorem ansTE_mk {W w' : World} {s : Bool} {a : Option Addr} {c : Nat} {b : Option Addr} {d N D : Nat} {E : Int} (h1 : Own W w' (.slice a (nl N) c) (nl N) (natOf N)) (h2 : Own W w' (.slice b (nl D) d) (nl D) (natOf D)) : AnsTE W (s, N, D) E (.returned (.tuple #[.agg #[.bool s, .slice a (nl N) c, .slice b (nl D) d], .int .i64 E])) w' := ⟨a, c, b, d, rfl, h1, h2⟩
theorem ansTE_no {W w' : World} {E : Int} (h : Below W.heap.size W w') : AnsTE W tri0 E (.returned (.tuple #[.agg #[.bool false, .slice none 0 0, .slice none 0 0], .int .i64 E])) w' := by
  have e := nil_nl h
  have l := nl_zero
  refine ⟨none, 0, none, 0, ?_, e, e⟩
  show _ = Ending.returned (.tuple #[.agg #[.bool false, .slice none (nl 0) 0, .slice none (nl 0) 0], .int .i64 E])
  rw [l]
theorem below_set3 {W w : World} (h : Below W.heap.size W w) {k : Nat} (hk : W.heap.size ≤ k) (x y z : Value) : Below W.heap.size W (((w.setCell ⟨k, 0, none⟩ x).setCell ⟨k, 1, none⟩ y).setCell ⟨k, 2, none⟩ z) :=
  ((h.setCell (p := ⟨k, 0, none⟩) hk x).setCell (p := ⟨k, 1, none⟩) hk y).setCell (p := ⟨k, 2, none⟩) hk z
def mkT (s : Bool) (A : Nat) (t : Bool) (D : Nat) : R3 := if D = 0 then tri0 else tri (rv (!(s == t)) A D)
def mkE (D : Nat) : Int := if D = 0 then 3 else 0
theorem rv_int (n : Int) : rv (decide (n < 0)) n.natAbs 1 = (n : Rat) := by
  unfold rv; rw [iv_self]
  exact Rat.mkRat_self (n : Rat)
set_option maxHeartbeats 4000000 in
theorem ref_rof (n : Int) (w : World) (h0 : -9223372036854775808 ≤ n) (h1 : n < 9223372036854775808) :
    Calls Tryz.prog 24 #[.int .i64 n] w (AnsR w (n : Rat)) := by
  have O := fun v => ref_iof n v h0 h1
  unfold AnsI at O
  have l1 : nl n.natAbs ≤ 2 := nl_two n (by omega)
  have n1 : natOf 1 = [1] := natOf_lit [1] (wd_one (by omega) (by omega)) (by decide) (by decide)
  have L := fun v a1 c1 (W : World) (p : Own W v (.slice a1 (nl n.natAbs) c1) (nl n.natAbs) (natOf n.natAbs)) => ref_rlow (s := decide (n < 0)) (p.alloc (.cells #[.int .u32 1] 84)).words (wd_natOf _) (lit_words v [1] 1 rfl (by decide)) (wd_one (by omega) (by omega)) (by omega) (by omega) (n : Rat) (by rw [val_natOf]; exact rv_int n)
  unfold AnsT at L
  have HA : Hid (∀ e w', AnsT w (tri (n : Rat)) e w' → AnsR w (n : Rat) e w') := fun _ _ h => h
  generalize tri (n : Rat) = tt at L HA
  obtain ⟨t0, tN, tD⟩ := tt
  dsimp only at L
  obtain ⟨b1, bV, hs⟩ := boxes1 w #[.bool false, .slice none 0 0, .slice none 0 0] 42
  clear h0 h1 l1 n1
  generalize decide (n < 0) = r at *
  generalize n.natAbs = N at *
  go_enter Tryz.func24, Tryz.ntmps24
  go_wp2_with (first
    | (go_at_call 50; (with_reducible refine Calls.mono (O _) ?_); rintro e w1 ⟨a1, c1, rfl, o1⟩; have B1 := below_more bV o1.below; have hb1 := fun o => B1.alloc B1.size o)
    | (go_at_call 49; (with_reducible refine Calls.mono (L _ _ _ _ o1) ?_); rintro e w2 ⟨a2, c2, a3, c3, rfl, o2, o3⟩; obtain ⟨y0, y1, y2, g0, g1, g2⟩ := (((b1.more o1.below).alloc _).more o2.below).cells3))
  have hk : w.heap.size < (w1.alloc (.cells #[.int .u32 1] 84)).heap.size := Nat.lt_of_lt_of_le hs (Nat.le_trans o1.below.size (by simp))
  exact bodyPost_ret (v := .agg #[.bool t0, .slice a2 (nl tN) c2, .slice a3 (nl tD) c3]) (by simp [results, Tryz.results24, go_sem, y0, y1, y2]) rfl (HA.out _ _ (ansT_mk (((o2.above (hb1 _)).set3 (by omega) hk _ _ _).own (by omega)) (((o3.above (hb1 _)).set3 (by omega) hk _ _ _).own (by omega))))
end Go.Proofs.YtbcfplaalepnbaaGreatDoor
namespace Go.Proofs.YtbcfplaalepnbaaGreatDoor
open Go.RowKit
def powE (q : Rat) (n : Int) : Int := if n < -64 ∨ 64 < n then 4 else if q = 0 ∧ n < 0 then 3 else 0
def powT (q : Rat) (n : Int) : R3 := if n < -64 ∨ 64 < n then tri0 else if q = 0 ∧ n < 0 then tri0 else tri (q ^ n)
def frontR (l : List UInt8) : List UInt8 := l.takeWhile (· != 124)
def restR (l : List UInt8) : List UInt8 := l.dropWhile (· != 124)
def parE (l : List UInt8) : Int := if zerr (frontR l) ≠ 0 then zerr (frontR l) else match restR l with
  | [] => 0
  | _ :: r => if perr r ≠ 0 then perr r else if pnum r = 0 then 3 else 0
def parQ (l : List UInt8) : Rat := match restR l with
  | [] => (znum (frontR l) : Rat)
  | _ :: r => mkRat (znum (frontR l)) (pnum r)
def parT (l : List UInt8) : R3 := if parE l = 0 then tri (parQ l) else tri0
end Go.Proofs.YtbcfplaalepnbaaGreatDoor
namespace Go.Proofs.YtbcfplaalepnbaaGreatDoor
def strokeAt (l : List UInt8) : Nat := (frontR l).length
theorem stroke_cons (c : UInt8) (l : List UInt8) : strokeAt (c :: l) = if c = 124 then 0 else strokeAt l + 1 := by
  unfold strokeAt frontR
  by_cases h : c = 124
  · rw [if_pos h, List.takeWhile_cons_of_neg (by simp [h])]; rfl
  · rw [if_neg h, List.takeWhile_cons_of_pos (by simp [h])]; rfl
theorem front_take (l : List UInt8) : frontR l = l.take (strokeAt l) := by
  induction l with
  | nil => rfl
  | cons c l ih =>
    rw [stroke_cons]
    by_cases h : c = 124
    · rw [if_pos h, List.take_zero]; unfold frontR; rw [List.takeWhile_cons_of_neg (by simp [h])]
    · rw [if_neg h, List.take_succ_cons, ← ih]; unfold frontR; rw [List.takeWhile_cons_of_pos (by simp [h])]
theorem rest_drop (l : List UInt8) : restR l = l.drop (strokeAt l) := by
  induction l with
  | nil => rfl
  | cons c l ih =>
    rw [stroke_cons]
    by_cases h : c = 124
    · rw [if_pos h, List.drop_zero]; unfold restR; rw [List.dropWhile_cons_of_neg (by simp [h])]
    · rw [if_neg h, List.drop_succ_cons, ← ih]; unfold restR; rw [List.dropWhile_cons_of_pos (by simp [h])]
theorem stroke_le (l : List UInt8) : strokeAt l ≤ l.length := by
  induction l with
  | nil => exact Nat.le_refl _
  | cons c l ih => rw [stroke_cons, List.length_cons]; split <;> omega
end Go.Proofs.YtbcfplaalepnbaaGreatDoor
namespace Go.Proofs.YtbcfplaalepnbaaGreatDoor
open Go.RowKit
theorem extract_front (s : ByteArray) (A : Nat) : (s.extract 0 A).data.toList = s.data.toList.take A := by
  rw [ByteArray.data_extract, Array.toList_extract, List.extract_eq_take_drop]; simp
theorem extract_rest (s : ByteArray) (A : Nat) : (s.extract A s.size).data.toList = s.data.toList.drop A := by
  rw [ByteArray.data_extract, Array.toList_extract, List.extract_eq_take_drop]
  exact List.take_of_length_le (by simp)
theorem not_eq_false (s : Bool) : (!(s == false)) = s := by cases s <;> rfl
theorem par_err {l : List UInt8} (h : zerr (frontR l) ≠ 0) : parT l = tri0 ∧ parE l = zerr (frontR l) := by
  have e : parE l = zerr (frontR l) := by unfold parE; rw [if_pos h]
  exact ⟨by unfold parT; rw [e, if_neg h], e⟩
theorem par_none {l : List UInt8} (h : zerr (frontR l) = 0) (hr : restR l = []) : parT l = mkT (decide (znum (frontR l) < 0)) (znum (frontR l)).natAbs false 1 ∧ parE l = mkE 1 := by
  have e : parE l = 0 := by unfold parE; rw [if_neg (by simpa using h), hr]
  refine ⟨?_, e⟩
  unfold parT parQ mkT
  rw [if_pos e, hr, if_neg (by omega), not_eq_false, rv_int]
theorem par_rest {l r : List UInt8} {c : UInt8} (h : zerr (frontR l) = 0) (hr : restR l = c :: r) (h2 : perr r ≠ 0) : parT l = tri0 ∧ parE l = perr r := by
  have e : parE l = perr r := by unfold parE; rw [if_neg (by simpa using h), hr]; exact if_pos h2
  exact ⟨by unfold parT; rw [e, if_neg h2], e⟩
theorem par_both {l r : List UInt8} {c : UInt8} (h : zerr (frontR l) = 0) (hr : restR l = c :: r) (h2 : perr r = 0) : parT l = mkT (decide (znum (frontR l) < 0)) (znum (frontR l)).natAbs false (pnum r) ∧ parE l = mkE (pnum r) := by
  have e : parE l = mkE (pnum r) := by unfold parE mkE; rw [if_neg (by simpa using h), hr]; exact if_neg (by simpa using h2)
  refine ⟨?_, e⟩
  unfold parT
  rw [e]
  unfold mkE mkT parQ
  by_cases h0 : pnum r = 0
  · rw [if_pos h0, if_pos h0, if_neg (by omega)]
  · rw [if_neg h0, if_neg h0, if_pos rfl, hr, not_eq_false]
    show tri (mkRat (znum (frontR l)) (pnum r)) = _
    unfold rv; rw [iv_self]
end Go.Proofs.YtbcfplaalepnbaaGreatDoor
namespace Go.Proofs.YtbcfplaalepnbaaGreatDoor
open Go.RowKit Go.Lib
def numT (x : ByteArray) : Bool × Nat × Nat := parT x.data.toList
theorem toList_byte (b : UInt8) : (⟨#[b]⟩ : ByteArray).toList = [b] := by rw [ByteArray.toList_eq]
theorem num_zero {W w : World} (hb : Below W.heap.size W w) (k a b x : Int) (y : ByteArray) : NumW W w (rawOf ⟨k, a, b, x, y, (false, 0, 0)⟩, .slice none 0 0, .slice none 0 0) := by
  have e : Own W w (.slice none 0 0) (natOf 0).length (natOf 0) := by rw [natOf_zero]; exact Own.nil hb
  exact ⟨e, e⟩
theorem cnt_all {L : List Tok} {r : Rd} {n : Nat} (h : cnt L r ≤ n) : r.all.length ≤ n := by unfold cnt at h; omega
section
variable {W w : World} {R : Nat} {la : Option Addr} {lc : Nat} {i l o : Value} {L : List Tok} {r : Rd}
end
end Go.Proofs.YtbcfplaalepnbaaGreatDoor
namespace Go.Proofs.YtbcfplaalepnbaaGreatDoor
open Go.RowKit
theorem Own.box {W w : World} {v : Value} {n : Nat} {xs : List Int} (h : Own W w v n xs) {k : Nat} {cs : Array Value} {T : TypeId} (B : BoxC w k cs T) (hT : T ≠ 84) (hk : W.heap.size ≤ k) (i : Nat) (x : Value) : Own W (w.setCell ⟨k, i, none⟩ x) v n xs := by
  refine ⟨⟨h.1.1, ?_⟩, h.2.setCell (p := ⟨k, i, none⟩) hk _⟩
  rcases h.1.2 with h0 | ⟨g, cap, cur, e, h3, hg, h4⟩
  · exact .inl h0
  · refine .inr ⟨g, cap, cur, e, h3, ?_, h4⟩
    have hne : g ≠ k := by
      intro e1
      subst e1
      unfold BoxC at B
      rw [B] at hg
      simp at hg
      exact hT hg.2
    rw [Below.heap_setCell w ⟨k, i, none⟩ x g (by simpa using hne)]; exact hg
theorem Own.box3 {W w : World} {v : Value} {n : Nat} {xs : List Int} (h : Own W w v n xs) {k : Nat} {x' y' z' : Value} {T : TypeId} (B : BoxC w k #[x', y', z'] T) (hT : T ≠ 84) (hk : W.heap.size ≤ k) (x y z : Value) : Own W (((w.setCell ⟨k, 0, none⟩ x).setCell ⟨k, 1, none⟩ y).setCell ⟨k, 2, none⟩ z) v n xs :=
  ((h.box B hT hk 0 x).box (B.set 0 x) hT hk 1 y).box ((B.set 0 x).set 1 y) hT hk 2 z
theorem rat_ne_u32 : (42 : TypeId) ≠ 84 := by decide
end Go.Proofs.YtbcfplaalepnbaaGreatDoor
namespace Go.Proofs.YtbcfplaalepnbaaGreatDoor
open Go.RowKit Go.Lib
theorem leaf_name (num : ByteArray → Bool × Nat × Nat) (L : List Tok) (r : Rd) (h : r.bad = true ∨ L[r.pos]? = none ∨ ∃ t, L[r.pos]? = some t ∧ t.1 ≠ 1) : r.leaf num L = (r.nameT L).2.node ⟨0, 0, 0, 0, (r.nameT L).1, (false, 0, 0)⟩ := by
  unfold Rd.leaf
  by_cases hb : r.bad = true
  · rw [if_pos hb]
  · rw [if_neg hb]
    rcases h with h | h | ⟨t, h, h1⟩
    · exact absurd h hb
    · rw [h]
    · rw [h]
      dsimp only
      rw [if_neg h1]
theorem leaf_num (num : ByteArray → Bool × Nat × Nat) (L : List Tok) (r : Rd) {t : Tok} (hb : r.bad = false) (h : L[r.pos]? = some t) (h1 : t.1 = 1) : r.leaf num L = r.skip.node ⟨1, 0, 0, 0, noText, num t.2.1⟩ := by
  unfold Rd.leaf
  rw [hb, if_neg (by simp), h]
  dsimp only
  rw [if_pos h1]
end Go.Proofs.YtbcfplaalepnbaaGreatDoor
namespace Go.Proofs.YtbcfplaalepnbaaGreatDoor
open Go.RowKit Go.Lib
def encS (x : ByteArray) : List Value := [.string x]
theorem infoStr : (Tryz.prog.info? 9).map (fun i => (i.zero, i.size, i.bytes)) = some (some (.string ⟨#[]⟩), 1, 16) := by kernel_rfl
section
variable {W w w' : World} {R : Nat} {la : Option Addr} {lc : Nat} {i l o : Value} {L : List Tok} {r : Rd}
end
theorem Keep.grown_new {X : TypeId → Prop} {u w w' : World} (h : Keep X u w) {B : Nat} {T : TypeId} {k : Nat} {v : Value} {n : Nat} {cs : List Value} (q : w.ownsRow B T k v n cs) (hu : u.heap.size ≤ B) (hg : w.grownBy w' v.ownBlock) : Keep X u w' := by
  refine ⟨Nat.le_trans h.1 hg.size, fun j ds Z f e hZ => ?_⟩
  have e2 := h.2 j ds Z f e hZ
  have hj : j < u.heap.size := (Array.getElem?_eq_some_iff.1 e).1
  have hne : some j ≠ v.ownBlock := by
    intro e1
    have := (q.lt j e1.symm).1
    omega
  rw [hg.block j (Array.getElem?_eq_some_iff.1 e2).1 hne]; exact e2
theorem Keep.grown_type {X : TypeId → Prop} {w w' : World} {B : Nat} {T : TypeId} {k : Nat} {v : Value} {n : Nat} {cs : List Value} (q : w.ownsRow B T k v n cs) (hX : X T) (hg : w.grownBy w' v.ownBlock) : Keep X w w' := by
  refine ⟨hg.size, fun j ds U f e hU => ?_⟩
  have hne : some j ≠ v.ownBlock := by
    intro e1
    rcases q.2 with ⟨rfl, -⟩ | ⟨b, cap, cur, rfl, h3, hb, h4⟩
    · exact absurd e1 (by simp [Value.ownBlock])
    · have e2 : j = b := by simpa [Value.ownBlock] using e1
      subst e2
      rw [e] at hb
      simp only [Option.some.injEq, Obj.cells.injEq] at hb
      exact hU (hb.2.1 ▸ hX)
  rw [hg.block j (Array.getElem?_eq_some_iff.1 e).1 hne]; exact e
theorem ownsRow_below {w w' : World} {B : Nat} {T : TypeId} {k : Nat} {v : Value} {n : Nat} {cs : List Value} (h : w.ownsRow B T k v n cs) (hb : Below w.heap.size w w') : w'.ownsRow B T k v n cs := ownsRow_keep h (Keep.of (fun _ => False) hb) (fun e => e)
theorem wpl_append_b {P : Program} {ops : Array Oper} {rest : List Oper} {o : Oper} {a : Act} {Q : Exit → Act → World → Prop} {t e : TypeId} {z : Value} {k bytes : Nat} (hP : P.underlying t = some (.slice e)) (hI : (P.info? e).map (fun i => (i.zero, i.size, i.bytes)) = some (some z, k, bytes)) (hzs : z.cells.size = k) (hk : 0 < k) (s x : Operand)
    (ho : o.op = .call { callee := .builtin .append, args := #[s, x], argTypes := #[t, t] }) (hgd : o.guard = none)
    (w : World) (B : Nat) (hB : B ≤ w.heap.size) (v : Value) (n : Nat) (cs : List Value) (g : Nat) (ds : List Value) (hs : a.eval s = v) (hx : a.eval x = .slice (some ⟨g, 0, none⟩) 1 1) (hown : w.ownsRow B e k v n cs) (hsrc : IsC k w (some ⟨g, 0, none⟩) 1 ds) (h1 : ∀ u ∈ ds, u.oneCell' = true) (hle : n + 1 ≤ maxLen) (hby : (n + 1) * bytes ≤ 140737488355328)
    (h : ∀ a' c' w', w'.ownsRow B e k (.slice a' (n + 1) c') (n + 1) (cs ++ ds) → w.grownBy w' v.ownBlock → wpList P ops Q rest (a.put o.dst (.slice a' (n + 1) c')) w') : wpList P ops Q (o :: rest) a w := by
  obtain ⟨i, hi, hz, hs1, hb1⟩ := info_parts hI
  have hcells : ∀ j u, ds[j]? = some u → w.cell? ((⟨g, 0, none⟩ : Addr).add j) = some u := by
    intro j u hj
    rcases hsrc.2 with h0 | ⟨y, e, hc⟩
    · omega
    · obtain rfl := Option.some.inj e
      exact hc j u hj
  refine wpList_append_own w hgd s x t ho B e i _ k bytes hP hi hz hs1 hb1 hzs hk v n _ hs hown ⟨g, 0, none⟩ 1 1 ds hx hsrc.1 hcells h1 hle hby hB ?_
  intro v' w' h2 h3 _
  rcases h2.2 with ⟨rfl, e2⟩ | ⟨b, cap, cur, rfl, -⟩
  · omega
  · exact h _ _ w' h2 h3
section
variable {W w w' : World} {R : Nat} {la : Option Addr} {lc : Nat} {i l o : Value} {L : List Tok} {r : Rd}
def TS (T : TypeId) : Prop := T = 9
end
end Go.Proofs.YtbcfplaalepnbaaGreatDoor
namespace Go.Proofs.YtbcfplaalepnbaaGreatDoor
open Go.RowKit Go.Lib
def encL (x : ByteArray × Int) : List Value := [.string x.1, .int .i64 x.2]
theorem encL_length (x : ByteArray × Int) : (encL x).length = 2 := rfl
theorem infoLet : (Tryz.prog.info? 46).map (fun i => (i.zero, i.size, i.bytes)) = some (some (.agg #[.string ⟨#[]⟩, .int .i64 0]), 2, 24) := by kernel_rfl
def TL (T : TypeId) : Prop := T = 46
section
variable {W w w' : World} {R : Nat} {la : Option Addr} {lc : Nat} {i l o : Value} {L : List Tok} {r : Rd}
theorem cnt_let (L : List Tok) (r : Rd) : cnt L (oneLet numT L r).2 ≤ cnt L r + 1 := by
  unfold oneLet
  have h1 := cnt_name L r
  have h2 := cnt_want L (r.nameT L).2 2 [61]
  have h3 := cnt_exprI numT L 0 0 ((r.nameT L).2.want L 2 [61])
  rw [show extraN 0 = 1 from rfl] at h3
  have h4 := cnt_want L (exprI numT L 0 0 ((r.nameT L).2.want L 2 [61])).2 2 [59]
  show cnt L ((exprI numT L 0 0 ((r.nameT L).2.want L 2 [61])).2.want L 2 [59]) ≤ _
  omega
end
end Go.Proofs.YtbcfplaalepnbaaGreatDoor
namespace Go.Proofs.YtbcfplaalepnbaaGreatDoor
open Go.Lib
theorem LetsEnd.le {l : List Nd} : ∀ {m : List (ByteArray × Int)} {b e : Nat}, LetsEnd l b m e → b ≤ e := by
  intro m
  induction m with
  | nil => intro b e h; exact Nat.le_of_eq h
  | cons x m ih =>
    rintro b e ⟨i, -, -, hs, h⟩
    have := ih h
    have := hs.le
    omega
theorem LetsEnd.parts {l : List Nd} : ∀ {m : List (ByteArray × Int)} {b e : Nat}, LetsEnd l b m e → ∀ p n, b ≤ p → p < e → l[p]? = some n → 2 ≤ n.kind → (b : Int) ≤ n.a ∧ n.a < p ∧ (n.kind ≤ 5 → (b : Int) ≤ n.b ∧ n.b < p) := by
  intro m
  induction m with
  | nil => intro b e h p n h1 h2; have : b = e := h; omega
  | cons x m ih =>
    rintro b e ⟨i, -, -, hs, h⟩ p n h1 h2 hn hk
    have hle := hs.le
    by_cases hp : p ≤ i
    · exact seg_parts hs p n h1 hp hn hk
    · obtain ⟨q1, q2, q3⟩ := ih h p n (by omega) h2 hn hk
      exact ⟨by omega, q2, fun h5 => by have := q3 h5; omega⟩
theorem LetsEnd.roots {l : List Nd} : ∀ {m : List (ByteArray × Int)} {b e : Nat}, LetsEnd l b m e → ∀ x ∈ m, (b : Int) ≤ x.2 ∧ x.2 < e := by
  intro m
  induction m with
  | nil => intro b e _ x hx; exact absurd hx (by simp)
  | cons y m ih =>
    rintro b e ⟨i, hy, -, hs, h⟩ x hx
    have hle := hs.le
    have hle2 := h.le
    rcases List.mem_cons.1 hx with rfl | hx
    · rw [hy]; omega
    · have := ih h x hx; omega
end Go.Proofs.YtbcfplaalepnbaaGreatDoor
namespace Go.Proofs.YtbcfplaalepnbaaGreatDoor
open Go.Lib
def Behind (l : List Nd) : Prop := ∀ (p : Nat) (n : Nd), l[p]? = some n → 2 ≤ n.kind → 0 ≤ n.a ∧ n.a < (p : Int) ∧ (n.kind ≤ 5 → 0 ≤ n.b ∧ n.b < (p : Int))
theorem LetsEnd.behind {l : List Nd} {m : List (ByteArray × Int)} (h : LetsEnd l 0 m l.length) : Behind l := fun p n hn hk => by
  have hp := (List.getElem?_eq_some_iff.1 hn).1
  exact h.parts p n (Nat.zero_le _) hp hn hk
theorem tall_more {l : List Nd} (h : Behind l) : ∀ (f i : Nat), i + 1 ≤ f → ∀ g, i + 1 ≤ g → tallF l f i = tallF l g i := by
  intro f
  induction f with
  | zero => intro i hf; omega
  | succ f ih =>
    intro i hf g hg
    cases g with
    | zero => omega
    | succ g =>
      unfold tallF
      rw [Int.toNat_natCast]
      cases hn : l[i]? with
      | none => rfl
      | some n =>
        dsimp only
        by_cases h1 : n.kind ≤ 1
        · rw [if_pos h1, if_pos h1]
        rw [if_neg h1, if_neg h1]
        obtain ⟨a0, a1, hb⟩ := h i n hn (by omega)
        obtain ⟨a, ha⟩ : ∃ a : Nat, n.a = (a : Int) := ⟨n.a.toNat, by omega⟩
        rw [ha, ih a (by omega) g (by omega)]
        by_cases h5 : n.kind ≤ 5
        · rw [if_pos h5, if_pos h5]
          obtain ⟨b0, b1⟩ := hb h5
          obtain ⟨b, hb⟩ : ∃ b : Nat, n.b = (b : Int) := ⟨n.b.toNat, by omega⟩
          rw [hb, ih b (by omega) g (by omega)]
        · rw [if_neg h5, if_neg h5]
theorem tall_step {l : List Nd} (h : Behind l) {i : Nat} {n : Nd} (hn : l[i]? = some n) : tallI l i = if n.kind ≤ 1 then 1 else if n.kind ≤ 5 then 1 + max (tallI l n.a.toNat) (tallI l n.b.toNat) else 1 + tallI l n.a.toNat := by
  unfold tallI
  conv => lhs; unfold tallF
  rw [Int.toNat_natCast, hn]
  dsimp only
  by_cases h1 : n.kind ≤ 1
  · rw [if_pos h1, if_pos h1]
  rw [if_neg h1, if_neg h1]
  obtain ⟨a0, a1, hb⟩ := h i n hn (by omega)
  have ea : n.a = (n.a.toNat : Int) := by omega
  by_cases h5 : n.kind ≤ 5
  · rw [if_pos h5, if_pos h5]
    obtain ⟨b0, b1⟩ := hb h5
    have eb : n.b = (n.b.toNat : Int) := by omega
    generalize n.a.toNat = a at *
    generalize n.b.toNat = b at *
    rw [ea, eb, tall_more h i a (by omega) (a + 1) (by omega), tall_more h i b (by omega) (b + 1) (by omega)]
  · rw [if_neg h5, if_neg h5]
    generalize n.a.toNat = a at *
    rw [ea, tall_more h i a (by omega) (a + 1) (by omega)]
theorem tall_range {l : List Nd} (h : Behind l) : ∀ (k i : Nat), i ≤ k → i < l.length → 1 ≤ tallI l i ∧ tallI l i ≤ (i : Int) + 1 := by
  intro k
  induction k with
  | zero =>
    intro i hi hl
    obtain rfl : i = 0 := by omega
    obtain ⟨n, hn⟩ : ∃ n, l[0]? = some n := ⟨_, List.getElem?_eq_getElem hl⟩
    rw [tall_step h hn]
    by_cases h1 : n.kind ≤ 1
    · rw [if_pos h1]; omega
    · have := h 0 n hn (by omega); omega
  | succ k ih =>
    intro i hi hl
    obtain ⟨n, hn⟩ : ∃ n, l[i]? = some n := ⟨_, List.getElem?_eq_getElem hl⟩
    rw [tall_step h hn]
    by_cases h1 : n.kind ≤ 1
    · rw [if_pos h1]; omega
    rw [if_neg h1]
    obtain ⟨a0, a1, hb⟩ := h i n hn (by omega)
    have q1 := ih n.a.toNat (by omega) (by omega)
    by_cases h5 : n.kind ≤ 5
    · rw [if_pos h5]
      have := hb h5
      have q2 := ih n.b.toNat (by omega) (by omega)
      omega
    · rw [if_neg h5]; omega
end Go.Proofs.YtbcfplaalepnbaaGreatDoor
namespace Go.Proofs.YtbcfplaalepnbaaGreatDoor
open Go.RowKit Go.Lib
def Nw.nd (x : Nw) : Nd := ⟨x.kind, x.a, x.b, x.exp, x.name, (x.neg, val x.xs, val x.ys)⟩
theorem nd_raw (n : Nd) : (rawOf n).nd = n := by
  unfold rawOf Nw.nd
  dsimp only
  rw [val_natOf, val_natOf]
def IsN (w : World) (a : Option Addr) (n : Nat) (ms : List Mn) : Prop := ms.length = n ∧ (n = 0 ∨ ∃ g o, a = some ⟨g, o, none⟩ ∧ ∀ i m, ms[i]? = some m → ∀ j u, (encM m)[j]? = some u → w.cell? ⟨g, o + i * 8 + j, none⟩ = some u)
theorem IsN.below {w w' : World} {a : Option Addr} {n : Nat} {ms : List Mn} (h : IsN w a n ms) (hb : Below w.heap.size w w') : IsN w' a n ms := by
  refine ⟨h.1, ?_⟩
  rcases h.2 with h0 | ⟨g, o, e, hc⟩
  · exact .inl h0
  · refine .inr ⟨g, o, e, fun i m hm j u hj => ?_⟩
    have := hc i m hm j u hj
    rw [hb.cell (p := ⟨g, o + i * 8 + j, none⟩) (World.block_lt_of_cell? w _ this)]; exact this
theorem OwnC.isn {T : TypeId} {W w : World} {a : Option Addr} {n c : Nat} {ms : List Mn} (h : w.ownsRow W.heap.size T 8 (.slice a n c) n (flat encM ms)) : IsN w a n ms := by
  have hl : ms.length = n := by
    have := h.1
    rw [flat_length encM_length] at this
    omega
  refine ⟨hl, ?_⟩
  rcases h.2 with ⟨-, h0⟩ | ⟨g, cap, cur, e, -, hg, -, -, -, ht⟩
  · exact .inl h0
  · right
    simp only [Value.slice.injEq] at e
    refine ⟨g, 0, e.1, fun i m hm j u hj => ?_⟩
    have hjk : j < 8 := by rw [← encM_length m]; exact (List.getElem?_eq_some_iff.1 hj).1
    have hi : i < ms.length := (List.getElem?_eq_some_iff.1 hm).1
    have hf := flat_get encM_length ms i m hm j hjk
    rw [hj] at hf
    have hlt : i * 8 + j < n * 8 := by omega
    rw [← ht, List.getElem?_take, if_pos hlt] at hf
    rw [Nat.zero_add]
    simp only [World.cell?, hg]
    rw [← hf]
    simp
theorem IsN.node {w : World} {a : Option Addr} {n : Nat} {ms : List Mn} (h : IsN w a n ms) {i : Nat} {m : Mn} (hm : ms[i]? = some m) : ∃ g o, a = some ⟨g, o, none⟩ ∧ w.cell? ⟨g, o + i * 8, none⟩ = some (.int .i64 m.1.kind) ∧ w.cell? ⟨g, o + i * 8 + 1, none⟩ = some (.int .i64 m.1.a) ∧ w.cell? ⟨g, o + i * 8 + 2, none⟩ = some (.int .i64 m.1.b) ∧ w.cell? ⟨g, o + i * 8 + 3, none⟩ = some (.int .i64 m.1.exp) ∧
    w.cell? ⟨g, o + i * 8 + 4, none⟩ = some (.string m.1.name) ∧ w.cell? ⟨g, o + i * 8 + 5, none⟩ = some (.bool m.1.neg) ∧ w.cell? ⟨g, o + i * 8 + 6, none⟩ = some m.2.1 ∧ w.cell? ⟨g, o + i * 8 + 7, none⟩ = some m.2.2 := by
  rcases h.2 with h0 | ⟨g, o, e, hc⟩
  · have := (List.getElem?_eq_some_iff.1 hm).1
    have := h.1
    omega
  · exact ⟨g, o, e, hc i m hm 0 _ rfl, hc i m hm 1 _ rfl, hc i m hm 2 _ rfl, hc i m hm 3 _ rfl, hc i m hm 4 _ rfl, hc i m hm 5 _ rfl, hc i m hm 6 _ rfl, hc i m hm 7 _ rfl⟩
end Go.Proofs.YtbcfplaalepnbaaGreatDoor
namespace Go.Proofs.YtbcfplaalepnbaaGreatDoor
open Go.RowKit Go.Lib
theorem infoInt : (Tryz.prog.info? 3).map (fun i => (i.zero, i.size, i.bytes)) = some (some (.int .i64 0), 1, 8) := by kernel_rfl
def hts (l : List Nd) (n : Nat) : List Int := (List.range n).map fun i => tallI l i
theorem hts_length (l : List Nd) (n : Nat) : (hts l n).length = n := by unfold hts; simp
theorem hts_get (l : List Nd) {n i : Nat} (h : i < n) : (hts l n)[i]? = some (tallI l i) := by unfold hts; simp [h]
end Go.Proofs.YtbcfplaalepnbaaGreatDoor
namespace Go.Proofs.YtbcfplaalepnbaaGreatDoor
open Go.RowKit Go.Lib
def lngB (l : List Nd) (i t o : Nat) : Bool := decide (400 < l.length) || decide (40 < i) || decide (40 < t) || decide (40 < o) || (List.range l.length).any fun k => decide (60 < tallI l k)
end Go.Proofs.YtbcfplaalepnbaaGreatDoor
namespace Go.Proofs.YtbcfplaalepnbaaGreatDoor
open Go.RowKit Go.Lib
def ptsI (k a b : Int) : List Int := if k = 0 ∨ k = 1 then [] else if k = 6 ∨ k = 7 then [a] else [a, b]
theorem OwnC.set1 {T : TypeId} {W w : World} {g n c : Nat} {cs : List Value} (h : OwnC T 1 W w (.slice (some ⟨g, 0, none⟩) n c) n cs) (k : Nat) (y : Value) :
    OwnC T 1 W (w.setCell ⟨g, k, none⟩ y) (.slice (some ⟨g, 0, none⟩) n c) n (cs.set k y) := by
  have hl := h.length
  rcases h.1.2 with ⟨e, -⟩ | ⟨g', cap, cur, e, h1, hg, h2, h3, h4, h5⟩
  · simp at e
  · simp only [Value.slice.injEq, Option.some.injEq, Addr.mk.injEq] at e
    obtain ⟨⟨rfl, -⟩, -, rfl⟩ := e
    refine ⟨⟨by simp; omega, .inr ⟨g, c, cur.setIfInBounds k y, rfl, h1, ?_, h2, h3, by simpa using h4, ?_⟩⟩, h.2.setCell h1 _⟩
    · have hlt := (Array.getElem?_eq_some_iff.1 hg).1
      have hv := (Array.getElem?_eq_some_iff.1 hg).2
      simp only [World.setCell]
      rw [Array.getElem?_eq_getElem (by simpa using hlt), Array.getElem_modify]
      simp [hv]
    · rw [Array.toList_setIfInBounds, List.take_set, h5]
theorem OwnC.at1 {T : TypeId} {W w : World} {g n c : Nat} {cs : List Value} (h : OwnC T 1 W w (.slice (some ⟨g, 0, none⟩) n c) n cs) {k : Nat} {y : Value} (hk : cs[k]? = some y) : w.cell? ⟨g, k, none⟩ = some y ∧ w.frozen? ⟨g, k, none⟩ = false ∧ W.heap.size ≤ g ∧ g < w.heap.size := by
  rcases h.1.2 with ⟨e, -⟩ | ⟨g', cap, cur, e, h1, hg, h2, h3, h4, h5⟩
  · simp at e
  · simp only [Value.slice.injEq, Option.some.injEq, Addr.mk.injEq] at e
    obtain ⟨⟨rfl, -⟩, -, rfl⟩ := e
    have hB : BoxC w g cur T := hg
    refine ⟨?_, (hB.cell k).2, h1, hB.lt⟩
    rw [(hB.cell k).1]
    rw [← h5] at hk
    rw [List.getElem?_take] at hk
    split at hk
    · rw [← hk, Array.getElem?_toList]
    · exact absurd hk (by simp)
theorem wpl_make_ints {ops : Array Oper} {rest : List Oper} {o : Oper} {a : Act} {Q : Exit → Act → World → Prop} (l : Operand)
    (ho : o.op = .makeSlice 37 l l) (hgd : o.guard = none) (W w : World) (n : Nat) (N : Int) (hl : a.eval l = .int .i64 N) (hN : N = n) (hle : n ≤ 1000000) (hb : Below W.heap.size W w)
    (h : ∀ g w', W.heap.size ≤ g → w.heap.size ≤ g → OwnC 3 1 W w' (.slice (some ⟨g, 0, none⟩) n n) n ((List.replicate n 0).map (Value.int .i64)) → Below w.heap.size w w' → wpList Tryz.prog ops Q rest (a.put o.dst (.slice (some ⟨g, 0, none⟩) n n)) w') : wpList Tryz.prog ops Q (o :: rest) a w := by
  obtain ⟨i, hi, hz, hs1, hby⟩ := info_parts infoInt
  refine wpList_make_full w hgd l l 37 ho W.heap.size 3 i (.int .i64 0) 1 Tryz.underlying37 hi hz hs1 .i64 .i64 N N n hl hl hN hN (by rw [hby]; omega) (by unfold maxLen; omega) hb.size ?_
  intro w' h1 h2
  refine h _ w' hb.size (Nat.le_refl _) ⟨?_, hb.grown h2 hb.size (fun k e => by cases e)⟩ ((Below.refl _ w).grown h2 (Nat.le_refl _) (fun k e => by cases e))
  have e : (madeCells (Value.int .i64 0).cells (n * 1)).toList = (List.replicate n (0 : Int)).map (Value.int .i64) := by
    apply List.ext_getElem?
    intro j
    by_cases hj : j < n
    · simp [madeCells, Value.cells, hj, Nat.mod_one]
    · simp [madeCells, Value.cells, hj]
  rw [← e]; exact h1
def IsP (B : Nat) (w : World) (pa : Option Addr) (P : List Int) : Prop := P = [] ∨ ∃ b, pa = some ⟨b, 0, none⟩ ∧ B ≤ b ∧ b < w.heap.size ∧ ∀ (j : Nat) (x : Int), P[j]? = some x → w.cell? ⟨b, j, none⟩ = some (.int .i64 x)
set_option maxHeartbeats 8000000 in
theorem tree_parts (k a b x : Int) (nm : ByteArray) (ng : Bool) (ua : Option Addr) (un uc : Nat) (va : Option Addr) (vn vc : Nat) (w : World) :
    Calls Tryz.prog 71 #[.agg #[.int .i64 k, .int .i64 a, .int .i64 b, .int .i64 x, .string nm, .bool ng, .slice ua un uc, .slice va vn vc]] w fun e w' => ∃ pa c, e = .returned (.slice pa (ptsI k a b).length c) ∧ IsP w.heap.size w' pa (ptsI k a b) ∧ Below w.heap.size w w' := by
  obtain ⟨B1, bV, hs⟩ := boxes1 w #[.int .i64 k, .int .i64 a, .int .i64 b, .int .i64 x, .string nm, .bool ng, .slice ua un uc, .slice va vn vc] 44
  have z0 := (B1.cell 0).1
  have z1 := (B1.cell 1).1
  have z2 := (B1.cell 2).1
  unfold ptsI
  by_cases h0 : k = 0
  · subst h0
    rw [if_pos (.inl rfl)]
    clear B1
    go_enter Tryz.func71, Tryz.ntmps71
    go_wp2
    go_ret
    exact ⟨none, 0, rfl, .inl rfl, bV⟩
  by_cases h1 : k = 1
  · subst h1
    rw [if_pos (.inr rfl)]
    clear B1
    go_enter Tryz.func71, Tryz.ntmps71
    go_wp2
    go_ret
    exact ⟨none, 0, rfl, .inl rfl, bV⟩
  rw [if_neg (by omega)]
  have e0 : (k == 0) = false := by rw [beq_eq_false_iff_ne]; exact h0
  have e1 : (k == 1) = false := by rw [beq_eq_false_iff_ne]; exact h1
  by_cases h6 : k = 6
  · subst h6
    rw [if_pos (.inl rfl)]
    have HI : Hid (∀ (V : World) (M : Nat) (y : Int), V.heap.size = M → w.heap.size ≤ M → IsP w.heap.size (V.alloc (.cells #[.int .i64 y] 3)) (some ⟨M, 0, none⟩) [y]) := fun V M y h h2 => by
      subst h
      have B := BoxC.new V #[.int .i64 y] 3
      refine .inr ⟨_, rfl, h2, B.lt, fun j x hj => ?_⟩
      rcases (show j = 0 ∨ 1 ≤ j by omega) with rfl | q
      · simp at hj; subst hj; exact (B.cell 0).1
      · rw [List.getElem?_eq_none (by simpa using q)] at hj; exact absurd hj (by simp)
    have HB : Hid (Below w.heap.size w _) := bV
    clear B1 bV
    go_enter Tryz.func71, Tryz.ntmps71
    go_wp2
    go_ret
    exact ⟨_, 1, rfl, HI.out _ _ a (by simp) (by omega), HB.out.alloc HB.out.size _⟩
  by_cases h7 : k = 7
  · subst h7
    rw [if_pos (.inr rfl)]
    have HI : Hid (∀ (V : World) (M : Nat) (y : Int), V.heap.size = M → w.heap.size ≤ M → IsP w.heap.size (V.alloc (.cells #[.int .i64 y] 3)) (some ⟨M, 0, none⟩) [y]) := fun V M y h h2 => by
      subst h
      have B := BoxC.new V #[.int .i64 y] 3
      refine .inr ⟨_, rfl, h2, B.lt, fun j x hj => ?_⟩
      rcases (show j = 0 ∨ 1 ≤ j by omega) with rfl | q
      · simp at hj; subst hj; exact (B.cell 0).1
      · rw [List.getElem?_eq_none (by simpa using q)] at hj; exact absurd hj (by simp)
    have HB : Hid (Below w.heap.size w _) := bV
    clear B1 bV
    go_enter Tryz.func71, Tryz.ntmps71
    go_wp2
    go_ret
    exact ⟨_, 1, rfl, HI.out _ _ a (by simp) (by omega), HB.out.alloc HB.out.size _⟩
  rw [if_neg (by omega)]
  have e6 : (k == 6) = false := by rw [beq_eq_false_iff_ne]; exact h6
  have e7 : (k == 7) = false := by rw [beq_eq_false_iff_ne]; exact h7
  have HI : Hid (∀ (V : World) (M : Nat) (y z : Int), V.heap.size = M → w.heap.size ≤ M → IsP w.heap.size (V.alloc (.cells #[.int .i64 y, .int .i64 z] 3)) (some ⟨M, 0, none⟩) [y, z]) := fun V M y z hM h2 => by
    subst hM
    have B := BoxC.new V #[.int .i64 y, .int .i64 z] 3
    refine .inr ⟨_, rfl, h2, B.lt, fun j x hj => ?_⟩
    rcases (show j = 0 ∨ j = 1 ∨ 2 ≤ j by omega) with rfl | rfl | q
    · simp at hj; subst hj; exact (B.cell 0).1
    · simp at hj; subst hj; exact (B.cell 1).1
    · rw [List.getElem?_eq_none (by simpa using q)] at hj; exact absurd hj (by simp)
  have HB : Hid (Below w.heap.size w _) := bV
  clear B1 bV h0 h1 h6 h7
  go_enter Tryz.func71, Tryz.ntmps71
  go_wp2
  go_ret
  exact ⟨_, 2, rfl, HI.out _ _ a b (by simp) (by omega), HB.out.alloc HB.out.size _⟩
set_option maxHeartbeats 8000000 in
theorem tree_few (il ic tl tc ol oc n c : Nat) (ia ta oa a : Option Addr) (r : Bool) (hr : (decide (n ≤ 400) && decide (il ≤ 40) && decide (tl ≤ 40) && decide (ol ≤ 40)) = r) (w : World) :
    Calls Tryz.prog 28 #[.agg #[.slice ia il ic, .slice ta tl tc, .slice oa ol oc, .slice a n c]] w fun e w' => e = .returned (.bool r) ∧ Below w.heap.size w w' := by
  obtain ⟨B1, bV, hs⟩ := boxes1 w #[.slice ia il ic, .slice ta tl tc, .slice oa ol oc, .slice a n c] 27
  have z0 := (B1.cell 0).1
  have z1 := (B1.cell 1).1
  have z2 := (B1.cell 2).1
  have z3 := (B1.cell 3).1
  clear B1 hs
  by_cases h1 : n ≤ 400
  · have k1 : (n : Int) ≤ 400 := by omega
    rw [decide_eq_true h1, Bool.true_and] at hr
    have hr' : decide ((max (max il tl) ol : Nat) ≤ 40) = r := by
      rw [← hr]
      by_cases q : il ≤ 40 ∧ tl ≤ 40 ∧ ol ≤ 40
      · rw [decide_eq_true q.1, decide_eq_true q.2.1, decide_eq_true q.2.2, decide_eq_true (by omega)]; rfl
      · rw [decide_eq_false (by omega)]
        symm
        rw [Bool.and_eq_false_iff, Bool.and_eq_false_iff, decide_eq_false_iff_not, decide_eq_false_iff_not, decide_eq_false_iff_not]
        omega
    clear hr
    rcases Nat.lt_or_ge il tl with p1 | p1
    · have q1 : (il : Int) < tl := by omega
      rcases Nat.lt_or_ge tl ol with p2 | p2
      · have q2 : ¬ (ol : Int) ≤ tl := by omega
        have q3 : (tl : Int) < ol := by omega
        have e : decide ((ol : Int) ≤ 40) = r := by rw [← hr']; exact decide_eq_decide.2 (by omega)
        have p2' : ¬ ol ≤ tl := by omega
        clear hr' h1
        go_enter Tryz.func28, Tryz.ntmps28
        go_wp2
        go_ret
        exact ⟨by rw [← e]; rfl, bV⟩
      · have q2 : (ol : Int) ≤ tl := by omega
        have q3 : ¬ (tl : Int) < ol := by omega
        have e : decide ((tl : Int) ≤ 40) = r := by rw [← hr']; exact decide_eq_decide.2 (by omega)
        clear hr' h1
        go_enter Tryz.func28, Tryz.ntmps28
        go_wp2
        go_ret
        exact ⟨by rw [← e]; rfl, bV⟩
    · have q1 : ¬ (il : Int) < tl := by omega
      have p1' : ¬ il < tl := by omega
      rcases Nat.lt_or_ge il ol with p2 | p2
      · have q2 : ¬ (ol : Int) ≤ il := by omega
        have q3 : (il : Int) < ol := by omega
        have e : decide ((ol : Int) ≤ 40) = r := by rw [← hr']; exact decide_eq_decide.2 (by omega)
        have p2' : ¬ ol ≤ il := by omega
        clear hr' h1
        go_enter Tryz.func28, Tryz.ntmps28
        go_wp2
        go_ret
        exact ⟨by rw [← e]; rfl, bV⟩
      · have q2 : (ol : Int) ≤ il := by omega
        have q3 : ¬ (il : Int) < ol := by omega
        have e : decide ((il : Int) ≤ 40) = r := by rw [← hr']; exact decide_eq_decide.2 (by omega)
        clear hr' h1
        go_enter Tryz.func28, Tryz.ntmps28
        go_wp2
        go_ret
        exact ⟨by rw [← e]; rfl, bV⟩
  · have k1 : ¬ (n : Int) ≤ 400 := by omega
    rw [decide_eq_false h1] at hr
    simp only [Bool.false_and] at hr
    subst hr
    clear h1
    go_enter Tryz.func28, Tryz.ntmps28
    go_wp2
    go_ret
    exact ⟨rfl, bV⟩
end Go.Proofs.YtbcfplaalepnbaaGreatDoor
