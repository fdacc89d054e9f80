/-
  Texts of mine in build order. No conditions of their own.
-/
import Derived.Deep.RegionHeld3
import Derived.Laws.Bits64b
import Derived.Test.YtaeladkcmpdkhaaGreatDoorPack7
set_option maxHeartbeats 4000000
namespace Go.Proofs.YtaeladkcmpdkhaaGreatDoor
section
open Go.RowKit
def decI (z : Int) : List UInt8 := if z < 0 then 45 :: decOf z.natAbs else decOf z.natAbs
def stripI (l : List UInt8) : List UInt8 := if l.head? = some 45 then l.tail else l
def minusI (l : List UInt8) : Bool := decide (l.head? = some 45)
def znum (l : List UInt8) : Int := iv (minusI l) (pnum (stripI l))
def zerr (l : List UInt8) : Int := perr (stripI l)
def AnsIP (W : World) (z E : Int) (e : Ending) (w' : World) : Prop :=
 ∃ a c, e = .returned (.tuple #[.agg #[.bool (decide (z < 0)), .slice a (nl z.natAbs) c], .int .i64 E]) ∧ Own W w' (.slice a (nl z.natAbs) c) (nl z.natAbs) (natOf z.natAbs)
theorem extract_tail (s : ByteArray) : (s.extract 1 s.size).data.toList = s.data.toList.tail := by
 rw [ByteArray.data_extract, Array.toList_extract]
 simp
 exact List.take_of_length_le (by simp)
theorem pnum_err {l : List UInt8} (h : perr l ≠ 0) : pnum l = 0 := by
 by_cases h1 : l.length ≤ 1000 ∧ Num l
 ·exact absurd (perr_ok h1.1 h1.2) h
 ·exact if_neg h1
theorem iv_zero (s : Bool) : iv s 0 = 0 := by cases s <;> rfl
theorem pnum_words (l : List UInt8) : nl (pnum l) ≤ 1001 := by
 unfold pnum; split
 ·rename_i h; exact Nat.le_trans (nl_digits h.2.2.1) (by omega)
 ·rw [nl_zero]; omega
end
section
open Go.RowKit
def RI (w : World) (s : Bool) (a : Option Addr) (n c : Nat) (x : Int) : Prop := ∃ zs, IsWords w (.slice a n c) zs ∧ Wd zs ∧ n ≤ 100000 ∧ iv s (val zs) = x
theorem RI.below {w w' : World} {s : Bool} {a : Option Addr} {n c : Nat} {x : Int} (h : RI w s a n c x) (hb : Below w.heap.size w w') : RI w' s a n c x := by
 obtain ⟨zs, h1, h2⟩ := h; exact ⟨zs, h1.below hb, h2⟩
theorem iv_self (z : Int) : iv (decide (z < 0)) z.natAbs = z := by
 unfold iv; by_cases h : z < 0 <;> simp [h] <;> omega
theorem Own.ri {W w : World} {a : Option Addr} {c : Nat} {z : Int} (o : Own W w (.slice a (nl z.natAbs) c) (nl z.natAbs) (natOf z.natAbs)) (hb : nl z.natAbs ≤ 100000) : RI w (decide (z < 0)) a (nl z.natAbs) c z :=
 ⟨_, o.words, wd_natOf _, hb, by rw [val_natOf, iv_self]⟩
end
section
def rv (s : Bool) (A D : Nat) : Rat := mkRat (iv s A) D
abbrev R3 := Bool × Nat × Nat
def tri (q : Rat) : R3 := (decide (q.num < 0), q.num.natAbs, q.den)
def tri0 : R3 := (false, 0, 0)
def RS (k : Nat) (q : Rat) : Prop := nl q.num.natAbs ≤ k ∧ nl q.den ≤ k
theorem rv_tri (q : Rat) : rv (decide (q.num < 0)) q.num.natAbs q.den = q := by
 unfold rv; rw [iv_self]; exact Rat.mkRat_self q
theorem rv_den0 (s : Bool) (A : Nat) : rv s A 0 = 0 := Rat.mkRat_zero _
theorem rv_num0 (s : Bool) (D : Nat) : rv s 0 D = 0 := by
 unfold rv iv; cases s <;> simp
theorem iv_div (s : Bool) (A g : Nat) (h : g ∣ A) : iv s A / (g : Int) = iv s (A / g) := by
 unfold iv; cases s
 ·simp
 ·simp only [if_true]
  obtain ⟨k, rfl⟩ := h
  rcases Nat.eq_zero_or_pos g with rfl | hg
  ·simp
  ·rw [Nat.mul_div_cancel_left _ hg, Int.natCast_mul, ← Int.mul_neg, Int.mul_ediv_cancel_left _ (by omega)]
theorem rv_num (s : Bool) (A D : Nat) (h : 0 < D) : (rv s A D).num = iv s (A / Nat.gcd A D) := by
 unfold rv
 rw [Rat.num_mkRat, if_neg (by omega), iv_abs, Nat.gcd_comm, iv_div _ _ _ (Nat.gcd_dvd_left _ _)]
theorem rv_den (s : Bool) (A D : Nat) (h : 0 < D) : (rv s A D).den = D / Nat.gcd A D := by
 unfold rv
 rw [Rat.den_mkRat, if_neg (by omega), iv_abs, Nat.gcd_comm]
theorem tri_rv (s : Bool) (A D : Nat) (hA : 0 < A) (hD : 0 < D) : tri (rv s A D) = (s, A / Nat.gcd A D, D / Nat.gcd A D) := by
 unfold tri
 rw [rv_num s A D hD, rv_den s A D hD, iv_abs, iv_neg]
 have : 0 < A / Nat.gcd A D := Nat.div_pos (Nat.le_of_dvd hA (Nat.gcd_dvd_left _ _)) (Nat.gcd_pos_of_pos_left _ hA)
 simp [this]
theorem tri_zero : tri 0 = (false, 0, 1) := rfl
theorem den_pos (q : Rat) : 0 < q.den := q.den_pos
theorem rs_mk (n : Int) (d : Nat) (k : Nat) (h1 : nl n.natAbs ≤ k) (h2 : nl d ≤ k) (hk : 1 ≤ k) : RS k (mkRat n d) := by
 unfold RS
 rw [Rat.num_mkRat, Rat.den_mkRat]
 by_cases h : d = 0
 ·rw [if_pos h, if_pos h]
  exact ⟨by rw [show (0 : Int).natAbs = 0 from rfl, nl_zero]; omega, Nat.le_trans (nl_le 1 1 (by omega)) hk⟩
 ·rw [if_neg h, if_neg h]
  refine ⟨Nat.le_trans (nl_mono ?_) h1, Nat.le_trans (nl_mono (Nat.div_le_self _ _)) h2⟩
  exact Int.natAbs_ediv_le_natAbs _ _
theorem rs_rv {s : Bool} {A D k : Nat} (h1 : nl A ≤ k) (h2 : nl D ≤ k) (hk : 1 ≤ k) : RS k (rv s A D) := rs_mk _ _ _ (by rw [iv_abs]; exact h1) h2 hk
end
section
def Heads (X Y A B : Int) : Prop := ∃ P α β : Int, 0 ≤ α ∧ α < P ∧ 0 ≤ β ∧ β < P ∧ A = X * P + α ∧ B = Y * P + β
def shr (s a b A B : Int) : Int := s * (a * A - b * B)
structure Leap (X Y x y a b c d s : Int) : Prop where
 sg : s = 1 ∨ s = -1
 hx : x = shr s a b X Y
 hy : y = shr (-s) c d X Y
 hX : d * x + b * y = X
 y0 : 0 ≤ y
 yx : y ≤ x
 a0 : 0 ≤ a
 b0 : 0 ≤ b
 c0 : 0 ≤ c
 cd : c ≤ d
 bd : b ≤ d
 d1 : 1 ≤ d
 ab : a ≤ b ∨ (s = 1 ∧ a = 1 ∧ b = 0 ∧ c = 0 ∧ d = 1)
 g : ∀ A B : Int, Int.gcd (shr s a b A B) (shr (-s) c d A B) = Int.gcd A B
 u : (s = 1 ∧ c = 0 ∧ d = 1) ∨ ∀ A B : Int, Heads X Y A B → shr s a b A B ≤ B
theorem Leap.start {X Y : Int} (h0 : 0 ≤ Y) (h : Y ≤ X) : Leap X Y X Y 1 0 0 1 1 := by
 refine ⟨.inl rfl, ?_, ?_, ?_, h0, h, ?_, ?_, ?_, ?_, ?_, ?_, ?_, ?_, .inl ⟨rfl, rfl, rfl⟩⟩ <;> simp [shr]
theorem Leap.sure {X Y x y a b c d s A B : Int} (h : Leap X Y x y a b c d s) (h1 : d ≤ y) (h2 : b + d ≤ x - y) (hh : Heads X Y A B) :
  0 ≤ shr (-s) c d A B ∧ shr (-s) c d A B < shr s a b A B := by
 obtain ⟨P, α, β, α0, α1, β0, β1, rfl, rfl⟩ := hh
 obtain ⟨sg, hx, hy, -, -, -, a0, b0, c0, cd, bd, d1, ab, -, -⟩ := h
 have p1 : 0 ≤ (y - d) * P := Int.mul_nonneg (by omega) (by omega)
 have p2 : 0 ≤ (x - y - (b + d)) * P := Int.mul_nonneg (by omega) (by omega)
 rcases sg with rfl | rfl
 ·have p3 : 0 ≤ (d - c) * α := Int.mul_nonneg (by omega) (by omega)
  have p4 : 0 ≤ d * (P - α) := Int.mul_nonneg (by omega) (by omega)
  have p5 : 0 ≤ d * β := Int.mul_nonneg (by omega) (by omega)
  have p6 : 0 < (b + d) * (P - β) := Int.mul_pos (by omega) (by omega)
  have p7 : 0 ≤ (a + c) * α := Int.mul_nonneg (by omega) (by omega)
  unfold shr at *
  subst hx hy
  grind
 ·have : a ≤ b := by omega
  have p3 : 0 ≤ c * α := Int.mul_nonneg (by omega) (by omega)
  have p4 : 0 ≤ d * (P - β) := Int.mul_nonneg (by omega) (by omega)
  have p5 : 0 ≤ (b + d - (a + c)) * α := Int.mul_nonneg (by omega) (by omega)
  have p6 : 0 < (b + d) * (P - α) := Int.mul_pos (by omega) (by omega)
  have p7 : 0 ≤ (b + d) * β := Int.mul_nonneg (by omega) (by omega)
  unfold shr at *
  subst hx hy
  grind
theorem gcd_step (u v q : Int) : Int.gcd v (u - q * v) = Int.gcd u v := by
 rw [Int.gcd_comm v]
 rw [show u - q * v = u + (-q) * v by rw [Int.neg_mul]; omega]
 exact Int.gcd_add_mul_right_left _ _ _
theorem Leap.next {X Y x y a b c d s : Int} (h : Leap X Y x y a b c d s) (h1 : d ≤ y) (h2 : b + d ≤ x - y) :
  Leap X Y y (x % y) c d (a + x / y * c) (b + x / y * d) (-s) := by
 have hs := fun A B => h.sure (A := A) (B := B) h1 h2
 obtain ⟨sg, hx, hy, hX, y0, yx, a0, b0, c0, cd, bd, d1, ab, g, u⟩ := h
 have q1 : 1 ≤ x / y := by
  rw [Int.le_ediv_iff_mul_le (by omega)]; omega
 have e : x % y = x - x / y * y := by rw [Int.mul_comm]; exact Int.emod_def x y
 have r0 := Int.emod_nonneg x (show y ≠ 0 by omega)
 have r1 := Int.emod_lt_of_pos x (show 0 < y by omega)
 generalize x / y = q at *
 generalize x % y = r at *
 have qc : 0 ≤ q * c := Int.mul_nonneg (by omega) (by omega)
 have qd : d ≤ q * d := by have : 0 ≤ (q - 1) * d := Int.mul_nonneg (by omega) (by omega); grind
 have qcd : q * c ≤ q * d := Int.mul_le_mul_of_nonneg_left cd (by omega)
 refine ⟨by omega, ?_, ?_, ?_, r0, by omega, c0, by omega, by omega, ?_, by omega, by omega, .inl cd, ?_, ?_⟩
 ·exact hy
 ·rw [e, hx, hy]; unfold shr; grind
 ·rw [e, ← hX]; grind
 ·rcases ab with ab | ⟨-, rfl, rfl, rfl, rfl⟩ <;> omega
 ·intro A B
  have e2 : shr (- -s) (a + q * c) (b + q * d) A B = shr s a b A B - q * shr (-s) c d A B := by unfold shr; grind
  rw [e2, gcd_step, g]
 ·right
  intro A B hh
  have := hs A B hh
  rcases u with ⟨rfl, rfl, rfl⟩ | u
  ·simp [shr]
  ·have := u A B hh; omega
theorem Leap.most {X Y x y a b c d s : Int} (h : Leap X Y x y a b c d s) (h1 : 1 ≤ x) : d ≤ X ∧ x ≤ X := by
 have p1 : 0 ≤ b * y := Int.mul_nonneg h.b0 h.y0
 have p2 : 0 ≤ (d - 1) * x := Int.mul_nonneg (by have := h.d1; omega) (by omega)
 have p3 : 0 ≤ d * (x - 1) := Int.mul_nonneg (by have := h.d1; omega) (by omega)
 have := h.hX
 constructor <;> grind
theorem Leap.sum {X Y x y a b c d s : Int} (h : Leap X Y x y a b c d s) (h1 : d ≤ y) : b + d ≤ X := by
 have := h.d1
 have := h.yx
 have p1 : 0 ≤ b * (y - 1) := Int.mul_nonneg h.b0 (by omega)
 have p3 : 0 ≤ d * (x - 1) := Int.mul_nonneg (by omega) (by omega)
 have := h.hX
 grind
theorem Leap.half {X Y x y a b c d s : Int} (h : Leap X Y x y a b c d s) (h1 : d ≤ y) (hX : X < 18446744073709551616) : d < 4294967296 := by
 have := h.d1
 have := h.yx
 have p1 : 0 ≤ b * y := Int.mul_nonneg h.b0 h.y0
 have p3 : 0 ≤ d * (x - d) := Int.mul_nonneg (by omega) (by omega)
 have e := h.hX
 rcases Int.lt_or_le d 4294967296 with h2 | h2
 ·exact h2
 ·have p4 : 0 ≤ (d - 4294967296) * (d + 4294967296) := Int.mul_nonneg (by omega) (by omega)
  grind
def Leapt (X Y a b c d : Int) : Prop :=
 (0 ≤ a ∧ a < 4294967296) ∧ (0 ≤ b ∧ b < 4294967296) ∧ (0 ≤ c ∧ c < 4294967296) ∧ (0 ≤ d ∧ d < 4294967296) ∧
 ∀ A B : Nat, Heads X Y A B → Nat.gcd (a * A - b * B).natAbs (c * A - d * B).natAbs = Nat.gcd A B ∧ (c * A - d * B).natAbs < (a * A - b * B).natAbs ∧ (a * A - b * B).natAbs ≤ B
theorem natAbs_shr {s a b A B : Int} (h : s = 1 ∨ s = -1) : (shr s a b A B).natAbs = (a * A - b * B).natAbs := by
 unfold shr; rcases h with rfl | rfl <;> omega
theorem Leap.leapt {X Y x y a b c d s : Int} (h : Leap X Y x y a b c d s) (h1 : d ≤ y) (h2 : b + d ≤ x - y) (hX : X < 18446744073709551616) (hc : c ≠ 0) : Leapt X Y a b c d := by
 have hd := h.half h1 hX
 have hs := fun A B => h.sure (A := A) (B := B) h1 h2
 obtain ⟨sg, -, -, -, -, -, a0, b0, c0, cd, bd, d1, ab, g, u⟩ := h
 have u := u.resolve_left (by omega)
 refine ⟨by omega, by omega, by omega, by omega, fun A B hh => ?_⟩
 have g := g A B
 have u := u A B hh
 have hs := hs A B hh
 unfold Int.gcd at g
 rw [natAbs_shr sg, natAbs_shr (by omega)] at g
 have e1 := natAbs_shr (a := a) (b := b) (A := A) (B := B) sg
 have e2 := natAbs_shr (s := -s) (a := c) (b := d) (A := A) (B := B) (by omega)
 refine ⟨by simpa using g, by omega, by omega⟩
end
section
open Go.RowKit
theorem common_sure (x y a b c d : Int) (w : World) (_y0 : 0 ≤ y) (yx : y ≤ x) (x1 : x < 18446744073709551616) (b0 : 0 ≤ b) (d0 : 0 ≤ d) (hs : d ≤ y → b + d < 18446744073709551616) (r : Bool) (hr : decide (d ≤ y ∧ b + d ≤ x - y) = r) :
  Calls Tryz.prog 233 #[.int .u64 x, .int .u64 y, .agg #[.int .u64 a, .int .u64 b], .agg #[.int .u64 c, .int .u64 d]] w fun e w' => e = .returned (.bool r) ∧ Below w.heap.size w w' := by
 have B : Below w.heap.size w ((w.alloc (.cells #[.int .u64 a, .int .u64 b] 244)).alloc (.cells #[.int .u64 c, .int .u64 d] 244)) := ((Below.refl _ _).alloc (Nat.le_refl _) _).alloc (by simp) _
 by_cases h1 : d ≤ y
 ·have h2 := hs h1
  subst hr
  clear hs
  go_enter Tryz.func233, Tryz.ntmps233
  go_wp2
  go_ret
  exact ⟨ret_bool (by rw [Bool.eq_iff_iff]; simp [h1]), B⟩
 ·subst hr
  clear hs
  go_enter Tryz.func233, Tryz.ntmps233
  go_wp2
  go_ret
  exact ⟨ret_bool (by simp; omega), B⟩
def Box (v : World) (k : Nat) (a b : Int) : Prop := v.heap[k]? = some (.cells #[.int .u64 a, .int .u64 b] 244 (0, 0))
theorem Box.cells {v : World} {k : Nat} {a b : Int} (h : Box v k a b) : v.cell? ⟨k, 0, none⟩ = some (.int .u64 a) ∧ v.cell? ⟨k, 1, none⟩ = some (.int .u64 b) ∧ v.frozen? ⟨k, 0, none⟩ = false ∧ v.frozen? ⟨k, 1, none⟩ = false := by
 unfold Box at h
 simp [World.cell?, World.frozen?, h]
theorem Box.lt {v : World} {k : Nat} {a b : Int} (h : Box v k a b) : k < v.heap.size := (Array.getElem?_eq_some_iff.1 h).1
theorem Box.more {v w : World} {k : Nat} {a b : Int} (h : Box v k a b) (hb : Below v.heap.size v w) : Box w k a b := (hb.block k h.lt).trans h
theorem Box.drew {v : World} {k : Nat} {a b : Int} (h : Box v k a b) : Box v.drew k a b := h
theorem Box.other {v : World} {k : Nat} {a b : Int} (h : Box v k a b) {j : Nat} (o : Nat) (hne : k ≠ j) (u : Value) : Box (v.setCell ⟨j, o, none⟩ u) k a b :=
 (Below.heap_setCell v ⟨j, o, none⟩ u k hne).trans h
theorem Box.put {v : World} {k : Nat} {a b : Int} (h : Box v k a b) (x y : Int) : Box ((v.setCell ⟨k, 0, none⟩ (.int .u64 x)).setCell ⟨k, 1, none⟩ (.int .u64 y)) k x y := by
 have hlt := h.lt
 have hv := (Array.getElem?_eq_some_iff.1 h).2
 unfold Box
 simp only [World.setCell]
 rw [Array.getElem?_eq_getElem (by simpa using hlt), Array.getElem_modify, if_pos rfl, Array.getElem_modify, if_pos rfl, hv]
 rfl
theorem Box.drewN {v : World} {k : Nat} {a b : Int} (h : Box v k a b) (n : Nat) : Box (v.drewN n) k a b := h.more (below_drewN (Below.refl _ _) n)
theorem boxes_round {w v : World} {p q r t a b c d : Int} (n : Nat) (e f : Int) (b1 : Box v w.heap.size p q) (b2 : Box v (w.heap.size + 1) r t) (b3 : Box v (w.heap.size + 2) a b) (b4 : Box v (w.heap.size + 3) c d) (B : Below w.heap.size w v) :
    ∀ W, W = (((((((((v.setCell ⟨w.heap.size, 0, none⟩ (.int .u64 a)).setCell ⟨w.heap.size, 1, none⟩ (.int .u64 b)).setCell ⟨w.heap.size + 1, 0, none⟩ (.int .u64 c)).setCell ⟨w.heap.size + 1, 1, none⟩ (.int .u64 d)).drewN n).setCell
      ⟨w.heap.size + 2, 0, none⟩ (.int .u64 c)).setCell ⟨w.heap.size + 2, 1, none⟩ (.int .u64 d)).setCell ⟨w.heap.size + 3, 0, none⟩ (.int .u64 e)).setCell ⟨w.heap.size + 3, 1, none⟩ (.int .u64 f)) →
    Box W w.heap.size a b ∧ Box W (w.heap.size + 1) c d ∧ Box W (w.heap.size + 2) c d ∧ Box W (w.heap.size + 3) e f ∧ Below w.heap.size w W := by
  rintro W rfl
  refine ⟨?_, ?_, ?_, ?_, ?_⟩
  · exact ((((((((b1.put a b).other _ (by omega) _).other _ (by omega) _).drewN n).other _ (by omega) _).other _ (by omega) _).other _ (by omega) _).other _ (by omega) _)
  · exact ((((((((b2.other _ (by omega) _).other _ (by omega) _).put c d).drewN n).other _ (by omega) _).other _ (by omega) _).other _ (by omega) _).other _ (by omega) _)
  · exact (((((((((b3.other _ (by omega) _).other _ (by omega) _).other _ (by omega) _).other _ (by omega) _).drewN n).put c d).other _ (by omega) _).other _ (by omega) _))
  · exact (((((((((b4.other _ (by omega) _).other _ (by omega) _).other _ (by omega) _).other _ (by omega) _).drewN n).other _ (by omega) _).other _ (by omega) _).put e f))
  · have h0 : w.heap.size ≤ (⟨w.heap.size, 0, none⟩ : Addr).block := Nat.le_refl _
    have h1 : ∀ k o, w.heap.size ≤ (⟨w.heap.size + k, o, none⟩ : Addr).block := fun k o => Nat.le_add_right _ _
    exact (((((below_drewN ((((B.setCell h0 _).setCell (p := ⟨w.heap.size, 1, none⟩) h0 _).setCell (h1 1 0) _).setCell (h1 1 1) _) n).setCell (h1 2 0) _).setCell (h1 2 1) _).setCell (h1 3 0) _).setCell (h1 3 1) _)
theorem Box.new (v : World) (a b : Int) : Box (v.alloc (.cells #[.int .u64 a, .int .u64 b] 244)) v.heap.size a b := by show (v.heap.push _)[v.heap.size]? = _; simp
theorem Box.alloc {v : World} {k : Nat} {a b : Int} (h : Box v k a b) (o : Obj) : Box (v.alloc o) k a b := h.more ((Below.refl _ _).alloc (Nat.le_refl _) _)
theorem Box.at' {v : World} {k j : Nat} {a b : Int} (h : Box v k a b) (e : k = j) : Box v j a b := e ▸ h
theorem wrap_u64 {z : Int} (h0 : 0 ≤ z) (h1 : z < 18446744073709551616) : IntKind.u64.wrap z = z := by
 simp [IntKind.wrap, IntKind.bits, IntKind.signed]; omega
theorem common_leap (X Y : Int) (w : World) (Y0 : 0 ≤ Y) (YX : Y ≤ X) (X1 : X < 18446744073709551616) :
  Calls Tryz.prog 223 #[.int .u64 X, .int .u64 Y] w fun e w' => ∃ a b c d : Int, e = .returned (.tuple #[.agg #[.int .u64 a, .int .u64 b], .agg #[.int .u64 c, .int .u64 d]]) ∧ Below w.heap.size w w' ∧ (c = 0 ∨ Leapt X Y a b c d) := by
 have L0 := Leap.start Y0 YX
 go_enter Tryz.func223, Tryz.ntmps223
 go_wp2
 go_region
 go_wp2
 go_loopw [0, 1] (fun sx sy v => ∃ x y a b c d s p q r t : Int, sx = .int .u64 x ∧ sy = .int .u64 y ∧ Leap X Y x y a b c d s ∧ (r = 0 ∨ Leapt X Y p q r t) ∧ Box v w.heap.size p q ∧ Box v (w.heap.size + 1) r t ∧ Box v (w.heap.size + 2) a b ∧ Box v (w.heap.size + 3) c d ∧ Below w.heap.size w v) (fun _ y _ => (intOf y).toNat)
 case atStart =>
  have HB : ∀ k o, w.heap.size ≤ (⟨w.heap.size + k, o, none⟩ : Addr).block := fun k o => Nat.le_add_right _ _
  refine ⟨X, Y, 1, 0, 0, 1, 1, 1, 0, 0, 1, rfl, rfl, L0, .inl rfl, ?_, ?_, ?_, ?_, ?_⟩
  ·exact Box.drew (((Box.new w 1 0).alloc _).alloc _ |>.alloc _)
  ·exact Box.drew ((((Box.new (w.alloc _) 0 1).alloc _).alloc _).at' (by simp))
  ·exact Box.drew (((Box.new ((w.alloc _).alloc _) 1 0).alloc _).at' (by simp))
  ·exact Box.drew ((Box.new (((w.alloc _).alloc _).alloc _) 0 1).at' (by simp))
  ·exact ((((((Below.refl _ w).alloc (Nat.le_refl _) _).alloc (by simp) _).alloc (by simp; omega) _).alloc (by simp; omega) _).drew)
 case round =>
  obtain ⟨x, y, a, b, c, d, s, p, q, r, t, rfl, rfl, L, S, b1, b2, b3, b4, B⟩ := hrel
  have l0 := L.y0
  have l1 := L.yx
  have l2 := L.b0
  have l3 := L.d1
  have l4 := L.sum
  have l5 : x ≤ X := by
   rcases Int.lt_or_le 0 x with h | h
   ·exact (L.most (by omega)).2
   ·omega
  obtain ⟨c3, c4, f3, f4⟩ := b3.cells
  obtain ⟨c5, c6, f5, f6⟩ := b4.cells
  by_cases hs : d ≤ y ∧ b + d ≤ x - y
  ·obtain ⟨h1, h2⟩ := hs
   have LN := L.next h1 h2
   have SN : c = 0 ∨ Leapt X Y a b c d := by
    by_cases hc : c = 0
    ·exact .inl hc
    ·exact .inr (L.leapt h1 h2 X1 hc)
   have n1 := LN.most (by omega)
   have n2 := LN.cd
   have n3 := LN.c0
   have n4 : 0 ≤ x / y := Int.ediv_nonneg (by omega) (by omega)
   have n5 : 0 ≤ x / y * c := Int.mul_nonneg n4 L.c0
   have n6 : 0 ≤ x / y * d := Int.mul_nonneg n4 (by omega)
   have n7 := L.a0
   have w1 : IntKind.u64.wrap (x / y * c) = x / y * c := wrap_u64 (by omega) (by omega)
   have w2 : IntKind.u64.wrap (x / y * d) = x / y * d := wrap_u64 (by omega) (by omega)
   have w3 : IntKind.u64.wrap (a + x / y * c) = a + x / y * c := wrap_u64 (by omega) (by omega)
   have w4 : IntKind.u64.wrap (b + x / y * d) = b + x / y * d := wrap_u64 (by omega) (by omega)
   have MM : Hid ((x % y).toNat < y.toNat) := (by have h5 := Int.emod_nonneg x (show y ≠ 0 by omega); have h6 := Int.emod_lt_of_pos x (show 0 < y by omega); omega : (x % y).toNat < y.toNat)
   have C := fun v => common_sure x y a b c d v l0 l1 (by omega) l2 (by omega) (fun h => by have := l4 h; omega) true (by simp; omega)
   have HL : Hid (Leap X Y y (x % y) c d (a + x / y * c) (b + x / y * d) (-s)) := LN
   have HS : Hid (c = 0 ∨ Leapt X Y a b c d) := SN
   have HR : Hid (Box wr w.heap.size p q ∧ Box wr (w.heap.size + 1) r t ∧ Box wr (w.heap.size + 2) a b ∧ Box wr (w.heap.size + 3) c d ∧ Below w.heap.size w wr) := ⟨b1, b2, b3, b4, B⟩
   clear LN SN S b1 b2 b3 b4 B L l4
   go_wp2_with (first
    | (go_at_call 233; (with_reducible refine Calls.mono (C _) ?_); rintro e w1 ⟨rfl, B1⟩))
   obtain ⟨b1, b2, b3, b4, B⟩ := HR.out
   have b1 := b1.more B1
   have b2 := b2.more B1
   have b3 := b3.more B1
   have b4 := b4.more B1
   have B := below_more B B1
   have HR : Hid (Box w1 w.heap.size p q ∧ Box w1 (w.heap.size + 1) r t ∧ Box w1 (w.heap.size + 2) a b ∧ Box w1 (w.heap.size + 3) c d ∧ Below w.heap.size w w1) := ⟨b1, b2, b3, b4, B⟩
   clear c3 c4 f3 f4 c5 c6 f5 f6 C B1
   obtain ⟨c1, c2, f1, f2⟩ := b1.cells
   obtain ⟨d1, d2, g1, g2⟩ := b2.cells
   obtain ⟨c3, c4, f3, f4⟩ := b3.cells
   obtain ⟨c5, c6, f5, f6⟩ := b4.cells
   clear b1 b2 b3 b4 B
   go_region
   go_wp2
   go_quiet (fail)
   go_wp2
   go_region
   obtain ⟨b1, b2, b3, b4, B⟩ := HR.out
   clear c1 c2 f1 f2 d1 d2 g1 g2 c3 c4 f3 f4 c5 c6 f5 f6
   go_wp2
   go_roundw
   case rel =>
    obtain ⟨r1, r2, r3, r4, R⟩ := boxes_round (1 + nq + 1) (a + x / y * c) (b + x / y * d) b1 b2 b3 b4 B _ rfl
    exact ⟨y, x % y, c, d, a + x / y * c, b + x / y * d, -s, a, b, c, d, rfl, rfl, HL.out, HS.out, r1, r2, r3, r4, R⟩
   case measure => simp only [intOf]; exact MM.out
  ·have C := fun v => common_sure x y a b c d v l0 l1 (by omega) l2 (by omega) (fun h => by have := l4 h; omega) false (by simp; omega)
   have HR : Hid (Box wr w.heap.size p q ∧ Box wr (w.heap.size + 1) r t ∧ Below w.heap.size w wr) := ⟨b1, b2, B⟩
   have HS : Hid (r = 0 ∨ Leapt X Y p q r t) := S
   clear S b1 b2 b3 b4 B L l4
   go_wp2_with (first
    | (go_at_call 233; (with_reducible refine Calls.mono (C _) ?_); rintro e w1 ⟨rfl, B1⟩))
   obtain ⟨b1, b2, B⟩ := HR.out
   have b1 := b1.more B1
   have b2 := b2.more B1
   have B := below_more B B1
   clear c3 c4 f3 f4 c5 c6 f5 f6 C B1 HR
   obtain ⟨c1, c2, f1, f2⟩ := b1.cells
   obtain ⟨d1, d2, g1, g2⟩ := b2.cells
   have H1 : ∀ k o, w.heap.size ≤ (⟨w.heap.size + k, o, none⟩ : Addr).block := fun k o => Nat.le_add_right _ _
   have HB : Hid (Below w.heap.size w ((((w1.setCell ⟨w.heap.size, 0, none⟩ (.int .u64 p)).setCell ⟨w.heap.size, 1, none⟩ (.int .u64 q)).setCell ⟨w.heap.size + 1, 0, none⟩ (.int .u64 r)).setCell ⟨w.heap.size + 1, 1, none⟩ (.int .u64 t)).drew) :=
    ((((B.setCell (H1 0 0) _).setCell (H1 0 1) _).setCell (H1 1 0) _).setCell (H1 1 1) _).drew
   clear b1 b2 B H1
   go_region
   go_wp2
   exact bodyPost_ret (v := .tuple #[.agg #[.int .u64 p, .int .u64 q], .agg #[.int .u64 r, .int .u64 t]]) (by simp [results, Tryz.results223, go_sem, c1, c2, d1, d2]) rfl ⟨p, q, r, t, rfl, HB.out, HS.out⟩
end
section
open Go.RowKit
theorem IsWords.drop {w : World} {x : Addr} {n c : Nat} {zs : List Int} (h : IsWords w (.slice (some x) n c) zs) (k : Nat) (hk : k ≤ n) (hs : x.spot = none) : IsWords w (.slice (some ⟨x.block, x.off + k, none⟩) (n - k) (c - k)) (zs.drop k) := by
 have hl := h.len
 rcases h with ⟨e, rfl⟩ | ⟨y, cap, e, h1, h2, hc⟩
 ·simp at e
 ·simp only [Value.slice.injEq, Option.some.injEq] at e
  obtain ⟨rfl, rfl, rfl⟩ := e
  have e2 : (zs.drop k).length = zs.length - k := by rw [List.length_drop]
  refine .inr ⟨_, c - k, by rw [e2], by omega, by omega, fun i hi => ?_⟩
  rw [e2] at hi
  have hci := hc (k + i) (by omega)
  rw [show zs.getD (k + i) 0 = (zs.drop k).getD i 0 by simp [List.getD_eq_getElem?_getD]] at hci
  rw [← hci]
  rw [Go.WideShapes.add_plain]
  have : x = ⟨x.block, x.off, none⟩ := by cases x; simp at hs; simp [hs]
  rw [this, Go.WideShapes.add_plain, Nat.add_assoc]
end
section
open Go.RowKit
theorem or_zero (z : Int) (z0 : 0 ≤ z) (z1 : z < 4294967296) : bits BinOp.or IntKind.u64 0 z = z := by
 obtain ⟨y, rfl⟩ : ∃ y : Nat, z = y := ⟨z.toNat, by omega⟩
 have h := bits_or_u64_nat 0 y (by omega) (by omega)
 simpa using h
theorem or_word (s : Nat) (z : Int) (z0 : 0 ≤ z) (z1 : z < 4294967296) (hs : s < 4294967296) : bits BinOp.or IntKind.u64 (s : Int) (z * 4294967296) = s + z * 4294967296 := by
 obtain ⟨y, rfl⟩ : ∃ y : Nat, z = y := ⟨z.toNat, by omega⟩
 have h := bits_or_u64_nat s (y * 4294967296) (by omega) (by omega)
 have e : s ||| y * 4294967296 = s + y * 4294967296 := by
  rw [Nat.or_comm, Nat.mul_comm, show (4294967296 : Nat) = 2 ^ 32 from rfl, ← Nat.two_pow_add_eq_or_of_lt (by omega)]; omega
 rw [e] at h
 simpa using h
theorem nat_small (a : Option Addr) (n c : Nat) (zs : List Int) (w : World) (h : IsWords w (.slice a n c) zs) (hz : Wd zs) (hv : val zs < 18446744073709551616) :
  Calls Tryz.prog 234 #[.slice a n c] w fun e w' => e = .returned (.tuple #[.int .u64 (val zs), .bool true]) ∧ w = w' := by
 have R := nat_right' a n c zs w h hz
 have hL := (h.low hz).2.2
 have hL2 : nl (val zs) ≤ 2 := nl_le 2 _ hv
 have hr := (h.right hz).reads.1
 have hw := wd_natOf (val zs)
 have EV : Hid (val (natOf (val zs)) = val zs) := val_natOf (val zs)
 have hl : (natOf (val zs)).length = nl (val zs) := rfl
 generalize nl (val zs) = L at R hL hL2 hr hl
 generalize natOf (val zs) = ys at hr hw EV hl
 clear h hz
 go_enter Tryz.func234, Tryz.ntmps234
 go_wp2_with (go_at_call 114; with_reducible refine Calls.mono R ?_; rintro e w1 ⟨rfl, rfl⟩)
 go_loop [4, 13] (fun s i => ∃ k : Nat, k ≤ L ∧ i = .int .i64 k ∧ s = .int .u64 (val (ys.take k))) (fun _ i => L - (intOf i).toNat)
 case atStart => exact ⟨0, by omega, rfl, rfl⟩
 case round =>
  obtain ⟨k, hk, rfl, rfl⟩ := hrel
  by_cases hlt : k < L
  ·rcases hr.2 with h0 | ⟨b, off, rfl, hc⟩
   ·omega
   have hck := hc k hlt
   obtain ⟨z0, z1⟩ := wd_getD hw k
   have E : Hid (val (ys.take (k + 1)) = val (ys.take k) + (ys.getD k 0).toNat * 4294967296 ^ k) := val_take_succ ys k
   have hp := val_take_lt ys hw k
   clear hr hc hw R hv
   generalize ys.getD k 0 = z at hck z0 z1 E
   obtain rfl | rfl : k = 0 ∨ k = 1 := by omega
   ·have e0 : val (ys.take 0) = 0 := rfl
    rw [e0] at E ⊢
    clear hp
    rw [show ((0 : Nat) : Int) = 0 from rfl]
    rw [Nat.add_zero] at hck
    go_wp2
    go_round
    case rel => exact ⟨1, by omega, rfl, val_int (by rw [E.out, or_zero z z0 z1]; omega)⟩
    case measure => simp [intOf]; omega
   ·generalize val (ys.take 1) = s at E hp ⊢
    have HP : Hid (s < 4294967296) := (by omega : s < 4294967296)
    clear hp
    go_wp2
    go_round
    case rel => exact ⟨2, by omega, rfl, val_int (by rw [E.out, or_word s z z0 z1 HP.out]; omega)⟩
    case measure => simp [intOf]; omega
  ·have e : ys.take k = ys := List.take_of_length_le (by omega)
   rw [e]
   clear hr hw R hv
   go_wp2
   go_ret2
   exact ⟨ret_ib (by rw [EV.out]), rfl⟩
end
section
open Go.RowKit
theorem heads_drop (xs ys : List Int) (hx : Wd xs) (hy : Wd ys) (k : Nat) : Heads (val (xs.drop k)) (val (ys.drop k)) (val xs) (val ys) := by
 refine ⟨(4294967296 ^ k : Nat), val (xs.take k), val (ys.take k), by omega, ?_, by omega, ?_, ?_, ?_⟩
 ·exact_mod_cast val_take_lt xs hx k
 ·exact_mod_cast val_take_lt ys hy k
 ·have := val_split xs k
  rw [Nat.mul_comm] at this
  exact_mod_cast (by omega : val xs = val (xs.drop k) * 4294967296 ^ k + val (xs.take k))
 ·have := val_split ys k
  rw [Nat.mul_comm] at this
  exact_mod_cast (by omega : val ys = val (ys.drop k) * 4294967296 ^ k + val (ys.take k))
theorem drop_mono (xs ys : List Int) (hx : Wd xs) (k : Nat) (h : val ys ≤ val xs) : val (ys.drop k) ≤ val (xs.drop k) := by
 have h1 := val_split xs k
 have h2 := val_split ys k
 have h3 := val_take_lt xs hx k
 rcases Nat.lt_or_ge (val (xs.drop k)) (val (ys.drop k)) with h4 | h4
 ·have h5 : 4294967296 ^ k * (val (xs.drop k) + 1) ≤ 4294967296 ^ k * val (ys.drop k) := Nat.mul_le_mul_left _ h4
  rw [Nat.mul_add] at h5
  omega
 ·exact h4
theorem IsWords.no (w : World) (x : Addr) (c : Nat) (h : c ≤ 9223372036854775807) : IsWords w (.slice (some x) 0 c) [] :=
 .inr ⟨x, c, rfl, Nat.zero_le _, h, fun i hi => by simp at hi⟩
theorem IsWords.none {w : World} {n c : Nat} {zs : List Int} (h : IsWords w (.slice none n c) zs) : n = 0 ∧ c = 0 ∧ zs = [] := by
 rcases h with ⟨e, rfl⟩ | ⟨x, cap, e, -⟩
 ·simp only [Value.slice.injEq] at e; exact ⟨e.2.1, e.2.2, rfl⟩
 ·simp at e
theorem val_two {xs : List Int} (h : Wd xs) (hl : xs.length ≤ 2) : val xs < 18446744073709551616 := by
 have h1 := val_lt xs h
 have h2 : 4294967296 ^ xs.length ≤ 4294967296 ^ 2 := Nat.pow_le_pow_right (by omega) hl
 omega
theorem common_heads (g n c : Nat) (xs : List Int) (b : Option Addr) (m d : Nat) (ys : List Int) (w : World) (h : IsWords w (.slice (some ⟨g, 0, none⟩) n c) xs) (hx : Wd xs) (k : IsWords w (.slice b m d) ys) (hy : Wd ys)
  (hb : b = none ∨ ∃ gb, b = some ⟨gb, 0, none⟩) (hm : m ≤ n) (hle : val ys ≤ val xs) (hn : n ≤ 1000000000000) :
  Calls Tryz.prog 224 #[.slice (some ⟨g, 0, none⟩) n c, .slice b m d] w fun e w' => ∃ X Y : Nat, e = .returned (.tuple #[.int .u64 X, .int .u64 Y]) ∧ w = w' ∧ X < 18446744073709551616 ∧ Y ≤ X ∧ Heads X Y (val xs) (val ys) := by
 have hcap := h.cap
 have kcap := k.cap
 have hl := h.len
 have kl := k.len
 have HD : Hid (∀ j, Heads (val (xs.drop j)) (val (ys.drop j)) (val xs) (val ys)) := fun j => heads_drop xs ys hx hy j
 have HM : Hid (∀ j, val (ys.drop j) ≤ val (xs.drop j)) := fun j => drop_mono xs ys hx j hle
 rcases (by omega : n ≤ 2 ∨ 2 < n) with h2 | h2
 ·have v1 := val_two hx (by omega)
  have C1 := nat_small _ _ _ _ w h hx v1
  have C2 := nat_small _ _ _ _ w k hy (by omega)
  have H0 : Hid (Heads (val xs) (val ys) (val xs) (val ys)) := HD.out 0
  have HL : Hid (val ys ≤ val xs) := hle
  generalize val xs = X at *
  generalize val ys = Y at *
  have HV : Hid (X < 18446744073709551616) := v1
  clear HD HM hl kl hle h hn v1
  rcases (by omega : n < 2 ∨ n = 2) with h2 | rfl
  all_goals
   rcases hb with rfl | ⟨gb, rfl⟩
   ·obtain ⟨rfl, rfl, -⟩ := k.none
    clear k
    go_enter Tryz.func224, Tryz.ntmps224
    go_wp2_with (first
     | (go_at_call 234; with_reducible refine Calls.mono C1 ?_; rintro e w1 ⟨rfl, rfl⟩)
     | (go_at_call 234; with_reducible refine Calls.mono C2 ?_; rintro e w1 ⟨rfl, rfl⟩))
    go_ret2
    exact ⟨X, Y, rfl, rfl, HV.out, HL.out, H0.out⟩
   ·clear k
    rcases (by omega : m = 0 ∧ d = 0 ∨ m = 0 ∧ 0 < d ∨ 0 < m ∧ 0 < d) with ⟨rfl, rfl⟩ | ⟨rfl, k1⟩ | ⟨k0, k1⟩
    all_goals
     go_enter Tryz.func224, Tryz.ntmps224
     go_wp2_with (first
      | (go_at_call 234; with_reducible refine Calls.mono C1 ?_; rintro e w1 ⟨rfl, rfl⟩)
      | (go_at_call 234; with_reducible refine Calls.mono C2 ?_; rintro e w1 ⟨rfl, rfl⟩))
     go_ret2
     exact ⟨X, Y, rfl, rfl, HV.out, HL.out, H0.out⟩
 ·obtain ⟨low, rfl⟩ : ∃ low, n = low + 2 := ⟨n - 2, by omega⟩
  have D1 := h.drop low (by omega) rfl
  simp only [Nat.zero_add, Nat.add_sub_cancel_left] at D1
  have v1 := val_two (wd_drop hx low) (by rw [List.length_drop]; omega)
  have C1 := nat_small _ _ _ _ w D1 (wd_drop hx low) v1
  have H0 := HD.out low
  have HL := HM.out low
  clear HD HM D1 h
  rcases hb with rfl | ⟨gb, rfl⟩
  ·obtain ⟨rfl, rfl, rfl⟩ := k.none
   have C2 := nat_small _ _ _ _ w k hy (by simp [val])
   have HV : Hid (val (xs.drop low) < 18446744073709551616 ∧ (val ([] : List Int)) ≤ val (xs.drop low) ∧ Heads (val (xs.drop low)) (val ([] : List Int)) (val xs) (val ([] : List Int))) := ⟨v1, Nat.zero_le _, by simpa using H0⟩
   clear k v1 HL H0 kl hle hl
   generalize val (xs.drop low) = X at C1 HV
   generalize val ([] : List Int) = Y at C2 HV
   go_enter Tryz.func224, Tryz.ntmps224
   go_wp2_with (first
    | (go_at_call 234; with_reducible refine Calls.mono C1 ?_; rintro e w1 ⟨rfl, rfl⟩)
    | (go_at_call 234; with_reducible refine Calls.mono C2 ?_; rintro e w1 ⟨rfl, rfl⟩))
   go_ret2
   exact ⟨X, Y, rfl, rfl, HV.out⟩
  ·rcases (by omega : m < low ∨ m = low ∨ low < m) with h3 | rfl | h3
   ·have C2 := fun x cc (hc : cc ≤ 9223372036854775807) => nat_small _ _ _ _ w (IsWords.no w x cc hc) wd_nil (by simp [val])
    have e0 : ys.drop low = [] := List.drop_eq_nil_of_le (by omega)
    rw [e0] at H0 HL
    have HV : Hid (val (xs.drop low) < 18446744073709551616 ∧ (val ([] : List Int)) ≤ val (xs.drop low) ∧ Heads (val (xs.drop low)) (val ([] : List Int)) (val xs) (val ys)) := ⟨v1, HL, H0⟩
    clear k v1 HL H0 kl hle hl e0
    generalize val (xs.drop low) = X at C1 HV
    generalize val ([] : List Int) = Y at C2 HV
    rcases (by omega : d - m = 0 ∨ d - m ≠ 0) with h4 | h4
    case' inl => have C2 := C2 ⟨gb, 0, none⟩ 0 (by omega)
    case' inr => have C2 := C2 ⟨gb, m, none⟩ (d - m) (by omega)
    all_goals
     go_enter Tryz.func224, Tryz.ntmps224
     go_wp2_with (first
      | (go_at_call 234; with_reducible refine Calls.mono C1 ?_; rintro e w1 ⟨rfl, rfl⟩)
      | (go_at_call 234; with_reducible refine Calls.mono C2 ?_; rintro e w1 ⟨rfl, rfl⟩))
     go_ret2
     exact ⟨X, Y, rfl, rfl, HV.out⟩
   ·have C2 := fun x cc (hc : cc ≤ 9223372036854775807) => nat_small _ _ _ _ w (IsWords.no w x cc hc) wd_nil (by simp [val])
    have e0 : ys.drop m = [] := List.drop_eq_nil_of_le (by omega)
    rw [e0] at H0 HL
    have HV : Hid (val (xs.drop m) < 18446744073709551616 ∧ (val ([] : List Int)) ≤ val (xs.drop m) ∧ Heads (val (xs.drop m)) (val ([] : List Int)) (val xs) (val ys)) := ⟨v1, HL, H0⟩
    clear k v1 HL H0 kl hle hl e0
    generalize val (xs.drop m) = X at C1 HV
    generalize val ([] : List Int) = Y at C2 HV
    rcases (by omega : d - m = 0 ∨ d - m ≠ 0) with h4 | h4
    case' inl => have C2 := C2 ⟨gb, 0, none⟩ 0 (by omega)
    case' inr => have C2 := C2 ⟨gb, m, none⟩ (d - m) (by omega)
    all_goals
     go_enter Tryz.func224, Tryz.ntmps224
     go_wp2_with (first
      | (go_at_call 234; with_reducible refine Calls.mono C1 ?_; rintro e w1 ⟨rfl, rfl⟩)
      | (go_at_call 234; with_reducible refine Calls.mono C2 ?_; rintro e w1 ⟨rfl, rfl⟩))
     go_ret2
     exact ⟨X, Y, rfl, rfl, HV.out⟩
   ·have D2 := k.drop low (by omega) rfl
    simp only [Nat.zero_add] at D2
    have C2 := nat_small _ _ _ _ w D2 (wd_drop hy low) (by omega)
    have HV : Hid (val (xs.drop low) < 18446744073709551616 ∧ val (ys.drop low) ≤ val (xs.drop low) ∧ Heads (val (xs.drop low)) (val (ys.drop low)) (val xs) (val ys)) := ⟨v1, HL, H0⟩
    have h4 : d - low ≠ 0 := by omega
    clear k v1 HL H0 kl hle hl D2
    generalize val (xs.drop low) = X at C1 HV
    generalize val (ys.drop low) = Y at C2 HV
    go_enter Tryz.func224, Tryz.ntmps224
    go_wp2_with (first
     | (go_at_call 234; with_reducible refine Calls.mono C1 ?_; rintro e w1 ⟨rfl, rfl⟩)
     | (go_at_call 234; with_reducible refine Calls.mono C2 ?_; rintro e w1 ⟨rfl, rfl⟩))
    go_ret2
    exact ⟨X, Y, rfl, rfl, HV.out⟩
theorem one_words {xs : List Int} {n : Nat} {p : Int} (hx : Wd xs) (hl : xs.length = n) (p0 : 0 ≤ p) (p1 : p < 4294967296) : nl (val xs * p.toNat + (0 : Int).toNat) ≤ n + 1 := by
 refine nl_le _ _ ?_
 have h1 := val_lt xs hx
 rw [hl] at h1
 rw [Nat.pow_succ]
 exact Nat.mul_lt_mul_of_lt_of_le h1 (by omega) (by omega)
theorem wrap_u32 {z : Int} (h0 : 0 ≤ z) (h1 : z < 4294967296) : IntKind.u32.wrap z = z := by
 simp [IntKind.wrap, IntKind.bits, IntKind.signed]; omega
theorem common_of (p q : Int) (a : Option Addr) (n c : Nat) (xs : List Int) (b : Option Addr) (m d : Nat) (ys : List Int) (w : World) (h : IsWords w (.slice a n c) xs) (hx : Wd xs) (k : IsWords w (.slice b m d) ys) (hy : Wd ys)
  (hn : n ≤ 100000000000) (hm : m ≤ 100000000000) (p0 : 0 ≤ p) (p1 : p < 4294967296) (q0 : 0 ≤ q) (q1 : q < 4294967296) (N : Nat) (hN : (p * val xs - q * val ys).natAbs = N) :
  Calls Tryz.prog 225 #[.agg #[.int .u64 p, .int .u64 q], .slice a n c, .slice b m d] w (Ans w N) := by
 have T1 := fun v (hb : Below w.heap.size w v) => times_one' (h.below hb) hx (by omega) p0 p1 (show (0 : Int) ≤ 0 by omega) (by omega) _ rfl
 have T2 := fun v (hb : Below w.heap.size w v) => times_one' (k.below hb) hy (by omega) q0 q1 (show (0 : Int) ≤ 0 by omega) (by omega) _ rfl
 have hl := h.len
 have kl := k.len
 have l1 : nl (val xs * p.toNat + (0 : Int).toNat) ≤ n + 1 := one_words hx hl p0 p1
 have l2 : nl (val ys * q.toNat + (0 : Int).toNat) ≤ m + 1 := one_words hy kl q0 q1
 have e1 : p * val xs = ((val xs * p.toNat + (0 : Int).toNat : Nat) : Int) := by simp [Int.toNat_of_nonneg p0, Int.mul_comm]
 have e2 : q * val ys = ((val ys * q.toNat + (0 : Int).toNat : Nat) : Int) := by simp [Int.toNat_of_nonneg q0, Int.mul_comm]
 rw [e1, e2] at hN
 unfold Ans at T1 T2
 generalize val xs * p.toNat + (0 : Int).toNat = A at T1 l1 hN
 generalize val ys * q.toNat + (0 : Int).toNat = B at T2 l2 hN
 clear e1 e2 hl kl
 have wp := wrap_u32 p0 p1
 have wq := wrap_u32 q0 q1
 have bx := Box.new w p q
 have B0 : Below w.heap.size w (w.alloc (.cells #[.int .u64 p, .int .u64 q] 244)).drew := ((Below.refl _ _).alloc (Nat.le_refl _) _).drew
 clear h k
 go_enter Tryz.func225, Tryz.ntmps225
 go_wp2
 generalize w.alloc (.cells #[.int .u64 p, .int .u64 q] 244) = W0 at *
 obtain ⟨c1, c2, f1, f2⟩ := bx.drew.cells
 go_region_with (first
  | (go_at_call 221; (with_reducible refine Calls.mono (T1 W0.drew B0) ?_); rintro e w1 ⟨a1, k1, rfl, o1⟩; have B1 := below_more B0 o1.below; obtain ⟨d1, d2, g1, g2⟩ := (bx.drew.more o1.below).cells)
  | (go_at_call 221; (with_reducible refine Calls.mono (T2 W0.drew B0) ?_); rintro e w1 ⟨a2, k2, rfl, o2⟩; have B1 := below_more B0 o2.below; obtain ⟨d1, d2, g1, g2⟩ := (bx.drew.more o2.below).cells)
  | (go_at_call 221; (with_reducible refine Calls.mono (T2 w1 B1) ?_); rintro e w2 ⟨a2, k2, rfl, o2⟩; have o1 := o1.more o2.below; have B2 := below_more B1 o2.below)
  | (go_at_call 221; (with_reducible refine Calls.mono (T1 w1 B1) ?_); rintro e w2 ⟨a1, k1, rfl, o1⟩; have o2 := o2.more o1.below; have B2 := below_more B1 o1.below))
 all_goals
  clear T1 T2 c1 c2 f1 f2 d1 d2 g1 g2 wp wq bx
  have P1 := o1.words
  have P2 := o2.words
  have HB : Hid (Below w.heap.size w _) := B2
  clear B0 B1 B2 o1 o2
  rcases Nat.lt_or_ge A B with hlt | hge
  ·have C := nat_cmp' P1 (wd_natOf A) P2 (wd_natOf B) (-1) (by rw [val_natOf, val_natOf]; exact sgn_lt (by omega))
   have S := fun v (z1 : IsWords v (.slice a1 (nl A) k1) (natOf A)) (z2 : IsWords v (.slice a2 (nl B) k2) (natOf B)) => nat_sub' z2 (wd_natOf B) z1 (wd_natOf A) (by omega) N (by rw [val_natOf, val_natOf]; omega)
   clear hN hlt l1 l2
   go_wp2_with (first
    | (go_at_call 85; (with_reducible refine Calls.mono C ?_); rintro e w3 ⟨rfl, b3⟩)
    | (go_at_call 235; (with_reducible refine Calls.mono (S _ (P1.below b3) (P2.below b3)) ?_); rintro e w4 ⟨a4, k4, rfl, o4⟩))
   go_ret
   exact ⟨_, _, rfl, o4.outer (below_more HB.out b3)⟩
  ·obtain ⟨cs, C, hcs⟩ : ∃ cs : Int, Calls Tryz.prog 85 #[.slice a1 (nl A) k1, .slice a2 (nl B) k2] _ (fun e w' => e = .returned (.int .i64 cs) ∧ Below _ _ w') ∧ 0 ≤ cs := by
    refine ⟨_, nat_cmp' P1 (wd_natOf A) P2 (wd_natOf B) _ rfl, ?_⟩
    rw [val_natOf, val_natOf]
    rcases Nat.lt_or_ge B A with h | h
    ·rw [sgn_gt (by omega)]; omega
    ·rw [sgn_eq (by omega)]; omega
   have S := fun v (z1 : IsWords v (.slice a1 (nl A) k1) (natOf A)) (z2 : IsWords v (.slice a2 (nl B) k2) (natOf B)) => nat_sub' z1 (wd_natOf A) z2 (wd_natOf B) (by omega) N (by rw [val_natOf, val_natOf]; omega)
   clear hN hge l1 l2
   go_wp2_with (first
    | (go_at_call 85; (with_reducible refine Calls.mono C ?_); rintro e w3 ⟨rfl, b3⟩)
    | (go_at_call 235; (with_reducible refine Calls.mono (S _ (P1.below b3) (P2.below b3)) ?_); rintro e w4 ⟨a4, k4, rfl, o4⟩))
   go_ret
   exact ⟨_, _, rfl, o4.outer (below_more HB.out b3)⟩
end
section
open Go.RowKit
def Row (n₀ : Nat) (w : World) (v : Value) (n : Nat) (xs : List Int) : Prop := w.ownsRow n₀ 85 1 v n (xs.map (Value.int .u32))
theorem Own.row {W w : World} {v : Value} {n : Nat} {xs : List Int} (h : Own W w v n xs) {n₀ : Nat} (hn : n₀ ≤ W.heap.size) : Row n₀ w v n xs := by
 refine ⟨h.1.1, ?_⟩
 rcases h.1.2 with h0 | ⟨g, cap, cur, e, h1, h2⟩
 ·exact .inl h0
 ·exact .inr ⟨g, cap, cur, e, Nat.le_trans hn h1, h2⟩
theorem Row.own {W w : World} {v : Value} {n : Nat} {xs : List Int} {n₀ : Nat} (h : Row n₀ w v n xs) (hn : W.heap.size ≤ n₀) (hb : Below W.heap.size W w) : Own W w v n xs := by
 refine ⟨⟨h.1, ?_⟩, hb⟩
 rcases h.2 with h0 | ⟨g, cap, cur, e, h1, h2⟩
 ·exact .inl h0
 ·exact .inr ⟨g, cap, cur, e, Nat.le_trans hn h1, h2⟩
theorem Row.words {w : World} {v : Value} {n : Nat} {xs : List Int} {n₀ : Nat} (h : Row n₀ w v n xs) : IsWords w v xs := by
 have hl : xs.length = n := by have := h.1; simpa using this
 rcases h.2 with ⟨rfl, rfl⟩ | ⟨g, cap, cur, rfl, -, hg, hnc, hcm, -, -⟩
 ·exact .inl ⟨rfl, List.eq_nil_of_length_eq_zero hl⟩
 ·refine .inr ⟨⟨g, 0, none⟩, cap, by rw [hl], by omega, hcm, fun i hi => ?_⟩
  refine World.ownsRow.cells h (g := g) rfl i _ ?_
  simp [hi]
theorem Row.addr {w : World} {a : Option Addr} {n c m : Nat} {xs : List Int} {n₀ : Nat} (h : Row n₀ w (.slice a n c) m xs) : a = none ∨ ∃ g, a = some ⟨g, 0, none⟩ := by
 rcases h.2 with ⟨e, -⟩ | ⟨g, cap, cur, e, -⟩
 ·simp only [Value.slice.injEq] at e; exact .inl e.1
 ·simp only [Value.slice.injEq] at e; exact .inr ⟨g, e.1⟩
theorem Row.more {w w' : World} {v : Value} {n : Nat} {xs : List Int} {n₀ : Nat} (h : Row n₀ w v n xs) (hb : Below w.heap.size w w') : Row n₀ w' v n xs := by
 refine ⟨h.1, ?_⟩
 rcases h.2 with h0 | ⟨g, cap, cur, e, h1, hg, h2⟩
 ·exact .inl h0
 ·refine .inr ⟨g, cap, cur, e, h1, ?_, h2⟩
  rw [hb.block g (Array.getElem?_eq_some_iff.1 hg).1]; exact hg
theorem Row.keep {w w' : World} {v : Value} {n : Nat} {xs : List Int} {n₀ : Nat} (h : Row n₀ w v n xs) (hb : ∀ k, n₀ ≤ k → w'.heap[k]? = w.heap[k]?) : Row n₀ w' v n xs := by
 refine ⟨h.1, ?_⟩
 rcases h.2 with h0 | ⟨g, cap, cur, e, h1, hg, h2⟩
 ·exact .inl h0
 ·exact .inr ⟨g, cap, cur, e, h1, (hb g h1).trans hg, h2⟩
theorem Row.nil (n₀ : Nat) (w : World) : Row n₀ w (.slice none (nl 0) 0) (nl 0) (natOf 0) := by
 rw [nl_zero, natOf_zero]; exact World.ownsRow_nil _ _ _ _
theorem Row.grown {w w' : World} {v : Value} {n : Nat} {xs : List Int} {n₀ : Nat} (h : Row n₀ w v n xs) {row : Option Nat} (hg : w.grownBy w' row) (hr : ∀ k, row = some k → k < n₀) : Row n₀ w' v n xs := by
 refine ⟨h.1, ?_⟩
 rcases h.2 with h0 | ⟨g, cap, cur, e, h1, hb, h2⟩
 ·exact .inl h0
 ·refine .inr ⟨g, cap, cur, e, h1, ?_, h2⟩
  rw [hg.block g (Array.getElem?_eq_some_iff.1 hb).1 (fun e1 => by have := hr g e1.symm; omega)]; exact hb
theorem Own.row_lt {W w : World} {v : Value} {n : Nat} {xs : List Int} (h : Own W w v n xs) (k : Nat) (hk : v.ownBlock = some k) : k < w.heap.size := (h.1.lt k hk).2
end
end Go.Proofs.YtaeladkcmpdkhaaGreatDoor
