/-
  Contracts of package common's functions sure and leap, for every two heads: what they answer; memory that was there stays.
-/
import Derived.Test.YtpcfelknjcggiaaCommonMath
import Derived.Test.YtpcfelknjcggiaaWords2
namespace Go.Proofs.Ytpcfelknjcggiaa
open Go.RowKit

set_option maxHeartbeats 1000000 in
theorem common_sure (x y a b c d : Int) (w : World) (_y0 : 0 ≤ y) (yx : y ≤ x) (x1 : x < 18446744073709551616) (b0 : 0 ≤ b) (d0 : 0 ≤ d) (hs : d ≤ y → b + d < 18446744073709551616) (r : Bool) (hr : decide (d ≤ y ∧ b + d ≤ x - y) = r) :
    Calls Try.prog 71 #[.int .u64 x, .int .u64 y, .agg #[.int .u64 a, .int .u64 b], .agg #[.int .u64 c, .int .u64 d]] w fun e w' => e = .returned (.bool r) ∧ Below w.heap.size w w' := by
  have B : Below w.heap.size w ((w.alloc (.cells #[.int .u64 a, .int .u64 b] 68)).alloc (.cells #[.int .u64 c, .int .u64 d] 68)) := ((Below.refl _ _).alloc (Nat.le_refl _) _).alloc (by simp) _
  by_cases h1 : d ≤ y
  · have h2 := hs h1
    subst hr
    clear hs
    go_enter Try.func71, Try.ntmps71
    go_wp2
    go_ret
    exact ⟨ret_bool (by rw [Bool.eq_iff_iff]; simp [h1]), B⟩
  · subst hr
    clear hs
    go_enter Try.func71, Try.ntmps71
    go_wp2
    go_ret
    exact ⟨ret_bool (by simp; omega), B⟩

/-- Block k holds one share. -/
def Box (v : World) (k : Nat) (a b : Int) : Prop := v.heap[k]? = some (.cells #[.int .u64 a, .int .u64 b] 68 (0, 0))

theorem Box.cells {v : World} {k : Nat} {a b : Int} (h : Box v k a b) : v.cell? ⟨k, 0, none⟩ = some (.int .u64 a) ∧ v.cell? ⟨k, 1, none⟩ = some (.int .u64 b) ∧ v.frozen? ⟨k, 0, none⟩ = false ∧ v.frozen? ⟨k, 1, none⟩ = false := by
  unfold Box at h
  simp [World.cell?, World.frozen?, h]
theorem Box.lt {v : World} {k : Nat} {a b : Int} (h : Box v k a b) : k < v.heap.size := (Array.getElem?_eq_some_iff.1 h).1
theorem Box.more {v w : World} {k : Nat} {a b : Int} (h : Box v k a b) (hb : Below v.heap.size v w) : Box w k a b := (hb.block k h.lt).trans h
theorem Box.drew {v : World} {k : Nat} {a b : Int} (h : Box v k a b) : Box v.drew k a b := h

theorem Box.other {v : World} {k : Nat} {a b : Int} (h : Box v k a b) {j : Nat} (o : Nat) (hne : k ≠ j) (u : Value) : Box (v.setCell ⟨j, o, none⟩ u) k a b :=
  (Below.heap_setCell v ⟨j, o, none⟩ u k hne).trans h
theorem Box.put {v : World} {k : Nat} {a b : Int} (h : Box v k a b) (x y : Int) : Box ((v.setCell ⟨k, 0, none⟩ (.int .u64 x)).setCell ⟨k, 1, none⟩ (.int .u64 y)) k x y := by
  have hlt := h.lt
  have hv := (Array.getElem?_eq_some_iff.1 h).2
  unfold Box
  simp only [World.setCell]
  rw [Array.getElem?_eq_getElem (by simpa using hlt), Array.getElem_modify, if_pos rfl, Array.getElem_modify, if_pos rfl, hv]
  rfl
theorem Box.drewN {v : World} {k : Nat} {a b : Int} (h : Box v k a b) (n : Nat) : Box (v.drewN n) k a b := h.more (below_drewN (Below.refl _ _) n)

/-- The four boxes behind a round. -/
theorem boxes_round {w v : World} {p q r t a b c d : Int} (n : Nat) (e f : Int) (b1 : Box v w.heap.size p q) (b2 : Box v (w.heap.size + 1) r t) (b3 : Box v (w.heap.size + 2) a b) (b4 : Box v (w.heap.size + 3) c d) (B : Below w.heap.size w v) :
    ∀ W, W = (((((((((v.setCell ⟨w.heap.size, 0, none⟩ (.int .u64 a)).setCell ⟨w.heap.size, 1, none⟩ (.int .u64 b)).setCell ⟨w.heap.size + 1, 0, none⟩ (.int .u64 c)).setCell ⟨w.heap.size + 1, 1, none⟩ (.int .u64 d)).drewN n).setCell
      ⟨w.heap.size + 2, 0, none⟩ (.int .u64 c)).setCell ⟨w.heap.size + 2, 1, none⟩ (.int .u64 d)).setCell ⟨w.heap.size + 3, 0, none⟩ (.int .u64 e)).setCell ⟨w.heap.size + 3, 1, none⟩ (.int .u64 f)) →
    Box W w.heap.size a b ∧ Box W (w.heap.size + 1) c d ∧ Box W (w.heap.size + 2) c d ∧ Box W (w.heap.size + 3) e f ∧ Below w.heap.size w W := by
  rintro W rfl
  refine ⟨?_, ?_, ?_, ?_, ?_⟩
  · exact ((((((((b1.put a b).other _ (by omega) _).other _ (by omega) _).drewN n).other _ (by omega) _).other _ (by omega) _).other _ (by omega) _).other _ (by omega) _)
  · exact ((((((((b2.other _ (by omega) _).other _ (by omega) _).put c d).drewN n).other _ (by omega) _).other _ (by omega) _).other _ (by omega) _).other _ (by omega) _)
  · exact (((((((((b3.other _ (by omega) _).other _ (by omega) _).other _ (by omega) _).other _ (by omega) _).drewN n).put c d).other _ (by omega) _).other _ (by omega) _))
  · exact (((((((((b4.other _ (by omega) _).other _ (by omega) _).other _ (by omega) _).other _ (by omega) _).drewN n).other _ (by omega) _).other _ (by omega) _).put e f))
  · have h0 : w.heap.size ≤ (⟨w.heap.size, 0, none⟩ : Addr).block := Nat.le_refl _
    have h1 : ∀ k o, w.heap.size ≤ (⟨w.heap.size + k, o, none⟩ : Addr).block := fun k o => Nat.le_add_right _ _
    exact (((((below_drewN ((((B.setCell h0 _).setCell (p := ⟨w.heap.size, 1, none⟩) h0 _).setCell (h1 1 0) _).setCell (h1 1 1) _) n).setCell (h1 2 0) _).setCell (h1 2 1) _).setCell (h1 3 0) _).setCell (h1 3 1) _)

theorem Box.new (v : World) (a b : Int) : Box (v.alloc (.cells #[.int .u64 a, .int .u64 b] 68)) v.heap.size a b := by show (v.heap.push _)[v.heap.size]? = _; simp
theorem Box.alloc {v : World} {k : Nat} {a b : Int} (h : Box v k a b) (o : Obj) : Box (v.alloc o) k a b := h.more ((Below.refl _ _).alloc (Nat.le_refl _) _)
theorem Box.at' {v : World} {k j : Nat} {a b : Int} (h : Box v k a b) (e : k = j) : Box v j a b := e ▸ h
theorem wrap_u64 {z : Int} (h0 : 0 ≤ z) (h1 : z < 18446744073709551616) : IntKind.u64.wrap z = z := by
  simp [IntKind.wrap, IntKind.bits, IntKind.signed]; omega

set_option maxHeartbeats 4000000 in
theorem common_leap (X Y : Int) (w : World) (Y0 : 0 ≤ Y) (YX : Y ≤ X) (X1 : X < 18446744073709551616) :
    Calls Try.prog 66 #[.int .u64 X, .int .u64 Y] w fun e w' => ∃ a b c d : Int, e = .returned (.tuple #[.agg #[.int .u64 a, .int .u64 b], .agg #[.int .u64 c, .int .u64 d]]) ∧ Below w.heap.size w w' ∧ (c = 0 ∨ Leapt X Y a b c d) := by
  have L0 := Leap.start Y0 YX
  go_enter Try.func66, Try.ntmps66
  go_wp2
  go_region
  go_wp2
  go_loopw [0, 1] (fun sx sy v => ∃ x y a b c d s p q r t : Int, sx = .int .u64 x ∧ sy = .int .u64 y ∧ Leap X Y x y a b c d s ∧ (r = 0 ∨ Leapt X Y p q r t) ∧ Box v w.heap.size p q ∧ Box v (w.heap.size + 1) r t ∧ Box v (w.heap.size + 2) a b ∧ Box v (w.heap.size + 3) c d ∧ Below w.heap.size w v) (fun _ y _ => (intOf y).toNat)
  case atStart =>
    have HB : ∀ k o, w.heap.size ≤ (⟨w.heap.size + k, o, none⟩ : Addr).block := fun k o => Nat.le_add_right _ _
    refine ⟨X, Y, 1, 0, 0, 1, 1, 1, 0, 0, 1, rfl, rfl, L0, .inl rfl, ?_, ?_, ?_, ?_, ?_⟩
    · exact Box.drew (((Box.new w 1 0).alloc _).alloc _ |>.alloc _)
    · exact Box.drew ((((Box.new (w.alloc _) 0 1).alloc _).alloc _).at' (by simp))
    · exact Box.drew (((Box.new ((w.alloc _).alloc _) 1 0).alloc _).at' (by simp))
    · exact Box.drew ((Box.new (((w.alloc _).alloc _).alloc _) 0 1).at' (by simp))
    · exact ((((((Below.refl _ w).alloc (Nat.le_refl _) _).alloc (by simp) _).alloc (by simp; omega) _).alloc (by simp; omega) _).drew)
  case round =>
    obtain ⟨x, y, a, b, c, d, s, p, q, r, t, rfl, rfl, L, S, b1, b2, b3, b4, B⟩ := hrel
    have l0 := L.y0
    have l1 := L.yx
    have l2 := L.b0
    have l3 := L.d1
    have l4 := L.sum
    have l5 : x ≤ X := by
      rcases Int.lt_or_le 0 x with h | h
      · exact (L.most (by omega)).2
      · omega
    obtain ⟨c3, c4, f3, f4⟩ := b3.cells
    obtain ⟨c5, c6, f5, f6⟩ := b4.cells
    by_cases hs : d ≤ y ∧ b + d ≤ x - y
    · obtain ⟨h1, h2⟩ := hs
      have LN := L.next h1 h2
      have SN : c = 0 ∨ Leapt X Y a b c d := by
        by_cases hc : c = 0
        · exact .inl hc
        · exact .inr (L.leapt h1 h2 X1 hc)
      have n1 := LN.most (by omega)
      have n2 := LN.cd
      have n3 := LN.c0
      have n4 : 0 ≤ x / y := Int.ediv_nonneg (by omega) (by omega)
      have n5 : 0 ≤ x / y * c := Int.mul_nonneg n4 L.c0
      have n6 : 0 ≤ x / y * d := Int.mul_nonneg n4 (by omega)
      have n7 := L.a0
      have w1 : IntKind.u64.wrap (x / y * c) = x / y * c := wrap_u64 (by omega) (by omega)
      have w2 : IntKind.u64.wrap (x / y * d) = x / y * d := wrap_u64 (by omega) (by omega)
      have w3 : IntKind.u64.wrap (a + x / y * c) = a + x / y * c := wrap_u64 (by omega) (by omega)
      have w4 : IntKind.u64.wrap (b + x / y * d) = b + x / y * d := wrap_u64 (by omega) (by omega)
      have MM : Hid ((x % y).toNat < y.toNat) := (by have h5 := Int.emod_nonneg x (show y ≠ 0 by omega); have h6 := Int.emod_lt_of_pos x (show 0 < y by omega); omega : (x % y).toNat < y.toNat)
      have C := fun v => common_sure x y a b c d v l0 l1 (by omega) l2 (by omega) (fun h => by have := l4 h; omega) true (by simp; omega)
      have HL : Hid (Leap X Y y (x % y) c d (a + x / y * c) (b + x / y * d) (-s)) := LN
      have HS : Hid (c = 0 ∨ Leapt X Y a b c d) := SN
      have HR : Hid (Box wr w.heap.size p q ∧ Box wr (w.heap.size + 1) r t ∧ Box wr (w.heap.size + 2) a b ∧ Box wr (w.heap.size + 3) c d ∧ Below w.heap.size w wr) := ⟨b1, b2, b3, b4, B⟩
      clear LN SN S b1 b2 b3 b4 B L l4
      go_wp2_with (first
        | (go_at_call 71; (with_reducible refine Calls.mono (C _) ?_); rintro e w1 ⟨rfl, B1⟩))
      obtain ⟨b1, b2, b3, b4, B⟩ := HR.out
      have b1 := b1.more B1
      have b2 := b2.more B1
      have b3 := b3.more B1
      have b4 := b4.more B1
      have B := below_more B B1
      have HR : Hid (Box w1 w.heap.size p q ∧ Box w1 (w.heap.size + 1) r t ∧ Box w1 (w.heap.size + 2) a b ∧ Box w1 (w.heap.size + 3) c d ∧ Below w.heap.size w w1) := ⟨b1, b2, b3, b4, B⟩
      clear c3 c4 f3 f4 c5 c6 f5 f6 C B1
      obtain ⟨c1, c2, f1, f2⟩ := b1.cells
      obtain ⟨d1, d2, g1, g2⟩ := b2.cells
      obtain ⟨c3, c4, f3, f4⟩ := b3.cells
      obtain ⟨c5, c6, f5, f6⟩ := b4.cells
      clear b1 b2 b3 b4 B
      go_region
      go_wp2
      go_quiet (fail)
      go_wp2
      go_region
      obtain ⟨b1, b2, b3, b4, B⟩ := HR.out
      clear c1 c2 f1 f2 d1 d2 g1 g2 c3 c4 f3 f4 c5 c6 f5 f6
      go_wp2
      go_roundw
      case rel =>
        obtain ⟨r1, r2, r3, r4, R⟩ := boxes_round (1 + nq + 1) (a + x / y * c) (b + x / y * d) b1 b2 b3 b4 B _ rfl
        exact ⟨y, x % y, c, d, a + x / y * c, b + x / y * d, -s, a, b, c, d, rfl, rfl, HL.out, HS.out, r1, r2, r3, r4, R⟩
      case measure => simp only [intOf]; exact MM.out
    · have C := fun v => common_sure x y a b c d v l0 l1 (by omega) l2 (by omega) (fun h => by have := l4 h; omega) false (by simp; omega)
      have HR : Hid (Box wr w.heap.size p q ∧ Box wr (w.heap.size + 1) r t ∧ Below w.heap.size w wr) := ⟨b1, b2, B⟩
      have HS : Hid (r = 0 ∨ Leapt X Y p q r t) := S
      clear S b1 b2 b3 b4 B L l4
      go_wp2_with (first
        | (go_at_call 71; (with_reducible refine Calls.mono (C _) ?_); rintro e w1 ⟨rfl, B1⟩))
      obtain ⟨b1, b2, B⟩ := HR.out
      have b1 := b1.more B1
      have b2 := b2.more B1
      have B := below_more B B1
      clear c3 c4 f3 f4 c5 c6 f5 f6 C B1 HR
      obtain ⟨c1, c2, f1, f2⟩ := b1.cells
      obtain ⟨d1, d2, g1, g2⟩ := b2.cells
      have H1 : ∀ k o, w.heap.size ≤ (⟨w.heap.size + k, o, none⟩ : Addr).block := fun k o => Nat.le_add_right _ _
      have HB : Hid (Below w.heap.size w ((((w1.setCell ⟨w.heap.size, 0, none⟩ (.int .u64 p)).setCell ⟨w.heap.size, 1, none⟩ (.int .u64 q)).setCell ⟨w.heap.size + 1, 0, none⟩ (.int .u64 r)).setCell ⟨w.heap.size + 1, 1, none⟩ (.int .u64 t)).drew) :=
        ((((B.setCell (H1 0 0) _).setCell (H1 0 1) _).setCell (H1 1 0) _).setCell (H1 1 1) _).drew
      clear b1 b2 B H1
      go_region
      go_wp2
      exact bodyPost_ret (v := .tuple #[.agg #[.int .u64 p, .int .u64 q], .agg #[.int .u64 r, .int .u64 t]]) (by simp [results, Try.results66, go_sem, c1, c2, d1, d2]) rfl ⟨p, q, r, t, rfl, HB.out, HS.out⟩
end Go.Proofs.Ytpcfelknjcggiaa
