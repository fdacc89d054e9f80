/-
  Contract of package common's function later, for every two lists of words without 0s at their ends of which the second one isn't the greater and the first one isn't 0: two numbers further down that have the same common divisor. Memory that was there stays.
-/
import Derived.Test.YtpcfelknjcggiaaCommonB
namespace Go.Proofs.Ytpcfelknjcggiaa
open Go.RowKit

/-- A slice of words that begins a block from n₀ on. -/
def Row (n₀ : Nat) (w : World) (v : Value) (n : Nat) (xs : List Int) : Prop := w.ownsRow n₀ 27 1 v n (xs.map (Value.int .u32))

theorem Own.row {W w : World} {v : Value} {n : Nat} {xs : List Int} (h : Own W w v n xs) {n₀ : Nat} (hn : n₀ ≤ W.heap.size) : Row n₀ w v n xs := by
  refine ⟨h.1.1, ?_⟩
  rcases h.1.2 with h0 | ⟨g, cap, cur, e, h1, h2⟩
  · exact .inl h0
  · exact .inr ⟨g, cap, cur, e, Nat.le_trans hn h1, h2⟩
theorem Row.own {W w : World} {v : Value} {n : Nat} {xs : List Int} {n₀ : Nat} (h : Row n₀ w v n xs) (hn : W.heap.size ≤ n₀) (hb : Below W.heap.size W w) : Own W w v n xs := by
  refine ⟨⟨h.1, ?_⟩, hb⟩
  rcases h.2 with h0 | ⟨g, cap, cur, e, h1, h2⟩
  · exact .inl h0
  · exact .inr ⟨g, cap, cur, e, Nat.le_trans hn h1, h2⟩
theorem Row.words {w : World} {v : Value} {n : Nat} {xs : List Int} {n₀ : Nat} (h : Row n₀ w v n xs) : IsWords w v xs := by
  have hl : xs.length = n := by have := h.1; simpa using this
  rcases h.2 with ⟨rfl, rfl⟩ | ⟨g, cap, cur, rfl, -, hg, hnc, hcm, -, -⟩
  · exact .inl ⟨rfl, List.eq_nil_of_length_eq_zero hl⟩
  · refine .inr ⟨⟨g, 0, none⟩, cap, by rw [hl], by omega, hcm, fun i hi => ?_⟩
    refine World.ownsRow.cells h (g := g) rfl i _ ?_
    simp [hi]
theorem Row.addr {w : World} {a : Option Addr} {n c m : Nat} {xs : List Int} {n₀ : Nat} (h : Row n₀ w (.slice a n c) m xs) : a = none ∨ ∃ g, a = some ⟨g, 0, none⟩ := by
  rcases h.2 with ⟨e, -⟩ | ⟨g, cap, cur, e, -⟩
  · simp only [Value.slice.injEq] at e; exact .inl e.1
  · simp only [Value.slice.injEq] at e; exact .inr ⟨g, e.1⟩
theorem Row.more {w w' : World} {v : Value} {n : Nat} {xs : List Int} {n₀ : Nat} (h : Row n₀ w v n xs) (hb : Below w.heap.size w w') : Row n₀ w' v n xs := by
  refine ⟨h.1, ?_⟩
  rcases h.2 with h0 | ⟨g, cap, cur, e, h1, hg, h2⟩
  · exact .inl h0
  · refine .inr ⟨g, cap, cur, e, h1, ?_, h2⟩
    rw [hb.block g (Array.getElem?_eq_some_iff.1 hg).1]; exact hg
theorem Row.keep {w w' : World} {v : Value} {n : Nat} {xs : List Int} {n₀ : Nat} (h : Row n₀ w v n xs) (hb : ∀ k, n₀ ≤ k → w'.heap[k]? = w.heap[k]?) : Row n₀ w' v n xs := by
  refine ⟨h.1, ?_⟩
  rcases h.2 with h0 | ⟨g, cap, cur, e, h1, hg, h2⟩
  · exact .inl h0
  · exact .inr ⟨g, cap, cur, e, h1, (hb g h1).trans hg, h2⟩
theorem Row.nil (n₀ : Nat) (w : World) : Row n₀ w (.slice none (nl 0) 0) (nl 0) (natOf 0) := by
  rw [nl_zero, natOf_zero]; exact World.ownsRow_nil _ _ _ _

/-- What later answers of A and B: two numbers u and v. -/
def Later (A B u v : Nat) : Prop := v ≤ u ∧ u ≤ A ∧ u + v < A + B ∧ (0 < B → Nat.gcd u v = Nat.gcd A B ∧ 0 < u) ∧ (B = 0 → u = 0)

theorem later_rest {A B : Nat} (hA : 0 < A) (hB : B ≤ A) : Later A B B (rest A B) := by
  unfold rest
  rcases Nat.eq_zero_or_pos B with rfl | h
  · exact ⟨by simp, by omega, by simp; omega, by omega, by omega⟩
  · rw [if_neg (by omega)]
    have := Nat.mod_lt A h
    refine ⟨by omega, by omega, by omega, fun _ => ⟨?_, h⟩, by omega⟩
    rw [Nat.gcd_comm A B, Nat.gcd_rec B A, Nat.gcd_comm]
theorem later_leapt {X Y p q r t : Int} {A B : Nat} (h : Leapt X Y p q r t) (hh : Heads X Y A B) (hB : B ≤ A) : Later A B (p * A - q * B).natAbs (r * A - t * B).natAbs := by
  obtain ⟨h1, h2, h3⟩ := h.2.2.2.2 A B hh
  exact ⟨by omega, by omega, by omega, fun _ => ⟨h1, by omega⟩, by omega⟩

set_option maxHeartbeats 4000000 in
theorem common_later (n₀ A B : Nat) (a : Option Addr) (c : Nat) (b : Option Addr) (d : Nat) (w : World) (h : Row n₀ w (.slice a (nl A) c) (nl A) (natOf A)) (k : Row n₀ w (.slice b (nl B) d) (nl B) (natOf B)) (hn : n₀ ≤ w.heap.size) (hA : 0 < A) (hB : B ≤ A) (hL : nl A ≤ 10000000000) :
    Calls Try.prog 53 #[.slice a (nl A) c, .slice b (nl B) d] w fun e w' => ∃ u v a1 c1 a2 c2, e = .returned (.tuple #[.slice a1 (nl u) c1, .slice a2 (nl v) c2]) ∧ Row n₀ w' (.slice a1 (nl u) c1) (nl u) (natOf u) ∧ Row n₀ w' (.slice a2 (nl v) c2) (nl v) (natOf v) ∧ Below w.heap.size w w' ∧ Later A B u v := by
  have P := h.words
  have Q := k.words
  have hm := nl_mono hB
  have hp := nl_pos hA
  obtain ⟨g, rfl⟩ : ∃ g, a = some ⟨g, 0, none⟩ := by
    rcases h.addr with rfl | h0
    · have := P.none.1; omega
    · exact h0
  have HC := common_heads g (nl A) c (natOf A) b (nl B) d (natOf B) w P (wd_natOf A) Q (wd_natOf B) k.addr hm (by rw [val_natOf, val_natOf]; exact hB) (by omega)
  rw [val_natOf, val_natOf] at HC
  have LC := fun (X Y : Nat) (h1 : X < 18446744073709551616) (h2 : Y ≤ X) => common_leap X Y w (by omega) (by omega) (by omega)
  have DV := fun v (hb : Below w.heap.size w v) => split_div_any (P.below hb) (wd_natOf A) (Q.below hb) (wd_natOf B) (by omega) A B (val_natOf A) (val_natOf B)
  have OF := fun (x y : Int) v (hb : Below w.heap.size w v) (x0 : 0 ≤ x) (x1 : x < 4294967296) (y0 : 0 ≤ y) (y1 : y < 4294967296) => common_of x y _ _ _ _ _ _ _ _ v (P.below hb) (wd_natOf A) (Q.below hb) (wd_natOf B) (by omega) (by omega) x0 x1 y0 y1 _ rfl
  rw [val_natOf, val_natOf] at OF
  have HK : Hid (Row n₀ w (.slice b (nl B) d) (nl B) (natOf B)) := k
  have HA : Hid (0 < A ∧ B ≤ A ∧ n₀ ≤ w.heap.size) := ⟨hA, hB, hn⟩
  unfold AnsDivB at DV
  unfold Ans at OF
  clear h k P Q hA hB hn hL hm hp
  go_enter Try.func53, Try.ntmps53
  go_wp2_with (first
    | (go_at_call 67; (with_reducible refine Calls.mono HC ?_); rintro e w1 ⟨X, Y, rfl, rfl, x1, yx, hh⟩)
    | (go_at_call 66; (with_reducible refine Calls.mono (LC X Y x1 yx) ?_); rintro e w2 ⟨p, q, r, t, rfl, B2, hr⟩)
    | fail)
  all_goals
    have bx1 := (Box.new w2 p q).alloc (.cells #[.int .u64 r, .int .u64 t] 68)
    have bx2 := Box.new (w2.alloc (.cells #[.int .u64 p, .int .u64 q] 68)) r t
    have B3 : Below w.heap.size w ((w2.alloc (.cells #[.int .u64 p, .int .u64 q] 68)).alloc (.cells #[.int .u64 r, .int .u64 t] 68)) := (B2.alloc B2.size _).alloc (by have := B2.size; simp; omega) _
    have ez : (w2.alloc (.cells #[.int .u64 p, .int .u64 q] 68)).heap.size = w2.heap.size + 1 := by simp
    rw [ez] at bx2
    generalize (w2.alloc (.cells #[.int .u64 p, .int .u64 q] 68)).alloc (.cells #[.int .u64 r, .int .u64 t] 68) = W3 at *
    clear ez
  · clear bx1 bx2 OF HC LC hr hh x1 yx
    go_wp2_with (first
      | (go_at_call 19; (with_reducible refine Calls.mono (DV W3 B3) ?_); rintro e w4 ⟨a4, c4, a5, c5, rfl, o4, o5⟩))
    go_ret2
    obtain ⟨hA, hB, hn⟩ := HA.out
    exact ⟨B, rest A B, b, d, a5, c5, rfl, (HK.out.more B3).more o5.below, o5.row (Nat.le_trans hn B3.size), below_more B3 o5.below, later_rest hA hB⟩
  · have h0 : (r == 0) = false := ‹_›
    have L := hr.resolve_left (by simpa using h0)
    obtain ⟨hA, hB, hn⟩ := HA.out
    have HL : Hid (Later A B (p * A - q * B).natAbs (r * A - t * B).natAbs) := later_leapt L hh hB
    have hn3 := Nat.le_trans hn B3.size
    obtain ⟨⟨p0, p1⟩, ⟨q0, q1⟩, ⟨r0, r1⟩, ⟨t0, t1⟩, -⟩ := L
    have O1 := fun v hb => OF p q v hb p0 p1 q0 q1
    have O2 := fun v hb => OF r t v hb r0 r1 t0 t1
    clear OF DV HC LC hr hh x1 yx HA HK hA hB hn
    generalize (p * A - q * B).natAbs = u at O1 HL
    generalize (r * A - t * B).natAbs = v at O2 HL
    have B4 := B3.drew
    obtain ⟨c1, c2, f1, f2⟩ := bx1.drew.cells
    obtain ⟨c3, c4, f3, f4⟩ := bx2.drew.cells
    go_region_with (first
      | (go_at_call 68; (with_reducible refine Calls.mono (O1 W3.drew B4) ?_); rintro e w4 ⟨a1, k1, rfl, o1⟩; have o1' := o1.row hn3; have B5 := below_more B4 o1.below; obtain ⟨d1, d2, g1, g2⟩ := (bx1.drew.more o1.below).cells; obtain ⟨d3, d4, g3, g4⟩ := (bx2.drew.more o1.below).cells)
      | (go_at_call 68; (with_reducible refine Calls.mono (O2 W3.drew B4) ?_); rintro e w4 ⟨a2, k2, rfl, o2⟩; have o2' := o2.row hn3; have B5 := below_more B4 o2.below; obtain ⟨d1, d2, g1, g2⟩ := (bx1.drew.more o2.below).cells; obtain ⟨d3, d4, g3, g4⟩ := (bx2.drew.more o2.below).cells)
      | (go_at_call 68; (with_reducible refine Calls.mono (O2 w4 B5) ?_); rintro e w5 ⟨a2, k2, rfl, o2⟩; have o1' := o1'.more o2.below; have o2' := o2.row (Nat.le_trans hn3 o1.below.size); have B6 := below_more B5 o2.below)
      | (go_at_call 68; (with_reducible refine Calls.mono (O1 w4 B5) ?_); rintro e w5 ⟨a1, k1, rfl, o1⟩; have o2' := o2'.more o1.below; have o1' := o1.row (Nat.le_trans hn3 o2.below.size); have B6 := below_more B5 o1.below))
    all_goals
      go_wp2
      go_ret2
      exact ⟨u, v, a1, k1, a2, k2, rfl, o1', o2', B6, HL.out⟩
end Go.Proofs.Ytpcfelknjcggiaa
