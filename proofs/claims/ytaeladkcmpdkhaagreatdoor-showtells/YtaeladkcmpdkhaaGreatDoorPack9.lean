/-
  Texts of mine in build order. No conditions of their own.
-/
import Derived.RangeFuncNested
import Derived.RangeFuncBound
import Derived.RangeFuncCalls
import Derived.RangeFuncLeaves
import Derived.Shelf.Abstract
import Derived.Shelf.RegionOpen
import Derived.OwnWalkIn
import Derived.TacticsInMore
import Derived.LoopNIn
import Derived.LoopIn
import Derived.Sort.LoopGhostIn
import Derived.Test.YtaeladkcmpdkhaaGreatDoorPack8
set_option maxHeartbeats 4000000
namespace Go.Proofs.YtaeladkcmpdkhaaGreatDoor
section
open Go.RowKit
def Later (A B u v : Nat) : Prop := v ≤ u ∧ u ≤ A ∧ u + v < A + B ∧ (0 < B → Nat.gcd u v = Nat.gcd A B ∧ 0 < u) ∧ (B = 0 → u = 0)
theorem later_rest {A B : Nat} (hA : 0 < A) (hB : B ≤ A) : Later A B B (rest A B) := by
 unfold rest
 rcases Nat.eq_zero_or_pos B with rfl | h
 ·exact ⟨by simp, by omega, by simp; omega, by omega, by omega⟩
 ·rw [if_neg (by omega)]
  have := Nat.mod_lt A h
  refine ⟨by omega, by omega, by omega, fun _ => ⟨?_, h⟩, by omega⟩
  rw [Nat.gcd_comm A B, Nat.gcd_rec B A, Nat.gcd_comm]
theorem later_leapt {X Y p q r t : Int} {A B : Nat} (h : Leapt X Y p q r t) (hh : Heads X Y A B) (hB : B ≤ A) : Later A B (p * A - q * B).natAbs (r * A - t * B).natAbs := by
 obtain ⟨h1, h2, h3⟩ := h.2.2.2.2 A B hh
 exact ⟨by omega, by omega, by omega, fun _ => ⟨h1, by omega⟩, by omega⟩
theorem common_later (n₀ A B : Nat) (a : Option Addr) (c : Nat) (b : Option Addr) (d : Nat) (w : World) (h : Row n₀ w (.slice a (nl A) c) (nl A) (natOf A)) (k : Row n₀ w (.slice b (nl B) d) (nl B) (natOf B)) (hn : n₀ ≤ w.heap.size) (hA : 0 < A) (hB : B ≤ A) (hL : nl A ≤ 10000000000) :
  Calls Tryz.prog 208 #[.slice a (nl A) c, .slice b (nl B) d] w fun e w' => ∃ u v a1 c1 a2 c2, e = .returned (.tuple #[.slice a1 (nl u) c1, .slice a2 (nl v) c2]) ∧ Row n₀ w' (.slice a1 (nl u) c1) (nl u) (natOf u) ∧ Row n₀ w' (.slice a2 (nl v) c2) (nl v) (natOf v) ∧ Below w.heap.size w w' ∧ Later A B u v := by
 have P := h.words
 have Q := k.words
 have hm := nl_mono hB
 have hp := nl_pos hA
 obtain ⟨g, rfl⟩ : ∃ g, a = some ⟨g, 0, none⟩ := by
  rcases h.addr with rfl | h0
  ·have := P.none.1; omega
  ·exact h0
 have HC := common_heads g (nl A) c (natOf A) b (nl B) d (natOf B) w P (wd_natOf A) Q (wd_natOf B) k.addr hm (by rw [val_natOf, val_natOf]; exact hB) (by omega)
 rw [val_natOf, val_natOf] at HC
 have LC := fun (X Y : Nat) (h1 : X < 18446744073709551616) (h2 : Y ≤ X) => common_leap X Y w (by omega) (by omega) (by omega)
 have DV := fun v (hb : Below w.heap.size w v) => split_div_any (P.below hb) (wd_natOf A) (Q.below hb) (wd_natOf B) (by omega) A B (val_natOf A) (val_natOf B)
 have OF := fun (x y : Int) v (hb : Below w.heap.size w v) (x0 : 0 ≤ x) (x1 : x < 4294967296) (y0 : 0 ≤ y) (y1 : y < 4294967296) => common_of x y _ _ _ _ _ _ _ _ v (P.below hb) (wd_natOf A) (Q.below hb) (wd_natOf B) (by omega) (by omega) x0 x1 y0 y1 _ rfl
 rw [val_natOf, val_natOf] at OF
 have HK : Hid (Row n₀ w (.slice b (nl B) d) (nl B) (natOf B)) := k
 have HA : Hid (0 < A ∧ B ≤ A ∧ n₀ ≤ w.heap.size) := ⟨hA, hB, hn⟩
 unfold AnsDivB at DV
 unfold Ans at OF
 clear h k P Q hA hB hn hL hm hp
 go_enter Tryz.func208, Tryz.ntmps208
 go_wp2_with (first
  | (go_at_call 224; (with_reducible refine Calls.mono HC ?_); rintro e w1 ⟨X, Y, rfl, rfl, x1, yx, hh⟩)
  | (go_at_call 223; (with_reducible refine Calls.mono (LC X Y x1 yx) ?_); rintro e w2 ⟨p, q, r, t, rfl, B2, hr⟩)
  | fail)
 all_goals
  have bx1 := (Box.new w2 p q).alloc (.cells #[.int .u64 r, .int .u64 t] 244)
  have bx2 := Box.new (w2.alloc (.cells #[.int .u64 p, .int .u64 q] 244)) r t
  have B3 : Below w.heap.size w ((w2.alloc (.cells #[.int .u64 p, .int .u64 q] 244)).alloc (.cells #[.int .u64 r, .int .u64 t] 244)) := (B2.alloc B2.size _).alloc (by have := B2.size; simp; omega) _
  have ez : (w2.alloc (.cells #[.int .u64 p, .int .u64 q] 244)).heap.size = w2.heap.size + 1 := by simp
  rw [ez] at bx2
  generalize (w2.alloc (.cells #[.int .u64 p, .int .u64 q] 244)).alloc (.cells #[.int .u64 r, .int .u64 t] 244) = W3 at *
  clear ez
 ·clear bx1 bx2 OF HC LC hr hh x1 yx
  go_wp2_with (first
   | (go_at_call 171; (with_reducible refine Calls.mono (DV W3 B3) ?_); rintro e w4 ⟨a4, c4, a5, c5, rfl, o4, o5⟩))
  go_ret2
  obtain ⟨hA, hB, hn⟩ := HA.out
  exact ⟨B, rest A B, b, d, a5, c5, rfl, (HK.out.more B3).more o5.below, o5.row (Nat.le_trans hn B3.size), below_more B3 o5.below, later_rest hA hB⟩
 ·have h0 : (r == 0) = false := ‹_›
  have L := hr.resolve_left (by simpa using h0)
  obtain ⟨hA, hB, hn⟩ := HA.out
  have HL : Hid (Later A B (p * A - q * B).natAbs (r * A - t * B).natAbs) := later_leapt L hh hB
  have hn3 := Nat.le_trans hn B3.size
  obtain ⟨⟨p0, p1⟩, ⟨q0, q1⟩, ⟨r0, r1⟩, ⟨t0, t1⟩, -⟩ := L
  have O1 := fun v hb => OF p q v hb p0 p1 q0 q1
  have O2 := fun v hb => OF r t v hb r0 r1 t0 t1
  clear OF DV HC LC hr hh x1 yx HA HK hA hB hn
  generalize (p * A - q * B).natAbs = u at O1 HL
  generalize (r * A - t * B).natAbs = v at O2 HL
  have B4 := B3.drew
  obtain ⟨c1, c2, f1, f2⟩ := bx1.drew.cells
  obtain ⟨c3, c4, f3, f4⟩ := bx2.drew.cells
  go_region_with (first
   | (go_at_call 225; (with_reducible refine Calls.mono (O1 W3.drew B4) ?_); rintro e w4 ⟨a1, k1, rfl, o1⟩; have o1' := o1.row hn3; have B5 := below_more B4 o1.below; obtain ⟨d1, d2, g1, g2⟩ := (bx1.drew.more o1.below).cells; obtain ⟨d3, d4, g3, g4⟩ := (bx2.drew.more o1.below).cells)
   | (go_at_call 225; (with_reducible refine Calls.mono (O2 W3.drew B4) ?_); rintro e w4 ⟨a2, k2, rfl, o2⟩; have o2' := o2.row hn3; have B5 := below_more B4 o2.below; obtain ⟨d1, d2, g1, g2⟩ := (bx1.drew.more o2.below).cells; obtain ⟨d3, d4, g3, g4⟩ := (bx2.drew.more o2.below).cells)
   | (go_at_call 225; (with_reducible refine Calls.mono (O2 w4 B5) ?_); rintro e w5 ⟨a2, k2, rfl, o2⟩; have o1' := o1'.more o2.below; have o2' := o2.row (Nat.le_trans hn3 o1.below.size); have B6 := below_more B5 o2.below)
   | (go_at_call 225; (with_reducible refine Calls.mono (O1 w4 B5) ?_); rintro e w5 ⟨a1, k1, rfl, o1⟩; have o2' := o2'.more o1.below; have o1' := o1.row (Nat.le_trans hn3 o2.below.size); have B6 := below_more B5 o1.below))
  all_goals
   go_wp2
   go_ret2
   exact ⟨u, v, a1, k1, a2, k2, rfl, o1', o2', B6, HL.out⟩
end
section
open Go.RowKit Go.Shelf
attribute [local go_sem] Oper.semAt_some
theorem cell_below {w w' : World} {p : Addr} {v : Value} (h : w.cell? p = some v) (hb : Below w.heap.size w w') : w'.cell? p = some v := (hb.cell (World.block_lt_of_cell? w _ h)).trans h
abbrev Sl := Option Addr × Nat × Nat
def LeftsAt (n₀ G : Nat) (J : Sl → World → Prop) (g : Nat) (v4 v5 : Value) (w : World) : Prop :=
  ∃ (A B : Nat) (a : Option Addr) (c : Nat) (b : Option Addr) (d : Nat) (u : Sl), v4 = .slice a (nl A) c ∧ v5 = .slice b (nl B) d ∧ Row n₀ w (.slice a (nl A) c) (nl A) (natOf A) ∧ Row n₀ w (.slice b (nl B) d) (nl B) (natOf B) ∧ n₀ ≤ w.heap.size ∧
    B ≤ A ∧ nl A ≤ 10000000000 ∧ g = A + B ∧ J u w ∧ (0 < A ∧ Nat.gcd A B = G ∨ A = 0 ∧ ∃ a' c', u = (a', nl G, c') ∧ Row n₀ w (.slice a' (nl G) c') (nl G) (natOf G))
theorem LeftsAt.start {n₀ G A B : Nat} {J : Sl → World → Prop} {w : World} {a : Option Addr} {c : Nat} {b : Option Addr} {d : Nat} (h : Row n₀ w (.slice a (nl A) c) (nl A) (natOf A)) (k : Row n₀ w (.slice b (nl B) d) (nl B) (natOf B)) (hn : n₀ ≤ w.heap.size) (hB : B ≤ A) (hA : nl A ≤ 1000000000)
  (hJ : J (none, 0, 0) w) (hG : Nat.gcd A B = G) : LeftsAt n₀ G J (A + B) (.slice a (nl A) c) (.slice b (nl B) d) w := by
 refine ⟨A, B, a, c, b, d, _, rfl, rfl, h, k, hn, hB, by omega, rfl, hJ, ?_⟩
 rcases Nat.eq_zero_or_pos A with h0 | h0
 ·obtain rfl : B = 0 := by omega
  subst h0
  have e : G = 0 := by rw [← hG]; rfl
  subst e
  exact .inr ⟨rfl, none, 0, by rw [nl_zero], by have := Row.nil n₀ w; rw [nl_zero] at this; rw [nl_zero]; exact this⟩
 ·exact .inl ⟨h0, hG⟩
theorem common_lefts1 (n l n₀ Ba Bb : Nat) (hn : 1 ≤ n) (J : Sl → World → Prop) (hJ : ∀ v W W', J v W → Below W.heap.size W W' → J v W')
  (hY : ∀ u x m c W1, J u W1 → YieldAt Fence.wide (n - 1) Tryz.prog l #[.slice x m c] W1 fun e W' => e = .returned (.bool true) ∧ J (x, m, c) W' ∧ W'.heap.size = W1.heap.size ∧ ∀ k, n₀ ≤ k → W'.heap[k]? = W1.heap[k]?)
  (a : Option Addr) (m c : Nat) (xs : List Int) (b : Option Addr) (m' d : Nat) (ys : List Int) (W : World) (hW : W.heap.size = n₀) (ca : W.cell? ⟨Ba, 0, none⟩ = some (.slice a m c)) (cb : W.cell? ⟨Bb, 0, none⟩ = some (.slice b m' d))
  (h : IsWords W (.slice a m c) xs) (hx : Wd xs) (k : IsWords W (.slice b m' d) ys) (hy : Wd ys) (hm : m ≤ 1000000000) (hm' : m' ≤ 1000000000) (h0 : J (none, 0, 0) W) (G : Nat) (hG : Nat.gcd (val xs) (val ys) = G) :
  CallsIn Fence.wide n Tryz.prog 207 #[.func (.yield l) #[] #[], .pointer (some ⟨Ba, 0, none⟩), .pointer (some ⟨Bb, 0, none⟩)] W fun e W' => (∃ v, e = .returned v) ∧ ∃ a' c', J (a', nl G, c') W' ∧ Row n₀ W' (.slice a' (nl G) c') (nl G) (natOf G) := by
 have T1 := fun v (hb : Below W.heap.size W v) => nat_trim' (h.below hb) hx (by omega) _ rfl
 have T2 := fun v (hb : Below W.heap.size W v) => nat_trim' (k.below hb) hy (by omega) _ rfl
 unfold Ans at T1 T2
 have l1 := nl_small hx 1000000000 (by rw [h.len]; omega)
 have l2 := nl_small hy 1000000000 (by rw [k.len]; omega)
 generalize val xs = A at *
 generalize val ys = B at *
 have B0 : Below W.heap.size W W.drew := (Below.refl _ _).drew
 have ca0 : W.drew.cell? ⟨Ba, 0, none⟩ = some (.slice a m c) := ca
 have cb0 : W.drew.cell? ⟨Bb, 0, none⟩ = some (.slice b m' d) := cb
 have hmx : Tryz.prog.follows .mixedOrders = true := by kernel_rfl
 refine callsIn_of_wp Tryz.func207 rfl trivial ?_ rfl
 simp only [Tryz.ntmps207, List.size_toArray, List.length_cons, List.length_nil, Nat.reduceAdd, Nat.reduceSub, Array.replicate_succ, Array.replicate_zero, List.push_toArray, List.append_toArray, List.nil_append, List.cons_append]
 gi_wp2
 gi_region_with_o (first
  | (refine ⟨trivial, ?_⟩; gi_at_call 141; (with_reducible refine CallsIn.mono (callsIn_wide.2 (T1 W.drew B0)) ?_); rintro e w1 ⟨a1, k1, rfl, o1⟩; have B1 := below_more B0 o1.below; have ca1 := cell_below ca0 o1.below; have cb1 := cell_below cb0 o1.below)
  | (refine ⟨trivial, ?_⟩; gi_at_call 141; (with_reducible refine CallsIn.mono (callsIn_wide.2 (T2 W.drew B0)) ?_); rintro e w1 ⟨a2, k2, rfl, o2⟩; have B1 := below_more B0 o2.below; have ca1 := cell_below ca0 o2.below; have cb1 := cell_below cb0 o2.below)
  | (refine ⟨trivial, ?_⟩; gi_at_call 141; (with_reducible refine CallsIn.mono (callsIn_wide.2 (T2 w1 B1)) ?_); rintro e w2 ⟨a2, k2, rfl, o2⟩; have o1 := o1.more o2.below)
  | (refine ⟨trivial, ?_⟩; gi_at_call 141; (with_reducible refine CallsIn.mono (callsIn_wide.2 (T1 w1 B1)) ?_); rintro e w2 ⟨a1, k1, rfl, o1⟩; have o2 := o2.more o1.below))
 all_goals
  have R1 : Row n₀ w2 (.slice a1 (nl A) k1) (nl A) (natOf A) := by first | exact o1.row (Nat.le_of_eq hW.symm) | exact o1.row (hW ▸ B1.size)
  have R2 : Row n₀ w2 (.slice a2 (nl B) k2) (nl B) (natOf B) := by first | exact o2.row (Nat.le_of_eq hW.symm) | exact o2.row (hW ▸ B1.size)
  have J2 : J (none, 0, 0) w2 := by first | exact hJ _ _ _ h0 (below_more B1 o2.below) | exact hJ _ _ _ h0 (below_more B1 o1.below)
  have S2 : n₀ ≤ w2.heap.size := by first | exact hW ▸ (below_more B1 o2.below).size | exact hW ▸ (below_more B1 o1.below).size
  clear T1 T2 ca cb ca0 cb0 ca1 cb1 B0 B1 o1 o2 h k h0
  rcases Nat.lt_or_ge A B with hlt | hge
  case' inl =>
   obtain ⟨cs, C, hcs⟩ : ∃ cs : Int, Calls Tryz.prog 85 #[.slice a1 (nl A) k1, .slice a2 (nl B) k2] w2 (fun e w' => e = .returned (.int .i64 cs) ∧ Below w2.heap.size w2 w') ∧ cs < 0 :=
    ⟨-1, nat_cmp' R1.words (wd_natOf A) R2.words (wd_natOf B) (-1) (by rw [val_natOf, val_natOf]; exact sgn_lt (by omega)), by omega⟩
   have ST := fun v (hb : Below w2.heap.size w2 v) => LeftsAt.start (G := G) (R2.more hb) (R1.more hb) (Nat.le_trans S2 hb.size) (Nat.le_of_lt hlt) l2 (hJ _ _ _ J2 hb) (by rw [Nat.gcd_comm]; exact hG)
   rw [Nat.add_comm B A] at ST
   have hs : Hid (A < B) := hlt
  case' inr =>
   obtain ⟨cs, C, hcs⟩ : ∃ cs : Int, Calls Tryz.prog 85 #[.slice a1 (nl A) k1, .slice a2 (nl B) k2] w2 (fun e w' => e = .returned (.int .i64 cs) ∧ Below w2.heap.size w2 w') ∧ 0 ≤ cs := by
    refine ⟨_, nat_cmp' R1.words (wd_natOf A) R2.words (wd_natOf B) _ rfl, ?_⟩
    rw [val_natOf, val_natOf]
    rcases Nat.lt_or_ge B A with h | h
    ·rw [sgn_gt (by omega)]; omega
    ·rw [sgn_eq (by omega)]; omega
   have ST := fun v (hb : Below w2.heap.size w2 v) => LeftsAt.start (G := G) (R1.more hb) (R2.more hb) (Nat.le_trans S2 hb.size) hge l1 (hJ _ _ _ J2 hb) hG
   have hs : Hid (B ≤ A) := hge
  all_goals
   clear R1 R2 J2 S2 l1 l2 hG hW
   gi_wp2_with (first
    | (refine ⟨trivial, ?_⟩; gi_at_call 85; (with_reducible refine CallsIn.mono (callsIn_wide.2 C) ?_); rintro e w3 ⟨rfl, b3⟩))
   have ST := ST w3 b3
   gi_loopg [4, 5] (A + B) (fun g v4 v5 v => LeftsAt n₀ G J g v4 v5 v)
   case atStart => exact ST
   case round =>
    obtain ⟨A1, B1, x1, c1, y1, d1, u, rfl, rfl, r1, r2, hz, hBA, hL, hg, hu, hc⟩ := hrel
    clear ST C hcs hs
    rcases hc with ⟨hpos, hgc⟩ | ⟨h0, a', c', rfl, r3⟩
    ·have hnl : 0 < nl A1 := nl_pos hpos
     obtain ⟨fn, tmps, assign, body, hy, hR⟩ := hY u x1 (nl A1) c1 wr hu
     gi_wp2
     refine hR.mono ?_
     rintro e W3 ⟨rfl, hJ3, hs3, hk3⟩
     have q1 := r1.keep hk3
     have q2 := r2.keep hk3
     have hz3 : n₀ ≤ W3.heap.size := by omega
     have LT := common_later n₀ A1 B1 x1 c1 y1 d1 W3 q1 q2 hz3 hpos hBA hL
     have HF : Hid (∀ (u v : Nat), Later A1 B1 u v → u + v < gk ∧ v ≤ u ∧ nl u ≤ 10000000000 ∧ ((0 < u ∧ Nat.gcd u v = G) ∨ (u = 0 ∧ A1 = G))) := fun u v hl => by
      obtain ⟨z1, z2, z3, z4, z5⟩ := hl
      refine ⟨by omega, z1, Nat.le_trans (nl_mono z2) hL, ?_⟩
      rcases Nat.eq_zero_or_pos B1 with e | e
      ·subst e
       rw [Nat.gcd_zero_right] at hgc
       exact .inr ⟨z5 rfl, hgc⟩
      ·obtain ⟨z6, z7⟩ := z4 e
       exact .inl ⟨z7, z6.trans hgc⟩
     clear r1 r2 hg hgc hu hY hy hR hk3 hs3 hL hz
     gi_wp2_with (first
      | (refine ⟨trivial, ?_⟩; gi_at_call 208; (with_reducible refine CallsIn.mono (callsIn_wide.2 LT) ?_); rintro e W4 ⟨u4, v4, a4, c4, a5, c5, rfl, r4, r5, b4, hl4⟩))
     obtain ⟨f1, f2, f3, f4⟩ := HF.out u4 v4 hl4
     gi_roundg (u4 + v4)
     case measure => exact f1
     case rel =>
      refine ⟨u4, v4, a4, c4, a5, c5, (x1, nl A1, c1), rfl, rfl, r4, r5, Nat.le_trans hz3 b4.size, f2, f3, rfl, hJ _ _ _ hJ3 b4, ?_⟩
      rcases f4 with f4 | ⟨f4, f5⟩
      ·exact .inl f4
      ·subst f5
       exact .inr ⟨f4, x1, c1, rfl, q1.more b4⟩
    ·have e0 : nl A1 = 0 := by rw [h0]; exact nl_zero
     rw [e0]
     gi_wp2
     refine ⟨fun _ h => (by cases h), ?_⟩
     gi_wp2
     go_end0
     exact ⟨⟨_, rfl⟩, a', c', hu, r3⟩
end
section
open Go.RowKit
theorem below_put {B : Nat} {w W : World} (h : Below B w W) {r : Nat} (hr : B ≤ r) (o : Obj) : Below B w (W.putObj r o) :=
 h.trans ⟨rfl, rfl, rfl, by simp, fun k hk => World.putObj_heap_other (by omega)⟩
theorem wpIn_range_told {α : Type} (enc : α → Value) {F : Fence} {n : Nat} {P : Program} {g : Operand} {p : Tmp} {assign body : Code} {Q : Exit → Act → World → Prop} {a : Act} {w : World}
  (hro : F.round = none) (h1 : 1 ≤ n) {gf : Nat} {lb : Array Value} (hg : a.eval g = .func (.func gf) #[] lb) (hFg : F.fn gf) (eg : ∀ args w, (callFunc gf args).run P w = .ok (.enter gf args) w)
  (I S : α → World → Prop) (v0 : α) (h0 : I v0 w) (hIb : ∀ v A B, I v A → w.heap.size ≤ A.heap.size → Below A.heap.size A B → I v B) (hIp : ∀ v A r o, I v A → w.heap.size ≤ r → I v (A.putObj r o))
  (a₁ : α → Act)
  (hassign : ∀ l v W K, K (a₁ v) W → assign.wpIn (F.inRound l) (n - 1 - 1) P (Exit.then K (fun _ _ _ => False)) { tmps := a.tmps.setIfInBounds p (enc v), defers := [] } W)
  (hbody : ∀ l u v W, I u W → body.wpIn (F.inRound l) (n - 1 - 1) P (fun e _ W' => e = .normal ∧ I v W' ∧ W'.heap.size = W.heap.size ∧ ∀ k, w.heap.size ≤ k → W'.heap[k]? = W.heap[k]?) (a₁ v) W)
  (hseq : ∀ l (J : α → World → Prop) W, W.heap.size = w.heap.size + 2 → Below w.heap.size w W → (∀ v A B, J v A → Below A.heap.size A B → J v B) →
   (∀ u v A, J u A → YieldAt F (n - 1 - 1) P l #[enc v] A fun e B => e = .returned (.bool true) ∧ J v B ∧ B.heap.size = A.heap.size ∧ ∀ k, w.heap.size + 2 ≤ k → B.heap[k]? = A.heap[k]?) → J v0 W →
   CallsIn F (n - 1) P gf (#[.func (.yield l) #[] #[]] ++ lb) W fun e B => (∃ v, e = .returned v) ∧ ∃ v, J v B ∧ S v B)
  (hS : ∀ v A r o, S v A → r < w.heap.size + 2 → S v (A.putObj r o))
  (hdone : ∀ D v W, w.heap.size ≤ D → D < w.heap.size + 2 → I v W → S v W → W.heap[D]? = some (.deferred (some [])) → Q .normal { a with defers := { target := .collected D, args := #[] } :: a.defers } W) :
  (Code.rangeFunc g #[p] assign body).wpIn F n P Q a w := by
 refine wpIn_rangeFunc ?_
 intro fn hfn
 rw [hro]
 obtain ⟨R, hR⟩ : ∃ R : LoopState → Loop, R = fun st => { state := st, pending := none, fn, tmps := a.tmps, params := #[p], assign, body, defers := w.heap.size } := ⟨_, rfl⟩
 obtain ⟨V, hV⟩ : ∃ V, (w.alloc (.deferred (some []))).alloc (.loop (R .ready)) = V := ⟨_, rfl⟩
 have z1 : V.heap.size = w.heap.size + 2 := by rw [← hV]; simp
 have bV : Below w.heap.size w V := by rw [← hV]; exact ((Below.refl _ w).alloc (Nat.le_refl _) _).alloc (by simp) _
 have kL : V.heap[w.heap.size + 1]? = some (.loop (R .ready)) := by
  rw [← hV]; have := World.alloc_heap_new (w.alloc (.deferred (some []))) (.loop (R .ready)); rwa [World.size_alloc] at this
 have kD : V.heap[w.heap.size]? = some (.deferred (some [])) := by
  rw [← hV]; exact (Below.heap_alloc _ _ _ (by simp)).trans (World.alloc_heap_new w _)
 refine ⟨w.heap.size + 1, [{ target := .collected w.heap.size, args := #[] }], V, { target := .fn (.func gf) lb, args := #[.func (.yield (w.heap.size + 1)) #[] #[]] }, V, gf, #[.func (.yield (w.heap.size + 1)) #[] #[]] ++ lb, V, ?_, ?_, ?_, ?_, fun _ => h1, ?_⟩
 ·rw [← hV, hR]; exact run_enterLoop_outer _ _ _ _ _
 ·simp only [resolve, hg]; simp [go_sem]
 ·intro f' hf'; simp [Target.leads] at hf'; subst hf'; exact hFg
 ·simp [invoke, go_sem, eg]
 refine (hseq (w.heap.size + 1) (fun v A => I v A ∧ A.heap[w.heap.size + 1]? = some (.loop (R .ready)) ∧ A.heap[w.heap.size]? = some (.deferred (some []))) V z1 bV ?_ ?_ ⟨hIb _ _ _ h0 (Nat.le_refl _) bV, kL, kD⟩).mono ?_
 ·rintro v A B ⟨i, l, d⟩ hb
  have lt := (Array.getElem?_eq_some_iff.1 l).1
  exact ⟨hIb v A B i (by omega) hb, (hb.block _ lt).trans l, (hb.block _ (by omega)).trans d⟩
 ·rintro u v A ⟨i, l, d⟩
  have lt := (Array.getElem?_eq_some_iff.1 l).1
  have hy : (Instr.yield (w.heap.size + 1) #[enc v]).run P A = .ok (.round (w.heap.size + 1) fn (a.tmps.setIfInBounds p (enc v)) assign body) A := by
   have := run_yield (P := P) (args := #[enc v]) l (by rw [hR]; rfl)
   rw [hR] at this
   simpa using this
  refine ⟨fn, _, assign, body, hy, roundIn_of_wpIn hfn ?_⟩
  refine hassign _ v A _ ?_
  refine ⟨_, run_beginRound l (by rw [hR]), ?_⟩
  have l2 : (A.putObj (w.heap.size + 1) (.loop { R .ready with state := .busy })).heap[w.heap.size + 1]? = some (.loop { R .ready with state := .busy }) := World.putObj_heap_same lt
  refine wpIn_mono (hbody _ u v _ (hIp _ _ _ _ i (by omega))) ?_
  rintro e a3 B ⟨rfl, i3, z3, k3⟩
  have l3 := (k3 (w.heap.size + 1) (by omega)).trans l2
  have hend := run_endRound (P := P) none l3
  have d3 := (k3 w.heap.size (Nat.le_refl _)).trans ((World.putObj_heap_other (by omega)).trans d)
  have l4 := World.putObj_heap_same (o := .loop (R .ready)) (Array.getElem?_eq_some_iff.1 l3).1
  refine ⟨_, _, hend, rfl, ⟨hIp _ _ _ _ i3 (by omega), ?_, (World.putObj_heap_other (by omega)).trans d3⟩, by simpa using z3, fun k hk => ?_⟩
  ·rw [hR] at l4 ⊢; exact l4
  ·rw [World.putObj_heap_other (by omega), k3 k (by omega), World.putObj_heap_other (by omega)]
 ·rintro e B ⟨⟨v, rfl⟩, u, ⟨i, l, d⟩, s⟩
  have lt := (Array.getElem?_eq_some_iff.1 l).1
  refine ⟨none, _, ?_, hdone w.heap.size u _ (Nat.le_refl _) (by omega) (hIp _ _ (w.heap.size + 1) (.loop { R .ready with state := .exhausted }) i (by omega)) (hS _ _ _ _ s (by omega)) ((World.putObj_heap_other (by omega)).trans d)⟩
  have := run_endLoop (P := P) l (by rw [hR]; simp)
  rw [hR] at this ⊢
  exact this
end
section
open Go.RowKit Go.Shelf
attribute [local go_sem] Oper.semAt_some
theorem common_lefts (n : Nat) (a : Option Addr) (m c : Nat) (b : Option Addr) (m' d : Nat) (w : World) :
  CallsIn Fence.wide n Tryz.prog 192 #[.slice a m c, .slice b m' d] w fun e w' => e = .returned (.func (.func 207) #[] #[.pointer (some ⟨w.heap.size, 0, none⟩), .pointer (some ⟨w.heap.size + 1, 0, none⟩)]) ∧
   w' = (w.alloc (.cells #[.slice a m c] 43)).alloc (.cells #[.slice b m' d] 43) := by
 refine callsIn_wide.2 ?_
 go_enter Tryz.func192, Tryz.ntmps192
 go_wp2
 go_ret
 exact ⟨by simp, rfl⟩
theorem new_block (v : World) (o : Obj) : (v.alloc o).heap[v.heap.size]? = some o := by show (v.heap.push o)[v.heap.size]? = _; simp
theorem one_cell {w : World} {k : Nat} {v : Value} {T : TypeId} (h : w.heap[k]? = some (.cells #[v] T (0, 0))) : w.cell? ⟨k, 0, none⟩ = some v ∧ w.frozen? ⟨k, 0, none⟩ = false := by
 simp [World.cell?, World.frozen?, h]
theorem common_gcd {a : Option Addr} {m c : Nat} {xs : List Int} {b : Option Addr} {m' d : Nat} {ys : List Int} {w : World} (h : IsWords w (.slice a m c) xs) (hx : Wd xs) (k : IsWords w (.slice b m' d) ys) (hy : Wd ys) (hm : m ≤ 1000000000) (hm' : m' ≤ 1000000000) (G : Nat) (hG : Nat.gcd (val xs) (val ys) = G) :
  Calls Tryz.prog 170 #[.slice a m c, .slice b m' d] w (Ans w G) := by
 refine (callsIn_wide (n := 3)).1 ?_
 refine callsIn_of_wp_marks Tryz.func170 rfl trivial ?_ rfl
 simp only [Tryz.ntmps170, List.size_toArray, List.length_cons, List.length_nil, Nat.reduceAdd, Nat.reduceSub, Array.replicate_succ, Array.replicate_zero, List.push_toArray, List.append_toArray, List.nil_append, List.cons_append]
 gi_wp2_with (refine ⟨trivial, ?_⟩; gi_at_call 192; refine (common_lefts _ _ _ _ _ _ _ _).mono ?_; rintro e w' ⟨rfl, rfl⟩)
 obtain ⟨V, hV⟩ : ∃ V, ((w.alloc (.cells #[.slice none 0 0] 43)).alloc (.cells #[.slice a m c] 43)).alloc (.cells #[.slice b m' d] 43) = V := ⟨_, rfl⟩
 have zV : V.heap.size = w.heap.size + 3 := by rw [← hV]; simp
 have bV : Below w.heap.size w V := by rw [← hV]; exact (((Below.refl _ w).alloc (Nat.le_refl _) _).alloc (by simp) _).alloc (by simp; omega) _
 have k0 : V.heap[w.heap.size]? = some (.cells #[.slice none 0 0] 43 (0, 0)) := by
  rw [← hV, Below.heap_alloc _ _ _ (by simp; omega), Below.heap_alloc _ _ _ (by simp)]; exact new_block w _
 have k1 : V.heap[w.heap.size + 1]? = some (.cells #[.slice a m c] 43 (0, 0)) := by
  rw [← hV, Below.heap_alloc _ _ _ (by simp)]
  have := new_block (w.alloc (.cells #[.slice none 0 0] 43)) (.cells #[.slice a m c] 43)
  rwa [World.size_alloc] at this
 have k2 : V.heap[w.heap.size + 1 + 1]? = some (.cells #[.slice b m' d] 43 (0, 0)) := by
  rw [← hV]
  have := new_block ((w.alloc (.cells #[.slice none 0 0] 43)).alloc (.cells #[.slice a m c] 43)) (.cells #[.slice b m' d] 43)
  rwa [World.size_alloc, World.size_alloc] at this
 rw [hV]
 clear hV
 refine wpIn_range_told (fun s : Sl => .slice s.1 s.2.1 s.2.2) rfl (by omega) (gf := 207) (lb := #[.pointer (some ⟨w.heap.size + 1, 0, none⟩), .pointer (some ⟨w.heap.size + 1 + 1, 0, none⟩)]) rfl trivial (enters_of Tryz.func207 (by kernel_rfl) rfl)
  (fun v W => W.cell? ⟨w.heap.size, 0, none⟩ = some (.slice v.1 v.2.1 v.2.2) ∧ W.frozen? ⟨w.heap.size, 0, none⟩ = false ∧ Below w.heap.size w W)
  (fun v W => ∃ a' c', v = (a', nl G, c') ∧ Row (w.heap.size + 5) W (.slice a' (nl G) c') (nl G) (natOf G))
  (none, 0, 0) ⟨(one_cell k0).1, (one_cell k0).2, bV⟩ ?_ ?_
  (fun v => { tmps := #[.slice a m c, .slice b m' d, undef, undef, .slice none 0 0, .pointer (some ⟨w.heap.size, 0, none⟩), .slice v.1 v.2.1 v.2.2, .slice a m c, .slice b m' d, .func (.func 207) #[] #[.pointer (some ⟨w.heap.size + 1, 0, none⟩), .pointer (some ⟨w.heap.size + 1 + 1, 0, none⟩)], .slice v.1 v.2.1 v.2.2, undef, undef], defers := [] })
  ?assign ?body ?seq ?_ ?done
 ·rintro v A B ⟨i1, i2, i3⟩ hz hb
  exact ⟨(hb.cell (p := ⟨w.heap.size, 0, none⟩) (by simp; omega)).trans i1, (hb.frozen (p := ⟨w.heap.size, 0, none⟩) (by simp; omega)).trans i2, i3.trans (hb.mono (by omega))⟩
 ·rintro v A r o ⟨i1, i2, i3⟩ hr
  have e : (A.putObj r o).heap[w.heap.size]? = A.heap[w.heap.size]? := World.putObj_heap_other (by omega)
  exact ⟨(World.cell?_of_block (w := A) e).trans i1, (World.frozen?_of_block (w := A) e).trans i2, below_put i3 (by omega) o⟩
 case assign =>
  intro l v W K hK
  gi_wp2
  exact hK
 case body =>
  rintro l u ⟨x, mx, cx⟩ W ⟨i1, i2, i3⟩
  dsimp only
  gi_wp2
  exact ⟨i3.setCell (p := ⟨w.heap.size, 0, none⟩) (Nat.le_refl _) _, fun k hk => Below.heap_setCell _ _ _ _ (by simp; omega)⟩
 case seq =>
  intro l J W hz hb hJ hY h0
  have b2 : Below w.heap.size w W := bV.trans (hb.mono (by omega))
  refine (common_lefts1 2 l (w.heap.size + 5) (w.heap.size + 1) (w.heap.size + 1 + 1) (by omega) J hJ (fun u x mx cx A hj => ?_) a m c xs b m' d ys W (by omega) ?_ ?_ (h.below b2) hx (k.below b2) hy hm hm' h0 G hG).mono ?_
  ·have := hY u (x, mx, cx) A hj
   rw [zV] at this
   exact this
  ·exact (one_cell ((hb.block _ (by omega)).trans k1)).1
  ·exact (one_cell ((hb.block _ (by omega)).trans k2)).1
  ·rintro e B ⟨hv, a', c', hj, hr⟩
   exact ⟨hv, _, hj, a', c', rfl, hr⟩
 ·rintro v A r o ⟨a', c', rfl, hr⟩ hlt
  exact ⟨a', c', rfl, hr.keep fun k hk => World.putObj_heap_other (by omega)⟩
 case done =>
  rintro D v W hD1 hD2 ⟨i1, i2, i3⟩ ⟨a', c', rfl, hr⟩ hK
  gi_wp2
  refine ⟨by simp, .inl ⟨_, _, rfl, run_takeDeferred hK, ?_⟩⟩
  refine ⟨_, results_tmp rfl _ _ _, a', c', rfl, ?_⟩
  exact (hr.keep fun k hk => World.putObj_heap_other (by omega)).own (by omega) (below_put i3 (by omega) _)
end
section
open Go.RowKit
def low1 (A B : Nat) : Nat := if B = 0 then 0 else A / Nat.gcd A B
theorem common_apart {a : Option Addr} {m c : Nat} {xs : List Int} {b : Option Addr} {m' d : Nat} {ys : List Int} {w : World} (h : IsWords w (.slice a m c) xs) (hx : Wd xs) (k : IsWords w (.slice b m' d) ys) (hy : Wd ys) (hm : m ≤ 1000000000) (hm' : m' ≤ 1000000000) (r : Bool) (hr : decide (Nat.gcd (val xs) (val ys) = 1) = r) :
  Calls Tryz.prog 184 #[.slice a m c, .slice b m' d] w fun e w' => e = .returned (.bool r) ∧ Below w.heap.size w w' := by
 have G := common_gcd h hx k hy hm hm' _ rfl
 unfold Ans at G
 have hr2 : Nat.gcd (val xs) (val ys) = 1 ↔ r = true := by rw [← hr]; simp
 clear hr
 generalize Nat.gcd (val xs) (val ys) = g at G hr2
 have O := fun v => nat_of 1 v (by omega) (by omega)
 unfold Ans at O
 rw [show (1 : Int).toNat = 1 from rfl] at O
 have C := fun v a1 c1 a2 c2 (p : IsWords v (.slice a1 (nl g) c1) (natOf g)) (q : IsWords v (.slice a2 (nl 1) c2) (natOf 1)) => nat_cmp' p (wd_natOf g) q (wd_natOf 1) (sgn g 1) (by rw [val_natOf, val_natOf]; rfl)
 have hs : decide (sgn (g : Int) 1 = 0) = r := by
  rw [Bool.eq_iff_iff]
  simp only [decide_eq_true_eq]
  rw [← hr2]
  rcases Int.lt_trichotomy (g : Int) 1 with h | h | h
  ·rw [sgn_lt h]; omega
  ·rw [sgn_eq h]; omega
  ·rw [sgn_gt h]; omega
 generalize sgn (g : Int) 1 = s at C hs
 generalize nl 1 = k1 at O C
 generalize natOf 1 = z1 at O C
 clear h k hx hy hm hm' hr2
 go_enter Tryz.func184, Tryz.ntmps184
 go_wp2_with (first
  | (go_at_call 170; (with_reducible refine Calls.mono G ?_); rintro e w1 ⟨a1, c1, rfl, o1⟩)
  | (go_at_call 86; (with_reducible refine Calls.mono (O w1) ?_); rintro e w2 ⟨a2, c2, rfl, o2⟩)
  | (go_at_call 85; (with_reducible refine Calls.mono (C w2 _ _ _ _ (o1.more o2.below).words o2.words) ?_); rintro e w3 ⟨rfl, b3⟩))
 go_ret
 exact ⟨ret_bool (by rw [← hs]; rw [Bool.eq_iff_iff]; simp), below_more (below_more o1.below o2.below) b3⟩
theorem common_lowest {a : Option Addr} {m c : Nat} {xs : List Int} {b : Option Addr} {m' d : Nat} {ys : List Int} {w : World} (h : IsWords w (.slice a m c) xs) (hx : Wd xs) (k : IsWords w (.slice b m' d) ys) (hy : Wd ys) (hm : m ≤ 1000000000) (hm' : m' ≤ 1000000000) (A B : Nat) (hA : val xs = A) (hB : val ys = B) :
  Calls Tryz.prog 139 #[.slice a m c, .slice b m' d] w (AnsDivB w (low1 A B) (B / Nat.gcd A B) (decide (0 < B))) := by
 have N := nat_bits' k hy (by omega) _ rfl
 rw [hB] at N
 rcases Nat.eq_zero_or_pos B with h0 | h0
 ·subst h0
  rw [nbits_zero, show ((0 : Nat) : Int) = 0 from rfl] at N
  rw [show low1 A 0 = 0 from rfl, Nat.zero_div, show decide (0 < 0) = false from rfl]
  have E := nil_nl (Below.refl w.heap.size w)
  unfold AnsDivB
  rw [nl_zero] at E ⊢
  clear h k hx hy hm hm' hA hB
  go_enter Tryz.func139, Tryz.ntmps139
  go_wp2_with (go_at_call 137; (with_reducible refine Calls.mono N ?_); rintro e w1 ⟨rfl, rfl⟩)
  go_ret3
  exact ⟨_, _, _, _, rfl, E, E⟩
 ·have hb0 : ((nbits B : Int) == 0) = false := by
   have := lt_nbits B
   have : nbits B ≠ 0 := fun e => by rw [e] at this; omega
   simp; omega
  have e1 : low1 A B = A / Nat.gcd A B := if_neg (by omega)
  rw [e1, show decide (0 < B) = true from decide_eq_true h0]
  have G := common_gcd h hx k hy hm hm' (Nat.gcd A B) (by rw [hA, hB])
  unfold Ans at G
  have hg : 0 < Nat.gcd A B := Nat.gcd_pos_of_pos_right _ h0
  have D1 := fun v g1 c1 (hb : Below w.heap.size w v) (hg : IsWords v (.slice g1 (nl (Nat.gcd A B)) c1) (natOf (Nat.gcd A B))) => split_div_any (h.below hb) hx hg (wd_natOf _) (by omega) A (Nat.gcd A B) hA (val_natOf _)
  have D2 := fun v g1 c1 (hb : Below w.heap.size w v) (hg : IsWords v (.slice g1 (nl (Nat.gcd A B)) c1) (natOf (Nat.gcd A B))) => split_div_any (k.below hb) hy hg (wd_natOf _) (by omega) B (Nat.gcd A B) hB (val_natOf _)
  unfold AnsDivB at D1 D2 ⊢
  generalize A / Nat.gcd A B = X at D1 ⊢
  generalize B / Nat.gcd A B = Y at D2 ⊢
  generalize rest A (Nat.gcd A B) = R1 at D1
  generalize rest B (Nat.gcd A B) = R2 at D2
  generalize decide (0 < Nat.gcd A B) = r at D1 D2
  generalize Nat.gcd A B = g at G D1 D2
  generalize (nbits B : Int) = nb at N hb0
  clear h k hx hy hm hm' hA hB hg e1 h0
  go_enter Tryz.func139, Tryz.ntmps139
  go_wp2_with (first
   | (go_at_call 137; (with_reducible refine Calls.mono N ?_); rintro e w1 ⟨rfl, rfl⟩)
   | (go_at_call 170; (with_reducible refine Calls.mono G ?_); rintro e w1 ⟨a1, c1, rfl, o1⟩)
   | (go_at_call 171; (with_reducible refine Calls.mono (D1 w1 _ _ o1.below o1.words) ?_); rintro e w2 ⟨a2, c2, a3, c3, rfl, o2, o3⟩)
   | (go_at_call 171; (with_reducible refine Calls.mono (D2 w2 _ _ (below_more o1.below o2.below) (o1.more o2.below).words) ?_); rintro e w3 ⟨a4, c4, a5, c5, rfl, o4, o5⟩))
  go_ret3
  exact ⟨_, _, _, _, rfl, (o2.more o4.below).outer o1.below, o4.outer (below_more o1.below o2.below)⟩
end
section
open Go.RowKit
def AnsT (W : World) (t : R3) (e : Ending) (w' : World) : Prop :=
 ∃ a c b d, e = .returned (.agg #[.bool t.1, .slice a (nl t.2.1) c, .slice b (nl t.2.2) d]) ∧ Own W w' (.slice a (nl t.2.1) c) (nl t.2.1) (natOf t.2.1) ∧ Own W w' (.slice b (nl t.2.2) d) (nl t.2.2) (natOf t.2.2)
def AnsTE (W : World) (t : R3) (E : Int) (e : Ending) (w' : World) : Prop :=
 ∃ a c b d, e = .returned (.tuple #[.agg #[.bool t.1, .slice a (nl t.2.1) c, .slice b (nl t.2.2) d], .int .i64 E]) ∧ Own W w' (.slice a (nl t.2.1) c) (nl t.2.1) (natOf t.2.1) ∧ Own W w' (.slice b (nl t.2.2) d) (nl t.2.2) (natOf t.2.2)
theorem OwnA.set3 {W w : World} {B : Nat} {v : Value} {n : Nat} {xs : List Int} (h : OwnA W B w v n xs) {k : Nat} (h1 : W.heap.size ≤ k) (h2 : k < B) (x y z : Value) : OwnA W B (((w.setCell ⟨k, 0, none⟩ x).setCell ⟨k, 1, none⟩ y).setCell ⟨k, 2, none⟩ z) v n xs :=
 ((h.set h1 h2 0 x).set h1 h2 1 y).set h1 h2 2 z
theorem ansT_mk {W w' : World} {s : Bool} {a : Option Addr} {c : Nat} {b : Option Addr} {d N D : Nat} (h1 : Own W w' (.slice a (nl N) c) (nl N) (natOf N)) (h2 : Own W w' (.slice b (nl D) d) (nl D) (natOf D)) : AnsT W (s, N, D) (.returned (.agg #[.bool s, .slice a (nl N) c, .slice b (nl D) d])) w' := ⟨a, c, b, d, rfl, h1, h2⟩
theorem ref_requal {s : Bool} {a : Option Addr} {n c : Nat} {xs : List Int} {b : Option Addr} {m d : Nat} {ys : List Int} {s' : Bool} {a' : Option Addr} {n' c' : Nat} {xs' : List Int} {b' : Option Addr} {m' d' : Nat} {ys' : List Int} {w : World}
  (h : IsWords w (.slice a n c) xs) (k : IsWords w (.slice b m d) ys) (h' : IsWords w (.slice a' n' c') xs') (k' : IsWords w (.slice b' m' d') ys') (r : Bool) (hr : decide (s = s' ∧ xs = xs' ∧ ys = ys') = r) :
  Calls Tryz.prog 42 #[.agg #[.bool s, .slice a n c, .slice b m d], .agg #[.bool s', .slice a' n' c', .slice b' m' d']] w fun e w' => e = .returned (.bool r) ∧ Below w.heap.size w w' := by
 have W1 := fun v (hb : Below w.heap.size w v) => ref_words _ _ _ _ _ _ _ _ v (h.below hb) (h'.below hb) _ rfl
 have W2 := fun v (hb : Below w.heap.size w v) => ref_words _ _ _ _ _ _ _ _ v (k.below hb) (k'.below hb) _ rfl
 obtain ⟨b1, b2, bV, hs⟩ := boxes2 w #[.bool s, .slice a n c, .slice b m d] #[.bool s', .slice a' n' c', .slice b' m' d'] 45 45
 clear h k h' k'
 obtain ⟨x0, x1, x2, -, -, -⟩ := b1.cells3
 obtain ⟨y0, y1, y2, -, -, -⟩ := b2.cells3
 by_cases he : s = s'
 case neg =>
  have he2 : (s == s') = false := by simpa using he
  obtain rfl : r = false := by rw [← hr]; simp [he]
  clear hr he
  go_enter Tryz.func42, Tryz.ntmps42
  go_wp2
  go_ret
  exact ⟨rfl, bV⟩
 case pos =>
  subst he
  by_cases hX : xs = xs'
  case neg =>
   rw [decide_eq_false hX] at W1
   obtain rfl : r = false := by rw [← hr]; simp [hX]
   clear hr hX
   go_enter Tryz.func42, Tryz.ntmps42
   go_wp2_with (go_at_call 51; (with_reducible refine Calls.mono (W1 _ bV) ?_); rintro e w1 ⟨rfl, o1⟩)
   go_ret
   exact ⟨rfl, below_more bV o1⟩
  case pos =>
   rw [decide_eq_true hX] at W1
   rw [show decide (s = s ∧ xs = xs' ∧ ys = ys') = decide (ys = ys') by simp [hX]] at hr
   rw [hr] at W2
   clear hr hX
   go_enter Tryz.func42, Tryz.ntmps42
   go_wp2_with (first
    | (go_at_call 51; (with_reducible refine Calls.mono (W1 _ bV) ?_); rintro e w1 ⟨rfl, o1⟩; obtain ⟨x0, x1, x2, -, -, -⟩ := (b1.more o1).cells3; obtain ⟨y0, y1, y2, -, -, -⟩ := (b2.more o1).cells3)
    | (go_at_call 51; (with_reducible refine Calls.mono (W2 _ (below_more bV o1)) ?_); rintro e w2 ⟨rfl, o2⟩))
   go_ret
   exact ⟨rfl, below_more (below_more bV o1) o2⟩
end
section
open Go.RowKit
def RR (k : Nat) (w : World) (s : Bool) (a : Option Addr) (n c : Nat) (b : Option Addr) (m d : Nat) (q : Rat) : Prop :=
 ∃ xs ys, IsWords w (.slice a n c) xs ∧ Wd xs ∧ IsWords w (.slice b m d) ys ∧ Wd ys ∧ n ≤ k ∧ m ≤ k ∧ rv s (val xs) (val ys) = q
def OwnR (W w : World) (a : Option Addr) (c : Nat) (b : Option Addr) (d : Nat) (q : Rat) : Prop :=
 Own W w (.slice a (nl q.num.natAbs) c) (nl q.num.natAbs) (natOf q.num.natAbs) ∧ Own W w (.slice b (nl q.den) d) (nl q.den) (natOf q.den)
def AnsR (W : World) (q : Rat) (e : Ending) (w' : World) : Prop :=
 ∃ a c b d, e = .returned (.agg #[.bool (decide (q.num < 0)), .slice a (nl q.num.natAbs) c, .slice b (nl q.den) d]) ∧ OwnR W w' a c b d q
theorem RR.below {k : Nat} {w w' : World} {s : Bool} {a : Option Addr} {n c : Nat} {b : Option Addr} {m d : Nat} {q : Rat} (h : RR k w s a n c b m d q) (hb : Below w.heap.size w w') : RR k w' s a n c b m d q := by
 obtain ⟨xs, ys, h1, h2, h3, h4, h5⟩ := h; exact ⟨xs, ys, h1.below hb, h2, h3.below hb, h4, h5⟩
theorem RR.rs {k : Nat} {w : World} {s : Bool} {a : Option Addr} {n c : Nat} {b : Option Addr} {m d : Nat} {q : Rat} (h : RR k w s a n c b m d q) (hk : 1 ≤ k) : RS k q := by
 obtain ⟨xs, ys, h1, h2, h3, h4, h5, h6, rfl⟩ := h
 exact rs_rv (nl_small h2 _ (by rw [h1.len]; exact h5)) (nl_small h4 _ (by rw [h3.len]; exact h6)) hk
end
section
open Go.RowKit
theorem BoxC.set3 {v : World} {k : Nat} {x' y' z' : Value} {T : TypeId} (h : BoxC v k #[x', y', z'] T) (x y z : Value) : BoxC (((v.setCell ⟨k, 0, none⟩ x).setCell ⟨k, 1, none⟩ y).setCell ⟨k, 2, none⟩ z) k #[x, y, z] T := by
 have := ((h.set 0 x).set 1 y).set 2 z
 simpa using this
end
section
open Go.RowKit
theorem ansTE_mk {W w' : World} {s : Bool} {a : Option Addr} {c : Nat} {b : Option Addr} {d N D : Nat} {E : Int} (h1 : Own W w' (.slice a (nl N) c) (nl N) (natOf N)) (h2 : Own W w' (.slice b (nl D) d) (nl D) (natOf D)) : AnsTE W (s, N, D) E (.returned (.tuple #[.agg #[.bool s, .slice a (nl N) c, .slice b (nl D) d], .int .i64 E])) w' := ⟨a, c, b, d, rfl, h1, h2⟩
theorem ansTE_no {W w' : World} {E : Int} (h : Below W.heap.size W w') : AnsTE W tri0 E (.returned (.tuple #[.agg #[.bool false, .slice none 0 0, .slice none 0 0], .int .i64 E])) w' := by
 have e := nil_nl h
 have l := nl_zero
 refine ⟨none, 0, none, 0, ?_, e, e⟩
 show _ = Ending.returned (.tuple #[.agg #[.bool false, .slice none (nl 0) 0, .slice none (nl 0) 0], .int .i64 E])
 rw [l]
theorem below_set3 {W w : World} (h : Below W.heap.size W w) {k : Nat} (hk : W.heap.size ≤ k) (x y z : Value) : Below W.heap.size W (((w.setCell ⟨k, 0, none⟩ x).setCell ⟨k, 1, none⟩ y).setCell ⟨k, 2, none⟩ z) :=
 ((h.setCell (p := ⟨k, 0, none⟩) hk x).setCell (p := ⟨k, 1, none⟩) hk y).setCell (p := ⟨k, 2, none⟩) hk z
def mkT (s : Bool) (A : Nat) (t : Bool) (D : Nat) : R3 := if D = 0 then tri0 else tri (rv (!(s == t)) A D)
def mkE (D : Nat) : Int := if D = 0 then 3 else 0
theorem rv_int (n : Int) : rv (decide (n < 0)) n.natAbs 1 = (n : Rat) := by
 unfold rv; rw [iv_self]
 exact Rat.mkRat_self (n : Rat)
end
section
open Go.RowKit
def decR (q : Rat) : List UInt8 := if q.den = 1 then decI q.num else decI q.num ++ 124 :: decOf q.den
theorem decI_wlen (z : Int) {k : Nat} (h : nl z.natAbs ≤ k) (hk : 1 ≤ k) : (decI z).length ≤ 10 * k + 1 := by
 have := decOf_words h hk
 unfold decI; split
 ·simp; omega
 ·omega
end
section
open Go.RowKit
def powE (q : Rat) (n : Int) : Int := if n < -64 ∨ 64 < n then 4 else if q = 0 ∧ n < 0 then 3 else 0
def powT (q : Rat) (n : Int) : R3 := if n < -64 ∨ 64 < n then tri0 else if q = 0 ∧ n < 0 then tri0 else tri (q ^ n)
def frontR (l : List UInt8) : List UInt8 := l.takeWhile (· != 124)
def restR (l : List UInt8) : List UInt8 := l.dropWhile (· != 124)
def parE (l : List UInt8) : Int := if zerr (frontR l) ≠ 0 then zerr (frontR l) else match restR l with
 | [] => 0
 | _ :: r => if perr r ≠ 0 then perr r else if pnum r = 0 then 3 else 0
def parQ (l : List UInt8) : Rat := match restR l with
 | [] => (znum (frontR l) : Rat)
 | _ :: r => mkRat (znum (frontR l)) (pnum r)
def parT (l : List UInt8) : R3 := if parE l = 0 then tri (parQ l) else tri0
end
section
def strokeAt (l : List UInt8) : Nat := (frontR l).length
theorem stroke_cons (c : UInt8) (l : List UInt8) : strokeAt (c :: l) = if c = 124 then 0 else strokeAt l + 1 := by
 unfold strokeAt frontR
 by_cases h : c = 124
 ·rw [if_pos h, List.takeWhile_cons_of_neg (by simp [h])]; rfl
 ·rw [if_neg h, List.takeWhile_cons_of_pos (by simp [h])]; rfl
theorem front_take (l : List UInt8) : frontR l = l.take (strokeAt l) := by
 induction l with
 | nil => rfl
 | cons c l ih =>
  rw [stroke_cons]
  by_cases h : c = 124
  ·rw [if_pos h, List.take_zero]; unfold frontR; rw [List.takeWhile_cons_of_neg (by simp [h])]
  ·rw [if_neg h, List.take_succ_cons, ← ih]; unfold frontR; rw [List.takeWhile_cons_of_pos (by simp [h])]
theorem rest_drop (l : List UInt8) : restR l = l.drop (strokeAt l) := by
 induction l with
 | nil => rfl
 | cons c l ih =>
  rw [stroke_cons]
  by_cases h : c = 124
  ·rw [if_pos h, List.drop_zero]; unfold restR; rw [List.dropWhile_cons_of_neg (by simp [h])]
  ·rw [if_neg h, List.drop_succ_cons, ← ih]; unfold restR; rw [List.dropWhile_cons_of_pos (by simp [h])]
theorem stroke_le (l : List UInt8) : strokeAt l ≤ l.length := by
 induction l with
 | nil => exact Nat.le_refl _
 | cons c l ih => rw [stroke_cons, List.length_cons]; split <;> omega
end
section
open Go.RowKit
theorem extract_front (s : ByteArray) (A : Nat) : (s.extract 0 A).data.toList = s.data.toList.take A := by
 rw [ByteArray.data_extract, Array.toList_extract, List.extract_eq_take_drop]; simp
theorem extract_rest (s : ByteArray) (A : Nat) : (s.extract A s.size).data.toList = s.data.toList.drop A := by
 rw [ByteArray.data_extract, Array.toList_extract, List.extract_eq_take_drop]
 exact List.take_of_length_le (by simp)
theorem not_eq_false (s : Bool) : (!(s == false)) = s := by cases s <;> rfl
theorem par_err {l : List UInt8} (h : zerr (frontR l) ≠ 0) : parT l = tri0 ∧ parE l = zerr (frontR l) := by
 have e : parE l = zerr (frontR l) := by unfold parE; rw [if_pos h]
 exact ⟨by unfold parT; rw [e, if_neg h], e⟩
theorem par_none {l : List UInt8} (h : zerr (frontR l) = 0) (hr : restR l = []) : parT l = mkT (decide (znum (frontR l) < 0)) (znum (frontR l)).natAbs false 1 ∧ parE l = mkE 1 := by
 have e : parE l = 0 := by unfold parE; rw [if_neg (by simpa using h), hr]
 refine ⟨?_, e⟩
 unfold parT parQ mkT
 rw [if_pos e, hr, if_neg (by omega), not_eq_false, rv_int]
theorem par_rest {l r : List UInt8} {c : UInt8} (h : zerr (frontR l) = 0) (hr : restR l = c :: r) (h2 : perr r ≠ 0) : parT l = tri0 ∧ parE l = perr r := by
 have e : parE l = perr r := by unfold parE; rw [if_neg (by simpa using h), hr]; exact if_pos h2
 exact ⟨by unfold parT; rw [e, if_neg h2], e⟩
theorem par_both {l r : List UInt8} {c : UInt8} (h : zerr (frontR l) = 0) (hr : restR l = c :: r) (h2 : perr r = 0) : parT l = mkT (decide (znum (frontR l) < 0)) (znum (frontR l)).natAbs false (pnum r) ∧ parE l = mkE (pnum r) := by
 have e : parE l = mkE (pnum r) := by unfold parE mkE; rw [if_neg (by simpa using h), hr]; exact if_neg (by simpa using h2)
 refine ⟨?_, e⟩
 unfold parT
 rw [e]
 unfold mkE mkT parQ
 by_cases h0 : pnum r = 0
 ·rw [if_pos h0, if_pos h0, if_neg (by omega)]
 ·rw [if_neg h0, if_neg h0, if_pos rfl, hr, not_eq_false]
  show tri (mkRat (znum (frontR l)) (pnum r)) = _
  unfold rv; rw [iv_self]
end
end Go.Proofs.YtaeladkcmpdkhaaGreatDoor
