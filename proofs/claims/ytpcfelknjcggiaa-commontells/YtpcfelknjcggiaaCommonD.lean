/-
  Contract of the iterator that package common's function Gcd ranges over (lefts$1), inside a range over it: whatever keeps to what is asked of a round, the last slice told is the greatest common divisor of two lists of words. Memory from its own beginning on is its own.
-/
import Derived.Test.YtpcfelknjcggiaaCommonC
import Derived.RangeFuncNested
import Derived.RangeFuncBound
import Derived.RangeFuncCalls
import Derived.RangeFuncLeaves
import Derived.Shelf.Abstract
import Derived.Shelf.RegionOpen
import Derived.OwnWalkIn
import Derived.TacticsInMore
import Derived.LoopNIn
import Derived.LoopIn
import Derived.Sort.LoopGhostIn
namespace Go.Proofs.Ytpcfelknjcggiaa
open Go.RowKit Go.Shelf
attribute [local go_sem] Oper.semAt_some

theorem cell_below {w w' : World} {p : Addr} {v : Value} (h : w.cell? p = some v) (hb : Below w.heap.size w w') : w'.cell? p = some v := (hb.cell (World.block_lt_of_cell? w _ h)).trans h

/-- A slice: where it begins, how many words it has, for how many it has room. -/
abbrev Sl := Option Addr × Nat × Nat

/-- Where the iterator stands: at two numbers A and B; g is what both are together; u is what was told last. -/
def LeftsAt (n₀ G : Nat) (J : Sl → World → Prop) (g : Nat) (v4 v5 : Value) (w : World) : Prop :=
  ∃ (A B : Nat) (a : Option Addr) (c : Nat) (b : Option Addr) (d : Nat) (u : Sl), v4 = .slice a (nl A) c ∧ v5 = .slice b (nl B) d ∧ Row n₀ w (.slice a (nl A) c) (nl A) (natOf A) ∧ Row n₀ w (.slice b (nl B) d) (nl B) (natOf B) ∧ n₀ ≤ w.heap.size ∧
    B ≤ A ∧ nl A ≤ 10000000000 ∧ g = A + B ∧ J u w ∧ (0 < A ∧ Nat.gcd A B = G ∨ A = 0 ∧ ∃ a' c', u = (a', nl G, c') ∧ Row n₀ w (.slice a' (nl G) c') (nl G) (natOf G))

theorem LeftsAt.start {n₀ G A B : Nat} {J : Sl → World → Prop} {w : World} {a : Option Addr} {c : Nat} {b : Option Addr} {d : Nat} (h : Row n₀ w (.slice a (nl A) c) (nl A) (natOf A)) (k : Row n₀ w (.slice b (nl B) d) (nl B) (natOf B)) (hn : n₀ ≤ w.heap.size) (hB : B ≤ A) (hA : nl A ≤ 1000000000)
    (hJ : J (none, 0, 0) w) (hG : Nat.gcd A B = G) : LeftsAt n₀ G J (A + B) (.slice a (nl A) c) (.slice b (nl B) d) w := by
  refine ⟨A, B, a, c, b, d, _, rfl, rfl, h, k, hn, hB, by omega, rfl, hJ, ?_⟩
  rcases Nat.eq_zero_or_pos A with h0 | h0
  · obtain rfl : B = 0 := by omega
    subst h0
    have e : G = 0 := by rw [← hG]; rfl
    subst e
    exact .inr ⟨rfl, none, 0, by rw [nl_zero], by have := Row.nil n₀ w; rw [nl_zero] at this; rw [nl_zero]; exact this⟩
  · exact .inl ⟨h0, hG⟩

set_option maxHeartbeats 4000000 in
theorem common_lefts1 (n l n₀ Ba Bb : Nat) (hn : 1 ≤ n) (J : Sl → World → Prop) (hJ : ∀ v W W', J v W → Below W.heap.size W W' → J v W')
    (hY : ∀ u x m c W1, J u W1 → YieldAt Fence.wide (n - 1) Try.prog l #[.slice x m c] W1 fun e W' => e = .returned (.bool true) ∧ J (x, m, c) W' ∧ W'.heap.size = W1.heap.size ∧ ∀ k, n₀ ≤ k → W'.heap[k]? = W1.heap[k]?)
    (a : Option Addr) (m c : Nat) (xs : List Int) (b : Option Addr) (m' d : Nat) (ys : List Int) (W : World) (hW : W.heap.size = n₀) (ca : W.cell? ⟨Ba, 0, none⟩ = some (.slice a m c)) (cb : W.cell? ⟨Bb, 0, none⟩ = some (.slice b m' d))
    (h : IsWords W (.slice a m c) xs) (hx : Wd xs) (k : IsWords W (.slice b m' d) ys) (hy : Wd ys) (hm : m ≤ 1000000000) (hm' : m' ≤ 1000000000) (h0 : J (none, 0, 0) W) (G : Nat) (hG : Nat.gcd (val xs) (val ys) = G) :
    CallsIn Fence.wide n Try.prog 52 #[.func (.yield l) #[] #[], .pointer (some ⟨Ba, 0, none⟩), .pointer (some ⟨Bb, 0, none⟩)] W fun e W' => (∃ v, e = .returned v) ∧ ∃ a' c', J (a', nl G, c') W' ∧ Row n₀ W' (.slice a' (nl G) c') (nl G) (natOf G) := by
  have T1 := fun v (hb : Below W.heap.size W v) => nat_trim' (h.below hb) hx (by omega) _ rfl
  have T2 := fun v (hb : Below W.heap.size W v) => nat_trim' (k.below hb) hy (by omega) _ rfl
  unfold Ans at T1 T2
  have l1 := nl_small hx 1000000000 (by rw [h.len]; omega)
  have l2 := nl_small hy 1000000000 (by rw [k.len]; omega)
  generalize val xs = A at *
  generalize val ys = B at *
  have B0 : Below W.heap.size W W.drew := (Below.refl _ _).drew
  have ca0 : W.drew.cell? ⟨Ba, 0, none⟩ = some (.slice a m c) := ca
  have cb0 : W.drew.cell? ⟨Bb, 0, none⟩ = some (.slice b m' d) := cb
  have hmx : Try.prog.follows .mixedOrders = true := by kernel_rfl
  refine callsIn_of_wp Try.func52 rfl trivial ?_ rfl
  simp only [Try.ntmps52, List.size_toArray, List.length_cons, List.length_nil, Nat.reduceAdd, Nat.reduceSub, Array.replicate_succ, Array.replicate_zero, List.push_toArray, List.append_toArray, List.nil_append, List.cons_append]
  gi_wp2
  gi_region_with_o (first
    | (refine ⟨trivial, ?_⟩; gi_at_call 37; (with_reducible refine CallsIn.mono (callsIn_wide.2 (T1 W.drew B0)) ?_); rintro e w1 ⟨a1, k1, rfl, o1⟩; have B1 := below_more B0 o1.below; have ca1 := cell_below ca0 o1.below; have cb1 := cell_below cb0 o1.below)
    | (refine ⟨trivial, ?_⟩; gi_at_call 37; (with_reducible refine CallsIn.mono (callsIn_wide.2 (T2 W.drew B0)) ?_); rintro e w1 ⟨a2, k2, rfl, o2⟩; have B1 := below_more B0 o2.below; have ca1 := cell_below ca0 o2.below; have cb1 := cell_below cb0 o2.below)
    | (refine ⟨trivial, ?_⟩; gi_at_call 37; (with_reducible refine CallsIn.mono (callsIn_wide.2 (T2 w1 B1)) ?_); rintro e w2 ⟨a2, k2, rfl, o2⟩; have o1 := o1.more o2.below)
    | (refine ⟨trivial, ?_⟩; gi_at_call 37; (with_reducible refine CallsIn.mono (callsIn_wide.2 (T1 w1 B1)) ?_); rintro e w2 ⟨a1, k1, rfl, o1⟩; have o2 := o2.more o1.below))
  all_goals
    have R1 : Row n₀ w2 (.slice a1 (nl A) k1) (nl A) (natOf A) := by first | exact o1.row (Nat.le_of_eq hW.symm) | exact o1.row (hW ▸ B1.size)
    have R2 : Row n₀ w2 (.slice a2 (nl B) k2) (nl B) (natOf B) := by first | exact o2.row (Nat.le_of_eq hW.symm) | exact o2.row (hW ▸ B1.size)
    have J2 : J (none, 0, 0) w2 := by first | exact hJ _ _ _ h0 (below_more B1 o2.below) | exact hJ _ _ _ h0 (below_more B1 o1.below)
    have S2 : n₀ ≤ w2.heap.size := by first | exact hW ▸ (below_more B1 o2.below).size | exact hW ▸ (below_more B1 o1.below).size
    clear T1 T2 ca cb ca0 cb0 ca1 cb1 B0 B1 o1 o2 h k h0
    rcases Nat.lt_or_ge A B with hlt | hge
    case' inl =>
      obtain ⟨cs, C, hcs⟩ : ∃ cs : Int, Calls Try.prog 32 #[.slice a1 (nl A) k1, .slice a2 (nl B) k2] w2 (fun e w' => e = .returned (.int .i64 cs) ∧ Below w2.heap.size w2 w') ∧ cs < 0 :=
        ⟨-1, nat_cmp' R1.words (wd_natOf A) R2.words (wd_natOf B) (-1) (by rw [val_natOf, val_natOf]; exact sgn_lt (by omega)), by omega⟩
      have ST := fun v (hb : Below w2.heap.size w2 v) => LeftsAt.start (G := G) (R2.more hb) (R1.more hb) (Nat.le_trans S2 hb.size) (Nat.le_of_lt hlt) l2 (hJ _ _ _ J2 hb) (by rw [Nat.gcd_comm]; exact hG)
      rw [Nat.add_comm B A] at ST
      have hs : Hid (A < B) := hlt
    case' inr =>
      obtain ⟨cs, C, hcs⟩ : ∃ cs : Int, Calls Try.prog 32 #[.slice a1 (nl A) k1, .slice a2 (nl B) k2] w2 (fun e w' => e = .returned (.int .i64 cs) ∧ Below w2.heap.size w2 w') ∧ 0 ≤ cs := by
        refine ⟨_, nat_cmp' R1.words (wd_natOf A) R2.words (wd_natOf B) _ rfl, ?_⟩
        rw [val_natOf, val_natOf]
        rcases Nat.lt_or_ge B A with h | h
        · rw [sgn_gt (by omega)]; omega
        · rw [sgn_eq (by omega)]; omega
      have ST := fun v (hb : Below w2.heap.size w2 v) => LeftsAt.start (G := G) (R1.more hb) (R2.more hb) (Nat.le_trans S2 hb.size) hge l1 (hJ _ _ _ J2 hb) hG
      have hs : Hid (B ≤ A) := hge
    all_goals
      clear R1 R2 J2 S2 l1 l2 hG hW
      gi_wp2_with (first
        | (refine ⟨trivial, ?_⟩; gi_at_call 32; (with_reducible refine CallsIn.mono (callsIn_wide.2 C) ?_); rintro e w3 ⟨rfl, b3⟩))
      have ST := ST w3 b3
      gi_loopg [4, 5] (A + B) (fun g v4 v5 v => LeftsAt n₀ G J g v4 v5 v)
      case atStart => exact ST
      case round =>
        obtain ⟨A1, B1, x1, c1, y1, d1, u, rfl, rfl, r1, r2, hz, hBA, hL, hg, hu, hc⟩ := hrel
        clear ST C hcs hs
        rcases hc with ⟨hpos, hgc⟩ | ⟨h0, a', c', rfl, r3⟩
        · have hnl : 0 < nl A1 := nl_pos hpos
          obtain ⟨fn, tmps, assign, body, hy, hR⟩ := hY u x1 (nl A1) c1 wr hu
          gi_wp2
          refine hR.mono ?_
          rintro e W3 ⟨rfl, hJ3, hs3, hk3⟩
          have q1 := r1.keep hk3
          have q2 := r2.keep hk3
          have hz3 : n₀ ≤ W3.heap.size := by omega
          have LT := common_later n₀ A1 B1 x1 c1 y1 d1 W3 q1 q2 hz3 hpos hBA hL
          have HF : Hid (∀ (u v : Nat), Later A1 B1 u v → u + v < gk ∧ v ≤ u ∧ nl u ≤ 10000000000 ∧ ((0 < u ∧ Nat.gcd u v = G) ∨ (u = 0 ∧ A1 = G))) := fun u v hl => by
            obtain ⟨z1, z2, z3, z4, z5⟩ := hl
            refine ⟨by omega, z1, Nat.le_trans (nl_mono z2) hL, ?_⟩
            rcases Nat.eq_zero_or_pos B1 with e | e
            · subst e
              rw [Nat.gcd_zero_right] at hgc
              exact .inr ⟨z5 rfl, hgc⟩
            · obtain ⟨z6, z7⟩ := z4 e
              exact .inl ⟨z7, z6.trans hgc⟩
          clear r1 r2 hg hgc hu hY hy hR hk3 hs3 hL hz
          gi_wp2_with (first
            | (refine ⟨trivial, ?_⟩; gi_at_call 53; (with_reducible refine CallsIn.mono (callsIn_wide.2 LT) ?_); rintro e W4 ⟨u4, v4, a4, c4, a5, c5, rfl, r4, r5, b4, hl4⟩))
          obtain ⟨f1, f2, f3, f4⟩ := HF.out u4 v4 hl4
          gi_roundg (u4 + v4)
          case measure => exact f1
          case rel =>
            refine ⟨u4, v4, a4, c4, a5, c5, (x1, nl A1, c1), rfl, rfl, r4, r5, Nat.le_trans hz3 b4.size, f2, f3, rfl, hJ _ _ _ hJ3 b4, ?_⟩
            rcases f4 with f4 | ⟨f4, f5⟩
            · exact .inl f4
            · subst f5
              exact .inr ⟨f4, x1, c1, rfl, q1.more b4⟩
        · have e0 : nl A1 = 0 := by rw [h0]; exact nl_zero
          rw [e0]
          gi_wp2
          refine ⟨fun _ h => (by cases h), ?_⟩
          gi_wp2
          go_end0
          exact ⟨⟨_, rfl⟩, a', c', hu, r3⟩
end Go.Proofs.Ytpcfelknjcggiaa
