/-
  Texts of mine in build order. No conditions of their own.
-/
import Derived.Test.YtaeladkcmpdkhaaGreatDoorPack23
set_option maxHeartbeats 64000000
namespace Go.Proofs.YtaeladkcmpdkhaaGreatDoor
section
open Go.RowKit Go.Lib
def sgStep (ms : List Nw) (i : Nat) (lo : List Int) : Option (List Int) := match ms[i]? with
 | none => none
 | some m => if fillR m = true ∧ (ptsI m.kind m.a m.b).length ≤ lo.length ∧ lo.drop (lo.length - (ptsI m.kind m.a m.b).length) = ptsI m.kind m.a m.b then some (lo.take (lo.length - (ptsI m.kind m.a m.b).length) ++ [(i : Int)]) else none
def sgF (ms : List Nw) (j : Nat) : Nat → Nat → List Int → Bool
 | 0, _, lo => decide (lo.length = 1)
 | f + 1, i, lo => if i < j then (match sgStep ms i lo with | none => false | some lo' => sgF ms j f (i + 1) lo') else decide (lo.length = 1)
def sgB (ms : List Nw) (j i : Nat) : Bool := sgF ms j (j + 1) i []
theorem IsN.at {w : World} {g o n : Nat} {ms : List Mn} (h : IsN w (some ⟨g, o, none⟩) n ms) {i : Nat} {m : Mn} (hm : ms[i]? = some m) (v : World) (b : Below w.heap.size w v) : v.cell? ⟨g, o + i * 8, none⟩ = some (.int .i64 m.1.kind) ∧ v.cell? ⟨g, o + i * 8 + 1, none⟩ = some (.int .i64 m.1.a) ∧ v.cell? ⟨g, o + i * 8 + 2, none⟩ = some (.int .i64 m.1.b) ∧ v.cell? ⟨g, o + i * 8 + 3, none⟩ = some (.int .i64 m.1.exp) ∧
  v.cell? ⟨g, o + i * 8 + 4, none⟩ = some (.string m.1.name) ∧ v.cell? ⟨g, o + i * 8 + 5, none⟩ = some (.bool m.1.neg) ∧ v.cell? ⟨g, o + i * 8 + 6, none⟩ = some m.2.1 ∧ v.cell? ⟨g, o + i * 8 + 7, none⟩ = some m.2.2 := by
 obtain ⟨g', o', e, r⟩ := (h.below b).node hm
 injection e with e
 injection e with e1 e2
 subst e1; subst e2
 exact r
def NdR (w : World) (ms : List Mn) : Prop := ∀ m ∈ ms, (∃ x y, m.2.1 = .slice x m.1.xs.length y ∧ IsWords w (.slice x m.1.xs.length y) m.1.xs) ∧ (∃ x y, m.2.2 = .slice x m.1.ys.length y ∧ IsWords w (.slice x m.1.ys.length y) m.1.ys) ∧ Wd m.1.xs ∧ Wd m.1.ys ∧ m.1.xs.length ≤ 10000 ∧ m.1.ys.length ≤ 10000 ∧ m.1.name.size ≤ 1000000
theorem OwnC.nilC {W w : World} {la : Option Addr} {n lc : Nat} {cs : List Value} (h : OwnC 3 1 W w (.slice la n lc) n cs) : (la = none ∧ lc = 0 ∧ n = 0) ∨ ∃ g, la = some ⟨g, 0, none⟩ ∧ n ≤ lc := by
 rcases h.1.2 with ⟨e, h0⟩ | ⟨g, cap, cur, e, h1, hg, h2, -⟩
 ·injection e with e1 e2 e3
  exact .inl ⟨e1, e3, h0⟩
 ·injection e with e1 e2 e3
  exact .inr ⟨g, e1, by omega⟩
theorem IsI.below {w w' : World} {a : Option Addr} {n : Nat} {xs : List Int} (h : IsI w a n xs) (hb : Below w.heap.size w w') : IsI w' a n xs := by
 refine ⟨h.1, ?_⟩
 rcases h.2 with h0 | ⟨g, o, e, hc⟩
 ·exact .inl h0
 ·exact .inr ⟨g, o, e, fun j x hj => by rw [hb.cell (World.block_lt_of_cell? w _ (hc j x hj))]; exact hc j x hj⟩
theorem IsP.isI {B : Nat} {w w' : World} {pa : Option Addr} {P : List Int} (h : IsP B w pa P) (hb : Below w.heap.size w w') : IsI w' pa P.length P := by
 refine IsI.below (w := w) ⟨rfl, ?_⟩ hb
 rcases h with rfl | ⟨b, q1, q2, q3, q4⟩
 ·exact .inl rfl
 ·exact .inr ⟨b, 0, q1, fun j x hj => by rw [Nat.zero_add]; exact q4 j x hj⟩
theorem tree_single {w : World} {a : Option Addr} {n c : Nat} {ms : List Mn} (h : IsN w a n ms) (hR : NdR w ms) (hn : n ≤ 100000) (i : Nat) (hi : i ≤ n) (r : Bool) (hr : sgB (ms.map (·.1)) n i = r) :
  Calls Tryz.prog 63 #[.slice a n c, .int .i64 i] w fun e w' => e = .returned (.bool r) ∧ Below w.heap.size w w' := by
 have HH : Hid (IsN w a n ms ∧ NdR w ms ∧ n ≤ 100000 ∧ sgF (ms.map (·.1)) n (n + 1) i [] = r ∧ OwnC 3 1 w w (.slice none 0 0) 0 []) := ⟨h, hR, hn, hr, OwnC.nil (Below.refl _ _)⟩
 have hi' : Hid (i ≤ n) := hi
 clear h hR hn hr hi
 go_enter Tryz.func63, Tryz.ntmps63
 go_wp2
 go_loopg [5, 6] (n - i + 1) (fun g s5 s6 v => ∃ (t f : Nat) (la : Option Addr) (lc : Nat) (lo : List Int), s5 = .slice la lo.length lc ∧ s6 = .int .i64 t ∧ t ≤ n ∧ n - t + 1 ≤ g ∧ n - t < f ∧ OwnC 3 1 w v (.slice la lo.length lc) lo.length (lo.map (Value.int .i64)) ∧ sgF (ms.map (·.1)) n f t lo = r ∧ lo.length ≤ t)
 case atStart => exact ⟨i, n + 1, none, 0, [], rfl, rfl, hi'.out, Nat.le_refl _, by omega, HH.out.2.2.2.2, HH.out.2.2.2.1, Nat.zero_le _⟩
 case round =>
  obtain ⟨t, f, la, lc, lo, rfl, rfl, htn, hg, hf, o, hr, hlt⟩ := hrel
  obtain ⟨hN, hR, hn, -, -⟩ := HH.out
  have bw := o.below
  cases f with
  | zero => omega
  | succ f =>
   rcases Nat.lt_or_ge t n with ht | ht
   ·have p1 : (t : Int) < n := by omega
    obtain ⟨m, hm⟩ : ∃ m, ms[t]? = some m := ⟨_, List.getElem?_eq_getElem (by have := hN.1; omega)⟩
    obtain ⟨⟨ux, uy, hu, hu'⟩, ⟨vx, vy, hv, hv'⟩, hwx, hwy, hlx, hly, hnm⟩ := hR m (List.mem_of_getElem? hm)
    obtain ⟨gm, om, rfl, -⟩ := hN.node hm
    have CE := fun (v : World) (b : Below w.heap.size w v) => hN.at hm v b
    simp only [hu, hv] at CE
    obtain ⟨n0, n1, n2, n3, n4, n5, n6, n7⟩ := CE wr bw
    have hms : (ms.map (·.1))[t]? = some m.1 := by rw [List.getElem?_map, hm]; rfl
    have PT := fun (v : World) => tree_parts m.1.kind m.1.a m.1.b m.1.exp m.1.name m.1.neg ux m.1.xs.length uy vx m.1.ys.length vy v
    have FL : ∀ (v : World), Below w.heap.size w v → ∀ q, fillR m.1 = q → Calls Tryz.prog 92 #[.agg #[.int .i64 m.1.kind, .int .i64 m.1.a, .int .i64 m.1.b, .int .i64 m.1.exp, .string m.1.name, .bool m.1.neg, .slice ux m.1.xs.length uy, .slice vx m.1.ys.length vy]] v fun e w' => e = .returned (.bool q) ∧ Below v.heap.size v w' := fun v b q hq => tree_filled (hu'.below b) hwx (hv'.below b) hwy hlx hly hnm q hq
    unfold sgF at hr
    rw [if_pos ht] at hr
    unfold sgStep at hr
    rw [hms] at hr
    dsimp only at hr
    have hP2 := pts_len m.1.kind m.1.a m.1.b
    generalize ptsI m.1.kind m.1.a m.1.b = P at *
    generalize hfl : fillR m.1 = fb at *
    have FL' := fun (v : World) (b : Below w.heap.size w v) => FL v b fb rfl
    clear FL
    generalize m.1.kind = y0 at *
    generalize m.1.a = y1 at *
    generalize m.1.b = y2 at *
    generalize m.1.exp = y3 at *
    generalize m.1.name = y4 at *
    generalize m.1.neg = y5 at *
    generalize m.1.xs.length = y6 at *
    generalize m.1.ys.length = y7 at *
    have g5 : gm < wr.heap.size := World.block_lt_of_cell? wr _ n0
    clear hm hu hv hu' hv' hwx hwy hlx hly hnm hms hfl hR hN
    by_cases hlen : lo.length < P.length
    ·-- too few wait
     have hrf : r = false := by rw [← hr, if_neg (fun q => by have := q.2.1; omega)]
     subst hrf
     have w0 : wrap64 ((lo.length : Int) - (P.length : Int)) = (lo.length : Int) - (P.length : Int) := by unfold wrap64; omega
     have k0 : (lo.length : Int) - (P.length : Int) < 0 := by omega
     have k0' : (lo.length : Int) < (P.length : Int) := by omega
     have HB : Hid (Below w.heap.size w wr) := bw
     generalize lo.length = N at *
     generalize P.length = PN at *
     clear hr htn hg hf o hlt hlen hn HH hi' hP2
     cases fb with
     | false =>
      go_wp2_with (first
       | (go_at_call 91; (with_reducible refine Calls.mono (PT _) ?_); rintro e w1 ⟨pa, pc, rfl, hp, d1⟩; have b1 := below_more bw d1; obtain ⟨n0, n1, n2, n3, n4, n5, n6, n7⟩ := CE _ b1)
       | (go_at_call 92; (with_reducible refine Calls.mono (FL' _ b1) ?_); rintro e w2 ⟨rfl, d2⟩; have b2 := below_more b1 d2))
      go_ret
      exact ⟨rfl, b2⟩
     | true =>
      go_wp2_with (first
       | (go_at_call 91; (with_reducible refine Calls.mono (PT _) ?_); rintro e w1 ⟨pa, pc, rfl, hp, d1⟩; have b1 := below_more bw d1; obtain ⟨n0, n1, n2, n3, n4, n5, n6, n7⟩ := CE _ b1)
       | (go_at_call 92; (with_reducible refine Calls.mono (FL' _ b1) ?_); rintro e w2 ⟨rfl, d2⟩; have b2 := below_more b1 d2))
      go_ret
      exact ⟨rfl, b2⟩
    ·obtain ⟨R, hRl⟩ : ∃ R, lo.length = R + P.length := ⟨lo.length - P.length, by omega⟩
     have hsub : lo.length - P.length = R := by omega
     rw [hsub] at hr
     have HW : Hid (wrap64 ((lo.length : Int) - (P.length : Int)) = (R : Int)) := by show wrap64 _ = _; unfold wrap64; omega
     have k0 : ¬ (R : Int) < 0 := by omega
     cases fb with
     | false =>
      have w0 := HW.out
      have hrf : r = false := by rw [← hr, if_neg (fun q => absurd q.1 (by simp))]
      subst hrf
      generalize lo.length = N at *
      generalize P.length = PN at *
      clear hr htn hg hf o hlt hlen hn HH hi' hP2 hRl hsub
      go_wp2_with (first
       | (go_at_call 91; (with_reducible refine Calls.mono (PT _) ?_); rintro e w1 ⟨pa, pc, rfl, hp, d1⟩; have b1 := below_more bw d1; obtain ⟨n0, n1, n2, n3, n4, n5, n6, n7⟩ := CE _ b1)
       | (go_at_call 92; (with_reducible refine Calls.mono (FL' _ b1) ?_); rintro e w2 ⟨rfl, d2⟩; have b2 := below_more b1 d2))
      go_ret
      exact ⟨rfl, b2⟩
     | true =>
      have hR0 : R ≤ lo.length := by omega
      have hcut := o.cut (m := R) hR0
      have OC : Hid (OwnC 3 1 w wr (.slice la R lc) R ((lo.take R).map (Value.int .i64))) := by
       have : ((lo.map (Value.int .i64)).take (R * 1)) = (lo.take R).map (Value.int .i64) := by rw [Nat.mul_one, List.map_take]
       rw [← this]; exact hcut
      have HT : Hid (wrap64 ((t : Int) + 1) = (t : Int) + 1) := wrap_smalls (by omega) (by omega)
      have m1 : R + 1 ≤ maxLen := by unfold maxLen; omega
      have m2 : (R + 1) * 8 ≤ 140737488355328 := by omega
      have HL : Hid ((lo.take R ++ [(t : Int)]).length = R + 1) := by show _ = _; rw [List.length_append, List.length_take]; show min R lo.length + 1 = _; omega
      have hwR : Hid (wrap64 (R : Int) = R) := by show wrap64 _ = _; unfold wrap64; omega
      by_cases hE : lo.drop R = P
      ·rw [if_pos ⟨rfl, by omega, hE⟩] at hr
       have HQ : Hid (sgF (ms.map (·.1)) n f (t + 1) (lo.take R ++ [(t : Int)]) = r ∧ t + 1 ≤ n ∧ n - (t + 1) < f ∧ R + 1 ≤ t + 1 ∧ n - (t + 1) + 1 < gk) := ⟨hr, by omega, by omega, by omega, by omega⟩
       rcases o.nilC with ⟨rfl, rfl, h0⟩ | ⟨g, rfl, hcap⟩
       ·have hP0 : P = [] := List.eq_nil_of_length_eq_zero (by omega)
        subst hP0
        obtain rfl : R = 0 := by omega
        have EQ := fun (v : World) (a' b' : Option Addr) (c' d' : Nat) => eq_ints (w := v) (a := a') (b := b') (n := 0) (c := c') (m := 0) (d := d') (xs := []) (ys := []) ⟨rfl, .inl rfl⟩ ⟨rfl, .inl rfl⟩ (by decide) true (by decide)
        rw [show (([] : List Int).length) = 0 from rfl] at *
        rw [h0] at HW
        rw [h0]
        clear hr hP2 hE hR0 hcut hsub hlen hlt hn hf hg htn HH hi' o
        have w0 := HW.out
        have w1t := HT.out
        go_wp2_with (first
         | (go_at_call 91; (with_reducible refine Calls.mono (PT _) ?_); rintro e w1 ⟨pa, pc, rfl, hp, d1⟩; have b1 := below_more bw d1; obtain ⟨n0, n1, n2, n3, n4, n5, n6, n7⟩ := CE _ b1)
         | (go_at_call 92; (with_reducible refine Calls.mono (FL' _ b1) ?_); rintro e w2 ⟨rfl, d2⟩; have b2 := below_more b1 d2; have b12 := below_more d1 d2)
         | (go_at_call 93; (with_reducible refine Calls.mono (EQ _ _ _ _ _) ?_); rintro e w3 ⟨rfl, d3⟩; have b3 := below_more b2 d3; have dd := below_more b12 d3)
         | (at_builtin; refine wpl_append_c (t := 40) (e := 3) Tryz.underlying40 infoInt rfl (by decide) (.tmp 46) (.tmp 48) rfl rfl w _ _ 0 _ (some ⟨w3.heap.size, 0, none⟩) 1 1 [.int .i64 t] rfl rfl ((OC.out.more dd).alloc _) (BoxC.new w3 #[.int .i64 t] 3).isc (by simp [Value.oneCell']) (by simp) m1 m2 ?_; intro a6 c6 w6 _ o6 g6))
        obtain ⟨q1, q2, q3, q4, q5⟩ := HQ.out
        clear w0
        have hl' := HL.out
        go_roundg (n - (t + 1) + 1)
        case measure => exact q5
        case rel => exact ⟨t + 1, f, a6, c6, lo.take 0 ++ [(t : Int)], by rw [hl'], by first | rfl | (rw [w1t]; rfl), q2, Nat.le_refl _, q3, by rw [hl', List.map_append]; exact o6, q1, by rw [hl']; exact q4⟩
       ·by_cases hP0 : P = []
        ·subst hP0
         have EQ := fun (v : World) (a' b' : Option Addr) (c' d' : Nat) => eq_ints (w := v) (a := a') (b := b') (n := 0) (c := c') (m := 0) (d := d') (xs := []) (ys := []) ⟨rfl, .inl rfl⟩ ⟨rfl, .inl rfl⟩ (by decide) true (by decide)
         have hlR : lo.length = R := by rw [hRl]; rfl
         have k1 : R ≤ lc := by omega
         have k2 : (R : Int) ≤ (lc : Int) := by omega
         have k3 : (0 : Int) ≤ (R : Int) := by omega
         rw [show (([] : List Int).length) = 0 from rfl] at *
         rw [hlR] at HW
         rw [hlR]
         have w0R := hwR.out
         by_cases hcc : lc - R = 0
         ·clear hr hP2 hE hR0 hcut hsub hlen hlt hn hf hg htn HH hi' o
          have w0 := HW.out
          have w1t := HT.out
          go_wp2_with (first
           | (go_at_call 91; (with_reducible refine Calls.mono (PT _) ?_); rintro e w1 ⟨pa, pc, rfl, hp, d1⟩; have b1 := below_more bw d1; obtain ⟨n0, n1, n2, n3, n4, n5, n6, n7⟩ := CE _ b1)
           | (go_at_call 92; (with_reducible refine Calls.mono (FL' _ b1) ?_); rintro e w2 ⟨rfl, d2⟩; have b2 := below_more b1 d2; have b12 := below_more d1 d2)
           | (go_at_call 93; (with_reducible refine Calls.mono (EQ _ _ _ _ _) ?_); rintro e w3 ⟨rfl, d3⟩; have b3 := below_more b2 d3; have dd := below_more b12 d3)
           | (at_builtin; refine wpl_append_c (t := 40) (e := 3) Tryz.underlying40 infoInt rfl (by decide) (.tmp 46) (.tmp 48) rfl rfl w _ _ R _ (some ⟨w3.heap.size, 0, none⟩) 1 1 [.int .i64 t] rfl rfl ((OC.out.more dd).alloc _) (BoxC.new w3 #[.int .i64 t] 3).isc (by simp [Value.oneCell']) (by simp) m1 m2 ?_; intro a6 c6 w6 _ o6 g6))
          all_goals
           obtain ⟨q1, q2, q3, q4, q5⟩ := HQ.out
           clear w0
           have hl' := HL.out
           go_roundg (n - (t + 1) + 1)
           case measure => exact q5
           case rel => exact ⟨t + 1, f, a6, c6, lo.take R ++ [(t : Int)], by rw [hl'], by first | rfl | (rw [w1t]; rfl), q2, Nat.le_refl _, q3, by rw [hl', List.map_append]; exact o6, q1, by rw [hl']; exact q4⟩
         ·clear hr hP2 hE hR0 hcut hsub hlen hlt hn hf hg htn HH hi' o
          have w0 := HW.out
          have w1t := HT.out
          go_wp2_with (first
           | (go_at_call 91; (with_reducible refine Calls.mono (PT _) ?_); rintro e w1 ⟨pa, pc, rfl, hp, d1⟩; have b1 := below_more bw d1; obtain ⟨n0, n1, n2, n3, n4, n5, n6, n7⟩ := CE _ b1)
           | (go_at_call 92; (with_reducible refine Calls.mono (FL' _ b1) ?_); rintro e w2 ⟨rfl, d2⟩; have b2 := below_more b1 d2; have b12 := below_more d1 d2)
           | (go_at_call 93; (with_reducible refine Calls.mono (EQ _ _ _ _ _) ?_); rintro e w3 ⟨rfl, d3⟩; have b3 := below_more b2 d3; have dd := below_more b12 d3)
           | (at_builtin; refine wpl_append_c (t := 40) (e := 3) Tryz.underlying40 infoInt rfl (by decide) (.tmp 46) (.tmp 48) rfl rfl w _ _ R _ (some ⟨w3.heap.size, 0, none⟩) 1 1 [.int .i64 t] rfl rfl ((OC.out.more dd).alloc _) (BoxC.new w3 #[.int .i64 t] 3).isc (by simp [Value.oneCell']) (by simp) m1 m2 ?_; intro a6 c6 w6 _ o6 g6))
          obtain ⟨q1, q2, q3, q4, q5⟩ := HQ.out
          clear w0
          have hl' := HL.out
          go_roundg (n - (t + 1) + 1)
          case measure => exact q5
          case rel => exact ⟨t + 1, f, a6, c6, lo.take R ++ [(t : Int)], by rw [hl'], by first | rfl | (rw [w1t]; rfl), q2, Nat.le_refl _, q3, by rw [hl', List.map_append]; exact o6, q1, by rw [hl']; exact q4⟩
        ·have hPN : 0 < P.length := List.length_pos_iff.2 hP0
         have k1 : R ≤ lc := by omega
         have k2 : (R : Int) ≤ (lc : Int) := by omega
         have k3 : (0 : Int) ≤ (R : Int) := by omega
         have hcc : lc - R ≠ 0 := by omega
         have k4 : (R : Int) ≤ ((R + P.length : Nat) : Int) := by omega
         have k5 : R ≤ R + P.length := by omega
         have IW : IsI wr (some ⟨g, R, none⟩) P.length (lo.drop R) := ⟨by rw [List.length_drop]; omega, .inr ⟨g, R, rfl, fun j x hj => (o.at1 (k := R + j) (by rw [List.getElem?_map]; rw [List.getElem?_drop] at hj; rw [hj]; rfl)).1⟩⟩
         have EQ := fun (v : World) (b : Below wr.heap.size wr v) (pa : Option Addr) (pc : Nat) (hp : IsI v pa P.length P) => eq_ints (c := lc - R) (d := pc) (IW.below b) hp (by omega) true (decide_eq_true hE)
         rw [hRl] at HW
         rw [hRl]
         have w0R := hwR.out
         clear hr hP2 hE hR0 hcut hsub hlen hlt hn hf hg htn HH hi' o
         have w0 := HW.out
         have w1t := HT.out
         go_wp2_with (first
          | (go_at_call 91; (with_reducible refine Calls.mono (PT _) ?_); rintro e w1 ⟨pa, pc, rfl, hp, d1⟩; have b1 := below_more bw d1; obtain ⟨n0, n1, n2, n3, n4, n5, n6, n7⟩ := CE _ b1)
          | (go_at_call 92; (with_reducible refine Calls.mono (FL' _ b1) ?_); rintro e w2 ⟨rfl, d2⟩; have b2 := below_more b1 d2; have b12 := below_more d1 d2)
          | (go_at_call 93; (with_reducible refine Calls.mono (EQ _ b12 _ _ (IsP.isI hp d2)) ?_); rintro e w3 ⟨rfl, d3⟩; have b3 := below_more b2 d3; have dd := below_more b12 d3)
          | (at_builtin; refine wpl_append_c (t := 40) (e := 3) Tryz.underlying40 infoInt rfl (by decide) (.tmp 46) (.tmp 48) rfl rfl w _ _ R _ (some ⟨w3.heap.size, 0, none⟩) 1 1 [.int .i64 t] rfl rfl ((OC.out.more dd).alloc _) (BoxC.new w3 #[.int .i64 t] 3).isc (by simp [Value.oneCell']) (by simp) m1 m2 ?_; intro a6 c6 w6 _ o6 g6))
         obtain ⟨q1, q2, q3, q4, q5⟩ := HQ.out
         clear w0
         have hl' := HL.out
         go_roundg (n - (t + 1) + 1)
         case measure => exact q5
         case rel => exact ⟨t + 1, f, a6, c6, lo.take R ++ [(t : Int)], by rw [hl'], by first | rfl | (rw [w1t]; rfl), q2, Nat.le_refl _, q3, by rw [hl', List.map_append]; exact o6, q1, by rw [hl']; exact q4⟩
      ·have hrf : r = false := by rw [← hr, if_neg (fun q => hE q.2.2)]
       subst hrf
       have hP0 : P ≠ [] := fun q => hE (by rw [q]; exact List.drop_eq_nil_of_le (by rw [hRl, q]; exact Nat.le_refl _))
       have hPN : 0 < P.length := List.length_pos_iff.2 hP0
       rcases o.nilC with ⟨rfl, rfl, h0⟩ | ⟨g, rfl, hcap⟩
       ·exact absurd hPN (by omega)
       ·have k1 : R ≤ lc := by omega
        have k2 : (R : Int) ≤ (lc : Int) := by omega
        have k3 : (0 : Int) ≤ (R : Int) := by omega
        have hcc : lc - R ≠ 0 := by omega
        have k4 : (R : Int) ≤ ((R + P.length : Nat) : Int) := by omega
        have k5 : R ≤ R + P.length := by omega
        have IW : IsI wr (some ⟨g, R, none⟩) P.length (lo.drop R) := ⟨by rw [List.length_drop]; omega, .inr ⟨g, R, rfl, fun j x hj => (o.at1 (k := R + j) (by rw [List.getElem?_map]; rw [List.getElem?_drop] at hj; rw [hj]; rfl)).1⟩⟩
        have EQ := fun (v : World) (b : Below wr.heap.size wr v) (pa : Option Addr) (pc : Nat) (hp : IsI v pa P.length P) => eq_ints (c := lc - R) (d := pc) (IW.below b) hp (by omega) false (decide_eq_false hE)
        rw [hRl] at HW
        rw [hRl]
        have w0R := hwR.out
        clear hr hP2 hE hR0 hcut hsub hlen hlt hn hf hg htn HH hi' o
        have w0 := HW.out
        go_wp2_with (first
         | (go_at_call 91; (with_reducible refine Calls.mono (PT _) ?_); rintro e w1 ⟨pa, pc, rfl, hp, d1⟩; have b1 := below_more bw d1; obtain ⟨n0, n1, n2, n3, n4, n5, n6, n7⟩ := CE _ b1)
         | (go_at_call 92; (with_reducible refine Calls.mono (FL' _ b1) ?_); rintro e w2 ⟨rfl, d2⟩; have b2 := below_more b1 d2; have b12 := below_more d1 d2)
         | (go_at_call 93; (with_reducible refine Calls.mono (EQ _ b12 _ _ (IsP.isI hp d2)) ?_); rintro e w3 ⟨rfl, d3⟩; have b3 := below_more b2 d3; have dd := below_more b12 d3))
        go_ret
        exact ⟨rfl, b3⟩
   ·have p1 : ¬ (t : Int) < n := by omega
    have hr' : decide (lo.length = 1) = r := by rw [← hr]; unfold sgF; rw [if_neg (by omega)]
    have e : ((lo.length : Int) == 1) = r := by
     rw [← hr']
     by_cases q : lo.length = 1
     ·rw [q]; rfl
     ·rw [decide_eq_false q, beq_eq_false_iff_ne]; omega
    have HB : Hid (Below w.heap.size w wr) := bw
    generalize lo.length = N at *
    clear htn hg hf o hr hlt hN hR hn ht hr' HH hi'
    go_wp2
    go_ret
    exact ⟨by rw [← e]; rfl, HB.out⟩
end
section
open Go.RowKit Go.Lib
def grF (ms : List Nw) : List (ByteArray × Int) → Int → Bool
 | [], fr => decide (fr = ms.length)
 | l :: ls, fr => nameB l.1 && decide (fr ≤ l.2) && decide (l.2 < ms.length) && sgB (ms.take (l.2.toNat + 1)) (l.2.toNat + 1) fr.toNat && grF ms ls (l.2 + 1)
theorem IsN.take {w : World} {a : Option Addr} {n : Nat} {ms : List Mn} (h : IsN w a n ms) {k : Nat} (hk : k ≤ n) : IsN w a k (ms.take k) := by
 refine ⟨by rw [List.length_take, h.1]; omega, ?_⟩
 rcases h.2 with h0 | ⟨g, o, e, hc⟩
 ·exact .inl (by omega)
 ·refine .inr ⟨g, o, e, fun i m hm => hc i m ?_⟩
  rw [List.getElem?_take] at hm
  split at hm
  ·exact hm
  ·exact absurd hm (by simp)
theorem NdR.take {w : World} {ms : List Mn} (h : NdR w ms) (k : Nat) : NdR w (ms.take k) := fun m hm => h m (List.mem_of_mem_take hm)
theorem NdR.below {w w' : World} {ms : List Mn} (h : NdR w ms) (hb : Below w.heap.size w w') : NdR w' ms := fun m hm => by
 obtain ⟨⟨x, y, e, h1⟩, ⟨x', y', e', h1'⟩, r⟩ := h m hm
 exact ⟨⟨x, y, e, h1.below hb⟩, ⟨x', y', e', h1'.below hb⟩, r⟩
def IsLt (w : World) (a : Option Addr) (n : Nat) (ls : List (ByteArray × Int)) : Prop := ls.length = n ∧ (n = 0 ∨ ∃ g o, a = some ⟨g, o, none⟩ ∧ ∀ (j : Nat) (x : ByteArray × Int), ls[j]? = some x → w.cell? ⟨g, o + j * 2, none⟩ = some (.string x.1) ∧ w.cell? ⟨g, o + j * 2 + 1, none⟩ = some (.int .i64 x.2))
theorem IsLt.below {w w' : World} {a : Option Addr} {n : Nat} {ls : List (ByteArray × Int)} (h : IsLt w a n ls) (hb : Below w.heap.size w w') : IsLt w' a n ls := by
 refine ⟨h.1, ?_⟩
 rcases h.2 with h0 | ⟨g, o, e, hc⟩
 ·exact .inl h0
 ·exact .inr ⟨g, o, e, fun j x hj => by
   obtain ⟨c1, c2⟩ := hc j x hj
   exact ⟨by rw [hb.cell (World.block_lt_of_cell? w _ c1)]; exact c1, by rw [hb.cell (World.block_lt_of_cell? w _ c2)]; exact c2⟩⟩
theorem IsC.isLt {w : World} {a : Option Addr} {n : Nat} {ls : List (ByteArray × Int)} (h : IsC 2 w a n (flat encL ls)) : IsLt w a n ls := by
 obtain ⟨hl, -⟩ := h.get encL_length (by decide)
 refine ⟨hl, ?_⟩
 rcases h.lit (by decide) with h0 | ⟨g, o, e, hc⟩
 ·exact .inl h0
 ·refine .inr ⟨g, o, e, fun j x hj => ?_⟩
  have f0 := flat_get encL_length ls j x hj 0 (by decide)
  have f1 := flat_get encL_length ls j x hj 1 (by decide)
  exact ⟨hc _ _ f0, by rw [Nat.add_assoc]; exact hc _ _ f1⟩
theorem tree_grown {w : World} {ia la oa a : Option Addr} {il ic ln lc ol oc n c : Nat} {ls : List (ByteArray × Int)} {ms : List Mn} (hL : IsLt w la ln ls) (h : IsN w a n ms) (hR : NdR w ms) (hn : n ≤ 100000) (hln : ln ≤ 100000) (hc : n ≤ c) (hz : ∀ x ∈ ls, -9223372036854775808 ≤ x.2 ∧ x.2 < 9223372036854775808) (r : Bool) (hr : grF (ms.map (·.1)) ls 0 = r) :
  Calls Tryz.prog 35 #[.agg #[.slice ia il ic, .slice la ln lc, .slice oa ol oc, .slice a n c]] w fun e w' => e = .returned (.bool r) ∧ Below w.heap.size w w' := by
 obtain ⟨B1, bV, hs⟩ := boxes1 w #[.slice ia il ic, .slice la ln lc, .slice oa ol oc, .slice a n c] 26
 have hlen : (ms.map (·.1)).length = n := by rw [List.length_map]; exact h.1
 have HH : Hid (IsLt w la ln ls ∧ IsN w a n ms ∧ NdR w ms ∧ n ≤ 100000 ∧ ln ≤ 100000 ∧ n ≤ c ∧ (∀ x ∈ ls, -9223372036854775808 ≤ x.2 ∧ x.2 < 9223372036854775808) ∧ grF (ms.map (·.1)) ls 0 = r ∧ (ms.map (·.1)).length = n) := ⟨hL, h, hR, hn, hln, hc, hz, hr, hlen⟩
 have HB : Hid (BoxC (w.alloc (.cells #[.slice ia il ic, .slice la ln lc, .slice oa ol oc, .slice a n c] 26)) w.heap.size #[.slice ia il ic, .slice la ln lc, .slice oa ol oc, .slice a n c] 26 ∧ Below w.heap.size w (w.alloc (.cells #[.slice ia il ic, .slice la ln lc, .slice oa ol oc, .slice a n c] 26))) := ⟨B1, bV⟩
 clear hL h hR hn hln hc hz hr hlen B1 bV hs
 go_enter Tryz.func35, Tryz.ntmps35
 go_wp2
 generalize hV : w.alloc (.cells #[.slice ia il ic, .slice la ln lc, .slice oa ol oc, .slice a n c] 26) = V at *
 go_loopg [3, 9] ln (fun g s3 s9 v => ∃ (t : Nat) (fr : Int), s3 = .int .i64 fr ∧ s9 = .int .i64 t ∧ t + g = ln ∧ 0 ≤ fr ∧ fr ≤ n ∧ grF (ms.map (·.1)) (ls.drop t) fr = r ∧ Below V.heap.size V v)
 case atStart => exact ⟨0, 0, rfl, rfl, by omega, Int.le_refl _, by omega, HH.out.2.2.2.2.2.2.2.1, Below.refl _ _⟩
 case round =>
  obtain ⟨t, fr, rfl, rfl, hg, hf0, hfn, hr, bw⟩ := hrel
  obtain ⟨hL, h, hR, hn, hln, hc, hz, -, hlen⟩ := HH.out
  rcases Nat.lt_or_ge t ln with ht | ht
  ·have p1 : (t : Int) < ln := by omega
   obtain ⟨⟨nm, rt⟩, hx⟩ : ∃ x, ls[t]? = some x := ⟨_, List.getElem?_eq_getElem (by have := hL.1; omega)⟩
   have hbW := below_more HB.out.2 bw
   obtain ⟨g1, o1, rfl, hcl⟩ := (hL.below hbW).2.resolve_left (by omega)
   obtain ⟨c0, c1⟩ := hcl t _ hx
   have g1w : g1 < wr.heap.size := World.block_lt_of_cell? wr _ c0
   dsimp only at c0 c1
   obtain ⟨hz2, hz3⟩ := hz _ (List.mem_of_getElem? hx)
   dsimp only at hz2 hz3
   have hd : ls.drop t = (nm, rt) :: ls.drop (t + 1) := by
    obtain ⟨q1, q2⟩ := List.getElem?_eq_some_iff.1 hx
    rw [List.drop_eq_getElem_cons q1, q2]
   rw [hd] at hr
   unfold grF at hr
   dsimp only at hr
   rw [hlen] at hr
   obtain ⟨q, rfl⟩ := Int.eq_ofNat_of_zero_le hf0
   rw [show ((q : Int)).toNat = q from rfl] at hr
   have hR1 := (HB.out.1.more bw).lt
   cases hb : nameB nm with
   | false =>
    rw [hb] at hr
    simp only [Bool.false_and] at hr
    subst hr
    have SN := fun v => sign_name_any nm v false hb
    clear hL h hR hn hln hc hz hlen hcl hx hz2 hz3 hd hb hg hf0 hfn HH
    go_wp2_with (first
     | (go_at_call 62; (with_reducible refine Calls.mono (SN _) ?_); rintro e w1 ⟨rfl, d1⟩; have BX := (BoxC.new wr #[.string nm, .int .i64 rt] 52).more d1; obtain ⟨x0, x1, -, -⟩ := BX.cells2; have bA := (Below.refl wr.heap.size wr).alloc (Nat.le_refl _) (.cells #[.string nm, .int .i64 rt] 52); have b1 := below_more bA d1; have b1V := below_more bw b1; have P1 := HB.out.1.more b1V; have p3 := (P1.cell 3).1))
    go_ret
    exact ⟨rfl, below_more HB.out.2 b1V⟩
   | true =>
    rw [hb, Bool.true_and] at hr
    have SN := fun v => sign_name_any nm v true hb
    by_cases hlt : rt < (q : Int)
    ·rw [decide_eq_false (by omega)] at hr
     simp only [Bool.false_and] at hr
     subst hr
     clear hL h hR hn hln hc hz hlen hcl hx hz2 hz3 hd hb hg hf0 hfn HH
     go_wp2_with (first
      | (go_at_call 62; (with_reducible refine Calls.mono (SN _) ?_); rintro e w1 ⟨rfl, d1⟩; have BX := (BoxC.new wr #[.string nm, .int .i64 rt] 52).more d1; obtain ⟨x0, x1, -, -⟩ := BX.cells2; have bA := (Below.refl wr.heap.size wr).alloc (Nat.le_refl _) (.cells #[.string nm, .int .i64 rt] 52); have b1 := below_more bA d1; have b1V := below_more bw b1; have P1 := HB.out.1.more b1V; have p3 := (P1.cell 3).1))
     go_ret
     exact ⟨rfl, below_more HB.out.2 b1V⟩
    ·rw [decide_eq_true (by omega), Bool.true_and] at hr
     obtain ⟨R, rfl⟩ := Int.eq_ofNat_of_zero_le (show 0 ≤ rt by omega)
     by_cases hge : n ≤ R
     ·rw [decide_eq_false (by omega)] at hr
      simp only [Bool.false_and] at hr
      subst hr
      have k1 : (n : Int) ≤ R := by omega
      have k2 : ¬ (R : Int) < n := by omega
      clear hL h hR hn hln hc hz hlen hcl hx hz2 hz3 hd hb hg hf0 hfn HH
      go_wp2_with (first
       | (go_at_call 62; (with_reducible refine Calls.mono (SN _) ?_); rintro e w1 ⟨rfl, d1⟩; have BX := (BoxC.new wr #[.string nm, .int .i64 (R : Int)] 52).more d1; obtain ⟨x0, x1, -, -⟩ := BX.cells2; have bA := (Below.refl wr.heap.size wr).alloc (Nat.le_refl _) (.cells #[.string nm, .int .i64 (R : Int)] 52); have b1 := below_more bA d1; have b1V := below_more bw b1; have P1 := HB.out.1.more b1V; have p3 := (P1.cell 3).1))
      go_ret
      exact ⟨rfl, below_more HB.out.2 b1V⟩
     ·rw [decide_eq_true (by omega), Bool.true_and] at hr
      rw [show ((R : Int)).toNat = R from rfl] at hr
      have k1 : ¬ (n : Int) ≤ R := by omega
      have k2 : (R : Int) < n := by omega
      have k3 : R + 1 ≤ c := by omega
      have k4 : (R : Int) + 1 ≤ (c : Int) := by omega
      have k5 : (0 : Int) ≤ (R : Int) + 1 := by omega
      have SG0 := fun (v : World) (b : Below V.heap.size V v) (sb : Bool) (hs : sgB (((ms.take (R + 1)).map (·.1))) (R + 1) q = sb) => tree_single (c := c) ((h.below (below_more HB.out.2 b)).take (show R + 1 ≤ n by omega)) ((hR.below (below_more HB.out.2 b)).take (R + 1)) (by omega) q (by omega) sb hs
      rw [List.map_take] at SG0
      have HW : Hid (wrap64 ((R : Int) + 1) = (R : Int) + 1 ∧ wrap64 ((t : Int) + 1) = (t : Int) + 1) := ⟨wrap_smalls (by omega) (by omega), wrap_smalls (by omega) (by omega)⟩
      cases hsg : sgB ((ms.map (·.1)).take (R + 1)) (R + 1) q with
      | false =>
       rw [hsg] at hr
       simp only [Bool.false_and] at hr
       subst hr
       have SG := fun v b => SG0 v b false hsg
       clear hL h hR hn hln hc hz hlen hcl hx hz2 hz3 hd hb hg hf0 hfn HH SG0 hsg
       have wR := HW.out.1
       go_wp2_with (first
        | (go_at_call 62; (with_reducible refine Calls.mono (SN _) ?_); rintro e w1 ⟨rfl, d1⟩; have BX := (BoxC.new wr #[.string nm, .int .i64 (R : Int)] 52).more d1; obtain ⟨x0, x1, -, -⟩ := BX.cells2; have bA := (Below.refl wr.heap.size wr).alloc (Nat.le_refl _) (.cells #[.string nm, .int .i64 (R : Int)] 52); have b1 := below_more bA d1; have b1V := below_more bw b1; have P1 := HB.out.1.more b1V; have p3 := (P1.cell 3).1)
        | (go_at_call 63; (with_reducible refine Calls.mono (SG _ b1V) ?_); rintro e w2 ⟨rfl, d2⟩; obtain ⟨z0, z1, -, -⟩ := (BX.more d2).cells2; have b2V := below_more b1V d2))
       go_ret
       exact ⟨rfl, below_more HB.out.2 b2V⟩
      | true =>
       rw [hsg, Bool.true_and] at hr
       have SG := fun v b => SG0 v b true hsg
       have HQ : Hid (grF (ms.map (·.1)) (ls.drop (t + 1)) ((R : Int) + 1) = r ∧ t + 1 + (ln - (t + 1)) = ln ∧ 0 ≤ (R : Int) + 1 ∧ (R : Int) + 1 ≤ n ∧ ln - (t + 1) < gk) := ⟨hr, by omega, by omega, by omega, by omega⟩
       clear hr hL h hR hn hln hc hz hlen hcl hx hz2 hz3 hd hb hg hf0 hfn HH SG0 hsg
       have wR := HW.out.1
       have wT := HW.out.2
       go_wp2_with (first
        | (go_at_call 62; (with_reducible refine Calls.mono (SN _) ?_); rintro e w1 ⟨rfl, d1⟩; have BX := (BoxC.new wr #[.string nm, .int .i64 (R : Int)] 52).more d1; obtain ⟨x0, x1, -, -⟩ := BX.cells2; have bA := (Below.refl wr.heap.size wr).alloc (Nat.le_refl _) (.cells #[.string nm, .int .i64 (R : Int)] 52); have b1 := below_more bA d1; have b1V := below_more bw b1; have P1 := HB.out.1.more b1V; have p3 := (P1.cell 3).1)
        | (go_at_call 63; (with_reducible refine Calls.mono (SG _ b1V) ?_); rintro e w2 ⟨rfl, d2⟩; obtain ⟨z0, z1, -, -⟩ := (BX.more d2).cells2; have b2V := below_more b1V d2))
       obtain ⟨q1, q2, q3, q4, q5⟩ := HQ.out
       go_roundg (ln - (t + 1))
       case measure => exact q5
       case rel => exact ⟨t + 1, (R : Int) + 1, by first | rfl | rw [wR], by first | rfl | (rw [wT]; rfl), q2, q3, q4, q1, b2V⟩
  ·have p1 : ¬ (t : Int) < ln := by omega
   obtain rfl : t = ln := by omega
   rw [List.drop_eq_nil_of_le (by have := hL.1; omega)] at hr
   unfold grF at hr
   rw [hlen] at hr
   have e : (fr == (n : Int)) = r := by
    rw [← hr]
    by_cases q : fr = (n : Int)
    ·rw [decide_eq_true q, beq_iff_eq]; exact q
    ·rw [decide_eq_false q, beq_eq_false_iff_ne]; exact q
   have P1 := HB.out.1.more bw
   have p3 := (P1.cell 3).1
   clear hL h hR hn hln hc hz hlen hg hf0 hfn hr HH P1
   go_wp2
   go_ret
   exact ⟨by rw [← e]; rfl, below_more HB.out.2 bw⟩
end
end Go.Proofs.YtaeladkcmpdkhaaGreatDoor
