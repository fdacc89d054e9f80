/-
  Texts of mine in build order. No conditions of their own.
-/
import Derived.Test.YtaeladkcmpdkhaaGreatDoorPack39
import Derived.Test.YtaeladkcmpdkhaaGreatDoorPack40
set_option maxHeartbeats 32000000
namespace Go.Proofs.YtaeladkcmpdkhaaGreatDoor
section
open Go.RowKit Go.Lib
theorem show_inj {ins ins' outs outs' : List ByteArray} {ls ls' : List (ByteArray × Int)} {ms ms' : List Nw} (h : rgtB ins outs ls ms = true) (h' : rgtB ins' outs' ls' ms' = true) : progX ins outs ls (ms.map Nw.nd) = progX ins' outs' ls' (ms'.map Nw.nd) ↔ SameP ins ins' outs outs' ls ls' ms ms' := by
 constructor
 ·intro e
  have p1 := (show_parse h).1
  have p2 := (show_parse h').1
  rw [e, p2] at p1
  injection p1 with p1 _
  injection p1 with q1 q2 q3 q4
  refine ⟨q1.symm, q3.symm, q2.symm, ?_⟩
  have r1 := raw_fills (rgt_parts h).1
  have r2 := raw_fills (rgt_parts h').1
  rw [← r1, ← q4, r2]
 ·rintro ⟨rfl, rfl, rfl, rfl⟩
  rfl
theorem walk_ShowUnlike {ia la oa a ja ka ra ba : Option Addr} {il ic ln lc ol oc n c jl jc kl kc rl rc bn bc : Nat} {ins outs ins' outs' : List ByteArray} {ls ls' : List (ByteArray × Int)} {ms ms' : List Mn} (w : World) (h : PgC w ia la oa a il ln ol n c ins outs ls ms) (hic : il ≤ ic) (hoc : ol ≤ oc)
  (h' : PgC w ja ka ra ba jl kl rl bn bc ins' outs' ls' ms') (hjc : jl ≤ jc) (hrc : rl ≤ rc) (he : LibV w) :
  Calls Tryz.prog 6 #[.agg #[.slice ia il ic, .slice la ln lc, .slice oa ol oc, .slice a n c], .agg #[.slice ja jl jc, .slice ka kl kc, .slice ra rl rc, .slice ba bn bc]] w fun e w' => e = .returned (.bool true) ∧ Below w.heap.size w w' := by
 obtain ⟨B1, B2, bV, -⟩ := boxes2 w #[.slice ia il ic, .slice la ln lc, .slice oa ol oc, .slice a n c] #[.slice ja jl jc, .slice ka kl kc, .slice ra rl rc, .slice ba bn bc] 26 26
 have AW := show_awake _ (he.below bV)
 have CB : Hid (∀ v, Below ((w.alloc (.cells #[.slice ia il ic, .slice la ln lc, .slice oa ol oc, .slice a n c] 26)).alloc (.cells #[.slice ja jl jc, .slice ka kl kc, .slice ra rl rc, .slice ba bn bc] 26)).heap.size ((w.alloc (.cells #[.slice ia il ic, .slice la ln lc, .slice oa ol oc, .slice a n c] 26)).alloc (.cells #[.slice ja jl jc, .slice ka kl kc, .slice ra rl rc, .slice ba bn bc] 26)) v → v.cell? ⟨w.heap.size, 0, none⟩ = some (.slice ia il ic) ∧ v.cell? ⟨w.heap.size, 1, none⟩ = some (.slice la ln lc) ∧ v.cell? ⟨w.heap.size, 2, none⟩ = some (.slice oa ol oc) ∧ v.cell? ⟨w.heap.size, 3, none⟩ = some (.slice a n c) ∧ v.cell? ⟨w.heap.size + 1, 0, none⟩ = some (.slice ja jl jc) ∧ v.cell? ⟨w.heap.size + 1, 1, none⟩ = some (.slice ka kl kc) ∧ v.cell? ⟨w.heap.size + 1, 2, none⟩ = some (.slice ra rl rc) ∧ v.cell? ⟨w.heap.size + 1, 3, none⟩ = some (.slice ba bn bc)) := fun v b => ⟨((B1.more b).cell 0).1, ((B1.more b).cell 1).1, ((B1.more b).cell 2).1, ((B1.more b).cell 3).1, ((B2.more b).cell 0).1, ((B2.more b).cell 1).1, ((B2.more b).cell 2).1, ((B2.more b).cell 3).1⟩
 have HV : Hid (Below w.heap.size w ((w.alloc (.cells #[.slice ia il ic, .slice la ln lc, .slice oa ol oc, .slice a n c] 26)).alloc (.cells #[.slice ja jl jc, .slice ka kl kc, .slice ra rl rc, .slice ba bn bc] 26))) := bV
 have FW0 := fun (v : World) (b : Below w.heap.size w v) (q : Bool) (hq : fewQ 40 n il ln ol (ms.map (·.1)) = q) => ref_tFew (ic := ic) (lc := lc) (oc := oc) (h.below b) 40 (by omega) q hq
 have FX0 := fun (v : World) (b : Below w.heap.size w v) (q : Bool) (hq : fewQ 40 bn jl kl rl (ms'.map (·.1)) = q) => ref_tFew (ic := jc) (lc := kc) (oc := rc) (h'.below b) 40 (by omega) q hq
 cases hf : fewQ 40 n il ln ol (ms.map (·.1)) with
 | false =>
  have FW := fun v b => FW0 v b false hf
  clear FW0 FX0 hf h he B1 B2 bV hic hoc h' hjc hrc
  go_enter Tryz.func6, Tryz.ntmps6
  go_wp2_with (first
   | (go_at_call 8; (with_reducible refine Calls.mono AW ?_); rintro e w1 ⟨rfl, d1⟩; obtain ⟨x0, x1, x2, x3, y0, y1, y2, y3⟩ := CB.out w1 d1; have b1 := below_more HV.out d1)
   | (go_at_call 9; (with_reducible refine Calls.mono (FW _ b1) ?_); rintro e w2 ⟨rfl, d2⟩))
  go_ret
  exact ⟨rfl, below_more b1 d2⟩
 | true =>
 have FW := fun v b => FW0 v b true hf
 cases hf' : fewQ 40 bn jl kl rl (ms'.map (·.1)) with
 | false =>
  have FX := fun v b => FX0 v b false hf'
  clear FW0 FX0 hf hf' h he B1 B2 bV hic hoc h' hjc hrc
  go_enter Tryz.func6, Tryz.ntmps6
  go_wp2_with (first
   | (go_at_call 8; (with_reducible refine Calls.mono AW ?_); rintro e w1 ⟨rfl, d1⟩; obtain ⟨x0, x1, x2, x3, y0, y1, y2, y3⟩ := CB.out w1 d1; have b1 := below_more HV.out d1)
   | (go_at_call 9; (with_reducible refine Calls.mono (FW _ b1) ?_); rintro e w2 ⟨rfl, d2⟩; have e2 := below_more d1 d2; obtain ⟨u0, u1, u2, u3, v0, v1, v2, v3⟩ := CB.out w2 e2; have b2 := below_more b1 d2)
   | (go_at_call 9; (with_reducible refine Calls.mono (FX _ b2) ?_); rintro e w3 ⟨rfl, d3⟩))
  go_ret
  exact ⟨rfl, below_more b2 d3⟩
 | true =>
 have FX := fun v b => FX0 v b true hf'
 unfold fewQ at hf hf'
 simp only [Bool.and_eq_true, decide_eq_true_eq] at hf hf'
 obtain ⟨⟨⟨⟨hn, h8⟩, h9⟩, h10⟩, hall⟩ := hf
 obtain ⟨-, hall'⟩ := hf'
 obtain ⟨PR, -⟩ := h.few hall
 obtain ⟨PR', -⟩ := h'.few hall'
 have TR0 := fun (v : World) (b : Below w.heap.size w v) (q : Bool) (hq : rgtB ins outs ls (ms.map (·.1)) = q) => tree_right (ic := ic) (lc := lc) (oc := oc) (PR.below b) q hq
 have TX0 := fun (v : World) (b : Below w.heap.size w v) (q : Bool) (hq : rgtB ins' outs' ls' (ms'.map (·.1)) = q) => tree_right (ic := jc) (lc := kc) (oc := rc) (PR'.below b) q hq
 cases hr : rgtB ins outs ls (ms.map (·.1)) with
 | false =>
  have TR := fun v b => TR0 v b false hr
  clear TR0 TX0 FW0 FX0 hr h he B1 B2 bV PR PR' hn h8 h9 h10 hall hall' hic hoc h' hjc hrc
  go_enter Tryz.func6, Tryz.ntmps6
  go_wp2_with (first
   | (go_at_call 8; (with_reducible refine Calls.mono AW ?_); rintro e w1 ⟨rfl, d1⟩; obtain ⟨x0, x1, x2, x3, y0, y1, y2, y3⟩ := CB.out w1 d1; have b1 := below_more HV.out d1)
   | (go_at_call 9; (with_reducible refine Calls.mono (FW _ b1) ?_); rintro e w2 ⟨rfl, d2⟩; have e2 := below_more d1 d2; obtain ⟨u0, u1, u2, u3, v0, v1, v2, v3⟩ := CB.out w2 e2; have b2 := below_more b1 d2)
   | (go_at_call 9; (with_reducible refine Calls.mono (FX _ b2) ?_); rintro e w3 ⟨rfl, d3⟩; have e3 := below_more e2 d3; obtain ⟨z0, z1, z2, z3, s0, s1, s2, s3⟩ := CB.out w3 e3; have b3 := below_more b2 d3)
   | (go_at_call 15; (with_reducible refine Calls.mono (TR _ b3) ?_); rintro e w4 ⟨rfl, d4⟩))
  go_ret
  exact ⟨rfl, below_more b3 d4⟩
 | true =>
 have TR := fun v b => TR0 v b true hr
 cases hr' : rgtB ins' outs' ls' (ms'.map (·.1)) with
 | false =>
  have TXQ := fun v b => TX0 v b false hr'
  clear TR0 TX0 FW0 FX0 hr hr' h he B1 B2 bV PR PR' hn h8 h9 h10 hall hall' hic hoc h' hjc hrc
  go_enter Tryz.func6, Tryz.ntmps6
  go_wp2_with (first
   | (go_at_call 8; (with_reducible refine Calls.mono AW ?_); rintro e w1 ⟨rfl, d1⟩; obtain ⟨x0, x1, x2, x3, y0, y1, y2, y3⟩ := CB.out w1 d1; have b1 := below_more HV.out d1)
   | (go_at_call 9; (with_reducible refine Calls.mono (FW _ b1) ?_); rintro e w2 ⟨rfl, d2⟩; have e2 := below_more d1 d2; obtain ⟨u0, u1, u2, u3, v0, v1, v2, v3⟩ := CB.out w2 e2; have b2 := below_more b1 d2)
   | (go_at_call 9; (with_reducible refine Calls.mono (FX _ b2) ?_); rintro e w3 ⟨rfl, d3⟩; have e3 := below_more e2 d3; obtain ⟨z0, z1, z2, z3, s0, s1, s2, s3⟩ := CB.out w3 e3; have b3 := below_more b2 d3)
   | (go_at_call 15; (with_reducible refine Calls.mono (TR _ b3) ?_); rintro e w4 ⟨rfl, d4⟩; have e4 := below_more e3 d4; obtain ⟨t0, t1, t2, t3, q0, q1, q2, q3⟩ := CB.out w4 e4; have b4 := below_more b3 d4)
   | (go_at_call 15; (with_reducible refine Calls.mono (TXQ _ b4) ?_); rintro e w5 ⟨rfl, d5⟩))
  go_ret
  exact ⟨rfl, below_more b4 d5⟩
 | true =>
  have TXQ := fun v b => TX0 v b true hr'
  have SP := fun (v : World) (b : Below w.heap.size w v) => show_print (lc := lc) (PR.below b) hic hoc (he.2.below b) hr
  have SQ := fun (v : World) (b : Below w.heap.size w v) => show_print (lc := kc) (PR'.below b) hjc hrc (he.2.below b) hr'
  have INJ := show_inj hr hr'
  obtain ⟨r, qr⟩ : ∃ r : Bool, r = true ↔ SameP ins ins' outs outs' ls ls' (ms.map (·.1)) (ms'.map (·.1)) := by
   by_cases q : SameP ins ins' outs outs' ls ls' (ms.map (·.1)) (ms'.map (·.1))
   ·exact ⟨true, fun _ => q, fun _ => rfl⟩
   ·exact ⟨false, fun e => absurd e (by simp), fun e => absurd e q⟩
  have SM := fun (v : World) (b : Below w.heap.size w v) => ref_tsame_any (ic := ic) (ic' := jc) (lc := lc) (lc' := kc) (oc := oc) (oc' := rc) (c := c) (c' := bc) (PR.hins.below b) (PR'.hins.below b) (PR.hlets.below b) (PR'.hlets.below b) (PR.houts.below b) (PR'.houts.below b) (PR.hall.below b) (PR'.hall.below b) (PR.hnodes.below b) (PR'.hnodes.below b) (by omega) r qr
  have qe : ((progX ins outs ls ((ms.map (·.1)).map Nw.nd)).toList == (progX ins' outs' ls' ((ms'.map (·.1)).map Nw.nd)).toList) = r := by
   rw [Bool.eq_iff_iff, beq_iff_eq, qr, ← INJ]
   refine ⟨fun f => ?_, fun f => by rw [f]⟩
   rw [ByteArray.toList_eq, ByteArray.toList_eq, Array.toList_inj] at f
   exact ByteArray.ext f
  generalize progX ins outs ls ((ms.map (·.1)).map Nw.nd) = T at *
  generalize progX ins' outs' ls' ((ms'.map (·.1)).map Nw.nd) = T' at *
  unfold AnsB at SP SQ
  clear TR0 TX0 FW0 FX0 hr hr' h he B1 B2 bV PR PR' hn h8 h9 h10 hall hall' hic hoc h' hjc hrc INJ qr
  have QE : Hid _ := qe
  clear qe
  go_enter Tryz.func6, Tryz.ntmps6
  go_wp2_with (first
   | (go_at_call 8; (with_reducible refine Calls.mono AW ?_); rintro e w1 ⟨rfl, d1⟩; obtain ⟨x0, x1, x2, x3, y0, y1, y2, y3⟩ := CB.out w1 d1; have b1 := below_more HV.out d1)
   | (go_at_call 9; (with_reducible refine Calls.mono (FW _ b1) ?_); rintro e w2 ⟨rfl, d2⟩; have e2 := below_more d1 d2; obtain ⟨u0, u1, u2, u3, v0, v1, v2, v3⟩ := CB.out w2 e2; have b2 := below_more b1 d2)
   | (go_at_call 9; (with_reducible refine Calls.mono (FX _ b2) ?_); rintro e w3 ⟨rfl, d3⟩; have e3 := below_more e2 d3; obtain ⟨z0, z1, z2, z3, s0, s1, s2, s3⟩ := CB.out w3 e3; have b3 := below_more b2 d3)
   | (go_at_call 15; (with_reducible refine Calls.mono (TR _ b3) ?_); rintro e w4 ⟨rfl, d4⟩; have e4 := below_more e3 d4; obtain ⟨t0, t1, t2, t3, q0, q1, q2, q3⟩ := CB.out w4 e4; have b4 := below_more b3 d4)
   | (go_at_call 15; (with_reducible refine Calls.mono (TXQ _ b4) ?_); rintro e w5 ⟨rfl, d5⟩; have e5 := below_more e4 d5; obtain ⟨g0, g1, g2, g3, f0, f1, f2, f3⟩ := CB.out w5 e5; have b5 := below_more b4 d5)
   | (go_at_call 17; (with_reducible refine Calls.mono (SM _ b5) ?_); rintro e w6 ⟨rfl, d6⟩))
  have e6 := below_more e5 d6
  have HB : Hid (Below w.heap.size w w6) := below_more b5 d6
  have SV : ∀ v, Below w6.heap.size w6 v → v.cell? ⟨w.heap.size, 0, none⟩ = some (.slice ia il ic) ∧ v.cell? ⟨w.heap.size, 1, none⟩ = some (.slice la ln lc) ∧ v.cell? ⟨w.heap.size, 2, none⟩ = some (.slice oa ol oc) ∧ v.cell? ⟨w.heap.size, 3, none⟩ = some (.slice a n c) ∧ v.cell? ⟨w.heap.size + 1, 0, none⟩ = some (.slice ja jl jc) ∧ v.cell? ⟨w.heap.size + 1, 1, none⟩ = some (.slice ka kl kc) ∧ v.cell? ⟨w.heap.size + 1, 2, none⟩ = some (.slice ra rl rc) ∧ v.cell? ⟨w.heap.size + 1, 3, none⟩ = some (.slice ba bn bc) := fun v b => CB.out v (below_more e6 b)
  have bs : Below w6.heap.size w6 w6.drew := (Below.refl _ _).drew
  have qe := QE.out
  go_region_held3 (fun v => v.cell? ⟨w.heap.size, 0, none⟩ = some (.slice ia il ic) ∧ v.cell? ⟨w.heap.size, 1, none⟩ = some (.slice la ln lc) ∧ v.cell? ⟨w.heap.size, 2, none⟩ = some (.slice oa ol oc) ∧ v.cell? ⟨w.heap.size, 3, none⟩ = some (.slice a n c) ∧ v.cell? ⟨w.heap.size + 1, 0, none⟩ = some (.slice ja jl jc) ∧ v.cell? ⟨w.heap.size + 1, 1, none⟩ = some (.slice ka kl kc) ∧ v.cell? ⟨w.heap.size + 1, 2, none⟩ = some (.slice ra rl rc) ∧ v.cell? ⟨w.heap.size + 1, 3, none⟩ = some (.slice ba bn bc)) (exact SV _ bs) (first
   | (go_at_call 12; (with_reducible refine Calls.mono (SP _ (below_more HB.out bs)) ?_); rintro e w7 ⟨rfl, d7⟩; replace bs := below_more bs d7)
   | (go_at_call 12; (with_reducible refine Calls.mono (SQ _ (below_more HB.out bs)) ?_); rintro e w8 ⟨rfl, d8⟩; replace bs := below_more bs d8))
  all_goals go_wp2
  all_goals go_ret
  all_goals exact ⟨by simp, below_more HB.out bs⟩
end
section
open Go.RowKit
theorem law_ShowUnlike (ia : Option Addr) (il ic : Nat) (la : Option Addr) (ln lc : Nat) (oa : Option Addr) (ol oc : Nat) (a : Option Addr) (n c : Nat) (ins outs : List ByteArray) (ls : List (ByteArray × Int)) (ms : List Mn) (ja : Option Addr) (jl jc : Nat) (ka : Option Addr) (kl kc : Nat) (ra : Option Addr) (rl rc : Nat) (ba : Option Addr) (bn bc : Nat) (ins' outs' : List ByteArray) (ls' : List (ByteArray × Int)) (ms' : List Mn) (w : World)
  (h : PgC w ia la oa a il ln ol n c ins outs ls ms) (hic : il ≤ ic) (hoc : ol ≤ oc) (h' : PgC w ja ka ra ba jl kl rl bn bc ins' outs' ls' ms') (hjc : jl ≤ jc) (hrc : rl ≤ rc) (he : LibV w) :
  Calls Tryz.prog 6 #[.agg #[.slice ia il ic, .slice la ln lc, .slice oa ol oc, .slice a n c], .agg #[.slice ja jl jc, .slice ka kl kc, .slice ra rl rc, .slice ba bn bc]] w fun e w' => e = .returned (.bool true) ∧ Below w.heap.size w w' := walk_ShowUnlike w h hic hoc h' hjc hrc he
end
end Go.Proofs.YtaeladkcmpdkhaaGreatDoor
