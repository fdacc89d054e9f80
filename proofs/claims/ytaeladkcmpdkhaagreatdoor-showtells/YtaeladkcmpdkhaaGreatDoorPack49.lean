/-
  Texts of mine in build order. No conditions of their own.
-/
import Derived.Test.YtaeladkcmpdkhaaGreatDoorPack31
import Derived.Test.YtaeladkcmpdkhaaGreatDoorPack48
set_option maxHeartbeats 32000000
namespace Go.Proofs.YtaeladkcmpdkhaaGreatDoor
section
open Go.RowKit Go.Lib
theorem walk_ShowTells {ia la oa a : Option Addr} {il ic ln lc ol oc n c : Nat} {ins outs : List ByteArray} {ls : List (ByteArray × Int)} {ms : List Mn} (k : Int) (w : World) (h : PgC w ia la oa a il ln ol n c ins outs ls ms) (hic : il ≤ ic) (hoc : ol ≤ oc) (he : LibV w) :
  Calls Tryz.prog 3 #[.agg #[.slice ia il ic, .slice la ln lc, .slice oa ol oc, .slice a n c], .int .i64 k] w fun e w' => e = .returned (.bool true) ∧ Below w.heap.size w w' := by
 obtain ⟨B1, bV, -⟩ := boxes1 w #[.slice ia il ic, .slice la ln lc, .slice oa ol oc, .slice a n c] 26
 have AW := show_awake _ (he.below bV)
 have CB : Hid (∀ v, Below (w.alloc (.cells #[.slice ia il ic, .slice la ln lc, .slice oa ol oc, .slice a n c] 26)).heap.size (w.alloc (.cells #[.slice ia il ic, .slice la ln lc, .slice oa ol oc, .slice a n c] 26)) v → v.cell? ⟨w.heap.size, 0, none⟩ = some (.slice ia il ic) ∧ v.cell? ⟨w.heap.size, 1, none⟩ = some (.slice la ln lc) ∧ v.cell? ⟨w.heap.size, 2, none⟩ = some (.slice oa ol oc) ∧ v.cell? ⟨w.heap.size, 3, none⟩ = some (.slice a n c)) := fun v b => ⟨((B1.more b).cell 0).1, ((B1.more b).cell 1).1, ((B1.more b).cell 2).1, ((B1.more b).cell 3).1⟩
 have HV : Hid (Below w.heap.size w (w.alloc (.cells #[.slice ia il ic, .slice la ln lc, .slice oa ol oc, .slice a n c] 26))) := bV
 have FW0 := fun (v : World) (b : Below w.heap.size w v) (q : Bool) (hq : fewQ 40 n il ln ol (ms.map (·.1)) = q) => ref_tFew (ic := ic) (lc := lc) (oc := oc) (h.below b) 40 (by omega) q hq
 cases hf : fewQ 40 n il ln ol (ms.map (·.1)) with
 | false =>
  have FW := fun v b => FW0 v b false hf
  clear FW0 hf h he B1 bV hic hoc
  go_enter Tryz.func3, Tryz.ntmps3
  go_wp2_with (first
   | (go_at_call 8; (with_reducible refine Calls.mono AW ?_); rintro e w1 ⟨rfl, d1⟩; obtain ⟨x0, x1, x2, x3⟩ := CB.out w1 d1; have b1 := below_more HV.out d1)
   | (go_at_call 9; (with_reducible refine Calls.mono (FW _ b1) ?_); rintro e w2 ⟨rfl, d2⟩))
  go_ret
  exact ⟨rfl, below_more b1 d2⟩
 | true =>
 have FW := fun v b => FW0 v b true hf
 unfold fewQ at hf
 simp only [Bool.and_eq_true, decide_eq_true_eq] at hf
 obtain ⟨⟨⟨⟨hn, h8⟩, h9⟩, h10⟩, hall⟩ := hf
 obtain ⟨PR, hS⟩ := h.few hall
 have RG0 := fun (v : World) (b : Below w.heap.size w v) (q : Bool) (hq : rgtB ins outs ls (ms.map (·.1)) = q) => ref_tRight (ic := ic) (lc := lc) (oc := oc) (PR.below b) hS q hq
 have KEY : ∀ T X : ByteArray, ∀ r : Bool, rgtB ins outs ls (ms.map (·.1)) = r → (∀ v, Below w.heap.size w v → Calls Tryz.prog 12 #[.agg #[.slice ia il ic, .slice la ln lc, .slice oa ol oc, .slice a n c]] v (AnsB v T)) → (∀ v, Below w.heap.size w v → Calls Tryz.prog 13 #[.agg #[.slice ia il ic, .slice la ln lc, .slice oa ol oc, .slice a n c]] v (AnsB v T)) →
   (∀ v, Below w.heap.size w v → Calls Tryz.prog 14 #[.agg #[.slice ia il ic, .slice la ln lc, .slice oa ol oc, .slice a n c], .int .i64 k] v (AnsB v X)) → ((r = true ∧ 0 ≤ k ∧ k < (n : Int) ∧ ∀ v, Below w.heap.size w v → Calls Tryz.prog 11 #[.slice a n c, .int .i64 k] v (AnsB v X)) ∨ ((r = false ∨ k < 0 ∨ (n : Int) ≤ k) ∧ X = ⟨#[]⟩)) →
   Calls Tryz.prog 3 #[.agg #[.slice ia il ic, .slice la ln lc, .slice oa ol oc, .slice a n c], .int .i64 k] w fun e w' => e = .returned (.bool true) ∧ Below w.heap.size w w' := by
  intro T X r hr SP RP SE WT
  have RG := fun v b => RG0 v b r hr
  unfold AnsB at SP RP SE
  have SO : ∀ V, Below (w.alloc (.cells #[.slice ia il ic, .slice la ln lc, .slice oa ol oc, .slice a n c] 26)).heap.size (w.alloc (.cells #[.slice ia il ic, .slice la ln lc, .slice oa ol oc, .slice a n c] 26)) V → ∀ v, Below V.heap.size V v → v.cell? ⟨w.heap.size, 0, none⟩ = some (.slice ia il ic) ∧ v.cell? ⟨w.heap.size, 1, none⟩ = some (.slice la ln lc) ∧ v.cell? ⟨w.heap.size, 2, none⟩ = some (.slice oa ol oc) ∧ v.cell? ⟨w.heap.size, 3, none⟩ = some (.slice a n c) := fun V hV v hv => CB.out v (below_more hV hv)
  have SOH : Hid _ := SO
  clear RG0 FW0 h he B1 bV PR hS h8 h9 h10 hall hic hoc SO hr
  rcases WT with ⟨rfl, k0, k1, NC⟩ | ⟨hq, rfl⟩
  ·unfold AnsB at NC
   go_enter Tryz.func3, Tryz.ntmps3
   go_wp2_with (first
    | (go_at_call 8; (with_reducible refine Calls.mono AW ?_); rintro e w1 ⟨rfl, d1⟩; obtain ⟨x0, x1, x2, x3⟩ := CB.out w1 d1; have b1 := below_more HV.out d1)
    | (go_at_call 9; (with_reducible refine Calls.mono (FW _ b1) ?_); rintro e w2 ⟨rfl, d2⟩; have e2 := below_more d1 d2; obtain ⟨u0, u1, u2, u3⟩ := CB.out w2 e2; have b2 := below_more b1 d2)
    | (go_at_call 10; (with_reducible refine Calls.mono (RG _ b2) ?_); rintro e w3 ⟨rfl, d3⟩; have e3 := below_more e2 d3; obtain ⟨y0, y1, y2, y3⟩ := CB.out w3 e3; have b3 := below_more b2 d3)
    | (go_at_call 11; (with_reducible refine Calls.mono (NC _ b3) ?_); rintro e w4 ⟨rfl, d4⟩; have e4 := below_more e3 d4; obtain ⟨z0, z1, z2, z3⟩ := CB.out w4 e4; have b4 := below_more b3 d4))
   have HB : Hid (Below w.heap.size w w4) := b4
   have SV := SOH.out w4 e4
   have bs : Below w4.heap.size w4 w4.drew := (Below.refl _ _).drew
   go_region_held3 (fun v => v.cell? ⟨w.heap.size, 0, none⟩ = some (.slice ia il ic) ∧ v.cell? ⟨w.heap.size, 1, none⟩ = some (.slice la ln lc) ∧ v.cell? ⟨w.heap.size, 2, none⟩ = some (.slice oa ol oc) ∧ v.cell? ⟨w.heap.size, 3, none⟩ = some (.slice a n c)) (exact SV _ bs) (first
    | (go_at_call 12; (with_reducible refine Calls.mono (SP _ (below_more HB.out bs)) ?_); rintro e w5 ⟨rfl, d5⟩; replace bs := below_more bs d5)
    | (go_at_call 13; (with_reducible refine Calls.mono (RP _ (below_more HB.out bs)) ?_); rintro e w6 ⟨rfl, d6⟩; replace bs := below_more bs d6)
    | (go_at_call 14; (with_reducible refine Calls.mono (SE _ (below_more HB.out bs)) ?_); rintro e w7 ⟨rfl, d7⟩; replace bs := below_more bs d7))
   all_goals go_wp2
   all_goals go_ret
   all_goals exact ⟨by simp, below_more HB.out bs⟩
  ·cases r with
   | false =>
    go_enter Tryz.func3, Tryz.ntmps3
    go_wp2_with (first
     | (go_at_call 8; (with_reducible refine Calls.mono AW ?_); rintro e w1 ⟨rfl, d1⟩; obtain ⟨x0, x1, x2, x3⟩ := CB.out w1 d1; have b1 := below_more HV.out d1)
     | (go_at_call 9; (with_reducible refine Calls.mono (FW _ b1) ?_); rintro e w2 ⟨rfl, d2⟩; have e2 := below_more d1 d2; obtain ⟨u0, u1, u2, u3⟩ := CB.out w2 e2; have b2 := below_more b1 d2)
     | (go_at_call 10; (with_reducible refine Calls.mono (RG _ b2) ?_); rintro e w3 ⟨rfl, d3⟩; have e3 := below_more e2 d3; obtain ⟨y0, y1, y2, y3⟩ := CB.out w3 e3; have b3 := below_more b2 d3))
    have HB : Hid (Below w.heap.size w w3) := b3
    have SV := SOH.out w3 e3
    have bs : Below w3.heap.size w3 w3.drew := (Below.refl _ _).drew
    go_region_held3 (fun v => v.cell? ⟨w.heap.size, 0, none⟩ = some (.slice ia il ic) ∧ v.cell? ⟨w.heap.size, 1, none⟩ = some (.slice la ln lc) ∧ v.cell? ⟨w.heap.size, 2, none⟩ = some (.slice oa ol oc) ∧ v.cell? ⟨w.heap.size, 3, none⟩ = some (.slice a n c)) (exact SV _ bs) (first
     | (go_at_call 12; (with_reducible refine Calls.mono (SP _ (below_more HB.out bs)) ?_); rintro e w5 ⟨rfl, d5⟩; replace bs := below_more bs d5)
     | (go_at_call 13; (with_reducible refine Calls.mono (RP _ (below_more HB.out bs)) ?_); rintro e w6 ⟨rfl, d6⟩; replace bs := below_more bs d6)
     | (go_at_call 14; (with_reducible refine Calls.mono (SE _ (below_more HB.out bs)) ?_); rintro e w7 ⟨rfl, d7⟩; replace bs := below_more bs d7))
    all_goals go_wp2
    all_goals go_ret
    all_goals exact ⟨by simp, below_more HB.out bs⟩
   | true =>
    rcases hq with hq | hq | hq
    ·exact absurd hq (by simp)
    ·have k0 : ¬ 0 ≤ k := by omega
     go_enter Tryz.func3, Tryz.ntmps3
     go_wp2_with (first
      | (go_at_call 8; (with_reducible refine Calls.mono AW ?_); rintro e w1 ⟨rfl, d1⟩; obtain ⟨x0, x1, x2, x3⟩ := CB.out w1 d1; have b1 := below_more HV.out d1)
      | (go_at_call 9; (with_reducible refine Calls.mono (FW _ b1) ?_); rintro e w2 ⟨rfl, d2⟩; have e2 := below_more d1 d2; obtain ⟨u0, u1, u2, u3⟩ := CB.out w2 e2; have b2 := below_more b1 d2)
      | (go_at_call 10; (with_reducible refine Calls.mono (RG _ b2) ?_); rintro e w3 ⟨rfl, d3⟩; have e3 := below_more e2 d3; obtain ⟨y0, y1, y2, y3⟩ := CB.out w3 e3; have b3 := below_more b2 d3))
     have HB : Hid (Below w.heap.size w w3) := b3
     have SV := SOH.out w3 e3
     have bs : Below w3.heap.size w3 w3.drew := (Below.refl _ _).drew
     go_region_held3 (fun v => v.cell? ⟨w.heap.size, 0, none⟩ = some (.slice ia il ic) ∧ v.cell? ⟨w.heap.size, 1, none⟩ = some (.slice la ln lc) ∧ v.cell? ⟨w.heap.size, 2, none⟩ = some (.slice oa ol oc) ∧ v.cell? ⟨w.heap.size, 3, none⟩ = some (.slice a n c)) (exact SV _ bs) (first
      | (go_at_call 12; (with_reducible refine Calls.mono (SP _ (below_more HB.out bs)) ?_); rintro e w5 ⟨rfl, d5⟩; replace bs := below_more bs d5)
      | (go_at_call 13; (with_reducible refine Calls.mono (RP _ (below_more HB.out bs)) ?_); rintro e w6 ⟨rfl, d6⟩; replace bs := below_more bs d6)
      | (go_at_call 14; (with_reducible refine Calls.mono (SE _ (below_more HB.out bs)) ?_); rintro e w7 ⟨rfl, d7⟩; replace bs := below_more bs d7))
     all_goals go_wp2
     all_goals go_ret
     all_goals exact ⟨by simp, below_more HB.out bs⟩
    ·have k1 : ¬ k < (n : Int) := by omega
     have k0 : 0 ≤ k := by omega
     go_enter Tryz.func3, Tryz.ntmps3
     go_wp2_with (first
      | (go_at_call 8; (with_reducible refine Calls.mono AW ?_); rintro e w1 ⟨rfl, d1⟩; obtain ⟨x0, x1, x2, x3⟩ := CB.out w1 d1; have b1 := below_more HV.out d1)
      | (go_at_call 9; (with_reducible refine Calls.mono (FW _ b1) ?_); rintro e w2 ⟨rfl, d2⟩; have e2 := below_more d1 d2; obtain ⟨u0, u1, u2, u3⟩ := CB.out w2 e2; have b2 := below_more b1 d2)
      | (go_at_call 10; (with_reducible refine Calls.mono (RG _ b2) ?_); rintro e w3 ⟨rfl, d3⟩; have e3 := below_more e2 d3; obtain ⟨y0, y1, y2, y3⟩ := CB.out w3 e3; have b3 := below_more b2 d3))
     have HB : Hid (Below w.heap.size w w3) := b3
     have SV := SOH.out w3 e3
     have bs : Below w3.heap.size w3 w3.drew := (Below.refl _ _).drew
     go_region_held3 (fun v => v.cell? ⟨w.heap.size, 0, none⟩ = some (.slice ia il ic) ∧ v.cell? ⟨w.heap.size, 1, none⟩ = some (.slice la ln lc) ∧ v.cell? ⟨w.heap.size, 2, none⟩ = some (.slice oa ol oc) ∧ v.cell? ⟨w.heap.size, 3, none⟩ = some (.slice a n c)) (exact SV _ bs) (first
      | (go_at_call 12; (with_reducible refine Calls.mono (SP _ (below_more HB.out bs)) ?_); rintro e w5 ⟨rfl, d5⟩; replace bs := below_more bs d5)
      | (go_at_call 13; (with_reducible refine Calls.mono (RP _ (below_more HB.out bs)) ?_); rintro e w6 ⟨rfl, d6⟩; replace bs := below_more bs d6)
      | (go_at_call 14; (with_reducible refine Calls.mono (SE _ (below_more HB.out bs)) ?_); rintro e w7 ⟨rfl, d7⟩; replace bs := below_more bs d7))
     all_goals go_wp2
     all_goals go_ret
     all_goals exact ⟨by simp, below_more HB.out bs⟩
 cases hr : rgtB ins outs ls (ms.map (·.1)) with
 | false =>
  refine KEY ⟨#[]⟩ ⟨#[]⟩ false hr (fun v b => show_print_no (PR.below b) hr) (fun v b => ref_sprint_no (PR.below b) hS hr) (fun v b => ?_) (.inr ⟨.inl rfl, rfl⟩)
  rcases Int.lt_or_le k 0 with q | q
  ·exact show_Expr_low k q
  ·rcases Int.lt_or_le k n with q2 | q2
   ·exact show_Expr_no (PR.below b) k q q2 hr
   ·exact show_Expr_high k q2
 | true =>
  have SP := fun (v : World) (b : Below w.heap.size w v) => show_print (lc := lc) (PR.below b) hic hoc (he.2.below b) hr
  have RP := fun (v : World) (b : Below w.heap.size w v) => ref_sprint (ic := ic) (lc := lc) (oc := oc) (PR.below b) hS hr
  rcases Int.lt_or_le k 0 with q | q
  ·exact KEY _ ⟨#[]⟩ true hr SP RP (fun v b => show_Expr_low k q) (.inr ⟨.inr (.inl q), rfl⟩)
  ·rcases Int.lt_or_le k n with q2 | q2
   ·obtain ⟨i, rfl⟩ : ∃ i : Nat, k = (i : Int) := ⟨k.toNat, by omega⟩
    have hi : i < n := by omega
    obtain ⟨-, -, -, hl, -⟩ := rgt_parts hr
    obtain ⟨c', s⟩ := hl.seg i (Nat.zero_le _) (by rw [List.length_map, List.length_map, PR.hall.1]; exact hi)
    have FM := PR.fill hr
    exact KEY _ (nodeX ((ms.map (·.1)).map Nw.nd) i) true hr SP RP (fun v b => show_Expr (ic := ic) (lc := lc) (oc := oc) (PR.below b) i i rfl hi (he.2.below b) hr) (.inl ⟨rfl, q, q2, fun v b => ref_node FM s v b⟩)
   ·exact KEY _ ⟨#[]⟩ true hr SP RP (fun v b => show_Expr_high k q2) (.inr ⟨.inr (.inr q2), rfl⟩)
end
section
open Go.RowKit
theorem law_ShowTells (ia : Option Addr) (il ic : Nat) (la : Option Addr) (ln lc : Nat) (oa : Option Addr) (ol oc : Nat) (a : Option Addr) (n c : Nat) (ins outs : List ByteArray) (ls : List (ByteArray × Int)) (ms : List Mn) (k : Int) (w : World) (h : PgC w ia la oa a il ln ol n c ins outs ls ms) (hic : il ≤ ic) (hoc : ol ≤ oc) (_hk : (Lit.int .i64 k).wf = true) (he : LibV w) :
  Calls Tryz.prog 3 #[.agg #[.slice ia il ic, .slice la ln lc, .slice oa ol oc, .slice a n c], .int .i64 k] w fun e w' => e = .returned (.bool true) ∧ Below w.heap.size w w' := walk_ShowTells k w h hic hoc he
end
end Go.Proofs.YtaeladkcmpdkhaaGreatDoor
