/-
  Texts of mine in build order. No conditions of their own.
-/
import Derived.Test.YtaeladkcmpdkhaaGreatDoorPack38
import Derived.Test.YtaeladkcmpdkhaaGreatDoorPack39
set_option maxHeartbeats 32000000
namespace Go.Proofs.YtaeladkcmpdkhaaGreatDoor
section
open Go.RowKit Go.Lib
theorem walk_ShowBack {ia la oa a : Option Addr} {il ic ln lc ol oc n c : Nat} {ins outs : List ByteArray} {ls : List (ByteArray × Int)} {ms : List Mn} (w : World) (h : PgC w ia la oa a il ln ol n c ins outs ls ms) (hic : il ≤ ic) (hoc : ol ≤ oc) (he : LibV w) :
  Calls Tryz.prog 4 #[.agg #[.slice ia il ic, .slice la ln lc, .slice oa ol oc, .slice a n c]] w fun e w' => e = .returned (.bool true) ∧ Below w.heap.size w w' := by
 obtain ⟨B1, bV, -⟩ := boxes1 w #[.slice ia il ic, .slice la ln lc, .slice oa ol oc, .slice a n c] 26
 have AW := show_awake _ (he.below bV)
 have CB : Hid (∀ v, Below (w.alloc (.cells #[.slice ia il ic, .slice la ln lc, .slice oa ol oc, .slice a n c] 26)).heap.size (w.alloc (.cells #[.slice ia il ic, .slice la ln lc, .slice oa ol oc, .slice a n c] 26)) v → v.cell? ⟨w.heap.size, 0, none⟩ = some (.slice ia il ic) ∧ v.cell? ⟨w.heap.size, 1, none⟩ = some (.slice la ln lc) ∧ v.cell? ⟨w.heap.size, 2, none⟩ = some (.slice oa ol oc) ∧ v.cell? ⟨w.heap.size, 3, none⟩ = some (.slice a n c)) := fun v b => ⟨((B1.more b).cell 0).1, ((B1.more b).cell 1).1, ((B1.more b).cell 2).1, ((B1.more b).cell 3).1⟩
 have HV : Hid (Below w.heap.size w (w.alloc (.cells #[.slice ia il ic, .slice la ln lc, .slice oa ol oc, .slice a n c] 26))) := bV
 have FW0 := fun (v : World) (b : Below w.heap.size w v) (q : Bool) (hq : fewQ 40 n il ln ol (ms.map (·.1)) = q) => ref_tFew (ic := ic) (lc := lc) (oc := oc) (h.below b) 40 (by omega) q hq
 cases hf : fewQ 40 n il ln ol (ms.map (·.1)) with
 | false =>
  have FW := fun v b => FW0 v b false hf
  clear FW0 hf h he B1 bV hic hoc
  go_enter Tryz.func4, Tryz.ntmps4
  go_wp2_with (first
   | (go_at_call 8; (with_reducible refine Calls.mono AW ?_); rintro e w1 ⟨rfl, d1⟩; obtain ⟨x0, x1, x2, x3⟩ := CB.out w1 d1; have b1 := below_more HV.out d1)
   | (go_at_call 9; (with_reducible refine Calls.mono (FW _ b1) ?_); rintro e w2 ⟨rfl, d2⟩))
  go_ret
  exact ⟨rfl, below_more b1 d2⟩
 | true =>
 have FW := fun v b => FW0 v b true hf
 unfold fewQ at hf
 simp only [Bool.and_eq_true, decide_eq_true_eq] at hf
 obtain ⟨⟨⟨⟨hn, h8⟩, h9⟩, h10⟩, hall⟩ := hf
 obtain ⟨PR, hS⟩ := h.few hall
 have TR0 := fun (v : World) (b : Below w.heap.size w v) (q : Bool) (hq : rgtB ins outs ls (ms.map (·.1)) = q) => tree_right (ic := ic) (lc := lc) (oc := oc) (PR.below b) q hq
 cases hr : rgtB ins outs ls (ms.map (·.1)) with
 | false =>
  have TR := fun v b => TR0 v b false hr
  clear TR0 FW0 hr h he B1 bV PR hS hn h8 h9 h10 hall hic hoc
  go_enter Tryz.func4, Tryz.ntmps4
  go_wp2_with (first
   | (go_at_call 8; (with_reducible refine Calls.mono AW ?_); rintro e w1 ⟨rfl, d1⟩; obtain ⟨x0, x1, x2, x3⟩ := CB.out w1 d1; have b1 := below_more HV.out d1)
   | (go_at_call 9; (with_reducible refine Calls.mono (FW _ b1) ?_); rintro e w2 ⟨rfl, d2⟩; have e2 := below_more d1 d2; obtain ⟨u0, u1, u2, u3⟩ := CB.out w2 e2; have b2 := below_more b1 d2)
   | (go_at_call 15; (with_reducible refine Calls.mono (TR _ b2) ?_); rintro e w3 ⟨rfl, d3⟩))
  go_ret
  exact ⟨rfl, below_more b2 d3⟩
 | true =>
  have TR := fun v b => TR0 v b true hr
  have SP := fun (v : World) (b : Below w.heap.size w v) => show_print (lc := lc) (PR.below b) hic hoc (he.2.below b) hr
  obtain ⟨hf, -⟩ := rgt_parts hr
  obtain ⟨sp, sz⟩ := show_parse hr
  have hraw := raw_fills hf
  have PP := fun (v : World) (b : Below w.heap.size w v) => parse_rooms _ (by omega) sp v (he.1.below b)
  unfold AnsPC at PP
  dsimp only at PP
  rw [show ins.length = il from PR.hins.1, show ls.length = ln from PR.hlets.1, show outs.length = ol from PR.houts.1, hraw, show ((ms.map (·.1)).map Nw.nd).length = n by rw [List.length_map, List.length_map]; exact PR.hall.1] at PP
  have hn4 : n ≤ 400 := by omega
  have SM := fun (v : World) (b : Below w.heap.size w v) (ja ka ra ba : Option Addr) (jc kc rc bc : Nat) (ns : List Mn) (P : PgR v ja ka ra ba il ln ol n bc ins outs ls ns) (hm : ns.map (·.1) = ms.map (·.1)) => ref_tsame (ic := ic) (ic' := jc) (lc := lc) (lc' := kc) (oc := oc) (oc' := rc) (c := c) (c' := bc) (PR.hins.below b) P.hins (PR.hlets.below b) P.hlets (PR.houts.below b) P.houts (PR.hall.below b) P.hall (PR.hnodes.below b) P.hnodes hm.symm (by omega)
  generalize progX ins outs ls ((ms.map (·.1)).map Nw.nd) = T at *
  unfold AnsB at SP
  clear TR0 FW0 hr h he B1 bV PR hS hn h8 h9 h10 hall hic hoc sp sz hraw hf hn4
  go_enter Tryz.func4, Tryz.ntmps4
  go_wp2_with (first
   | (go_at_call 8; (with_reducible refine Calls.mono AW ?_); rintro e w1 ⟨rfl, d1⟩; obtain ⟨x0, x1, x2, x3⟩ := CB.out w1 d1; have b1 := below_more HV.out d1)
   | (go_at_call 9; (with_reducible refine Calls.mono (FW _ b1) ?_); rintro e w2 ⟨rfl, d2⟩; have e2 := below_more d1 d2; obtain ⟨u0, u1, u2, u3⟩ := CB.out w2 e2; have b2 := below_more b1 d2)
   | (go_at_call 15; (with_reducible refine Calls.mono (TR _ b2) ?_); rintro e w3 ⟨rfl, d3⟩; have e3 := below_more e2 d3; obtain ⟨y0, y1, y2, y3⟩ := CB.out w3 e3; have b3 := below_more b2 d3)
   | (go_at_call 12; (with_reducible refine Calls.mono (SP _ b3) ?_); rintro e w4 ⟨rfl, d4⟩; have e4 := below_more e3 d4; have b4 := below_more b3 d4)
   | (go_at_call 16; (with_reducible refine Calls.mono (PP _ b4) ?_); rintro e w5 ⟨ja, jc, ka, kc, ra, rc, ba, bc, ns, rfl, P5, hm, -, -, d5⟩; obtain ⟨G1, G2, bX, -⟩ := boxes2 w5 #[.slice ja il jc, .slice ka ln kc, .slice ra ol rc, .slice ba n bc] #[.int .i64 0, .int .i64 0] 26 34; obtain ⟨z0, z1, z2, z3⟩ := CB.out _ (below_more (below_more e4 d5) bX); have b5 := below_more (below_more b4 d5) bX; have g0 := (G1.cell 0).1; have g1 := (G1.cell 1).1; have g2 := (G1.cell 2).1; have g3 := (G1.cell 3).1; have t0 := (G2.cell 0).1; have t1 := (G2.cell 1).1)
   | (go_at_call 17; (with_reducible refine Calls.mono (SM _ b5 ja ka ra ba jc kc rc bc ns (P5.below bX) hm) ?_); rintro e w6 ⟨rfl, d6⟩))
  go_ret
  exact ⟨by simp, below_more b5 d6⟩
end
section
open Go.RowKit
theorem law_ShowBack (ia : Option Addr) (il ic : Nat) (la : Option Addr) (ln lc : Nat) (oa : Option Addr) (ol oc : Nat) (a : Option Addr) (n c : Nat) (ins outs : List ByteArray) (ls : List (ByteArray × Int)) (ms : List Mn) (w : World) (h : PgC w ia la oa a il ln ol n c ins outs ls ms) (hic : il ≤ ic) (hoc : ol ≤ oc) (he : LibV w) :
  Calls Tryz.prog 4 #[.agg #[.slice ia il ic, .slice la ln lc, .slice oa ol oc, .slice a n c]] w fun e w' => e = .returned (.bool true) ∧ Below w.heap.size w w' := walk_ShowBack w h hic hoc he
end
end Go.Proofs.YtaeladkcmpdkhaaGreatDoor
