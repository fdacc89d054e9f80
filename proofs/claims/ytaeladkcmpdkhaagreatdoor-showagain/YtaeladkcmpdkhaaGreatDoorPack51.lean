/-
  Texts of mine in build order. No conditions of their own.
-/
import Derived.Test.YtaeladkcmpdkhaaGreatDoorPack36
import Derived.Test.YtaeladkcmpdkhaaGreatDoorPack37
import Derived.Test.YtaeladkcmpdkhaaGreatDoorPack38
set_option maxHeartbeats 32000000
namespace Go.Proofs.YtaeladkcmpdkhaaGreatDoor
section
open Go.RowKit Go.Lib
theorem walk_ShowAgain (s : ByteArray) (w : World) (_hs : s.size ≤ maxLen) (he : LibV w) :
  Calls Tryz.prog 5 #[.string s] w fun e w' => e = .returned (.bool true) ∧ Below w.heap.size w w' := by
 have AW := show_awake w he
 by_cases h2 : 300 < s.size
 ·have k2 : 300 < (s.size : Int) := by omega
  clear _hs he
  go_enter Tryz.func5, Tryz.ntmps5
  go_wp2_with (go_at_call 8; (with_reducible refine Calls.mono AW ?_); rintro e w1 ⟨rfl, b1⟩)
  go_ret
  exact ⟨rfl, b1⟩
 have k2 : ¬ 300 < (s.size : Int) := by omega
 obtain ⟨p, ⟨L, C⟩, E, hP⟩ : ∃ p L E, parseI s = (p, L, E) := ⟨_, _, _, rfl⟩
 have c1 := fun v (hv : ErrV v) => parse_rooms s (by omega) hP v hv
 unfold AnsPC at c1
 have HE : Hid (LibV w) := he
 by_cases hE : E = 0
 case neg =>
  obtain rfl := parse_none hP hE
  have e1 : (E != 0) = true := by rw [bne, beq_eq_false_iff_ne.2 hE]; rfl
  have SN := fun (v : World) (ia la oa aa : Option Addr) (ic lc oc ac : Nat) (ms : List Mn) (P : PgR v ia la oa aa noPg.ins.length noPg.lets.length noPg.outs.length noPg.all.length ac noPg.ins noPg.outs noPg.lets ms) (hm : ms.map (·.1) = noPg.all.map rawOf) => show_print_no (ic := ic) (lc := lc) (oc := oc) P (by rw [hm]; rfl)
  unfold AnsB at SN
  rw [show noPg.ins.length = 0 from rfl, show noPg.lets.length = 0 from rfl, show noPg.outs.length = 0 from rfl, show noPg.all.length = 0 from rfl] at c1 SN
  clear h2 _hs hP hE he
  go_enter Tryz.func5, Tryz.ntmps5
  go_wp2_with (first
   | (go_at_call 8; (with_reducible refine Calls.mono AW ?_); rintro e w1 ⟨rfl, b1⟩)
   | (go_at_call 16; (with_reducible refine Calls.mono (c1 _ (HE.out.1.below b1)) ?_); rintro e w2 ⟨ia, ic, la, lc, oa, oc, aa, ac, ms, rfl, P1, m1, -, -, d2⟩; obtain ⟨B1, B2, bV, -⟩ := boxes2 w2 #[.slice ia 0 ic, .slice la 0 lc, .slice oa 0 oc, .slice aa 0 ac] #[.int .i64 L, .int .i64 C] 26 34; have x0 := (B1.cell 0).1; have x1 := (B1.cell 1).1; have x2 := (B1.cell 2).1; have x3 := (B1.cell 3).1)
   | (go_at_call 12; (with_reducible refine Calls.mono (SN _ ia la oa aa ic lc oc ac ms (P1.below bV) m1) ?_); rintro e w3 ⟨rfl, d3⟩))
  go_ret
  exact ⟨by simp, below_more b1 (below_more d2 (below_more bV d3))⟩
 subst hE
 obtain ⟨RG, rfl, rfl⟩ := parse_rgt hP
 have F := parse_fine hP
 obtain ⟨sp, sz⟩ := show_parse RG
 rw [raw_nd] at sp sz
 have c3 := fun v (hv : ErrV v) => parse_rooms (progX p.ins p.outs p.lets p.all) (by omega) sp v hv
 unfold AnsPC at c3
 dsimp only at c3
 have SP : ∀ (v : World) (hv : PowV v) (ia la oa aa : Option Addr) (ic lc oc ac : Nat) (ms : List Mn) (P : PgR v ia la oa aa p.ins.length p.lets.length p.outs.length p.all.length ac p.ins p.outs p.lets ms) (hm : ms.map (·.1) = p.all.map rawOf) (q1 : p.ins.length ≤ ic) (q2 : p.outs.length ≤ oc), Calls Tryz.prog 12 #[.agg #[.slice ia p.ins.length ic, .slice la p.lets.length lc, .slice oa p.outs.length oc, .slice aa p.all.length ac]] v fun e w' => e = .returned (.string (progX p.ins p.outs p.lets p.all)) ∧ Below v.heap.size v w' := fun v hv ia la oa aa ic lc oc ac ms P hm q1 q2 => by
  have q := show_print (lc := lc) P q1 q2 hv (by rw [hm]; exact RG)
  rw [hm, raw_nd] at q
  exact q
 have hn4 := F.few
 have SM := fun (v : World) (ia la oa aa : Option Addr) (ic lc oc ac : Nat) (ms : List Mn) (P : PgR v ia la oa aa p.ins.length p.lets.length p.outs.length p.all.length ac p.ins p.outs p.lets ms) (hm : ms.map (·.1) = p.all.map rawOf) (ja ka ra ba : Option Addr) (jc kc rc bc : Nat) (ns : List Mn) (P' : PgR v ja ka ra ba p.ins.length p.lets.length p.outs.length p.all.length bc p.ins p.outs p.lets ns) (hm' : ns.map (·.1) = p.all.map rawOf) => ref_tsame (ic := ic) (ic' := jc) (lc := lc) (lc' := kc) (oc := oc) (oc' := rc) (c := ac) (c' := bc) P.hins P'.hins P.hlets P'.hlets P.houts P'.houts P.hall P'.hall P.hnodes P'.hnodes (hm.trans hm'.symm) (by omega)
 generalize progX p.ins p.outs p.lets p.all = T at *
 clear h2 _hs hP he RG F sp sz hn4
 go_enter Tryz.func5, Tryz.ntmps5
 go_wp2_with (first
  | (go_at_call 8; (with_reducible refine Calls.mono AW ?_); rintro e w1 ⟨rfl, b1⟩)
  | (go_at_call 16; (with_reducible refine Calls.mono (c1 _ (HE.out.1.below b1)) ?_); rintro e w2 ⟨ia, ic, la, lc, oa, oc, aa, ac, ms, rfl, P1, m1, q1, q2, d2⟩; obtain ⟨B1, B2, bV, -⟩ := boxes2 w2 #[.slice ia p.ins.length ic, .slice la p.lets.length lc, .slice oa p.outs.length oc, .slice aa p.all.length ac] #[.int .i64 0, .int .i64 0] 26 34; have x0 := (B1.cell 0).1; have x1 := (B1.cell 1).1; have x2 := (B1.cell 2).1; have x3 := (B1.cell 3).1; have bb := below_more (below_more b1 d2) bV)
  | (go_at_call 12; (with_reducible refine Calls.mono (SP _ (HE.out.2.below bb) ia la oa aa ic lc oc ac ms (P1.below bV) m1 q1 q2) ?_); rintro e w3 ⟨rfl, d3⟩; have b3 := below_more bb d3)
  | (go_at_call 16; (with_reducible refine Calls.mono (c3 _ (HE.out.1.below b3)) ?_); rintro e w4 ⟨ja, jc, ka, kc, ra, rc, ba, bc, ns, rfl, P4, m4, r1, r2, d4⟩; obtain ⟨G1, G2, bX, -⟩ := boxes2 w4 #[.slice ja p.ins.length jc, .slice ka p.lets.length kc, .slice ra p.outs.length rc, .slice ba p.all.length bc] #[.int .i64 0, .int .i64 0] 26 34; have dd := below_more (below_more d3 d4) bX; have y0 := ((B1.more dd).cell 0).1; have y1 := ((B1.more dd).cell 1).1; have y2 := ((B1.more dd).cell 2).1; have y3 := ((B1.more dd).cell 3).1; have g0 := (G1.cell 0).1; have g1 := (G1.cell 1).1; have g2 := (G1.cell 2).1; have g3 := (G1.cell 3).1; have b4 := below_more bb dd)
  | (go_at_call 17; (with_reducible refine Calls.mono (SM _ ia la oa aa ic lc oc ac ms ((P1.below bV).below dd) m1 ja ka ra ba jc kc rc bc ns (P4.below bX) m4) ?_); rintro e w5 ⟨rfl, d5⟩; have G5 := G1.more d5; have f0 := (G5.cell 0).1; have f1 := (G5.cell 1).1; have f2 := (G5.cell 2).1; have f3 := (G5.cell 3).1; have b5 := below_more b4 d5)
  | (go_at_call 12; (with_reducible refine Calls.mono (SP _ (HE.out.2.below b5) ja ka ra ba jc kc rc bc ns ((P4.below bX).below d5) m4 r1 r2) ?_); rintro e w6 ⟨rfl, d6⟩))
 go_ret
 exact ⟨by simp, below_more b5 d6⟩
end
section
open Go.RowKit
theorem law_ShowAgain (s : ByteArray) (w : World) (hs : s.size ≤ maxLen) (he : LibV w) :
  Calls Tryz.prog 5 #[.string s] w fun e w' => e = .returned (.bool true) ∧ Below w.heap.size w w' := walk_ShowAgain s w hs he
end
end Go.Proofs.YtaeladkcmpdkhaaGreatDoor
