/-
  Texts of mine in build order. No conditions of their own.
-/
import Derived.Test.YtaeladkcmpdkhaaGreatDoorPack28
set_option maxHeartbeats 8000000
namespace Go.Proofs.YtaeladkcmpdkhaaGreatDoor
section
open Go.RowKit Go.Lib
theorem show_print_no {w : World} {ia la oa a : Option Addr} {il ic ln lc ol oc n c : Nat} {ins outs : List ByteArray} {ls : List (ByteArray × Int)} {ms : List Mn} (h : PgR w ia la oa a il ln ol n c ins outs ls ms) (hr : rgtB ins outs ls (ms.map (·.1)) = false) :
  Calls Tryz.prog 12 #[.agg #[.slice ia il ic, .slice la ln lc, .slice oa ol oc, .slice a n c]] w (AnsB w ⟨#[]⟩) := by
 obtain ⟨B1, bV, -⟩ := boxes1 w #[.slice ia il ic, .slice la ln lc, .slice oa ol oc, .slice a n c] 26
 have RG := tree_right (ic := ic) (lc := lc) (oc := oc) (h.below bV) false hr
 unfold AnsB
 have z0 := (B1.cell 0).1
 have z1 := (B1.cell 1).1
 have z2 := (B1.cell 2).1
 have z3 := (B1.cell 3).1
 clear h hr
 go_enter Tryz.func12, Tryz.ntmps12
 go_wp2_with (go_at_call 15; (with_reducible refine Calls.mono RG ?_); rintro e w1 ⟨rfl, d1⟩)
 go_ret
 exact ⟨rfl, below_more bV d1⟩
end
end Go.Proofs.YtaeladkcmpdkhaaGreatDoor
