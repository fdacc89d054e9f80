/-
  Whether any program of up to forty nodes, with any fields, numbers of up to six words and up to eight names of each kind, is right, and the heights of its nodes if it is, are as the document says, and the example of the chapter holds; the statement TreeRights is true for every input.
-/
import Derived.Test.YtbcfplaalepnbaaGreatDoorRows
import Derived.Test.YtbcfplaalepnbaaGreatDoorTie
import Derived.Test.YtbcfplaalepnbaaGreatDoorCards
import Derived.Lay
import Derived.SevenTiedAt
import Derived.Test.YtbcfplaalepnbaaGreatDoorPack1
import Derived.Test.YtbcfplaalepnbaaGreatDoorPack2
import Derived.Test.YtbcfplaalepnbaaGreatDoorPack3
import Derived.Test.YtbcfplaalepnbaaGreatDoorPack4
import Derived.Test.YtbcfplaalepnbaaGreatDoorPack5
import Derived.Test.YtbcfplaalepnbaaGreatDoorPack6
import Derived.Test.YtbcfplaalepnbaaGreatDoorPack7
import Derived.Test.YtbcfplaalepnbaaGreatDoorPack8
import Derived.Test.YtbcfplaalepnbaaGreatDoorPack9
import Derived.Test.YtbcfplaalepnbaaGreatDoorPackTreeRights1
import Derived.Test.YtbcfplaalepnbaaGreatDoorPackTreeRights2
import Derived.WalkKit
import Derived.ProofKit
import Derived.OpenShut
import Derived.ShutString
import Derived.ChangeOld
import Derived.Below
namespace Go.Proofs.YtbcfplaalepnbaaGreatDoor.treeRights
open Go.ChangeShapes Go.WideShapes Go.ChangeAt Go.RowKit
open Go.ChangeMaps (open_string shut_string)
set_option linter.unusedVariables false

theorem own : ownKnob Tryz.prog.godebug = none := by kernel_rfl
theorem laidOut : laidOutB Tryz.prog = true := by kernel_rfl

theorem walk (ia0 : Option Addr) (il0 ic0 : Nat) (la0 : Option Addr) (ln0 lc0 : Nat) (oa0 : Option Addr) (ol0 oc0 : Nat) (aa0 : Option Addr) (n0 c0 : Nat) (ins0 outs0 : List ByteArray) (ls0 : List (ByteArray × Int)) (ms0 : List Mn) (w : World) (w0 : PgC w ia0 la0 oa0 aa0 il0 ln0 ol0 n0 c0 ins0 outs0 ls0 ms0) (he : ErrV w) :
    Calls Tryz.prog 4 #[.agg #[.slice ia0 il0 ic0, .slice la0 ln0 lc0, .slice oa0 ol0 oc0, .slice aa0 n0 c0]] w fun e w' => e = .returned (.bool true) ∧ Below w.heap.size w w' := by
  exact law_TreeRights ia0 il0 ic0 la0 ln0 lc0 oa0 ol0 oc0 aa0 n0 c0 ins0 outs0 ls0 ms0 w w0 he

theorem laid_plain {W : World} (h : laidMetH Tryz.prog Rows.treeRightsRow.laid W) : ErrV W := by
  rw [MakeChecks.laidMetH_plain _ _ _ (by kernel_rfl)] at h
  exact errv_laid h.tail.tail.tail.tail (by kernel_rfl) (by kernel_rfl) (by kernel_rfl) (by kernel_rfl)

set_option maxRecDepth 100000 in
theorem lifted (os : Os) (started : os.Started) (H : Type) (enc : TypeId × Value → H) :
    ReturnsInHanded {} Tryz.checked os 4 .any (fun w args => (Rows.treeRightsSpec.pre enc Tryz.prog Tryz.f4 [] false w args ∧ laidMetH Tryz.prog Rows.treeRightsRow.laid w) ∧ sizedMet enc Tryz.prog Tryz.f4 (OpenSpec.ofChange Rows.treeRightsSpec) false w args) (Rows.treeRightsSpec.post enc Tryz.prog Tryz.f4 false true false false) := by
  refine returnsInHanded_of_change_and (C := Tryz.checked) (X := fun w _ => laidMetH Tryz.prog Rows.treeRightsRow.laid w) (fun _ _ _ hh h => h.of_heap hh) own started (by kernel_rfl) Tryz.func4
    (ChangeSpec.witness_shaped (enc := enc) (C := Tryz.checked) (os := os) (X := fun w _ => laidMetH Tryz.prog Rows.treeRightsRow.laid w) false (World.laidAll Tryz.prog os Rows.treeRightsRow.laid) #[.agg #[.slice none 0 0, .slice none 0 0, .slice none 0 0, .slice none 0 0]] 8 (World.laidAll_os _ _ _)
      (World.shaped_of_ZipB (by kernel_rfl) (by kernel_rfl)) (by kernel_rfl) (by kernel_rfl) (by kernel_rfl)
      (by rw [MakeChecks.laidMetH_plain _ _ _ (by kernel_rfl)]; exact laidMet_laidAll _ (by kernel_rfl) (by kernel_rfl))) ?_
  intro W base args ds gs before hval0 hW _ _ hX _
  have hval : ∀ (j : Nat) t v, Tryz.f4.params[j]? = some t → args[j]? = some v → Value.okWide Tryz.prog W .any base t v := hval0
  have hW' := hW
  obtain ⟨p, q, hA0, hV, rfl, hfz, hnd⟩ := hW
  have hA : DataW.TrodAll enc Tryz.prog W 0 (fun _ => true) true Tryz.f4.params.toList args.toList ds p := hA0
  rw [Tryz.params4] at hA hval
  obtain ⟨v0, vs0, d0, ds0, p0, q0, hargs, rfl, rfl, h0, r0⟩ := trodAll_cons hA
  obtain ⟨rfl, rfl, rfl⟩ := trodAll_nil r0
  obtain rfl : args = #[v0] := by cases args; simp_all
  obtain ⟨rfl, rfl⟩ := trodVars_none hV
  have k0 := h0
  have lt0 : ∀ x ∈ p0, x.block < W.heap.size := by obtain ⟨m, hm⟩ := k0; exact DataW.trod_lt m _ _ _ hm
  obtain ⟨ia0, il0, ic0, la0, ln0, lc0, oa0, ol0, oc0, aa0, n0, c0, ins0, outs0, ls0, ms0, rfl, w0⟩ := open_Prog (hval 0 27 v0 rfl rfl) h0
  clear hA0 hval0
  refine (walk ia0 il0 ic0 la0 ln0 lc0 oa0 ol0 oc0 aa0 n0 c0 ins0 outs0 ls0 ms0 W w0 (laid_plain hX)).mono fun e W' ⟨he, bel⟩ => ?_
  subst he
  exact ⟨_, rfl, _, _, _, [], _, [], hW', trodAll_mk1 (shut_bool Tryz.underlying4 _), (trodAll_cons_mk (Below.trod laidOut (by kernel_rfl) (of_decide_eq_true (by kernel_rfl)) k0 bel lt0) trodAll_mk0), rfl, bel.frame _, fun h => by cases h⟩

theorem over : Rows.treeRightsRow.holds Tryz.pinned (OpenSpec.ofChange Rows.treeRightsSpec) :=
  OpenClaim.holds_of_wide 4 Tryz.f4 rfl rfl rfl rfl rfl rfl rfl ⟨rfl, rfl, rfl, rfl, rfl⟩ rfl rfl rfl rfl rfl (by kernel_rfl) Tryz.func4 (by kernel_rfl)
    (of_decide_eq_true (by kernel_rfl)) (by unfold Func.isWrapper; first | (rw [if_pos (by decide +kernel)]; kernel_rfl) | (rw [if_neg (by decide +kernel)]; exact ⟨rfl, rfl⟩))
    (fun os started H enc _ => lifted os started H enc)

theorem proved : Rows.TreeRightsSaid := over
end Go.Proofs.YtbcfplaalepnbaaGreatDoor.treeRights
namespace Go.Proofs.YtbcfplaalepnbaaGreatDoor
theorem treeRights_holds : Rows.TreeRightsCardSaid :=
  Claim7.holds_tied_plain_at .later [] _ _ _ _ treeRights.proved (fun _ h => by cases h) (by kernel_rfl) (fun _ h => by cases h) treeRights_row_tie rfl ⟨rfl, rfl⟩ (by kernel_rfl) rfl
    (fun f fn hf hfn => by
      obtain rfl : f = 4 := Option.some.inj ((show Tryz.prog.funcNamed Rows.treeRightsRow.func = some 4 by kernel_rfl).symm.trans hf) |>.symm
      obtain rfl : fn = Tryz.f4 := (Option.some.inj (Tryz.func4.symm.trans hfn)).symm
      exact ⟨by kernel_rfl, fun j t ht => by
        have hall : (Tryz.f4.params.toList.all fun u => !Tryz.prog.wantsStandIn u) = true := by kernel_rfl
        exact (show Tryz.prog.wantsStandIn t = false by simpa using List.all_eq_true.1 hall t (Array.mem_toList_iff.2 (Array.mem_of_getElem? ht)))⟩)
    (by kernel_rfl)
end Go.Proofs.YtbcfplaalepnbaaGreatDoor
#print axioms Go.Proofs.YtbcfplaalepnbaaGreatDoor.treeRights_holds
