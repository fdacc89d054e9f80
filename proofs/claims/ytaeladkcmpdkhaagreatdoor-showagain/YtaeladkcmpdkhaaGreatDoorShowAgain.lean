/-
  What is parsed of a text of up to three hundred bytes, printed, and parsed is the same program, and printed again it is the same text. Conditions: the variables of the library stand as the text of the program lays them (the card ties them).
-/
import Derived.Test.YtaeladkcmpdkhaaGreatDoorRows
import Derived.Test.YtaeladkcmpdkhaaGreatDoorTie
import Derived.Test.YtaeladkcmpdkhaaGreatDoorCards
import Derived.Lay
import Derived.SevenTiedAt
import Derived.Test.YtaeladkcmpdkhaaGreatDoorPack1
import Derived.Test.YtaeladkcmpdkhaaGreatDoorPack2
import Derived.Test.YtaeladkcmpdkhaaGreatDoorPack3
import Derived.Test.YtaeladkcmpdkhaaGreatDoorPack4
import Derived.Test.YtaeladkcmpdkhaaGreatDoorPack5
import Derived.Test.YtaeladkcmpdkhaaGreatDoorPack6
import Derived.Test.YtaeladkcmpdkhaaGreatDoorPack7
import Derived.Test.YtaeladkcmpdkhaaGreatDoorPack8
import Derived.Test.YtaeladkcmpdkhaaGreatDoorPack9
import Derived.Test.YtaeladkcmpdkhaaGreatDoorPack10
import Derived.Test.YtaeladkcmpdkhaaGreatDoorPack11
import Derived.Test.YtaeladkcmpdkhaaGreatDoorPack12
import Derived.Test.YtaeladkcmpdkhaaGreatDoorPack13
import Derived.Test.YtaeladkcmpdkhaaGreatDoorPack14
import Derived.Test.YtaeladkcmpdkhaaGreatDoorPack15
import Derived.Test.YtaeladkcmpdkhaaGreatDoorPack16
import Derived.Test.YtaeladkcmpdkhaaGreatDoorPack17
import Derived.Test.YtaeladkcmpdkhaaGreatDoorPack18
import Derived.Test.YtaeladkcmpdkhaaGreatDoorPack19
import Derived.Test.YtaeladkcmpdkhaaGreatDoorPack20
import Derived.Test.YtaeladkcmpdkhaaGreatDoorPack21
import Derived.Test.YtaeladkcmpdkhaaGreatDoorPack22
import Derived.Test.YtaeladkcmpdkhaaGreatDoorPack23
import Derived.Test.YtaeladkcmpdkhaaGreatDoorPack24
import Derived.Test.YtaeladkcmpdkhaaGreatDoorPack25
import Derived.Test.YtaeladkcmpdkhaaGreatDoorPack26
import Derived.Test.YtaeladkcmpdkhaaGreatDoorPack27
import Derived.Test.YtaeladkcmpdkhaaGreatDoorPack28
import Derived.Test.YtaeladkcmpdkhaaGreatDoorPack29
import Derived.Test.YtaeladkcmpdkhaaGreatDoorPack32
import Derived.Test.YtaeladkcmpdkhaaGreatDoorPack33
import Derived.Test.YtaeladkcmpdkhaaGreatDoorPack34
import Derived.Test.YtaeladkcmpdkhaaGreatDoorPack35
import Derived.Test.YtaeladkcmpdkhaaGreatDoorPack36
import Derived.Test.YtaeladkcmpdkhaaGreatDoorPack37
import Derived.Test.YtaeladkcmpdkhaaGreatDoorPack38
import Derived.Test.YtaeladkcmpdkhaaGreatDoorPack51
import Derived.WalkKit
import Derived.ProofKit
import Derived.OpenShut
import Derived.ShutString
import Derived.ChangeOld
import Derived.Below
namespace Go.Proofs.YtaeladkcmpdkhaaGreatDoor.showAgain
open Go.ChangeShapes Go.WideShapes Go.ChangeAt Go.RowKit
open Go.ChangeMaps (open_string shut_string)
set_option linter.unusedVariables false

theorem own : ownKnob Tryz.prog.godebug = none := by kernel_rfl
theorem laidOut : laidOutB Tryz.prog = true := by kernel_rfl

theorem walk (a0 : ByteArray) (w : World) (w0 : a0.size ≤ maxLen) (he : LibV w) :
    Calls Tryz.prog 5 #[.string a0] w fun e w' => e = .returned (.bool true) ∧ Below w.heap.size w w' := by
  exact law_ShowAgain a0 w w0 he

theorem laid_plain {W : World} (h : laidMetH Tryz.prog Rows.showAgainRow.laid W) : LibV W := by
  rw [MakeChecks.laidMetH_plain _ _ _ (by kernel_rfl)] at h
  exact ⟨errv_laid h.tail.tail.tail.tail (by kernel_rfl) (by kernel_rfl) (by kernel_rfl) (by kernel_rfl), powv_laid h.tail.tail (by kernel_rfl) (by kernel_rfl)⟩

set_option maxRecDepth 100000 in
theorem lifted (os : Os) (started : os.Started) (H : Type) (enc : TypeId × Value → H) :
    ReturnsInHanded {} Tryz.checked os 5 .any (fun w args => (Rows.showAgainSpec.pre enc Tryz.prog Tryz.f5 [] false w args ∧ laidMetH Tryz.prog Rows.showAgainRow.laid w) ∧ sizedMet enc Tryz.prog Tryz.f5 (OpenSpec.ofChange Rows.showAgainSpec) false w args) (Rows.showAgainSpec.post enc Tryz.prog Tryz.f5 false true false false) := by
  refine returnsInHanded_of_change_and (C := Tryz.checked) (X := fun w _ => laidMetH Tryz.prog Rows.showAgainRow.laid w) (fun _ _ _ hh h => h.of_heap hh) own started (by kernel_rfl) Tryz.func5
    (ChangeSpec.witness_shaped (enc := enc) (C := Tryz.checked) (os := os) (X := fun w _ => laidMetH Tryz.prog Rows.showAgainRow.laid w) false (World.laidAll Tryz.prog os Rows.showAgainRow.laid) #[.string ByteArray.empty] 8 (World.laidAll_os _ _ _)
      (World.shaped_of_ZipB (by kernel_rfl) (by kernel_rfl)) (by kernel_rfl) (by kernel_rfl) (by kernel_rfl)
      (by rw [MakeChecks.laidMetH_plain _ _ _ (by kernel_rfl)]; exact laidMet_laidAll _ (by kernel_rfl) (by kernel_rfl))) ?_
  intro W base args ds gs before hval0 hW _ _ hX _
  have hval : ∀ (j : Nat) t v, Tryz.f5.params[j]? = some t → args[j]? = some v → Value.okWide Tryz.prog W .any base t v := hval0
  have hW' := hW
  obtain ⟨p, q, hA0, hV, rfl, hfz, hnd⟩ := hW
  have hA : DataW.TrodAll enc Tryz.prog W 0 (fun _ => true) true Tryz.f5.params.toList args.toList ds p := hA0
  rw [Tryz.params5] at hA hval
  obtain ⟨v0, vs0, d0, ds0, p0, q0, hargs, rfl, rfl, h0, r0⟩ := trodAll_cons hA
  obtain ⟨rfl, rfl, rfl⟩ := trodAll_nil r0
  obtain rfl : args = #[v0] := by cases args; simp_all
  obtain ⟨rfl, rfl⟩ := trodVars_none hV
  obtain ⟨a0, rfl, rfl, rfl, w0⟩ := open_string Tryz.underlying9 (hval 0 9 v0 rfl rfl) h0
  clear hA0 hval0
  refine (walk a0 W w0 (laid_plain hX)).mono fun e W' ⟨he, bel⟩ => ?_
  subst he
  exact ⟨_, rfl, _, _, _, [], _, [], hW', trodAll_mk1 (shut_bool Tryz.underlying4 _), (trodAll_cons_mk (shut_string Tryz.underlying9 w0) trodAll_mk0), rfl, bel.frame _, fun h => by cases h⟩

theorem over : Rows.showAgainRow.holds Tryz.pinned (OpenSpec.ofChange Rows.showAgainSpec) :=
  OpenClaim.holds_of_wide 5 Tryz.f5 rfl rfl rfl rfl rfl rfl rfl ⟨rfl, rfl, rfl, rfl, rfl⟩ rfl rfl rfl rfl rfl (by kernel_rfl) Tryz.func5 (by kernel_rfl)
    (of_decide_eq_true (by kernel_rfl)) (by unfold Func.isWrapper; first | (rw [if_pos (by decide +kernel)]; kernel_rfl) | (rw [if_neg (by decide +kernel)]; exact ⟨rfl, rfl⟩))
    (fun os started H enc _ => lifted os started H enc)

theorem proved : Rows.ShowAgainSaid := over
end Go.Proofs.YtaeladkcmpdkhaaGreatDoor.showAgain
namespace Go.Proofs.YtaeladkcmpdkhaaGreatDoor
theorem showAgain_holds : Rows.ShowAgainCardSaid :=
  Claim7.holds_tied_plain_at .later [] _ _ _ _ showAgain.proved (fun _ h => by cases h) (by kernel_rfl) (fun _ h => by cases h) showAgain_row_tie rfl ⟨rfl, rfl⟩ (by kernel_rfl) rfl
    (fun f fn hf hfn => by
      obtain rfl : f = 5 := Option.some.inj ((show Tryz.prog.funcNamed Rows.showAgainRow.func = some 5 by kernel_rfl).symm.trans hf) |>.symm
      obtain rfl : fn = Tryz.f5 := (Option.some.inj (Tryz.func5.symm.trans hfn)).symm
      exact ⟨by kernel_rfl, fun j t ht => by
        have hall : (Tryz.f5.params.toList.all fun u => !Tryz.prog.wantsStandIn u) = true := by kernel_rfl
        exact (show Tryz.prog.wantsStandIn t = false by simpa using List.all_eq_true.1 hall t (Array.mem_toList_iff.2 (Array.mem_of_getElem? ht)))⟩)
    (by kernel_rfl)
end Go.Proofs.YtaeladkcmpdkhaaGreatDoor
#print axioms Go.Proofs.YtaeladkcmpdkhaaGreatDoor.showAgain_holds
