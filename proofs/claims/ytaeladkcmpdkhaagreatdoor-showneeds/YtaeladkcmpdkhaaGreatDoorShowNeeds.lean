/-
  A node of a right program of up to forty nodes, printed, is parsed in a program of its own; without a pair of its brackets it is parsed as another one, or not at all. Conditions: the variables of the library stand as the text of the program lays them (the card ties them).
-/
import Derived.Test.YtaeladkcmpdkhaaGreatDoorRows
import Derived.Test.YtaeladkcmpdkhaaGreatDoorTie
import Derived.Test.YtaeladkcmpdkhaaGreatDoorCards
import Derived.Lay
import Derived.SevenTiedAt
import Derived.Test.YtaeladkcmpdkhaaGreatDoorPack1
import Derived.Test.YtaeladkcmpdkhaaGreatDoorPack2
import Derived.Test.YtaeladkcmpdkhaaGreatDoorPack3
import Derived.Test.YtaeladkcmpdkhaaGreatDoorPack4
import Derived.Test.YtaeladkcmpdkhaaGreatDoorPack5
import Derived.Test.YtaeladkcmpdkhaaGreatDoorPack6
import Derived.Test.YtaeladkcmpdkhaaGreatDoorPack7
import Derived.Test.YtaeladkcmpdkhaaGreatDoorPack8
import Derived.Test.YtaeladkcmpdkhaaGreatDoorPack9
import Derived.Test.YtaeladkcmpdkhaaGreatDoorPack10
import Derived.Test.YtaeladkcmpdkhaaGreatDoorPack11
import Derived.Test.YtaeladkcmpdkhaaGreatDoorPack12
import Derived.Test.YtaeladkcmpdkhaaGreatDoorPack13
import Derived.Test.YtaeladkcmpdkhaaGreatDoorPack14
import Derived.Test.YtaeladkcmpdkhaaGreatDoorPack15
import Derived.Test.YtaeladkcmpdkhaaGreatDoorPack16
import Derived.Test.YtaeladkcmpdkhaaGreatDoorPack17
import Derived.Test.YtaeladkcmpdkhaaGreatDoorPack18
import Derived.Test.YtaeladkcmpdkhaaGreatDoorPack19
import Derived.Test.YtaeladkcmpdkhaaGreatDoorPack20
import Derived.Test.YtaeladkcmpdkhaaGreatDoorPack21
import Derived.Test.YtaeladkcmpdkhaaGreatDoorPack22
import Derived.Test.YtaeladkcmpdkhaaGreatDoorPack23
import Derived.Test.YtaeladkcmpdkhaaGreatDoorPack24
import Derived.Test.YtaeladkcmpdkhaaGreatDoorPack25
import Derived.Test.YtaeladkcmpdkhaaGreatDoorPack26
import Derived.Test.YtaeladkcmpdkhaaGreatDoorPack27
import Derived.Test.YtaeladkcmpdkhaaGreatDoorPack28
import Derived.Test.YtaeladkcmpdkhaaGreatDoorPack29
import Derived.Test.YtaeladkcmpdkhaaGreatDoorPack30
import Derived.Test.YtaeladkcmpdkhaaGreatDoorPack31
import Derived.Test.YtaeladkcmpdkhaaGreatDoorPack32
import Derived.Test.YtaeladkcmpdkhaaGreatDoorPack33
import Derived.Test.YtaeladkcmpdkhaaGreatDoorPack34
import Derived.Test.YtaeladkcmpdkhaaGreatDoorPack40
import Derived.Test.YtaeladkcmpdkhaaGreatDoorPack53
import Derived.Test.YtaeladkcmpdkhaaGreatDoorPack54
import Derived.Test.YtaeladkcmpdkhaaGreatDoorPack55
import Derived.WalkKit
import Derived.ProofKit
import Derived.OpenShut
import Derived.ShutString
import Derived.ChangeOld
import Derived.Below
namespace Go.Proofs.YtaeladkcmpdkhaaGreatDoor.showNeeds
open Go.ChangeShapes Go.WideShapes Go.ChangeAt Go.RowKit
open Go.ChangeMaps (open_string shut_string)
set_option linter.unusedVariables false

theorem own : ownKnob Tryz.prog.godebug = none := by kernel_rfl
theorem laidOut : laidOutB Tryz.prog = true := by kernel_rfl

theorem walk (ia0 : Option Addr) (il0 ic0 : Nat) (la0 : Option Addr) (ln0 lc0 : Nat) (oa0 : Option Addr) (ol0 oc0 : Nat) (aa0 : Option Addr) (n0 c0 : Nat) (ins0 outs0 : List ByteArray) (ls0 : List (ByteArray × Int)) (ms0 : List Mn) (a1 : Int) (a2 : Int) (w : World) (w0 : PgC w ia0 la0 oa0 aa0 il0 ln0 ol0 n0 c0 ins0 outs0 ls0 ms0) (y0 : il0 ≤ ic0) (z0 : ol0 ≤ oc0) (w1 : (Lit.int .u8 a1).wf = true) (w2 : (Lit.int .u8 a2).wf = true) (he : LibV w) :
    Calls Tryz.prog 7 #[.agg #[.slice ia0 il0 ic0, .slice la0 ln0 lc0, .slice oa0 ol0 oc0, .slice aa0 n0 c0], .int .u8 a1, .int .u8 a2] w fun e w' => e = .returned (.bool true) ∧ Below w.heap.size w w' := by
  exact law_ShowNeeds ia0 il0 ic0 la0 ln0 lc0 oa0 ol0 oc0 aa0 n0 c0 ins0 outs0 ls0 ms0 a1 a2 w w0 y0 z0 w1 w2 he

theorem laid_plain {W : World} (h : laidMetH Tryz.prog Rows.showNeedsRow.laid W) : LibV W := by
  rw [MakeChecks.laidMetH_plain _ _ _ (by kernel_rfl)] at h
  exact ⟨errv_laid h.tail.tail.tail.tail (by kernel_rfl) (by kernel_rfl) (by kernel_rfl) (by kernel_rfl), powv_laid h.tail.tail (by kernel_rfl) (by kernel_rfl)⟩

set_option maxRecDepth 100000 in
theorem lifted (os : Os) (started : os.Started) (H : Type) (enc : TypeId × Value → H) :
    ReturnsInHanded {} Tryz.checked os 7 .any (fun w args => (Rows.showNeedsSpec.pre enc Tryz.prog Tryz.f7 [] false w args ∧ laidMetH Tryz.prog Rows.showNeedsRow.laid w) ∧ sizedMet enc Tryz.prog Tryz.f7 (OpenSpec.ofChange Rows.showNeedsSpec) false w args) (Rows.showNeedsSpec.post enc Tryz.prog Tryz.f7 false true false false) := by
  refine returnsInHanded_of_change_and (C := Tryz.checked) (X := fun w _ => laidMetH Tryz.prog Rows.showNeedsRow.laid w) (fun _ _ _ hh h => h.of_heap hh) own started (by kernel_rfl) Tryz.func7
    (ChangeSpec.witness_shaped (enc := enc) (C := Tryz.checked) (os := os) (X := fun w _ => laidMetH Tryz.prog Rows.showNeedsRow.laid w) false (World.laidAll Tryz.prog os Rows.showNeedsRow.laid) #[.agg #[.slice none 0 0, .slice none 0 0, .slice none 0 0, .slice none 0 0], .int .u8 0, .int .u8 0] 8 (World.laidAll_os _ _ _)
      (World.shaped_of_ZipB (by kernel_rfl) (by kernel_rfl)) (by kernel_rfl) (by kernel_rfl) (by kernel_rfl)
      (by rw [MakeChecks.laidMetH_plain _ _ _ (by kernel_rfl)]; exact laidMet_laidAll _ (by kernel_rfl) (by kernel_rfl))) ?_
  intro W base args ds gs before hval0 hW _ _ hX _
  have hval : ∀ (j : Nat) t v, Tryz.f7.params[j]? = some t → args[j]? = some v → Value.okWide Tryz.prog W .any base t v := hval0
  have hW' := hW
  obtain ⟨p, q, hA0, hV, rfl, hfz, hnd⟩ := hW
  have hA : DataW.TrodAll enc Tryz.prog W 0 (fun _ => true) true Tryz.f7.params.toList args.toList ds p := hA0
  rw [Tryz.params7] at hA hval
  obtain ⟨v0, vs0, d0, ds0, p0, q0, hargs, rfl, rfl, h0, r0⟩ := trodAll_cons hA
  obtain ⟨v1, vs1, d1, ds1, p1, q1, rfl, rfl, rfl, h1, r1⟩ := trodAll_cons r0
  obtain ⟨v2, vs2, d2, ds2, p2, q2, rfl, rfl, rfl, h2, r2⟩ := trodAll_cons r1
  obtain ⟨rfl, rfl, rfl⟩ := trodAll_nil r2
  obtain rfl : args = #[v0, v1, v2] := by cases args; simp_all
  obtain ⟨rfl, rfl⟩ := trodVars_none hV
  have k0 := h0
  have lt0 : ∀ x ∈ p0, x.block < W.heap.size := by obtain ⟨m, hm⟩ := k0; exact DataW.trod_lt m _ _ _ hm
  obtain ⟨ia0, il0, ic0, la0, ln0, lc0, oa0, ol0, oc0, aa0, n0, c0, ins0, outs0, ls0, ms0, rfl, w0, y0, z0⟩ := open_ProgB (hval 0 26 v0 rfl rfl) h0
  obtain ⟨a1, rfl, rfl, rfl, w1⟩ := open_int Tryz.underlying5 (hval 1 5 v1 rfl rfl) h1
  obtain ⟨a2, rfl, rfl, rfl, w2⟩ := open_int Tryz.underlying5 (hval 2 5 v2 rfl rfl) h2
  clear hA0 hval0
  refine (walk ia0 il0 ic0 la0 ln0 lc0 oa0 ol0 oc0 aa0 n0 c0 ins0 outs0 ls0 ms0 a1 a2 W w0 y0 z0 w1 w2 (laid_plain hX)).mono fun e W' ⟨he, bel⟩ => ?_
  subst he
  exact ⟨_, rfl, _, _, _, [], _, [], hW', trodAll_mk1 (shut_bool Tryz.underlying4 _), (trodAll_cons_mk (Below.trod laidOut (by kernel_rfl) (of_decide_eq_true (by kernel_rfl)) k0 bel lt0) (trodAll_cons_mk (shut_int Tryz.underlying5 w1) (trodAll_cons_mk (shut_int Tryz.underlying5 w2) trodAll_mk0))), rfl, bel.frame _, fun h => by cases h⟩

theorem over : Rows.showNeedsRow.holds Tryz.pinned (OpenSpec.ofChange Rows.showNeedsSpec) :=
  OpenClaim.holds_of_wide 7 Tryz.f7 rfl rfl rfl rfl rfl rfl rfl ⟨rfl, rfl, rfl, rfl, rfl⟩ rfl rfl rfl rfl rfl (by kernel_rfl) Tryz.func7 (by kernel_rfl)
    (of_decide_eq_true (by kernel_rfl)) (by unfold Func.isWrapper; first | (rw [if_pos (by decide +kernel)]; kernel_rfl) | (rw [if_neg (by decide +kernel)]; exact ⟨rfl, rfl⟩))
    (fun os started H enc _ => lifted os started H enc)

theorem proved : Rows.ShowNeedsSaid := over
end Go.Proofs.YtaeladkcmpdkhaaGreatDoor.showNeeds
namespace Go.Proofs.YtaeladkcmpdkhaaGreatDoor
theorem showNeeds_holds : Rows.ShowNeedsCardSaid :=
  Claim7.holds_tied_plain_at .later [] _ _ _ _ showNeeds.proved (fun _ h => by cases h) (by kernel_rfl) (fun _ h => by cases h) showNeeds_row_tie rfl ⟨rfl, rfl⟩ (by kernel_rfl) rfl
    (fun f fn hf hfn => by
      obtain rfl : f = 7 := Option.some.inj ((show Tryz.prog.funcNamed Rows.showNeedsRow.func = some 7 by kernel_rfl).symm.trans hf) |>.symm
      obtain rfl : fn = Tryz.f7 := (Option.some.inj (Tryz.func7.symm.trans hfn)).symm
      exact ⟨by kernel_rfl, fun j t ht => by
        have hall : (Tryz.f7.params.toList.all fun u => !Tryz.prog.wantsStandIn u) = true := by kernel_rfl
        exact (show Tryz.prog.wantsStandIn t = false by simpa using List.all_eq_true.1 hall t (Array.mem_toList_iff.2 (Array.mem_of_getElem? ht)))⟩)
    (by kernel_rfl)
end Go.Proofs.YtaeladkcmpdkhaaGreatDoor
#print axioms Go.Proofs.YtaeladkcmpdkhaaGreatDoor.showNeeds_holds
