/-
  Texts of mine in build order. No conditions of their own.
-/
import Derived.Lib.SmallJoins
import Derived.Test.YtaeladkcmpdkhaaGreatDoorPack4
namespace Go.Proofs.YtaeladkcmpdkhaaGreatDoor
section
open Go.RowKit
theorem wf_u32 {a : Int} (h : (Lit.int .u32 a).wf = true) : 0 ≤ a ∧ a < 4294967296 := by
 simp [Lit.wf, IntKind.min, IntKind.max, IntKind.signed, IntKind.bits] at h; omega
theorem came_words {w : World} {a : Option Addr} {len cap : Nat} {zs : List Int} (h : CameIn .u32 w a len cap zs) : IsWords w (.slice a len cap) (zs.take len) := by
 rcases h with ⟨rfl, rfl, rfl, rfl⟩ | ⟨x, rfl, hl, hm, hz, hc, hw⟩
 ·exact .inl ⟨rfl, rfl⟩
 ·have e : (zs.take len).length = len := by simp; omega
  refine .inr ⟨x, cap, by rw [e], by omega, hm, fun i hi => ?_⟩
  rw [e] at hi
  rw [hc i (by omega)]
  simp [List.getD_eq_getElem?_getD, hi]
end
section
open Go.ChangeShapes Go.WideShapes Go.ChangeAt Go.RowKit Go.Joins
theorem open_row {H : Type} {enc : TypeId × Value → H} {W : World} {fuel : Nat} {v : Value} {y : DataW H × List MemPlace} (h : DataW.trod enc Tryz.prog W 0 (fun _ => true) true fuel 43 [v] = some y) :
  ∃ a len cap zs, v = .slice a len cap ∧ CameIn .u32 W a len cap zs := by
 rcases open_ints Tryz.underlying43 Tryz.underlying85 (by kernel_rfl) h with ⟨hcs, _⟩ | ⟨x, l, c, zs, hcs, _, hl, hm, hz, _, hcell, hwz⟩
 ·exact ⟨none, 0, 0, [], by simpa using hcs, .inl ⟨rfl, rfl, rfl, rfl⟩⟩
 ·exact ⟨some x, l, c, zs, by simpa using hcs, .inr ⟨x, rfl, hl, hm, by simpa using hz, hcell, hwz⟩⟩
end
end Go.Proofs.YtaeladkcmpdkhaaGreatDoor
