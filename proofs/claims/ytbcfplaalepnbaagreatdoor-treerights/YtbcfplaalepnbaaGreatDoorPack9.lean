/-
  Texts of mine put together in build order, as far as TreeParses, TreeRight need them: TreeAwakeB, TreeGood, TreeGoodB, TreeAns, ErrLaid. No conditions of their own.
-/
import Derived.WalkKit
import Derived.ProofKit
import Derived.Lib.AppendZerosOnto
import Derived.Laws.AppendOwn
import Derived.Laws.AppendOwnNone
import Derived.Test.YtbcfplaalepnbaaGreatDoorRows
import Derived.WalkLawsBesides
import Derived.Deep.QuietTactic
import Derived.BigQuiet
import Derived.Outline
import Derived.Lib.BitFns
import Derived.OpenShut
import Derived.Laws.CopyOwn
import Derived.Lib.DecodeN
import Derived.Deep.LoopGhost
import Derived.Deep.RegionLaw
import Derived.Deep.DrawnRows
import Derived.Deep.RegionWith
import Derived.Deep.RegionHeld3
import Derived.Laws.IdiomStrings
import Derived.Laws.Bits64b
import Derived.RangeFuncNested
import Derived.RangeFuncBound
import Derived.RangeFuncCalls
import Derived.RangeFuncLeaves
import Derived.Shelf.Abstract
import Derived.Shelf.RegionOpen
import Derived.OwnWalkIn
import Derived.TacticsInMore
import Derived.LoopNIn
import Derived.LoopIn
import Derived.Sort.LoopGhostIn
import Derived.Lib.AtoiAll
import Derived.Lib.OthersKept
import Derived.Shelf.Strconv.AtoiAll
import Derived.Shelf.Strconv.ErrVarAll
import Derived.Test.YtbcfplaalepnbaaGreatDoorProg
import Derived.Laws.EntriesVeiled
import Derived.Deep.DeepCutAuto
import Derived.Lib.Bytealg
import Derived.Lib.Strings
import Derived.Lib.BufferWrite
import Derived.Lib.UnsafeStr
import Derived.Laws.MakeOwn
import Derived.Stop.LaidErr
import Derived.Test.YtbcfplaalepnbaaGreatDoorPack1
import Derived.Test.YtbcfplaalepnbaaGreatDoorPack2
import Derived.Test.YtbcfplaalepnbaaGreatDoorPack3
import Derived.Test.YtbcfplaalepnbaaGreatDoorPack4
import Derived.Test.YtbcfplaalepnbaaGreatDoorPack5
import Derived.Test.YtbcfplaalepnbaaGreatDoorPack6
import Derived.Test.YtbcfplaalepnbaaGreatDoorPack7
import Derived.Test.YtbcfplaalepnbaaGreatDoorPack8
namespace Go.Proofs.YtbcfplaalepnbaaGreatDoor
open Go.RowKit Go.Lib
theorem boxes5 (w : World) (c0 c1 c2 c3 c4 : Array Value) (T0 T1 T2 T3 T4 : TypeId) : BoxC (((((w.alloc (.cells c0 T0)).alloc (.cells c1 T1)).alloc (.cells c2 T2)).alloc (.cells c3 T3)).alloc (.cells c4 T4)) w.heap.size c0 T0 ∧ BoxC (((((w.alloc (.cells c0 T0)).alloc (.cells c1 T1)).alloc (.cells c2 T2)).alloc (.cells c3 T3)).alloc (.cells c4 T4)) (w.heap.size + 1) c1 T1 ∧
    BoxC (((((w.alloc (.cells c0 T0)).alloc (.cells c1 T1)).alloc (.cells c2 T2)).alloc (.cells c3 T3)).alloc (.cells c4 T4)) (w.heap.size + 2) c2 T2 ∧ BoxC (((((w.alloc (.cells c0 T0)).alloc (.cells c1 T1)).alloc (.cells c2 T2)).alloc (.cells c3 T3)).alloc (.cells c4 T4)) (w.heap.size + 3) c3 T3 ∧ BoxC (((((w.alloc (.cells c0 T0)).alloc (.cells c1 T1)).alloc (.cells c2 T2)).alloc (.cells c3 T3)).alloc (.cells c4 T4)) (w.heap.size + 4) c4 T4 ∧
    Below w.heap.size w (((((w.alloc (.cells c0 T0)).alloc (.cells c1 T1)).alloc (.cells c2 T2)).alloc (.cells c3 T3)).alloc (.cells c4 T4)) := by
  have s1 : (w.alloc (.cells c0 T0)).heap.size = w.heap.size + 1 := by simp
  have s2 : ((w.alloc (.cells c0 T0)).alloc (.cells c1 T1)).heap.size = w.heap.size + 2 := by simp
  have s3 : (((w.alloc (.cells c0 T0)).alloc (.cells c1 T1)).alloc (.cells c2 T2)).heap.size = w.heap.size + 3 := by simp
  have s4 : ((((w.alloc (.cells c0 T0)).alloc (.cells c1 T1)).alloc (.cells c2 T2)).alloc (.cells c3 T3)).heap.size = w.heap.size + 4 := by simp
  refine ⟨((((BoxC.new w c0 T0).alloc _).alloc _).alloc _).alloc _, ?_, ?_, ?_, ?_, ?_⟩
  · rw [← s1]; exact (((BoxC.new _ c1 T1).alloc _).alloc _).alloc _
  · rw [← s2]; exact ((BoxC.new _ c2 T2).alloc _).alloc _
  · rw [← s3]; exact (BoxC.new _ c3 T3).alloc _
  · rw [← s4]; exact BoxC.new _ c4 T4
  · have b0 := Below.refl w.heap.size w
    have b1 := b0.alloc b0.size (.cells c0 T0)
    have b2 := b1.alloc b1.size (.cells c1 T1)
    have b3 := b2.alloc b2.size (.cells c2 T2)
    have b4 := b3.alloc b3.size (.cells c3 T3)
    exact b4.alloc b4.size (.cells c4 T4)
theorem BoxC.isN {w : World} {g : Nat} {ms : List Mn} {cs : Array Value} {T : TypeId} (B : BoxC w g cs T) (h : cs.toList = flat encM ms) : IsN w (some ⟨g, 0, none⟩) ms.length ms := by
  refine ⟨rfl, .inr ⟨g, 0, rfl, fun i m hm j u hj => ?_⟩⟩
  rw [Nat.zero_add, (B.cell (i * 8 + j)).1]
  have hj8 : j < 8 := by have := (List.getElem?_eq_some_iff.1 hj).1; rw [encM_length] at this; exact this
  have := flat_get encM_length ms i m hm j hj8
  rw [← h, Array.getElem?_toList] at this
  rw [this]; exact hj
theorem box_second (w : World) (o : Obj) (c : Array Value) (T : TypeId) : BoxC ((w.alloc o).alloc (.cells c T)) (w.heap.size + 1) c T := by
  have s1 : (w.alloc o).heap.size = w.heap.size + 1 := by simp
  rw [← s1]; exact BoxC.new _ c T
theorem BoxC.isI4 {w : World} {g : Nat} {T : TypeId} (B : BoxC w g #[.int .i64 1, .int .i64 1, .int .i64 2, .int .i64 3] T) : IsI w (some ⟨g, 0, none⟩) 4 [1, 1, 2, 3] := ⟨rfl, .inr ⟨g, 0, rfl, fun j y hj => by
  have hj1 : j < 4 := (List.getElem?_eq_some_iff.1 hj).1
  rw [Nat.zero_add, (B.cell j).1]
  rcases (by omega : j = 0 ∨ j = 1 ∨ j = 2 ∨ j = 3) with rfl | rfl | rfl | rfl
  all_goals (simp only [List.getElem?_cons_zero, List.getElem?_cons_succ, Option.some.injEq] at hj; subst hj; rfl)⟩⟩
theorem two_tri : tri ((2 : Int) : Rat) = (false, 2, 1) := by kernel_rfl
theorem BoxC.isS1 {w : World} {g : Nat} {x : ByteArray} {T : TypeId} (B : BoxC w g #[.string x] T) : IsS w (some ⟨g, 0, none⟩) 1 [x] := ⟨rfl, .inr ⟨g, 0, rfl, fun j y hj => by
  have hj1 : j < 1 := (List.getElem?_eq_some_iff.1 hj).1
  obtain rfl : j = 0 := by omega
  rw [Nat.zero_add, (B.cell 0).1]
  have : x = y := by simpa using hj
  rw [← this]; rfl⟩⟩
theorem BoxC.isLt1 {w : World} {g : Nat} {x : ByteArray} {r : Int} {T : TypeId} (B : BoxC w g #[.string x, .int .i64 r] T) : IsLt w (some ⟨g, 0, none⟩) 1 [(x, r)] := ⟨rfl, .inr ⟨g, 0, rfl, fun j y hj => by
  have hj1 : j < 1 := (List.getElem?_eq_some_iff.1 hj).1
  obtain rfl : j = 0 := by omega
  have : (x, r) = y := by simpa using hj
  rw [← this]
  exact ⟨(B.cell 0).1, (B.cell 1).1⟩⟩⟩
theorem ex_same {v : World} {ia la oa aa na nb : Option Addr} {ic lc oc ac nc nd gi gl go gn : Nat} {Ti Tl To Tn : TypeId} {ms : List Mn} (PR : PgR v ia la oa aa 1 1 1 4 ac [⟨#[120]⟩] [⟨#[97]⟩] [(⟨#[97]⟩, 3)] ms) (hm : ms.map (·.1) = exM)
    (Bi : BoxC v gi #[.string ⟨#[120]⟩] Ti) (Bl : BoxC v gl #[.string ⟨#[97]⟩, .int .i64 3] Tl) (Bo : BoxC v go #[.string ⟨#[97]⟩] To)
    (Bn : BoxC v gn #[.int .i64 1, .int .i64 0, .int .i64 0, .int .i64 0, .string ⟨#[]⟩, .bool false, .slice na 1 nc, .slice nb 1 nd, .int .i64 0, .int .i64 0, .int .i64 0, .int .i64 0, .string ⟨#[120]⟩, .bool false, .slice none 0 0, .slice none 0 0, .int .i64 7, .int .i64 1, .int .i64 0, .int .i64 (-3), .string ⟨#[]⟩, .bool false, .slice none 0 0, .slice none 0 0, .int .i64 4, .int .i64 0, .int .i64 2, .int .i64 0, .string ⟨#[]⟩, .bool false, .slice none 0 0, .slice none 0 0] Tn)
    (h1 : IsWords v (.slice na 1 nc) [2]) (h2 : IsWords v (.slice nb 1 nd) [1]) :
    Calls Tryz.prog 12 #[.agg #[.slice ia 1 ic, .slice la 1 lc, .slice oa 1 oc, .slice aa 4 ac], .agg #[.slice (some ⟨gi, 0, none⟩) 1 1, .slice (some ⟨gl, 0, none⟩) 1 1, .slice (some ⟨go, 0, none⟩) 1 1, .slice (some ⟨gn, 0, none⟩) 4 4]] v fun e w' => e = .returned (.bool true) ∧ Below v.heap.size v w' := by
  have nil : IsWords v (.slice none 0 0) [] := (Own.nil (Below.refl _ v)).words
  have w0 : Wd [] := fun x hx => absurd hx (by simp)
  have w1 : Wd [1] := fun x hx => by simp at hx; subst hx; decide
  have w2 : Wd [2] := fun x hx => by simp at hx; subst hx; decide
  obtain ⟨mlit, hml⟩ : ∃ m : List Mn, m = [(⟨1, 0, 0, 0, ⟨#[]⟩, false, [2], [1]⟩, .slice na 1 nc, .slice nb 1 nd), (⟨0, 0, 0, 0, ⟨#[120]⟩, false, [], []⟩, .slice none 0 0, .slice none 0 0), (⟨7, 1, 0, -3, ⟨#[]⟩, false, [], []⟩, .slice none 0 0, .slice none 0 0), (⟨4, 0, 2, 0, ⟨#[]⟩, false, [], []⟩, .slice none 0 0, .slice none 0 0)] := ⟨_, rfl⟩
  have hN : IsN v (some ⟨gn, 0, none⟩) 4 mlit := by
    have := Bn.isN (ms := mlit) (by rw [hml]; rfl)
    rw [show mlit.length = 4 by rw [hml]; rfl] at this
    exact this
  have hM : mlit.map (·.1) = exM := by rw [hml]; rfl
  have hR : NdR v mlit := by
    rw [hml]
    intro m hm
    simp only [List.mem_cons, List.not_mem_nil, or_false] at hm
    rcases hm with rfl | rfl | rfl | rfl
    · exact ⟨⟨na, nc, rfl, h1⟩, ⟨nb, nd, rfl, h2⟩, w2, w1, (show 1 ≤ 10000 by decide), (show 1 ≤ 10000 by decide), (show (0 : Nat) ≤ 1000000 by decide)⟩
    · exact ⟨⟨none, 0, rfl, nil⟩, ⟨none, 0, rfl, nil⟩, w0, w0, by decide, by decide, by decide⟩
    · exact ⟨⟨none, 0, rfl, nil⟩, ⟨none, 0, rfl, nil⟩, w0, w0, by decide, by decide, by decide⟩
    · exact ⟨⟨none, 0, rfl, nil⟩, ⟨none, 0, rfl, nil⟩, w0, w0, by decide, by decide, by decide⟩
  exact ref_tsame PR.hins Bi.isS1 PR.hlets Bl.isLt1 PR.houts Bo.isS1 PR.hall hN PR.hnodes hR (hm.trans hM.symm) (by omega)
set_option maxHeartbeats 32000000 in
theorem tree_awake (w : World) (he : ErrV w) : Calls Tryz.prog 9 #[] w fun e w' => e = .returned (.bool true) ∧ Below w.heap.size w w' := by
  have PA := tree_parse exT (by decide) w he
  rw [ex_parse] at PA
  unfold AnsPG exT at PA
  dsimp only at PA
  have OF : ∀ v : World, Calls Tryz.prog 24 #[.int .i64 2] v (AnsT v (false, 2, 1)) := fun v => (ref_rof 2 v (by decide) (by decide)).mono fun e w' h => by rw [ansR_iff, two_tri] at h; exact h
  unfold AnsT at OF
  dsimp only at OF
  rw [show nl 2 = 1 by kernel_rfl, show nl 1 = 1 by kernel_rfl, show natOf 2 = [2] by kernel_rfl, show natOf 1 = [1] by kernel_rfl] at OF
  go_enter Tryz.func9, Tryz.ntmps9
  go_wp2_with (go_at_call 10; (with_reducible refine Calls.mono PA ?_); rintro e w1 ⟨i1, l1, o1, a1, rfl, HP, d1⟩; obtain ⟨ia, ic, la, lc, oa, oc, aa, ac, ms, rfl, rfl, rfl, rfl, PR, hm, hn⟩ := pg_ex HP)
  obtain ⟨B0, B1, B2, B3, B4, bX⟩ := boxes5 w1 #[.slice ia 1 ic, .slice la 1 lc, .slice oa 1 oc, .slice aa 4 ac] #[.int .i64 0, .int .i64 0] #[.string ⟨#[120]⟩] #[.string ⟨#[97]⟩, .int .i64 3] #[.string ⟨#[97]⟩] 27 29 9 46 9
  generalize ((((w1.alloc (.cells #[.slice ia 1 ic, .slice la 1 lc, .slice oa 1 oc, .slice aa 4 ac] 27)).alloc (.cells #[.int .i64 0, .int .i64 0] 29)).alloc (.cells #[.string ⟨#[120]⟩] 9)).alloc (.cells #[.string ⟨#[97]⟩, .int .i64 3] 46)).alloc (.cells #[.string ⟨#[97]⟩] 9) = X at *
  have HP : Hid (PgR w1 ia la oa aa 1 1 1 4 ac [⟨#[120]⟩] [⟨#[97]⟩] [(⟨#[97]⟩, 3)] ms ∧ ms.map (·.1) = exM ∧ (ms.map fun m => m.1.nd) = exN ∧ Below w.heap.size w w1) := ⟨PR, hm, hn, d1⟩
  have HX : Hid (Below w1.heap.size w1 X) := bX
  have RT := fun v (h : PgR v ia la oa aa 1 1 1 4 ac [⟨#[120]⟩] [⟨#[97]⟩] [(⟨#[97]⟩, 3)] ms) => tree_right (ic := ic) (lc := lc) (oc := oc) h true (by rw [hm]; exact ex_right)
  have HT := fun v (h : PgR v ia la oa aa 1 1 1 4 ac [⟨#[120]⟩] [⟨#[97]⟩] [(⟨#[97]⟩, 3)] ms) => tree_Heights (ic := ic) (lc := lc) (oc := oc) h true (by rw [hm]; exact ex_right)
  rw [if_pos rfl, hn, ex_hts] at HT
  have HB : Hid (BoxC X (w1.heap.size + 1 + 1) #[.string ⟨#[120]⟩] 9 ∧ BoxC X (w1.heap.size + 1 + 1 + 1) #[.string ⟨#[97]⟩, .int .i64 3] 46 ∧ BoxC X (w1.heap.size + 1 + 1 + 1 + 1) #[.string ⟨#[97]⟩] 9) := ⟨B2, B3, B4⟩
  clear PR hm hn PA he d1 bX B2 B3 B4
  go_wp2_with (first
    | (go_at_call 24; (with_reducible refine Calls.mono (OF _) ?_); rintro e w2 ⟨na, nc, nb, nd, rfl, q1, q2⟩; have C0 := B0.more q1.below; have C1 := B1.more q1.below; have p0 := fun o1 o2 => (((C0.alloc o1).alloc o2).cell 0).1; have p1 := fun o1 o2 => (((C0.alloc o1).alloc o2).cell 1).1; have p2 := fun o1 o2 => (((C0.alloc o1).alloc o2).cell 2).1; have p3 := fun o1 o2 => (((C0.alloc o1).alloc o2).cell 3).1; have l0 := fun o1 o2 => (((C1.alloc o1).alloc o2).cell 0).1; have l1 := fun o1 o2 => (((C1.alloc o1).alloc o2).cell 1).1; have t0 := fun o1 => ((box_second w2 o1 #[.slice (some ⟨w1.heap.size + 1 + 1, 0, none⟩) 1 1, .slice (some ⟨w1.heap.size + 3, 0, none⟩) 1 1, .slice (some ⟨w1.heap.size + 4, 0, none⟩) 1 1, .slice (some ⟨w2.heap.size, 0, none⟩) 4 4] 27).cell 0).1)
    | (go_at_call 12; have PY := fun o1 o2 => HP.out.1.below (below_more HX.out (((q1.below).alloc q1.below.size o1).alloc (q1.below.alloc q1.below.size o1).size o2)); (with_reducible refine Calls.mono (ex_same (PY _ _) HP.out.2.1 (((HB.out.1.more q1.below).alloc _).alloc _) (((HB.out.2.1.more q1.below).alloc _).alloc _) (((HB.out.2.2.more q1.below).alloc _).alloc _) ((BoxC.new w2 _ _).alloc _) (q1.words.below (((Below.refl _ w2).alloc (Nat.le_refl _) _).alloc (by simp) _)) (q2.words.below (((Below.refl _ w2).alloc (Nat.le_refl _) _).alloc (by simp) _))) ?_); rintro e w3 ⟨rfl, d3⟩; have D0 := ((C0.alloc _).alloc _).more d3; have D1 := ((C1.alloc _).alloc _).more d3; have e0 := (D0.cell 0).1; have e1 := (D0.cell 1).1; have e2 := (D0.cell 2).1; have e3 := (D0.cell 3).1; have P3 := (PY _ _).below d3; have HY := below_more (((Below.refl _ w2).alloc (Nat.le_refl _) _).alloc (by simp) _) d3)
    | (go_at_call 16; (with_reducible refine Calls.mono (RT _ P3) ?_); rintro e w4 ⟨rfl, d4⟩; have D2 := D0.more d4; have f0 := (D2.cell 0).1; have f1 := (D2.cell 1).1; have f2 := (D2.cell 2).1; have f3 := (D2.cell 3).1; have P4 := P3.below d4)
    | (go_at_call 18; (with_reducible refine Calls.mono (HT _ P4) ?_); rintro e w5 ⟨ha, hn', hc, rfl, hI, d5⟩; obtain rfl : 4 = hn' := hI.1)
    | (go_at_call 17; (with_reducible refine Calls.mono (ref_ints (hI.below ((Below.refl _ w5).alloc (Nat.le_refl _) _)) (BoxC.new w5 _ _).isI4 (by omega)) ?_); rintro e w6 ⟨rfl, d6⟩))
  go_ret
  exact ⟨rfl, below_more (below_more (below_more HP.out.2.2.2 (below_more HX.out q1.below)) HY) (below_more d4 (below_more d5 (below_more ((Below.refl _ w5).alloc (Nat.le_refl _) _) d6)))⟩
end Go.Proofs.YtbcfplaalepnbaaGreatDoor
namespace Go.Proofs.YtbcfplaalepnbaaGreatDoor
open Go.Lib
theorem num_right {q : Rat} (h0 : 0 ≤ q.num) (h1 : (decOf q.num.natAbs).length ≤ 40) (h2 : (decOf q.den).length ≤ 40) : numR (tri q).1 (natOf (tri q).2.1) (natOf (tri q).2.2) = true := by
  have short : ∀ A : Nat, (decOf A).length ≤ 40 → shortB (natOf A) = true := fun A hA => by
    have hl : A < 4294967296 ^ 5 := Nat.lt_of_lt_of_le (lt_decOf A) (Nat.le_trans (Nat.pow_le_pow_right (by decide) hA) (by decide))
    unfold shortB
    rw [val_natOf, decide_eq_true hA, natOf_len, decide_eq_true (nl_le 5 A hl)]; rfl
  have e : decide (q.num < 0) = false := by rw [decide_eq_false_iff_not]; omega
  have hr := rv_tri q
  unfold numR tri
  dsimp only
  rw [short _ h1, short _ h2]
  unfold rghB
  rw [val_natOf, val_natOf, hr, e]
  simp
theorem num_one {l : List UInt8} (h : Num l) (hl : l.length ≤ 40) : parT l = tri ((valD l : Int) : Rat) := by
  have hd : ∀ c ∈ l, c ≠ 124 := fun c hc e => by
    have := h.2.1 c hc
    rw [e] at this
    exact absurd this.2 (by decide)
  have hh : l.head? ≠ some 45 := fun e => by
    have := h.2.1 45 (List.mem_of_mem_head? e)
    exact absurd this.1 (by decide)
  obtain ⟨f1, f2⟩ := front_all hd
  have es : stripI l = l := if_neg hh
  have z1 : zerr l = 0 := by unfold zerr; rw [es]; exact perr_ok (by omega) h
  have z2 : znum l = (valD l : Int) := by unfold znum minusI; rw [es, pnum_ok (by omega) h, decide_eq_false hh]; rfl
  have e : parE l = 0 := by unfold parE; rw [f1, z1, f2]; rfl
  unfold parT parQ
  rw [if_pos e, f1, f2, z2]
theorem num_two {l m : List UInt8} (h : Num l) (hl : l.length ≤ 40) (k : Num m) (hm : m.length ≤ 40) (h0 : 0 < valD m) : parT (l ++ 124 :: m) = tri (mkRat (valD l : Int) (valD m)) := by
  have hd : ∀ c ∈ l, c ≠ 124 := fun c hc e => by
    have := h.2.1 c hc
    rw [e] at this
    exact absurd this.2 (by decide)
  have hh : l.head? ≠ some 45 := fun e => by
    have := h.2.1 45 (List.mem_of_mem_head? e)
    exact absurd this.1 (by decide)
  obtain ⟨f1, f2⟩ := front_app (m := m) hd
  have es : stripI l = l := if_neg hh
  have z1 : zerr l = 0 := by unfold zerr; rw [es]; exact perr_ok (by omega) h
  have z2 : znum l = (valD l : Int) := by unfold znum minusI; rw [es, pnum_ok (by omega) h, decide_eq_false hh]; rfl
  have p1 := pnum_ok (by omega) k
  have p2 := perr_ok (by omega) k
  have e : parE (l ++ 124 :: m) = 0 := by
    unfold parE; rw [f1, z1, f2]
    show (if (0 : Int) ≠ 0 then (0 : Int) else if perr m ≠ 0 then perr m else if pnum m = 0 then 3 else 0) = 0
    rw [p2, p1, if_neg (by omega), if_neg (by omega), if_neg (by omega)]
  unfold parT parQ
  rw [if_pos e, f1, f2, z2]
  show tri (mkRat (valD l : Int) (pnum m)) = _
  rw [p1]
theorem rat_small (A D : Nat) (h : 0 < D) : 0 ≤ (mkRat (A : Int) D).num ∧ (mkRat (A : Int) D).num.natAbs ≤ A ∧ (mkRat (A : Int) D).den ≤ D := by
  rw [Rat.num_mkRat, Rat.den_mkRat, if_neg (by omega), if_neg (by omega)]
  refine ⟨Int.ediv_nonneg (by omega) (by omega), ?_, Nat.div_le_self _ _⟩
  rw [show ((A : Int) / ((Nat.gcd D (A : Int).natAbs : Nat) : Int)) = ((A / Nat.gcd D (A : Int).natAbs : Nat) : Int) by rw [Int.natCast_ediv]]
  rw [Int.natAbs_natCast]
  exact Nat.div_le_self _ _
theorem part_num {x : ByteArray} (h : partB x = true) : Num x.data.toList ∧ x.data.toList.length ≤ 40 := by
  unfold partB at h
  simp only [Bool.and_eq_true, Bool.or_eq_true, decide_eq_true_eq] at h
  obtain ⟨⟨⟨h1, h2⟩, h3⟩, h4⟩ := h
  have hz : x.data.toList.length = x.size := by rw [Array.length_toList]; rfl
  have get : ∀ j (hj : j < x.data.toList.length), (x.data.toList[j]).toNat = bt x j := fun j hj => by
    rw [bt_get (by omega : j < x.size)]; rfl
  refine ⟨⟨fun e => by rw [e] at hz; simp at hz; omega, fun c hc => ?_, fun e => ?_⟩, by omega⟩
  · obtain ⟨j, hj, rfl⟩ := List.getElem_of_mem hc
    rw [get j hj]
    have := (kindAt_digit.1 (digEnd_all x _ 0 (Nat.le_refl _) j (Nat.zero_le _) (by omega))).2
    exact this
  · rcases h4 with h4 | h4
    · omega
    · exfalso
      apply h4
      have hp : 0 < x.data.toList.length := by omega
      rw [← get 0 hp]
      rw [List.head?_eq_getElem?, List.getElem?_eq_getElem hp] at e
      rw [Option.some.inj e]; rfl
theorem split_text {x : ByteArray} {n : Nat} (h : n < x.size) (hb : bt x n = 124) : x.data.toList = (x.extract 0 n).data.toList ++ 124 :: (x.extract (n + 1) x.size).data.toList := by
  have hz : x.data.toList.length = x.size := by rw [Array.length_toList]; rfl
  have e1 : (x.extract 0 n).data.toList = x.data.toList.take n := by
    rw [ByteArray.data_extract, Array.toList_extract]; simp
  have e2 : (x.extract (n + 1) x.size).data.toList = x.data.toList.drop (n + 1) := by
    rw [ByteArray.data_extract, Array.toList_extract, List.extract_eq_take_drop]
    rw [List.take_of_length_le (by rw [List.length_drop]; omega)]
  rw [e1, e2]
  have hn : n < x.data.toList.length := by omega
  have e3 : x.data.toList[n] = 124 := by
    apply UInt8.toNat_inj.1
    rw [bt_get h] at hb
    exact hb
  conv => lhs; rw [← List.take_append_drop n x.data.toList]
  rw [List.drop_eq_getElem_cons hn, e3]
theorem num_text {x : ByteArray} (h : numB x = true) : numR (numT x).1 (natOf (numT x).2.1) (natOf (numT x).2.2) = true := by
  unfold numB at h
  unfold numT
  split at h
  · obtain ⟨n1, n2⟩ := part_num h
    rw [num_one n1 n2]
    refine num_right ?_ ?_ ?_
    · rw [Rat.num_intCast]; omega
    · rw [Rat.num_intCast, Int.natAbs_natCast, decOf_valD n1]; exact n2
    · rw [Rat.den_intCast]; exact decOf_len_le (by decide) (by decide)
  · rename_i hc
    simp only [Bool.and_eq_true, Bool.not_eq_true'] at h
    obtain ⟨⟨h1, h2⟩, h3⟩ := h
    have hlt : cutI x < x.size := by have := cutI_le x; omega
    obtain ⟨n1, n2⟩ := part_num h1
    obtain ⟨m1, m2⟩ := part_num h2
    rw [split_text hlt ((cutI_told x).2 hlt)]
    have h0 : 0 < valD (x.extract (cutI x + 1) x.size).data.toList := by
      rcases Nat.eq_zero_or_pos (valD (x.extract (cutI x + 1) x.size).data.toList) with e | e
      · exfalso
        have := decOf_valD m1
        rw [e, decOf_zero] at this
        rw [ByteArray.toList_eq, ← this] at h3
        exact absurd h3 (by decide)
      · exact e
    rw [num_two n1 n2 m1 m2 h0]
    obtain ⟨r1, r2, r3⟩ := rat_small (valD (x.extract 0 (cutI x)).data.toList) (valD (x.extract (cutI x + 1) x.size).data.toList) h0
    refine num_right r1 (Nat.le_trans (decOf_len_mono r2) ?_) (Nat.le_trans (decOf_len_mono r3) ?_)
    · rw [decOf_valD n1]; exact n2
    · rw [decOf_valD m1]; exact m2
theorem exp_small {x : ByteArray} (h : kindAt x 0 = 2) : expI x ≤ 20 := by
  have hb := kindAt_digit.1 h
  unfold expI
  split
  · omega
  · split
    · omega
    · omega
def GoodN (n : Nd) : Prop := fillR (rawOf n) = true ∧ (natOf n.num.2.1).length ≤ 5 ∧ (natOf n.num.2.2).length ≤ 5 ∧ n.name.size ≤ 40
theorem none_raw (k a b x : Int) (y : ByteArray) : noneB (rawOf ⟨k, a, b, x, y, (false, 0, 0)⟩) = true := by
  unfold noneB rawOf
  dsimp only
  rw [natOf_zero]; rfl
theorem empty_no : emptyB noText = true := by unfold emptyB noText; rw [ByteArray.toList_eq]; rfl
theorem num_len {s : Bool} {xs ys : List Int} (h : numR s xs ys = true) : xs.length ≤ 5 ∧ ys.length ≤ 5 := by
  unfold numR shortB at h
  simp only [Bool.and_eq_true, decide_eq_true_eq] at h
  exact ⟨h.1.1.2.1, h.1.2.1⟩
theorem makes_good {L : List Tok} (hL : ∀ t ∈ L, RightT t.1 t.2.1) : Makes numT L GoodN := by
  have z : (natOf 0).length ≤ 5 := by rw [natOf_zero]; decide
  have e0 : noText.size ≤ 40 := by decide
  constructor
  · intro x hx
    refine ⟨?_, z, z, ?_⟩
    · unfold fillR
      rw [if_pos (show (rawOf ⟨0, 0, 0, 0, x, (false, 0, 0)⟩).kind = 0 from rfl), none_raw]
      show (nameB x && _ && _ && _ && _) = true
      rw [hx]; rfl
    · unfold nameB at hx
      simp only [Bool.and_eq_true, decide_eq_true_eq] at hx
      exact hx.1.1.2
  · intro t ht h1
    have hr := hL t ht
    rw [h1] at hr
    have hn : numB t.2.1 = true := by
      rcases right_kind hr with ⟨q, -⟩ | ⟨-, -, q⟩ | ⟨q, -⟩
      · exact absurd q (by decide)
      · exact q
      · exact absurd q (by decide)
    have hq := num_text hn
    refine ⟨?_, (num_len hq).1, (num_len hq).2, e0⟩
    unfold fillR
    rw [if_neg (show ¬ (rawOf ⟨1, 0, 0, 0, noText, numT t.2.1⟩).kind = 0 from by show ¬ (1 : Int) = 0; decide), if_pos (show (rawOf ⟨1, 0, 0, 0, noText, numT t.2.1⟩).kind = 1 from rfl)]
    show (numR (numT t.2.1).1 (natOf (numT t.2.1).2.1) (natOf (numT t.2.1).2.2) && _ && _ && _ && emptyB noText) = true
    rw [hq, empty_no]; rfl
  · intro k a b h2 h5
    refine ⟨?_, z, z, e0⟩
    have hn := none_raw k a b 0 noText
    obtain ⟨m, hm⟩ : ∃ m, rawOf ⟨k, a, b, 0, noText, (false, 0, 0)⟩ = m := ⟨_, rfl⟩
    have hk : m.kind = k := by rw [← hm]; rfl
    have he : m.exp = 0 := by rw [← hm]; rfl
    have hx : m.name = noText := by rw [← hm]; rfl
    rw [hm] at hn ⊢
    unfold fillR
    rw [if_neg (by omega), if_neg (by omega), if_pos (by omega), hn, he, hx, empty_no]; rfl
  · intro a
    refine ⟨?_, z, z, e0⟩
    have hn := none_raw 6 a 0 0 noText
    obtain ⟨m, hm⟩ : ∃ m, rawOf ⟨6, a, 0, 0, noText, (false, 0, 0)⟩ = m := ⟨_, rfl⟩
    have hk : m.kind = 6 := by rw [← hm]; rfl
    have he : m.exp = 0 := by rw [← hm]; rfl
    have hb : m.b = 0 := by rw [← hm]; rfl
    have hx : m.name = noText := by rw [← hm]; rfl
    rw [hm] at hn ⊢
    unfold fillR
    rw [if_neg (by omega), if_neg (by omega), if_neg (by omega), if_pos hk, hn, he, hb, hx, empty_no]; rfl
  · intro a fac t ht h1 h0 hf
    have hr := hL t ht
    rw [h1] at hr
    have hk : kindAt t.2.1 0 = 2 := by
      rcases right_kind hr with ⟨q, -⟩ | ⟨-, q, -⟩ | ⟨q, -⟩
      · exact absurd q (by decide)
      · exact q
      · exact absurd q (by decide)
    have h20 := exp_small hk
    refine ⟨?_, z, z, e0⟩
    have hn := none_raw 7 a 0 (fac * expI t.2.1) noText
    obtain ⟨m, hm⟩ : ∃ m, rawOf ⟨7, a, 0, fac * expI t.2.1, noText, (false, 0, 0)⟩ = m := ⟨_, rfl⟩
    have hk : m.kind = 7 := by rw [← hm]; rfl
    have he : m.exp = fac * expI t.2.1 := by rw [← hm]; rfl
    have hb : m.b = 0 := by rw [← hm]; rfl
    have hx : m.name = noText := by rw [← hm]; rfl
    rw [hm] at hn ⊢
    unfold fillR
    rw [if_neg (by omega), if_neg (by omega), if_neg (by omega), if_neg (by omega), if_pos hk, hn, he, hb, hx, empty_no, decide_eq_true (by rcases hf with rfl | rfl <;> omega)]; rfl
theorem seg_sgF {m0 : List Nw} (hf : ∀ m ∈ m0, fillR m = true) (ms : List Nw) (j : Nat) (hms : ∀ p, p < j → ms[p]? = m0[p]?) {s i : Nat} (h : Seg (m0.map Nw.nd) s i) :
    s ≤ i ∧ (i < j → ∀ f (lo : List Int), i + 1 - s ≤ f → sgF ms j f s lo = sgF ms j (f - (i + 1 - s)) (i + 1) (lo ++ [(i : Int)])) := by
  have step : ∀ (p : Nat) (n : Nd) (lo : List Int) (pt : List Int), (m0.map Nw.nd)[p]? = some n → ptsI n.kind n.a n.b = pt → p < j → ∀ f, 1 ≤ f → sgF ms j f p (lo ++ pt) = sgF ms j (f - 1) (p + 1) (lo ++ [(p : Int)]) := by
    intro p n lo pt hn hp hj f hf1
    obtain ⟨f, rfl⟩ : ∃ g, f = g + 1 := ⟨f - 1, by omega⟩
    rw [List.getElem?_map] at hn
    cases hm0 : m0[p]? with
    | none => rw [hm0] at hn; exact absurd hn (by simp)
    | some m =>
      rw [hm0] at hn
      obtain rfl : m.nd = n := by simpa using hn
      have hm : ms[p]? = some m := by rw [hms p hj, hm0]
      have hfn := hf m (List.mem_of_getElem? hm0)
      have e : sgStep ms p (lo ++ pt) = some (lo ++ [(p : Int)]) := by
        unfold sgStep
        rw [hm]
        dsimp only
        rw [show ptsI m.kind m.a m.b = pt from hp]
        rw [List.length_append, Nat.add_sub_cancel, List.drop_left, List.take_left, if_pos ⟨hfn, Nat.le_add_left _ _, rfl⟩]
      conv => lhs; unfold sgF
      rw [if_pos hj, e]; rfl
  refine h (fun s i => s ≤ i ∧ (i < j → ∀ f (lo : List Int), i + 1 - s ≤ f → sgF ms j f s lo = sgF ms j (f - (i + 1 - s)) (i + 1) (lo ++ [(i : Int)]))) ?_ ?_ ?_
  · intro i n hn hk
    refine ⟨Nat.le_refl _, fun hj f lo hl => ?_⟩
    have := step i n lo [] hn (by unfold ptsI; rw [if_pos hk]) hj f (by omega)
    rw [List.append_nil] at this
    rw [this, show i + 1 - i = 1 by omega]
  · intro s i n ⟨hle, ih⟩ hn hk ha
    refine ⟨by omega, fun hj f lo hl => ?_⟩
    rw [ih (by omega) f lo (by omega)]
    have := step (i + 1) n lo [(i : Int)] hn (by unfold ptsI; rw [if_neg (by omega), if_pos hk, ha]) hj (f - (i + 1 - s)) (by omega)
    rw [this, show f - (i + 1 - s) - 1 = f - (i + 1 + 1 - s) by omega]
  · intro s k i n ⟨h1, ih1⟩ ⟨h2, ih2⟩ hn hk2 hk5 ha hb
    refine ⟨by omega, fun hj f lo hl => ?_⟩
    rw [ih1 (by omega) f lo (by omega), ih2 (by omega) _ _ (by omega), List.append_assoc, List.singleton_append]
    have := step (i + 1) n lo [(k : Int), (i : Int)] hn (by unfold ptsI; rw [if_neg (by omega), if_neg (by omega), ha, hb]) hj (f - (k + 1 - s) - (i + 1 - (k + 1))) (by omega)
    rw [this, show f - (k + 1 - s) - (i + 1 - (k + 1)) - 1 = f - (i + 1 + 1 - s) by omega]
theorem seg_single {m0 : List Nw} (hf : ∀ m ∈ m0, fillR m = true) {s i : Nat} (h : Seg (m0.map Nw.nd) s i) : sgB (m0.take (i + 1)) (i + 1) s = true := by
  have hle := h.le
  unfold sgB
  rw [(seg_sgF hf _ (i + 1) (fun p hp => by rw [List.getElem?_take, if_pos hp]) h).2 (Nat.lt_succ_self i) (i + 1 + 1) [] (by omega)]
  obtain ⟨g, hg⟩ : ∃ g, i + 1 + 1 - (i + 1 - s) = g + 1 := ⟨i + 1 - (i + 1 - s), by omega⟩
  rw [hg]
  unfold sgF
  rw [if_neg (Nat.lt_irrefl _)]; rfl
theorem lets_grown {m0 : List Nw} (hf : ∀ m ∈ m0, fillR m = true) : ∀ {m : List (ByteArray × Int)} {b : Nat}, LetsEnd (m0.map Nw.nd) b m m0.length → grF m0 m b = true := by
  intro m
  induction m with
  | nil =>
    intro b h
    have : b = m0.length := h
    unfold grF
    rw [decide_eq_true (by omega)]
  | cons x m ih =>
    rintro b ⟨i, hx, hn, hs, h⟩
    have hle := hs.le
    rw [List.length_map] at hle
    unfold grF
    rw [hx, hn, decide_eq_true (show (b : Int) ≤ (i : Int) by omega), decide_eq_true (show (i : Int) < (m0.length : Int) by omega), Int.toNat_natCast, Int.toNat_natCast, seg_single hf hs]
    have := ih h
    rw [show ((i : Int) + 1) = ((i + 1 : Nat) : Int) by omega, this]; rfl
theorem parse_good {s : ByteArray} {p : Pg} {l c : Int} (h : parseI s = (p, (l, c), 0)) : (∀ n ∈ p.all, GoodN n) ∧ LetsEnd p.all 0 p.lets p.all.length ∧ (1 ≤ p.ins.length ∧ ∀ x ∈ p.ins, nameB x = true) ∧ (1 ≤ p.outs.length ∧ ∀ x ∈ p.outs, nameB x = true) ∧
    lngB p.all p.ins.length p.lets.length p.outs.length = false ∧ l = 0 ∧ c = 0 := by
  unfold parseI at h
  split at h
  · rename_i h0
    injection h with h1 h2
    injection h2 with h2 h3
    exact absurd h3 h0
  · split at h
    · exfalso
      split at h
      · injection h with h1 h2
        injection h2 with h2 h3
        exact absurd h3 (by decide)
      · injection h with h1 h2
        injection h2 with h2 h3
        exact absurd h3 (by decide)
    · rename_i hb
      split at h
      · injection h with h1 h2
        injection h2 with h2 h3
        exact absurd h3 (by decide)
      · rename_i hl
        injection h with h1 h2
        injection h2 with h2 h3
        injection h2 with h4 h5
        have hb' : (progI numT (lexI s).1).2.bad = false := by simpa using hb
        obtain ⟨g1, g2, g3⟩ := prog_good hb'
        have g4 := prog_fields (makes_good (fun t ht => (lexI_right s t ht).1)) hb'
        subst h1
        exact ⟨g4, g3, g1, g2, by simpa using hl, h4.symm, h5.symm⟩
theorem rgt_good {p : Pg} (hg : ∀ n ∈ p.all, GoodN n) (hl : LetsEnd p.all 0 p.lets p.all.length) (hi : 1 ≤ p.ins.length ∧ ∀ x ∈ p.ins, nameB x = true) (ho : 1 ≤ p.outs.length ∧ ∀ x ∈ p.outs, nameB x = true) (hn : lngB p.all p.ins.length p.lets.length p.outs.length = false) :
    rgtB p.ins p.outs p.lets (p.all.map rawOf) = true := by
  unfold lngB at hn
  simp only [Bool.or_eq_false_iff, decide_eq_false_iff_not] at hn
  obtain ⟨⟨⟨⟨n1, n2⟩, n3⟩, n4⟩, n5⟩ := hn
  have e : (p.all.map rawOf).map Nw.nd = p.all := by
    rw [List.map_map, show (Nw.nd ∘ rawOf) = id from funext nd_raw, List.map_id]
  have g := lets_grown (m0 := p.all.map rawOf) (fun m hm => by obtain ⟨n, hn, rfl⟩ := List.mem_map.1 hm; exact (hg n hn).1) (b := 0) (by rw [e, List.length_map]; exact hl)
  unfold rgtB fewB lowB
  rw [e, List.length_map, n5]
  rw [show ((0 : Int) = ((0 : Nat) : Int)) from rfl, g]
  rw [decide_eq_true (show p.all.length ≤ 400 by omega), decide_eq_true (show p.ins.length ≤ 40 by omega), decide_eq_true (show p.lets.length ≤ 40 by omega), decide_eq_true (show p.outs.length ≤ 40 by omega), decide_eq_true (show 0 < p.ins.length by omega), decide_eq_true (show 0 < p.outs.length by omega), List.all_eq_true.2 hi.2, List.all_eq_true.2 ho.2]; rfl
theorem parse_none {s : ByteArray} {p : Pg} {l c E : Int} (h : parseI s = (p, (l, c), E)) (hE : E ≠ 0) : p = noPg := by
  unfold parseI at h
  split at h
  · injection h with h1 h2; exact h1.symm
  · split at h
    · split at h
      · injection h with h1 h2; exact h1.symm
      · injection h with h1 h2; exact h1.symm
    · split at h
      · injection h with h1 h2; exact h1.symm
      · injection h with h1 h2
        injection h2 with h2 h3
        exact absurd h3.symm hE
structure FineP (p : Pg) : Prop where
  nodes : ∀ n ∈ p.all, GoodN n
  ins : ∀ x ∈ p.ins, nameB x = true
  outs : ∀ x ∈ p.outs, nameB x = true
  lets : ∀ x ∈ p.lets, x.1.size ≤ 40 ∧ 0 ≤ x.2 ∧ x.2 < (p.all.length : Int)
  few : p.ins.length ≤ 40 ∧ p.lets.length ≤ 40 ∧ p.outs.length ≤ 40 ∧ p.all.length ≤ 400
theorem fine_no : FineP noPg := ⟨fun n hn => absurd hn (by simp [noPg]), fun n hn => absurd hn (by simp [noPg]), fun n hn => absurd hn (by simp [noPg]), fun n hn => absurd hn (by simp [noPg]), by decide⟩
theorem name_short {x : ByteArray} (h : nameB x = true) : x.size ≤ 40 := by
  unfold nameB at h
  simp only [Bool.and_eq_true, decide_eq_true_eq] at h
  exact h.1.1.2
theorem LetsEnd.names {l : List Nd} : ∀ {m : List (ByteArray × Int)} {b e : Nat}, LetsEnd l b m e → ∀ x ∈ m, nameB x.1 = true := by
  intro m
  induction m with
  | nil => intro b e _ x hx; exact absurd hx (by simp)
  | cons y m ih =>
    rintro b e ⟨i, -, hn, -, h⟩ x hx
    rcases List.mem_cons.1 hx with rfl | hx
    · exact hn
    · exact ih h x hx
theorem parse_fine {s : ByteArray} {p : Pg} {l c E : Int} (h : parseI s = (p, (l, c), E)) : FineP p := by
  by_cases hE : E = 0
  · subst hE
    obtain ⟨g1, g2, g3, g4, g5, -, -⟩ := parse_good h
    unfold lngB at g5
    simp only [Bool.or_eq_false_iff, decide_eq_false_iff_not] at g5
    obtain ⟨⟨⟨⟨n1, n2⟩, n3⟩, n4⟩, -⟩ := g5
    exact ⟨g1, g3.2, g4.2, fun x hx => ⟨name_short (g2.names x hx), g2.roots x hx⟩, by omega, by omega, by omega, by omega⟩
  · rw [parse_none h hE]; exact fine_no
end Go.Proofs.YtbcfplaalepnbaaGreatDoor
namespace Go.Proofs.YtbcfplaalepnbaaGreatDoor
open Go.RowKit Go.Lib
theorem pg_fine {w : World} {i l o a : Value} {p : Pg} (h : IsPg w i l o a p) (F : FineP p) : ∃ ia ic la lc oa oc aa ac ms, i = .slice ia p.ins.length ic ∧ l = .slice la p.lets.length lc ∧ o = .slice oa p.outs.length oc ∧ a = .slice aa p.all.length ac ∧
    PgR w ia la oa aa p.ins.length p.lets.length p.outs.length p.all.length ac p.ins p.outs p.lets ms ∧ ms.map (·.1) = p.all.map rawOf := by
  obtain ⟨ia, ic, la, lc, oa, oc, aa, ac, ms, rfl, rfl, rfl, rfl, h1, h2, h3, h4, h5, h6, h7⟩ := h
  refine ⟨ia, ic, la, lc, oa, oc, aa, ac, ms, rfl, rfl, rfl, rfl, ⟨h1.isS, h2.isLt, h3.isS, h4, fun m hm => ?_, fun x hx => ?_, h7⟩, h5⟩
  · obtain ⟨⟨x, y, e, q⟩, ⟨x', y', e', q'⟩⟩ := h6 m hm
    have hmm : m.1 ∈ p.all.map rawOf := by rw [← h5]; exact List.mem_map_of_mem hm
    obtain ⟨n, hn, hr⟩ := List.mem_map.1 hmm
    obtain ⟨-, g1, g2, g3⟩ := F.nodes n hn
    have e1 : m.1.xs = natOf n.num.2.1 := by rw [← hr]; rfl
    have e2 : m.1.ys = natOf n.num.2.2 := by rw [← hr]; rfl
    have e3 : m.1.name = n.name := by rw [← hr]; rfl
    exact ⟨⟨x, y, e, e ▸ q⟩, ⟨x', y', e', e' ▸ q'⟩, by rw [e1]; exact wd_natOf _, by rw [e2]; exact wd_natOf _, by rw [e1]; omega, by rw [e2]; omega, by rw [e3]; omega⟩
  · obtain ⟨q1, q2, q3⟩ := F.lets x hx
    have := F.few.2.2.2
    exact ⟨by omega, by omega⟩
end Go.Proofs.YtbcfplaalepnbaaGreatDoor
namespace Go.Proofs.YtbcfplaalepnbaaGreatDoor
open Go.RowKit Go.Lib
def AnsPF (W : World) (p : Pg) (L C E : Int) (e : Ending) (w' : World) : Prop := ∃ ia ic la lc oa oc aa ac ms, e = .returned (.tuple #[.agg #[.slice ia p.ins.length ic, .slice la p.lets.length lc, .slice oa p.outs.length oc, .slice aa p.all.length ac], .agg #[.int .i64 L, .int .i64 C], .int .i64 E]) ∧
  PgR w' ia la oa aa p.ins.length p.lets.length p.outs.length p.all.length ac p.ins p.outs p.lets ms ∧ ms.map (·.1) = p.all.map rawOf ∧ Below W.heap.size W w'
theorem AnsPG.fine {W w' : World} {e : Ending} {p : Pg} {L C E : Int} (h : AnsPG W (p, (L, C), E) e w') (F : FineP p) : AnsPF W p L C E e w' := by
  obtain ⟨i, l, o, a, he, hp, hb⟩ := h
  obtain ⟨ia, ic, la, lc, oa, oc, aa, ac, ms, rfl, rfl, rfl, rfl, P, hm⟩ := pg_fine hp F
  exact ⟨ia, ic, la, lc, oa, oc, aa, ac, ms, he, P, hm, hb⟩
end Go.Proofs.YtbcfplaalepnbaaGreatDoor
namespace Go.Proofs.YtbcfplaalepnbaaGreatDoor
open Go.RowKit
def nameT (P : Program) (k : Nat) (t : TypeId) : String := (P.typeName? k t).getD default
theorem row_err {nm : String} (u : TypeId) (h : Tryz.prog.typeName? 3 u = some nm) (e : Tryz.prog.typeName? 3 255 = some nm) : u = 255 :=
  typeName_ptr_named (nm := nameT Tryz.prog 2 257) (by kernel_rfl) (by kernel_rfl) (by decide +kernel) u (by rw [h, ← e]; kernel_rfl)
theorem block_var {P : Program} {w : World} {n : String} {g : Nat} {cs : Array Value} (hg : P.globalNamed n = some g) (h : w.var? P n = some cs) : ∃ T d, w.heap[g]? = some (.cells cs T d) := by
  unfold World.var? at h
  rw [hg] at h
  replace h : (match w.heap[g]? with | some (.cells cs _ _) => some cs | _ => none) = some cs := h
  split at h
  · rename_i c T d e
    injection h with h
    exact ⟨T, d, by rw [e, h]⟩
  · exact absurd h (by simp)
theorem errv_laid {W : World} {n0 n1 nm0 nm1 : String} {tR tS : List UInt8} {r : List (String × DataW Unit)} (h : laidMet Tryz.prog ((n0, .iface nm0 (.ptr (.agg [.lit (.string tR)]))) :: (n1, .iface nm1 (.ptr (.agg [.lit (.string tS)]))) :: r) W)
    (g0 : Tryz.prog.globalNamed n0 = some 2) (g1 : Tryz.prog.globalNamed n1 = some 1) (r0 : Tryz.prog.typeName? 3 255 = some nm0) (r1 : Tryz.prog.typeName? 3 255 = some nm1) : ErrV W := by
  obtain ⟨a0, s0, hv0, -, -, -⟩ := laid_sentinel h g0 (ti := 188) (by kernel_rfl) Tryz.underlying188 (fun u q => row_err u q r0) Tryz.underlying255 Tryz.underlying257 rfl rfl Tryz.underlying9 (by kernel_rfl) (by kernel_rfl)
  obtain ⟨a1, s1, hv1, -, -, -⟩ := laid_sentinel h.tail g1 (ti := 188) (by kernel_rfl) Tryz.underlying188 (fun u q => row_err u q r1) Tryz.underlying255 Tryz.underlying257 rfl rfl Tryz.underlying9 (by kernel_rfl) (by kernel_rfl)
  obtain ⟨T1, d1, q1⟩ := block_var g1 hv1
  obtain ⟨T0, d0, q0⟩ := block_var g0 hv0
  exact ⟨⟨_, _, T1, d1, q1⟩, ⟨_, _, T0, d0, q0⟩⟩
end Go.Proofs.YtbcfplaalepnbaaGreatDoor
