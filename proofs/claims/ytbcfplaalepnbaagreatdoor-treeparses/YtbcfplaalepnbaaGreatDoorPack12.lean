/-
  Texts of mine put together in build order, as far as TreeParses need them: TreeRefN, TreeAns, TreeWalksA, TreeLawA. No conditions of their own.
-/
import Derived.WalkKit
import Derived.ProofKit
import Derived.Lib.AppendZerosOnto
import Derived.Laws.AppendOwn
import Derived.Laws.AppendOwnNone
import Derived.Test.YtbcfplaalepnbaaGreatDoorRows
import Derived.WalkLawsBesides
import Derived.Deep.QuietTactic
import Derived.BigQuiet
import Derived.Outline
import Derived.Lib.BitFns
import Derived.OpenShut
import Derived.Laws.CopyOwn
import Derived.Lib.DecodeN
import Derived.Deep.LoopGhost
import Derived.Deep.RegionLaw
import Derived.Deep.DrawnRows
import Derived.Deep.RegionWith
import Derived.Deep.RegionHeld3
import Derived.Laws.IdiomStrings
import Derived.Laws.Bits64b
import Derived.RangeFuncNested
import Derived.RangeFuncBound
import Derived.RangeFuncCalls
import Derived.RangeFuncLeaves
import Derived.Shelf.Abstract
import Derived.Shelf.RegionOpen
import Derived.OwnWalkIn
import Derived.TacticsInMore
import Derived.LoopNIn
import Derived.LoopIn
import Derived.Sort.LoopGhostIn
import Derived.Lib.AtoiAll
import Derived.Lib.OthersKept
import Derived.Shelf.Strconv.AtoiAll
import Derived.Shelf.Strconv.ErrVarAll
import Derived.Test.YtbcfplaalepnbaaGreatDoorProg
import Derived.Laws.EntriesVeiled
import Derived.Deep.DeepCutAuto
import Derived.Lib.Bytealg
import Derived.Lib.Strings
import Derived.Lib.BufferWrite
import Derived.Lib.UnsafeStr
import Derived.Laws.MakeOwn
import Derived.Test.YtbcfplaalepnbaaGreatDoorPack1
import Derived.Test.YtbcfplaalepnbaaGreatDoorPack2
import Derived.Test.YtbcfplaalepnbaaGreatDoorPack3
import Derived.Test.YtbcfplaalepnbaaGreatDoorPack4
import Derived.Test.YtbcfplaalepnbaaGreatDoorPack5
import Derived.Test.YtbcfplaalepnbaaGreatDoorPack6
import Derived.Test.YtbcfplaalepnbaaGreatDoorPack7
import Derived.Test.YtbcfplaalepnbaaGreatDoorPack8
import Derived.Test.YtbcfplaalepnbaaGreatDoorPack9
import Derived.Test.YtbcfplaalepnbaaGreatDoorPack10
import Derived.Test.YtbcfplaalepnbaaGreatDoorPack11
namespace Go.Proofs.YtbcfplaalepnbaaGreatDoor
open Go.RowKit Go.Lib
set_option maxRecDepth 100000 in
set_option maxHeartbeats 32000000 in
theorem ref_tparse (s : ByteArray) (hs : s.size ≤ 1000000) (w : World) : Calls Tryz.prog 11 #[.string s] w (AnsPG w (parseI s)) := by
  obtain ⟨b1, b2, bV, hV⟩ := boxes2 w #[.slice none 0 0, .slice none 0 0, .slice none 0 0, .slice none 0 0] #[.int .i64 0, .int .i64 0] 27 29
  have LX := fun v => ref_llex hs v
  unfold AnsX at LX
  unfold parseI
  generalize hl : lexI s = X at *
  obtain ⟨L, ⟨pl, pc⟩, E⟩ := X
  dsimp only at LX ⊢
  by_cases hE : E ≠ 0
  · rw [if_pos hE]
    have e1 : (E != 0) = true := by rw [bne_iff_ne]; exact hE
    have HV : Hid (w.heap.size + 1 < ((w.alloc (.cells #[.slice none 0 0, .slice none 0 0, .slice none 0 0, .slice none 0 0] 27)).alloc (.cells #[.int .i64 0, .int .i64 0] 29)).heap.size) := hV
    clear hl hE hs hV
    go_enter Tryz.func11, Tryz.ntmps11
    go_wp2_with (go_at_call 30; (with_reducible refine Calls.mono (LX _) ?_); rintro e w1 ⟨la, lc, rfl, o1⟩; have N := boxes1 w1 #[.int .i64 pl, .int .i64 pc] 29; have p0 := (N.1.cell 0).1; have p1 := (N.1.cell 1).1; have D1 := (b1.more o1.below).more N.2.1; have D2 := (b2.more o1.below).more N.2.1; have r0 := (D1.cell 0).1; have r1 := (D1.cell 1).1; have r2 := (D1.cell 2).1; have r3 := (D1.cell 3).1; have f0 := (D1.cell 0).2; have f1 := (D1.cell 1).2; have f2 := (D1.cell 2).2; have f3 := (D1.cell 3).2; have q0 := (D2.cell 0).1; have q1 := (D2.cell 1).1; have g0 := (D2.cell 0).2; have g1 := (D2.cell 1).2; have hq : w.heap.size + 1 < w1.heap.size := Nat.lt_of_lt_of_le HV.out o1.below.size)
    have BW := below_more (below_more bV o1.below) N.2.1
    generalize w1.alloc (.cells #[.int .i64 pl, .int .i64 pc] 29) = V2 at *
    clear o1 N b1 b2 bV LX
    go_region
    all_goals go_wp2
    all_goals
      obtain ⟨F, hF, c0, c1, c2, c3, c4, c5, bF, -⟩ := pg_store D1 D2 (Nat.le_refl _) BW (.slice none 0 0) (.slice none 0 0) (.slice none 0 0) (.slice none 0 0) (.int .i64 pl) (.int .i64 pc)
      rw [hF]
      exact bodyPost_ret (v := .tuple #[.agg #[.slice none 0 0, .slice none 0 0, .slice none 0 0, .slice none 0 0], .agg #[.int .i64 pl, .int .i64 pc], .int .i64 E]) (by simp [results, Tryz.results11, go_sem, c0, c1, c2, c3, c4, c5]) rfl (ansPG_no bF.drew)
  · rw [if_neg hE]
    obtain rfl : E = 0 := Decidable.not_not.1 hE
    have hLn : L.length ≤ 4000 := by have := lexI_length s; rw [hl] at this; exact this
    have hTt : ∀ t ∈ L, t.2.1.size ≤ 1000000 := by
      have := lexI_sizes s
      rw [hl] at this
      exact fun t ht => Nat.le_trans (this t ht) hs
    have PG := fun v R la lc (T : Tr w v R la lc (.slice none 0 0) (.slice none 0 0) (.slice none 0 0) L startR) => ref_tprogram T hLn hTt
    have PL := fun v => ref_splace hs s.size v
    have HV : Hid (w.heap.size + 1 < ((w.alloc (.cells #[.slice none 0 0, .slice none 0 0, .slice none 0 0, .slice none 0 0] 27)).alloc (.cells #[.int .i64 0, .int .i64 0] 29)).heap.size) := hV
    clear hl hE hs hV hTt
    have HG : (progI numT L).2.bad = false → Behind (progI numT L).1.all := fun h => (prog_good h).2.2.behind
    have HA := prog_all L
    generalize progI numT L = Z at *
    obtain ⟨p, q⟩ := Z
    dsimp only at PG HG HA ⊢
    by_cases hbad : q.bad = true
    · rw [if_pos hbad]
      have HB : Hid (q.bad = true) := hbad
      cases ht : L[q.pos]? with
      | some t =>
        dsimp only
        have hp := (List.getElem?_eq_some_iff.1 ht).1
        have k1 : (q.pos : Int) < L.length := by omega
        have HQ : Hid (L[q.pos]? = some t) := ht
        clear hbad ht hp PL hLn
        go_enter Tryz.func11, Tryz.ntmps11
        go_wp2_with (first
          | (go_at_call 30; (with_reducible refine Calls.mono (LX _) ?_); rintro e w1 ⟨la, lc, rfl, o1⟩; have N := boxes1 w1 #[.int .i64 pl, .int .i64 pc] 29; have D1 := (b1.more o1.below).more N.2.1; have D2 := (b2.more o1.below).more N.2.1; have hq : w.heap.size + 1 < w1.heap.size := Nat.lt_of_lt_of_le HV.out o1.below.size; have BW := below_more (below_more bV o1.below) N.2.1; have OT := ((o1.outer bV).alloc (.cells #[.int .i64 pl, .int .i64 pc] 29)).alloc (.cells #[.slice la L.length lc, .int .i64 0, .slice none 0 0, .slice none 0 0, .slice none 0 0, .slice none 0 0, .bool false] 64); have T0 := tr_start BW OT)
          | (go_at_call 31; (with_reducible refine Calls.mono (PG _ _ _ _ T0) ?_); rintro e w4 ⟨rfl, ia, ic, ta, tc, oa, oc, T4, OI, OL, OO, K4⟩; have E1 := (D1.alloc _).keep K4 (by unfold TX; decide); have E2 := (D2.alloc _).keep K4 (by unfold TX; decide); obtain ⟨x0, x1, x6, y1, y6⟩ := T4.fields; rw [HB.out] at x6; have c0 := (E1.cell 0).1; have c1 := (E1.cell 1).1; have c2 := (E1.cell 2).1; have c3 := (E1.cell 3).1; have c4 := (E2.cell 0).1; have c5 := (E2.cell 1).1; have f0 := (E1.cell 0).2; have f1 := (E1.cell 1).2; have f2 := (E1.cell 2).2; have f3 := (E1.cell 3).2; have f4 := (E2.cell 0).2; have f5 := (E2.cell 1).2; obtain ⟨gb, rfl, t0, t1, t2, t3⟩ := T4.tok HQ.out; have hT5 := T4; obtain ⟨-, -, -, -, -, -, -, -, hOT⟩ := hT5; have m1 : gb ≠ w.heap.size := fun e => hOT.apart E1 (by decide) (by rw [e]; rfl); have m2 : gb ≠ w.heap.size + 1 := fun e => hOT.apart E2 (by decide) (by rw [e]; rfl)))
        have BW4 := T4.below
        clear OT T0 N D1 D2 BW o1 K4 OI OL OO T4
        go_region
        all_goals go_wp2
        obtain ⟨F, hF, g0, g1, g2, g3, g4, g5, bF, -⟩ := pg_store E1 E2 (Nat.le_refl _) BW4 (.slice none 0 0) (.slice none 0 0) (.slice none 0 0) (.slice none 0 0) (.int .i64 t.2.2.1) (.int .i64 t.2.2.2)
        rw [hF]
        exact bodyPost_ret (v := .tuple #[.agg #[.slice none 0 0, .slice none 0 0, .slice none 0 0, .slice none 0 0], .agg #[.int .i64 t.2.2.1, .int .i64 t.2.2.2], .int .i64 5]) (by simp [results, Tryz.results11, go_sem, g0, g1, g2, g3, g4, g5]) rfl (ansPG_no bF.drew)
      | none =>
        dsimp only
        have hp := List.getElem?_eq_none_iff.1 ht
        have k1 : ¬ (q.pos : Int) < L.length := by omega
        unfold AnsL at PL
        generalize placeI s s.size = pp at *
        obtain ⟨pa, pb⟩ := pp
        dsimp only at PL ⊢
        clear hbad ht hp hLn
        go_enter Tryz.func11, Tryz.ntmps11
        go_wp2_with (first
          | (go_at_call 30; (with_reducible refine Calls.mono (LX _) ?_); rintro e w1 ⟨la, lc, rfl, o1⟩; have N := boxes1 w1 #[.int .i64 pl, .int .i64 pc] 29; have D1 := (b1.more o1.below).more N.2.1; have D2 := (b2.more o1.below).more N.2.1; have hq : w.heap.size + 1 < w1.heap.size := Nat.lt_of_lt_of_le HV.out o1.below.size; have BW := below_more (below_more bV o1.below) N.2.1; have OT := ((o1.outer bV).alloc (.cells #[.int .i64 pl, .int .i64 pc] 29)).alloc (.cells #[.slice la L.length lc, .int .i64 0, .slice none 0 0, .slice none 0 0, .slice none 0 0, .slice none 0 0, .bool false] 64); have T0 := tr_start BW OT)
          | (go_at_call 31; (with_reducible refine Calls.mono (PG _ _ _ _ T0) ?_); rintro e w4 ⟨rfl, ia, ic, ta, tc, oa, oc, T4, OI, OL, OO, K4⟩; have E1 := (D1.alloc _).keep K4 (by unfold TX; decide); have E2 := (D2.alloc _).keep K4 (by unfold TX; decide); obtain ⟨x0, x1, x6, y1, y6⟩ := T4.fields; rw [HB.out] at x6; have c0 := (E1.cell 0).1; have c1 := (E1.cell 1).1; have c2 := (E1.cell 2).1; have c3 := (E1.cell 3).1; have c4 := (E2.cell 0).1; have c5 := (E2.cell 1).1; have f0 := (E1.cell 0).2; have f1 := (E1.cell 1).2; have f2 := (E1.cell 2).2; have f3 := (E1.cell 3).2; have f4 := (E2.cell 0).2; have f5 := (E2.cell 1).2; have BW4 := T4.below)
          | (go_at_call 32; (with_reducible refine Calls.mono (PL _) ?_); rintro e w5 ⟨rfl, d5⟩; have G1 := E1.more d5; have G2 := E2.more d5; have BW5 := below_more BW4 d5; have c0 := (G1.cell 0).1; have c1 := (G1.cell 1).1; have c2 := (G1.cell 2).1; have c3 := (G1.cell 3).1; have c4 := (G2.cell 0).1; have c5 := (G2.cell 1).1; have f0 := (G1.cell 0).2; have f1 := (G1.cell 1).2; have f2 := (G1.cell 2).2; have f3 := (G1.cell 3).2; have f4 := (G2.cell 0).2; have f5 := (G2.cell 1).2))
        obtain ⟨F, hF, g0, g1, g2, g3, g4, g5, bF, -⟩ := pg_store G1 G2 (Nat.le_refl _) BW5 (.slice none 0 0) (.slice none 0 0) (.slice none 0 0) (.slice none 0 0) (.int .i64 pa) (.int .i64 pb)
        rw [hF]
        exact bodyPost_ret (v := .tuple #[.agg #[.slice none 0 0, .slice none 0 0, .slice none 0 0, .slice none 0 0], .agg #[.int .i64 pa, .int .i64 pb], .int .i64 5]) (by simp [results, Tryz.results11, go_sem, g0, g1, g2, g3, g4, g5]) rfl (ansPG_no bF)
    · rw [if_neg hbad]
      have hbad' : q.bad = false := by simpa using hbad
      have HB : Hid (q.bad = false) := hbad'
      have hBh := HG hbad'
      rw [← HA.1] at hBh
      have hn4 : q.all.length ≤ 100000 := by rw [HA.1]; omega
      generalize hr : lngB p.all p.ins.length p.lets.length p.outs.length = r at *
      have LG := fun v ms a (h : IsN v a p.all.length ms) (hm : (ms.map fun m => m.1.nd) = p.all) (hV : ∀ m ∈ ms, (∃ x y z, m.2.1 = .slice x y z) ∧ ∃ x y z, m.2.2 = .slice x y z) ia ic ta tc oa oc c => ref_tlong (c := c) h (by rw [← HA.1]; exact hn4) (by rw [hm, ← HA.1]; exact hBh) hV p.ins.length ic p.lets.length tc p.outs.length oc ia ta oa r (by rw [hm]; exact hr)
      cases r with
      | true =>
        rw [if_pos rfl]
        clear hbad hbad' PL hLn HG hr
        go_enter Tryz.func11, Tryz.ntmps11
        go_wp2_with (first
          | (go_at_call 30; (with_reducible refine Calls.mono (LX _) ?_); rintro e w1 ⟨la, lc, rfl, o1⟩; have N := boxes1 w1 #[.int .i64 pl, .int .i64 pc] 29; have D1 := (b1.more o1.below).more N.2.1; have D2 := (b2.more o1.below).more N.2.1; have hq : w.heap.size + 1 < w1.heap.size := Nat.lt_of_lt_of_le HV.out o1.below.size; have BW := below_more (below_more bV o1.below) N.2.1; have OT := ((o1.outer bV).alloc (.cells #[.int .i64 pl, .int .i64 pc] 29)).alloc (.cells #[.slice la L.length lc, .int .i64 0, .slice none 0 0, .slice none 0 0, .slice none 0 0, .slice none 0 0, .bool false] 64); have T0 := tr_start BW OT)
          | (go_at_call 31; (with_reducible refine Calls.mono (PG _ _ _ _ T0) ?_); rintro e w4 ⟨rfl, ia, ic, ta, tc, oa, oc, T4, OI, OL, OO, K4⟩; have E1 := (D1.alloc _).keep K4 (by unfold TX; decide); have E2 := (D2.alloc _).keep K4 (by unfold TX; decide); obtain ⟨x0, x1, x6, y1, y6⟩ := T4.fields; rw [HB.out] at x6; have c0 := (E1.cell 0).1; have c1 := (E1.cell 1).1; have c2 := (E1.cell 2).1; have c3 := (E1.cell 3).1; have c4 := (E2.cell 0).1; have c5 := (E2.cell 1).1; have f0 := (E1.cell 0).2; have f1 := (E1.cell 1).2; have f2 := (E1.cell 2).2; have f3 := (E1.cell 3).2; have f4 := (E2.cell 0).2; have f5 := (E2.cell 1).2; have BW4 := T4.below; obtain ⟨p2, p3, p4, -, -, -⟩ := T4.cells3; have hT5 := T4; obtain ⟨na, nc, ms, hWR, BX, hON, hms, hnw, hOT⟩ := hT5; have p5 := (BX.cell 5).1; have BI := OwnC.isn (W := w) hON.1; have HMS := nd_map hms; rw [HA.1] at BI HMS p5; have NM : NodesM w w4 na nc p.all := (by rw [← HA.1]; exact ⟨ms, hON, hms, hnw⟩); have HSL := (fun m hm => ⟨(hnw m hm).1.sl, (hnw m hm).2.sl⟩ : ∀ m ∈ ms, (∃ x y z, m.2.1 = .slice x y z) ∧ ∃ x y z, m.2.2 = .slice x y z))
          | (go_at_call 33; (with_reducible refine Calls.mono (LG _ _ _ BI HMS HSL ia ic ta tc oa oc nc) ?_); rintro e w5 ⟨rfl, d5⟩; have G1 := E1.more d5; have G2 := E2.more d5; have BW5 := below_more BW4 d5; have T5 := T4.more d5; have c0 := (G1.cell 0).1; have c1 := (G1.cell 1).1; have c2 := (G1.cell 2).1; have c3 := (G1.cell 3).1; have c4 := (G2.cell 0).1; have c5 := (G2.cell 1).1; have f0 := (G1.cell 0).2; have f1 := (G1.cell 1).2; have f2 := (G1.cell 2).2; have f3 := (G1.cell 3).2; have f4 := (G2.cell 0).2; have f5 := (G2.cell 1).2; obtain ⟨p2, p3, p4, -, -, -⟩ := T5.cells3; have p5 := ((BX.more d5).cell 5).1; rw [HA.1] at p5))
        obtain ⟨F, hF, g0, g1, g2, g3, g4, g5, bF, kF⟩ := pg_store G1 G2 (Nat.le_refl _) BW5 (.slice none 0 0) (.slice none 0 0) (.slice none 0 0) (.slice none 0 0) (.int .i64 1) (.int .i64 1)
        rw [hF]
        exact bodyPost_ret (v := .tuple #[.agg #[.slice none 0 0, .slice none 0 0, .slice none 0 0, .slice none 0 0], .agg #[.int .i64 1, .int .i64 1], .int .i64 4]) (by simp [results, Tryz.results11, go_sem, g0, g1, g2, g3, g4, g5]) rfl (ansPG_no bF)
      | false =>
        rw [if_neg (by simp)]
        clear hbad hbad' PL hLn HG hr
        go_enter Tryz.func11, Tryz.ntmps11
        go_wp2_with (first
          | (go_at_call 30; (with_reducible refine Calls.mono (LX _) ?_); rintro e w1 ⟨la, lc, rfl, o1⟩; have N := boxes1 w1 #[.int .i64 pl, .int .i64 pc] 29; have D1 := (b1.more o1.below).more N.2.1; have D2 := (b2.more o1.below).more N.2.1; have hq : w.heap.size + 1 < w1.heap.size := Nat.lt_of_lt_of_le HV.out o1.below.size; have BW := below_more (below_more bV o1.below) N.2.1; have OT := ((o1.outer bV).alloc (.cells #[.int .i64 pl, .int .i64 pc] 29)).alloc (.cells #[.slice la L.length lc, .int .i64 0, .slice none 0 0, .slice none 0 0, .slice none 0 0, .slice none 0 0, .bool false] 64); have T0 := tr_start BW OT)
          | (go_at_call 31; (with_reducible refine Calls.mono (PG _ _ _ _ T0) ?_); rintro e w4 ⟨rfl, ia, ic, ta, tc, oa, oc, T4, OI, OL, OO, K4⟩; have E1 := (D1.alloc _).keep K4 (by unfold TX; decide); have E2 := (D2.alloc _).keep K4 (by unfold TX; decide); obtain ⟨x0, x1, x6, y1, y6⟩ := T4.fields; rw [HB.out] at x6; have c0 := (E1.cell 0).1; have c1 := (E1.cell 1).1; have c2 := (E1.cell 2).1; have c3 := (E1.cell 3).1; have c4 := (E2.cell 0).1; have c5 := (E2.cell 1).1; have f0 := (E1.cell 0).2; have f1 := (E1.cell 1).2; have f2 := (E1.cell 2).2; have f3 := (E1.cell 3).2; have f4 := (E2.cell 0).2; have f5 := (E2.cell 1).2; have BW4 := T4.below; obtain ⟨p2, p3, p4, -, -, -⟩ := T4.cells3; have hT5 := T4; obtain ⟨na, nc, ms, hWR, BX, hON, hms, hnw, hOT⟩ := hT5; have p5 := (BX.cell 5).1; have BI := OwnC.isn (W := w) hON.1; have HMS := nd_map hms; rw [HA.1] at BI HMS p5; have NM : NodesM w w4 na nc p.all := (by rw [← HA.1]; exact ⟨ms, hON, hms, hnw⟩); have HSL := (fun m hm => ⟨(hnw m hm).1.sl, (hnw m hm).2.sl⟩ : ∀ m ∈ ms, (∃ x y z, m.2.1 = .slice x y z) ∧ ∃ x y z, m.2.2 = .slice x y z))
          | (go_at_call 33; (with_reducible refine Calls.mono (LG _ _ _ BI HMS HSL ia ic ta tc oa oc nc) ?_); rintro e w5 ⟨rfl, d5⟩; have G1 := E1.more d5; have G2 := E2.more d5; have BW5 := below_more BW4 d5; have T5 := T4.more d5; have c0 := (G1.cell 0).1; have c1 := (G1.cell 1).1; have c2 := (G1.cell 2).1; have c3 := (G1.cell 3).1; have c4 := (G2.cell 0).1; have c5 := (G2.cell 1).1; have f0 := (G1.cell 0).2; have f1 := (G1.cell 1).2; have f2 := (G1.cell 2).2; have f3 := (G1.cell 3).2; have f4 := (G2.cell 0).2; have f5 := (G2.cell 1).2; obtain ⟨p2, p3, p4, -, -, -⟩ := T5.cells3; have p5 := ((BX.more d5).cell 5).1; rw [HA.1] at p5))
        obtain ⟨F, hF, g0, g1, g2, g3, g4, g5, bF, kF⟩ := pg_store G1 G2 (Nat.le_refl _) BW5 (.slice ia p.ins.length ic) (.slice ta p.lets.length tc) (.slice oa p.outs.length oc) (.slice na p.all.length nc) (.int .i64 0) (.int .i64 0)
        rw [hF]
        exact bodyPost_ret (v := .tuple #[.agg #[.slice ia p.ins.length ic, .slice ta p.lets.length tc, .slice oa p.outs.length oc, .slice na p.all.length nc], .agg #[.int .i64 0, .int .i64 0], .int .i64 0]) (by simp [results, Tryz.results11, go_sem, g0, g1, g2, g3, g4, g5]) rfl (pg_good OI OL OO NM (Below.refl _ _) d5 kF bF (by decide) (by decide) (by decide) (by decide))
end Go.Proofs.YtbcfplaalepnbaaGreatDoor
namespace Go.Proofs.YtbcfplaalepnbaaGreatDoor
open Go.RowKit Go.Lib
theorem same_pg {w : World} {ia la oa a ia' la' oa' a' : Option Addr} {ic lc oc c ic' lc' oc' c' : Nat} {p : Pg} {ms ms' : List Mn} (F : FineP p) (P : PgR w ia la oa a p.ins.length p.lets.length p.outs.length p.all.length c p.ins p.outs p.lets ms) (hm : ms.map (·.1) = p.all.map rawOf)
    (P' : PgR w ia' la' oa' a' p.ins.length p.lets.length p.outs.length p.all.length c' p.ins p.outs p.lets ms') (hm' : ms'.map (·.1) = p.all.map rawOf) :
    Calls Tryz.prog 12 #[.agg #[.slice ia p.ins.length ic, .slice la p.lets.length lc, .slice oa p.outs.length oc, .slice a p.all.length c], .agg #[.slice ia' p.ins.length ic', .slice la' p.lets.length lc', .slice oa' p.outs.length oc', .slice a' p.all.length c']] w fun e w' => e = .returned (.bool true) ∧ Below w.heap.size w w' :=
  ref_tsame P.hins P'.hins P.hlets P'.hlets P.houts P'.houts P.hall P'.hall P.hnodes P'.hnodes (hm.trans hm'.symm) (by have := F.few; omega)
end Go.Proofs.YtbcfplaalepnbaaGreatDoor
namespace Go.Proofs.YtbcfplaalepnbaaGreatDoor
open Go.RowKit Go.Lib
set_option maxHeartbeats 16000000 in
theorem walk_TreeParses (s : ByteArray) (w : World) (_hs : s.size ≤ maxLen) (he : ErrV w) :
    Calls Tryz.prog 3 #[.string s] w fun e w' => e = .returned (.bool true) ∧ Below w.heap.size w w' := by
  have AW := tree_awake w he
  by_cases h2 : 300 < s.size
  · have k2 : 300 < (s.size : Int) := by omega
    clear _hs he
    go_enter Tryz.func3, Tryz.ntmps3
    go_wp2_with (go_at_call 9; (with_reducible refine Calls.mono AW ?_); rintro e w1 ⟨rfl, b1⟩)
    go_ret
    exact ⟨rfl, b1⟩
  have k2 : ¬ 300 < (s.size : Int) := by omega
  have c1 := fun v (hv : ErrV v) => tree_parse s (by omega) v hv
  have c2 := fun v => ref_tparse s (by omega) v
  obtain ⟨p, ⟨L, C⟩, E, hP⟩ : ∃ p L E, parseI s = (p, L, E) := ⟨_, _, _, rfl⟩
  have F := parse_fine hP
  rw [hP] at c1 c2
  have c1 := fun v (hv : ErrV v) => (c1 v hv).mono (fun _ _ h => h.fine F)
  have c2 := fun v => (c2 v).mono (fun _ _ h => h.fine F)
  clear hP h2 _hs
  unfold AnsPF at c1 c2
  have HF : Hid (FineP p) := F
  clear F
  go_enter Tryz.func3, Tryz.ntmps3
  go_wp2_with (first
    | (go_at_call 9; (with_reducible refine Calls.mono AW ?_); rintro e w1 ⟨rfl, b1⟩)
    | (go_at_call 10; (with_reducible refine Calls.mono (c1 _ (he.below b1)) ?_); rintro e w2 ⟨ia, ic, la, lc, oa, oc, aa, ac, ms, rfl, P1, m1, d2⟩; obtain ⟨B1, B2, bV, -⟩ := boxes2 w2 #[.slice ia p.ins.length ic, .slice la p.lets.length lc, .slice oa p.outs.length oc, .slice aa p.all.length ac] #[.int .i64 L, .int .i64 C] 27 29)
    | (go_at_call 11; (with_reducible refine Calls.mono (c2 _) ?_); rintro e w3 ⟨ja, jc, ka, kc, ra, rc, ba, bc, ns, rfl, P3, m3, d3⟩; obtain ⟨G1, G2, bX, -⟩ := boxes2 w3 #[.slice ja p.ins.length jc, .slice ka p.lets.length kc, .slice ra p.outs.length rc, .slice ba p.all.length bc] #[.int .i64 L, .int .i64 C] 27 29; have hz := d3.size; have D1 := B1.more (below_more d3 bX); have D2 := B2.more (below_more d3 bX); have x0 := (D1.cell 0).1; have x1 := (D1.cell 1).1; have x2 := (D1.cell 2).1; have x3 := (D1.cell 3).1; have y0 := (D2.cell 0).1; have y1 := (D2.cell 1).1; have u0 := (G1.cell 0).1; have u1 := (G1.cell 1).1; have u2 := (G1.cell 2).1; have u3 := (G1.cell 3).1; have v0 := (G2.cell 0).1; have v1 := (G2.cell 1).1)
    | (go_at_call 12; (with_reducible refine Calls.mono (same_pg HF.out (P1.below (below_more bV (below_more d3 bX))) m1 (P3.below bX) m3) ?_); rintro e w4 ⟨rfl, d4⟩))
  go_ret
  exact ⟨by simp, below_more b1 (below_more d2 (below_more bV (below_more d3 (below_more bX d4))))⟩
end Go.Proofs.YtbcfplaalepnbaaGreatDoor
namespace Go.Proofs.YtbcfplaalepnbaaGreatDoor
open Go.RowKit
theorem law_TreeParses (s : ByteArray) (w : World) (_hs : s.size ≤ maxLen) (he : ErrV w) :
    Calls Tryz.prog 3 #[.string s] w fun e w' => e = .returned (.bool true) ∧ Below w.heap.size w w' := walk_TreeParses s w _hs he
end Go.Proofs.YtbcfplaalepnbaaGreatDoor
