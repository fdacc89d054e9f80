/-
  Texts of mine put together in build order, as far as TreeParses, TreeRight need them: LexK, TreeQQ, TreeSame, TreeEx, TreeAwake, TreeAwakeB, RatText, TreeGood, TreeGoodB, TreeAns, ErrLaid. No conditions of their own.
-/
import Derived.Test.YtbcfplaalepnbaaGreatDoorRows
import Derived.WalkKit
import Derived.ProofKit
import Derived.WalkLawsBesides
import Derived.Deep.QuietTactic
import Derived.BigQuiet
import Derived.Outline
import Derived.Lib.AppendZerosOnto
import Derived.Lib.DecodeN
import Derived.Lib.BitFns
import Derived.OpenShut
import Derived.Laws.CopyOwn
import Derived.Deep.LoopGhost
import Derived.Lib.OthersKept
import Derived.Deep.RegionHeld3
import Derived.Lib.Strings
import Derived.Lib.BufferWrite
import Derived.Lib.UnsafeStr
import Derived.Laws.MakeOwn
import Derived.Deep.RegionWith
import Derived.Deep.RegionLaw
import Derived.Deep.DrawnRows
import Derived.Laws.AppendOwn
import Derived.Laws.AppendOwnNone
import Derived.Laws.IdiomStrings
import Derived.Laws.Bits64b
import Derived.RangeFuncNested
import Derived.RangeFuncBound
import Derived.RangeFuncCalls
import Derived.RangeFuncLeaves
import Derived.Shelf.Abstract
import Derived.Shelf.RegionOpen
import Derived.OwnWalkIn
import Derived.TacticsInMore
import Derived.LoopNIn
import Derived.LoopIn
import Derived.Sort.LoopGhostIn
import Derived.Lib.AtoiAll
import Derived.Shelf.Strconv.AtoiAll
import Derived.Test.YtbcfplaalepnbaaGreatDoorProg
import Derived.Laws.EntriesVeiled
import Derived.Deep.DeepCutAuto
import Derived.Lib.Bytealg
import Derived.Stop.LaidErr
import Derived.Test.YtbcfplaalepnbaaGreatDoorPack7
namespace Go.Proofs.YtbcfplaalepnbaaGreatDoor
open Go.RowKit Go.Lib
theorem RdL.reach {W w : World} {t : ByteArray} {L C : Int} {l : List Tok} (h : RdL W w t L C l) : ∃ a c, BoxC w W.heap.size #[.int .i64 0, .int .i64 0] 29 ∧ BoxC w (W.heap.size + 1) #[.string t, .int .i64 L, .int .i64 C, .slice a l.length c] 87 ∧ OwnT W w (.slice a l.length c) l.length l := h
theorem stay_no {W w : World} {t : ByteArray} {L C : Int} {l : List Tok} (h : RdL W w t L C l) (x y : Value) : Below W.heap.size W ((w.setCell ⟨W.heap.size, 0, none⟩ x).setCell ⟨W.heap.size, 1, none⟩ y) :=
  (h.below.setCell (p := ⟨W.heap.size, 0, none⟩) (Nat.le_refl _) x).setCell (p := ⟨W.heap.size, 1, none⟩) (Nat.le_refl _) y
set_option maxRecDepth 100000 in
set_option maxHeartbeats 20000000 in
theorem lex_Lex (s : ByteArray) (hs : s.size ≤ 1000000) (w : World) : Calls Tryz.prog 25 #[.string s] w (AnsX w (lexI s)) := by
  obtain ⟨b1, b2, bV, hV⟩ := boxes2 w #[.int .i64 0, .int .i64 0] #[.string s, .int .i64 1, .int .i64 1, .slice none 0 0] 29 87
  have x0 := (b1.cell 0).2
  have x1 := (b1.cell 1).2
  have z0 := (b2.cell 0).1
  have z1 := (b2.cell 1).1
  have z2 := (b2.cell 2).1
  unfold lexI
  by_cases h6 : 60000 < s.size
  · rw [if_pos h6]
    have k6 : 60000 < (s.size : Int) := by omega
    clear hs h6
    go_enter Tryz.func25, Tryz.ntmps25
    go_wp2
    go_region
    all_goals go_wp2
    obtain ⟨q1, q2, qV, -⟩ := boxes2 w #[.int .i64 1, .int .i64 1] #[.string s, .int .i64 1, .int .i64 1, .slice none 0 0] 29 87
    obtain ⟨y0, y1, -, -⟩ := q1.drew.cells2
    exact bodyPost_ret (v := .tuple #[.slice none 0 0, .agg #[.int .i64 1, .int .i64 1], .int .i64 4]) (by simp [results, Tryz.results25, go_sem, y0, y1]) rfl (ansX_no qV.drew)
  rw [if_neg h6]
  have k6 : ¬ 60000 < (s.size : Int) := by omega
  have hs6 : s.size ≤ 60000 := Nat.not_lt.1 h6
  clear x0 x1 z0 z1 z2
  have R0 : RdL w ((w.alloc (.cells #[.int .i64 0, .int .i64 0] 29)).alloc (.cells #[.string s, .int .i64 1, .int .i64 1, .slice none 0 0] 87)) (s.extract 0 s.size) 1 1 [] := by
    rw [extract_all]
    exact ⟨none, 0, b1, b2, OwnT.nil bV⟩
  have SK := fun v i L C l (q : RdL w v (s.extract i s.size) L C l) (r : Reach s i L C) => lex_skip q hs r
  have S0 := SK _ 0 1 1 [] R0 (Reach.zero s)
  have HS : Hid (s.size ≤ 60000) := hs6
  have HP : Hid (lexF s (s.size + 1) 0 [] = lexF s (s.size + 1) (spanE [3] s 0) []) := lexF_blanks s [] _ 0 (Nat.le_refl _)
  have HK : Hid (kindAt s (spanE [3] s 0) ≠ 3) := blanks_end s _ 0 (Nat.le_refl _)
  have HG : Hid (spanE [3] s 0 ≤ s.size) := (spanE_range [3] s 0).2 (Nat.zero_le _)
  generalize lexF s (s.size + 1) 0 [] = P at *
  generalize spanE [3] s 0 = E0 at *
  clear h6 hs6 b1 b2 bV hV
  go_enter Tryz.func25, Tryz.ntmps25
  go_wp2_with (go_at_call 51; (with_reducible refine Calls.mono S0 ?_); rintro e V ⟨rfl, L0, C0, r0, c0⟩)
  go_loopg [] (s.size - E0) (fun g v => ∃ (i : Nat) (L C : Int) (l : List Tok), i + g = s.size ∧ kindAt s i ≠ 3 ∧ l.length ≤ 4000 ∧ RdL w v (s.extract i s.size) L C l ∧ Reach s i L C ∧ lexF s (s.size + 1) i l = P)
  case atStart => exact ⟨E0, L0, C0, [], by have := HG.out; omega, HK.out, by simp, r0, c0, HP.out.symm⟩
  case round =>
    obtain ⟨i, L, C, l, hg, hk, hl, hR, hr, hF⟩ := hrel
    clear HP HK HG r0 c0 S0 R0
    have hi0 := hr.range.1
    have hz : (s.extract i s.size).size = s.size - i := by rw [ByteArray.size_extract]; omega
    have sh := shifted_rest s hi0
    have hS := HS.out
    obtain ⟨a, c, B1, B2, o⟩ := hR.reach
    have z0 := (B2.cell 0).1
    have z1 := (B2.cell 1).1
    have z2 := (B2.cell 2).1
    have z3 := (B2.cell 3).1
    have x0 := (B1.cell 0).2
    have x1 := (B1.cell 1).2
    have x2 := (B1.cell 0).1
    have x3 := (B1.cell 1).1
    rcases Nat.lt_or_ge i s.size with hi | hi
    · have e0 : ((s.extract i s.size).toList == []) = false := text_full (by omega)
      have hT := lexF_step (out := l) hi
      rw [hF, if_neg hk] at hT
      have hpl := hr.here hi
      by_cases h4 : 4000 ≤ l.length
      · rw [if_pos h4, hpl] at hT
        have HT : Hid (P = ([], (L, C), 4)) := hT
        have e4 : ((l.length : Int) == 4000) = true := by rw [beq_iff_eq]; omega
        have HR : Hid (RdL w wr (s.extract i s.size) L C l) := hR
        have hq : w.heap.size < wr.heap.size := B1.lt
        generalize s.extract i s.size = t at *
        generalize l.length = n at *
        clear hF hT hpl h4 hg hk hl hR hr hi0 hz sh hS B1 B2 o hi SK hs
        go_wp2
        go_region
        all_goals go_wp2
        have HT2 := HT.out
        subst HT2
        obtain ⟨a', c', B1', B2', o'⟩ := HR.out.reach
        obtain ⟨y0, y1, -, -⟩ := ((B1'.set 0 (.int .i64 L)).set 1 (.int .i64 C)).drew.cells2
        exact bodyPost_ret (v := .tuple #[.slice none 0 0, .agg #[.int .i64 L, .int .i64 C], .int .i64 4]) (by simp [results, Tryz.results25, go_sem, y0, y1]) rfl (ansX_no (stay_no HR.out _ _).drew)
      · rw [if_neg h4] at hT
        have e4 : ((l.length : Int) == 4000) = false := by rw [beq_eq_false_iff_ne]; omega
        have hkt := (sh.kind 0).1
        have htk := sh.token 0
        rw [Nat.add_zero] at hkt htk
        have hL := hr.range
        have hl3 : l.length ≤ 4000 := hl
        have hrd : ∃ N, (N = 79 ∨ N = 80 ∨ N = 81 ∨ N = 82) ∧ (∀ v, RdL w v (s.extract i s.size) L C l → Calls Tryz.prog 52 #[.pointer (some ⟨w.heap.size + 1, 0, none⟩)] v fun e w' => e = .returned (.func (.func N) #[.pointer (some ⟨w.heap.size + 1, 0, none⟩)] #[]) ∧ RdL w w' (s.extract i s.size) L C l) ∧
            (∀ v, RdL w v (s.extract i s.size) L C l → Calls Tryz.prog N #[.pointer (some ⟨w.heap.size + 1, 0, none⟩)] v (AnsRL w (s.extract i s.size) L C l)) := by
          by_cases q1 : kindAt (s.extract i s.size) 0 = 1
          · exact ⟨_, .inl rfl, fun v q => lex_next q (by omega) (by omega) _ (.inl ⟨q1, rfl⟩), fun v q => lex_word q (by omega) (by omega) (by omega) hl3 q1⟩
          by_cases q2 : kindAt (s.extract i s.size) 0 = 2
          · exact ⟨_, .inr (.inl rfl), fun v q => lex_next q (by omega) (by omega) _ (.inr (.inl ⟨q2, rfl⟩)), fun v q => lex_number q (by omega) (by omega) (by omega) hl3 q2⟩
          by_cases q4 : kindAt (s.extract i s.size) 0 = 4
          · exact ⟨_, .inr (.inr (.inl rfl)), fun v q => lex_next q (by omega) (by omega) _ (.inr (.inr (.inl ⟨q4, rfl⟩))), fun v q => lex_mark q (by omega) (by omega) (by omega) hl3 q4⟩
          · exact ⟨_, .inr (.inr (.inr rfl)), fun v q => lex_next q (by omega) (by omega) _ (.inr (.inr (.inr ⟨⟨q1, q2, q4⟩, rfl⟩))), fun v q => lex_nothing q ⟨q1, q2, q4⟩⟩
        obtain ⟨N, hN, NX, RD⟩ := hrd
        have hend := tokenI_end hi
        rw [htk] at hT hend
        dsimp only at hT hend
        by_cases her : (tokenI (s.extract i s.size) 0).2.2.2 = 0
        · rw [if_neg (fun e => e her), hpl] at hT
          obtain ⟨q1, q2⟩ := hend her
          have RD2 : ∀ v, RdL w v (s.extract i s.size) L C l → Calls Tryz.prog N #[.pointer (some ⟨w.heap.size + 1, 0, none⟩)] v fun e w' => e = .returned (.int .i64 0) ∧ ∃ L' C', RdL w w' (s.extract (i + (tokenI (s.extract i s.size) 0).2.2.1) s.size) L' C' (l ++ [((tokenI (s.extract i s.size) 0).1, (tokenI (s.extract i s.size) 0).2.1, L, C)]) ∧ Reach s (i + (tokenI (s.extract i s.size) 0).2.2.1) L' C' := by
            intro v q
            refine (RD v q).mono ?_
            rintro e w' ⟨h1, h2, -⟩
            obtain ⟨p', c', h3, h5⟩ := h2 her
            rw [her] at h1
            rw [extract_more] at h5
            exact ⟨h1, _, _, h5, hr.on sh h3⟩
          generalize (tokenI (s.extract i s.size) 0).2.2.1 = E at *
          generalize (tokenI (s.extract i s.size) 0).1 = k0 at *
          generalize (tokenI (s.extract i s.size) 0).2.1 = u at *
          rw [lexF_blanks s _ _ (i + E) (Nat.le_refl _)] at hT
          have HT : Hid (P = lexF s (s.size + 1) (spanE [3] s (i + E)) (l ++ [(k0, u, L, C)])) := hT
          have hr2 := spanE_range [3] s (i + E)
          have HI : Hid (kindAt s (spanE [3] s (i + E)) ≠ 3 ∧ i < spanE [3] s (i + E) ∧ spanE [3] s (i + E) ≤ s.size ∧ i + gk = s.size ∧ l.length < 4000) := ⟨blanks_end s _ (i + E) (Nat.le_refl _), by omega, hr2.2 (by omega), hg, by omega⟩
          have HR : Hid (RdL w wr (s.extract i s.size) L C l) := hR
          have SK2 := fun v L' C' (q : RdL w v (s.extract (i + E) s.size) L' C' (l ++ [(k0, u, L, C)])) (r : Reach s (i + E) L' C') => SK v (i + E) L' C' _ q r
          generalize spanE [3] s (i + E) = I at *
          generalize s.extract i s.size = t at *
          generalize hn : l.length = n at *
          have HN : Hid (l.length = n) := hn
          clear hF hT hpl h4 hg hk hl hl3 hR hr hi0 hz sh hS B1 B2 o hi SK hs hend hr2 q1 q2 RD hL hkt htk her hn x0 x1 x2 x3
          rcases hN with rfl | rfl | rfl | rfl
          all_goals
            go_wp2_with (first
              | (go_at_call 52; (with_reducible refine Calls.mono (NX _ HR.out) ?_); rintro e w1 ⟨rfl, r1⟩)
              | (go_at_call 79; (with_reducible refine Calls.mono (RD2 _ r1) ?_); rintro e w2 ⟨rfl, L1, C1, r2, g2⟩)
              | (go_at_call 80; (with_reducible refine Calls.mono (RD2 _ r1) ?_); rintro e w2 ⟨rfl, L1, C1, r2, g2⟩)
              | (go_at_call 81; (with_reducible refine Calls.mono (RD2 _ r1) ?_); rintro e w2 ⟨rfl, L1, C1, r2, g2⟩)
              | (go_at_call 82; (with_reducible refine Calls.mono (RD2 _ r1) ?_); rintro e w2 ⟨rfl, L1, C1, r2, g2⟩)
              | (go_at_call 51; (with_reducible refine Calls.mono (SK2 _ _ _ r2 g2) ?_); rintro e w3 ⟨rfl, L2, C2, r3, g3⟩))
            obtain ⟨j1, j2, j3, j4, j5⟩ := HI.out
            go_roundg (s.size - I)
            case measure => omega
            case rel => exact ⟨I, L2, C2, _, by omega, j1, by rw [List.length_append, HN.out]; exact j5, r3, g3, HT.out.symm⟩
        · rw [if_pos her, hpl] at hT
          have HT : Hid (P = ([], (L, C), (tokenI (s.extract i s.size) 0).2.2.2)) := hT
          have RD2 : ∀ v, RdL w v (s.extract i s.size) L C l → Calls Tryz.prog N #[.pointer (some ⟨w.heap.size + 1, 0, none⟩)] v fun e w' => e = .returned (.int .i64 (tokenI (s.extract i s.size) 0).2.2.2) ∧ RdL w w' (s.extract i s.size) L C l := by
            intro v q
            refine (RD v q).mono ?_
            rintro e w' ⟨h1, -, h2⟩
            exact ⟨h1, h2 her⟩
          generalize (tokenI (s.extract i s.size) 0).2.2.2 = er at *
          have e5 : (er != 0) = true := by rw [bne_iff_ne]; exact her
          have HR : Hid (RdL w wr (s.extract i s.size) L C l) := hR
          generalize s.extract i s.size = t at *
          generalize hn : l.length = n at *
          clear hF hT hpl h4 hg hk hl hl3 hR hr hi0 hz sh hS B1 B2 o hi SK hs hend RD hL hkt htk her hn x0 x1 x2 x3
          rcases hN with rfl | rfl | rfl | rfl
          all_goals
            go_wp2_with (first
              | (go_at_call 52; (with_reducible refine Calls.mono (NX _ HR.out) ?_); rintro e w1 ⟨rfl, r1⟩)
              | (go_at_call 79; (with_reducible refine Calls.mono (RD2 _ r1) ?_); rintro e w2 ⟨rfl, r2⟩)
              | (go_at_call 80; (with_reducible refine Calls.mono (RD2 _ r1) ?_); rintro e w2 ⟨rfl, r2⟩)
              | (go_at_call 81; (with_reducible refine Calls.mono (RD2 _ r1) ?_); rintro e w2 ⟨rfl, r2⟩)
              | (go_at_call 82; (with_reducible refine Calls.mono (RD2 _ r1) ?_); rintro e w2 ⟨rfl, r2⟩))
            obtain ⟨a2, c2, D1, D2, o2⟩ := r2.reach
            have z0 := (D2.cell 0).1
            have z1 := (D2.cell 1).1
            have z2 := (D2.cell 2).1
            have x0 := (D1.cell 0).2
            have x1 := (D1.cell 1).2
            have x2 := (D1.cell 0).1
            have x3 := (D1.cell 1).1
            have hq : w.heap.size < w2.heap.size := D1.lt
            go_region
            all_goals go_wp2
            have HT2 := HT.out
            subst HT2
            obtain ⟨y0, y1, -, -⟩ := ((D1.set 0 (.int .i64 L)).set 1 (.int .i64 C)).drew.cells2
            exact bodyPost_ret (v := .tuple #[.slice none 0 0, .agg #[.int .i64 L, .int .i64 C], .int .i64 er]) (by simp [results, Tryz.results25, go_sem, y0, y1]) rfl (ansX_no (stay_no r2 _ _).drew)
    · have e0 : ((s.extract i s.size).toList == []) = true := text_empty (by omega)
      rw [lexF_end (out := l) (Nat.not_lt.2 hi)] at hF
      subst hF
      have HO : Hid (OwnT w wr (.slice a l.length c) l.length l ∧ BoxC wr w.heap.size #[.int .i64 0, .int .i64 0] 29) := ⟨o, B1⟩
      generalize s.extract i s.size = t at *
      generalize hn : l.length = n at *
      clear hg hk hl hR hr hi0 hz sh hS B1 B2 o hi SK hs
      go_wp2
      subst hn
      obtain ⟨o', B1'⟩ := HO.out
      obtain ⟨y0, y1, -, -⟩ := ((B1'.set 0 (.int .i64 0)).set 1 (.int .i64 0)).cells2
      exact bodyPost_ret (v := .tuple #[.slice a l.length c, .agg #[.int .i64 0, .int .i64 0], .int .i64 0]) (by simp [results, Tryz.results25, go_sem, y0, y1]) rfl ⟨a, c, rfl, (o'.box B1' place_ne_tok (Nat.le_refl _) 0 _).box (B1'.set 0 _) place_ne_tok (Nat.le_refl _) 1 _⟩
end Go.Proofs.YtbcfplaalepnbaaGreatDoor
namespace Go.Proofs.YtbcfplaalepnbaaGreatDoor
open Go.RowKit Go.Lib
theorem lexI_toks {s : ByteArray} (hs : s.size ≤ 1000000) : Toks (lexI s).1 := ⟨lexI_length s, fun t ht => ⟨(lexI_right s t ht).1, Nat.le_trans (lexI_right s t ht).2 hs⟩⟩
theorem tq_start {V w2 : World} {R : Nat} {la : Option Addr} {lc : Nat} {L : List Tok} (hR : V.heap.size ≤ R) (B : BoxC w2 R #[.slice la L.length lc, .slice none 0 0, .slice none 0 0, .slice none 0 0, .slice none 0 0, .slice none 0 0] 59) (hT : OwnT V w2 (.slice la L.length lc) L.length L) :
    Tq V w2 R la lc (.slice none 0 0) (.slice none 0 0) (.slice none 0 0) L 0 [] [] := by
  refine ⟨la, lc, none, 0, none, 0, hR, B, ⟨[], OwnC.nil hT.below, rfl, fun m hm => absurd hm (by simp)⟩, OwnC.nil hT.below, Nat.zero_le _, hT, fun h0 => ?_⟩
  rcases hT.1.2 with ⟨-, e⟩ | ⟨g, cap, cur, e, h1, h2, h3, -⟩
  · omega
  · injection e with e1 e2 e3
    subst e1; subst e3
    exact ⟨g, rfl, rfl, rfl, h3⟩
theorem long_few {p : Pg} {f lw : Bool} (hf : (decide (p.all.length ≤ 400) && decide (p.ins.length ≤ 40) && decide (p.lets.length ≤ 40) && decide (p.outs.length ≤ 40)) = f) (hl : (!(List.range p.all.length).any fun k => decide (60 < tallI p.all k)) = lw) : lngB p.all p.ins.length p.lets.length p.outs.length = (!f || !lw) := by
  subst hf; subst hl
  unfold lngB
  have e : ∀ a b : Nat, decide (a < b) = !decide (b ≤ a) := fun a b => by
    by_cases h : b ≤ a
    · rw [decide_eq_true h, decide_eq_false (by omega)]; rfl
    · rw [decide_eq_false h, decide_eq_true (by omega)]; rfl
  rw [e, e, e, e, Bool.not_and, Bool.not_and, Bool.not_and, Bool.not_not]
theorem Tq.prog {W w : World} {R : Nat} {ta : Option Addr} {tc : Nat} {i l o : Value} {L : List Tok} {p : Nat} {al : List Nd} {S : List It} (h : Tq W w R ta tc i l o L p al S) : ∃ a c, w.cell? ⟨R, 1, none⟩ = some i ∧ w.cell? ⟨R, 2, none⟩ = some l ∧ w.cell? ⟨R, 3, none⟩ = some o ∧ w.cell? ⟨R, 4, none⟩ = some (.slice a al.length c) ∧ NodesM W w a c al := by
  obtain ⟨la, lc, a, c, sa, sc, hW, B, hN, hS, hT⟩ := h
  exact ⟨a, c, (B.cell 1).1, (B.cell 2).1, (B.cell 3).1, (B.cell 4).1, hN⟩
theorem NodesM.isn {W w : World} {a : Option Addr} {c : Nat} {al : List Nd} (h : NodesM W w a c al) : ∃ ms, IsN w a al.length ms ∧ (ms.map fun m => m.1.nd) = al ∧ ms.map (·.1) = al.map rawOf ∧ (∀ m ∈ ms, (∃ x y z, m.2.1 = .slice x y z) ∧ ∃ x y z, m.2.2 = .slice x y z) ∧ ∀ m ∈ ms, NumW W w m := by
  obtain ⟨ms, h1, h2, h3⟩ := h
  exact ⟨ms, OwnC.isn (W := W) h1.1, nd_map h2, h2, fun m hm => ⟨(h3 m hm).1.sl, (h3 m hm).2.sl⟩, h3⟩
theorem parseI_err {s : ByteArray} {L : List Tok} {pl pc E : Int} (hl : lexI s = (L, (pl, pc), E)) (hE : E ≠ 0) : parseI s = (noPg, (pl, pc), E) := by
  unfold parseI
  rw [hl, if_pos hE]
theorem parseI_bad {s : ByteArray} {L : List Tok} {pl pc : Int} (hl : lexI s = (L, (pl, pc), 0)) (hb : (progI numT L).2.bad = true) : parseI s = (noPg, plcI s L (progI numT L).2.pos, 5) := by
  unfold parseI plcI
  rw [hl, if_neg (by simp)]
  dsimp only
  rw [if_pos hb]
  cases L[(progI numT L).2.pos]? <;> rfl
theorem parseI_rest {s : ByteArray} {L : List Tok} {pl pc : Int} (hl : lexI s = (L, (pl, pc), 0)) (hb : (progI numT L).2.bad = false) {r : Bool} (hr : lngB (progI numT L).1.all (progI numT L).1.ins.length (progI numT L).1.lets.length (progI numT L).1.outs.length = r) : parseI s = if r = true then (noPg, (1, 1), 4) else ((progI numT L).1, (0, 0), 0) := by
  unfold parseI
  rw [hl, if_neg (by simp)]
  dsimp only
  rw [if_neg (by rw [hb]; simp), hr]
theorem words_row {w : World} {B : Nat} {v : Value} {n : Nat} {xs : List Int} (h : w.ownsRow B 84 1 v n (xs.map (Value.int .u32))) : IsWords w v xs := by
  have hl : xs.length = n := by have := h.1; rw [List.length_map] at this; omega
  rcases h.2 with ⟨rfl, rfl⟩ | ⟨g, cap, cur, rfl, -, hg, hnc, hcm, -, -⟩
  · exact .inl ⟨rfl, List.eq_nil_of_length_eq_zero hl⟩
  · refine .inr ⟨⟨g, 0, none⟩, cap, by rw [hl], by omega, hcm, fun i hi => ?_⟩
    refine h.cells (g := g) rfl i _ ?_
    simp [hi]
theorem pg_good {V w w3 w4 w5 F : World} {B : Nat} {ia ta oa aa : Option Addr} {ic tc oc ac : Nat} {p : Pg} {P Q : TypeId} (OI : w3.ownsRow B 9 1 (.slice ia p.ins.length ic) p.ins.length (flat encS p.ins)) (OL : w3.ownsRow B 46 2 (.slice ta p.lets.length tc) p.lets.length (flat encL p.lets)) (OO : w3.ownsRow B 9 1 (.slice oa p.outs.length oc) p.outs.length (flat encS p.outs))
    (NM : NodesM V w4 aa ac p.all) (d4 : Below w3.heap.size w3 w4) (d5 : Below w4.heap.size w4 w5) (kF : Keep (fun T => T = P ∨ T = Q) w5 F) (bF : Below w.heap.size w F) (h1 : ¬ (9 = P ∨ 9 = Q)) (h2 : ¬ (46 = P ∨ 46 = Q)) (h3 : ¬ (44 = P ∨ 44 = Q)) (h4 : ¬ (84 = P ∨ 84 = Q)) :
    AnsPG w (p, (0, 0), 0) (.returned (.tuple #[.agg #[.slice ia p.ins.length ic, .slice ta p.lets.length tc, .slice oa p.outs.length oc, .slice aa p.all.length ac], .agg #[.int .i64 0, .int .i64 0], .int .i64 0])) F := by
  have RD : ∀ {T : TypeId} {k : Nat} {a : Option Addr} {n c : Nat} {cs : List Value} {B : Nat}, F.ownsRow B T k (.slice a n c) n cs → IsC k F a n cs := by
    intro T k a n c cs B h
    refine ⟨h.1, ?_⟩
    rcases h.2 with ⟨-, h0⟩ | ⟨g, cap, cur, e, hb, hg, h5, h6, h7, h8⟩
    · exact .inl h0
    · injection e with e1 e2 e3
      subst e1
      refine .inr ⟨_, rfl, fun j u hj => ?_⟩
      have hB : BoxC F g cur T := hg
      rw [← h8, List.getElem?_take] at hj
      split at hj
      · have := (hB.cell j).1
        rw [Array.getElem?_toList] at hj
        rw [hj] at this
        have e2 : (⟨g, 0, none⟩ : Addr).add j = ⟨g, j, none⟩ := by cases j <;> simp [Addr.add]
        rw [e2]; exact this
      · exact absurd hj (by simp)
  have KK : Keep (fun T => T = P ∨ T = Q) w3 F := ((Keep.of _ d4).more d5).trans kF
  have K4 : Keep (fun T => T = P ∨ T = Q) w4 F := (Keep.of _ d5).trans kF
  obtain ⟨ms, m1, m2, m3⟩ := NM
  refine ⟨_, _, _, _, rfl, ⟨ia, ic, ta, tc, oa, oc, aa, ac, ms, rfl, rfl, rfl, rfl, RD (ownsRow_keep OI KK h1), RD (ownsRow_keep OL KK h2), RD (ownsRow_keep OO KK h1), ?_, m2, fun m hm => ?_, ?_⟩, bF⟩
  · exact OwnC.isn (W := V) (ownsRow_keep m1.1 K4 h3)
  · obtain ⟨q1, q2⟩ := m3 m hm
    obtain ⟨x1, y1, e1⟩ := q1.lit
    obtain ⟨x2, y2, e2⟩ := q2.lit
    refine ⟨⟨x1, y1, e1, ?_⟩, ⟨x2, y2, e2, ?_⟩⟩
    · rw [e1] at q1 ⊢
      exact words_row (ownsRow_keep q1.1 K4 h4)
    · rw [e2] at q2 ⊢
      exact words_row (ownsRow_keep q2.1 K4 h4)
  · show p.all.length ≤ ac
    rcases m1.1.2 with ⟨-, h0⟩ | ⟨g, cap, cur, e, hb, hg, h5, -⟩
    · omega
    · injection e with e1 e2 e3
      omega
set_option maxRecDepth 100000 in
set_option maxHeartbeats 32000000 in
theorem tree_parse (s : ByteArray) (hs : s.size ≤ 1000000) (w : World) (he : ErrV w) : Calls Tryz.prog 10 #[.string s] w (AnsPG w (parseI s)) := by
  obtain ⟨b1, b2, bV, hV⟩ := boxes2 w #[.slice none 0 0, .slice none 0 0, .slice none 0 0, .slice none 0 0] #[.int .i64 0, .int .i64 0] 27 29
  have heV := he.below bV
  have hTk := lexI_toks hs
  obtain ⟨V, hVV⟩ : ∃ V, (w.alloc (.cells #[.slice none 0 0, .slice none 0 0, .slice none 0 0, .slice none 0 0] 27)).alloc (.cells #[.int .i64 0, .int .i64 0] 29) = V := ⟨_, rfl⟩
  have LX0 := lex_Lex s hs V
  have LX : Calls Tryz.prog 25 #[.string s] ((w.alloc (.cells #[.slice none 0 0, .slice none 0 0, .slice none 0 0, .slice none 0 0] 27)).alloc (.cells #[.int .i64 0, .int .i64 0] 29)) (AnsX V (lexI s)) := by rw [hVV]; exact LX0
  clear LX0
  rw [hVV] at b1 b2 bV hV heV
  unfold AnsX at LX
  have PLC := fun (w3 : World) (R : Nat) ta tc (i l o : Value) L p al S (T : Tq V w3 R ta tc i l o L p al S) => q_place T s hs
  obtain ⟨⟨L, ⟨pl, pc⟩, E⟩, hl⟩ : ∃ X, lexI s = X := ⟨_, rfl⟩
  rw [hl] at LX hTk
  dsimp only at LX hTk
  have PG := fun (w2 : World) (R : Nat) la lc (T : Tq V w2 R la lc (.slice none 0 0) (.slice none 0 0) (.slice none 0 0) L 0 [] []) => q_program T hTk heV
  by_cases hE : E ≠ 0
  · rw [parseI_err hl hE]
    have e1 : (E != 0) = true := by rw [bne_iff_ne]; exact hE
    have hVs : w.heap.size + 1 < V.heap.size := hV
    clear hl hE hs he heV hTk PLC PG hV hVV
    go_enter Tryz.func10, Tryz.ntmps10
    go_wp2_with (go_at_call 25; (with_reducible refine Calls.mono LX ?_); rintro e w1 ⟨la, lc, rfl, o1⟩; have N := boxes1 w1 #[.int .i64 pl, .int .i64 pc] 29; have p0 := (N.1.cell 0).1; have p1 := (N.1.cell 1).1; have D1 := (b1.more o1.below).more N.2.1; have D2 := (b2.more o1.below).more N.2.1; have BV1 := below_more o1.below N.2.1; have hq : w.heap.size + 1 < w1.heap.size := Nat.lt_of_lt_of_le hVs o1.below.size; have c0 := (D1.cell 0).1; have c1 := (D1.cell 1).1; have c2 := (D1.cell 2).1; have c3 := (D1.cell 3).1; have c4 := (D2.cell 0).1; have c5 := (D2.cell 1).1; have f0 := (D1.cell 0).2; have f1 := (D1.cell 1).2; have f2 := (D1.cell 2).2; have f3 := (D1.cell 3).2; have f4 := (D2.cell 0).2; have f5 := (D2.cell 1).2)
    generalize w1.alloc (.cells #[.int .i64 pl, .int .i64 pc] 29) = V2 at *
    clear o1 N b1 b2 LX
    go_region
    all_goals go_wp2
    all_goals
      obtain ⟨F, hF, g0, g1, g2, g3, g4, g5, bF, kF⟩ := pg_store D1 D2 (Nat.le_refl _) (below_more bV BV1) (.slice none 0 0) (.slice none 0 0) (.slice none 0 0) (.slice none 0 0) (.int .i64 pl) (.int .i64 pc)
      rw [hF]
      exact bodyPost_ret (v := .tuple #[.agg #[.slice none 0 0, .slice none 0 0, .slice none 0 0, .slice none 0 0], .agg #[.int .i64 pl, .int .i64 pc], .int .i64 E]) (by simp [results, Tryz.results10, go_sem, g0, g1, g2, g3, g4, g5]) rfl (ansPG_no bF.drew)
  · obtain rfl : E = 0 := Decidable.not_not.1 hE
    have hVs : w.heap.size + 1 < V.heap.size := hV
    have HG : (progI numT L).2.bad = false → Behind (progI numT L).1.all ∧ ∀ x ∈ (progI numT L).1.all, 0 ≤ x.kind ∧ x.kind ≤ 7 := fun h => ⟨(prog_good h).2.2.behind, prog_kinds h⟩
    have HA := (prog_all L).2
    have hn4 := hTk.len
    unfold AnsPr at PG
    cases hbad : (progI numT L).2.bad with
    | true =>
      rw [parseI_bad hl hbad]
      rw [hbad] at PG
      have PL := fun (w3 : World) (R : Nat) ta tc (i l o : Value) al S (T : Tq V w3 R ta tc i l o L (progI numT L).2.pos al S) => PLC w3 R ta tc i l o L (progI numT L).2.pos al S T
      generalize plcI s L (progI numT L).2.pos = zz at *
      obtain ⟨zl, zc⟩ := zz
      dsimp only at PL
      generalize (progI numT L).2.pos = Q at *
      clear PLC hl hE hs he heV hTk hV hVV HG HA hn4 hbad
      go_enter Tryz.func10, Tryz.ntmps10
      go_wp2_with (first
        | (go_at_call 25; ((with_reducible refine Calls.mono LX ?_); rintro e w1 ⟨la, lc, rfl, o1⟩; have N := boxes1 w1 #[.int .i64 pl, .int .i64 pc] 29; have D1 := (b1.more o1.below).more N.2.1; have D2 := (b2.more o1.below).more N.2.1; have BV1 := below_more o1.below N.2.1; have hq : w.heap.size + 1 < w1.heap.size := Nat.lt_of_lt_of_le hVs o1.below.size; have NR := boxes1 (w1.alloc (.cells #[.int .i64 pl, .int .i64 pc] 29)) #[.slice la L.length lc, .slice none 0 0, .slice none 0 0, .slice none 0 0, .slice none 0 0, .slice none 0 0] 59; have hz1 : (w1.alloc (.cells #[.int .i64 pl, .int .i64 pc] 29)).heap.size = w1.heap.size + 1 := (by simp); have NB := NR.1; rw [hz1] at NB; have T0 := tq_start (by have := BV1.size; omega) NB ((o1.alloc (.cells #[.int .i64 pl, .int .i64 pc] 29)).more NR.2.1)))
        | (go_at_call 26; (with_reducible refine Calls.mono (PG _ _ _ _ T0) ?_); rintro e w3 ⟨rfl, ⟨ia, il, ic, ta, ll, tc, oa, ol, oc, al, S, T3, -⟩, K3⟩; have E1 := (D1.more NR.2.1).keep K3 (by unfold TYL TY; decide); have E2 := (D2.more NR.2.1).keep K3 (by unfold TYL TY; decide))
        | (go_at_call 27; (with_reducible refine Calls.mono (PL _ _ _ _ _ _ _ _ _ T3) ?_); rintro e w4 ⟨rfl, d4⟩; have G1 := E1.more d4; have G2 := E2.more d4; have BW4 := below_more T3.below d4; have c0 := (G1.cell 0).1; have c1 := (G1.cell 1).1; have c2 := (G1.cell 2).1; have c3 := (G1.cell 3).1; have c4 := (G2.cell 0).1; have c5 := (G2.cell 1).1; have f0 := (G1.cell 0).2; have f1 := (G1.cell 1).2; have f2 := (G1.cell 2).2; have f3 := (G1.cell 3).2; have f4 := (G2.cell 0).2; have f5 := (G2.cell 1).2))
      obtain ⟨F, hF, g0, g1, g2, g3, g4, g5, bF, kF⟩ := pg_store G1 G2 (Nat.le_refl _) (below_more bV BW4) (.slice none 0 0) (.slice none 0 0) (.slice none 0 0) (.slice none 0 0) (.int .i64 zl) (.int .i64 zc)
      rw [hF]
      exact bodyPost_ret (v := .tuple #[.agg #[.slice none 0 0, .slice none 0 0, .slice none 0 0, .slice none 0 0], .agg #[.int .i64 zl, .int .i64 zc], .int .i64 5]) (by simp [results, Tryz.results10, go_sem, g0, g1, g2, g3, g4, g5]) rfl (ansPG_no bF)
    | false =>
      obtain ⟨hBh, hKd⟩ := HG hbad
      rw [hbad] at PG
      obtain ⟨f, hf⟩ : ∃ f, (decide ((progI numT L).1.all.length ≤ 400) && decide ((progI numT L).1.ins.length ≤ 40) && decide ((progI numT L).1.lets.length ≤ 40) && decide ((progI numT L).1.outs.length ≤ 40)) = f := ⟨_, rfl⟩
      obtain ⟨lw, hlw⟩ : ∃ lw, (!(List.range (progI numT L).1.all.length).any fun k => decide (60 < tallI (progI numT L).1.all k)) = lw := ⟨_, rfl⟩
      rw [parseI_rest hl hbad (long_few hf hlw)]
      generalize (progI numT L).1 = p at *
      generalize (progI numT L).2.pos = Q at *
      have hn5 : p.all.length ≤ 100000 := by omega
      have FW := fun (v : World) (ic tc oc c : Nat) (ia ta oa a : Option Addr) => tree_few p.ins.length ic p.lets.length tc p.outs.length oc p.all.length c ia ta oa a f hf v
      have LW : ∀ (v : World) (a : Option Addr) (c : Nat), NodesM V v a c p.all → Calls Tryz.prog 29 #[.slice a p.all.length c] v fun e w' => e = .returned (.bool lw) ∧ Below v.heap.size v w' := by
        intro v a c N
        obtain ⟨ms, i1, i2, i3, i4, i5⟩ := N.isn
        exact tree_low (c := c) i1 hn5 (by rw [i2]; exact hBh) (fun m hm => by
          have : m.1.nd ∈ p.all := by rw [← i2]; exact List.mem_map_of_mem hm
          exact hKd m.1.nd this) i4 lw (by rw [i2]; exact hlw)
      clear HG hBh hKd hl hE hs he heV hTk hV hVV HA hn4 hbad hn5 PLC hf hlw
      cases f with
      | false =>
        rw [if_pos (by simp)]
        go_enter Tryz.func10, Tryz.ntmps10
        go_wp2_with (first
          | (go_at_call 25; ((with_reducible refine Calls.mono LX ?_); rintro e w1 ⟨la, lc, rfl, o1⟩; have N := boxes1 w1 #[.int .i64 pl, .int .i64 pc] 29; have D1 := (b1.more o1.below).more N.2.1; have D2 := (b2.more o1.below).more N.2.1; have BV1 := below_more o1.below N.2.1; have hq : w.heap.size + 1 < w1.heap.size := Nat.lt_of_lt_of_le hVs o1.below.size; have NR := boxes1 (w1.alloc (.cells #[.int .i64 pl, .int .i64 pc] 29)) #[.slice la L.length lc, .slice none 0 0, .slice none 0 0, .slice none 0 0, .slice none 0 0, .slice none 0 0] 59; have hz1 : (w1.alloc (.cells #[.int .i64 pl, .int .i64 pc] 29)).heap.size = w1.heap.size + 1 := (by simp); have NB := NR.1; rw [hz1] at NB; have T0 := tq_start (by have := BV1.size; omega) NB ((o1.alloc (.cells #[.int .i64 pl, .int .i64 pc] 29)).more NR.2.1)))
          | (go_at_call 26; (with_reducible refine Calls.mono (PG _ _ _ _ T0) ?_); rintro e w3 ⟨rfl, ⟨ia, il, ic, ta, ll, tc, oa, ol, oc, al, S, T3, h3⟩, K3⟩; have E1 := (D1.more NR.2.1).keep K3 (by unfold TYL TY; decide); have E2 := (D2.more NR.2.1).keep K3 (by unfold TYL TY; decide); obtain ⟨rfl, rfl, rfl, rfl, OI, OL, OO⟩ := h3 trivial; obtain ⟨aa, ac, x1, x2, x3, x4, NM⟩ := T3.prog)
          | (go_at_call 28; (with_reducible refine Calls.mono (FW _ _ _ _ _ _ _ _ _) ?_); rintro e w4 ⟨rfl, d4⟩; have T4 := T3.more d4; have NM4 := NM.more d4; obtain ⟨y1, y2, y3, -, -, -, -⟩ := T4.cells; have y4 : w4.cell? ⟨w1.heap.size + 1, 4, none⟩ = some (.slice aa p.all.length ac) := (by rw [d4.cell (World.block_lt_of_cell? w3 _ x4)]; exact x4); have G1 := E1.more d4; have G2 := E2.more d4; have c0 := (G1.cell 0).1; have c1 := (G1.cell 1).1; have c2 := (G1.cell 2).1; have c3 := (G1.cell 3).1; have c4 := (G2.cell 0).1; have c5 := (G2.cell 1).1; have f0 := (G1.cell 0).2; have f1 := (G1.cell 1).2; have f2 := (G1.cell 2).2; have f3 := (G1.cell 3).2; have f4 := (G2.cell 0).2; have f5 := (G2.cell 1).2))
        obtain ⟨F, hF, g0, g1, g2, g3, g4, g5, bF, kF⟩ := pg_store G1 G2 (Nat.le_refl _) (below_more bV T4.below) (.slice none 0 0) (.slice none 0 0) (.slice none 0 0) (.slice none 0 0) (.int .i64 1) (.int .i64 1)
        rw [hF]
        exact bodyPost_ret (v := .tuple #[.agg #[.slice none 0 0, .slice none 0 0, .slice none 0 0, .slice none 0 0], .agg #[.int .i64 1, .int .i64 1], .int .i64 4]) (by simp [results, Tryz.results10, go_sem, g0, g1, g2, g3, g4, g5]) rfl (ansPG_no bF)
      | true =>
        cases lw with
        | false =>
          rw [if_pos (by simp)]
          go_enter Tryz.func10, Tryz.ntmps10
          go_wp2_with (first
            | (go_at_call 25; ((with_reducible refine Calls.mono LX ?_); rintro e w1 ⟨la, lc, rfl, o1⟩; have N := boxes1 w1 #[.int .i64 pl, .int .i64 pc] 29; have D1 := (b1.more o1.below).more N.2.1; have D2 := (b2.more o1.below).more N.2.1; have BV1 := below_more o1.below N.2.1; have hq : w.heap.size + 1 < w1.heap.size := Nat.lt_of_lt_of_le hVs o1.below.size; have NR := boxes1 (w1.alloc (.cells #[.int .i64 pl, .int .i64 pc] 29)) #[.slice la L.length lc, .slice none 0 0, .slice none 0 0, .slice none 0 0, .slice none 0 0, .slice none 0 0] 59; have hz1 : (w1.alloc (.cells #[.int .i64 pl, .int .i64 pc] 29)).heap.size = w1.heap.size + 1 := (by simp); have NB := NR.1; rw [hz1] at NB; have T0 := tq_start (by have := BV1.size; omega) NB ((o1.alloc (.cells #[.int .i64 pl, .int .i64 pc] 29)).more NR.2.1)))
            | (go_at_call 26; (with_reducible refine Calls.mono (PG _ _ _ _ T0) ?_); rintro e w3 ⟨rfl, ⟨ia, il, ic, ta, ll, tc, oa, ol, oc, al, S, T3, h3⟩, K3⟩; have E1 := (D1.more NR.2.1).keep K3 (by unfold TYL TY; decide); have E2 := (D2.more NR.2.1).keep K3 (by unfold TYL TY; decide); obtain ⟨rfl, rfl, rfl, rfl, OI, OL, OO⟩ := h3 trivial; obtain ⟨aa, ac, x1, x2, x3, x4, NM⟩ := T3.prog)
            | (go_at_call 28; (with_reducible refine Calls.mono (FW _ _ _ _ _ _ _ _ _) ?_); rintro e w4 ⟨rfl, d4⟩; have T4 := T3.more d4; have NM4 := NM.more d4; obtain ⟨y1, y2, y3, -, -, -, -⟩ := T4.cells; have y4 : w4.cell? ⟨w1.heap.size + 1, 4, none⟩ = some (.slice aa p.all.length ac) := (by rw [d4.cell (World.block_lt_of_cell? w3 _ x4)]; exact x4); have G1 := E1.more d4; have G2 := E2.more d4; have c0 := (G1.cell 0).1; have c1 := (G1.cell 1).1; have c2 := (G1.cell 2).1; have c3 := (G1.cell 3).1; have c4 := (G2.cell 0).1; have c5 := (G2.cell 1).1; have f0 := (G1.cell 0).2; have f1 := (G1.cell 1).2; have f2 := (G1.cell 2).2; have f3 := (G1.cell 3).2; have f4 := (G2.cell 0).2; have f5 := (G2.cell 1).2)
            | (go_at_call 29; (with_reducible refine Calls.mono (LW _ _ _ NM4) ?_); rintro e w5 ⟨rfl, d5⟩; have T5 := T4.more d5; obtain ⟨z1, z2, z3, -, -, -, -⟩ := T5.cells; have z4 : w5.cell? ⟨w1.heap.size + 1, 4, none⟩ = some (.slice aa p.all.length ac) := (by rw [d5.cell (World.block_lt_of_cell? w4 _ y4)]; exact y4); have H1 := G1.more d5; have H2 := G2.more d5; have u0 := (H1.cell 0).1; have u1 := (H1.cell 1).1; have u2 := (H1.cell 2).1; have u3 := (H1.cell 3).1; have u4 := (H2.cell 0).1; have u5 := (H2.cell 1).1; have h0 := (H1.cell 0).2; have h1 := (H1.cell 1).2; have h2 := (H1.cell 2).2; have h3 := (H1.cell 3).2; have h4 := (H2.cell 0).2; have h5 := (H2.cell 1).2))
          obtain ⟨F, hF, g0, g1, g2, g3, g4, g5, bF, kF⟩ := pg_store H1 H2 (Nat.le_refl _) (below_more bV T5.below) (.slice none 0 0) (.slice none 0 0) (.slice none 0 0) (.slice none 0 0) (.int .i64 1) (.int .i64 1)
          rw [hF]
          exact bodyPost_ret (v := .tuple #[.agg #[.slice none 0 0, .slice none 0 0, .slice none 0 0, .slice none 0 0], .agg #[.int .i64 1, .int .i64 1], .int .i64 4]) (by simp [results, Tryz.results10, go_sem, g0, g1, g2, g3, g4, g5]) rfl (ansPG_no bF)
        | true =>
          rw [if_neg (by simp)]
          go_enter Tryz.func10, Tryz.ntmps10
          go_wp2_with (first
            | (go_at_call 25; ((with_reducible refine Calls.mono LX ?_); rintro e w1 ⟨la, lc, rfl, o1⟩; have N := boxes1 w1 #[.int .i64 pl, .int .i64 pc] 29; have D1 := (b1.more o1.below).more N.2.1; have D2 := (b2.more o1.below).more N.2.1; have BV1 := below_more o1.below N.2.1; have hq : w.heap.size + 1 < w1.heap.size := Nat.lt_of_lt_of_le hVs o1.below.size; have NR := boxes1 (w1.alloc (.cells #[.int .i64 pl, .int .i64 pc] 29)) #[.slice la L.length lc, .slice none 0 0, .slice none 0 0, .slice none 0 0, .slice none 0 0, .slice none 0 0] 59; have hz1 : (w1.alloc (.cells #[.int .i64 pl, .int .i64 pc] 29)).heap.size = w1.heap.size + 1 := (by simp); have NB := NR.1; rw [hz1] at NB; have T0 := tq_start (by have := BV1.size; omega) NB ((o1.alloc (.cells #[.int .i64 pl, .int .i64 pc] 29)).more NR.2.1)))
            | (go_at_call 26; (with_reducible refine Calls.mono (PG _ _ _ _ T0) ?_); rintro e w3 ⟨rfl, ⟨ia, il, ic, ta, ll, tc, oa, ol, oc, al, S, T3, h3⟩, K3⟩; have E1 := (D1.more NR.2.1).keep K3 (by unfold TYL TY; decide); have E2 := (D2.more NR.2.1).keep K3 (by unfold TYL TY; decide); obtain ⟨rfl, rfl, rfl, rfl, OI, OL, OO⟩ := h3 trivial; obtain ⟨aa, ac, x1, x2, x3, x4, NM⟩ := T3.prog)
            | (go_at_call 28; (with_reducible refine Calls.mono (FW _ _ _ _ _ _ _ _ _) ?_); rintro e w4 ⟨rfl, d4⟩; have T4 := T3.more d4; have NM4 := NM.more d4; obtain ⟨y1, y2, y3, -, -, -, -⟩ := T4.cells; have y4 : w4.cell? ⟨w1.heap.size + 1, 4, none⟩ = some (.slice aa p.all.length ac) := (by rw [d4.cell (World.block_lt_of_cell? w3 _ x4)]; exact x4); have G1 := E1.more d4; have G2 := E2.more d4; have c0 := (G1.cell 0).1; have c1 := (G1.cell 1).1; have c2 := (G1.cell 2).1; have c3 := (G1.cell 3).1; have c4 := (G2.cell 0).1; have c5 := (G2.cell 1).1; have f0 := (G1.cell 0).2; have f1 := (G1.cell 1).2; have f2 := (G1.cell 2).2; have f3 := (G1.cell 3).2; have f4 := (G2.cell 0).2; have f5 := (G2.cell 1).2)
            | (go_at_call 29; (with_reducible refine Calls.mono (LW _ _ _ NM4) ?_); rintro e w5 ⟨rfl, d5⟩; have T5 := T4.more d5; obtain ⟨z1, z2, z3, -, -, -, -⟩ := T5.cells; have z4 : w5.cell? ⟨w1.heap.size + 1, 4, none⟩ = some (.slice aa p.all.length ac) := (by rw [d5.cell (World.block_lt_of_cell? w4 _ y4)]; exact y4); have H1 := G1.more d5; have H2 := G2.more d5; have u0 := (H1.cell 0).1; have u1 := (H1.cell 1).1; have u2 := (H1.cell 2).1; have u3 := (H1.cell 3).1; have u4 := (H2.cell 0).1; have u5 := (H2.cell 1).1; have h0 := (H1.cell 0).2; have h1 := (H1.cell 1).2; have h2 := (H1.cell 2).2; have h3 := (H1.cell 3).2; have h4 := (H2.cell 0).2; have h5 := (H2.cell 1).2))
          obtain ⟨F, hF, g0, g1, g2, g3, g4, g5, bF, kF⟩ := pg_store H1 H2 (Nat.le_refl _) (below_more bV T5.below) (.slice ia p.ins.length ic) (.slice ta p.lets.length tc) (.slice oa p.outs.length oc) (.slice aa p.all.length ac) (.int .i64 0) (.int .i64 0)
          rw [hF]
          exact bodyPost_ret (v := .tuple #[.agg #[.slice ia p.ins.length ic, .slice ta p.lets.length tc, .slice oa p.outs.length oc, .slice aa p.all.length ac], .agg #[.int .i64 0, .int .i64 0], .int .i64 0]) (by simp [results, Tryz.results10, go_sem, g0, g1, g2, g3, g4, g5]) rfl (pg_good OI OL OO NM4 d4 d5 kF bF (by decide) (by decide) (by decide) (by decide))
end Go.Proofs.YtbcfplaalepnbaaGreatDoor
namespace Go.Proofs.YtbcfplaalepnbaaGreatDoor
open Go.RowKit Go.Lib
set_option maxHeartbeats 8000000 in
theorem ref_tnamesEq {w : World} {a b : Option Addr} {n c d : Nat} {xs : List ByteArray} (h1 : IsS w a n xs) (h2 : IsS w b n xs) (hn : n ≤ 100000) :
    Calls Tryz.prog 35 #[.slice a n c, .slice b n d] w fun e w' => e = .returned (.bool true) ∧ Below w.heap.size w w' := by
  have HH : Hid (IsS w a n xs ∧ IsS w b n xs ∧ n ≤ 100000) := ⟨h1, h2, hn⟩
  clear h1 h2 hn
  go_enter Tryz.func35, Tryz.ntmps35
  go_wp2
  go_loopg [5] n (fun g s5 v => ∃ t : Nat, s5 = .int .i64 t ∧ t + g = n ∧ Below w.heap.size w v)
  case atStart => exact ⟨0, rfl, by omega, Below.refl _ _⟩
  case round =>
    obtain ⟨t, rfl, hg, bw⟩ := hrel
    obtain ⟨h1, h2, hn⟩ := HH.out
    rcases Nat.lt_or_ge t n with ht | ht
    · have p1 : (t : Int) < n := by omega
      obtain ⟨g1, o1, rfl, c1⟩ := (h1.below bw).2.resolve_left (by omega)
      obtain ⟨g2, o2, rfl, c2⟩ := (h2.below bw).2.resolve_left (by omega)
      obtain ⟨x, hx⟩ : ∃ x, xs[t]? = some x := ⟨_, List.getElem?_eq_getElem (by have := h1.1; omega)⟩
      have k1 := c1 t x hx
      have k2 := c2 t x hx
      have HW : Hid (wrap64 ((t : Int) + 1) = (t : Int) + 1) := wrap_smalls (by omega) (by omega)
      have HN : Hid (t + 1 + (n - (t + 1)) = n ∧ n - (t + 1) < gk ∧ Below w.heap.size w wr) := ⟨by omega, by omega, bw⟩
      clear hg bw h1 h2 hn c1 c2 hx HH
      have wT := HW.out
      go_wp2
      go_quiet (fail)
      obtain ⟨j2, j3, j4⟩ := HN.out
      go_wp2
      go_roundg (n - (t + 1))
      case measure => exact j3
      case rel => exact ⟨t + 1, by first | rfl | (rw [wT]; rfl), j2, below_drewN j4 _⟩
    · have p1 : ¬ (t : Int) < n := by omega
      obtain rfl : t = n := by omega
      clear hg h1 h2 hn HH
      go_wp2
      go_ret
      exact ⟨rfl, bw⟩
set_option maxHeartbeats 8000000 in
theorem ref_tnodeEq {w : World} {k a b x : Int} {nm : ByteArray} {ng : Bool} {ua va ua' va' : Option Addr} {n m uc vc n' m' uc' vc' : Nat} {xs ys : List Int} (h : IsWords w (.slice ua n uc) xs) (g : IsWords w (.slice va m vc) ys) (h' : IsWords w (.slice ua' n' uc') xs) (g' : IsWords w (.slice va' m' vc') ys) :
    Calls Tryz.prog 34 #[.agg #[.int .i64 k, .int .i64 a, .int .i64 b, .int .i64 x, .string nm, .bool ng, .slice ua n uc, .slice va m vc], .agg #[.int .i64 k, .int .i64 a, .int .i64 b, .int .i64 x, .string nm, .bool ng, .slice ua' n' uc', .slice va' m' vc']] w fun e w' => e = .returned (.bool true) ∧ Below w.heap.size w w' := by
  obtain ⟨b1, b2, bV, hs⟩ := boxes2 w #[.int .i64 k, .int .i64 a, .int .i64 b, .int .i64 x, .string nm, .bool ng, .slice ua n uc, .slice va m vc] #[.int .i64 k, .int .i64 a, .int .i64 b, .int .i64 x, .string nm, .bool ng, .slice ua' n' uc', .slice va' m' vc'] 44 44
  have EQ := fun (v : World) (d : Below w.heap.size w v) => ref_requal (s := ng) (s' := ng) (h.below d) (g.below d) (h'.below d) (g'.below d) true (by simp)
  have e1 : (k == k) = true := by simp
  have e2 : (a == a) = true := by simp
  have e3 : (b == b) = true := by simp
  have e4 : (x == x) = true := by simp
  have HB : Hid (Below w.heap.size w _) := bV
  clear b1 b2 hs h g h' g'
  go_enter Tryz.func34, Tryz.ntmps34
  go_wp2_with (go_at_call 64; (with_reducible refine Calls.mono (EQ _ HB.out) ?_); rintro e w1 ⟨rfl, d1⟩)
  go_ret
  exact ⟨rfl, below_more HB.out d1⟩
set_option maxHeartbeats 32000000 in
theorem ref_tsame {w : World} {ia la oa a ia' la' oa' a' : Option Addr} {il ic ln lc ol oc n c ic' lc' oc' c' : Nat} {ins outs : List ByteArray} {ls : List (ByteArray × Int)} {ms ms' : List Mn}
    (h1 : IsS w ia il ins) (h1' : IsS w ia' il ins) (h2 : IsLt w la ln ls) (h2' : IsLt w la' ln ls) (h3 : IsS w oa ol outs) (h3' : IsS w oa' ol outs) (h4 : IsN w a n ms) (h4' : IsN w a' n ms') (h5 : NdR w ms) (h5' : NdR w ms') (he : ms.map (·.1) = ms'.map (·.1)) (hb : il ≤ 100000 ∧ ln ≤ 100000 ∧ ol ≤ 100000 ∧ n ≤ 100000) :
    Calls Tryz.prog 12 #[.agg #[.slice ia il ic, .slice la ln lc, .slice oa ol oc, .slice a n c], .agg #[.slice ia' il ic', .slice la' ln lc', .slice oa' ol oc', .slice a' n c']] w fun e w' => e = .returned (.bool true) ∧ Below w.heap.size w w' := by
  obtain ⟨b1, b2, bV, hs⟩ := boxes2 w #[.slice ia il ic, .slice la ln lc, .slice oa ol oc, .slice a n c] #[.slice ia' il ic', .slice la' ln lc', .slice oa' ol oc', .slice a' n c'] 27 27
  have HH : Hid (IsS w ia il ins ∧ IsS w ia' il ins ∧ IsLt w la ln ls ∧ IsLt w la' ln ls ∧ IsS w oa ol outs ∧ IsS w oa' ol outs ∧ IsN w a n ms ∧ IsN w a' n ms' ∧ NdR w ms ∧ NdR w ms' ∧ ms.map (·.1) = ms'.map (·.1) ∧ il ≤ 100000 ∧ ln ≤ 100000 ∧ ol ≤ 100000 ∧ n ≤ 100000) := ⟨h1, h1', h2, h2', h3, h3', h4, h4', h5, h5', he, hb.1, hb.2.1, hb.2.2.1, hb.2.2.2⟩
  have CB : Hid (∀ v, Below ((w.alloc (.cells #[.slice ia il ic, .slice la ln lc, .slice oa ol oc, .slice a n c] 27)).alloc (.cells #[.slice ia' il ic', .slice la' ln lc', .slice oa' ol oc', .slice a' n c'] 27)).heap.size ((w.alloc (.cells #[.slice ia il ic, .slice la ln lc, .slice oa ol oc, .slice a n c] 27)).alloc (.cells #[.slice ia' il ic', .slice la' ln lc', .slice oa' ol oc', .slice a' n c'] 27)) v →
      v.cell? ⟨w.heap.size, 0, none⟩ = some (.slice ia il ic) ∧ v.cell? ⟨w.heap.size, 1, none⟩ = some (.slice la ln lc) ∧ v.cell? ⟨w.heap.size, 2, none⟩ = some (.slice oa ol oc) ∧ v.cell? ⟨w.heap.size, 3, none⟩ = some (.slice a n c) ∧ v.cell? ⟨w.heap.size + 1, 0, none⟩ = some (.slice ia' il ic') ∧ v.cell? ⟨w.heap.size + 1, 1, none⟩ = some (.slice la' ln lc') ∧ v.cell? ⟨w.heap.size + 1, 2, none⟩ = some (.slice oa' ol oc') ∧ v.cell? ⟨w.heap.size + 1, 3, none⟩ = some (.slice a' n c')) := fun v d =>
    ⟨((b1.more d).cell 0).1, ((b1.more d).cell 1).1, ((b1.more d).cell 2).1, ((b1.more d).cell 3).1, ((b2.more d).cell 0).1, ((b2.more d).cell 1).1, ((b2.more d).cell 2).1, ((b2.more d).cell 3).1⟩
  have HV : Hid (Below w.heap.size w ((w.alloc (.cells #[.slice ia il ic, .slice la ln lc, .slice oa ol oc, .slice a n c] 27)).alloc (.cells #[.slice ia' il ic', .slice la' ln lc', .slice oa' ol oc', .slice a' n c'] 27)) ∧ w.heap.size + 1 < ((w.alloc (.cells #[.slice ia il ic, .slice la ln lc, .slice oa ol oc, .slice a n c] 27)).alloc (.cells #[.slice ia' il ic', .slice la' ln lc', .slice oa' ol oc', .slice a' n c'] 27)).heap.size) := ⟨bV, hs⟩
  clear h1 h1' h2 h2' h3 h3' h4 h4' h5 h5' he hb b1 b2 bV hs
  go_enter Tryz.func12, Tryz.ntmps12
  go_wp2
  generalize (w.alloc (.cells #[.slice ia il ic, .slice la ln lc, .slice oa ol oc, .slice a n c] 27)).alloc (.cells #[.slice ia' il ic', .slice la' ln lc', .slice oa' ol oc', .slice a' n c'] 27) = V at *
  go_loopg [5] ln (fun g s5 v => ∃ t : Nat, s5 = .int .i64 t ∧ t + g = ln ∧ Below V.heap.size V v)
  case atStart => exact ⟨0, rfl, by omega, Below.refl _ _⟩
  case round =>
    obtain ⟨t, rfl, hg, bw⟩ := hrel
    have hL1 := HH.out.2.2.1
    have hL2 := HH.out.2.2.2.1
    have hln := HH.out.2.2.2.2.2.2.2.2.2.2.2.2.1
    have bW := below_more HV.out.1 bw
    have hsz : w.heap.size + 1 < wr.heap.size := Nat.lt_of_lt_of_le HV.out.2 bw.size
    obtain ⟨x0, x1, x2, x3, y0, y1, y2, y3⟩ := CB.out wr bw
    rcases Nat.lt_or_ge t ln with ht | ht
    · have p1 : (t : Int) < ln := by omega
      obtain ⟨g1, o1, rfl, c1⟩ := (hL1.below bW).2.resolve_left (by omega)
      obtain ⟨g2, o2, rfl, c2⟩ := (hL2.below bW).2.resolve_left (by omega)
      obtain ⟨⟨nm, rt⟩, hx⟩ : ∃ x, ls[t]? = some x := ⟨_, List.getElem?_eq_getElem (by have := hL1.1; omega)⟩
      obtain ⟨k1, k2⟩ := c1 t _ hx
      obtain ⟨k3, k4⟩ := c2 t _ hx
      dsimp only at k1 k2 k3 k4
      have HW : Hid (wrap64 ((t : Int) + 1) = (t : Int) + 1) := wrap_smalls (by omega) (by omega)
      have HN : Hid (t + 1 + (ln - (t + 1)) = ln ∧ ln - (t + 1) < gk ∧ Below V.heap.size V wr) := ⟨by omega, by omega, bw⟩
      clear hg bw hL1 hL2 hln c1 c2 hx HH bW
      have wT := HW.out
      go_wp2
      go_quiet (fail)
      obtain ⟨j2, j3, j4⟩ := HN.out
      go_wp2
      go_roundg (ln - (t + 1))
      case measure => exact j3
      case rel => exact ⟨t + 1, by first | rfl | (rw [wT]; rfl), j2, below_drewN j4 _⟩
    · have p1 : ¬ (t : Int) < ln := by omega
      obtain rfl : t = ln := by omega
      clear hg hL1 hL2 hln bW
      have HP : Hid (Below V.heap.size V wr) := bw
      go_wp2
      go_loopg [6] n (fun g s6 v => ∃ k : Nat, s6 = .int .i64 k ∧ k + g = n ∧ Below V.heap.size V v)
      case atStart => exact ⟨0, rfl, by omega, HP.out⟩
      case round =>
        obtain ⟨k, rfl, hg, bw⟩ := hrel
        obtain ⟨i1, i1', -, -, i3, i3', i4, i4', i5, i5', he, hil, -, hol, hn⟩ := HH.out
        have bW := below_more HV.out.1 bw
        have hsz : w.heap.size + 1 < wr.heap.size := Nat.lt_of_lt_of_le HV.out.2 bw.size
        obtain ⟨x0, x1, x2, x3, y0, y1, y2, y3⟩ := CB.out wr bw
        rcases Nat.lt_or_ge k n with hk | hk
        · have p1 : (k : Int) < n := by omega
          obtain ⟨m, hm⟩ : ∃ m, ms[k]? = some m := ⟨_, List.getElem?_eq_getElem (by have := i4.1; omega)⟩
          obtain ⟨m', hm'⟩ : ∃ m', ms'[k]? = some m' := ⟨_, List.getElem?_eq_getElem (by have := i4'.1; omega)⟩
          have hmm : m'.1 = m.1 := by
            have q := congrArg (fun l => l[k]?) he
            simp only [List.getElem?_map, hm, hm', Option.map_some] at q
            injection q with q
            exact q.symm
          obtain ⟨⟨ux, uy, hu, hu'⟩, ⟨vx, vy, hv, hv'⟩, -⟩ := i5 m (List.mem_of_getElem? hm)
          obtain ⟨⟨ux', uy', hx, hx'⟩, ⟨vx', vy', hy, hy'⟩, -⟩ := i5' m' (List.mem_of_getElem? hm')
          rw [hmm] at hx hx' hy hy'
          obtain ⟨gm, om, rfl, -⟩ := i4.node hm
          obtain ⟨gp, op, rfl, -⟩ := i4'.node hm'
          have CE := fun (v : World) (b : Below w.heap.size w v) => i4.at hm v b
          have CF := fun (v : World) (b : Below w.heap.size w v) => i4'.at hm' v b
          simp only [hu, hv] at CE
          simp only [hx, hy, hmm] at CF
          have NQ := fun (v : World) (b : Below w.heap.size w v) => ref_tnodeEq (k := m.1.kind) (a := m.1.a) (b := m.1.b) (x := m.1.exp) (nm := m.1.name) (ng := m.1.neg) (hu'.below b) (hv'.below b) (hx'.below b) (hy'.below b)
          have SO : ∀ v, Below wr.heap.size wr v → (v.cell? ⟨w.heap.size, 3, none⟩ = some (.slice (some ⟨gm, om, none⟩) n c) ∧ v.cell? ⟨w.heap.size + 1, 3, none⟩ = some (.slice (some ⟨gp, op, none⟩) n c') ∧ v.cell? ⟨gm, om + k * 8, none⟩ = some (.int .i64 m.1.kind) ∧ v.cell? ⟨gm, om + k * 8 + 1, none⟩ = some (.int .i64 m.1.a) ∧ v.cell? ⟨gm, om + k * 8 + 2, none⟩ = some (.int .i64 m.1.b) ∧ v.cell? ⟨gm, om + k * 8 + 3, none⟩ = some (.int .i64 m.1.exp) ∧ v.cell? ⟨gm, om + k * 8 + 4, none⟩ = some (.string m.1.name) ∧ v.cell? ⟨gm, om + k * 8 + 5, none⟩ = some (.bool m.1.neg) ∧ v.cell? ⟨gm, om + k * 8 + 6, none⟩ = some (.slice ux m.1.xs.length uy) ∧ v.cell? ⟨gm, om + k * 8 + 7, none⟩ = some (.slice vx m.1.ys.length vy) ∧ v.cell? ⟨gp, op + k * 8, none⟩ = some (.int .i64 m.1.kind) ∧ v.cell? ⟨gp, op + k * 8 + 1, none⟩ = some (.int .i64 m.1.a) ∧ v.cell? ⟨gp, op + k * 8 + 2, none⟩ = some (.int .i64 m.1.b) ∧ v.cell? ⟨gp, op + k * 8 + 3, none⟩ = some (.int .i64 m.1.exp) ∧ v.cell? ⟨gp, op + k * 8 + 4, none⟩ = some (.string m.1.name) ∧ v.cell? ⟨gp, op + k * 8 + 5, none⟩ = some (.bool m.1.neg) ∧ v.cell? ⟨gp, op + k * 8 + 6, none⟩ = some (.slice ux' m.1.xs.length uy') ∧ v.cell? ⟨gp, op + k * 8 + 7, none⟩ = some (.slice vx' m.1.ys.length vy')) := fun v b => by
            have c1 := CB.out v (below_more bw b)
            have c2 := CE v (below_more bW b)
            have c3 := CF v (below_more bW b)
            exact ⟨c1.2.2.2.1, c1.2.2.2.2.2.2.2, c2.1, c2.2.1, c2.2.2.1, c2.2.2.2.1, c2.2.2.2.2.1, c2.2.2.2.2.2.1, c2.2.2.2.2.2.2.1, c2.2.2.2.2.2.2.2, c3⟩
          have HW : Hid (wrap64 ((k : Int) + 1) = (k : Int) + 1) := wrap_smalls (by omega) (by omega)
          have HN : Hid (k + 1 + (n - (k + 1)) = n ∧ n - (k + 1) < gk) := ⟨by omega, by omega⟩
          clear hg i1 i1' i3 i3' i4 i4' i5 i5' he hil hol hn hm hm' hmm hu hv hx hy hu' hv' hx' hy' HH CB CE CF
          have bs := (Below.refl wr.heap.size wr).drew
          have b0 := Below.refl wr.heap.size wr
          go_wp2
          go_region_held3 (fun v => v.cell? ⟨w.heap.size, 3, none⟩ = some (.slice (some ⟨gm, om, none⟩) n c) ∧ v.cell? ⟨w.heap.size + 1, 3, none⟩ = some (.slice (some ⟨gp, op, none⟩) n c') ∧ v.cell? ⟨gm, om + k * 8, none⟩ = some (.int .i64 m.1.kind) ∧ v.cell? ⟨gm, om + k * 8 + 1, none⟩ = some (.int .i64 m.1.a) ∧ v.cell? ⟨gm, om + k * 8 + 2, none⟩ = some (.int .i64 m.1.b) ∧ v.cell? ⟨gm, om + k * 8 + 3, none⟩ = some (.int .i64 m.1.exp) ∧ v.cell? ⟨gm, om + k * 8 + 4, none⟩ = some (.string m.1.name) ∧ v.cell? ⟨gm, om + k * 8 + 5, none⟩ = some (.bool m.1.neg) ∧ v.cell? ⟨gm, om + k * 8 + 6, none⟩ = some (.slice ux m.1.xs.length uy) ∧ v.cell? ⟨gm, om + k * 8 + 7, none⟩ = some (.slice vx m.1.ys.length vy) ∧ v.cell? ⟨gp, op + k * 8, none⟩ = some (.int .i64 m.1.kind) ∧ v.cell? ⟨gp, op + k * 8 + 1, none⟩ = some (.int .i64 m.1.a) ∧ v.cell? ⟨gp, op + k * 8 + 2, none⟩ = some (.int .i64 m.1.b) ∧ v.cell? ⟨gp, op + k * 8 + 3, none⟩ = some (.int .i64 m.1.exp) ∧ v.cell? ⟨gp, op + k * 8 + 4, none⟩ = some (.string m.1.name) ∧ v.cell? ⟨gp, op + k * 8 + 5, none⟩ = some (.bool m.1.neg) ∧ v.cell? ⟨gp, op + k * 8 + 6, none⟩ = some (.slice ux' m.1.xs.length uy') ∧ v.cell? ⟨gp, op + k * 8 + 7, none⟩ = some (.slice vx' m.1.ys.length vy'))
            ((refine SO _ ?_; first | exact bs | exact bs.drew | exact b0))
            (first
            | (go_at_call 34; (with_reducible refine Calls.mono (NQ _ (below_more bW bs)) ?_); rintro e w2 ⟨rfl, d2⟩; replace bs := below_more bs d2))
          all_goals
            have wT := HW.out
            go_wp2
            obtain ⟨j2, j3⟩ := HN.out
            go_roundg (n - (k + 1))
            case measure => exact j3
            case rel => exact ⟨k + 1, by first | rfl | (rw [wT]; rfl), j2, by first | exact below_more bw bs | exact below_more bw bs.drew⟩
        · have p1 : ¬ (k : Int) < n := by omega
          obtain rfl : k = n := by omega
          have N1 := fun (v : World) (b : Below w.heap.size w v) => ref_tnamesEq (c := ic) (d := ic') (i1.below b) (i1'.below b) hil
          have N3 := fun (v : World) (b : Below w.heap.size w v) => ref_tnamesEq (c := oc) (d := oc') (i3.below b) (i3'.below b) hol
          clear hg i1 i1' i3 i3' i4 i4' i5 i5' he hil hol hn HH
          go_wp2_with (first
            | (go_at_call 35; (with_reducible refine Calls.mono (N1 _ bW) ?_); rintro e w2 ⟨rfl, d2⟩; obtain ⟨q0, q1, q2, q3, r0, r1, r2, r3⟩ := CB.out _ (below_more bw d2); have bW2 := below_more bW d2)
            | (go_at_call 35; (with_reducible refine Calls.mono (N3 _ bW2) ?_); rintro e w3 ⟨rfl, d3⟩))
          go_ret
          exact ⟨rfl, below_more bW2 d3⟩
end Go.Proofs.YtbcfplaalepnbaaGreatDoor
namespace Go.Proofs.YtbcfplaalepnbaaGreatDoor
open Go.RowKit Go.Lib
def exT : ByteArray := ⟨#[105, 110, 32, 120, 59, 32, 108, 101, 116, 32, 97, 32, 61, 32, 50, 32, 42, 32, 120, 32, 94, 32, 45, 51, 59, 32, 111, 117, 116, 32, 97, 59]⟩
def exN : List Nd := [⟨1, 0, 0, 0, noText, (false, 2, 1)⟩, ⟨0, 0, 0, 0, ⟨#[120]⟩, (false, 0, 0)⟩, ⟨7, 1, 0, -3, noText, (false, 0, 0)⟩, ⟨4, 0, 2, 0, noText, (false, 0, 0)⟩]
def exP : Pg := ⟨[⟨#[120]⟩], [(⟨#[97]⟩, 3)], [⟨#[97]⟩], exN⟩
theorem ex_parse : parseI exT = (exP, (0, 0), 0) := by kernel_rfl
def exM : List Nw := [⟨1, 0, 0, 0, ⟨#[]⟩, false, [2], [1]⟩, ⟨0, 0, 0, 0, ⟨#[120]⟩, false, [], []⟩, ⟨7, 1, 0, -3, ⟨#[]⟩, false, [], []⟩, ⟨4, 0, 2, 0, ⟨#[]⟩, false, [], []⟩]
theorem ex_raw : exN.map rawOf = exM := by kernel_rfl
theorem ex_right : rgtB [⟨#[120]⟩] [⟨#[97]⟩] [(⟨#[97]⟩, 3)] exM = true := by kernel_rfl
theorem ex_hts : hts exN 4 = [1, 1, 2, 3] := by kernel_rfl
end Go.Proofs.YtbcfplaalepnbaaGreatDoor
namespace Go.Proofs.YtbcfplaalepnbaaGreatDoor
open Go.RowKit Go.Lib
set_option maxHeartbeats 8000000 in
theorem ref_ints {w : World} {a b : Option Addr} {n c d : Nat} {xs : List Int} (h1 : IsI w a n xs) (h2 : IsI w b n xs) (hn : n ≤ 100000) :
    Calls Tryz.prog 17 #[.slice a n c, .slice b n d] w fun e w' => e = .returned (.bool true) ∧ Below w.heap.size w w' := by
  have HH : Hid (IsI w a n xs ∧ IsI w b n xs ∧ n ≤ 100000) := ⟨h1, h2, hn⟩
  clear h1 h2 hn
  go_enter Tryz.func17, Tryz.ntmps17
  go_wp2
  go_loopg [5] n (fun g s5 v => ∃ t : Nat, s5 = .int .i64 t ∧ t + g = n ∧ Below w.heap.size w v)
  case atStart => exact ⟨0, rfl, by omega, Below.refl _ _⟩
  case round =>
    obtain ⟨t, rfl, hg, bw⟩ := hrel
    obtain ⟨h1, h2, hn⟩ := HH.out
    rcases Nat.lt_or_ge t n with ht | ht
    · have p1 : (t : Int) < n := by omega
      obtain ⟨g1, o1, rfl, c1⟩ := (h1.below bw).2.resolve_left (by omega)
      obtain ⟨g2, o2, rfl, c2⟩ := (h2.below bw).2.resolve_left (by omega)
      obtain ⟨x, hx⟩ : ∃ x, xs[t]? = some x := ⟨_, List.getElem?_eq_getElem (by have := h1.1; omega)⟩
      have k1 := c1 t x hx
      have k2 := c2 t x hx
      have HW : Hid (wrap64 ((t : Int) + 1) = (t : Int) + 1) := wrap_smalls (by omega) (by omega)
      have HN : Hid (t + 1 + (n - (t + 1)) = n ∧ n - (t + 1) < gk ∧ Below w.heap.size w wr) := ⟨by omega, by omega, bw⟩
      clear hg bw h1 h2 hn c1 c2 hx HH
      have wT := HW.out
      go_wp2
      go_quiet (fail)
      obtain ⟨j2, j3, j4⟩ := HN.out
      go_wp2
      go_roundg (n - (t + 1))
      case measure => exact j3
      case rel => exact ⟨t + 1, by first | rfl | (rw [wT]; rfl), j2, below_drewN j4 _⟩
    · have p1 : ¬ (t : Int) < n := by omega
      obtain rfl : t = n := by omega
      clear hg h1 h2 hn HH
      go_wp2
      go_ret
      exact ⟨rfl, bw⟩
theorem pg_ex {w : World} {i l o a : Value} (h : IsPg w i l o a exP) : ∃ ia ic la lc oa oc aa ac ms, i = .slice ia 1 ic ∧ l = .slice la 1 lc ∧ o = .slice oa 1 oc ∧ a = .slice aa 4 ac ∧ PgR w ia la oa aa 1 1 1 4 ac [⟨#[120]⟩] [⟨#[97]⟩] [(⟨#[97]⟩, 3)] ms ∧ ms.map (·.1) = exM ∧ (ms.map fun m => m.1.nd) = exN := by
  obtain ⟨ia, ic, la, lc, oa, oc, aa, ac, ms, rfl, rfl, rfl, rfl, h1, h2, h3, h4, h5, h6, h7⟩ := h
  have h5' : ms.map (·.1) = exM := h5.trans ex_raw
  have hmem : ∀ m ∈ ms, m.1 ∈ exM := fun m hm => by rw [← h5']; exact List.mem_map_of_mem hm
  have hall : ∀ x ∈ exM, Wd x.xs ∧ Wd x.ys ∧ x.xs.length ≤ 10000 ∧ x.ys.length ≤ 10000 ∧ x.name.size ≤ 1000000 := by
    intro x hx
    simp only [exM, List.mem_cons, List.not_mem_nil, or_false] at hx
    rcases hx with rfl | rfl | rfl | rfl
    · exact ⟨fun y hy => by simp at hy; subst hy; decide, fun y hy => by simp at hy; subst hy; decide, by decide, by decide, by decide⟩
    · exact ⟨fun y hy => by simp at hy, fun y hy => by simp at hy, by decide, by decide, by decide⟩
    · exact ⟨fun y hy => by simp at hy, fun y hy => by simp at hy, by decide, by decide, by decide⟩
    · exact ⟨fun y hy => by simp at hy, fun y hy => by simp at hy, by decide, by decide, by decide⟩
  refine ⟨ia, ic, la, lc, oa, oc, aa, ac, ms, rfl, rfl, rfl, rfl, ⟨h1.isS, h2.isLt, h3.isS, h4, fun m hm => ?_, ?_, ?_, ?_, h7⟩, h5', nd_map h5⟩
  · obtain ⟨⟨x, y, e, q⟩, ⟨x', y', e', q'⟩⟩ := h6 m hm
    obtain ⟨a1, a2, a3, a4, a5⟩ := hall _ (hmem m hm)
    exact ⟨⟨x, y, e, e ▸ q⟩, ⟨x', y', e', e' ▸ q'⟩, a1, a2, a3, a4, a5⟩
  · intro x hx; obtain rfl := List.mem_singleton.1 hx; decide
  · intro x hx; obtain rfl := List.mem_singleton.1 hx; decide
  · intro x hx; obtain rfl := List.mem_singleton.1 hx; exact ⟨by decide, by decide, by decide⟩
end Go.Proofs.YtbcfplaalepnbaaGreatDoor
namespace Go.Proofs.YtbcfplaalepnbaaGreatDoor
open Go.RowKit Go.Lib
theorem boxes5 (w : World) (c0 c1 c2 c3 c4 : Array Value) (T0 T1 T2 T3 T4 : TypeId) : BoxC (((((w.alloc (.cells c0 T0)).alloc (.cells c1 T1)).alloc (.cells c2 T2)).alloc (.cells c3 T3)).alloc (.cells c4 T4)) w.heap.size c0 T0 ∧ BoxC (((((w.alloc (.cells c0 T0)).alloc (.cells c1 T1)).alloc (.cells c2 T2)).alloc (.cells c3 T3)).alloc (.cells c4 T4)) (w.heap.size + 1) c1 T1 ∧
    BoxC (((((w.alloc (.cells c0 T0)).alloc (.cells c1 T1)).alloc (.cells c2 T2)).alloc (.cells c3 T3)).alloc (.cells c4 T4)) (w.heap.size + 2) c2 T2 ∧ BoxC (((((w.alloc (.cells c0 T0)).alloc (.cells c1 T1)).alloc (.cells c2 T2)).alloc (.cells c3 T3)).alloc (.cells c4 T4)) (w.heap.size + 3) c3 T3 ∧ BoxC (((((w.alloc (.cells c0 T0)).alloc (.cells c1 T1)).alloc (.cells c2 T2)).alloc (.cells c3 T3)).alloc (.cells c4 T4)) (w.heap.size + 4) c4 T4 ∧
    Below w.heap.size w (((((w.alloc (.cells c0 T0)).alloc (.cells c1 T1)).alloc (.cells c2 T2)).alloc (.cells c3 T3)).alloc (.cells c4 T4)) := by
  have s1 : (w.alloc (.cells c0 T0)).heap.size = w.heap.size + 1 := by simp
  have s2 : ((w.alloc (.cells c0 T0)).alloc (.cells c1 T1)).heap.size = w.heap.size + 2 := by simp
  have s3 : (((w.alloc (.cells c0 T0)).alloc (.cells c1 T1)).alloc (.cells c2 T2)).heap.size = w.heap.size + 3 := by simp
  have s4 : ((((w.alloc (.cells c0 T0)).alloc (.cells c1 T1)).alloc (.cells c2 T2)).alloc (.cells c3 T3)).heap.size = w.heap.size + 4 := by simp
  refine ⟨((((BoxC.new w c0 T0).alloc _).alloc _).alloc _).alloc _, ?_, ?_, ?_, ?_, ?_⟩
  · rw [← s1]; exact (((BoxC.new _ c1 T1).alloc _).alloc _).alloc _
  · rw [← s2]; exact ((BoxC.new _ c2 T2).alloc _).alloc _
  · rw [← s3]; exact (BoxC.new _ c3 T3).alloc _
  · rw [← s4]; exact BoxC.new _ c4 T4
  · have b0 := Below.refl w.heap.size w
    have b1 := b0.alloc b0.size (.cells c0 T0)
    have b2 := b1.alloc b1.size (.cells c1 T1)
    have b3 := b2.alloc b2.size (.cells c2 T2)
    have b4 := b3.alloc b3.size (.cells c3 T3)
    exact b4.alloc b4.size (.cells c4 T4)
theorem BoxC.isN {w : World} {g : Nat} {ms : List Mn} {cs : Array Value} {T : TypeId} (B : BoxC w g cs T) (h : cs.toList = flat encM ms) : IsN w (some ⟨g, 0, none⟩) ms.length ms := by
  refine ⟨rfl, .inr ⟨g, 0, rfl, fun i m hm j u hj => ?_⟩⟩
  rw [Nat.zero_add, (B.cell (i * 8 + j)).1]
  have hj8 : j < 8 := by have := (List.getElem?_eq_some_iff.1 hj).1; rw [encM_length] at this; exact this
  have := flat_get encM_length ms i m hm j hj8
  rw [← h, Array.getElem?_toList] at this
  rw [this]; exact hj
theorem box_second (w : World) (o : Obj) (c : Array Value) (T : TypeId) : BoxC ((w.alloc o).alloc (.cells c T)) (w.heap.size + 1) c T := by
  have s1 : (w.alloc o).heap.size = w.heap.size + 1 := by simp
  rw [← s1]; exact BoxC.new _ c T
theorem BoxC.isI4 {w : World} {g : Nat} {T : TypeId} (B : BoxC w g #[.int .i64 1, .int .i64 1, .int .i64 2, .int .i64 3] T) : IsI w (some ⟨g, 0, none⟩) 4 [1, 1, 2, 3] := ⟨rfl, .inr ⟨g, 0, rfl, fun j y hj => by
  have hj1 : j < 4 := (List.getElem?_eq_some_iff.1 hj).1
  rw [Nat.zero_add, (B.cell j).1]
  rcases (by omega : j = 0 ∨ j = 1 ∨ j = 2 ∨ j = 3) with rfl | rfl | rfl | rfl
  all_goals (simp only [List.getElem?_cons_zero, List.getElem?_cons_succ, Option.some.injEq] at hj; subst hj; rfl)⟩⟩
theorem two_tri : tri ((2 : Int) : Rat) = (false, 2, 1) := by kernel_rfl
theorem BoxC.isS1 {w : World} {g : Nat} {x : ByteArray} {T : TypeId} (B : BoxC w g #[.string x] T) : IsS w (some ⟨g, 0, none⟩) 1 [x] := ⟨rfl, .inr ⟨g, 0, rfl, fun j y hj => by
  have hj1 : j < 1 := (List.getElem?_eq_some_iff.1 hj).1
  obtain rfl : j = 0 := by omega
  rw [Nat.zero_add, (B.cell 0).1]
  have : x = y := by simpa using hj
  rw [← this]; rfl⟩⟩
theorem BoxC.isLt1 {w : World} {g : Nat} {x : ByteArray} {r : Int} {T : TypeId} (B : BoxC w g #[.string x, .int .i64 r] T) : IsLt w (some ⟨g, 0, none⟩) 1 [(x, r)] := ⟨rfl, .inr ⟨g, 0, rfl, fun j y hj => by
  have hj1 : j < 1 := (List.getElem?_eq_some_iff.1 hj).1
  obtain rfl : j = 0 := by omega
  have : (x, r) = y := by simpa using hj
  rw [← this]
  exact ⟨(B.cell 0).1, (B.cell 1).1⟩⟩⟩
theorem ex_same {v : World} {ia la oa aa na nb : Option Addr} {ic lc oc ac nc nd gi gl go gn : Nat} {Ti Tl To Tn : TypeId} {ms : List Mn} (PR : PgR v ia la oa aa 1 1 1 4 ac [⟨#[120]⟩] [⟨#[97]⟩] [(⟨#[97]⟩, 3)] ms) (hm : ms.map (·.1) = exM)
    (Bi : BoxC v gi #[.string ⟨#[120]⟩] Ti) (Bl : BoxC v gl #[.string ⟨#[97]⟩, .int .i64 3] Tl) (Bo : BoxC v go #[.string ⟨#[97]⟩] To)
    (Bn : BoxC v gn #[.int .i64 1, .int .i64 0, .int .i64 0, .int .i64 0, .string ⟨#[]⟩, .bool false, .slice na 1 nc, .slice nb 1 nd, .int .i64 0, .int .i64 0, .int .i64 0, .int .i64 0, .string ⟨#[120]⟩, .bool false, .slice none 0 0, .slice none 0 0, .int .i64 7, .int .i64 1, .int .i64 0, .int .i64 (-3), .string ⟨#[]⟩, .bool false, .slice none 0 0, .slice none 0 0, .int .i64 4, .int .i64 0, .int .i64 2, .int .i64 0, .string ⟨#[]⟩, .bool false, .slice none 0 0, .slice none 0 0] Tn)
    (h1 : IsWords v (.slice na 1 nc) [2]) (h2 : IsWords v (.slice nb 1 nd) [1]) :
    Calls Tryz.prog 12 #[.agg #[.slice ia 1 ic, .slice la 1 lc, .slice oa 1 oc, .slice aa 4 ac], .agg #[.slice (some ⟨gi, 0, none⟩) 1 1, .slice (some ⟨gl, 0, none⟩) 1 1, .slice (some ⟨go, 0, none⟩) 1 1, .slice (some ⟨gn, 0, none⟩) 4 4]] v fun e w' => e = .returned (.bool true) ∧ Below v.heap.size v w' := by
  have nil : IsWords v (.slice none 0 0) [] := (Own.nil (Below.refl _ v)).words
  have w0 : Wd [] := fun x hx => absurd hx (by simp)
  have w1 : Wd [1] := fun x hx => by simp at hx; subst hx; decide
  have w2 : Wd [2] := fun x hx => by simp at hx; subst hx; decide
  obtain ⟨mlit, hml⟩ : ∃ m : List Mn, m = [(⟨1, 0, 0, 0, ⟨#[]⟩, false, [2], [1]⟩, .slice na 1 nc, .slice nb 1 nd), (⟨0, 0, 0, 0, ⟨#[120]⟩, false, [], []⟩, .slice none 0 0, .slice none 0 0), (⟨7, 1, 0, -3, ⟨#[]⟩, false, [], []⟩, .slice none 0 0, .slice none 0 0), (⟨4, 0, 2, 0, ⟨#[]⟩, false, [], []⟩, .slice none 0 0, .slice none 0 0)] := ⟨_, rfl⟩
  have hN : IsN v (some ⟨gn, 0, none⟩) 4 mlit := by
    have := Bn.isN (ms := mlit) (by rw [hml]; rfl)
    rw [show mlit.length = 4 by rw [hml]; rfl] at this
    exact this
  have hM : mlit.map (·.1) = exM := by rw [hml]; rfl
  have hR : NdR v mlit := by
    rw [hml]
    intro m hm
    simp only [List.mem_cons, List.not_mem_nil, or_false] at hm
    rcases hm with rfl | rfl | rfl | rfl
    · exact ⟨⟨na, nc, rfl, h1⟩, ⟨nb, nd, rfl, h2⟩, w2, w1, (show 1 ≤ 10000 by decide), (show 1 ≤ 10000 by decide), (show (0 : Nat) ≤ 1000000 by decide)⟩
    · exact ⟨⟨none, 0, rfl, nil⟩, ⟨none, 0, rfl, nil⟩, w0, w0, by decide, by decide, by decide⟩
    · exact ⟨⟨none, 0, rfl, nil⟩, ⟨none, 0, rfl, nil⟩, w0, w0, by decide, by decide, by decide⟩
    · exact ⟨⟨none, 0, rfl, nil⟩, ⟨none, 0, rfl, nil⟩, w0, w0, by decide, by decide, by decide⟩
  exact ref_tsame PR.hins Bi.isS1 PR.hlets Bl.isLt1 PR.houts Bo.isS1 PR.hall hN PR.hnodes hR (hm.trans hM.symm) (by omega)
set_option maxHeartbeats 32000000 in
theorem tree_awake (w : World) (he : ErrV w) : Calls Tryz.prog 9 #[] w fun e w' => e = .returned (.bool true) ∧ Below w.heap.size w w' := by
  have PA := tree_parse exT (by decide) w he
  rw [ex_parse] at PA
  unfold AnsPG exT at PA
  dsimp only at PA
  have OF : ∀ v : World, Calls Tryz.prog 24 #[.int .i64 2] v (AnsT v (false, 2, 1)) := fun v => (ref_rof 2 v (by decide) (by decide)).mono fun e w' h => by rw [ansR_iff, two_tri] at h; exact h
  unfold AnsT at OF
  dsimp only at OF
  rw [show nl 2 = 1 by kernel_rfl, show nl 1 = 1 by kernel_rfl, show natOf 2 = [2] by kernel_rfl, show natOf 1 = [1] by kernel_rfl] at OF
  go_enter Tryz.func9, Tryz.ntmps9
  go_wp2_with (go_at_call 10; (with_reducible refine Calls.mono PA ?_); rintro e w1 ⟨i1, l1, o1, a1, rfl, HP, d1⟩; obtain ⟨ia, ic, la, lc, oa, oc, aa, ac, ms, rfl, rfl, rfl, rfl, PR, hm, hn⟩ := pg_ex HP)
  obtain ⟨B0, B1, B2, B3, B4, bX⟩ := boxes5 w1 #[.slice ia 1 ic, .slice la 1 lc, .slice oa 1 oc, .slice aa 4 ac] #[.int .i64 0, .int .i64 0] #[.string ⟨#[120]⟩] #[.string ⟨#[97]⟩, .int .i64 3] #[.string ⟨#[97]⟩] 27 29 9 46 9
  generalize ((((w1.alloc (.cells #[.slice ia 1 ic, .slice la 1 lc, .slice oa 1 oc, .slice aa 4 ac] 27)).alloc (.cells #[.int .i64 0, .int .i64 0] 29)).alloc (.cells #[.string ⟨#[120]⟩] 9)).alloc (.cells #[.string ⟨#[97]⟩, .int .i64 3] 46)).alloc (.cells #[.string ⟨#[97]⟩] 9) = X at *
  have HP : Hid (PgR w1 ia la oa aa 1 1 1 4 ac [⟨#[120]⟩] [⟨#[97]⟩] [(⟨#[97]⟩, 3)] ms ∧ ms.map (·.1) = exM ∧ (ms.map fun m => m.1.nd) = exN ∧ Below w.heap.size w w1) := ⟨PR, hm, hn, d1⟩
  have HX : Hid (Below w1.heap.size w1 X) := bX
  have RT := fun v (h : PgR v ia la oa aa 1 1 1 4 ac [⟨#[120]⟩] [⟨#[97]⟩] [(⟨#[97]⟩, 3)] ms) => tree_right (ic := ic) (lc := lc) (oc := oc) h true (by rw [hm]; exact ex_right)
  have HT := fun v (h : PgR v ia la oa aa 1 1 1 4 ac [⟨#[120]⟩] [⟨#[97]⟩] [(⟨#[97]⟩, 3)] ms) => tree_Heights (ic := ic) (lc := lc) (oc := oc) h true (by rw [hm]; exact ex_right)
  rw [if_pos rfl, hn, ex_hts] at HT
  have HB : Hid (BoxC X (w1.heap.size + 1 + 1) #[.string ⟨#[120]⟩] 9 ∧ BoxC X (w1.heap.size + 1 + 1 + 1) #[.string ⟨#[97]⟩, .int .i64 3] 46 ∧ BoxC X (w1.heap.size + 1 + 1 + 1 + 1) #[.string ⟨#[97]⟩] 9) := ⟨B2, B3, B4⟩
  clear PR hm hn PA he d1 bX B2 B3 B4
  go_wp2_with (first
    | (go_at_call 24; (with_reducible refine Calls.mono (OF _) ?_); rintro e w2 ⟨na, nc, nb, nd, rfl, q1, q2⟩; have C0 := B0.more q1.below; have C1 := B1.more q1.below; have p0 := fun o1 o2 => (((C0.alloc o1).alloc o2).cell 0).1; have p1 := fun o1 o2 => (((C0.alloc o1).alloc o2).cell 1).1; have p2 := fun o1 o2 => (((C0.alloc o1).alloc o2).cell 2).1; have p3 := fun o1 o2 => (((C0.alloc o1).alloc o2).cell 3).1; have l0 := fun o1 o2 => (((C1.alloc o1).alloc o2).cell 0).1; have l1 := fun o1 o2 => (((C1.alloc o1).alloc o2).cell 1).1; have t0 := fun o1 => ((box_second w2 o1 #[.slice (some ⟨w1.heap.size + 1 + 1, 0, none⟩) 1 1, .slice (some ⟨w1.heap.size + 3, 0, none⟩) 1 1, .slice (some ⟨w1.heap.size + 4, 0, none⟩) 1 1, .slice (some ⟨w2.heap.size, 0, none⟩) 4 4] 27).cell 0).1)
    | (go_at_call 12; have PY := fun o1 o2 => HP.out.1.below (below_more HX.out (((q1.below).alloc q1.below.size o1).alloc (q1.below.alloc q1.below.size o1).size o2)); (with_reducible refine Calls.mono (ex_same (PY _ _) HP.out.2.1 (((HB.out.1.more q1.below).alloc _).alloc _) (((HB.out.2.1.more q1.below).alloc _).alloc _) (((HB.out.2.2.more q1.below).alloc _).alloc _) ((BoxC.new w2 _ _).alloc _) (q1.words.below (((Below.refl _ w2).alloc (Nat.le_refl _) _).alloc (by simp) _)) (q2.words.below (((Below.refl _ w2).alloc (Nat.le_refl _) _).alloc (by simp) _))) ?_); rintro e w3 ⟨rfl, d3⟩; have D0 := ((C0.alloc _).alloc _).more d3; have D1 := ((C1.alloc _).alloc _).more d3; have e0 := (D0.cell 0).1; have e1 := (D0.cell 1).1; have e2 := (D0.cell 2).1; have e3 := (D0.cell 3).1; have P3 := (PY _ _).below d3; have HY := below_more (((Below.refl _ w2).alloc (Nat.le_refl _) _).alloc (by simp) _) d3)
    | (go_at_call 16; (with_reducible refine Calls.mono (RT _ P3) ?_); rintro e w4 ⟨rfl, d4⟩; have D2 := D0.more d4; have f0 := (D2.cell 0).1; have f1 := (D2.cell 1).1; have f2 := (D2.cell 2).1; have f3 := (D2.cell 3).1; have P4 := P3.below d4)
    | (go_at_call 18; (with_reducible refine Calls.mono (HT _ P4) ?_); rintro e w5 ⟨ha, hn', hc, rfl, hI, d5⟩; obtain rfl : 4 = hn' := hI.1)
    | (go_at_call 17; (with_reducible refine Calls.mono (ref_ints (hI.below ((Below.refl _ w5).alloc (Nat.le_refl _) _)) (BoxC.new w5 _ _).isI4 (by omega)) ?_); rintro e w6 ⟨rfl, d6⟩))
  go_ret
  exact ⟨rfl, below_more (below_more (below_more HP.out.2.2.2 (below_more HX.out q1.below)) HY) (below_more d4 (below_more d5 (below_more ((Below.refl _ w5).alloc (Nat.le_refl _) _) d6)))⟩
end Go.Proofs.YtbcfplaalepnbaaGreatDoor
namespace Go.Proofs.YtbcfplaalepnbaaGreatDoor
theorem front_app {l m : List UInt8} (h : ∀ c ∈ l, c ≠ 124) : frontR (l ++ 124 :: m) = l ∧ restR (l ++ 124 :: m) = 124 :: m := by
  induction l with
  | nil => exact ⟨by unfold frontR; rw [List.nil_append, List.takeWhile_cons_of_neg (by decide)], by unfold restR; rw [List.nil_append, List.dropWhile_cons_of_neg (by decide)]⟩
  | cons c l ih =>
    have hc := h c (by simp)
    obtain ⟨i1, i2⟩ := ih (fun d hd => h d (by simp [hd]))
    unfold frontR restR at *
    rw [List.cons_append, List.takeWhile_cons_of_pos (by simpa using hc), List.dropWhile_cons_of_pos (by simpa using hc), i1, i2]
    exact ⟨rfl, rfl⟩
theorem front_all {l : List UInt8} (h : ∀ c ∈ l, c ≠ 124) : frontR l = l ∧ restR l = [] := by
  induction l with
  | nil => exact ⟨rfl, rfl⟩
  | cons c l ih =>
    have hc := h c (by simp)
    obtain ⟨i1, i2⟩ := ih (fun d hd => h d (by simp [hd]))
    unfold frontR restR at *
    rw [List.takeWhile_cons_of_pos (by simpa using hc), List.dropWhile_cons_of_pos (by simpa using hc), i1, i2]
    exact ⟨rfl, rfl⟩
end Go.Proofs.YtbcfplaalepnbaaGreatDoor
namespace Go.Proofs.YtbcfplaalepnbaaGreatDoor
open Go.Lib
theorem num_right {q : Rat} (h0 : 0 ≤ q.num) (h1 : (decOf q.num.natAbs).length ≤ 40) (h2 : (decOf q.den).length ≤ 40) : numR (tri q).1 (natOf (tri q).2.1) (natOf (tri q).2.2) = true := by
  have short : ∀ A : Nat, (decOf A).length ≤ 40 → shortB (natOf A) = true := fun A hA => by
    have hl : A < 4294967296 ^ 5 := Nat.lt_of_lt_of_le (lt_decOf A) (Nat.le_trans (Nat.pow_le_pow_right (by decide) hA) (by decide))
    unfold shortB
    rw [val_natOf, decide_eq_true hA, natOf_len, decide_eq_true (nl_le 5 A hl)]; rfl
  have e : decide (q.num < 0) = false := by rw [decide_eq_false_iff_not]; omega
  have hr := rv_tri q
  unfold numR tri
  dsimp only
  rw [short _ h1, short _ h2]
  unfold rghB
  rw [val_natOf, val_natOf, hr, e]
  simp
theorem num_one {l : List UInt8} (h : Num l) (hl : l.length ≤ 40) : parT l = tri ((valD l : Int) : Rat) := by
  have hd : ∀ c ∈ l, c ≠ 124 := fun c hc e => by
    have := h.2.1 c hc
    rw [e] at this
    exact absurd this.2 (by decide)
  have hh : l.head? ≠ some 45 := fun e => by
    have := h.2.1 45 (List.mem_of_mem_head? e)
    exact absurd this.1 (by decide)
  obtain ⟨f1, f2⟩ := front_all hd
  have es : stripI l = l := if_neg hh
  have z1 : zerr l = 0 := by unfold zerr; rw [es]; exact perr_ok (by omega) h
  have z2 : znum l = (valD l : Int) := by unfold znum minusI; rw [es, pnum_ok (by omega) h, decide_eq_false hh]; rfl
  have e : parE l = 0 := by unfold parE; rw [f1, z1, f2]; rfl
  unfold parT parQ
  rw [if_pos e, f1, f2, z2]
theorem num_two {l m : List UInt8} (h : Num l) (hl : l.length ≤ 40) (k : Num m) (hm : m.length ≤ 40) (h0 : 0 < valD m) : parT (l ++ 124 :: m) = tri (mkRat (valD l : Int) (valD m)) := by
  have hd : ∀ c ∈ l, c ≠ 124 := fun c hc e => by
    have := h.2.1 c hc
    rw [e] at this
    exact absurd this.2 (by decide)
  have hh : l.head? ≠ some 45 := fun e => by
    have := h.2.1 45 (List.mem_of_mem_head? e)
    exact absurd this.1 (by decide)
  obtain ⟨f1, f2⟩ := front_app (m := m) hd
  have es : stripI l = l := if_neg hh
  have z1 : zerr l = 0 := by unfold zerr; rw [es]; exact perr_ok (by omega) h
  have z2 : znum l = (valD l : Int) := by unfold znum minusI; rw [es, pnum_ok (by omega) h, decide_eq_false hh]; rfl
  have p1 := pnum_ok (by omega) k
  have p2 := perr_ok (by omega) k
  have e : parE (l ++ 124 :: m) = 0 := by
    unfold parE; rw [f1, z1, f2]
    show (if (0 : Int) ≠ 0 then (0 : Int) else if perr m ≠ 0 then perr m else if pnum m = 0 then 3 else 0) = 0
    rw [p2, p1, if_neg (by omega), if_neg (by omega), if_neg (by omega)]
  unfold parT parQ
  rw [if_pos e, f1, f2, z2]
  show tri (mkRat (valD l : Int) (pnum m)) = _
  rw [p1]
theorem rat_small (A D : Nat) (h : 0 < D) : 0 ≤ (mkRat (A : Int) D).num ∧ (mkRat (A : Int) D).num.natAbs ≤ A ∧ (mkRat (A : Int) D).den ≤ D := by
  rw [Rat.num_mkRat, Rat.den_mkRat, if_neg (by omega), if_neg (by omega)]
  refine ⟨Int.ediv_nonneg (by omega) (by omega), ?_, Nat.div_le_self _ _⟩
  rw [show ((A : Int) / ((Nat.gcd D (A : Int).natAbs : Nat) : Int)) = ((A / Nat.gcd D (A : Int).natAbs : Nat) : Int) by rw [Int.natCast_ediv]]
  rw [Int.natAbs_natCast]
  exact Nat.div_le_self _ _
theorem part_num {x : ByteArray} (h : partB x = true) : Num x.data.toList ∧ x.data.toList.length ≤ 40 := by
  unfold partB at h
  simp only [Bool.and_eq_true, Bool.or_eq_true, decide_eq_true_eq] at h
  obtain ⟨⟨⟨h1, h2⟩, h3⟩, h4⟩ := h
  have hz : x.data.toList.length = x.size := by rw [Array.length_toList]; rfl
  have get : ∀ j (hj : j < x.data.toList.length), (x.data.toList[j]).toNat = bt x j := fun j hj => by
    rw [bt_get (by omega : j < x.size)]; rfl
  refine ⟨⟨fun e => by rw [e] at hz; simp at hz; omega, fun c hc => ?_, fun e => ?_⟩, by omega⟩
  · obtain ⟨j, hj, rfl⟩ := List.getElem_of_mem hc
    rw [get j hj]
    have := (kindAt_digit.1 (digEnd_all x _ 0 (Nat.le_refl _) j (Nat.zero_le _) (by omega))).2
    exact this
  · rcases h4 with h4 | h4
    · omega
    · exfalso
      apply h4
      have hp : 0 < x.data.toList.length := by omega
      rw [← get 0 hp]
      rw [List.head?_eq_getElem?, List.getElem?_eq_getElem hp] at e
      rw [Option.some.inj e]; rfl
theorem split_text {x : ByteArray} {n : Nat} (h : n < x.size) (hb : bt x n = 124) : x.data.toList = (x.extract 0 n).data.toList ++ 124 :: (x.extract (n + 1) x.size).data.toList := by
  have hz : x.data.toList.length = x.size := by rw [Array.length_toList]; rfl
  have e1 : (x.extract 0 n).data.toList = x.data.toList.take n := by
    rw [ByteArray.data_extract, Array.toList_extract]; simp
  have e2 : (x.extract (n + 1) x.size).data.toList = x.data.toList.drop (n + 1) := by
    rw [ByteArray.data_extract, Array.toList_extract, List.extract_eq_take_drop]
    rw [List.take_of_length_le (by rw [List.length_drop]; omega)]
  rw [e1, e2]
  have hn : n < x.data.toList.length := by omega
  have e3 : x.data.toList[n] = 124 := by
    apply UInt8.toNat_inj.1
    rw [bt_get h] at hb
    exact hb
  conv => lhs; rw [← List.take_append_drop n x.data.toList]
  rw [List.drop_eq_getElem_cons hn, e3]
theorem num_text {x : ByteArray} (h : numB x = true) : numR (numT x).1 (natOf (numT x).2.1) (natOf (numT x).2.2) = true := by
  unfold numB at h
  unfold numT
  split at h
  · obtain ⟨n1, n2⟩ := part_num h
    rw [num_one n1 n2]
    refine num_right ?_ ?_ ?_
    · rw [Rat.num_intCast]; omega
    · rw [Rat.num_intCast, Int.natAbs_natCast, decOf_valD n1]; exact n2
    · rw [Rat.den_intCast]; exact decOf_len_le (by decide) (by decide)
  · rename_i hc
    simp only [Bool.and_eq_true, Bool.not_eq_true'] at h
    obtain ⟨⟨h1, h2⟩, h3⟩ := h
    have hlt : cutI x < x.size := by have := cutI_le x; omega
    obtain ⟨n1, n2⟩ := part_num h1
    obtain ⟨m1, m2⟩ := part_num h2
    rw [split_text hlt ((cutI_told x).2 hlt)]
    have h0 : 0 < valD (x.extract (cutI x + 1) x.size).data.toList := by
      rcases Nat.eq_zero_or_pos (valD (x.extract (cutI x + 1) x.size).data.toList) with e | e
      · exfalso
        have := decOf_valD m1
        rw [e, decOf_zero] at this
        rw [ByteArray.toList_eq, ← this] at h3
        exact absurd h3 (by decide)
      · exact e
    rw [num_two n1 n2 m1 m2 h0]
    obtain ⟨r1, r2, r3⟩ := rat_small (valD (x.extract 0 (cutI x)).data.toList) (valD (x.extract (cutI x + 1) x.size).data.toList) h0
    refine num_right r1 (Nat.le_trans (decOf_len_mono r2) ?_) (Nat.le_trans (decOf_len_mono r3) ?_)
    · rw [decOf_valD n1]; exact n2
    · rw [decOf_valD m1]; exact m2
theorem exp_small {x : ByteArray} (h : kindAt x 0 = 2) : expI x ≤ 20 := by
  have hb := kindAt_digit.1 h
  unfold expI
  split
  · omega
  · split
    · omega
    · omega
def GoodN (n : Nd) : Prop := fillR (rawOf n) = true ∧ (natOf n.num.2.1).length ≤ 5 ∧ (natOf n.num.2.2).length ≤ 5 ∧ n.name.size ≤ 40
theorem none_raw (k a b x : Int) (y : ByteArray) : noneB (rawOf ⟨k, a, b, x, y, (false, 0, 0)⟩) = true := by
  unfold noneB rawOf
  dsimp only
  rw [natOf_zero]; rfl
theorem empty_no : emptyB noText = true := by unfold emptyB noText; rw [ByteArray.toList_eq]; rfl
theorem num_len {s : Bool} {xs ys : List Int} (h : numR s xs ys = true) : xs.length ≤ 5 ∧ ys.length ≤ 5 := by
  unfold numR shortB at h
  simp only [Bool.and_eq_true, decide_eq_true_eq] at h
  exact ⟨h.1.1.2.1, h.1.2.1⟩
theorem makes_good {L : List Tok} (hL : ∀ t ∈ L, RightT t.1 t.2.1) : Makes numT L GoodN := by
  have z : (natOf 0).length ≤ 5 := by rw [natOf_zero]; decide
  have e0 : noText.size ≤ 40 := by decide
  constructor
  · intro x hx
    refine ⟨?_, z, z, ?_⟩
    · unfold fillR
      rw [if_pos (show (rawOf ⟨0, 0, 0, 0, x, (false, 0, 0)⟩).kind = 0 from rfl), none_raw]
      show (nameB x && _ && _ && _ && _) = true
      rw [hx]; rfl
    · unfold nameB at hx
      simp only [Bool.and_eq_true, decide_eq_true_eq] at hx
      exact hx.1.1.2
  · intro t ht h1
    have hr := hL t ht
    rw [h1] at hr
    have hn : numB t.2.1 = true := by
      rcases right_kind hr with ⟨q, -⟩ | ⟨-, -, q⟩ | ⟨q, -⟩
      · exact absurd q (by decide)
      · exact q
      · exact absurd q (by decide)
    have hq := num_text hn
    refine ⟨?_, (num_len hq).1, (num_len hq).2, e0⟩
    unfold fillR
    rw [if_neg (show ¬ (rawOf ⟨1, 0, 0, 0, noText, numT t.2.1⟩).kind = 0 from by show ¬ (1 : Int) = 0; decide), if_pos (show (rawOf ⟨1, 0, 0, 0, noText, numT t.2.1⟩).kind = 1 from rfl)]
    show (numR (numT t.2.1).1 (natOf (numT t.2.1).2.1) (natOf (numT t.2.1).2.2) && _ && _ && _ && emptyB noText) = true
    rw [hq, empty_no]; rfl
  · intro k a b h2 h5
    refine ⟨?_, z, z, e0⟩
    have hn := none_raw k a b 0 noText
    obtain ⟨m, hm⟩ : ∃ m, rawOf ⟨k, a, b, 0, noText, (false, 0, 0)⟩ = m := ⟨_, rfl⟩
    have hk : m.kind = k := by rw [← hm]; rfl
    have he : m.exp = 0 := by rw [← hm]; rfl
    have hx : m.name = noText := by rw [← hm]; rfl
    rw [hm] at hn ⊢
    unfold fillR
    rw [if_neg (by omega), if_neg (by omega), if_pos (by omega), hn, he, hx, empty_no]; rfl
  · intro a
    refine ⟨?_, z, z, e0⟩
    have hn := none_raw 6 a 0 0 noText
    obtain ⟨m, hm⟩ : ∃ m, rawOf ⟨6, a, 0, 0, noText, (false, 0, 0)⟩ = m := ⟨_, rfl⟩
    have hk : m.kind = 6 := by rw [← hm]; rfl
    have he : m.exp = 0 := by rw [← hm]; rfl
    have hb : m.b = 0 := by rw [← hm]; rfl
    have hx : m.name = noText := by rw [← hm]; rfl
    rw [hm] at hn ⊢
    unfold fillR
    rw [if_neg (by omega), if_neg (by omega), if_neg (by omega), if_pos hk, hn, he, hb, hx, empty_no]; rfl
  · intro a fac t ht h1 h0 hf
    have hr := hL t ht
    rw [h1] at hr
    have hk : kindAt t.2.1 0 = 2 := by
      rcases right_kind hr with ⟨q, -⟩ | ⟨-, q, -⟩ | ⟨q, -⟩
      · exact absurd q (by decide)
      · exact q
      · exact absurd q (by decide)
    have h20 := exp_small hk
    refine ⟨?_, z, z, e0⟩
    have hn := none_raw 7 a 0 (fac * expI t.2.1) noText
    obtain ⟨m, hm⟩ : ∃ m, rawOf ⟨7, a, 0, fac * expI t.2.1, noText, (false, 0, 0)⟩ = m := ⟨_, rfl⟩
    have hk : m.kind = 7 := by rw [← hm]; rfl
    have he : m.exp = fac * expI t.2.1 := by rw [← hm]; rfl
    have hb : m.b = 0 := by rw [← hm]; rfl
    have hx : m.name = noText := by rw [← hm]; rfl
    rw [hm] at hn ⊢
    unfold fillR
    rw [if_neg (by omega), if_neg (by omega), if_neg (by omega), if_neg (by omega), if_pos hk, hn, he, hb, hx, empty_no, decide_eq_true (by rcases hf with rfl | rfl <;> omega)]; rfl
theorem seg_sgF {m0 : List Nw} (hf : ∀ m ∈ m0, fillR m = true) (ms : List Nw) (j : Nat) (hms : ∀ p, p < j → ms[p]? = m0[p]?) {s i : Nat} (h : Seg (m0.map Nw.nd) s i) :
    s ≤ i ∧ (i < j → ∀ f (lo : List Int), i + 1 - s ≤ f → sgF ms j f s lo = sgF ms j (f - (i + 1 - s)) (i + 1) (lo ++ [(i : Int)])) := by
  have step : ∀ (p : Nat) (n : Nd) (lo : List Int) (pt : List Int), (m0.map Nw.nd)[p]? = some n → ptsI n.kind n.a n.b = pt → p < j → ∀ f, 1 ≤ f → sgF ms j f p (lo ++ pt) = sgF ms j (f - 1) (p + 1) (lo ++ [(p : Int)]) := by
    intro p n lo pt hn hp hj f hf1
    obtain ⟨f, rfl⟩ : ∃ g, f = g + 1 := ⟨f - 1, by omega⟩
    rw [List.getElem?_map] at hn
    cases hm0 : m0[p]? with
    | none => rw [hm0] at hn; exact absurd hn (by simp)
    | some m =>
      rw [hm0] at hn
      obtain rfl : m.nd = n := by simpa using hn
      have hm : ms[p]? = some m := by rw [hms p hj, hm0]
      have hfn := hf m (List.mem_of_getElem? hm0)
      have e : sgStep ms p (lo ++ pt) = some (lo ++ [(p : Int)]) := by
        unfold sgStep
        rw [hm]
        dsimp only
        rw [show ptsI m.kind m.a m.b = pt from hp]
        rw [List.length_append, Nat.add_sub_cancel, List.drop_left, List.take_left, if_pos ⟨hfn, Nat.le_add_left _ _, rfl⟩]
      conv => lhs; unfold sgF
      rw [if_pos hj, e]; rfl
  refine h (fun s i => s ≤ i ∧ (i < j → ∀ f (lo : List Int), i + 1 - s ≤ f → sgF ms j f s lo = sgF ms j (f - (i + 1 - s)) (i + 1) (lo ++ [(i : Int)]))) ?_ ?_ ?_
  · intro i n hn hk
    refine ⟨Nat.le_refl _, fun hj f lo hl => ?_⟩
    have := step i n lo [] hn (by unfold ptsI; rw [if_pos hk]) hj f (by omega)
    rw [List.append_nil] at this
    rw [this, show i + 1 - i = 1 by omega]
  · intro s i n ⟨hle, ih⟩ hn hk ha
    refine ⟨by omega, fun hj f lo hl => ?_⟩
    rw [ih (by omega) f lo (by omega)]
    have := step (i + 1) n lo [(i : Int)] hn (by unfold ptsI; rw [if_neg (by omega), if_pos hk, ha]) hj (f - (i + 1 - s)) (by omega)
    rw [this, show f - (i + 1 - s) - 1 = f - (i + 1 + 1 - s) by omega]
  · intro s k i n ⟨h1, ih1⟩ ⟨h2, ih2⟩ hn hk2 hk5 ha hb
    refine ⟨by omega, fun hj f lo hl => ?_⟩
    rw [ih1 (by omega) f lo (by omega), ih2 (by omega) _ _ (by omega), List.append_assoc, List.singleton_append]
    have := step (i + 1) n lo [(k : Int), (i : Int)] hn (by unfold ptsI; rw [if_neg (by omega), if_neg (by omega), ha, hb]) hj (f - (k + 1 - s) - (i + 1 - (k + 1))) (by omega)
    rw [this, show f - (k + 1 - s) - (i + 1 - (k + 1)) - 1 = f - (i + 1 + 1 - s) by omega]
theorem seg_single {m0 : List Nw} (hf : ∀ m ∈ m0, fillR m = true) {s i : Nat} (h : Seg (m0.map Nw.nd) s i) : sgB (m0.take (i + 1)) (i + 1) s = true := by
  have hle := h.le
  unfold sgB
  rw [(seg_sgF hf _ (i + 1) (fun p hp => by rw [List.getElem?_take, if_pos hp]) h).2 (Nat.lt_succ_self i) (i + 1 + 1) [] (by omega)]
  obtain ⟨g, hg⟩ : ∃ g, i + 1 + 1 - (i + 1 - s) = g + 1 := ⟨i + 1 - (i + 1 - s), by omega⟩
  rw [hg]
  unfold sgF
  rw [if_neg (Nat.lt_irrefl _)]; rfl
theorem lets_grown {m0 : List Nw} (hf : ∀ m ∈ m0, fillR m = true) : ∀ {m : List (ByteArray × Int)} {b : Nat}, LetsEnd (m0.map Nw.nd) b m m0.length → grF m0 m b = true := by
  intro m
  induction m with
  | nil =>
    intro b h
    have : b = m0.length := h
    unfold grF
    rw [decide_eq_true (by omega)]
  | cons x m ih =>
    rintro b ⟨i, hx, hn, hs, h⟩
    have hle := hs.le
    rw [List.length_map] at hle
    unfold grF
    rw [hx, hn, decide_eq_true (show (b : Int) ≤ (i : Int) by omega), decide_eq_true (show (i : Int) < (m0.length : Int) by omega), Int.toNat_natCast, Int.toNat_natCast, seg_single hf hs]
    have := ih h
    rw [show ((i : Int) + 1) = ((i + 1 : Nat) : Int) by omega, this]; rfl
theorem parse_good {s : ByteArray} {p : Pg} {l c : Int} (h : parseI s = (p, (l, c), 0)) : (∀ n ∈ p.all, GoodN n) ∧ LetsEnd p.all 0 p.lets p.all.length ∧ (1 ≤ p.ins.length ∧ ∀ x ∈ p.ins, nameB x = true) ∧ (1 ≤ p.outs.length ∧ ∀ x ∈ p.outs, nameB x = true) ∧
    lngB p.all p.ins.length p.lets.length p.outs.length = false ∧ l = 0 ∧ c = 0 := by
  unfold parseI at h
  split at h
  · rename_i h0
    injection h with h1 h2
    injection h2 with h2 h3
    exact absurd h3 h0
  · split at h
    · exfalso
      split at h
      · injection h with h1 h2
        injection h2 with h2 h3
        exact absurd h3 (by decide)
      · injection h with h1 h2
        injection h2 with h2 h3
        exact absurd h3 (by decide)
    · rename_i hb
      split at h
      · injection h with h1 h2
        injection h2 with h2 h3
        exact absurd h3 (by decide)
      · rename_i hl
        injection h with h1 h2
        injection h2 with h2 h3
        injection h2 with h4 h5
        have hb' : (progI numT (lexI s).1).2.bad = false := by simpa using hb
        obtain ⟨g1, g2, g3⟩ := prog_good hb'
        have g4 := prog_fields (makes_good (fun t ht => (lexI_right s t ht).1)) hb'
        subst h1
        exact ⟨g4, g3, g1, g2, by simpa using hl, h4.symm, h5.symm⟩
theorem rgt_good {p : Pg} (hg : ∀ n ∈ p.all, GoodN n) (hl : LetsEnd p.all 0 p.lets p.all.length) (hi : 1 ≤ p.ins.length ∧ ∀ x ∈ p.ins, nameB x = true) (ho : 1 ≤ p.outs.length ∧ ∀ x ∈ p.outs, nameB x = true) (hn : lngB p.all p.ins.length p.lets.length p.outs.length = false) :
    rgtB p.ins p.outs p.lets (p.all.map rawOf) = true := by
  unfold lngB at hn
  simp only [Bool.or_eq_false_iff, decide_eq_false_iff_not] at hn
  obtain ⟨⟨⟨⟨n1, n2⟩, n3⟩, n4⟩, n5⟩ := hn
  have e : (p.all.map rawOf).map Nw.nd = p.all := by
    rw [List.map_map, show (Nw.nd ∘ rawOf) = id from funext nd_raw, List.map_id]
  have g := lets_grown (m0 := p.all.map rawOf) (fun m hm => by obtain ⟨n, hn, rfl⟩ := List.mem_map.1 hm; exact (hg n hn).1) (b := 0) (by rw [e, List.length_map]; exact hl)
  unfold rgtB fewB lowB
  rw [e, List.length_map, n5]
  rw [show ((0 : Int) = ((0 : Nat) : Int)) from rfl, g]
  rw [decide_eq_true (show p.all.length ≤ 400 by omega), decide_eq_true (show p.ins.length ≤ 40 by omega), decide_eq_true (show p.lets.length ≤ 40 by omega), decide_eq_true (show p.outs.length ≤ 40 by omega), decide_eq_true (show 0 < p.ins.length by omega), decide_eq_true (show 0 < p.outs.length by omega), List.all_eq_true.2 hi.2, List.all_eq_true.2 ho.2]; rfl
theorem parse_none {s : ByteArray} {p : Pg} {l c E : Int} (h : parseI s = (p, (l, c), E)) (hE : E ≠ 0) : p = noPg := by
  unfold parseI at h
  split at h
  · injection h with h1 h2; exact h1.symm
  · split at h
    · split at h
      · injection h with h1 h2; exact h1.symm
      · injection h with h1 h2; exact h1.symm
    · split at h
      · injection h with h1 h2; exact h1.symm
      · injection h with h1 h2
        injection h2 with h2 h3
        exact absurd h3.symm hE
structure FineP (p : Pg) : Prop where
  nodes : ∀ n ∈ p.all, GoodN n
  ins : ∀ x ∈ p.ins, nameB x = true
  outs : ∀ x ∈ p.outs, nameB x = true
  lets : ∀ x ∈ p.lets, x.1.size ≤ 40 ∧ 0 ≤ x.2 ∧ x.2 < (p.all.length : Int)
  few : p.ins.length ≤ 40 ∧ p.lets.length ≤ 40 ∧ p.outs.length ≤ 40 ∧ p.all.length ≤ 400
theorem fine_no : FineP noPg := ⟨fun n hn => absurd hn (by simp [noPg]), fun n hn => absurd hn (by simp [noPg]), fun n hn => absurd hn (by simp [noPg]), fun n hn => absurd hn (by simp [noPg]), by decide⟩
theorem name_short {x : ByteArray} (h : nameB x = true) : x.size ≤ 40 := by
  unfold nameB at h
  simp only [Bool.and_eq_true, decide_eq_true_eq] at h
  exact h.1.1.2
theorem LetsEnd.names {l : List Nd} : ∀ {m : List (ByteArray × Int)} {b e : Nat}, LetsEnd l b m e → ∀ x ∈ m, nameB x.1 = true := by
  intro m
  induction m with
  | nil => intro b e _ x hx; exact absurd hx (by simp)
  | cons y m ih =>
    rintro b e ⟨i, -, hn, -, h⟩ x hx
    rcases List.mem_cons.1 hx with rfl | hx
    · exact hn
    · exact ih h x hx
theorem parse_fine {s : ByteArray} {p : Pg} {l c E : Int} (h : parseI s = (p, (l, c), E)) : FineP p := by
  by_cases hE : E = 0
  · subst hE
    obtain ⟨g1, g2, g3, g4, g5, -, -⟩ := parse_good h
    unfold lngB at g5
    simp only [Bool.or_eq_false_iff, decide_eq_false_iff_not] at g5
    obtain ⟨⟨⟨⟨n1, n2⟩, n3⟩, n4⟩, -⟩ := g5
    exact ⟨g1, g3.2, g4.2, fun x hx => ⟨name_short (g2.names x hx), g2.roots x hx⟩, by omega, by omega, by omega, by omega⟩
  · rw [parse_none h hE]; exact fine_no
end Go.Proofs.YtbcfplaalepnbaaGreatDoor
namespace Go.Proofs.YtbcfplaalepnbaaGreatDoor
open Go.RowKit Go.Lib
theorem pg_fine {w : World} {i l o a : Value} {p : Pg} (h : IsPg w i l o a p) (F : FineP p) : ∃ ia ic la lc oa oc aa ac ms, i = .slice ia p.ins.length ic ∧ l = .slice la p.lets.length lc ∧ o = .slice oa p.outs.length oc ∧ a = .slice aa p.all.length ac ∧
    PgR w ia la oa aa p.ins.length p.lets.length p.outs.length p.all.length ac p.ins p.outs p.lets ms ∧ ms.map (·.1) = p.all.map rawOf := by
  obtain ⟨ia, ic, la, lc, oa, oc, aa, ac, ms, rfl, rfl, rfl, rfl, h1, h2, h3, h4, h5, h6, h7⟩ := h
  refine ⟨ia, ic, la, lc, oa, oc, aa, ac, ms, rfl, rfl, rfl, rfl, ⟨h1.isS, h2.isLt, h3.isS, h4, fun m hm => ?_, fun x hx => ?_, fun x hx => ?_, fun x hx => ?_, h7⟩, h5⟩
  · obtain ⟨⟨x, y, e, q⟩, ⟨x', y', e', q'⟩⟩ := h6 m hm
    have hmm : m.1 ∈ p.all.map rawOf := by rw [← h5]; exact List.mem_map_of_mem hm
    obtain ⟨n, hn, hr⟩ := List.mem_map.1 hmm
    obtain ⟨-, g1, g2, g3⟩ := F.nodes n hn
    have e1 : m.1.xs = natOf n.num.2.1 := by rw [← hr]; rfl
    have e2 : m.1.ys = natOf n.num.2.2 := by rw [← hr]; rfl
    have e3 : m.1.name = n.name := by rw [← hr]; rfl
    exact ⟨⟨x, y, e, e ▸ q⟩, ⟨x', y', e', e' ▸ q'⟩, by rw [e1]; exact wd_natOf _, by rw [e2]; exact wd_natOf _, by rw [e1]; omega, by rw [e2]; omega, by rw [e3]; omega⟩
  · have := name_short (F.ins x hx); omega
  · have := name_short (F.outs x hx); omega
  · obtain ⟨q1, q2, q3⟩ := F.lets x hx
    have := F.few.2.2.2
    exact ⟨by omega, by omega, by omega⟩
end Go.Proofs.YtbcfplaalepnbaaGreatDoor
namespace Go.Proofs.YtbcfplaalepnbaaGreatDoor
open Go.RowKit Go.Lib
def AnsPF (W : World) (p : Pg) (L C E : Int) (e : Ending) (w' : World) : Prop := ∃ ia ic la lc oa oc aa ac ms, e = .returned (.tuple #[.agg #[.slice ia p.ins.length ic, .slice la p.lets.length lc, .slice oa p.outs.length oc, .slice aa p.all.length ac], .agg #[.int .i64 L, .int .i64 C], .int .i64 E]) ∧
  PgR w' ia la oa aa p.ins.length p.lets.length p.outs.length p.all.length ac p.ins p.outs p.lets ms ∧ ms.map (·.1) = p.all.map rawOf ∧ Below W.heap.size W w'
theorem AnsPG.fine {W w' : World} {e : Ending} {p : Pg} {L C E : Int} (h : AnsPG W (p, (L, C), E) e w') (F : FineP p) : AnsPF W p L C E e w' := by
  obtain ⟨i, l, o, a, he, hp, hb⟩ := h
  obtain ⟨ia, ic, la, lc, oa, oc, aa, ac, ms, rfl, rfl, rfl, rfl, P, hm⟩ := pg_fine hp F
  exact ⟨ia, ic, la, lc, oa, oc, aa, ac, ms, he, P, hm, hb⟩
end Go.Proofs.YtbcfplaalepnbaaGreatDoor
namespace Go.Proofs.YtbcfplaalepnbaaGreatDoor
open Go.RowKit
theorem star_err : "*" ++ "errors.errorString" = "*errors.errorString" := by decide
theorem row_err (u : TypeId) (h : Tryz.prog.typeName? 3 u = some "*errors.errorString") : u = 255 :=
  typeName_ptr_named (nm := "errors.errorString") (by rw [star_err]; kernel_rfl) (by kernel_rfl) (by decide) u (by rw [star_err]; exact h)
theorem glob_syntax : Tryz.prog.globalNamed "strconv.ErrSyntax" = some 1 := by kernel_rfl
theorem glob_range : Tryz.prog.globalNamed "strconv.ErrRange" = some 2 := by kernel_rfl
theorem errv_laid {W : World} {tR tS : List UInt8} {r : List (String × DataW Unit)} (h : laidMet Tryz.prog (("strconv.ErrRange", .iface "*errors.errorString" (.ptr (.agg [.lit (.string tR)]))) :: ("strconv.ErrSyntax", .iface "*errors.errorString" (.ptr (.agg [.lit (.string tS)]))) :: r) W) : ErrV W := by
  obtain ⟨a0, s0, hv0, -, -, -⟩ := laid_sentinel h glob_range (ti := 188) (by kernel_rfl) Tryz.underlying188 row_err Tryz.underlying255 Tryz.underlying257 rfl rfl Tryz.underlying9 (by kernel_rfl) (by kernel_rfl)
  obtain ⟨a1, s1, hv1, -, -, -⟩ := laid_sentinel h.tail glob_syntax (ti := 188) (by kernel_rfl) Tryz.underlying188 row_err Tryz.underlying255 Tryz.underlying257 rfl rfl Tryz.underlying9 (by kernel_rfl) (by kernel_rfl)
  exact ⟨⟨_, _, by have h1 := World.var?_cell glob_syntax hv1 0; simpa using h1⟩, ⟨_, _, by have h0 := World.var?_cell glob_range hv0 0; simpa using h0⟩⟩
end Go.Proofs.YtbcfplaalepnbaaGreatDoor
