/-
  Texts of mine in build order. No conditions of their own.
-/
import Derived.Stop.LaidErr
import Derived.Lib.LaidTab
import Derived.Test.YtaeladkcmpdkhaaGreatDoorPack18
import Derived.Test.YtaeladkcmpdkhaaGreatDoorPack28
set_option maxHeartbeats 32000000
namespace Go.Proofs.YtaeladkcmpdkhaaGreatDoor
section
open Go.RowKit Go.Lib
theorem lexI_toks {s : ByteArray} (hs : s.size ≤ 1000000) : Toks (lexI s).1 := ⟨lexI_length s, fun t ht => ⟨(lexI_right s t ht).1, Nat.le_trans (lexI_right s t ht).2 hs⟩⟩
theorem tq_start {V w2 : World} {R : Nat} {la : Option Addr} {lc : Nat} {L : List Tok} (hR : V.heap.size ≤ R) (B : BoxC w2 R #[.slice la L.length lc, .slice none 0 0, .slice none 0 0, .slice none 0 0, .slice none 0 0, .slice none 0 0] 70) (hT : OwnT V w2 (.slice la L.length lc) L.length L) :
  Tq V w2 R la lc (.slice none 0 0) (.slice none 0 0) (.slice none 0 0) L 0 [] [] := by
 refine ⟨la, lc, none, 0, none, 0, hR, B, ⟨[], OwnC.nil hT.below, rfl, fun m hm => absurd hm (by simp)⟩, OwnC.nil hT.below, Nat.zero_le _, hT, fun h0 => ?_⟩
 rcases hT.1.2 with ⟨-, e⟩ | ⟨g, cap, cur, e, h1, h2, h3, -⟩
 ·omega
 ·injection e with e1 e2 e3
  subst e1; subst e3
  exact ⟨g, rfl, rfl, rfl, h3⟩
theorem long_few {p : Pg} {f lw : Bool} (hf : (decide (p.all.length ≤ 400) && decide (p.ins.length ≤ 40) && decide (p.lets.length ≤ 40) && decide (p.outs.length ≤ 40)) = f) (hl : (!(List.range p.all.length).any fun k => decide (60 < tallI p.all k)) = lw) : lngB p.all p.ins.length p.lets.length p.outs.length = (!f || !lw) := by
 subst hf; subst hl
 unfold lngB
 have e : ∀ a b : Nat, decide (a < b) = !decide (b ≤ a) := fun a b => by
  by_cases h : b ≤ a
  ·rw [decide_eq_true h, decide_eq_false (by omega)]; rfl
  ·rw [decide_eq_false h, decide_eq_true (by omega)]; rfl
 rw [e, e, e, e, Bool.not_and, Bool.not_and, Bool.not_and, Bool.not_not]
theorem Tq.prog {W w : World} {R : Nat} {ta : Option Addr} {tc : Nat} {i l o : Value} {L : List Tok} {p : Nat} {al : List Nd} {S : List It} (h : Tq W w R ta tc i l o L p al S) : ∃ a c, w.cell? ⟨R, 1, none⟩ = some i ∧ w.cell? ⟨R, 2, none⟩ = some l ∧ w.cell? ⟨R, 3, none⟩ = some o ∧ w.cell? ⟨R, 4, none⟩ = some (.slice a al.length c) ∧ NodesM W w a c al := by
 obtain ⟨la, lc, a, c, sa, sc, hW, B, hN, hS, hT⟩ := h
 exact ⟨a, c, (B.cell 1).1, (B.cell 2).1, (B.cell 3).1, (B.cell 4).1, hN⟩
theorem NodesM.isn {W w : World} {a : Option Addr} {c : Nat} {al : List Nd} (h : NodesM W w a c al) : ∃ ms, IsN w a al.length ms ∧ (ms.map fun m => m.1.nd) = al ∧ ms.map (·.1) = al.map rawOf ∧ (∀ m ∈ ms, (∃ x y z, m.2.1 = .slice x y z) ∧ ∃ x y z, m.2.2 = .slice x y z) ∧ ∀ m ∈ ms, NumW W w m := by
 obtain ⟨ms, h1, h2, h3⟩ := h
 exact ⟨ms, OwnC.isn (W := W) h1.1, nd_map h2, h2, fun m hm => ⟨(h3 m hm).1.sl, (h3 m hm).2.sl⟩, h3⟩
theorem parseI_err {s : ByteArray} {L : List Tok} {pl pc E : Int} (hl : lexI s = (L, (pl, pc), E)) (hE : E ≠ 0) : parseI s = (noPg, (pl, pc), E) := by
 unfold parseI
 rw [hl, if_pos hE]
theorem parseI_bad {s : ByteArray} {L : List Tok} {pl pc : Int} (hl : lexI s = (L, (pl, pc), 0)) (hb : (progI numT L).2.bad = true) : parseI s = (noPg, plcI s L (progI numT L).2.pos, 5) := by
 unfold parseI plcI
 rw [hl, if_neg (by simp)]
 dsimp only
 rw [if_pos hb]
 cases L[(progI numT L).2.pos]? <;> rfl
theorem parseI_rest {s : ByteArray} {L : List Tok} {pl pc : Int} (hl : lexI s = (L, (pl, pc), 0)) (hb : (progI numT L).2.bad = false) {r : Bool} (hr : lngB (progI numT L).1.all (progI numT L).1.ins.length (progI numT L).1.lets.length (progI numT L).1.outs.length = r) : parseI s = if r = true then (noPg, (1, 1), 4) else ((progI numT L).1, (0, 0), 0) := by
 unfold parseI
 rw [hl, if_neg (by simp)]
 dsimp only
 rw [if_neg (by rw [hb]; simp), hr]
theorem words_row {w : World} {B : Nat} {v : Value} {n : Nat} {xs : List Int} (h : w.ownsRow B 85 1 v n (xs.map (Value.int .u32))) : IsWords w v xs := by
 have hl : xs.length = n := by have := h.1; rw [List.length_map] at this; omega
 rcases h.2 with ⟨rfl, rfl⟩ | ⟨g, cap, cur, rfl, -, hg, hnc, hcm, -, -⟩
 ·exact .inl ⟨rfl, List.eq_nil_of_length_eq_zero hl⟩
 ·refine .inr ⟨⟨g, 0, none⟩, cap, by rw [hl], by omega, hcm, fun i hi => ?_⟩
  refine h.cells (g := g) rfl i _ ?_
  simp [hi]
theorem pg_good {V w w3 w4 w5 F : World} {B : Nat} {ia ta oa aa : Option Addr} {ic tc oc ac : Nat} {p : Pg} {P Q : TypeId} (OI : w3.ownsRow B 9 1 (.slice ia p.ins.length ic) p.ins.length (flat encS p.ins)) (OL : w3.ownsRow B 52 2 (.slice ta p.lets.length tc) p.lets.length (flat encL p.lets)) (OO : w3.ownsRow B 9 1 (.slice oa p.outs.length oc) p.outs.length (flat encS p.outs))
  (NM : NodesM V w4 aa ac p.all) (d4 : Below w3.heap.size w3 w4) (d5 : Below w4.heap.size w4 w5) (kF : Keep (fun T => T = P ∨ T = Q) w5 F) (bF : Below w.heap.size w F) (h1 : ¬ (9 = P ∨ 9 = Q)) (h2 : ¬ (52 = P ∨ 52 = Q)) (h3 : ¬ (47 = P ∨ 47 = Q)) (h4 : ¬ (85 = P ∨ 85 = Q)) :
  AnsPG w (p, (0, 0), 0) (.returned (.tuple #[.agg #[.slice ia p.ins.length ic, .slice ta p.lets.length tc, .slice oa p.outs.length oc, .slice aa p.all.length ac], .agg #[.int .i64 0, .int .i64 0], .int .i64 0])) F := by
 have RD : ∀ {T : TypeId} {k : Nat} {a : Option Addr} {n c : Nat} {cs : List Value} {B : Nat}, F.ownsRow B T k (.slice a n c) n cs → IsC k F a n cs := by
  intro T k a n c cs B h
  refine ⟨h.1, ?_⟩
  rcases h.2 with ⟨-, h0⟩ | ⟨g, cap, cur, e, hb, hg, h5, h6, h7, h8⟩
  ·exact .inl h0
  ·injection e with e1 e2 e3
   subst e1
   refine .inr ⟨_, rfl, fun j u hj => ?_⟩
   have hB : BoxC F g cur T := hg
   rw [← h8, List.getElem?_take] at hj
   split at hj
   ·have := (hB.cell j).1
    rw [Array.getElem?_toList] at hj
    rw [hj] at this
    have e2 : (⟨g, 0, none⟩ : Addr).add j = ⟨g, j, none⟩ := by cases j <;> simp [Addr.add]
    rw [e2]; exact this
   ·exact absurd hj (by simp)
 have KK : Keep (fun T => T = P ∨ T = Q) w3 F := ((Keep.of _ d4).more d5).trans kF
 have K4 : Keep (fun T => T = P ∨ T = Q) w4 F := (Keep.of _ d5).trans kF
 obtain ⟨ms, m1, m2, m3⟩ := NM
 refine ⟨_, _, _, _, rfl, ⟨ia, ic, ta, tc, oa, oc, aa, ac, ms, rfl, rfl, rfl, rfl, RD (ownsRow_keep OI KK h1), RD (ownsRow_keep OL KK h2), RD (ownsRow_keep OO KK h1), ?_, m2, fun m hm => ?_, ?_⟩, bF⟩
 ·exact OwnC.isn (W := V) (ownsRow_keep m1.1 K4 h3)
 ·obtain ⟨q1, q2⟩ := m3 m hm
  obtain ⟨x1, y1, e1⟩ := q1.lit
  obtain ⟨x2, y2, e2⟩ := q2.lit
  refine ⟨⟨x1, y1, e1, ?_⟩, ⟨x2, y2, e2, ?_⟩⟩
  ·rw [e1] at q1 ⊢
   exact words_row (ownsRow_keep q1.1 K4 h4)
  ·rw [e2] at q2 ⊢
   exact words_row (ownsRow_keep q2.1 K4 h4)
 ·have cap : ∀ {T : TypeId} {k B n c : Nat} {w : World} {a : Option Addr} {cs : List Value}, w.ownsRow B T k (.slice a n c) n cs → n ≤ c := by
   intro T k B n c w a cs h
   rcases h.2 with ⟨-, h0⟩ | ⟨g, cap, cur, e, hb, hg, h5, -⟩
   ·omega
   ·injection e with e1 e2 e3
    omega
  exact ⟨cap m1.1, cap OI, cap OO⟩
set_option maxRecDepth 100000 in
theorem tree_parse (s : ByteArray) (hs : s.size ≤ 1000000) (w : World) (he : ErrV w) : Calls Tryz.prog 16 #[.string s] w (AnsPG w (parseI s)) := by
 obtain ⟨b1, b2, bV, hV⟩ := boxes2 w #[.slice none 0 0, .slice none 0 0, .slice none 0 0, .slice none 0 0] #[.int .i64 0, .int .i64 0] 26 34
 have heV := he.below bV
 have hTk := lexI_toks hs
 obtain ⟨V, hVV⟩ : ∃ V, (w.alloc (.cells #[.slice none 0 0, .slice none 0 0, .slice none 0 0, .slice none 0 0] 26)).alloc (.cells #[.int .i64 0, .int .i64 0] 34) = V := ⟨_, rfl⟩
 have LX0 := lex_Lex s hs V
 have LX : Calls Tryz.prog 37 #[.string s] ((w.alloc (.cells #[.slice none 0 0, .slice none 0 0, .slice none 0 0, .slice none 0 0] 26)).alloc (.cells #[.int .i64 0, .int .i64 0] 34)) (AnsX V (lexI s)) := by rw [hVV]; exact LX0
 clear LX0
 rw [hVV] at b1 b2 bV hV heV
 unfold AnsX at LX
 have PLC := fun (w3 : World) (R : Nat) ta tc (i l o : Value) L p al S (T : Tq V w3 R ta tc i l o L p al S) => q_place T s hs
 obtain ⟨⟨L, ⟨pl, pc⟩, E⟩, hl⟩ : ∃ X, lexI s = X := ⟨_, rfl⟩
 rw [hl] at LX hTk
 dsimp only at LX hTk
 have PG := fun (w2 : World) (R : Nat) la lc (T : Tq V w2 R la lc (.slice none 0 0) (.slice none 0 0) (.slice none 0 0) L 0 [] []) => q_program T hTk heV
 by_cases hE : E ≠ 0
 ·rw [parseI_err hl hE]
  have e1 : (E != 0) = true := by rw [bne_iff_ne]; exact hE
  have hVs : w.heap.size + 1 < V.heap.size := hV
  clear hl hE hs he heV hTk PLC PG hV hVV
  go_enter Tryz.func16, Tryz.ntmps16
  go_wp2_with (go_at_call 37; (with_reducible refine Calls.mono LX ?_); rintro e w1 ⟨la, lc, rfl, o1⟩; have N := boxes1 w1 #[.int .i64 pl, .int .i64 pc] 34; have p0 := (N.1.cell 0).1; have p1 := (N.1.cell 1).1; have D1 := (b1.more o1.below).more N.2.1; have D2 := (b2.more o1.below).more N.2.1; have BV1 := below_more o1.below N.2.1; have hq : w.heap.size + 1 < w1.heap.size := Nat.lt_of_lt_of_le hVs o1.below.size; have c0 := (D1.cell 0).1; have c1 := (D1.cell 1).1; have c2 := (D1.cell 2).1; have c3 := (D1.cell 3).1; have c4 := (D2.cell 0).1; have c5 := (D2.cell 1).1; have f0 := (D1.cell 0).2; have f1 := (D1.cell 1).2; have f2 := (D1.cell 2).2; have f3 := (D1.cell 3).2; have f4 := (D2.cell 0).2; have f5 := (D2.cell 1).2)
  generalize w1.alloc (.cells #[.int .i64 pl, .int .i64 pc] 34) = V2 at *
  clear o1 N b1 b2 LX
  go_region
  all_goals go_wp2
  all_goals
   obtain ⟨F, hF, g0, g1, g2, g3, g4, g5, bF, kF⟩ := pg_store D1 D2 (Nat.le_refl _) (below_more bV BV1) (.slice none 0 0) (.slice none 0 0) (.slice none 0 0) (.slice none 0 0) (.int .i64 pl) (.int .i64 pc)
   rw [hF]
   exact bodyPost_ret (v := .tuple #[.agg #[.slice none 0 0, .slice none 0 0, .slice none 0 0, .slice none 0 0], .agg #[.int .i64 pl, .int .i64 pc], .int .i64 E]) (by simp [results, Tryz.results16, go_sem, g0, g1, g2, g3, g4, g5]) rfl (ansPG_no bF.drew)
 ·obtain rfl : E = 0 := Decidable.not_not.1 hE
  have hVs : w.heap.size + 1 < V.heap.size := hV
  have HG : (progI numT L).2.bad = false → Behind (progI numT L).1.all ∧ ∀ x ∈ (progI numT L).1.all, 0 ≤ x.kind ∧ x.kind ≤ 7 := fun h => ⟨(prog_good h).2.2.behind, prog_kinds h⟩
  have HA := (prog_all L).2
  have hn4 := hTk.len
  unfold AnsPr at PG
  cases hbad : (progI numT L).2.bad with
  | true =>
   rw [parseI_bad hl hbad]
   rw [hbad] at PG
   have PL := fun (w3 : World) (R : Nat) ta tc (i l o : Value) al S (T : Tq V w3 R ta tc i l o L (progI numT L).2.pos al S) => PLC w3 R ta tc i l o L (progI numT L).2.pos al S T
   generalize plcI s L (progI numT L).2.pos = zz at *
   obtain ⟨zl, zc⟩ := zz
   dsimp only at PL
   generalize (progI numT L).2.pos = Q at *
   clear PLC hl hE hs he heV hTk hV hVV HG HA hn4 hbad
   go_enter Tryz.func16, Tryz.ntmps16
   go_wp2_with (first
    | (go_at_call 37; ((with_reducible refine Calls.mono LX ?_); rintro e w1 ⟨la, lc, rfl, o1⟩; have N := boxes1 w1 #[.int .i64 pl, .int .i64 pc] 34; have D1 := (b1.more o1.below).more N.2.1; have D2 := (b2.more o1.below).more N.2.1; have BV1 := below_more o1.below N.2.1; have hq : w.heap.size + 1 < w1.heap.size := Nat.lt_of_lt_of_le hVs o1.below.size; have NR := boxes1 (w1.alloc (.cells #[.int .i64 pl, .int .i64 pc] 34)) #[.slice la L.length lc, .slice none 0 0, .slice none 0 0, .slice none 0 0, .slice none 0 0, .slice none 0 0] 70; have hz1 : (w1.alloc (.cells #[.int .i64 pl, .int .i64 pc] 34)).heap.size = w1.heap.size + 1 := (by simp); have NB := NR.1; rw [hz1] at NB; have T0 := tq_start (by have := BV1.size; omega) NB ((o1.alloc (.cells #[.int .i64 pl, .int .i64 pc] 34)).more NR.2.1)))
    | (go_at_call 38; (with_reducible refine Calls.mono (PG _ _ _ _ T0) ?_); rintro e w3 ⟨rfl, ⟨ia, il, ic, ta, ll, tc, oa, ol, oc, al, S, T3, -⟩, K3⟩; have E1 := (D1.more NR.2.1).keep K3 (by unfold TYL TY; decide); have E2 := (D2.more NR.2.1).keep K3 (by unfold TYL TY; decide))
    | (go_at_call 39; (with_reducible refine Calls.mono (PL _ _ _ _ _ _ _ _ _ T3) ?_); rintro e w4 ⟨rfl, d4⟩; have G1 := E1.more d4; have G2 := E2.more d4; have BW4 := below_more T3.below d4; have c0 := (G1.cell 0).1; have c1 := (G1.cell 1).1; have c2 := (G1.cell 2).1; have c3 := (G1.cell 3).1; have c4 := (G2.cell 0).1; have c5 := (G2.cell 1).1; have f0 := (G1.cell 0).2; have f1 := (G1.cell 1).2; have f2 := (G1.cell 2).2; have f3 := (G1.cell 3).2; have f4 := (G2.cell 0).2; have f5 := (G2.cell 1).2))
   obtain ⟨F, hF, g0, g1, g2, g3, g4, g5, bF, kF⟩ := pg_store G1 G2 (Nat.le_refl _) (below_more bV BW4) (.slice none 0 0) (.slice none 0 0) (.slice none 0 0) (.slice none 0 0) (.int .i64 zl) (.int .i64 zc)
   rw [hF]
   exact bodyPost_ret (v := .tuple #[.agg #[.slice none 0 0, .slice none 0 0, .slice none 0 0, .slice none 0 0], .agg #[.int .i64 zl, .int .i64 zc], .int .i64 5]) (by simp [results, Tryz.results16, go_sem, g0, g1, g2, g3, g4, g5]) rfl (ansPG_no bF)
  | false =>
   obtain ⟨hBh, hKd⟩ := HG hbad
   rw [hbad] at PG
   obtain ⟨f, hf⟩ : ∃ f, (decide ((progI numT L).1.all.length ≤ 400) && decide ((progI numT L).1.ins.length ≤ 40) && decide ((progI numT L).1.lets.length ≤ 40) && decide ((progI numT L).1.outs.length ≤ 40)) = f := ⟨_, rfl⟩
   obtain ⟨lw, hlw⟩ : ∃ lw, (!(List.range (progI numT L).1.all.length).any fun k => decide (60 < tallI (progI numT L).1.all k)) = lw := ⟨_, rfl⟩
   rw [parseI_rest hl hbad (long_few hf hlw)]
   generalize (progI numT L).1 = p at *
   generalize (progI numT L).2.pos = Q at *
   have hn5 : p.all.length ≤ 100000 := by omega
   have FW := fun (v : World) (ic tc oc c : Nat) (ia ta oa a : Option Addr) => tree_few p.ins.length ic p.lets.length tc p.outs.length oc p.all.length c ia ta oa a f hf v
   have LW : ∀ (v : World) (a : Option Addr) (c : Nat), NodesM V v a c p.all → Calls Tryz.prog 36 #[.slice a p.all.length c] v fun e w' => e = .returned (.bool lw) ∧ Below v.heap.size v w' := by
    intro v a c N
    obtain ⟨ms, i1, i2, i3, i4, i5⟩ := N.isn
    exact tree_low (c := c) i1 hn5 (by rw [i2]; exact hBh) (fun m hm => by
     have : m.1.nd ∈ p.all := by rw [← i2]; exact List.mem_map_of_mem hm
     exact hKd m.1.nd this) i4 lw (by rw [i2]; exact hlw)
   clear HG hBh hKd hl hE hs he heV hTk hV hVV HA hn4 hbad hn5 PLC hf hlw
   cases f with
   | false =>
    rw [if_pos (by simp)]
    go_enter Tryz.func16, Tryz.ntmps16
    go_wp2_with (first
     | (go_at_call 37; ((with_reducible refine Calls.mono LX ?_); rintro e w1 ⟨la, lc, rfl, o1⟩; have N := boxes1 w1 #[.int .i64 pl, .int .i64 pc] 34; have D1 := (b1.more o1.below).more N.2.1; have D2 := (b2.more o1.below).more N.2.1; have BV1 := below_more o1.below N.2.1; have hq : w.heap.size + 1 < w1.heap.size := Nat.lt_of_lt_of_le hVs o1.below.size; have NR := boxes1 (w1.alloc (.cells #[.int .i64 pl, .int .i64 pc] 34)) #[.slice la L.length lc, .slice none 0 0, .slice none 0 0, .slice none 0 0, .slice none 0 0, .slice none 0 0] 70; have hz1 : (w1.alloc (.cells #[.int .i64 pl, .int .i64 pc] 34)).heap.size = w1.heap.size + 1 := (by simp); have NB := NR.1; rw [hz1] at NB; have T0 := tq_start (by have := BV1.size; omega) NB ((o1.alloc (.cells #[.int .i64 pl, .int .i64 pc] 34)).more NR.2.1)))
     | (go_at_call 38; (with_reducible refine Calls.mono (PG _ _ _ _ T0) ?_); rintro e w3 ⟨rfl, ⟨ia, il, ic, ta, ll, tc, oa, ol, oc, al, S, T3, h3⟩, K3⟩; have E1 := (D1.more NR.2.1).keep K3 (by unfold TYL TY; decide); have E2 := (D2.more NR.2.1).keep K3 (by unfold TYL TY; decide); obtain ⟨rfl, rfl, rfl, rfl, OI, OL, OO⟩ := h3 trivial; obtain ⟨aa, ac, x1, x2, x3, x4, NM⟩ := T3.prog)
     | (go_at_call 33; (with_reducible refine Calls.mono (FW _ _ _ _ _ _ _ _ _) ?_); rintro e w4 ⟨rfl, d4⟩; have T4 := T3.more d4; have NM4 := NM.more d4; obtain ⟨y1, y2, y3, -, -, -, -⟩ := T4.cells; have y4 : w4.cell? ⟨w1.heap.size + 1, 4, none⟩ = some (.slice aa p.all.length ac) := (by rw [d4.cell (World.block_lt_of_cell? w3 _ x4)]; exact x4); have G1 := E1.more d4; have G2 := E2.more d4; have c0 := (G1.cell 0).1; have c1 := (G1.cell 1).1; have c2 := (G1.cell 2).1; have c3 := (G1.cell 3).1; have c4 := (G2.cell 0).1; have c5 := (G2.cell 1).1; have f0 := (G1.cell 0).2; have f1 := (G1.cell 1).2; have f2 := (G1.cell 2).2; have f3 := (G1.cell 3).2; have f4 := (G2.cell 0).2; have f5 := (G2.cell 1).2))
    obtain ⟨F, hF, g0, g1, g2, g3, g4, g5, bF, kF⟩ := pg_store G1 G2 (Nat.le_refl _) (below_more bV T4.below) (.slice none 0 0) (.slice none 0 0) (.slice none 0 0) (.slice none 0 0) (.int .i64 1) (.int .i64 1)
    rw [hF]
    exact bodyPost_ret (v := .tuple #[.agg #[.slice none 0 0, .slice none 0 0, .slice none 0 0, .slice none 0 0], .agg #[.int .i64 1, .int .i64 1], .int .i64 4]) (by simp [results, Tryz.results16, go_sem, g0, g1, g2, g3, g4, g5]) rfl (ansPG_no bF)
   | true =>
    cases lw with
    | false =>
     rw [if_pos (by simp)]
     go_enter Tryz.func16, Tryz.ntmps16
     go_wp2_with (first
      | (go_at_call 37; ((with_reducible refine Calls.mono LX ?_); rintro e w1 ⟨la, lc, rfl, o1⟩; have N := boxes1 w1 #[.int .i64 pl, .int .i64 pc] 34; have D1 := (b1.more o1.below).more N.2.1; have D2 := (b2.more o1.below).more N.2.1; have BV1 := below_more o1.below N.2.1; have hq : w.heap.size + 1 < w1.heap.size := Nat.lt_of_lt_of_le hVs o1.below.size; have NR := boxes1 (w1.alloc (.cells #[.int .i64 pl, .int .i64 pc] 34)) #[.slice la L.length lc, .slice none 0 0, .slice none 0 0, .slice none 0 0, .slice none 0 0, .slice none 0 0] 70; have hz1 : (w1.alloc (.cells #[.int .i64 pl, .int .i64 pc] 34)).heap.size = w1.heap.size + 1 := (by simp); have NB := NR.1; rw [hz1] at NB; have T0 := tq_start (by have := BV1.size; omega) NB ((o1.alloc (.cells #[.int .i64 pl, .int .i64 pc] 34)).more NR.2.1)))
      | (go_at_call 38; (with_reducible refine Calls.mono (PG _ _ _ _ T0) ?_); rintro e w3 ⟨rfl, ⟨ia, il, ic, ta, ll, tc, oa, ol, oc, al, S, T3, h3⟩, K3⟩; have E1 := (D1.more NR.2.1).keep K3 (by unfold TYL TY; decide); have E2 := (D2.more NR.2.1).keep K3 (by unfold TYL TY; decide); obtain ⟨rfl, rfl, rfl, rfl, OI, OL, OO⟩ := h3 trivial; obtain ⟨aa, ac, x1, x2, x3, x4, NM⟩ := T3.prog)
      | (go_at_call 33; (with_reducible refine Calls.mono (FW _ _ _ _ _ _ _ _ _) ?_); rintro e w4 ⟨rfl, d4⟩; have T4 := T3.more d4; have NM4 := NM.more d4; obtain ⟨y1, y2, y3, -, -, -, -⟩ := T4.cells; have y4 : w4.cell? ⟨w1.heap.size + 1, 4, none⟩ = some (.slice aa p.all.length ac) := (by rw [d4.cell (World.block_lt_of_cell? w3 _ x4)]; exact x4); have G1 := E1.more d4; have G2 := E2.more d4; have c0 := (G1.cell 0).1; have c1 := (G1.cell 1).1; have c2 := (G1.cell 2).1; have c3 := (G1.cell 3).1; have c4 := (G2.cell 0).1; have c5 := (G2.cell 1).1; have f0 := (G1.cell 0).2; have f1 := (G1.cell 1).2; have f2 := (G1.cell 2).2; have f3 := (G1.cell 3).2; have f4 := (G2.cell 0).2; have f5 := (G2.cell 1).2)
      | (go_at_call 36; (with_reducible refine Calls.mono (LW _ _ _ NM4) ?_); rintro e w5 ⟨rfl, d5⟩; have T5 := T4.more d5; obtain ⟨z1, z2, z3, -, -, -, -⟩ := T5.cells; have z4 : w5.cell? ⟨w1.heap.size + 1, 4, none⟩ = some (.slice aa p.all.length ac) := (by rw [d5.cell (World.block_lt_of_cell? w4 _ y4)]; exact y4); have H1 := G1.more d5; have H2 := G2.more d5; have u0 := (H1.cell 0).1; have u1 := (H1.cell 1).1; have u2 := (H1.cell 2).1; have u3 := (H1.cell 3).1; have u4 := (H2.cell 0).1; have u5 := (H2.cell 1).1; have h0 := (H1.cell 0).2; have h1 := (H1.cell 1).2; have h2 := (H1.cell 2).2; have h3 := (H1.cell 3).2; have h4 := (H2.cell 0).2; have h5 := (H2.cell 1).2))
     obtain ⟨F, hF, g0, g1, g2, g3, g4, g5, bF, kF⟩ := pg_store H1 H2 (Nat.le_refl _) (below_more bV T5.below) (.slice none 0 0) (.slice none 0 0) (.slice none 0 0) (.slice none 0 0) (.int .i64 1) (.int .i64 1)
     rw [hF]
     exact bodyPost_ret (v := .tuple #[.agg #[.slice none 0 0, .slice none 0 0, .slice none 0 0, .slice none 0 0], .agg #[.int .i64 1, .int .i64 1], .int .i64 4]) (by simp [results, Tryz.results16, go_sem, g0, g1, g2, g3, g4, g5]) rfl (ansPG_no bF)
    | true =>
     rw [if_neg (by simp)]
     go_enter Tryz.func16, Tryz.ntmps16
     go_wp2_with (first
      | (go_at_call 37; ((with_reducible refine Calls.mono LX ?_); rintro e w1 ⟨la, lc, rfl, o1⟩; have N := boxes1 w1 #[.int .i64 pl, .int .i64 pc] 34; have D1 := (b1.more o1.below).more N.2.1; have D2 := (b2.more o1.below).more N.2.1; have BV1 := below_more o1.below N.2.1; have hq : w.heap.size + 1 < w1.heap.size := Nat.lt_of_lt_of_le hVs o1.below.size; have NR := boxes1 (w1.alloc (.cells #[.int .i64 pl, .int .i64 pc] 34)) #[.slice la L.length lc, .slice none 0 0, .slice none 0 0, .slice none 0 0, .slice none 0 0, .slice none 0 0] 70; have hz1 : (w1.alloc (.cells #[.int .i64 pl, .int .i64 pc] 34)).heap.size = w1.heap.size + 1 := (by simp); have NB := NR.1; rw [hz1] at NB; have T0 := tq_start (by have := BV1.size; omega) NB ((o1.alloc (.cells #[.int .i64 pl, .int .i64 pc] 34)).more NR.2.1)))
      | (go_at_call 38; (with_reducible refine Calls.mono (PG _ _ _ _ T0) ?_); rintro e w3 ⟨rfl, ⟨ia, il, ic, ta, ll, tc, oa, ol, oc, al, S, T3, h3⟩, K3⟩; have E1 := (D1.more NR.2.1).keep K3 (by unfold TYL TY; decide); have E2 := (D2.more NR.2.1).keep K3 (by unfold TYL TY; decide); obtain ⟨rfl, rfl, rfl, rfl, OI, OL, OO⟩ := h3 trivial; obtain ⟨aa, ac, x1, x2, x3, x4, NM⟩ := T3.prog)
      | (go_at_call 33; (with_reducible refine Calls.mono (FW _ _ _ _ _ _ _ _ _) ?_); rintro e w4 ⟨rfl, d4⟩; have T4 := T3.more d4; have NM4 := NM.more d4; obtain ⟨y1, y2, y3, -, -, -, -⟩ := T4.cells; have y4 : w4.cell? ⟨w1.heap.size + 1, 4, none⟩ = some (.slice aa p.all.length ac) := (by rw [d4.cell (World.block_lt_of_cell? w3 _ x4)]; exact x4); have G1 := E1.more d4; have G2 := E2.more d4; have c0 := (G1.cell 0).1; have c1 := (G1.cell 1).1; have c2 := (G1.cell 2).1; have c3 := (G1.cell 3).1; have c4 := (G2.cell 0).1; have c5 := (G2.cell 1).1; have f0 := (G1.cell 0).2; have f1 := (G1.cell 1).2; have f2 := (G1.cell 2).2; have f3 := (G1.cell 3).2; have f4 := (G2.cell 0).2; have f5 := (G2.cell 1).2)
      | (go_at_call 36; (with_reducible refine Calls.mono (LW _ _ _ NM4) ?_); rintro e w5 ⟨rfl, d5⟩; have T5 := T4.more d5; obtain ⟨z1, z2, z3, -, -, -, -⟩ := T5.cells; have z4 : w5.cell? ⟨w1.heap.size + 1, 4, none⟩ = some (.slice aa p.all.length ac) := (by rw [d5.cell (World.block_lt_of_cell? w4 _ y4)]; exact y4); have H1 := G1.more d5; have H2 := G2.more d5; have u0 := (H1.cell 0).1; have u1 := (H1.cell 1).1; have u2 := (H1.cell 2).1; have u3 := (H1.cell 3).1; have u4 := (H2.cell 0).1; have u5 := (H2.cell 1).1; have h0 := (H1.cell 0).2; have h1 := (H1.cell 1).2; have h2 := (H1.cell 2).2; have h3 := (H1.cell 3).2; have h4 := (H2.cell 0).2; have h5 := (H2.cell 1).2))
     obtain ⟨F, hF, g0, g1, g2, g3, g4, g5, bF, kF⟩ := pg_store H1 H2 (Nat.le_refl _) (below_more bV T5.below) (.slice ia p.ins.length ic) (.slice ta p.lets.length tc) (.slice oa p.outs.length oc) (.slice aa p.all.length ac) (.int .i64 0) (.int .i64 0)
     rw [hF]
     exact bodyPost_ret (v := .tuple #[.agg #[.slice ia p.ins.length ic, .slice ta p.lets.length tc, .slice oa p.outs.length oc, .slice aa p.all.length ac], .agg #[.int .i64 0, .int .i64 0], .int .i64 0]) (by simp [results, Tryz.results16, go_sem, g0, g1, g2, g3, g4, g5]) rfl (pg_good OI OL OO NM4 d4 d5 kF bF (by decide) (by decide) (by decide) (by decide))
end
section
open Go.RowKit Go.Lib
structure LibV (w : World) : Prop where
 err : ErrV w
 pow : PowV w
def AnsPC (W : World) (p : Pg) (L C E : Int) (e : Ending) (w' : World) : Prop := ∃ ia ic la lc oa oc aa ac ms, e = .returned (.tuple #[.agg #[.slice ia p.ins.length ic, .slice la p.lets.length lc, .slice oa p.outs.length oc, .slice aa p.all.length ac], .agg #[.int .i64 L, .int .i64 C], .int .i64 E]) ∧
 PgR w' ia la oa aa p.ins.length p.lets.length p.outs.length p.all.length ac p.ins p.outs p.lets ms ∧ ms.map (·.1) = p.all.map rawOf ∧ p.ins.length ≤ ic ∧ p.outs.length ≤ oc ∧ Below W.heap.size W w'
theorem AnsPG.rooms {W w' : World} {e : Ending} {p : Pg} {L C E : Int} (h : AnsPG W (p, (L, C), E) e w') (F : FineP p) : AnsPC W p L C E e w' := by
 obtain ⟨i, l, o, a, he, hp, hb⟩ := h
 have hp2 := hp
 obtain ⟨ia, ic, la, lc, oa, oc, aa, ac, ms, rfl, rfl, rfl, rfl, P, hm⟩ := pg_fine hp F
 obtain ⟨ia', ic', la', lc', oa', oc', aa', ac', ms', e1, e2, e3, e4, -, -, -, -, -, -, -, c1, c2⟩ := hp2
 injection e1 with e1 e1' e1''
 injection e3 with e3 e3' e3''
 subst e1''; subst e3''
 exact ⟨ia, ic, la, lc, oa, oc, aa, ac, ms, he, P, hm, c1, c2, hb⟩
theorem parse_rooms (s : ByteArray) (hs : s.size ≤ 1000000) {p : Pg} {L C E : Int} (h : parseI s = (p, (L, C), E)) (w : World) (he : ErrV w) : Calls Tryz.prog 16 #[.string s] w (AnsPC w p L C E) := by
 have P := tree_parse s hs w he
 rw [h] at P
 exact P.mono fun e w' q => q.rooms (parse_fine h)
theorem raw_nd (l : List Nd) : (l.map rawOf).map Nw.nd = l := by
 rw [List.map_map, show (Nw.nd ∘ rawOf) = id from funext nd_raw, List.map_id]
theorem parse_rgt {s : ByteArray} {p : Pg} {L C : Int} (h : parseI s = (p, (L, C), 0)) : rgtB p.ins p.outs p.lets (p.all.map rawOf) = true ∧ L = 0 ∧ C = 0 := by
 obtain ⟨g1, g2, g3, g4, g5, g6, g7⟩ := parse_good h
 exact ⟨rgt_good g1 g2 g3 g4 g5, g6, g7⟩
def exT2 : ByteArray := ⟨#[105, 110, 32, 120, 59, 32, 108, 101, 116, 32, 97, 61, 40, 50, 42, 120, 41, 94, 50, 45, 40, 49, 45, 120, 41, 59, 32, 111, 117, 116, 32, 97, 59]⟩
def exN2 : List Nd := [⟨1, 0, 0, 0, noText, (false, 2, 1)⟩, ⟨0, 0, 0, 0, ⟨#[120]⟩, (false, 0, 0)⟩, ⟨4, 0, 1, 0, noText, (false, 0, 0)⟩, ⟨7, 2, 0, 2, noText, (false, 0, 0)⟩, ⟨1, 0, 0, 0, noText, (false, 1, 1)⟩, ⟨0, 0, 0, 0, ⟨#[120]⟩, (false, 0, 0)⟩, ⟨3, 4, 5, 0, noText, (false, 0, 0)⟩, ⟨3, 3, 6, 0, noText, (false, 0, 0)⟩]
def exP2 : Pg := ⟨[⟨#[120]⟩], [(⟨#[97]⟩, 7)], [⟨#[97]⟩], exN2⟩
theorem ex2_parse : parseI exT2 = (exP2, (0, 0), 0) := by kernel_rfl
theorem ex2_print : progX [⟨#[120]⟩] [⟨#[97]⟩] [(⟨#[97]⟩, 7)] exN2 = ⟨#[105, 110, 32, 120, 59, 10, 108, 101, 116, 32, 97, 32, 61, 32, 40, 50, 32, 42, 32, 120, 41, 94, 50, 32, 45, 32, 40, 49, 32, 45, 32, 120, 41, 59, 10, 111, 117, 116, 32, 97, 59, 10]⟩ := by kernel_rfl
theorem ex2_node : nodeX exN2 2 = ⟨#[50, 32, 42, 32, 120]⟩ := by kernel_rfl
theorem show_awake (w : World) (he : LibV w) : Calls Tryz.prog 8 #[] w fun e w' => e = .returned (.bool true) ∧ Below w.heap.size w w' := by
 have PA := parse_rooms exT2 (by decide) ex2_parse w he.1
 unfold AnsPC exT2 at PA
 rw [show exP2.ins.length = 1 from rfl, show exP2.lets.length = 1 from rfl, show exP2.outs.length = 1 from rfl, show exP2.all.length = 8 from rfl, show exP2.ins = [⟨#[120]⟩] from rfl, show exP2.lets = [(⟨#[97]⟩, 7)] from rfl, show exP2.outs = [⟨#[97]⟩] from rfl, show exP2.all = exN2 from rfl] at PA
 have RG := (parse_rgt ex2_parse).1
 rw [show exP2.ins = [⟨#[120]⟩] from rfl, show exP2.lets = [(⟨#[97]⟩, 7)] from rfl, show exP2.outs = [⟨#[97]⟩] from rfl, show exP2.all = exN2 from rfl] at RG
 have SP := fun (v : World) (hv : PowV v) (ia la oa aa : Option Addr) (ic lc oc ac : Nat) (ms : List Mn) (P : PgR v ia la oa aa 1 1 1 8 ac [⟨#[120]⟩] [⟨#[97]⟩] [(⟨#[97]⟩, 7)] ms) (hm : ms.map (·.1) = exN2.map rawOf) (c1 : 1 ≤ ic) (c2 : 1 ≤ oc) => show_print (lc := lc) P c1 c2 hv (by rw [hm]; exact RG)
 have SE := fun (v : World) (hv : PowV v) (ia la oa aa : Option Addr) (ic lc oc ac : Nat) (ms : List Mn) (P : PgR v ia la oa aa 1 1 1 8 ac [⟨#[120]⟩] [⟨#[97]⟩] [(⟨#[97]⟩, 7)] ms) (hm : ms.map (·.1) = exN2.map rawOf) => show_Expr (ic := ic) (lc := lc) (oc := oc) P 2 2 rfl (by decide) hv (by rw [hm]; exact RG)
 have SP2 : ∀ (v : World) (hv : PowV v) (ia la oa aa : Option Addr) (ic lc oc ac : Nat) (ms : List Mn) (P : PgR v ia la oa aa 1 1 1 8 ac [⟨#[120]⟩] [⟨#[97]⟩] [(⟨#[97]⟩, 7)] ms) (hm : ms.map (·.1) = exN2.map rawOf) (c1 : 1 ≤ ic) (c2 : 1 ≤ oc), Calls Tryz.prog 12 #[.agg #[.slice ia 1 ic, .slice la 1 lc, .slice oa 1 oc, .slice aa 8 ac]] v fun e w' => e = .returned (.string ⟨#[105, 110, 32, 120, 59, 10, 108, 101, 116, 32, 97, 32, 61, 32, 40, 50, 32, 42, 32, 120, 41, 94, 50, 32, 45, 32, 40, 49, 32, 45, 32, 120, 41, 59, 10, 111, 117, 116, 32, 97, 59, 10]⟩) ∧ Below v.heap.size v w' := fun v hv ia la oa aa ic lc oc ac ms P hm c1 c2 => by
  have q := SP v hv ia la oa aa ic lc oc ac ms P hm c1 c2
  rw [hm, raw_nd, ex2_print] at q
  exact q
 have SE2 : ∀ (v : World) (hv : PowV v) (ia la oa aa : Option Addr) (ic lc oc ac : Nat) (ms : List Mn) (P : PgR v ia la oa aa 1 1 1 8 ac [⟨#[120]⟩] [⟨#[97]⟩] [(⟨#[97]⟩, 7)] ms) (hm : ms.map (·.1) = exN2.map rawOf), Calls Tryz.prog 14 #[.agg #[.slice ia 1 ic, .slice la 1 lc, .slice oa 1 oc, .slice aa 8 ac], .int .i64 2] v fun e w' => e = .returned (.string ⟨#[50, 32, 42, 32, 120]⟩) ∧ Below v.heap.size v w' := fun v hv ia la oa aa ic lc oc ac ms P hm => by
  have q := SE v hv ia la oa aa ic lc oc ac ms P hm
  rw [hm, raw_nd, ex2_node] at q
  exact q
 clear SP SE RG
 have HE : Hid (LibV w) := he
 clear he
 go_enter Tryz.func8, Tryz.ntmps8
 go_wp2_with (first
  | (go_at_call 16; (with_reducible refine Calls.mono PA ?_); rintro e w1 ⟨ia, ic, la, lc, oa, oc, aa, ac, ms, rfl, P1, hm, c1, c2, d1⟩; obtain ⟨B1, B2, bV, -⟩ := boxes2 w1 #[.slice ia 1 ic, .slice la 1 lc, .slice oa 1 oc, .slice aa 8 ac] #[.int .i64 0, .int .i64 0] 26 34; have x0 := (B1.cell 0).1; have x1 := (B1.cell 1).1; have x2 := (B1.cell 2).1; have x3 := (B1.cell 3).1)
  | (go_at_call 12; (with_reducible refine Calls.mono (SP2 _ (HE.out.2.below (below_more d1 bV)) ia la oa aa ic lc oc ac ms (P1.below bV) hm c1 c2) ?_); rintro e w2 ⟨rfl, d2⟩; have y0 := ((B1.more d2).cell 0).1; have y1 := ((B1.more d2).cell 1).1; have y2 := ((B1.more d2).cell 2).1; have y3 := ((B1.more d2).cell 3).1)
  | (go_at_call 14; (with_reducible refine Calls.mono (SE2 _ (HE.out.2.below (below_more (below_more d1 bV) d2)) ia la oa aa ic lc oc ac ms ((P1.below bV).below d2) hm) ?_); rintro e w3 ⟨rfl, d3⟩))
 go_ret
 exact ⟨rfl, below_more (below_more d1 bV) (below_more d2 d3)⟩
end
section
open Go.RowKit
def nameT (P : Program) (k : Nat) (t : TypeId) : String := (P.typeName? k t).getD default
theorem row_err {nm : String} (u : TypeId) (h : Tryz.prog.typeName? 3 u = some nm) (e : Tryz.prog.typeName? 3 270 = some nm) : u = 270 :=
 typeName_ptr_named (nm := nameT Tryz.prog 2 272) (by kernel_rfl) (by kernel_rfl) (by decide +kernel) u (by rw [h, ← e]; kernel_rfl)
theorem block_var {P : Program} {w : World} {n : String} {g : Nat} {cs : Array Value} (hg : P.globalNamed n = some g) (h : w.var? P n = some cs) : ∃ T d, w.heap[g]? = some (.cells cs T d) := by
 unfold World.var? at h
 rw [hg] at h
 replace h : (match w.heap[g]? with | some (.cells cs _ _) => some cs | _ => none) = some cs := h
 split at h
 ·rename_i c T d e
  injection h with h
  exact ⟨T, d, by rw [e, h]⟩
 ·exact absurd h (by simp)
theorem errv_laid {W : World} {n0 n1 nm0 nm1 : String} {tR tS : List UInt8} {r : List (String × DataW Unit)} (h : laidMet Tryz.prog ((n0, .iface nm0 (.ptr (.agg [.lit (.string tR)]))) :: (n1, .iface nm1 (.ptr (.agg [.lit (.string tS)]))) :: r) W)
  (g0 : Tryz.prog.globalNamed n0 = some 7) (g1 : Tryz.prog.globalNamed n1 = some 6) (r0 : Tryz.prog.typeName? 3 270 = some nm0) (r1 : Tryz.prog.typeName? 3 270 = some nm1) : ErrV W := by
 obtain ⟨a0, s0, hv0, -, -, -⟩ := laid_sentinel h g0 (ti := 94) (by kernel_rfl) Tryz.underlying94 (fun u q => row_err u q r0) Tryz.underlying270 Tryz.underlying272 rfl rfl Tryz.underlying9 (by kernel_rfl) (by kernel_rfl)
 obtain ⟨a1, s1, hv1, -, -, -⟩ := laid_sentinel h.tail g1 (ti := 94) (by kernel_rfl) Tryz.underlying94 (fun u q => row_err u q r1) Tryz.underlying270 Tryz.underlying272 rfl rfl Tryz.underlying9 (by kernel_rfl) (by kernel_rfl)
 obtain ⟨T1, d1, q1⟩ := block_var g1 hv1
 obtain ⟨T0, d0, q0⟩ := block_var g0 hv0
 exact ⟨⟨_, _, T1, d1, q1⟩, ⟨_, _, T0, d0, q0⟩⟩
end
section
open Go.RowKit
theorem powv_laid {W : World} {n0 : String} {d : DataW Unit} {r : List (String × DataW Unit)} (h : laidMet Tryz.prog ((n0, d) :: r) W) (hd : d = Lib.tabData .u64 Lib.pow10Tab) (g0 : Tryz.prog.globalNamed n0 = some 1) : PowV W := by
 subst hd
 obtain ⟨T1, d1, q1⟩ := block_var g0 (Lib.tabIs_of_head g0 (t := 203) (e := 87) (n := 20) (by kernel_rfl) Tryz.underlying203 Tryz.underlying87 (by kernel_rfl) (by kernel_rfl) h)
 exact ⟨T1, d1, q1⟩
end
end Go.Proofs.YtaeladkcmpdkhaaGreatDoor
