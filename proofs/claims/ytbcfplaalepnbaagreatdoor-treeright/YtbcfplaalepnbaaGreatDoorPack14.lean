/-
  Texts of mine put together in build order, as far as TreeRight need them: TreeGood, TreeWalksB, TreeLawB. No conditions of their own.
-/
import Derived.WalkKit
import Derived.ProofKit
import Derived.Lib.AppendZerosOnto
import Derived.Laws.AppendOwn
import Derived.Laws.AppendOwnNone
import Derived.Test.YtbcfplaalepnbaaGreatDoorRows
import Derived.WalkLawsBesides
import Derived.Deep.QuietTactic
import Derived.BigQuiet
import Derived.Outline
import Derived.Lib.BitFns
import Derived.OpenShut
import Derived.Laws.CopyOwn
import Derived.Lib.DecodeN
import Derived.Deep.LoopGhost
import Derived.Deep.RegionLaw
import Derived.Deep.DrawnRows
import Derived.Deep.RegionWith
import Derived.Deep.RegionHeld3
import Derived.Laws.IdiomStrings
import Derived.Laws.Bits64b
import Derived.RangeFuncNested
import Derived.RangeFuncBound
import Derived.RangeFuncCalls
import Derived.RangeFuncLeaves
import Derived.Shelf.Abstract
import Derived.Shelf.RegionOpen
import Derived.OwnWalkIn
import Derived.TacticsInMore
import Derived.LoopNIn
import Derived.LoopIn
import Derived.Sort.LoopGhostIn
import Derived.Lib.AtoiAll
import Derived.Lib.OthersKept
import Derived.Shelf.Strconv.AtoiAll
import Derived.Shelf.Strconv.ErrVarAll
import Derived.Test.YtbcfplaalepnbaaGreatDoorProg
import Derived.Laws.EntriesVeiled
import Derived.Deep.DeepCutAuto
import Derived.Lib.Bytealg
import Derived.Lib.Strings
import Derived.Lib.BufferWrite
import Derived.Lib.UnsafeStr
import Derived.Laws.MakeOwn
import Derived.Test.YtbcfplaalepnbaaGreatDoorPack1
import Derived.Test.YtbcfplaalepnbaaGreatDoorPack2
import Derived.Test.YtbcfplaalepnbaaGreatDoorPack3
import Derived.Test.YtbcfplaalepnbaaGreatDoorPack4
import Derived.Test.YtbcfplaalepnbaaGreatDoorPack5
import Derived.Test.YtbcfplaalepnbaaGreatDoorPack6
import Derived.Test.YtbcfplaalepnbaaGreatDoorPack7
import Derived.Test.YtbcfplaalepnbaaGreatDoorPack8
import Derived.Test.YtbcfplaalepnbaaGreatDoorPack9
import Derived.Test.YtbcfplaalepnbaaGreatDoorPack13
namespace Go.Proofs.YtbcfplaalepnbaaGreatDoor
open Go.Lib
theorem placeF_pos (s : ByteArray) (at_ : Int) : ∀ (f i : Nat) (l c : Int), 1 ≤ l → 1 ≤ c → 1 ≤ (placeF s at_ f i l c).1 ∧ 1 ≤ (placeF s at_ f i l c).2 := by
  intro f
  induction f with
  | zero => intro i l c h1 h2; exact ⟨h1, h2⟩
  | succ f ih =>
    intro i l c h1 h2
    unfold placeF
    repeat' split
    all_goals first | exact ⟨h1, h2⟩ | (refine ih _ _ _ ?_ ?_ <;> omega)
theorem place_pos (s : ByteArray) (at_ : Int) : 1 ≤ (placeI s at_).1 ∧ 1 ≤ (placeI s at_).2 := placeF_pos s at_ _ 0 1 1 (by decide) (by decide)
theorem lexF_pos (s : ByteArray) : ∀ f i out, (∀ t ∈ out, (1 : Int) ≤ t.2.2.1 ∧ (1 : Int) ≤ t.2.2.2) → (∀ t ∈ (lexF s f i out).1, (1 : Int) ≤ t.2.2.1 ∧ (1 : Int) ≤ t.2.2.2) ∧ ((lexF s f i out).2.2 ≠ 0 → 1 ≤ (lexF s f i out).2.1.1 ∧ 1 ≤ (lexF s f i out).2.1.2) := by
  intro f
  induction f with
  | zero => intro i out h; exact ⟨h, fun e => absurd rfl e⟩
  | succ f ih =>
    intro i out h
    unfold lexF
    split
    · split
      · exact ih _ _ h
      · split
        · exact ⟨fun t ht => absurd ht (by simp), fun _ => place_pos s _⟩
        · split
          · exact ⟨fun t ht => absurd ht (by simp), fun _ => place_pos s _⟩
          · refine ih _ _ (fun t ht => ?_)
            rcases List.mem_append.1 ht with q | q
            · exact h t q
            · obtain rfl := List.mem_singleton.1 q
              exact place_pos s _
    · exact ⟨h, fun e => absurd rfl e⟩
theorem lexI_pos (s : ByteArray) : (∀ t ∈ (lexI s).1, (1 : Int) ≤ t.2.2.1 ∧ (1 : Int) ≤ t.2.2.2) ∧ ((lexI s).2.2 ≠ 0 → 1 ≤ (lexI s).2.1.1 ∧ 1 ≤ (lexI s).2.1.2) := by
  unfold lexI
  split
  · exact ⟨fun t ht => absurd ht (by simp), fun _ => ⟨by decide, by decide⟩⟩
  · exact lexF_pos s _ _ _ (fun t ht => absurd ht (by simp))
theorem parse_place {s : ByteArray} {p : Pg} {l c E : Int} (h : parseI s = (p, (l, c), E)) (hE : E ≠ 0) : 1 ≤ l ∧ 1 ≤ c := by
  obtain ⟨q1, q2⟩ := lexI_pos s
  unfold parseI at h
  split at h
  · rename_i h0
    have := q2 h0
    injection h with h1 h2
    injection h2 with h2 h3
    rw [h2] at this
    exact this
  · split at h
    · split at h
      · rename_i t ht
        injection h with h1 h2
        injection h2 with h2 h3
        injection h2 with h4 h5
        rw [← h4, ← h5]
        exact q1 t (List.mem_of_getElem? ht)
      · injection h with h1 h2
        injection h2 with h2 h3
        have := place_pos s s.size
        rw [h2] at this
        exact this
    · split at h
      · injection h with h1 h2
        injection h2 with h2 h3
        injection h2 with h4 h5
        omega
      · injection h with h1 h2
        injection h2 with h2 h3
        exact absurd h3.symm hE
end Go.Proofs.YtbcfplaalepnbaaGreatDoor
namespace Go.Proofs.YtbcfplaalepnbaaGreatDoor
open Go.RowKit Go.Lib
theorem raw_at {ms : List Mn} {l : List Nd} (h : ms.map (·.1) = l.map rawOf) {t : Nat} {m : Mn} (hm : ms[t]? = some m) (hg : ∀ n ∈ l, GoodN n) : l[t]? = some m.1.nd ∧ fillR m.1 = true := by
  have e := congrArg (fun q => q[t]?) h
  simp only [List.getElem?_map, hm, Option.map_some] at e
  cases hl : l[t]? with
  | none => rw [hl] at e; exact absurd e (by simp)
  | some x =>
    rw [hl] at e
    have e1 : m.1 = rawOf x := by simpa using e
    rw [e1, nd_raw]
    exact ⟨rfl, (hg x (List.mem_of_getElem? hl)).1⟩
theorem fill_unary {m : Nw} (h : fillR m = true) (hk : 5 < m.kind) : m.b = 0 := by
  unfold fillR at h
  rw [if_neg (by omega), if_neg (by omega), if_neg (by omega)] at h
  split at h
  · simp only [Bool.and_eq_true, beq_iff_eq] at h
    exact h.1.1.1
  · split at h
    · simp only [Bool.and_eq_true, beq_iff_eq] at h
      exact h.1.1.2
    · exact absurd h (by simp)
theorem inc_map {U : List Int} {a : Nat} {x : Int} (h : U.getD a 0 = x) : (U.map (Value.int .i64)).set a (.int .i64 (x + 1)) = (inc U a).map (Value.int .i64) := by
  unfold inc
  rw [h, List.map_set]
set_option maxRecDepth 100000 in
set_option maxHeartbeats 64000000 in
theorem walk_TreeRight (s : ByteArray) (w : World) (_hs : s.size ≤ maxLen) (he : ErrV w) :
    Calls Tryz.prog 5 #[.string s] w fun e w' => e = .returned (.bool true) ∧ Below w.heap.size w w' := by
  have AW := tree_awake w he
  by_cases h2 : 300 < s.size
  · have k2 : 300 < (s.size : Int) := by omega
    clear _hs he
    go_enter Tryz.func5, Tryz.ntmps5
    go_wp2_with (go_at_call 9; (with_reducible refine Calls.mono AW ?_); rintro e w1 ⟨rfl, b1⟩)
    go_ret
    exact ⟨rfl, b1⟩
  have k2 : ¬ 300 < (s.size : Int) := by omega
  have c1 := fun v (hv : ErrV v) => tree_parse s (by omega) v hv
  obtain ⟨p, ⟨L, C⟩, E, hP⟩ : ∃ p L E, parseI s = (p, L, E) := ⟨_, _, _, rfl⟩
  have F := parse_fine hP
  rw [hP] at c1
  have c1 := fun v (hv : ErrV v) => (c1 v hv).mono (fun _ _ h => h.fine F)
  unfold AnsPF at c1
  by_cases hE : E = 0
  case neg =>
    obtain rfl := parse_none hP hE
    obtain ⟨hL, hC⟩ := parse_place hP hE
    have e0 : (E == 0) = false := by rw [beq_eq_false_iff_ne]; exact hE
    have e1 : (E != 0) = true := by rw [bne, e0]; rfl
    rw [show noPg.ins.length = 0 from rfl, show noPg.lets.length = 0 from rfl, show noPg.outs.length = 0 from rfl, show noPg.all.length = 0 from rfl] at c1
    have dL : decide (1 ≤ L) = true := decide_eq_true hL
    have dC : decide (1 ≤ C) = true := decide_eq_true hC
    clear hP h2 _hs F hE hL hC
    go_enter Tryz.func5, Tryz.ntmps5
    go_wp2_with (first
      | (go_at_call 9; (with_reducible refine Calls.mono AW ?_); rintro e w1 ⟨rfl, b1⟩)
      | (go_at_call 10; (with_reducible refine Calls.mono (c1 _ (he.below b1)) ?_); rintro e w2 ⟨ia, ic, la, lc, oa, oc, aa, ac, ms, rfl, P1, m1, d2⟩; obtain ⟨B1, B2, bV, hV⟩ := boxes2 w2 #[.slice ia 0 ic, .slice la 0 lc, .slice oa 0 oc, .slice aa 0 ac] #[.int .i64 L, .int .i64 C] 27 29; have x0 := (B1.cell 0).1; have x3 := (B1.cell 3).1; have y0 := (B2.cell 0).1; have y1 := (B2.cell 1).1))
    go_ret
    exact ⟨by first | rfl | simp [dL, dC], below_more (below_more b1 d2) bV⟩
  subst hE
  obtain ⟨g1, g2, g3, g4, g5, rfl, rfl⟩ := parse_good hP
  have RG := rgt_good g1 g2 g3 g4 g5
  have HF : Hid (FineP p) := F
  have HL : Hid (LetsEnd p.all 0 p.lets p.all.length) := g2
  clear hP h2 _hs F g1 g2 g3 g4 g5
  obtain ⟨n, hn⟩ : ∃ n, p.all.length = n := ⟨_, rfl⟩
  obtain ⟨nl', hnl⟩ : ∃ n, p.lets.length = n := ⟨_, rfl⟩
  rw [hn, hnl] at c1
  have HN : Hid (p.all.length = n ∧ p.lets.length = nl' ∧ n ≤ 400 ∧ nl' ≤ 40) := ⟨hn, hnl, by have := HF.out.few; omega, by have := HF.out.few; omega⟩
  have hN1 : n ≤ 1000000 := by have := HN.out.2.2.1; omega
  clear hn hnl
  go_enter Tryz.func5, Tryz.ntmps5
  go_wp2_with (first
    | (go_at_call 9; (with_reducible refine Calls.mono AW ?_); rintro e w1 ⟨rfl, b1⟩)
    | (go_at_call 10; (with_reducible refine Calls.mono (c1 _ (he.below b1)) ?_); rintro e w2 ⟨ia, ic, la, lc, oa, oc, aa, ac, ms, rfl, P1, m1, d2⟩; obtain ⟨B1, B2, bV, hV⟩ := boxes2 w2 #[.slice ia p.ins.length ic, .slice la nl' lc, .slice oa p.outs.length oc, .slice aa n ac] #[.int .i64 0, .int .i64 0] 27 29; have x3 := (B1.cell 3).1)
    | (refine wpl_make_ints (.tmp 50) rfl rfl ((w2.alloc (.cells #[.slice ia p.ins.length ic, .slice la nl' lc, .slice oa p.outs.length oc, .slice aa n ac] 27)).alloc (.cells #[.int .i64 0, .int .i64 0] 29)) _ n n rfl rfl hN1 (Below.refl _ _) ?_; intro g0 w3 hg0 hg1 o1 bb1))
  have hb2 : Hid (Below w.heap.size w w2 ∧ w2.heap.size + 1 < ((w2.alloc (.cells #[.slice ia p.ins.length ic, .slice la nl' lc, .slice oa p.outs.length oc, .slice aa n ac] 27)).alloc (.cells #[.int .i64 0, .int .i64 0] 29)).heap.size) := ⟨below_more b1 d2, hV⟩
  have HP : Hid (PgR w2 ia la oa aa p.ins.length nl' p.outs.length n ac p.ins p.outs p.lets ms ∧ ms.map (·.1) = p.all.map rawOf) := ⟨P1, m1⟩
  clear hV b1 d2 P1 m1 x3 c1 AW he bb1 hg1
  generalize (w2.alloc (.cells #[.slice ia p.ins.length ic, .slice la nl' lc, .slice oa p.outs.length oc, .slice aa n ac] 27)).alloc (.cells #[.int .i64 0, .int .i64 0] 29) = V at *
  have CB : Hid (∀ v, Below V.heap.size V v → (v.cell? ⟨w2.heap.size, 0, none⟩ = some (.slice ia p.ins.length ic) ∧ v.cell? ⟨w2.heap.size, 1, none⟩ = some (.slice la nl' lc) ∧ v.cell? ⟨w2.heap.size, 2, none⟩ = some (.slice oa p.outs.length oc) ∧ v.cell? ⟨w2.heap.size, 3, none⟩ = some (.slice aa n ac)) ∧ v.cell? ⟨w2.heap.size + 1, 0, none⟩ = some (.int .i64 0) ∧ v.cell? ⟨w2.heap.size + 1, 1, none⟩ = some (.int .i64 0)) := fun v d => ⟨⟨((B1.more d).cell 0).1, ((B1.more d).cell 1).1, ((B1.more d).cell 2).1, ((B1.more d).cell 3).1⟩, ((B2.more d).cell 0).1, ((B2.more d).cell 1).1⟩
  have HV : Hid (Below w2.heap.size w2 V) := bV
  clear B1 B2 bV
  obtain ⟨l, hl⟩ : ∃ l, p.all = l := ⟨_, rfl⟩
  rw [hl] at HL HN
  go_loopg [8] n (fun g s8 v => ∃ t : Nat, s8 = .int .i64 t ∧ t + g = n ∧ OwnC 3 1 V v (.slice (some ⟨g0, 0, none⟩) n n) n ((cntL l n t).map (Value.int .i64)))
  case atStart => exact ⟨0, rfl, by omega, by rw [cls_zero]; exact o1⟩
  case round =>
    obtain ⟨t, rfl, hg, o⟩ := hrel
    clear o1
    have bw := o.below
    obtain ⟨⟨x0, x1, x2, x3⟩, y0, y1⟩ := CB.out _ bw
    rcases Nat.lt_or_ge t n with ht | ht
    · have p1 : (t : Int) < n := by omega
      obtain ⟨hln, -, hn4, -⟩ := HN.out
      obtain ⟨m, hm⟩ : ∃ m, ms[t]? = some m := ⟨_, List.getElem?_eq_getElem (by have := HP.out.1.hall.1; omega)⟩
      obtain ⟨⟨ux, uy, hu, -⟩, ⟨vx, vy, hv, -⟩, -⟩ := HP.out.1.hnodes m (List.mem_of_getElem? hm)
      obtain ⟨gm, om, rfl, n0, n1, n2, n3, n4, n5, n6, n7⟩ := (HP.out.1.hall.below (below_more HV.out bw)).node hm
      rw [hu] at n6
      rw [hv] at n7
      obtain ⟨hlt, hfl⟩ := raw_at (l := l) (by rw [← hl]; exact HP.out.2) hm (by rw [← hl]; exact HF.out.nodes)
      have hbe := HL.out.behind t m.1.nd hlt
      have hun := fill_unary hfl
      have st1 := fun (h : m.1.kind < 2) => cls_leaf (n := n) hlt h
      have st2 := fun (h : 5 < m.1.kind) (a : Nat) (ha : m.1.a = (a : Int)) => cls_one (n := n) hlt h ha
      have st3 := fun (h : 2 ≤ m.1.kind) (h5 : m.1.kind ≤ 5) (a b : Nat) (ha : m.1.a = (a : Int)) (hb : m.1.b = (b : Int)) => cls_two (n := n) hlt h h5 ha hb
      change 2 ≤ m.1.kind → 0 ≤ m.1.a ∧ m.1.a < (t : Int) ∧ (m.1.kind ≤ 5 → 0 ≤ m.1.b ∧ m.1.b < (t : Int)) at hbe
      have cg := fun (k : Nat) (hk : k < n) => cls_get (l := l) (t := t) hk (by omega)
      generalize m.1.xs.length = lx at *
      generalize m.1.ys.length = ly at *
      generalize m.1.kind = K at *
      generalize m.1.a = A at *
      generalize m.1.b = B at *
      generalize m.1.exp = X at *
      generalize m.1.name = Y at *
      generalize m.1.neg = G at *
      have WT : Hid (wrap64 ((t : Int) + 1) = (t : Int) + 1) := wrap_smalls (by omega) (by omega)
      have HO : Hid (OwnC 3 1 V wr (.slice (some ⟨g0, 0, none⟩) n n) n ((cntL l n t).map (Value.int .i64)) ∧ t + 1 + (n - (t + 1)) = n ∧ n - (t + 1) < gk) := ⟨o, by omega, by omega⟩
      by_cases hk2 : K < 2
      · have st := st1 hk2
        clear st1 st2 st3 hbe hun hlt hfl hm hu hv cg hg o bw hn4 hln ht
        have wT := WT.out
        go_wp2
        go_roundg (n - (t + 1))
        case measure => exact HO.out.2.2
        case rel => exact ⟨t + 1, by first | rfl | (rw [wT]; rfl), HO.out.2.1, by rw [st]; exact HO.out.1.alloc _⟩
      obtain ⟨a0, a1, b01⟩ := hbe (by omega)
      obtain ⟨a, rfl⟩ : ∃ a : Nat, A = (a : Int) := ⟨A.toNat, by omega⟩
      have b0 : 0 ≤ B ∧ B < (t : Int) := by
        by_cases k5 : K ≤ 5
        · exact b01 k5
        · have := hun (by omega); omega
      obtain ⟨b, rfl⟩ : ∃ b : Nat, B = (b : Int) := ⟨B.toNat, by omega⟩
      have q1 : ¬ (a : Int) < 0 := by omega
      have q2 : ¬ (t : Int) ≤ (a : Int) := by omega
      have q3 : ¬ (b : Int) < 0 := by omega
      have q4 : ¬ (t : Int) ≤ (b : Int) := by omega
      have han : a < n := by omega
      have hbn : b < n := by omega
      obtain ⟨x, hx, hxd, hx0, hx1⟩ := cg a han
      have i1 : (a : Int) < n := by omega
      have i2 : (b : Int) < n := by omega
      have HX : Hid (wrap64 (x + 1) = x + 1) := wrap_smalls (by omega) (by omega)
      have oA := o.alloc (.cells #[.int .i64 K, .int .i64 a, .int .i64 b, .int .i64 X, .string Y, .bool G, .slice ux lx uy, .slice vx ly vy] 44)
      have NB := BoxC.new wr #[.int .i64 K, .int .i64 a, .int .i64 b, .int .i64 X, .string Y, .bool G, .slice ux lx uy, .slice vx ly vy] 44
      obtain ⟨ca, cf, cg1, cg2⟩ := oA.at1 (k := a) (y := .int .i64 x) (by rw [List.getElem?_map, hx]; rfl)
      have hgne : g0 < wr.heap.size := (o.at1 (k := a) (y := .int .i64 x) (by rw [List.getElem?_map, hx]; rfl)).2.2.2
      have oS := oA.set1 a (.int .i64 (x + 1))
      rw [inc_map hxd] at oS
      have NS := NB.other (g := g0) (i := a) (by omega) (.int .i64 (x + 1))
      have z0 := (NB.cell 0).1
      have z1 := (NB.cell 1).1
      have z2 := (NB.cell 2).1
      have s0 := (NS.cell 0).1
      have s2 := (NS.cell 2).1
      by_cases hk5 : K ≤ 5
      · have st := st3 (by omega) hk5 a b rfl rfl han hbn
        obtain ⟨y, hy, hyd, hy0, hy1⟩ : ∃ y : Int, (inc (cntL l n t) a)[b]? = some y ∧ (inc (cntL l n t) a).getD b 0 = y ∧ 0 ≤ y ∧ y ≤ 1000000 := by
          obtain ⟨z, hz, -, hz0, hz1⟩ := cg b hbn
          obtain ⟨y, h1, h2, h3, h4⟩ := inc_get (k := a) hz
          exact ⟨y, h1, h2, by omega, by omega⟩
        have HY : Hid (wrap64 (y + 1) = y + 1) := wrap_smalls (by omega) (by omega)
        obtain ⟨da, df, -, -⟩ := oS.at1 (k := b) (y := .int .i64 y) (by rw [List.getElem?_map, hy]; rfl)
        have oT := oS.set1 b (.int .i64 (y + 1))
        rw [inc_map hyd] at oT
        have HT : Hid (OwnC 3 1 V _ (.slice (some ⟨g0, 0, none⟩) n n) n ((inc (inc (cntL l n t) a) b).map (Value.int .i64)) ∧ cntL l n (t + 1) = inc (inc (cntL l n t) a) b) := ⟨oT, st⟩
        clear st1 st2 st3 hun hlt hfl hm hu hv cg hg o bw hn4 hln ht oA oS oT st NB NS hx hxd hx0 hx1 hy hyd hy0 hy1 a0 a1 b01 b0 han hbn hgne cg1 cg2
        have wT := WT.out
        have wX := HX.out
        have wY := HY.out
        go_wp2
        go_roundg (n - (t + 1))
        case measure => exact HO.out.2.2
        case rel => exact ⟨t + 1, by first | rfl | (rw [wT]; rfl), HO.out.2.1, by rw [HT.out.2]; exact HT.out.1⟩
      · have st := st2 (by omega) a rfl han
        have HT : Hid (OwnC 3 1 V _ (.slice (some ⟨g0, 0, none⟩) n n) n ((inc (cntL l n t) a).map (Value.int .i64)) ∧ cntL l n (t + 1) = inc (cntL l n t) a) := ⟨oS, st⟩
        clear st1 st2 st3 hun hlt hfl hm hu hv cg hg o bw hn4 hln ht oA oS st NB NS hx hxd hx0 hx1 a0 a1 b01 b0 han hbn hgne cg1 cg2
        have wT := WT.out
        have wX := HX.out
        go_wp2
        go_roundg (n - (t + 1))
        case measure => exact HO.out.2.2
        case rel => exact ⟨t + 1, by first | rfl | (rw [wT]; rfl), HO.out.2.1, by rw [HT.out.2]; exact HT.out.1⟩
    · have p1 : ¬ (t : Int) < n := by omega
      have e : t = n := by omega
      have o2 : OwnC 3 1 V wr (.slice (some ⟨g0, 0, none⟩) n n) n ((rtL l p.lets n 0).map (Value.int .i64)) := by
        rw [rt_zero]
        rw [e] at o
        exact o
      clear e hg o
      have HO2 : Hid (OwnC 3 1 V wr (.slice (some ⟨g0, 0, none⟩) n n) n ((rtL l p.lets n 0).map (Value.int .i64))) := o2
      clear o2 bw
      go_wp2
      clear x0 x1 x2 x3 y0 y1 p1
      go_loopg [10] nl' (fun g s10 v => ∃ t : Nat, s10 = .int .i64 t ∧ t + g = nl' ∧ OwnC 3 1 V v (.slice (some ⟨g0, 0, none⟩) n n) n ((rtL l p.lets n t).map (Value.int .i64)))
      case atStart => exact ⟨0, rfl, by omega, HO2.out⟩
      case round =>
        obtain ⟨t, rfl, hg, o⟩ := hrel
        clear HO2
        have bw := o.below
        obtain ⟨⟨x0, x1, x2, x3⟩, y0, y1⟩ := CB.out _ bw
        rcases Nat.lt_or_ge t nl' with ht | ht
        · have p1 : (t : Int) < nl' := by omega
          obtain ⟨hln, hll, hn4, hl4⟩ := HN.out
          obtain ⟨gl, ol, rfl, cl⟩ := (HP.out.1.hlets.below (below_more HV.out bw)).2.resolve_left (by omega)
          obtain ⟨⟨nm, rt⟩, hx⟩ : ∃ x, p.lets[t]? = some x := ⟨_, List.getElem?_eq_getElem (by omega)⟩
          obtain ⟨k1, k2⟩ := cl t _ hx
          dsimp only at k1 k2
          have hr := HL.out.roots _ (List.mem_of_getElem? hx)
          dsimp only at hr
          obtain ⟨r, rfl⟩ : ∃ r : Nat, rt = (r : Int) := ⟨rt.toNat, by omega⟩
          have hrn : r < n := by omega
          have q1 : ¬ (r : Int) < 0 := by omega
          have q2 : ¬ (n : Int) ≤ (r : Int) := by omega
          have i1 : (r : Int) < n := by omega
          obtain ⟨x, hx', hxd, hx0, hx1⟩ := rt_get (l := l) (ls := p.lets) (t := t) hrn (by omega)
          have HX : Hid (wrap64 (x + 1) = x + 1) := wrap_smalls (by omega) (by omega)
          have WT : Hid (wrap64 ((t : Int) + 1) = (t : Int) + 1) := wrap_smalls (by omega) (by omega)
          obtain ⟨ca, cf, -, -⟩ := o.at1 (k := r) (y := .int .i64 x) (by rw [List.getElem?_map, hx']; rfl)
          have oS := o.set1 r (.int .i64 (x + 1))
          rw [inc_map hxd, ← rt_step hx rfl hrn] at oS
          have HS : Hid (OwnC 3 1 V _ (.slice (some ⟨g0, 0, none⟩) n n) n ((rtL l p.lets n (t + 1)).map (Value.int .i64)) ∧ t + 1 + (nl' - (t + 1)) = nl' ∧ nl' - (t + 1) < gk) := ⟨oS, by omega, by omega⟩
          clear hln hll hn4 hl4 cl hx hr hx' hxd hx0 hx1 hrn hg o oS bw ht
          have wT := WT.out
          have wX := HX.out
          go_wp2
          go_roundg (nl' - (t + 1))
          case measure => exact HS.out.2.2
          case rel => exact ⟨t + 1, by first | rfl | (rw [wT]; rfl), HS.out.2.1, HS.out.1⟩
        · have p1 : ¬ (t : Int) < nl' := by omega
          have e : t = nl' := by omega
          have HO3 : Hid (OwnC 3 1 V wr (.slice (some ⟨g0, 0, none⟩) n n) n ((rtL l p.lets n nl').map (Value.int .i64))) := by rw [e] at o; exact o
          clear e hg o bw ht
          go_wp2
          clear x0 x1 x2 x3 y0 y1 p1
          go_loopg [11] n (fun g s11 v => ∃ t : Nat, s11 = .int .i64 t ∧ t + g = n ∧ OwnC 3 1 V v (.slice (some ⟨g0, 0, none⟩) n n) n ((rtL l p.lets n nl').map (Value.int .i64)))
          case atStart => exact ⟨0, rfl, by omega, HO3.out⟩
          case round =>
            obtain ⟨t, rfl, hg, o⟩ := hrel
            clear HO3
            have bw := o.below
            obtain ⟨⟨x0, x1, x2, x3⟩, y0, y1⟩ := CB.out _ bw
            rcases Nat.lt_or_ge t n with ht | ht
            · have p1 : (t : Int) < n := by omega
              have h1 : (rtL l p.lets n nl')[t]? = some 1 := by
                obtain ⟨hln, hll, -, -⟩ := HN.out
                rw [← hln, ← hll]
                exact rt_one HL.out (by omega)
              obtain ⟨ca, -, -, -⟩ := o.at1 (k := t) (y := .int .i64 1) (by rw [List.getElem?_map, h1]; rfl)
              have hn4 := HN.out.2.2.1
              have WT : Hid (wrap64 ((t : Int) + 1) = (t : Int) + 1) := wrap_smalls (by omega) (by omega)
              have HS : Hid (OwnC 3 1 V wr (.slice (some ⟨g0, 0, none⟩) n n) n ((rtL l p.lets n nl').map (Value.int .i64)) ∧ t + 1 + (n - (t + 1)) = n ∧ n - (t + 1) < gk) := ⟨o, by omega, by omega⟩
              clear h1 hn4 hg o bw ht
              have wT := WT.out
              go_wp2
              go_roundg (n - (t + 1))
              case measure => exact HS.out.2.2
              case rel => exact ⟨t + 1, by first | rfl | (rw [wT]; rfl), HS.out.2.1, HS.out.1⟩
            · have p1 : ¬ (t : Int) < n := by omega
              have PW := HP.out.1.below (below_more HV.out bw)
              have RT := fun v (h : PgR v ia la oa aa p.ins.length nl' p.outs.length n ac p.ins p.outs p.lets ms) => tree_right (ic := ic) (lc := lc) (oc := oc) h true (by rw [HP.out.2]; exact RG)
              have HB : Hid (Below w.heap.size w wr ∧ Below V.heap.size V wr) := ⟨below_more hb2.out.1 (below_more HV.out bw), bw⟩
              clear hg o bw ht
              go_wp2_with (go_at_call 16; (with_reducible refine Calls.mono (RT _ PW) ?_); rintro e w5 ⟨rfl, d5⟩; obtain ⟨-, u0, u1⟩ := CB.out _ (below_more HB.out.2 d5))
              go_ret
              exact ⟨rfl, below_more HB.out.1 d5⟩
end Go.Proofs.YtbcfplaalepnbaaGreatDoor
namespace Go.Proofs.YtbcfplaalepnbaaGreatDoor
open Go.RowKit
theorem law_TreeRight (s : ByteArray) (w : World) (_hs : s.size ≤ maxLen) (he : ErrV w) :
    Calls Tryz.prog 5 #[.string s] w fun e w' => e = .returned (.bool true) ∧ Below w.heap.size w w' := walk_TreeRight s w _hs he
end Go.Proofs.YtbcfplaalepnbaaGreatDoor
