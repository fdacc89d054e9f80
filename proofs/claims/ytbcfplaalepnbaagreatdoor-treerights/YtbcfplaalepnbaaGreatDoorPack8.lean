/-
  Texts of mine put together in build order, as far as TreeParses, TreeRight need them: TreeRA, TreeRB, TreeRC, TreeRD, TreeRE, TreeQQ, TreeSame, TreeEx, TreeAwake. No conditions of their own.
-/
import Derived.WalkKit
import Derived.ProofKit
import Derived.Lib.AppendZerosOnto
import Derived.Laws.AppendOwn
import Derived.Laws.AppendOwnNone
import Derived.Test.YtbcfplaalepnbaaGreatDoorRows
import Derived.WalkLawsBesides
import Derived.Deep.QuietTactic
import Derived.BigQuiet
import Derived.Outline
import Derived.Lib.BitFns
import Derived.OpenShut
import Derived.Laws.CopyOwn
import Derived.Lib.DecodeN
import Derived.Deep.LoopGhost
import Derived.Deep.RegionLaw
import Derived.Deep.DrawnRows
import Derived.Deep.RegionWith
import Derived.Deep.RegionHeld3
import Derived.Laws.IdiomStrings
import Derived.Laws.Bits64b
import Derived.RangeFuncNested
import Derived.RangeFuncBound
import Derived.RangeFuncCalls
import Derived.RangeFuncLeaves
import Derived.Shelf.Abstract
import Derived.Shelf.RegionOpen
import Derived.OwnWalkIn
import Derived.TacticsInMore
import Derived.LoopNIn
import Derived.LoopIn
import Derived.Sort.LoopGhostIn
import Derived.Lib.AtoiAll
import Derived.Lib.OthersKept
import Derived.Shelf.Strconv.AtoiAll
import Derived.Shelf.Strconv.ErrVarAll
import Derived.Test.YtbcfplaalepnbaaGreatDoorProg
import Derived.Laws.EntriesVeiled
import Derived.Deep.DeepCutAuto
import Derived.Lib.Bytealg
import Derived.Lib.Strings
import Derived.Lib.BufferWrite
import Derived.Lib.UnsafeStr
import Derived.Laws.MakeOwn
import Derived.Test.YtbcfplaalepnbaaGreatDoorPack1
import Derived.Test.YtbcfplaalepnbaaGreatDoorPack2
import Derived.Test.YtbcfplaalepnbaaGreatDoorPack3
import Derived.Test.YtbcfplaalepnbaaGreatDoorPack4
import Derived.Test.YtbcfplaalepnbaaGreatDoorPack5
import Derived.Test.YtbcfplaalepnbaaGreatDoorPack6
import Derived.Test.YtbcfplaalepnbaaGreatDoorPack7
namespace Go.Proofs.YtbcfplaalepnbaaGreatDoor
open Go.RowKit Go.Lib
def IsI (w : World) (a : Option Addr) (n : Nat) (xs : List Int) : Prop := xs.length = n ∧ (n = 0 ∨ ∃ g o, a = some ⟨g, o, none⟩ ∧ ∀ (j : Nat) (x : Int), xs[j]? = some x → w.cell? ⟨g, o + j, none⟩ = some (.int .i64 x))
set_option maxHeartbeats 8000000 in
theorem eq_ints {w : World} {a b : Option Addr} {n c m d : Nat} {xs ys : List Int} (h1 : IsI w a n xs) (h2 : IsI w b m ys) (hn : n ≤ 100000) (r : Bool) (hr : decide (xs = ys) = r) :
    Calls Tryz.prog 103 #[.slice a n c, .slice b m d] w fun e w' => e = .returned (.bool r) ∧ Below w.heap.size w w' := by
  by_cases hl : n = m
  · subst hl
    have HH : Hid (IsI w a n xs ∧ IsI w b n ys ∧ n ≤ 100000 ∧ decide (xs = ys) = r) := ⟨h1, h2, hn, hr⟩
    clear h1 h2 hn hr
    go_enter Tryz.func103, Tryz.ntmps103
    go_wp2
    go_loopg [13] n (fun g s13 v => ∃ t : Nat, s13 = .int .i64 t ∧ t + g = n ∧ (∀ j, j < t → xs[j]? = ys[j]?) ∧ Below w.heap.size w v)
    case atStart => exact ⟨0, rfl, by omega, fun j hj => absurd hj (by omega), Below.refl _ _⟩
    case round =>
      obtain ⟨t, rfl, hg, hN, bw⟩ := hrel
      obtain ⟨⟨l1, h1⟩, ⟨l2, h2⟩, hn, hr⟩ := HH.out
      rcases Nat.lt_or_ge t n with ht | ht
      · have p1 : (t : Int) < n := by omega
        obtain ⟨g1, o1, rfl, c1⟩ := h1.resolve_left (by omega)
        obtain ⟨g2, o2, rfl, c2⟩ := h2.resolve_left (by omega)
        obtain ⟨x, hx⟩ : ∃ x, xs[t]? = some x := ⟨_, List.getElem?_eq_getElem (by omega)⟩
        obtain ⟨y, hy⟩ : ∃ y, ys[t]? = some y := ⟨_, List.getElem?_eq_getElem (by omega)⟩
        have k1 := c1 t x hx
        have k2 := c2 t y hy
        have b1 := World.block_lt_of_cell? w _ k1
        have b2 := World.block_lt_of_cell? w _ k2
        rw [← bw.cell b1] at k1
        rw [← bw.cell b2] at k2
        by_cases hxy : x = y
        · subst hxy
          have e1 : (x == x) = true := by simp
          have e2 : (x != x) = false := by simp
          have w1 : wrap64 ((t : Int) + 1) = (t : Int) + 1 := wrap_smalls (by omega) (by omega)
          have HN : Hid ((∀ j, j < t + 1 → xs[j]? = ys[j]?) ∧ t + 1 + (n - (t + 1)) = n ∧ n - (t + 1) < gk ∧ Below w.heap.size w wr) := ⟨fun j hj => by
            rcases Nat.lt_or_ge j t with q | q
            · exact hN j q
            · obtain rfl : j = t := by omega
              rw [hx, hy], by clear w1; omega, by clear w1; omega, bw⟩
          clear hg hN hn hr h1 h2 c1 c2 hx hy bw l1 l2 b1 b2 HH
          go_wp2
          go_quiet (fail)
          obtain ⟨j1, j2, j3, j4⟩ := HN.out
          go_wp2
          go_roundg (n - (t + 1))
          case measure => exact j3
          case rel => exact ⟨t + 1, by first | rfl | (rw [w1]; rfl), j2, j1, below_drewN j4 _⟩
        · have hrf : r = false := by
            rw [← hr]
            refine decide_eq_false fun e => hxy ?_
            rw [e, hy] at hx
            injection hx with hx
            exact hx.symm
          subst hrf
          have e1 : (x == y) = false := by rw [beq_eq_false_iff_ne]; exact hxy
          have e2 : (x != y) = true := by rw [bne_iff_ne]; exact hxy
          have HB : Hid (Below w.heap.size w wr) := bw
          clear hg hN hn hr h1 h2 c1 c2 hx hy bw l1 l2 b1 b2 HH
          go_wp2
          go_quiet (fail)
          go_wp2
          go_ret
          exact ⟨rfl, below_drewN HB.out _⟩
      · have p1 : ¬ (t : Int) < n := by omega
        obtain rfl : t = n := by omega
        have hrt : r = true := by
          rw [← hr]
          refine decide_eq_true (List.ext_getElem? fun j => ?_)
          rcases Nat.lt_or_ge j t with q | q
          · exact hN j q
          · rw [List.getElem?_eq_none (by omega), List.getElem?_eq_none (by omega)]
        subst hrt
        clear hg hN hn hr h1 h2 l1 l2 HH
        go_wp2
        go_ret
        exact ⟨rfl, bw⟩
  · have hrf : r = false := by
      rw [← hr]
      refine decide_eq_false fun e => hl ?_
      rw [← h1.1, ← h2.1, e]
    subst hrf
    have k1 : ((n : Int) == m) = false := by rw [beq_eq_false_iff_ne]; omega
    have k2 : ((n : Int) != m) = true := by rw [bne_iff_ne]; omega
    have k3 : ¬ (n : Int) = m := by omega
    clear h1 h2 hn hr hl
    go_enter Tryz.func103, Tryz.ntmps103
    go_wp2
    go_ret
    exact ⟨rfl, Below.refl _ _⟩
set_option maxHeartbeats 4000000 in
theorem tree_none (s : Bool) (a : Option Addr) (n c : Nat) (b : Option Addr) (m d : Nat) (r : Bool) (hr : (!s && decide (n = 0) && decide (m = 0)) = r) (w : World) :
    Calls Tryz.prog 121 #[.agg #[.bool s, .slice a n c, .slice b m d]] w fun e w' => e = .returned (.bool r) ∧ Below w.heap.size w w' := by
  obtain ⟨b1, bV, hs⟩ := boxes1 w #[.bool s, .slice a n c, .slice b m d] 42
  obtain ⟨x0, x1, x2, f0, f1, f2⟩ := b1.cells3
  cases s with
  | true =>
    simp only [Bool.not_true, Bool.false_and] at hr
    subst hr
    clear b1
    go_enter Tryz.func121, Tryz.ntmps121
    go_wp2
    go_ret
    exact ⟨rfl, bV⟩
  | false =>
    by_cases h1 : n = 0
    · subst h1
      have e2 : (((m : Nat) : Int) == 0) = r := by
        rw [← hr]
        by_cases q : m = 0
        · subst q; rfl
        · rw [decide_eq_false q, beq_eq_false_iff_ne.2 (show ((m : Nat) : Int) ≠ 0 by omega)]; rfl
      have hk : ((0 : Nat) : Int) = 0 := rfl
      clear b1 hr
      go_enter Tryz.func121, Tryz.ntmps121
      go_wp2
      go_ret
      exact ⟨by first | rfl | (rw [← e2]; rfl), bV⟩
    · rw [decide_eq_false h1] at hr
      simp only [Bool.not_false, Bool.true_and, Bool.false_and] at hr
      subst hr
      have e1 : ((n : Int) == 0) = false := by rw [beq_eq_false_iff_ne]; omega
      clear b1 h1
      go_enter Tryz.func121, Tryz.ntmps121
      go_wp2
      go_ret
      exact ⟨rfl, bV⟩
def shortB (xs : List Int) : Bool := decide (xs.length ≤ 5) && decide ((decOf (val xs)).length ≤ 40)
set_option maxHeartbeats 4000000 in
theorem tree_short {w : World} {a : Option Addr} {n c : Nat} {xs : List Int} (h : IsWords w (.slice a n c) xs) (hx : Wd xs) (hn : n ≤ 1000000) (hl : xs.length = n) (r : Bool) (hr : shortB xs = r) :
    Calls Tryz.prog 140 #[.slice a n c] w fun e w' => e = .returned (.bool r) ∧ Below w.heap.size w w' := by
  have DG := deci_digits h hx hn (val xs) rfl
  unfold shortB at hr
  rw [hl] at hr
  generalize (decOf (val xs)).length = D at *
  by_cases h1 : n ≤ 5
  · have k1 : (n : Int) ≤ 5 := by omega
    rw [decide_eq_true h1, Bool.true_and] at hr
    have e : decide ((D : Int) ≤ 40) = r := by rw [← hr]; exact decide_eq_decide.2 (by omega)
    clear h hx hn h1 hl hr
    go_enter Tryz.func140, Tryz.ntmps140
    go_wp2_with (go_at_call 153; (with_reducible refine Calls.mono DG ?_); rintro e' w1 ⟨rfl, d1⟩)
    go_ret
    exact ⟨by rw [← e]; rfl, d1⟩
  · have k1 : ¬ (n : Int) ≤ 5 := by omega
    rw [decide_eq_false h1, Bool.false_and] at hr
    subst hr
    clear h hx hn h1 hl DG
    go_enter Tryz.func140, Tryz.ntmps140
    go_wp2
    go_ret
    exact ⟨rfl, Below.refl _ _⟩
def rghB (s : Bool) (xs ys : List Int) : Bool := decide (decide ((rv s (val xs) (val ys)).num < 0) = s ∧ natOf (rv s (val xs) (val ys)).num.natAbs = xs ∧ natOf (rv s (val xs) (val ys)).den = ys)
def numR (s : Bool) (xs ys : List Int) : Bool := !s && shortB xs && shortB ys && rghB s xs ys
set_option maxHeartbeats 8000000 in
theorem tree_number {s : Bool} {w : World} {a b : Option Addr} {n c m d : Nat} {xs ys : List Int} (h : IsWords w (.slice a n c) xs) (hx : Wd xs) (k : IsWords w (.slice b m d) ys) (hy : Wd ys) (hn : n ≤ 10000) (hm : m ≤ 10000) (hl : xs.length = n) (hl' : ys.length = m) (r : Bool) (hr : numR s xs ys = r) :
    Calls Tryz.prog 120 #[.agg #[.bool s, .slice a n c, .slice b m d]] w fun e w' => e = .returned (.bool r) ∧ Below w.heap.size w w' := by
  obtain ⟨b1, bV, hs⟩ := boxes1 w #[.bool s, .slice a n c, .slice b m d] 42
  obtain ⟨x0, x1, x2, f0, f1, f2⟩ := b1.cells3
  unfold numR at hr
  have HB := b1
  generalize hV : w.alloc (.cells #[.bool s, .slice a n c, .slice b m d] 42) = V at *
  have S1 := fun (q : Bool) (hq : shortB xs = q) => tree_short (h.below bV) hx (by omega) hl q hq
  have S2 := fun (v : World) (dv : Below V.heap.size V v) (q : Bool) (hq : shortB ys = q) => tree_short ((k.below bV).below dv) hy (by omega) hl' q hq
  have RG := fun (v : World) (dv : Below V.heap.size V v) (q : Bool) (hq : rghB s xs ys = q) => rat_right ((h.below bV).below dv) hx ((k.below bV).below dv) hy hn hm _ rfl q hq
  have CB := fun (v : World) (dv : Below V.heap.size V v) => (HB.more dv).cells3
  subst hV
  cases s with
  | true =>
    simp only [Bool.not_true, Bool.false_and] at hr
    subst hr
    clear b1 h hx k hy hn hm hl hl' S1 S2 RG CB HB
    go_enter Tryz.func120, Tryz.ntmps120
    go_wp2
    go_ret
    exact ⟨rfl, bV⟩
  | false =>
    rw [Bool.not_false, Bool.true_and] at hr
    cases h1 : shortB xs with
    | false =>
      rw [h1] at hr
      simp only [Bool.false_and] at hr
      subst hr
      have S1' := S1 false h1
      clear b1 h hx k hy hn hm hl hl' S1 S2 RG CB HB h1
      go_enter Tryz.func120, Tryz.ntmps120
      go_wp2_with (go_at_call 140; (with_reducible refine Calls.mono S1' ?_); rintro e w1 ⟨rfl, d1⟩)
      go_ret
      exact ⟨rfl, below_more bV d1⟩
    | true =>
      rw [h1, Bool.true_and] at hr
      have S1' := S1 true h1
      cases h2 : shortB ys with
      | false =>
        rw [h2] at hr
        simp only [Bool.false_and] at hr
        subst hr
        have S2' := fun v dv => S2 v dv false h2
        clear b1 h hx k hy hn hm hl hl' S1 S2 RG HB h1 h2
        go_enter Tryz.func120, Tryz.ntmps120
        go_wp2_with (first
          | (go_at_call 140; (with_reducible refine Calls.mono S1' ?_); rintro e w1 ⟨rfl, d1⟩; obtain ⟨y0, y1, y2, -, -, -⟩ := CB _ d1)
          | (go_at_call 140; (with_reducible refine Calls.mono (S2' _ d1) ?_); rintro e w2 ⟨rfl, d2⟩))
        go_ret
        exact ⟨rfl, below_more (below_more bV d1) d2⟩
      | true =>
        rw [h2, Bool.true_and] at hr
        have S2' := fun v dv => S2 v dv true h2
        have RG' := fun v dv => RG v dv r hr
        clear b1 h hx k hy hn hm hl hl' S1 S2 RG HB h1 h2 hr
        go_enter Tryz.func120, Tryz.ntmps120
        go_wp2_with (first
          | (go_at_call 140; (with_reducible refine Calls.mono S1' ?_); rintro e w1 ⟨rfl, d1⟩; obtain ⟨y0, y1, y2, -, -, -⟩ := CB _ d1)
          | (go_at_call 140; (with_reducible refine Calls.mono (S2' _ d1) ?_); rintro e w2 ⟨rfl, d2⟩; have d12 := below_more d1 d2; obtain ⟨z0, z1, z2, -, -, -⟩ := CB _ d12)
          | (go_at_call 141; (with_reducible refine Calls.mono (RG' _ d12) ?_); rintro e w3 ⟨rfl, d3⟩))
        go_ret
        exact ⟨rfl, below_more (below_more (below_more bV d1) d2) d3⟩
def IsS (w : World) (a : Option Addr) (n : Nat) (xs : List ByteArray) : Prop := xs.length = n ∧ (n = 0 ∨ ∃ g o, a = some ⟨g, o, none⟩ ∧ ∀ (j : Nat) (x : ByteArray), xs[j]? = some x → w.cell? ⟨g, o + j, none⟩ = some (.string x))
theorem spot_none {w : World} {a : Addr} {v : Value} (h : w.cell? a = some v) : a.spot = none := by
  unfold World.cell? at h
  split at h
  · cases hs : a.spot with
    | none => rfl
    | some q => simp [hs] at h
  · simp at h
theorem add_lit (g o j : Nat) : (⟨g, o, none⟩ : Addr).add j = ⟨g, o + j, none⟩ := by cases j <;> simp [Addr.add]
theorem IsC.lit {k : Nat} {w : World} {a : Option Addr} {n : Nat} {cs : List Value} (h : IsC k w a n cs) (hk : 0 < k) : n = 0 ∨ ∃ g o, a = some ⟨g, o, none⟩ ∧ ∀ j u, cs[j]? = some u → w.cell? ⟨g, o + j, none⟩ = some u := by
  rcases h.2 with h0 | ⟨⟨g, o, sp⟩, rfl, hc⟩
  · exact .inl h0
  · rcases Nat.eq_zero_or_pos n with h0 | hp
    · exact .inl h0
    · right
      have hl : 0 < cs.length := by rw [h.1]; exact Nat.mul_pos hp hk
      have h1 := hc 0 _ (List.getElem?_eq_getElem hl)
      have h2 : sp = none := by
        have := spot_none h1
        simpa [Addr.add] using this
      subst h2
      refine ⟨g, o, rfl, fun j u hj => ?_⟩
      rw [← add_lit]
      exact hc j u hj
theorem flat_strs (xs : List ByteArray) : flat encS xs = xs.map Value.string := by
  induction xs with
  | nil => rfl
  | cons x xs ih => show encS x ++ flat encS xs = _; rw [ih]; rfl
theorem IsC.isS {w : World} {a : Option Addr} {n : Nat} {xs : List ByteArray} (h : IsC 1 w a n (flat encS xs)) : IsS w a n xs := by
  have hl := h.1
  rw [flat_strs, List.length_map, Nat.mul_one] at hl
  refine ⟨hl, ?_⟩
  rcases h.lit (by decide) with h0 | ⟨g, o, e, hc⟩
  · exact .inl h0
  · exact .inr ⟨g, o, e, fun j x hj => hc j _ (by rw [flat_strs, List.getElem?_map, hj]; rfl)⟩
theorem IsS.below {w w' : World} {a : Option Addr} {n : Nat} {xs : List ByteArray} (h : IsS w a n xs) (hb : Below w.heap.size w w') : IsS w' a n xs := by
  refine ⟨h.1, ?_⟩
  rcases h.2 with h0 | ⟨g, o, e, hc⟩
  · exact .inl h0
  · exact .inr ⟨g, o, e, fun j x hj => by rw [hb.cell (World.block_lt_of_cell? w _ (hc j x hj))]; exact hc j x hj⟩
theorem sign_name_any (s : ByteArray) (w : World) (r : Bool) (hr : nameB s = r) : Calls Tryz.prog 69 #[.string s] w fun e w' => e = .returned (.bool r) ∧ Below w.heap.size w w' := by
  by_cases hs : s.size ≤ 1000000
  · exact sign_name s w hs r hr
  · have e0 : (s.toList == []) = false := text_full (by omega)
    unfold nameB at hr
    obtain rfl : r = false := by rw [← hr, decide_eq_false (by omega)]; rfl
    have k2 : 40 < (s.size : Int) := by omega
    clear hr hs
    go_enter Tryz.func69, Tryz.ntmps69
    go_wp2
    go_ret
    exact ⟨rfl, Below.refl _ _⟩
set_option maxHeartbeats 8000000 in
theorem tree_named {w : World} {a : Option Addr} {n c : Nat} {xs : List ByteArray} (h : IsS w a n xs) (hn : n ≤ 100000) (r : Bool) (hr : xs.all nameB = r) :
    Calls Tryz.prog 42 #[.slice a n c] w fun e w' => e = .returned (.bool r) ∧ Below w.heap.size w w' := by
  have HH : Hid (xs.length = n ∧ IsS w a n xs ∧ n ≤ 100000 ∧ xs.all nameB = r) := ⟨h.1, h, hn, hr⟩
  clear h hn hr
  go_enter Tryz.func42, Tryz.ntmps42
  go_wp2
  go_loopg [7] n (fun g s7 v => ∃ t : Nat, s7 = .int .i64 t ∧ t + g = n ∧ (∀ j x, j < t → xs[j]? = some x → nameB x = true) ∧ Below w.heap.size w v)
  case atStart => exact ⟨0, rfl, by omega, fun j x hj => absurd hj (by omega), Below.refl _ _⟩
  case round =>
    obtain ⟨t, rfl, hg, hN, bw⟩ := hrel
    obtain ⟨hl, hc, hn, hr⟩ := HH.out
    rcases Nat.lt_or_ge t n with ht | ht
    · have p1 : (t : Int) < n := by omega
      obtain ⟨x, hx⟩ : ∃ x, xs[t]? = some x := ⟨_, List.getElem?_eq_getElem (by omega)⟩
      obtain ⟨g1, o1, rfl, k1⟩ := (hc.below bw).2.resolve_left (by omega)
      have k1 := k1 t x hx
      cases hb : nameB x with
      | false =>
        have hrf : r = false := by
          rw [← hr, List.all_eq_false]
          exact ⟨x, List.mem_of_getElem? hx, by rw [hb]; simp⟩
        subst hrf
        have SN := fun v => sign_name_any x v false hb
        have HB : Hid (Below w.heap.size w wr) := bw
        clear hg hN bw hl hc hn hr hx hb HH
        go_wp2_with (go_at_call 69; (with_reducible refine Calls.mono (SN _) ?_); rintro e w2 ⟨rfl, d2⟩)
        go_ret
        exact ⟨rfl, below_more HB.out d2⟩
      | true =>
        have SN := fun v => sign_name_any x v true hb
        have w1 : wrap64 ((t : Int) + 1) = (t : Int) + 1 := wrap_smalls (by omega) (by omega)
        have HN : Hid ((∀ j y, j < t + 1 → xs[j]? = some y → nameB y = true) ∧ t + 1 + (n - (t + 1)) = n ∧ n - (t + 1) < gk ∧ Below w.heap.size w wr) := ⟨fun j y hj hy => by
          rcases Nat.lt_or_ge j t with q | q
          · exact hN j y q hy
          · obtain rfl : j = t := by omega
            rw [hx] at hy
            injection hy with hy
            rw [← hy]; exact hb, by clear w1; omega, by clear w1; omega, bw⟩
        clear hg hN bw hl hc hn hr hx hb HH
        go_wp2_with (go_at_call 69; (with_reducible refine Calls.mono (SN _) ?_); rintro e w2 ⟨rfl, d2⟩)
        obtain ⟨j1, j2, j3, j4⟩ := HN.out
        go_roundg (n - (t + 1))
        case measure => exact j3
        case rel => exact ⟨t + 1, by first | rfl | (rw [w1]; rfl), j2, j1, below_more j4 d2⟩
    · have p1 : ¬ (t : Int) < n := by omega
      obtain rfl : t = n := by omega
      have hrt : r = true := by
        rw [← hr, List.all_eq_true]
        intro x hx
        obtain ⟨j, hj, he⟩ := List.getElem_of_mem hx
        exact hN j x (by omega) (by rw [List.getElem?_eq_getElem hj, he])
      subst hrt
      clear hg hN hn hr hl hc HH
      go_wp2
      go_ret
      exact ⟨rfl, bw⟩
end Go.Proofs.YtbcfplaalepnbaaGreatDoor
namespace Go.Proofs.YtbcfplaalepnbaaGreatDoor
open Go.RowKit Go.Lib
def emptyB (x : ByteArray) : Bool := x.toList == []
def noneB (m : Nw) : Bool := !m.neg && decide (m.xs.length = 0) && decide (m.ys.length = 0)
def fillR (m : Nw) : Bool :=
  if m.kind = 0 then nameB m.name && (m.a == 0) && (m.b == 0) && (m.exp == 0) && noneB m
  else if m.kind = 1 then numR m.neg m.xs m.ys && (m.a == 0) && (m.b == 0) && (m.exp == 0) && emptyB m.name
  else if m.kind = 2 ∨ m.kind = 3 ∨ m.kind = 4 ∨ m.kind = 5 then (m.exp == 0) && emptyB m.name && noneB m
  else if m.kind = 6 then (m.b == 0) && (m.exp == 0) && emptyB m.name && noneB m
  else if m.kind = 7 then decide (-20 ≤ m.exp ∧ m.exp ≤ 20) && (m.b == 0) && emptyB m.name && noneB m
  else false
set_option maxHeartbeats 64000000 in
theorem tree_filled {w : World} {k a b x : Int} {nm : ByteArray} {ng : Bool} {ua va : Option Addr} {uc vc : Nat} {xs ys : List Int} (hu : IsWords w (.slice ua xs.length uc) xs) (hx : Wd xs) (hv : IsWords w (.slice va ys.length vc) ys) (hy : Wd ys) (hn : xs.length ≤ 10000) (hm : ys.length ≤ 10000) (hs : nm.size ≤ 1000000) (r : Bool) (hr : fillR ⟨k, a, b, x, nm, ng, xs, ys⟩ = r) :
    Calls Tryz.prog 102 #[.agg #[.int .i64 k, .int .i64 a, .int .i64 b, .int .i64 x, .string nm, .bool ng, .slice ua xs.length uc, .slice va ys.length vc]] w fun e w' => e = .returned (.bool r) ∧ Below w.heap.size w w' := by
  have NO := fun (v : World) (q : Bool) (hq : noneB ⟨k, a, b, x, nm, ng, xs, ys⟩ = q) => tree_none ng ua xs.length uc va ys.length vc q hq v
  have NZ := fun (v : World) => tree_none false none 0 0 none 0 0 true rfl v
  have NU := fun (v : World) (dv : Below w.heap.size w v) (q : Bool) (hq : numR ng xs ys = q) => tree_number (hu.below dv) hx (hv.below dv) hy hn hm rfl rfl q hq
  have SN := fun (v : World) (q : Bool) (hq : nameB nm = q) => sign_name nm v hs q hq
  obtain ⟨b1, b2, bV, hV⟩ := boxes2 w #[.int .i64 k, .int .i64 a, .int .i64 b, .int .i64 x, .string nm, .bool ng, .slice ua xs.length uc, .slice va ys.length vc] #[.int .i64 k, .int .i64 a, .int .i64 b, .int .i64 x, .string nm, .bool ng, .slice ua xs.length uc, .slice va ys.length vc] 44 44
  have HB : Hid (BoxC _ _ _ _ ∧ Below w.heap.size w _ ∧ w.heap.size + 1 < _) := ⟨b2, bV, hV⟩
  have HE : ∀ y : ByteArray, emptyB y = (y.toList == []) := fun _ => rfl
  unfold fillR at hr
  dsimp only at hr
  generalize hnone : noneB ⟨k, a, b, x, nm, ng, xs, ys⟩ = nb at *
  generalize hnum : numR ng xs ys = qb at *
  generalize hname : nameB nm = sb at *
  rw [HE] at hr
  clear b1 b2 bV hV hu hx hv hy hn hm hs HE
  by_cases k0 : k = 0
  · subst k0
    have HB2 := HB.out.2.1
    rw [if_pos (by decide)] at hr
    cases hs0 : sb with
    | false =>
      have hr' : r = false := by rw [← hr]; simp [hs0]
      subst hr'
      clear hr
      go_enter Tryz.func102, Tryz.ntmps102
      go_wp2_with (first
        | (go_at_call 69; (with_reducible refine Calls.mono (SN _ _ rfl) ?_); rintro e w1 ⟨rfl, d1⟩; have D := HB.out.1.more d1; have e0 := (D.cell 0).1; have e1 := (D.cell 1).1; have e2 := (D.cell 2).1; have e3 := (D.cell 3).1; have e4 := (D.cell 4).1; have e5 := (D.cell 5).1; have e6 := (D.cell 6).1; have e7 := (D.cell 7).1; have f0 := (D.cell 0).2; have f1 := (D.cell 1).2; have f2 := (D.cell 2).2; have f3 := (D.cell 3).2; have f4 := (D.cell 4).2; have f5 := (D.cell 5).2; have f6 := (D.cell 6).2; have f7 := (D.cell 7).2; have bb := below_more HB.out.2.1 d1))
      go_ret
      exact ⟨rfl, by (repeat' first | exact bb | with_reducible refine Below.alloc ?_ ?_ _ | with_reducible refine Below.setCell ?_ ?_ _ | with_reducible refine Below.drew ?_ | exact Below.refl _ _ | exact Nat.le_succ _ | exact Nat.le_refl _ | (simp; done) | (simp; omega))⟩
    | true =>
      cases ha : (a == 0) with
      | false =>
        have hr' : r = false := by rw [← hr]; simp [hs0, ha]
        subst hr'
        clear hr
        go_enter Tryz.func102, Tryz.ntmps102
        go_wp2_with (first
          | (go_at_call 69; (with_reducible refine Calls.mono (SN _ _ rfl) ?_); rintro e w1 ⟨rfl, d1⟩; have D := HB.out.1.more d1; have e0 := (D.cell 0).1; have e1 := (D.cell 1).1; have e2 := (D.cell 2).1; have e3 := (D.cell 3).1; have e4 := (D.cell 4).1; have e5 := (D.cell 5).1; have e6 := (D.cell 6).1; have e7 := (D.cell 7).1; have f0 := (D.cell 0).2; have f1 := (D.cell 1).2; have f2 := (D.cell 2).2; have f3 := (D.cell 3).2; have f4 := (D.cell 4).2; have f5 := (D.cell 5).2; have f6 := (D.cell 6).2; have f7 := (D.cell 7).2; have bb := below_more HB.out.2.1 d1))
        go_ret
        exact ⟨rfl, by (repeat' first | exact bb | with_reducible refine Below.alloc ?_ ?_ _ | with_reducible refine Below.setCell ?_ ?_ _ | with_reducible refine Below.drew ?_ | exact Below.refl _ _ | exact Nat.le_succ _ | exact Nat.le_refl _ | (simp; done) | (simp; omega))⟩
      | true =>
        cases hb : (b == 0) with
        | false =>
          have hr' : r = false := by rw [← hr]; simp [hs0, ha, hb]
          subst hr'
          clear hr
          go_enter Tryz.func102, Tryz.ntmps102
          go_wp2_with (first
            | (go_at_call 69; (with_reducible refine Calls.mono (SN _ _ rfl) ?_); rintro e w1 ⟨rfl, d1⟩; have D := HB.out.1.more d1; have e0 := (D.cell 0).1; have e1 := (D.cell 1).1; have e2 := (D.cell 2).1; have e3 := (D.cell 3).1; have e4 := (D.cell 4).1; have e5 := (D.cell 5).1; have e6 := (D.cell 6).1; have e7 := (D.cell 7).1; have f0 := (D.cell 0).2; have f1 := (D.cell 1).2; have f2 := (D.cell 2).2; have f3 := (D.cell 3).2; have f4 := (D.cell 4).2; have f5 := (D.cell 5).2; have f6 := (D.cell 6).2; have f7 := (D.cell 7).2; have bb := below_more HB.out.2.1 d1))
          go_ret
          exact ⟨rfl, by (repeat' first | exact bb | with_reducible refine Below.alloc ?_ ?_ _ | with_reducible refine Below.setCell ?_ ?_ _ | with_reducible refine Below.drew ?_ | exact Below.refl _ _ | exact Nat.le_succ _ | exact Nat.le_refl _ | (simp; done) | (simp; omega))⟩
        | true =>
          cases hx0 : (x == 0) with
          | false =>
            have hr' : r = false := by rw [← hr]; simp [hs0, ha, hb, hx0]
            subst hr'
            clear hr
            go_enter Tryz.func102, Tryz.ntmps102
            go_wp2_with (first
              | (go_at_call 69; (with_reducible refine Calls.mono (SN _ _ rfl) ?_); rintro e w1 ⟨rfl, d1⟩; have D := HB.out.1.more d1; have e0 := (D.cell 0).1; have e1 := (D.cell 1).1; have e2 := (D.cell 2).1; have e3 := (D.cell 3).1; have e4 := (D.cell 4).1; have e5 := (D.cell 5).1; have e6 := (D.cell 6).1; have e7 := (D.cell 7).1; have f0 := (D.cell 0).2; have f1 := (D.cell 1).2; have f2 := (D.cell 2).2; have f3 := (D.cell 3).2; have f4 := (D.cell 4).2; have f5 := (D.cell 5).2; have f6 := (D.cell 6).2; have f7 := (D.cell 7).2; have bb := below_more HB.out.2.1 d1))
            go_ret
            exact ⟨rfl, by (repeat' first | exact bb | with_reducible refine Below.alloc ?_ ?_ _ | with_reducible refine Below.setCell ?_ ?_ _ | with_reducible refine Below.drew ?_ | exact Below.refl _ _ | exact Nat.le_succ _ | exact Nat.le_refl _ | (simp; done) | (simp; omega))⟩
          | true =>
            have hr' : r = nb := by rw [← hr]; simp [hs0, ha, hb, hx0]
            subst hr'
            clear hr
            go_enter Tryz.func102, Tryz.ntmps102
            go_wp2_with (first
              | (go_at_call 69; (with_reducible refine Calls.mono (SN _ _ rfl) ?_); rintro e w1 ⟨rfl, d1⟩; have D := HB.out.1.more d1; have e0 := (D.cell 0).1; have e1 := (D.cell 1).1; have e2 := (D.cell 2).1; have e3 := (D.cell 3).1; have e4 := (D.cell 4).1; have e5 := (D.cell 5).1; have e6 := (D.cell 6).1; have e7 := (D.cell 7).1; have f0 := (D.cell 0).2; have f1 := (D.cell 1).2; have f2 := (D.cell 2).2; have f3 := (D.cell 3).2; have f4 := (D.cell 4).2; have f5 := (D.cell 5).2; have f6 := (D.cell 6).2; have f7 := (D.cell 7).2; have bb := below_more HB.out.2.1 d1)
              | (go_at_call 121; (with_reducible refine Calls.mono (NO _ _ rfl) ?_); rintro e w2 ⟨rfl, d2⟩))
            go_ret
            exact ⟨rfl, by (repeat' first | exact bb | with_reducible refine below_more ?_ d2 | with_reducible refine Below.alloc ?_ ?_ _ | with_reducible refine Below.setCell ?_ ?_ _ | with_reducible refine Below.drew ?_ | exact Below.refl _ _ | exact Nat.le_succ _ | exact Nat.le_refl _ | (simp; done) | (simp; omega))⟩
  by_cases k1 : k = 1
  · subst k1
    have HB2 := HB.out.2.1
    rw [if_neg (by decide), if_pos (by decide)] at hr
    cases hq0 : qb with
    | false =>
      have hr' : r = false := by rw [← hr]; simp [hq0]
      subst hr'
      clear hr
      go_enter Tryz.func102, Tryz.ntmps102
      go_wp2_with (first
        | (go_at_call 120; (with_reducible refine Calls.mono (NU _ HB.out.2.1 _ rfl) ?_); rintro e w1 ⟨rfl, d1⟩; have D := HB.out.1.more d1; have e0 := (D.cell 0).1; have e1 := (D.cell 1).1; have e2 := (D.cell 2).1; have e3 := (D.cell 3).1; have e4 := (D.cell 4).1; have e5 := (D.cell 5).1; have e6 := (D.cell 6).1; have e7 := (D.cell 7).1; have f0 := (D.cell 0).2; have f1 := (D.cell 1).2; have f2 := (D.cell 2).2; have f3 := (D.cell 3).2; have f4 := (D.cell 4).2; have f5 := (D.cell 5).2; have f6 := (D.cell 6).2; have f7 := (D.cell 7).2; have bb := below_more HB.out.2.1 d1))
      go_ret
      exact ⟨rfl, by (repeat' first | exact bb | with_reducible refine Below.alloc ?_ ?_ _ | with_reducible refine Below.setCell ?_ ?_ _ | with_reducible refine Below.drew ?_ | exact Below.refl _ _ | exact Nat.le_succ _ | exact Nat.le_refl _ | (simp; done) | (simp; omega))⟩
    | true =>
      cases ha : (a == 0) with
      | false =>
        have hr' : r = false := by rw [← hr]; simp [hq0, ha]
        subst hr'
        clear hr
        go_enter Tryz.func102, Tryz.ntmps102
        go_wp2_with (first
          | (go_at_call 120; (with_reducible refine Calls.mono (NU _ HB.out.2.1 _ rfl) ?_); rintro e w1 ⟨rfl, d1⟩; have D := HB.out.1.more d1; have e0 := (D.cell 0).1; have e1 := (D.cell 1).1; have e2 := (D.cell 2).1; have e3 := (D.cell 3).1; have e4 := (D.cell 4).1; have e5 := (D.cell 5).1; have e6 := (D.cell 6).1; have e7 := (D.cell 7).1; have f0 := (D.cell 0).2; have f1 := (D.cell 1).2; have f2 := (D.cell 2).2; have f3 := (D.cell 3).2; have f4 := (D.cell 4).2; have f5 := (D.cell 5).2; have f6 := (D.cell 6).2; have f7 := (D.cell 7).2; have bb := below_more HB.out.2.1 d1))
        go_ret
        exact ⟨rfl, by (repeat' first | exact bb | with_reducible refine Below.alloc ?_ ?_ _ | with_reducible refine Below.setCell ?_ ?_ _ | with_reducible refine Below.drew ?_ | exact Below.refl _ _ | exact Nat.le_succ _ | exact Nat.le_refl _ | (simp; done) | (simp; omega))⟩
      | true =>
        cases hb : (b == 0) with
        | false =>
          have hr' : r = false := by rw [← hr]; simp [hq0, ha, hb]
          subst hr'
          clear hr
          go_enter Tryz.func102, Tryz.ntmps102
          go_wp2_with (first
            | (go_at_call 120; (with_reducible refine Calls.mono (NU _ HB.out.2.1 _ rfl) ?_); rintro e w1 ⟨rfl, d1⟩; have D := HB.out.1.more d1; have e0 := (D.cell 0).1; have e1 := (D.cell 1).1; have e2 := (D.cell 2).1; have e3 := (D.cell 3).1; have e4 := (D.cell 4).1; have e5 := (D.cell 5).1; have e6 := (D.cell 6).1; have e7 := (D.cell 7).1; have f0 := (D.cell 0).2; have f1 := (D.cell 1).2; have f2 := (D.cell 2).2; have f3 := (D.cell 3).2; have f4 := (D.cell 4).2; have f5 := (D.cell 5).2; have f6 := (D.cell 6).2; have f7 := (D.cell 7).2; have bb := below_more HB.out.2.1 d1))
          go_ret
          exact ⟨rfl, by (repeat' first | exact bb | with_reducible refine Below.alloc ?_ ?_ _ | with_reducible refine Below.setCell ?_ ?_ _ | with_reducible refine Below.drew ?_ | exact Below.refl _ _ | exact Nat.le_succ _ | exact Nat.le_refl _ | (simp; done) | (simp; omega))⟩
        | true =>
          cases hx0 : (x == 0) with
          | false =>
            have hr' : r = false := by rw [← hr]; simp [hq0, ha, hb, hx0]
            subst hr'
            clear hr
            go_enter Tryz.func102, Tryz.ntmps102
            go_wp2_with (first
              | (go_at_call 120; (with_reducible refine Calls.mono (NU _ HB.out.2.1 _ rfl) ?_); rintro e w1 ⟨rfl, d1⟩; have D := HB.out.1.more d1; have e0 := (D.cell 0).1; have e1 := (D.cell 1).1; have e2 := (D.cell 2).1; have e3 := (D.cell 3).1; have e4 := (D.cell 4).1; have e5 := (D.cell 5).1; have e6 := (D.cell 6).1; have e7 := (D.cell 7).1; have f0 := (D.cell 0).2; have f1 := (D.cell 1).2; have f2 := (D.cell 2).2; have f3 := (D.cell 3).2; have f4 := (D.cell 4).2; have f5 := (D.cell 5).2; have f6 := (D.cell 6).2; have f7 := (D.cell 7).2; have bb := below_more HB.out.2.1 d1))
            go_ret
            exact ⟨rfl, by (repeat' first | exact bb | with_reducible refine Below.alloc ?_ ?_ _ | with_reducible refine Below.setCell ?_ ?_ _ | with_reducible refine Below.drew ?_ | exact Below.refl _ _ | exact Nat.le_succ _ | exact Nat.le_refl _ | (simp; done) | (simp; omega))⟩
          | true =>
            cases hm0 : (nm.toList == []) with
            | false =>
              have hr' : r = false := by rw [← hr]; simp [hq0, ha, hb, hx0, hm0]
              subst hr'
              clear hr
              go_enter Tryz.func102, Tryz.ntmps102
              go_wp2_with (first
                | (go_at_call 120; (with_reducible refine Calls.mono (NU _ HB.out.2.1 _ rfl) ?_); rintro e w1 ⟨rfl, d1⟩; have D := HB.out.1.more d1; have e0 := (D.cell 0).1; have e1 := (D.cell 1).1; have e2 := (D.cell 2).1; have e3 := (D.cell 3).1; have e4 := (D.cell 4).1; have e5 := (D.cell 5).1; have e6 := (D.cell 6).1; have e7 := (D.cell 7).1; have f0 := (D.cell 0).2; have f1 := (D.cell 1).2; have f2 := (D.cell 2).2; have f3 := (D.cell 3).2; have f4 := (D.cell 4).2; have f5 := (D.cell 5).2; have f6 := (D.cell 6).2; have f7 := (D.cell 7).2; have bb := below_more HB.out.2.1 d1))
              go_ret
              exact ⟨rfl, by (repeat' first | exact bb | with_reducible refine Below.alloc ?_ ?_ _ | with_reducible refine Below.setCell ?_ ?_ _ | with_reducible refine Below.drew ?_ | exact Below.refl _ _ | exact Nat.le_succ _ | exact Nat.le_refl _ | (simp; done) | (simp; omega))⟩
            | true =>
              have hr' : r = true := by rw [← hr]; simp [hq0, ha, hb, hx0, hm0]
              subst hr'
              clear hr
              go_enter Tryz.func102, Tryz.ntmps102
              go_wp2_with (first
                | (go_at_call 120; (with_reducible refine Calls.mono (NU _ HB.out.2.1 _ rfl) ?_); rintro e w1 ⟨rfl, d1⟩; have D := HB.out.1.more d1; have e0 := (D.cell 0).1; have e1 := (D.cell 1).1; have e2 := (D.cell 2).1; have e3 := (D.cell 3).1; have e4 := (D.cell 4).1; have e5 := (D.cell 5).1; have e6 := (D.cell 6).1; have e7 := (D.cell 7).1; have f0 := (D.cell 0).2; have f1 := (D.cell 1).2; have f2 := (D.cell 2).2; have f3 := (D.cell 3).2; have f4 := (D.cell 4).2; have f5 := (D.cell 5).2; have f6 := (D.cell 6).2; have f7 := (D.cell 7).2; have bb := below_more HB.out.2.1 d1)
                | (go_at_call 121; (with_reducible refine Calls.mono (NZ _) ?_); rintro e w2 ⟨rfl, d2⟩))
              go_ret
              exact ⟨rfl, by (repeat' first | exact bb | with_reducible refine below_more ?_ d2 | with_reducible refine Below.alloc ?_ ?_ _ | with_reducible refine Below.setCell ?_ ?_ _ | with_reducible refine Below.drew ?_ | exact Below.refl _ _ | exact Nat.le_succ _ | exact Nat.le_refl _ | (simp; done) | (simp; omega))⟩
  by_cases k2 : k = 2
  · subst k2
    have HB2 := HB.out.2.1
    rw [if_neg (by decide), if_neg (by decide), if_pos (by decide)] at hr
    cases hx0 : (x == 0) with
    | false =>
      have hr' : r = false := by rw [← hr]; simp [hx0]
      subst hr'
      clear hr
      go_enter Tryz.func102, Tryz.ntmps102
      go_wp2
      go_ret
      exact ⟨rfl, by (repeat' first | exact HB2 | with_reducible refine Below.alloc ?_ ?_ _ | with_reducible refine Below.setCell ?_ ?_ _ | with_reducible refine Below.drew ?_ | exact Below.refl _ _ | exact Nat.le_succ _ | exact Nat.le_refl _ | (simp; done) | (simp; omega))⟩
    | true =>
      cases hm0 : (nm.toList == []) with
      | false =>
        have hr' : r = false := by rw [← hr]; simp [hx0, hm0]
        subst hr'
        clear hr
        go_enter Tryz.func102, Tryz.ntmps102
        go_wp2
        go_ret
        exact ⟨rfl, by (repeat' first | exact HB2 | with_reducible refine Below.alloc ?_ ?_ _ | with_reducible refine Below.setCell ?_ ?_ _ | with_reducible refine Below.drew ?_ | exact Below.refl _ _ | exact Nat.le_succ _ | exact Nat.le_refl _ | (simp; done) | (simp; omega))⟩
      | true =>
        have hr' : r = nb := by rw [← hr]; simp [hx0, hm0]
        subst hr'
        clear hr
        go_enter Tryz.func102, Tryz.ntmps102
        go_wp2_with (first
          | (go_at_call 121; (with_reducible refine Calls.mono (NO _ _ rfl) ?_); rintro e w2 ⟨rfl, d2⟩))
        go_ret
        exact ⟨rfl, by (repeat' first | exact HB2 | with_reducible refine below_more ?_ d2 | with_reducible refine Below.alloc ?_ ?_ _ | with_reducible refine Below.setCell ?_ ?_ _ | with_reducible refine Below.drew ?_ | exact Below.refl _ _ | exact Nat.le_succ _ | exact Nat.le_refl _ | (simp; done) | (simp; omega))⟩
  by_cases k3 : k = 3
  · subst k3
    have HB2 := HB.out.2.1
    rw [if_neg (by decide), if_neg (by decide), if_pos (by decide)] at hr
    cases hx0 : (x == 0) with
    | false =>
      have hr' : r = false := by rw [← hr]; simp [hx0]
      subst hr'
      clear hr
      go_enter Tryz.func102, Tryz.ntmps102
      go_wp2
      go_ret
      exact ⟨rfl, by (repeat' first | exact HB2 | with_reducible refine Below.alloc ?_ ?_ _ | with_reducible refine Below.setCell ?_ ?_ _ | with_reducible refine Below.drew ?_ | exact Below.refl _ _ | exact Nat.le_succ _ | exact Nat.le_refl _ | (simp; done) | (simp; omega))⟩
    | true =>
      cases hm0 : (nm.toList == []) with
      | false =>
        have hr' : r = false := by rw [← hr]; simp [hx0, hm0]
        subst hr'
        clear hr
        go_enter Tryz.func102, Tryz.ntmps102
        go_wp2
        go_ret
        exact ⟨rfl, by (repeat' first | exact HB2 | with_reducible refine Below.alloc ?_ ?_ _ | with_reducible refine Below.setCell ?_ ?_ _ | with_reducible refine Below.drew ?_ | exact Below.refl _ _ | exact Nat.le_succ _ | exact Nat.le_refl _ | (simp; done) | (simp; omega))⟩
      | true =>
        have hr' : r = nb := by rw [← hr]; simp [hx0, hm0]
        subst hr'
        clear hr
        go_enter Tryz.func102, Tryz.ntmps102
        go_wp2_with (first
          | (go_at_call 121; (with_reducible refine Calls.mono (NO _ _ rfl) ?_); rintro e w2 ⟨rfl, d2⟩))
        go_ret
        exact ⟨rfl, by (repeat' first | exact HB2 | with_reducible refine below_more ?_ d2 | with_reducible refine Below.alloc ?_ ?_ _ | with_reducible refine Below.setCell ?_ ?_ _ | with_reducible refine Below.drew ?_ | exact Below.refl _ _ | exact Nat.le_succ _ | exact Nat.le_refl _ | (simp; done) | (simp; omega))⟩
  by_cases k4 : k = 4
  · subst k4
    have HB2 := HB.out.2.1
    rw [if_neg (by decide), if_neg (by decide), if_pos (by decide)] at hr
    cases hx0 : (x == 0) with
    | false =>
      have hr' : r = false := by rw [← hr]; simp [hx0]
      subst hr'
      clear hr
      go_enter Tryz.func102, Tryz.ntmps102
      go_wp2
      go_ret
      exact ⟨rfl, by (repeat' first | exact HB2 | with_reducible refine Below.alloc ?_ ?_ _ | with_reducible refine Below.setCell ?_ ?_ _ | with_reducible refine Below.drew ?_ | exact Below.refl _ _ | exact Nat.le_succ _ | exact Nat.le_refl _ | (simp; done) | (simp; omega))⟩
    | true =>
      cases hm0 : (nm.toList == []) with
      | false =>
        have hr' : r = false := by rw [← hr]; simp [hx0, hm0]
        subst hr'
        clear hr
        go_enter Tryz.func102, Tryz.ntmps102
        go_wp2
        go_ret
        exact ⟨rfl, by (repeat' first | exact HB2 | with_reducible refine Below.alloc ?_ ?_ _ | with_reducible refine Below.setCell ?_ ?_ _ | with_reducible refine Below.drew ?_ | exact Below.refl _ _ | exact Nat.le_succ _ | exact Nat.le_refl _ | (simp; done) | (simp; omega))⟩
      | true =>
        have hr' : r = nb := by rw [← hr]; simp [hx0, hm0]
        subst hr'
        clear hr
        go_enter Tryz.func102, Tryz.ntmps102
        go_wp2_with (first
          | (go_at_call 121; (with_reducible refine Calls.mono (NO _ _ rfl) ?_); rintro e w2 ⟨rfl, d2⟩))
        go_ret
        exact ⟨rfl, by (repeat' first | exact HB2 | with_reducible refine below_more ?_ d2 | with_reducible refine Below.alloc ?_ ?_ _ | with_reducible refine Below.setCell ?_ ?_ _ | with_reducible refine Below.drew ?_ | exact Below.refl _ _ | exact Nat.le_succ _ | exact Nat.le_refl _ | (simp; done) | (simp; omega))⟩
  by_cases k5 : k = 5
  · subst k5
    have HB2 := HB.out.2.1
    rw [if_neg (by decide), if_neg (by decide), if_pos (by decide)] at hr
    cases hx0 : (x == 0) with
    | false =>
      have hr' : r = false := by rw [← hr]; simp [hx0]
      subst hr'
      clear hr
      go_enter Tryz.func102, Tryz.ntmps102
      go_wp2
      go_ret
      exact ⟨rfl, by (repeat' first | exact HB2 | with_reducible refine Below.alloc ?_ ?_ _ | with_reducible refine Below.setCell ?_ ?_ _ | with_reducible refine Below.drew ?_ | exact Below.refl _ _ | exact Nat.le_succ _ | exact Nat.le_refl _ | (simp; done) | (simp; omega))⟩
    | true =>
      cases hm0 : (nm.toList == []) with
      | false =>
        have hr' : r = false := by rw [← hr]; simp [hx0, hm0]
        subst hr'
        clear hr
        go_enter Tryz.func102, Tryz.ntmps102
        go_wp2
        go_ret
        exact ⟨rfl, by (repeat' first | exact HB2 | with_reducible refine Below.alloc ?_ ?_ _ | with_reducible refine Below.setCell ?_ ?_ _ | with_reducible refine Below.drew ?_ | exact Below.refl _ _ | exact Nat.le_succ _ | exact Nat.le_refl _ | (simp; done) | (simp; omega))⟩
      | true =>
        have hr' : r = nb := by rw [← hr]; simp [hx0, hm0]
        subst hr'
        clear hr
        go_enter Tryz.func102, Tryz.ntmps102
        go_wp2_with (first
          | (go_at_call 121; (with_reducible refine Calls.mono (NO _ _ rfl) ?_); rintro e w2 ⟨rfl, d2⟩))
        go_ret
        exact ⟨rfl, by (repeat' first | exact HB2 | with_reducible refine below_more ?_ d2 | with_reducible refine Below.alloc ?_ ?_ _ | with_reducible refine Below.setCell ?_ ?_ _ | with_reducible refine Below.drew ?_ | exact Below.refl _ _ | exact Nat.le_succ _ | exact Nat.le_refl _ | (simp; done) | (simp; omega))⟩
  by_cases k6 : k = 6
  · subst k6
    have HB2 := HB.out.2.1
    rw [if_neg (by decide), if_neg (by decide), if_neg (by decide), if_pos (by decide)] at hr
    cases hb : (b == 0) with
    | false =>
      have hr' : r = false := by rw [← hr]; simp [hb]
      subst hr'
      clear hr
      go_enter Tryz.func102, Tryz.ntmps102
      go_wp2
      go_ret
      exact ⟨rfl, by (repeat' first | exact HB2 | with_reducible refine Below.alloc ?_ ?_ _ | with_reducible refine Below.setCell ?_ ?_ _ | with_reducible refine Below.drew ?_ | exact Below.refl _ _ | exact Nat.le_succ _ | exact Nat.le_refl _ | (simp; done) | (simp; omega))⟩
    | true =>
      cases hx0 : (x == 0) with
      | false =>
        have hr' : r = false := by rw [← hr]; simp [hb, hx0]
        subst hr'
        clear hr
        go_enter Tryz.func102, Tryz.ntmps102
        go_wp2
        go_ret
        exact ⟨rfl, by (repeat' first | exact HB2 | with_reducible refine Below.alloc ?_ ?_ _ | with_reducible refine Below.setCell ?_ ?_ _ | with_reducible refine Below.drew ?_ | exact Below.refl _ _ | exact Nat.le_succ _ | exact Nat.le_refl _ | (simp; done) | (simp; omega))⟩
      | true =>
        cases hm0 : (nm.toList == []) with
        | false =>
          have hr' : r = false := by rw [← hr]; simp [hb, hx0, hm0]
          subst hr'
          clear hr
          go_enter Tryz.func102, Tryz.ntmps102
          go_wp2
          go_ret
          exact ⟨rfl, by (repeat' first | exact HB2 | with_reducible refine Below.alloc ?_ ?_ _ | with_reducible refine Below.setCell ?_ ?_ _ | with_reducible refine Below.drew ?_ | exact Below.refl _ _ | exact Nat.le_succ _ | exact Nat.le_refl _ | (simp; done) | (simp; omega))⟩
        | true =>
          have hr' : r = nb := by rw [← hr]; simp [hb, hx0, hm0]
          subst hr'
          clear hr
          go_enter Tryz.func102, Tryz.ntmps102
          go_wp2_with (first
            | (go_at_call 121; (with_reducible refine Calls.mono (NO _ _ rfl) ?_); rintro e w2 ⟨rfl, d2⟩))
          go_ret
          exact ⟨rfl, by (repeat' first | exact HB2 | with_reducible refine below_more ?_ d2 | with_reducible refine Below.alloc ?_ ?_ _ | with_reducible refine Below.setCell ?_ ?_ _ | with_reducible refine Below.drew ?_ | exact Below.refl _ _ | exact Nat.le_succ _ | exact Nat.le_refl _ | (simp; done) | (simp; omega))⟩
  by_cases k7 : k = 7
  · subst k7
    have HB2 := HB.out.2.1
    rw [if_neg (by decide), if_neg (by decide), if_neg (by decide), if_neg (by decide), if_pos (by decide)] at hr
    by_cases p1 : -20 ≤ x
    · by_cases p2 : x ≤ 20
      · have hp0 : decide (-20 ≤ x ∧ x ≤ 20) = true := decide_eq_true ⟨p1, p2⟩
        rw [hp0] at hr
        clear hp0
        cases hb : (b == 0) with
        | false =>
          have hr' : r = false := by rw [← hr]; simp [hb]
          subst hr'
          clear hr
          go_enter Tryz.func102, Tryz.ntmps102
          go_wp2
          go_region
          all_goals go_wp2
          all_goals go_ret
          all_goals exact ⟨rfl, by (repeat' first | exact HB2 | with_reducible refine Below.alloc ?_ ?_ _ | with_reducible refine Below.setCell ?_ ?_ _ | with_reducible refine Below.drew ?_ | exact Below.refl _ _ | exact Nat.le_succ _ | exact Nat.le_refl _ | (simp; done) | (simp; omega))⟩
        | true =>
          cases hm0 : (nm.toList == []) with
          | false =>
            have hr' : r = false := by rw [← hr]; simp [hb, hm0]
            subst hr'
            clear hr
            go_enter Tryz.func102, Tryz.ntmps102
            go_wp2
            go_region
            all_goals go_wp2
            all_goals go_ret
            all_goals exact ⟨rfl, by (repeat' first | exact HB2 | with_reducible refine Below.alloc ?_ ?_ _ | with_reducible refine Below.setCell ?_ ?_ _ | with_reducible refine Below.drew ?_ | exact Below.refl _ _ | exact Nat.le_succ _ | exact Nat.le_refl _ | (simp; done) | (simp; omega))⟩
          | true =>
            have hr' : r = nb := by rw [← hr]; simp [hb, hm0]
            subst hr'
            clear hr
            go_enter Tryz.func102, Tryz.ntmps102
            go_wp2
            go_region
            all_goals go_wp2_with (first
              | (go_at_call 121; (with_reducible refine Calls.mono (NO _ _ rfl) ?_); rintro e w2 ⟨rfl, d2⟩))
            all_goals go_ret
            all_goals exact ⟨rfl, by (repeat' first | exact HB2 | with_reducible refine below_more ?_ d2 | with_reducible refine Below.alloc ?_ ?_ _ | with_reducible refine Below.setCell ?_ ?_ _ | with_reducible refine Below.drew ?_ | exact Below.refl _ _ | exact Nat.le_succ _ | exact Nat.le_refl _ | (simp; done) | (simp; omega))⟩
      · have hp0 : decide (-20 ≤ x ∧ x ≤ 20) = false := decide_eq_false (fun q => p2 q.2)
        have hr' : r = false := by rw [← hr, hp0]; simp
        subst hr'
        clear hr hp0
        go_enter Tryz.func102, Tryz.ntmps102
        go_wp2
        go_region
        all_goals go_wp2
        all_goals go_ret
        all_goals exact ⟨rfl, by (repeat' first | exact HB2 | with_reducible refine Below.alloc ?_ ?_ _ | with_reducible refine Below.setCell ?_ ?_ _ | with_reducible refine Below.drew ?_ | exact Below.refl _ _ | exact Nat.le_succ _ | exact Nat.le_refl _ | (simp; done) | (simp; omega))⟩
    · have hp0 : decide (-20 ≤ x ∧ x ≤ 20) = false := decide_eq_false (fun q => p1 q.1)
      have hr' : r = false := by rw [← hr, hp0]; simp
      subst hr'
      clear hr hp0
      have p3 : decide (-20 ≤ x) = false := decide_eq_false p1
      have p4 : x < -20 := by omega
      go_enter Tryz.func102, Tryz.ntmps102
      go_wp2
      go_region
      all_goals go_wp2
      all_goals go_ret
      all_goals exact ⟨rfl, by (repeat' first | exact HB2 | with_reducible refine Below.alloc ?_ ?_ _ | with_reducible refine Below.setCell ?_ ?_ _ | with_reducible refine Below.drew ?_ | exact Below.refl _ _ | exact Nat.le_succ _ | exact Nat.le_refl _ | (simp; done) | (simp; omega))⟩
  have hr' : r = false := by
    rw [← hr, if_neg k0, if_neg k1, if_neg (by omega), if_neg k6, if_neg k7]
  subst hr'
  have HB2 := HB.out.2.1
  have g0 : (k == 0) = false := by rw [beq_eq_false_iff_ne]; exact k0
  have g1 : (k == 1) = false := by rw [beq_eq_false_iff_ne]; exact k1
  have g2 : (k == 2) = false := by rw [beq_eq_false_iff_ne]; exact k2
  have g3 : (k == 3) = false := by rw [beq_eq_false_iff_ne]; exact k3
  have g4 : (k == 4) = false := by rw [beq_eq_false_iff_ne]; exact k4
  have g5 : (k == 5) = false := by rw [beq_eq_false_iff_ne]; exact k5
  have g6 : (k == 6) = false := by rw [beq_eq_false_iff_ne]; exact k6
  have g7 : (k == 7) = false := by rw [beq_eq_false_iff_ne]; exact k7
  clear hr k0 k1 k2 k3 k4 k5 k6 k7
  go_enter Tryz.func102, Tryz.ntmps102
  go_wp2
  go_ret
  exact ⟨rfl, by (repeat' first | exact HB2 | with_reducible refine Below.alloc ?_ ?_ _ | with_reducible refine Below.setCell ?_ ?_ _ | with_reducible refine Below.drew ?_ | exact Below.refl _ _ | exact Nat.le_succ _ | exact Nat.le_refl _ | (simp; done) | (simp; omega))⟩
end Go.Proofs.YtbcfplaalepnbaaGreatDoor
namespace Go.Proofs.YtbcfplaalepnbaaGreatDoor
open Go.RowKit Go.Lib
def sgStep (ms : List Nw) (i : Nat) (lo : List Int) : Option (List Int) := match ms[i]? with
  | none => none
  | some m => if fillR m = true ∧ (ptsI m.kind m.a m.b).length ≤ lo.length ∧ lo.drop (lo.length - (ptsI m.kind m.a m.b).length) = ptsI m.kind m.a m.b then some (lo.take (lo.length - (ptsI m.kind m.a m.b).length) ++ [(i : Int)]) else none
def sgF (ms : List Nw) (j : Nat) : Nat → Nat → List Int → Bool
  | 0, _, lo => decide (lo.length = 1)
  | f + 1, i, lo => if i < j then (match sgStep ms i lo with | none => false | some lo' => sgF ms j f (i + 1) lo') else decide (lo.length = 1)
def sgB (ms : List Nw) (j i : Nat) : Bool := sgF ms j (j + 1) i []
theorem IsN.at {w : World} {g o n : Nat} {ms : List Mn} (h : IsN w (some ⟨g, o, none⟩) n ms) {i : Nat} {m : Mn} (hm : ms[i]? = some m) (v : World) (b : Below w.heap.size w v) : v.cell? ⟨g, o + i * 8, none⟩ = some (.int .i64 m.1.kind) ∧ v.cell? ⟨g, o + i * 8 + 1, none⟩ = some (.int .i64 m.1.a) ∧ v.cell? ⟨g, o + i * 8 + 2, none⟩ = some (.int .i64 m.1.b) ∧ v.cell? ⟨g, o + i * 8 + 3, none⟩ = some (.int .i64 m.1.exp) ∧
    v.cell? ⟨g, o + i * 8 + 4, none⟩ = some (.string m.1.name) ∧ v.cell? ⟨g, o + i * 8 + 5, none⟩ = some (.bool m.1.neg) ∧ v.cell? ⟨g, o + i * 8 + 6, none⟩ = some m.2.1 ∧ v.cell? ⟨g, o + i * 8 + 7, none⟩ = some m.2.2 := by
  obtain ⟨g', o', e, r⟩ := (h.below b).node hm
  injection e with e
  injection e with e1 e2
  subst e1; subst e2
  exact r
def NdR (w : World) (ms : List Mn) : Prop := ∀ m ∈ ms, (∃ x y, m.2.1 = .slice x m.1.xs.length y ∧ IsWords w (.slice x m.1.xs.length y) m.1.xs) ∧ (∃ x y, m.2.2 = .slice x m.1.ys.length y ∧ IsWords w (.slice x m.1.ys.length y) m.1.ys) ∧ Wd m.1.xs ∧ Wd m.1.ys ∧ m.1.xs.length ≤ 10000 ∧ m.1.ys.length ≤ 10000 ∧ m.1.name.size ≤ 1000000
theorem OwnC.nilC {W w : World} {la : Option Addr} {n lc : Nat} {cs : List Value} (h : OwnC 3 1 W w (.slice la n lc) n cs) : (la = none ∧ lc = 0 ∧ n = 0) ∨ ∃ g, la = some ⟨g, 0, none⟩ ∧ n ≤ lc := by
  rcases h.1.2 with ⟨e, h0⟩ | ⟨g, cap, cur, e, h1, hg, h2, -⟩
  · injection e with e1 e2 e3
    exact .inl ⟨e1, e3, h0⟩
  · injection e with e1 e2 e3
    exact .inr ⟨g, e1, by omega⟩
theorem IsI.below {w w' : World} {a : Option Addr} {n : Nat} {xs : List Int} (h : IsI w a n xs) (hb : Below w.heap.size w w') : IsI w' a n xs := by
  refine ⟨h.1, ?_⟩
  rcases h.2 with h0 | ⟨g, o, e, hc⟩
  · exact .inl h0
  · exact .inr ⟨g, o, e, fun j x hj => by rw [hb.cell (World.block_lt_of_cell? w _ (hc j x hj))]; exact hc j x hj⟩
theorem IsP.isI {B : Nat} {w w' : World} {pa : Option Addr} {P : List Int} (h : IsP B w pa P) (hb : Below w.heap.size w w') : IsI w' pa P.length P := by
  refine IsI.below (w := w) ⟨rfl, ?_⟩ hb
  rcases h with rfl | ⟨b, q1, q2, q3, q4⟩
  · exact .inl rfl
  · exact .inr ⟨b, 0, q1, fun j x hj => by rw [Nat.zero_add]; exact q4 j x hj⟩
set_option maxHeartbeats 64000000 in
theorem tree_single {w : World} {a : Option Addr} {n c : Nat} {ms : List Mn} (h : IsN w a n ms) (hR : NdR w ms) (hn : n ≤ 100000) (i : Nat) (hi : i ≤ n) (r : Bool) (hr : sgB (ms.map (·.1)) n i = r) :
    Calls Tryz.prog 70 #[.slice a n c, .int .i64 i] w fun e w' => e = .returned (.bool r) ∧ Below w.heap.size w w' := by
  have HH : Hid (IsN w a n ms ∧ NdR w ms ∧ n ≤ 100000 ∧ sgF (ms.map (·.1)) n (n + 1) i [] = r ∧ OwnC 3 1 w w (.slice none 0 0) 0 []) := ⟨h, hR, hn, hr, OwnC.nil (Below.refl _ _)⟩
  have hi' : Hid (i ≤ n) := hi
  clear h hR hn hr hi
  go_enter Tryz.func70, Tryz.ntmps70
  go_wp2
  go_loopg [5, 6] (n - i + 1) (fun g s5 s6 v => ∃ (t f : Nat) (la : Option Addr) (lc : Nat) (lo : List Int), s5 = .slice la lo.length lc ∧ s6 = .int .i64 t ∧ t ≤ n ∧ n - t + 1 ≤ g ∧ n - t < f ∧ OwnC 3 1 w v (.slice la lo.length lc) lo.length (lo.map (Value.int .i64)) ∧ sgF (ms.map (·.1)) n f t lo = r ∧ lo.length ≤ t)
  case atStart => exact ⟨i, n + 1, none, 0, [], rfl, rfl, hi'.out, Nat.le_refl _, by omega, HH.out.2.2.2.2, HH.out.2.2.2.1, Nat.zero_le _⟩
  case round =>
    obtain ⟨t, f, la, lc, lo, rfl, rfl, htn, hg, hf, o, hr, hlt⟩ := hrel
    obtain ⟨hN, hR, hn, -, -⟩ := HH.out
    have bw := o.below
    cases f with
    | zero => omega
    | succ f =>
      rcases Nat.lt_or_ge t n with ht | ht
      · have p1 : (t : Int) < n := by omega
        obtain ⟨m, hm⟩ : ∃ m, ms[t]? = some m := ⟨_, List.getElem?_eq_getElem (by have := hN.1; omega)⟩
        obtain ⟨⟨ux, uy, hu, hu'⟩, ⟨vx, vy, hv, hv'⟩, hwx, hwy, hlx, hly, hnm⟩ := hR m (List.mem_of_getElem? hm)
        obtain ⟨gm, om, rfl, -⟩ := hN.node hm
        have CE := fun (v : World) (b : Below w.heap.size w v) => hN.at hm v b
        simp only [hu, hv] at CE
        obtain ⟨n0, n1, n2, n3, n4, n5, n6, n7⟩ := CE wr bw
        have hms : (ms.map (·.1))[t]? = some m.1 := by rw [List.getElem?_map, hm]; rfl
        have PT := fun (v : World) => tree_parts m.1.kind m.1.a m.1.b m.1.exp m.1.name m.1.neg ux m.1.xs.length uy vx m.1.ys.length vy v
        have FL : ∀ (v : World), Below w.heap.size w v → ∀ q, fillR m.1 = q → Calls Tryz.prog 102 #[.agg #[.int .i64 m.1.kind, .int .i64 m.1.a, .int .i64 m.1.b, .int .i64 m.1.exp, .string m.1.name, .bool m.1.neg, .slice ux m.1.xs.length uy, .slice vx m.1.ys.length vy]] v fun e w' => e = .returned (.bool q) ∧ Below v.heap.size v w' := fun v b q hq => tree_filled (hu'.below b) hwx (hv'.below b) hwy hlx hly hnm q hq
        unfold sgF at hr
        rw [if_pos ht] at hr
        unfold sgStep at hr
        rw [hms] at hr
        dsimp only at hr
        have hP2 := pts_len m.1.kind m.1.a m.1.b
        generalize ptsI m.1.kind m.1.a m.1.b = P at *
        generalize hfl : fillR m.1 = fb at *
        have FL' := fun (v : World) (b : Below w.heap.size w v) => FL v b fb rfl
        clear FL
        generalize m.1.kind = y0 at *
        generalize m.1.a = y1 at *
        generalize m.1.b = y2 at *
        generalize m.1.exp = y3 at *
        generalize m.1.name = y4 at *
        generalize m.1.neg = y5 at *
        generalize m.1.xs.length = y6 at *
        generalize m.1.ys.length = y7 at *
        have g5 : gm < wr.heap.size := World.block_lt_of_cell? wr _ n0
        clear hm hu hv hu' hv' hwx hwy hlx hly hnm hms hfl hR hN
        by_cases hlen : lo.length < P.length
        · -- too few wait
          have hrf : r = false := by rw [← hr, if_neg (fun q => by have := q.2.1; omega)]
          subst hrf
          have w0 : wrap64 ((lo.length : Int) - (P.length : Int)) = (lo.length : Int) - (P.length : Int) := by unfold wrap64; omega
          have k0 : (lo.length : Int) - (P.length : Int) < 0 := by omega
          have k0' : (lo.length : Int) < (P.length : Int) := by omega
          have HB : Hid (Below w.heap.size w wr) := bw
          generalize lo.length = N at *
          generalize P.length = PN at *
          clear hr htn hg hf o hlt hlen hn HH hi' hP2
          cases fb with
          | false =>
            go_wp2_with (first
              | (go_at_call 71; (with_reducible refine Calls.mono (PT _) ?_); rintro e w1 ⟨pa, pc, rfl, hp, d1⟩; have b1 := below_more bw d1; obtain ⟨n0, n1, n2, n3, n4, n5, n6, n7⟩ := CE _ b1)
              | (go_at_call 102; (with_reducible refine Calls.mono (FL' _ b1) ?_); rintro e w2 ⟨rfl, d2⟩; have b2 := below_more b1 d2))
            go_ret
            exact ⟨rfl, b2⟩
          | true =>
            go_wp2_with (first
              | (go_at_call 71; (with_reducible refine Calls.mono (PT _) ?_); rintro e w1 ⟨pa, pc, rfl, hp, d1⟩; have b1 := below_more bw d1; obtain ⟨n0, n1, n2, n3, n4, n5, n6, n7⟩ := CE _ b1)
              | (go_at_call 102; (with_reducible refine Calls.mono (FL' _ b1) ?_); rintro e w2 ⟨rfl, d2⟩; have b2 := below_more b1 d2))
            go_ret
            exact ⟨rfl, b2⟩
        · obtain ⟨R, hRl⟩ : ∃ R, lo.length = R + P.length := ⟨lo.length - P.length, by omega⟩
          have hsub : lo.length - P.length = R := by omega
          rw [hsub] at hr
          have HW : Hid (wrap64 ((lo.length : Int) - (P.length : Int)) = (R : Int)) := by show wrap64 _ = _; unfold wrap64; omega
          have k0 : ¬ (R : Int) < 0 := by omega
          cases fb with
          | false =>
            have w0 := HW.out
            have hrf : r = false := by rw [← hr, if_neg (fun q => absurd q.1 (by simp))]
            subst hrf
            generalize lo.length = N at *
            generalize P.length = PN at *
            clear hr htn hg hf o hlt hlen hn HH hi' hP2 hRl hsub
            go_wp2_with (first
              | (go_at_call 71; (with_reducible refine Calls.mono (PT _) ?_); rintro e w1 ⟨pa, pc, rfl, hp, d1⟩; have b1 := below_more bw d1; obtain ⟨n0, n1, n2, n3, n4, n5, n6, n7⟩ := CE _ b1)
              | (go_at_call 102; (with_reducible refine Calls.mono (FL' _ b1) ?_); rintro e w2 ⟨rfl, d2⟩; have b2 := below_more b1 d2))
            go_ret
            exact ⟨rfl, b2⟩
          | true =>
            have hR0 : R ≤ lo.length := by omega
            have hcut := o.cut (m := R) hR0
            have OC : Hid (OwnC 3 1 w wr (.slice la R lc) R ((lo.take R).map (Value.int .i64))) := by
              have : ((lo.map (Value.int .i64)).take (R * 1)) = (lo.take R).map (Value.int .i64) := by rw [Nat.mul_one, List.map_take]
              rw [← this]; exact hcut
            have HT : Hid (wrap64 ((t : Int) + 1) = (t : Int) + 1) := wrap_smalls (by omega) (by omega)
            have m1 : R + 1 ≤ maxLen := by unfold maxLen; omega
            have m2 : (R + 1) * 8 ≤ 140737488355328 := by omega
            have HL : Hid ((lo.take R ++ [(t : Int)]).length = R + 1) := by show _ = _; rw [List.length_append, List.length_take]; show min R lo.length + 1 = _; omega
            have hwR : Hid (wrap64 (R : Int) = R) := by show wrap64 _ = _; unfold wrap64; omega
            by_cases hE : lo.drop R = P
            · rw [if_pos ⟨rfl, by omega, hE⟩] at hr
              have HQ : Hid (sgF (ms.map (·.1)) n f (t + 1) (lo.take R ++ [(t : Int)]) = r ∧ t + 1 ≤ n ∧ n - (t + 1) < f ∧ R + 1 ≤ t + 1 ∧ n - (t + 1) + 1 < gk) := ⟨hr, by omega, by omega, by omega, by omega⟩
              rcases o.nilC with ⟨rfl, rfl, h0⟩ | ⟨g, rfl, hcap⟩
              · have hP0 : P = [] := List.eq_nil_of_length_eq_zero (by omega)
                subst hP0
                obtain rfl : R = 0 := by omega
                have EQ := fun (v : World) (a' b' : Option Addr) (c' d' : Nat) => eq_ints (w := v) (a := a') (b := b') (n := 0) (c := c') (m := 0) (d := d') (xs := []) (ys := []) ⟨rfl, .inl rfl⟩ ⟨rfl, .inl rfl⟩ (by decide) true (by decide)
                rw [show (([] : List Int).length) = 0 from rfl] at *
                rw [h0] at HW
                rw [h0]
                clear hr hP2 hE hR0 hcut hsub hlen hlt hn hf hg htn HH hi' o
                have w0 := HW.out
                have w1t := HT.out
                go_wp2_with (first
                  | (go_at_call 71; (with_reducible refine Calls.mono (PT _) ?_); rintro e w1 ⟨pa, pc, rfl, hp, d1⟩; have b1 := below_more bw d1; obtain ⟨n0, n1, n2, n3, n4, n5, n6, n7⟩ := CE _ b1)
                  | (go_at_call 102; (with_reducible refine Calls.mono (FL' _ b1) ?_); rintro e w2 ⟨rfl, d2⟩; have b2 := below_more b1 d2; have b12 := below_more d1 d2)
                  | (go_at_call 103; (with_reducible refine Calls.mono (EQ _ _ _ _ _) ?_); rintro e w3 ⟨rfl, d3⟩; have b3 := below_more b2 d3; have dd := below_more b12 d3)
                  | (at_builtin; refine wpl_append_c (t := 37) (e := 3) Tryz.underlying37 infoInt rfl (by decide) (.tmp 46) (.tmp 48) rfl rfl w _ _ 0 _ (some ⟨w3.heap.size, 0, none⟩) 1 1 [.int .i64 t] rfl rfl ((OC.out.more dd).alloc _) (BoxC.new w3 #[.int .i64 t] 3).isc (by simp [Value.oneCell']) (by simp) m1 m2 ?_; intro a6 c6 w6 _ o6 g6))
                obtain ⟨q1, q2, q3, q4, q5⟩ := HQ.out
                clear w0
                have hl' := HL.out
                go_roundg (n - (t + 1) + 1)
                case measure => exact q5
                case rel => exact ⟨t + 1, f, a6, c6, lo.take 0 ++ [(t : Int)], by rw [hl'], by first | rfl | (rw [w1t]; rfl), q2, Nat.le_refl _, q3, by rw [hl', List.map_append]; exact o6, q1, by rw [hl']; exact q4⟩
              · by_cases hP0 : P = []
                · subst hP0
                  have EQ := fun (v : World) (a' b' : Option Addr) (c' d' : Nat) => eq_ints (w := v) (a := a') (b := b') (n := 0) (c := c') (m := 0) (d := d') (xs := []) (ys := []) ⟨rfl, .inl rfl⟩ ⟨rfl, .inl rfl⟩ (by decide) true (by decide)
                  have hlR : lo.length = R := by rw [hRl]; rfl
                  have k1 : R ≤ lc := by omega
                  have k2 : (R : Int) ≤ (lc : Int) := by omega
                  have k3 : (0 : Int) ≤ (R : Int) := by omega
                  rw [show (([] : List Int).length) = 0 from rfl] at *
                  rw [hlR] at HW
                  rw [hlR]
                  have w0R := hwR.out
                  by_cases hcc : lc - R = 0
                  · clear hr hP2 hE hR0 hcut hsub hlen hlt hn hf hg htn HH hi' o
                    have w0 := HW.out
                    have w1t := HT.out
                    go_wp2_with (first
                      | (go_at_call 71; (with_reducible refine Calls.mono (PT _) ?_); rintro e w1 ⟨pa, pc, rfl, hp, d1⟩; have b1 := below_more bw d1; obtain ⟨n0, n1, n2, n3, n4, n5, n6, n7⟩ := CE _ b1)
                      | (go_at_call 102; (with_reducible refine Calls.mono (FL' _ b1) ?_); rintro e w2 ⟨rfl, d2⟩; have b2 := below_more b1 d2; have b12 := below_more d1 d2)
                      | (go_at_call 103; (with_reducible refine Calls.mono (EQ _ _ _ _ _) ?_); rintro e w3 ⟨rfl, d3⟩; have b3 := below_more b2 d3; have dd := below_more b12 d3)
                      | (at_builtin; refine wpl_append_c (t := 37) (e := 3) Tryz.underlying37 infoInt rfl (by decide) (.tmp 46) (.tmp 48) rfl rfl w _ _ R _ (some ⟨w3.heap.size, 0, none⟩) 1 1 [.int .i64 t] rfl rfl ((OC.out.more dd).alloc _) (BoxC.new w3 #[.int .i64 t] 3).isc (by simp [Value.oneCell']) (by simp) m1 m2 ?_; intro a6 c6 w6 _ o6 g6))
                    all_goals
                      obtain ⟨q1, q2, q3, q4, q5⟩ := HQ.out
                      clear w0
                      have hl' := HL.out
                      go_roundg (n - (t + 1) + 1)
                      case measure => exact q5
                      case rel => exact ⟨t + 1, f, a6, c6, lo.take R ++ [(t : Int)], by rw [hl'], by first | rfl | (rw [w1t]; rfl), q2, Nat.le_refl _, q3, by rw [hl', List.map_append]; exact o6, q1, by rw [hl']; exact q4⟩
                  · clear hr hP2 hE hR0 hcut hsub hlen hlt hn hf hg htn HH hi' o
                    have w0 := HW.out
                    have w1t := HT.out
                    go_wp2_with (first
                      | (go_at_call 71; (with_reducible refine Calls.mono (PT _) ?_); rintro e w1 ⟨pa, pc, rfl, hp, d1⟩; have b1 := below_more bw d1; obtain ⟨n0, n1, n2, n3, n4, n5, n6, n7⟩ := CE _ b1)
                      | (go_at_call 102; (with_reducible refine Calls.mono (FL' _ b1) ?_); rintro e w2 ⟨rfl, d2⟩; have b2 := below_more b1 d2; have b12 := below_more d1 d2)
                      | (go_at_call 103; (with_reducible refine Calls.mono (EQ _ _ _ _ _) ?_); rintro e w3 ⟨rfl, d3⟩; have b3 := below_more b2 d3; have dd := below_more b12 d3)
                      | (at_builtin; refine wpl_append_c (t := 37) (e := 3) Tryz.underlying37 infoInt rfl (by decide) (.tmp 46) (.tmp 48) rfl rfl w _ _ R _ (some ⟨w3.heap.size, 0, none⟩) 1 1 [.int .i64 t] rfl rfl ((OC.out.more dd).alloc _) (BoxC.new w3 #[.int .i64 t] 3).isc (by simp [Value.oneCell']) (by simp) m1 m2 ?_; intro a6 c6 w6 _ o6 g6))
                    obtain ⟨q1, q2, q3, q4, q5⟩ := HQ.out
                    clear w0
                    have hl' := HL.out
                    go_roundg (n - (t + 1) + 1)
                    case measure => exact q5
                    case rel => exact ⟨t + 1, f, a6, c6, lo.take R ++ [(t : Int)], by rw [hl'], by first | rfl | (rw [w1t]; rfl), q2, Nat.le_refl _, q3, by rw [hl', List.map_append]; exact o6, q1, by rw [hl']; exact q4⟩
                · have hPN : 0 < P.length := List.length_pos_iff.2 hP0
                  have k1 : R ≤ lc := by omega
                  have k2 : (R : Int) ≤ (lc : Int) := by omega
                  have k3 : (0 : Int) ≤ (R : Int) := by omega
                  have hcc : lc - R ≠ 0 := by omega
                  have k4 : (R : Int) ≤ ((R + P.length : Nat) : Int) := by omega
                  have k5 : R ≤ R + P.length := by omega
                  have IW : IsI wr (some ⟨g, R, none⟩) P.length (lo.drop R) := ⟨by rw [List.length_drop]; omega, .inr ⟨g, R, rfl, fun j x hj => (o.at1 (k := R + j) (by rw [List.getElem?_map]; rw [List.getElem?_drop] at hj; rw [hj]; rfl)).1⟩⟩
                  have EQ := fun (v : World) (b : Below wr.heap.size wr v) (pa : Option Addr) (pc : Nat) (hp : IsI v pa P.length P) => eq_ints (c := lc - R) (d := pc) (IW.below b) hp (by omega) true (decide_eq_true hE)
                  rw [hRl] at HW
                  rw [hRl]
                  have w0R := hwR.out
                  clear hr hP2 hE hR0 hcut hsub hlen hlt hn hf hg htn HH hi' o
                  have w0 := HW.out
                  have w1t := HT.out
                  go_wp2_with (first
                    | (go_at_call 71; (with_reducible refine Calls.mono (PT _) ?_); rintro e w1 ⟨pa, pc, rfl, hp, d1⟩; have b1 := below_more bw d1; obtain ⟨n0, n1, n2, n3, n4, n5, n6, n7⟩ := CE _ b1)
                    | (go_at_call 102; (with_reducible refine Calls.mono (FL' _ b1) ?_); rintro e w2 ⟨rfl, d2⟩; have b2 := below_more b1 d2; have b12 := below_more d1 d2)
                    | (go_at_call 103; (with_reducible refine Calls.mono (EQ _ b12 _ _ (IsP.isI hp d2)) ?_); rintro e w3 ⟨rfl, d3⟩; have b3 := below_more b2 d3; have dd := below_more b12 d3)
                    | (at_builtin; refine wpl_append_c (t := 37) (e := 3) Tryz.underlying37 infoInt rfl (by decide) (.tmp 46) (.tmp 48) rfl rfl w _ _ R _ (some ⟨w3.heap.size, 0, none⟩) 1 1 [.int .i64 t] rfl rfl ((OC.out.more dd).alloc _) (BoxC.new w3 #[.int .i64 t] 3).isc (by simp [Value.oneCell']) (by simp) m1 m2 ?_; intro a6 c6 w6 _ o6 g6))
                  obtain ⟨q1, q2, q3, q4, q5⟩ := HQ.out
                  clear w0
                  have hl' := HL.out
                  go_roundg (n - (t + 1) + 1)
                  case measure => exact q5
                  case rel => exact ⟨t + 1, f, a6, c6, lo.take R ++ [(t : Int)], by rw [hl'], by first | rfl | (rw [w1t]; rfl), q2, Nat.le_refl _, q3, by rw [hl', List.map_append]; exact o6, q1, by rw [hl']; exact q4⟩
            · have hrf : r = false := by rw [← hr, if_neg (fun q => hE q.2.2)]
              subst hrf
              have hP0 : P ≠ [] := fun q => hE (by rw [q]; exact List.drop_eq_nil_of_le (by rw [hRl, q]; exact Nat.le_refl _))
              have hPN : 0 < P.length := List.length_pos_iff.2 hP0
              rcases o.nilC with ⟨rfl, rfl, h0⟩ | ⟨g, rfl, hcap⟩
              · exact absurd hPN (by omega)
              · have k1 : R ≤ lc := by omega
                have k2 : (R : Int) ≤ (lc : Int) := by omega
                have k3 : (0 : Int) ≤ (R : Int) := by omega
                have hcc : lc - R ≠ 0 := by omega
                have k4 : (R : Int) ≤ ((R + P.length : Nat) : Int) := by omega
                have k5 : R ≤ R + P.length := by omega
                have IW : IsI wr (some ⟨g, R, none⟩) P.length (lo.drop R) := ⟨by rw [List.length_drop]; omega, .inr ⟨g, R, rfl, fun j x hj => (o.at1 (k := R + j) (by rw [List.getElem?_map]; rw [List.getElem?_drop] at hj; rw [hj]; rfl)).1⟩⟩
                have EQ := fun (v : World) (b : Below wr.heap.size wr v) (pa : Option Addr) (pc : Nat) (hp : IsI v pa P.length P) => eq_ints (c := lc - R) (d := pc) (IW.below b) hp (by omega) false (decide_eq_false hE)
                rw [hRl] at HW
                rw [hRl]
                have w0R := hwR.out
                clear hr hP2 hE hR0 hcut hsub hlen hlt hn hf hg htn HH hi' o
                have w0 := HW.out
                go_wp2_with (first
                  | (go_at_call 71; (with_reducible refine Calls.mono (PT _) ?_); rintro e w1 ⟨pa, pc, rfl, hp, d1⟩; have b1 := below_more bw d1; obtain ⟨n0, n1, n2, n3, n4, n5, n6, n7⟩ := CE _ b1)
                  | (go_at_call 102; (with_reducible refine Calls.mono (FL' _ b1) ?_); rintro e w2 ⟨rfl, d2⟩; have b2 := below_more b1 d2; have b12 := below_more d1 d2)
                  | (go_at_call 103; (with_reducible refine Calls.mono (EQ _ b12 _ _ (IsP.isI hp d2)) ?_); rintro e w3 ⟨rfl, d3⟩; have b3 := below_more b2 d3; have dd := below_more b12 d3))
                go_ret
                exact ⟨rfl, b3⟩
      · have p1 : ¬ (t : Int) < n := by omega
        have hr' : decide (lo.length = 1) = r := by rw [← hr]; unfold sgF; rw [if_neg (by omega)]
        have e : ((lo.length : Int) == 1) = r := by
          rw [← hr']
          by_cases q : lo.length = 1
          · rw [q]; rfl
          · rw [decide_eq_false q, beq_eq_false_iff_ne]; omega
        have HB : Hid (Below w.heap.size w wr) := bw
        generalize lo.length = N at *
        clear htn hg hf o hr hlt hN hR hn ht hr' HH hi'
        go_wp2
        go_ret
        exact ⟨by rw [← e]; rfl, HB.out⟩
end Go.Proofs.YtbcfplaalepnbaaGreatDoor
namespace Go.Proofs.YtbcfplaalepnbaaGreatDoor
open Go.RowKit Go.Lib
def grF (ms : List Nw) : List (ByteArray × Int) → Int → Bool
  | [], fr => decide (fr = ms.length)
  | l :: ls, fr => nameB l.1 && decide (fr ≤ l.2) && decide (l.2 < ms.length) && sgB (ms.take (l.2.toNat + 1)) (l.2.toNat + 1) fr.toNat && grF ms ls (l.2 + 1)
theorem IsN.take {w : World} {a : Option Addr} {n : Nat} {ms : List Mn} (h : IsN w a n ms) {k : Nat} (hk : k ≤ n) : IsN w a k (ms.take k) := by
  refine ⟨by rw [List.length_take, h.1]; omega, ?_⟩
  rcases h.2 with h0 | ⟨g, o, e, hc⟩
  · exact .inl (by omega)
  · refine .inr ⟨g, o, e, fun i m hm => hc i m ?_⟩
    rw [List.getElem?_take] at hm
    split at hm
    · exact hm
    · exact absurd hm (by simp)
theorem NdR.take {w : World} {ms : List Mn} (h : NdR w ms) (k : Nat) : NdR w (ms.take k) := fun m hm => h m (List.mem_of_mem_take hm)
theorem NdR.below {w w' : World} {ms : List Mn} (h : NdR w ms) (hb : Below w.heap.size w w') : NdR w' ms := fun m hm => by
  obtain ⟨⟨x, y, e, h1⟩, ⟨x', y', e', h1'⟩, r⟩ := h m hm
  exact ⟨⟨x, y, e, h1.below hb⟩, ⟨x', y', e', h1'.below hb⟩, r⟩
def IsLt (w : World) (a : Option Addr) (n : Nat) (ls : List (ByteArray × Int)) : Prop := ls.length = n ∧ (n = 0 ∨ ∃ g o, a = some ⟨g, o, none⟩ ∧ ∀ (j : Nat) (x : ByteArray × Int), ls[j]? = some x → w.cell? ⟨g, o + j * 2, none⟩ = some (.string x.1) ∧ w.cell? ⟨g, o + j * 2 + 1, none⟩ = some (.int .i64 x.2))
theorem IsLt.below {w w' : World} {a : Option Addr} {n : Nat} {ls : List (ByteArray × Int)} (h : IsLt w a n ls) (hb : Below w.heap.size w w') : IsLt w' a n ls := by
  refine ⟨h.1, ?_⟩
  rcases h.2 with h0 | ⟨g, o, e, hc⟩
  · exact .inl h0
  · exact .inr ⟨g, o, e, fun j x hj => by
      obtain ⟨c1, c2⟩ := hc j x hj
      exact ⟨by rw [hb.cell (World.block_lt_of_cell? w _ c1)]; exact c1, by rw [hb.cell (World.block_lt_of_cell? w _ c2)]; exact c2⟩⟩
theorem IsC.isLt {w : World} {a : Option Addr} {n : Nat} {ls : List (ByteArray × Int)} (h : IsC 2 w a n (flat encL ls)) : IsLt w a n ls := by
  obtain ⟨hl, -⟩ := h.get encL_length (by decide)
  refine ⟨hl, ?_⟩
  rcases h.lit (by decide) with h0 | ⟨g, o, e, hc⟩
  · exact .inl h0
  · refine .inr ⟨g, o, e, fun j x hj => ?_⟩
    have f0 := flat_get encL_length ls j x hj 0 (by decide)
    have f1 := flat_get encL_length ls j x hj 1 (by decide)
    exact ⟨hc _ _ f0, by rw [Nat.add_assoc]; exact hc _ _ f1⟩
set_option maxHeartbeats 64000000 in
theorem tree_grown {w : World} {ia la oa a : Option Addr} {il ic ln lc ol oc n c : Nat} {ls : List (ByteArray × Int)} {ms : List Mn} (hL : IsLt w la ln ls) (h : IsN w a n ms) (hR : NdR w ms) (hn : n ≤ 100000) (hln : ln ≤ 100000) (hc : n ≤ c) (hz : ∀ x ∈ ls, -9223372036854775808 ≤ x.2 ∧ x.2 < 9223372036854775808) (r : Bool) (hr : grF (ms.map (·.1)) ls 0 = r) :
    Calls Tryz.prog 43 #[.agg #[.slice ia il ic, .slice la ln lc, .slice oa ol oc, .slice a n c]] w fun e w' => e = .returned (.bool r) ∧ Below w.heap.size w w' := by
  obtain ⟨B1, bV, hs⟩ := boxes1 w #[.slice ia il ic, .slice la ln lc, .slice oa ol oc, .slice a n c] 27
  have hlen : (ms.map (·.1)).length = n := by rw [List.length_map]; exact h.1
  have HH : Hid (IsLt w la ln ls ∧ IsN w a n ms ∧ NdR w ms ∧ n ≤ 100000 ∧ ln ≤ 100000 ∧ n ≤ c ∧ (∀ x ∈ ls, -9223372036854775808 ≤ x.2 ∧ x.2 < 9223372036854775808) ∧ grF (ms.map (·.1)) ls 0 = r ∧ (ms.map (·.1)).length = n) := ⟨hL, h, hR, hn, hln, hc, hz, hr, hlen⟩
  have HB : Hid (BoxC (w.alloc (.cells #[.slice ia il ic, .slice la ln lc, .slice oa ol oc, .slice a n c] 27)) w.heap.size #[.slice ia il ic, .slice la ln lc, .slice oa ol oc, .slice a n c] 27 ∧ Below w.heap.size w (w.alloc (.cells #[.slice ia il ic, .slice la ln lc, .slice oa ol oc, .slice a n c] 27))) := ⟨B1, bV⟩
  clear hL h hR hn hln hc hz hr hlen B1 bV hs
  go_enter Tryz.func43, Tryz.ntmps43
  go_wp2
  generalize hV : w.alloc (.cells #[.slice ia il ic, .slice la ln lc, .slice oa ol oc, .slice a n c] 27) = V at *
  go_loopg [3, 9] ln (fun g s3 s9 v => ∃ (t : Nat) (fr : Int), s3 = .int .i64 fr ∧ s9 = .int .i64 t ∧ t + g = ln ∧ 0 ≤ fr ∧ fr ≤ n ∧ grF (ms.map (·.1)) (ls.drop t) fr = r ∧ Below V.heap.size V v)
  case atStart => exact ⟨0, 0, rfl, rfl, by omega, Int.le_refl _, by omega, HH.out.2.2.2.2.2.2.2.1, Below.refl _ _⟩
  case round =>
    obtain ⟨t, fr, rfl, rfl, hg, hf0, hfn, hr, bw⟩ := hrel
    obtain ⟨hL, h, hR, hn, hln, hc, hz, -, hlen⟩ := HH.out
    rcases Nat.lt_or_ge t ln with ht | ht
    · have p1 : (t : Int) < ln := by omega
      obtain ⟨⟨nm, rt⟩, hx⟩ : ∃ x, ls[t]? = some x := ⟨_, List.getElem?_eq_getElem (by have := hL.1; omega)⟩
      have hbW := below_more HB.out.2 bw
      obtain ⟨g1, o1, rfl, hcl⟩ := (hL.below hbW).2.resolve_left (by omega)
      obtain ⟨c0, c1⟩ := hcl t _ hx
      have g1w : g1 < wr.heap.size := World.block_lt_of_cell? wr _ c0
      dsimp only at c0 c1
      obtain ⟨hz2, hz3⟩ := hz _ (List.mem_of_getElem? hx)
      dsimp only at hz2 hz3
      have hd : ls.drop t = (nm, rt) :: ls.drop (t + 1) := by
        obtain ⟨q1, q2⟩ := List.getElem?_eq_some_iff.1 hx
        rw [List.drop_eq_getElem_cons q1, q2]
      rw [hd] at hr
      unfold grF at hr
      dsimp only at hr
      rw [hlen] at hr
      obtain ⟨q, rfl⟩ := Int.eq_ofNat_of_zero_le hf0
      rw [show ((q : Int)).toNat = q from rfl] at hr
      have hR1 := (HB.out.1.more bw).lt
      cases hb : nameB nm with
      | false =>
        rw [hb] at hr
        simp only [Bool.false_and] at hr
        subst hr
        have SN := fun v => sign_name_any nm v false hb
        clear hL h hR hn hln hc hz hlen hcl hx hz2 hz3 hd hb hg hf0 hfn HH
        go_wp2_with (first
          | (go_at_call 69; (with_reducible refine Calls.mono (SN _) ?_); rintro e w1 ⟨rfl, d1⟩; have BX := (BoxC.new wr #[.string nm, .int .i64 rt] 46).more d1; obtain ⟨x0, x1, -, -⟩ := BX.cells2; have bA := (Below.refl wr.heap.size wr).alloc (Nat.le_refl _) (.cells #[.string nm, .int .i64 rt] 46); have b1 := below_more bA d1; have b1V := below_more bw b1; have P1 := HB.out.1.more b1V; have p3 := (P1.cell 3).1))
        go_ret
        exact ⟨rfl, below_more HB.out.2 b1V⟩
      | true =>
        rw [hb, Bool.true_and] at hr
        have SN := fun v => sign_name_any nm v true hb
        by_cases hlt : rt < (q : Int)
        · rw [decide_eq_false (by omega)] at hr
          simp only [Bool.false_and] at hr
          subst hr
          clear hL h hR hn hln hc hz hlen hcl hx hz2 hz3 hd hb hg hf0 hfn HH
          go_wp2_with (first
            | (go_at_call 69; (with_reducible refine Calls.mono (SN _) ?_); rintro e w1 ⟨rfl, d1⟩; have BX := (BoxC.new wr #[.string nm, .int .i64 rt] 46).more d1; obtain ⟨x0, x1, -, -⟩ := BX.cells2; have bA := (Below.refl wr.heap.size wr).alloc (Nat.le_refl _) (.cells #[.string nm, .int .i64 rt] 46); have b1 := below_more bA d1; have b1V := below_more bw b1; have P1 := HB.out.1.more b1V; have p3 := (P1.cell 3).1))
          go_ret
          exact ⟨rfl, below_more HB.out.2 b1V⟩
        · rw [decide_eq_true (by omega), Bool.true_and] at hr
          obtain ⟨R, rfl⟩ := Int.eq_ofNat_of_zero_le (show 0 ≤ rt by omega)
          by_cases hge : n ≤ R
          · rw [decide_eq_false (by omega)] at hr
            simp only [Bool.false_and] at hr
            subst hr
            have k1 : (n : Int) ≤ R := by omega
            have k2 : ¬ (R : Int) < n := by omega
            clear hL h hR hn hln hc hz hlen hcl hx hz2 hz3 hd hb hg hf0 hfn HH
            go_wp2_with (first
              | (go_at_call 69; (with_reducible refine Calls.mono (SN _) ?_); rintro e w1 ⟨rfl, d1⟩; have BX := (BoxC.new wr #[.string nm, .int .i64 (R : Int)] 46).more d1; obtain ⟨x0, x1, -, -⟩ := BX.cells2; have bA := (Below.refl wr.heap.size wr).alloc (Nat.le_refl _) (.cells #[.string nm, .int .i64 (R : Int)] 46); have b1 := below_more bA d1; have b1V := below_more bw b1; have P1 := HB.out.1.more b1V; have p3 := (P1.cell 3).1))
            go_ret
            exact ⟨rfl, below_more HB.out.2 b1V⟩
          · rw [decide_eq_true (by omega), Bool.true_and] at hr
            rw [show ((R : Int)).toNat = R from rfl] at hr
            have k1 : ¬ (n : Int) ≤ R := by omega
            have k2 : (R : Int) < n := by omega
            have k3 : R + 1 ≤ c := by omega
            have k4 : (R : Int) + 1 ≤ (c : Int) := by omega
            have k5 : (0 : Int) ≤ (R : Int) + 1 := by omega
            have SG0 := fun (v : World) (b : Below V.heap.size V v) (sb : Bool) (hs : sgB (((ms.take (R + 1)).map (·.1))) (R + 1) q = sb) => tree_single (c := c) ((h.below (below_more HB.out.2 b)).take (show R + 1 ≤ n by omega)) ((hR.below (below_more HB.out.2 b)).take (R + 1)) (by omega) q (by omega) sb hs
            rw [List.map_take] at SG0
            have HW : Hid (wrap64 ((R : Int) + 1) = (R : Int) + 1 ∧ wrap64 ((t : Int) + 1) = (t : Int) + 1) := ⟨wrap_smalls (by omega) (by omega), wrap_smalls (by omega) (by omega)⟩
            cases hsg : sgB ((ms.map (·.1)).take (R + 1)) (R + 1) q with
            | false =>
              rw [hsg] at hr
              simp only [Bool.false_and] at hr
              subst hr
              have SG := fun v b => SG0 v b false hsg
              clear hL h hR hn hln hc hz hlen hcl hx hz2 hz3 hd hb hg hf0 hfn HH SG0 hsg
              have wR := HW.out.1
              go_wp2_with (first
                | (go_at_call 69; (with_reducible refine Calls.mono (SN _) ?_); rintro e w1 ⟨rfl, d1⟩; have BX := (BoxC.new wr #[.string nm, .int .i64 (R : Int)] 46).more d1; obtain ⟨x0, x1, -, -⟩ := BX.cells2; have bA := (Below.refl wr.heap.size wr).alloc (Nat.le_refl _) (.cells #[.string nm, .int .i64 (R : Int)] 46); have b1 := below_more bA d1; have b1V := below_more bw b1; have P1 := HB.out.1.more b1V; have p3 := (P1.cell 3).1)
                | (go_at_call 70; (with_reducible refine Calls.mono (SG _ b1V) ?_); rintro e w2 ⟨rfl, d2⟩; obtain ⟨z0, z1, -, -⟩ := (BX.more d2).cells2; have b2V := below_more b1V d2))
              go_ret
              exact ⟨rfl, below_more HB.out.2 b2V⟩
            | true =>
              rw [hsg, Bool.true_and] at hr
              have SG := fun v b => SG0 v b true hsg
              have HQ : Hid (grF (ms.map (·.1)) (ls.drop (t + 1)) ((R : Int) + 1) = r ∧ t + 1 + (ln - (t + 1)) = ln ∧ 0 ≤ (R : Int) + 1 ∧ (R : Int) + 1 ≤ n ∧ ln - (t + 1) < gk) := ⟨hr, by omega, by omega, by omega, by omega⟩
              clear hr hL h hR hn hln hc hz hlen hcl hx hz2 hz3 hd hb hg hf0 hfn HH SG0 hsg
              have wR := HW.out.1
              have wT := HW.out.2
              go_wp2_with (first
                | (go_at_call 69; (with_reducible refine Calls.mono (SN _) ?_); rintro e w1 ⟨rfl, d1⟩; have BX := (BoxC.new wr #[.string nm, .int .i64 (R : Int)] 46).more d1; obtain ⟨x0, x1, -, -⟩ := BX.cells2; have bA := (Below.refl wr.heap.size wr).alloc (Nat.le_refl _) (.cells #[.string nm, .int .i64 (R : Int)] 46); have b1 := below_more bA d1; have b1V := below_more bw b1; have P1 := HB.out.1.more b1V; have p3 := (P1.cell 3).1)
                | (go_at_call 70; (with_reducible refine Calls.mono (SG _ b1V) ?_); rintro e w2 ⟨rfl, d2⟩; obtain ⟨z0, z1, -, -⟩ := (BX.more d2).cells2; have b2V := below_more b1V d2))
              obtain ⟨q1, q2, q3, q4, q5⟩ := HQ.out
              go_roundg (ln - (t + 1))
              case measure => exact q5
              case rel => exact ⟨t + 1, (R : Int) + 1, by first | rfl | rw [wR], by first | rfl | (rw [wT]; rfl), q2, q3, q4, q1, b2V⟩
    · have p1 : ¬ (t : Int) < ln := by omega
      obtain rfl : t = ln := by omega
      rw [List.drop_eq_nil_of_le (by have := hL.1; omega)] at hr
      unfold grF at hr
      rw [hlen] at hr
      have e : (fr == (n : Int)) = r := by
        rw [← hr]
        by_cases q : fr = (n : Int)
        · rw [decide_eq_true q, beq_iff_eq]; exact q
        · rw [decide_eq_false q, beq_eq_false_iff_ne]; exact q
      have P1 := HB.out.1.more bw
      have p3 := (P1.cell 3).1
      clear hL h hR hn hln hc hz hlen hg hf0 hfn hr HH P1
      go_wp2
      go_ret
      exact ⟨by rw [← e]; rfl, below_more HB.out.2 bw⟩
end Go.Proofs.YtbcfplaalepnbaaGreatDoor
namespace Go.Proofs.YtbcfplaalepnbaaGreatDoor
open Go.RowKit Go.Lib
structure PgR (w : World) (ia la oa a : Option Addr) (il ln ol n c : Nat) (ins outs : List ByteArray) (ls : List (ByteArray × Int)) (ms : List Mn) : Prop where
  hins : IsS w ia il ins
  hlets : IsLt w la ln ls
  houts : IsS w oa ol outs
  hall : IsN w a n ms
  hnodes : NdR w ms
  lsz : ∀ x ∈ ls, -9223372036854775808 ≤ x.2 ∧ x.2 < 9223372036854775808
  cap : n ≤ c
theorem PgR.below {w w' : World} {ia la oa a : Option Addr} {il ln ol n c : Nat} {ins outs : List ByteArray} {ls : List (ByteArray × Int)} {ms : List Mn} (h : PgR w ia la oa a il ln ol n c ins outs ls ms) (hb : Below w.heap.size w w') : PgR w' ia la oa a il ln ol n c ins outs ls ms :=
  ⟨h.hins.below hb, h.hlets.below hb, h.houts.below hb, h.hall.below hb, h.hnodes.below hb, h.lsz, h.cap⟩
def fewB (n i l o : Nat) : Bool := decide (n ≤ 400) && decide (i ≤ 40) && decide (l ≤ 40) && decide (o ≤ 40)
def lowB (l : List Nd) : Bool := !(List.range l.length).any fun k => decide (60 < tallI l k)
def rgtB (ins outs : List ByteArray) (ls : List (ByteArray × Int)) (ms : List Nw) : Bool :=
  fewB ms.length ins.length ls.length outs.length && decide (0 < ins.length) && decide (0 < outs.length) && ins.all nameB && outs.all nameB && grF ms ls 0 && lowB (ms.map Nw.nd)
theorem sg_step {ms : List Nw} {i : Nat} {lo lo' : List Int} (h : sgStep ms i lo = some lo') (hl : ∀ x ∈ lo, 0 ≤ x ∧ x < (i : Int)) : (∃ m, ms[i]? = some m ∧ fillR m = true ∧ ∀ p ∈ ptsI m.kind m.a m.b, 0 ≤ p ∧ p < (i : Int)) ∧ ∀ x ∈ lo', 0 ≤ x ∧ x < ((i + 1 : Nat) : Int) := by
  unfold sgStep at h
  cases hm : ms[i]? with
  | none => rw [hm] at h; exact absurd h (by simp)
  | some m =>
    rw [hm] at h
    dsimp only at h
    split at h
    · rename_i hc
      injection h with h
      refine ⟨⟨m, rfl, hc.1, fun p hp => ?_⟩, fun x hx => ?_⟩
      · rw [← hc.2.2] at hp
        exact hl p (List.mem_of_mem_drop hp)
      · rw [← h] at hx
        rcases List.mem_append.1 hx with q | q
        · have := hl x (List.mem_of_mem_take q)
          omega
        · obtain rfl := List.mem_singleton.1 q
          omega
    · exact absurd h (by simp)
theorem sg_all (ms : List Nw) (j : Nat) : ∀ (f t : Nat) (lo : List Int), sgF ms j f t lo = true → j - t < f → (∀ x ∈ lo, 0 ≤ x ∧ x < (t : Int)) → ∀ i, t ≤ i → i < j → ∃ m, ms[i]? = some m ∧ fillR m = true ∧ ∀ p ∈ ptsI m.kind m.a m.b, 0 ≤ p ∧ p < (i : Int) := by
  intro f
  induction f with
  | zero => intro t lo _ h; omega
  | succ f ih =>
    intro t lo h hf hl i hti hij
    unfold sgF at h
    rw [if_pos (by omega)] at h
    cases hs : sgStep ms t lo with
    | none => rw [hs] at h; exact absurd h (by simp)
    | some lo' =>
      rw [hs] at h
      dsimp only at h
      obtain ⟨h1, h2⟩ := sg_step hs hl
      rcases Nat.lt_or_ge t i with q | q
      · exact ih (t + 1) lo' h (by omega) h2 i (by omega) hij
      · obtain rfl : t = i := by omega
        exact h1
theorem gr_all (ms : List Nw) : ∀ (ls : List (ByteArray × Int)) (fr : Int), 0 ≤ fr → grF ms ls fr = true → ∀ i : Nat, fr ≤ i → i < ms.length → ∃ m, ms[i]? = some m ∧ fillR m = true ∧ ∀ p ∈ ptsI m.kind m.a m.b, 0 ≤ p ∧ p < (i : Int) := by
  intro ls
  induction ls with
  | nil =>
    intro fr h0 h i h1 h2
    unfold grF at h
    rw [decide_eq_true_eq] at h
    omega
  | cons l ls ih =>
    intro fr h0 h i h1 h2
    unfold grF at h
    simp only [Bool.and_eq_true, decide_eq_true_eq] at h
    obtain ⟨⟨⟨⟨-, h3⟩, h4⟩, h5⟩, h6⟩ := h
    by_cases q : (i : Int) ≤ l.2
    · obtain ⟨m, m1, m2⟩ := sg_all (ms.take (l.2.toNat + 1)) (l.2.toNat + 1) _ fr.toNat [] h5 (by omega) (fun x hx => absurd hx (by simp)) i (by omega) (by omega)
      refine ⟨m, ?_, m2⟩
      rw [List.getElem?_take] at m1
      split at m1
      · exact m1
      · exact absurd m1 (by simp)
    · exact ih (l.2 + 1) (by omega) h6 i (by omega) h2
theorem fill_kind {m : Nw} (h : fillR m = true) : 0 ≤ m.kind ∧ m.kind ≤ 7 := by
  unfold fillR at h
  by_cases k0 : m.kind = 0
  · omega
  rw [if_neg k0] at h
  by_cases k1 : m.kind = 1
  · omega
  rw [if_neg k1] at h
  by_cases k2 : m.kind = 2 ∨ m.kind = 3 ∨ m.kind = 4 ∨ m.kind = 5
  · omega
  rw [if_neg k2] at h
  by_cases k6 : m.kind = 6
  · omega
  rw [if_neg k6] at h
  by_cases k7 : m.kind = 7
  · omega
  rw [if_neg k7] at h
  exact absurd h (by simp)
theorem gr_behind {ms : List Nw} {ls : List (ByteArray × Int)} (h : grF ms ls 0 = true) : Behind (ms.map Nw.nd) ∧ ∀ m ∈ ms, 0 ≤ m.kind ∧ m.kind ≤ 7 := by
  have ga := gr_all ms ls 0 (Int.le_refl _) h
  refine ⟨fun p n hn hk => ?_, fun m hm => ?_⟩
  · rw [List.getElem?_map] at hn
    cases hm : ms[p]? with
    | none => rw [hm] at hn; exact absurd hn (by simp)
    | some m =>
      rw [hm] at hn
      have e : m.nd = n := by simpa using hn
      subst e
      obtain ⟨m', m1, m2, m3⟩ := ga p (by omega) (List.getElem?_eq_some_iff.1 hm).1
      rw [hm] at m1
      injection m1 with m1
      subst m1
      have hk' : 2 ≤ m.kind := hk
      have h7 := fill_kind m2
      unfold ptsI at m3
      rw [if_neg (by omega)] at m3
      by_cases k6 : m.kind = 6 ∨ m.kind = 7
      · rw [if_pos k6] at m3
        have := m3 m.a (by simp)
        exact ⟨this.1, this.2, fun q => by have : m.kind ≤ 5 := q; omega⟩
      · rw [if_neg k6] at m3
        have h1 := m3 m.a (by simp)
        have h2 := m3 m.b (by simp)
        exact ⟨h1.1, h1.2, fun _ => h2⟩
  · obtain ⟨i, hi, he⟩ := List.getElem_of_mem hm
    obtain ⟨m', m1, m2, -⟩ := ga i (by omega) hi
    rw [List.getElem?_eq_getElem hi, he] at m1
    injection m1 with m1
    rw [m1]
    exact fill_kind m2
set_option maxHeartbeats 16000000 in
theorem tree_right {w : World} {ia la oa a : Option Addr} {il ic ln lc ol oc n c : Nat} {ins outs : List ByteArray} {ls : List (ByteArray × Int)} {ms : List Mn} (h : PgR w ia la oa a il ln ol n c ins outs ls ms) (r : Bool) (hr : rgtB ins outs ls (ms.map (·.1)) = r) :
    Calls Tryz.prog 16 #[.agg #[.slice ia il ic, .slice la ln lc, .slice oa ol oc, .slice a n c]] w fun e w' => e = .returned (.bool r) ∧ Below w.heap.size w w' := by
  obtain ⟨B1, bV, hs⟩ := boxes1 w #[.slice ia il ic, .slice la ln lc, .slice oa ol oc, .slice a n c] 27
  have hlen : (ms.map (·.1)).length = n := by rw [List.length_map]; exact h.hall.1
  have hnd : (ms.map (·.1)).map Nw.nd = ms.map fun m => m.1.nd := by rw [List.map_map]; rfl
  unfold rgtB at hr
  rw [hlen, h.hins.1, h.houts.1, h.hlets.1] at hr
  have CB := fun (v : World) (b : Below (w.alloc (.cells #[.slice ia il ic, .slice la ln lc, .slice oa ol oc, .slice a n c] 27)).heap.size (w.alloc (.cells #[.slice ia il ic, .slice la ln lc, .slice oa ol oc, .slice a n c] 27)) v) => (show v.cell? ⟨w.heap.size, 0, none⟩ = some (.slice ia il ic) ∧ v.cell? ⟨w.heap.size, 1, none⟩ = some (.slice la ln lc) ∧ v.cell? ⟨w.heap.size, 2, none⟩ = some (.slice oa ol oc) ∧ v.cell? ⟨w.heap.size, 3, none⟩ = some (.slice a n c) from ⟨((B1.more b).cell 0).1, ((B1.more b).cell 1).1, ((B1.more b).cell 2).1, ((B1.more b).cell 3).1⟩)
  have hV := h.below bV
  generalize hVV : w.alloc (.cells #[.slice ia il ic, .slice la ln lc, .slice oa ol oc, .slice a n c] 27) = V at *
  have FW0 := fun (q : Bool) (hq : fewB n il ln ol = q) (v : World) => tree_few il ic ln lc ol oc n c ia la oa a q hq v
  subst hVV
  cases hf : fewB n il ln ol with
  | false =>
    rw [hf] at hr
    simp only [Bool.false_and] at hr
    subst hr
    have FW := FW0 false hf
    clear h hV hlen hnd B1 FW0 hf
    go_enter Tryz.func16, Tryz.ntmps16
    go_wp2_with (first
      | (go_at_call 28; (with_reducible refine Calls.mono (FW _) ?_); rintro e w1 ⟨rfl, d1⟩; obtain ⟨y0, y1, y2, y3⟩ := CB _ d1))
    go_ret
    exact ⟨rfl, below_more bV d1⟩
  | true =>
    have FW := FW0 true hf
    have hb : n ≤ 400 ∧ il ≤ 40 ∧ ln ≤ 40 ∧ ol ≤ 40 := by
      unfold fewB at hf
      simp only [Bool.and_eq_true, decide_eq_true_eq] at hf
      exact ⟨hf.1.1.1, hf.1.1.2, hf.1.2, hf.2⟩
    rw [hf, Bool.true_and] at hr
    clear FW0 hf
    by_cases h1 : 0 < il
    · have k1 : (0 : Int) < il := by omega
      rw [decide_eq_true h1, Bool.true_and] at hr
      by_cases h2 : 0 < ol
      · have k2 : (0 : Int) < ol := by omega
        rw [decide_eq_true h2, Bool.true_and] at hr
        have N10 := fun (q : Bool) (hq : ins.all nameB = q) (v : World) (b : Below _ _ v) => tree_named (c := ic) (hV.hins.below b) (by omega) q hq
        have N20 := fun (q : Bool) (hq : outs.all nameB = q) (v : World) (b : Below _ _ v) => tree_named (c := oc) (hV.houts.below b) (by omega) q hq
        cases ha : ins.all nameB with
        | false =>
          rw [ha] at hr
          simp only [Bool.false_and] at hr
          subst hr
          have N1 := N10 false ha
          clear h hV hlen hnd B1 N10 N20 ha h1 h2 hb
          go_enter Tryz.func16, Tryz.ntmps16
          go_wp2_with (first
            | (go_at_call 28; (with_reducible refine Calls.mono (FW _) ?_); rintro e w1 ⟨rfl, d1⟩; obtain ⟨y0, y1, y2, y3⟩ := CB _ d1)
            | (go_at_call 42; (with_reducible refine Calls.mono (N1 _ d1) ?_); rintro e w2 ⟨rfl, d2⟩; have e2 := below_more d1 d2; obtain ⟨y0, y1, y2, y3⟩ := CB _ e2))
          go_ret
          exact ⟨rfl, below_more bV e2⟩
        | true =>
          rw [ha, Bool.true_and] at hr
          have N1 := N10 true ha
          cases hb2 : outs.all nameB with
          | false =>
            rw [hb2] at hr
            simp only [Bool.false_and] at hr
            subst hr
            have N2 := N20 false hb2
            clear h hV hlen hnd B1 N10 N20 ha hb2 h1 h2 hb
            go_enter Tryz.func16, Tryz.ntmps16
            go_wp2_with (first
              | (go_at_call 28; (with_reducible refine Calls.mono (FW _) ?_); rintro e w1 ⟨rfl, d1⟩; obtain ⟨y0, y1, y2, y3⟩ := CB _ d1)
              | (go_at_call 42; (with_reducible refine Calls.mono (N1 _ d1) ?_); rintro e w2 ⟨rfl, d2⟩; have e2 := below_more d1 d2; obtain ⟨y0, y1, y2, y3⟩ := CB _ e2)
              | (go_at_call 42; (with_reducible refine Calls.mono (N2 _ e2) ?_); rintro e w3 ⟨rfl, d3⟩; have e3 := below_more e2 d3; obtain ⟨y0, y1, y2, y3⟩ := CB _ e3))
            go_ret
            exact ⟨rfl, below_more bV e3⟩
          | true =>
            rw [hb2, Bool.true_and] at hr
            have N2 := N20 true hb2
            have GW0 := fun (q : Bool) (hq : grF (ms.map (·.1)) ls 0 = q) (v : World) (b : Below _ _ v) => tree_grown (ia := ia) (oa := oa) (il := il) (ic := ic) (lc := lc) (ol := ol) (oc := oc) (c := c) (hV.hlets.below b) (hV.hall.below b) (hV.hnodes.below b) (by omega) (by omega) h.cap h.lsz q hq
            cases hg : grF (ms.map (·.1)) ls 0 with
            | false =>
              rw [hg] at hr
              simp only [Bool.false_and] at hr
              subst hr
              have GW := GW0 false hg
              clear h hV hlen hnd B1 N10 N20 GW0 ha hb2 h1 h2 hb hg
              go_enter Tryz.func16, Tryz.ntmps16
              go_wp2_with (first
                | (go_at_call 28; (with_reducible refine Calls.mono (FW _) ?_); rintro e w1 ⟨rfl, d1⟩; obtain ⟨y0, y1, y2, y3⟩ := CB _ d1)
                | (go_at_call 42; (with_reducible refine Calls.mono (N1 _ d1) ?_); rintro e w2 ⟨rfl, d2⟩; have e2 := below_more d1 d2; obtain ⟨y0, y1, y2, y3⟩ := CB _ e2)
                | (go_at_call 42; (with_reducible refine Calls.mono (N2 _ e2) ?_); rintro e w3 ⟨rfl, d3⟩; have e3 := below_more e2 d3; obtain ⟨y0, y1, y2, y3⟩ := CB _ e3)
                | (go_at_call 43; (with_reducible refine Calls.mono (GW _ e3) ?_); rintro e w4 ⟨rfl, d4⟩; have e4 := below_more e3 d4; obtain ⟨y0, y1, y2, y3⟩ := CB _ e4))
              go_ret
              exact ⟨rfl, below_more bV e4⟩
            | true =>
              rw [hg, Bool.true_and] at hr
              have GW := GW0 true hg
              obtain ⟨hBh, hKd⟩ := gr_behind hg
              rw [hnd] at hBh
              unfold lowB at hr
              rw [hnd, List.length_map, hV.hall.1] at hr
              have LW := fun (v : World) (b : Below _ _ v) => tree_low (c := c) (hV.hall.below b) (by omega) hBh (fun m hm => hKd m.1 (List.mem_map_of_mem hm)) (fun m hm => by
                obtain ⟨⟨x, y, e, -⟩, ⟨x', y', e', -⟩, -⟩ := hV.hnodes m hm
                exact ⟨⟨x, _, y, e⟩, ⟨x', _, y', e'⟩⟩) r hr
              clear h hV hlen hnd B1 N10 N20 GW0 ha hb2 h1 h2 hb hg hBh hKd hr
              go_enter Tryz.func16, Tryz.ntmps16
              go_wp2_with (first
                | (go_at_call 28; (with_reducible refine Calls.mono (FW _) ?_); rintro e w1 ⟨rfl, d1⟩; obtain ⟨y0, y1, y2, y3⟩ := CB _ d1)
                | (go_at_call 42; (with_reducible refine Calls.mono (N1 _ d1) ?_); rintro e w2 ⟨rfl, d2⟩; have e2 := below_more d1 d2; obtain ⟨y0, y1, y2, y3⟩ := CB _ e2)
                | (go_at_call 42; (with_reducible refine Calls.mono (N2 _ e2) ?_); rintro e w3 ⟨rfl, d3⟩; have e3 := below_more e2 d3; obtain ⟨y0, y1, y2, y3⟩ := CB _ e3)
                | (go_at_call 43; (with_reducible refine Calls.mono (GW _ e3) ?_); rintro e w4 ⟨rfl, d4⟩; have e4 := below_more e3 d4; obtain ⟨y0, y1, y2, y3⟩ := CB _ e4)
                | (go_at_call 29; (with_reducible refine Calls.mono (LW _ e4) ?_); rintro e w5 ⟨rfl, d5⟩; have e5 := below_more e4 d5))
              go_ret
              exact ⟨rfl, below_more bV e5⟩
      · have k2 : ¬ (0 : Int) < ol := by omega
        rw [decide_eq_false h2] at hr
        simp only [Bool.false_and] at hr
        subst hr
        clear h hV hlen hnd B1 h1 h2 hb
        go_enter Tryz.func16, Tryz.ntmps16
        go_wp2_with (first
          | (go_at_call 28; (with_reducible refine Calls.mono (FW _) ?_); rintro e w1 ⟨rfl, d1⟩; obtain ⟨y0, y1, y2, y3⟩ := CB _ d1))
        go_ret
        exact ⟨rfl, below_more bV d1⟩
    · have k1 : ¬ (0 : Int) < il := by omega
      rw [decide_eq_false h1] at hr
      simp only [Bool.false_and] at hr
      subst hr
      clear h hV hlen hnd B1 h1 hb
      go_enter Tryz.func16, Tryz.ntmps16
      go_wp2_with (first
        | (go_at_call 28; (with_reducible refine Calls.mono (FW _) ?_); rintro e w1 ⟨rfl, d1⟩; obtain ⟨y0, y1, y2, y3⟩ := CB _ d1))
      go_ret
      exact ⟨rfl, below_more bV d1⟩
set_option maxHeartbeats 8000000 in
theorem tree_Heights {w : World} {ia la oa a : Option Addr} {il ic ln lc ol oc n c : Nat} {ins outs : List ByteArray} {ls : List (ByteArray × Int)} {ms : List Mn} (h : PgR w ia la oa a il ln ol n c ins outs ls ms) (r : Bool) (hr : rgtB ins outs ls (ms.map (·.1)) = r) :
    Calls Tryz.prog 18 #[.agg #[.slice ia il ic, .slice la ln lc, .slice oa ol oc, .slice a n c]] w fun e w' => ∃ ha hn hc, e = .returned (.slice ha hn hc) ∧ IsI w' ha hn (if r = true then hts (ms.map fun m => m.1.nd) n else []) ∧ Below w.heap.size w w' := by
  obtain ⟨B1, bV, hs⟩ := boxes1 w #[.slice ia il ic, .slice la ln lc, .slice oa ol oc, .slice a n c] 27
  have z0 := (B1.cell 0).1
  have z1 := (B1.cell 1).1
  have z2 := (B1.cell 2).1
  have z3 := (B1.cell 3).1
  have RT := tree_right (ic := ic) (lc := lc) (oc := oc) (h.below bV) r hr
  cases r with
  | false =>
    simp only [Bool.false_eq_true, if_false]
    clear h hr B1 hs
    go_enter Tryz.func18, Tryz.ntmps18
    go_wp2_with (go_at_call 16; (with_reducible refine Calls.mono RT ?_); rintro e w1 ⟨rfl, d1⟩)
    go_ret
    exact ⟨none, 0, 0, rfl, ⟨rfl, .inl rfl⟩, below_more bV d1⟩
  | true =>
    have hlen : (ms.map (·.1)).length = n := by rw [List.length_map]; exact h.hall.1
    have hnd : (ms.map (·.1)).map Nw.nd = ms.map fun m => m.1.nd := by rw [List.map_map]; rfl
    unfold rgtB at hr
    simp only [Bool.and_eq_true] at hr
    obtain ⟨hBh, hKd⟩ := gr_behind hr.1.2
    rw [hnd] at hBh
    have hn4 : n ≤ 400 := by
      have := hr.1.1.1.1.1.1
      unfold fewB at this
      simp only [Bool.and_eq_true, decide_eq_true_eq] at this
      have := this.1.1.1
      omega
    have hV := h.below bV
    have CB := fun (v : World) (b : Below _ _ v) => ((B1.more b).cell 3).1
    have HT := fun (v : World) (b : Below _ _ v) => tree_heights (c := c) (hV.hall.below b) (by omega) hBh (fun m hm => hKd m.1 (List.mem_map_of_mem hm)) (fun m hm => by
      obtain ⟨⟨x, y, e, -⟩, ⟨x', y', e', -⟩, -⟩ := hV.hnodes m hm
      exact ⟨⟨x, _, y, e⟩, ⟨x', _, y', e'⟩⟩)
    simp only [if_true]
    clear h hr B1 hs hlen hnd hBh hKd hn4 hV
    go_enter Tryz.func18, Tryz.ntmps18
    go_wp2_with (first
      | (go_at_call 16; (with_reducible refine Calls.mono RT ?_); rintro e w1 ⟨rfl, d1⟩; have y3 := CB _ d1)
      | (go_at_call 44; (with_reducible refine Calls.mono (HT _ d1) ?_); rintro e w2 ⟨g, rfl, o⟩))
    go_ret
    refine ⟨some ⟨g, 0, none⟩, n, n, rfl, ⟨hts_length _ _, ?_⟩, below_more (below_more bV d1) o.below⟩
    exact .inr ⟨g, 0, rfl, fun j x hj => by rw [Nat.zero_add]; exact (o.at1 (by rw [List.getElem?_map, hj]; rfl)).1⟩
end Go.Proofs.YtbcfplaalepnbaaGreatDoor
namespace Go.Proofs.YtbcfplaalepnbaaGreatDoor
open Go.RowKit Go.Lib
theorem lexI_toks {s : ByteArray} (hs : s.size ≤ 1000000) : Toks (lexI s).1 := ⟨lexI_length s, fun t ht => ⟨(lexI_right s t ht).1, Nat.le_trans (lexI_right s t ht).2 hs⟩⟩
theorem tq_start {V w2 : World} {R : Nat} {la : Option Addr} {lc : Nat} {L : List Tok} (hR : V.heap.size ≤ R) (B : BoxC w2 R #[.slice la L.length lc, .slice none 0 0, .slice none 0 0, .slice none 0 0, .slice none 0 0, .slice none 0 0] 59) (hT : OwnT V w2 (.slice la L.length lc) L.length L) :
    Tq V w2 R la lc (.slice none 0 0) (.slice none 0 0) (.slice none 0 0) L 0 [] [] := by
  refine ⟨la, lc, none, 0, none, 0, hR, B, ⟨[], OwnC.nil hT.below, rfl, fun m hm => absurd hm (by simp)⟩, OwnC.nil hT.below, Nat.zero_le _, hT, fun h0 => ?_⟩
  rcases hT.1.2 with ⟨-, e⟩ | ⟨g, cap, cur, e, h1, h2, h3, -⟩
  · omega
  · injection e with e1 e2 e3
    subst e1; subst e3
    exact ⟨g, rfl, rfl, rfl, h3⟩
theorem long_few {p : Pg} {f lw : Bool} (hf : (decide (p.all.length ≤ 400) && decide (p.ins.length ≤ 40) && decide (p.lets.length ≤ 40) && decide (p.outs.length ≤ 40)) = f) (hl : (!(List.range p.all.length).any fun k => decide (60 < tallI p.all k)) = lw) : lngB p.all p.ins.length p.lets.length p.outs.length = (!f || !lw) := by
  subst hf; subst hl
  unfold lngB
  have e : ∀ a b : Nat, decide (a < b) = !decide (b ≤ a) := fun a b => by
    by_cases h : b ≤ a
    · rw [decide_eq_true h, decide_eq_false (by omega)]; rfl
    · rw [decide_eq_false h, decide_eq_true (by omega)]; rfl
  rw [e, e, e, e, Bool.not_and, Bool.not_and, Bool.not_and, Bool.not_not]
theorem Tq.prog {W w : World} {R : Nat} {ta : Option Addr} {tc : Nat} {i l o : Value} {L : List Tok} {p : Nat} {al : List Nd} {S : List It} (h : Tq W w R ta tc i l o L p al S) : ∃ a c, w.cell? ⟨R, 1, none⟩ = some i ∧ w.cell? ⟨R, 2, none⟩ = some l ∧ w.cell? ⟨R, 3, none⟩ = some o ∧ w.cell? ⟨R, 4, none⟩ = some (.slice a al.length c) ∧ NodesM W w a c al := by
  obtain ⟨la, lc, a, c, sa, sc, hW, B, hN, hS, hT⟩ := h
  exact ⟨a, c, (B.cell 1).1, (B.cell 2).1, (B.cell 3).1, (B.cell 4).1, hN⟩
theorem NodesM.isn {W w : World} {a : Option Addr} {c : Nat} {al : List Nd} (h : NodesM W w a c al) : ∃ ms, IsN w a al.length ms ∧ (ms.map fun m => m.1.nd) = al ∧ ms.map (·.1) = al.map rawOf ∧ (∀ m ∈ ms, (∃ x y z, m.2.1 = .slice x y z) ∧ ∃ x y z, m.2.2 = .slice x y z) ∧ ∀ m ∈ ms, NumW W w m := by
  obtain ⟨ms, h1, h2, h3⟩ := h
  exact ⟨ms, OwnC.isn (W := W) h1.1, nd_map h2, h2, fun m hm => ⟨(h3 m hm).1.sl, (h3 m hm).2.sl⟩, h3⟩
theorem parseI_err {s : ByteArray} {L : List Tok} {pl pc E : Int} (hl : lexI s = (L, (pl, pc), E)) (hE : E ≠ 0) : parseI s = (noPg, (pl, pc), E) := by
  unfold parseI
  rw [hl, if_pos hE]
theorem parseI_bad {s : ByteArray} {L : List Tok} {pl pc : Int} (hl : lexI s = (L, (pl, pc), 0)) (hb : (progI numT L).2.bad = true) : parseI s = (noPg, plcI s L (progI numT L).2.pos, 5) := by
  unfold parseI plcI
  rw [hl, if_neg (by simp)]
  dsimp only
  rw [if_pos hb]
  cases L[(progI numT L).2.pos]? <;> rfl
theorem parseI_rest {s : ByteArray} {L : List Tok} {pl pc : Int} (hl : lexI s = (L, (pl, pc), 0)) (hb : (progI numT L).2.bad = false) {r : Bool} (hr : lngB (progI numT L).1.all (progI numT L).1.ins.length (progI numT L).1.lets.length (progI numT L).1.outs.length = r) : parseI s = if r = true then (noPg, (1, 1), 4) else ((progI numT L).1, (0, 0), 0) := by
  unfold parseI
  rw [hl, if_neg (by simp)]
  dsimp only
  rw [if_neg (by rw [hb]; simp), hr]
theorem words_row {w : World} {B : Nat} {v : Value} {n : Nat} {xs : List Int} (h : w.ownsRow B 84 1 v n (xs.map (Value.int .u32))) : IsWords w v xs := by
  have hl : xs.length = n := by have := h.1; rw [List.length_map] at this; omega
  rcases h.2 with ⟨rfl, rfl⟩ | ⟨g, cap, cur, rfl, -, hg, hnc, hcm, -, -⟩
  · exact .inl ⟨rfl, List.eq_nil_of_length_eq_zero hl⟩
  · refine .inr ⟨⟨g, 0, none⟩, cap, by rw [hl], by omega, hcm, fun i hi => ?_⟩
    refine h.cells (g := g) rfl i _ ?_
    simp [hi]
theorem pg_good {V w w3 w4 w5 F : World} {B : Nat} {ia ta oa aa : Option Addr} {ic tc oc ac : Nat} {p : Pg} {P Q : TypeId} (OI : w3.ownsRow B 9 1 (.slice ia p.ins.length ic) p.ins.length (flat encS p.ins)) (OL : w3.ownsRow B 46 2 (.slice ta p.lets.length tc) p.lets.length (flat encL p.lets)) (OO : w3.ownsRow B 9 1 (.slice oa p.outs.length oc) p.outs.length (flat encS p.outs))
    (NM : NodesM V w4 aa ac p.all) (d4 : Below w3.heap.size w3 w4) (d5 : Below w4.heap.size w4 w5) (kF : Keep (fun T => T = P ∨ T = Q) w5 F) (bF : Below w.heap.size w F) (h1 : ¬ (9 = P ∨ 9 = Q)) (h2 : ¬ (46 = P ∨ 46 = Q)) (h3 : ¬ (44 = P ∨ 44 = Q)) (h4 : ¬ (84 = P ∨ 84 = Q)) :
    AnsPG w (p, (0, 0), 0) (.returned (.tuple #[.agg #[.slice ia p.ins.length ic, .slice ta p.lets.length tc, .slice oa p.outs.length oc, .slice aa p.all.length ac], .agg #[.int .i64 0, .int .i64 0], .int .i64 0])) F := by
  have RD : ∀ {T : TypeId} {k : Nat} {a : Option Addr} {n c : Nat} {cs : List Value} {B : Nat}, F.ownsRow B T k (.slice a n c) n cs → IsC k F a n cs := by
    intro T k a n c cs B h
    refine ⟨h.1, ?_⟩
    rcases h.2 with ⟨-, h0⟩ | ⟨g, cap, cur, e, hb, hg, h5, h6, h7, h8⟩
    · exact .inl h0
    · injection e with e1 e2 e3
      subst e1
      refine .inr ⟨_, rfl, fun j u hj => ?_⟩
      have hB : BoxC F g cur T := hg
      rw [← h8, List.getElem?_take] at hj
      split at hj
      · have := (hB.cell j).1
        rw [Array.getElem?_toList] at hj
        rw [hj] at this
        have e2 : (⟨g, 0, none⟩ : Addr).add j = ⟨g, j, none⟩ := by cases j <;> simp [Addr.add]
        rw [e2]; exact this
      · exact absurd hj (by simp)
  have KK : Keep (fun T => T = P ∨ T = Q) w3 F := ((Keep.of _ d4).more d5).trans kF
  have K4 : Keep (fun T => T = P ∨ T = Q) w4 F := (Keep.of _ d5).trans kF
  obtain ⟨ms, m1, m2, m3⟩ := NM
  refine ⟨_, _, _, _, rfl, ⟨ia, ic, ta, tc, oa, oc, aa, ac, ms, rfl, rfl, rfl, rfl, RD (ownsRow_keep OI KK h1), RD (ownsRow_keep OL KK h2), RD (ownsRow_keep OO KK h1), ?_, m2, fun m hm => ?_, ?_⟩, bF⟩
  · exact OwnC.isn (W := V) (ownsRow_keep m1.1 K4 h3)
  · obtain ⟨q1, q2⟩ := m3 m hm
    obtain ⟨x1, y1, e1⟩ := q1.lit
    obtain ⟨x2, y2, e2⟩ := q2.lit
    refine ⟨⟨x1, y1, e1, ?_⟩, ⟨x2, y2, e2, ?_⟩⟩
    · rw [e1] at q1 ⊢
      exact words_row (ownsRow_keep q1.1 K4 h4)
    · rw [e2] at q2 ⊢
      exact words_row (ownsRow_keep q2.1 K4 h4)
  · show p.all.length ≤ ac
    rcases m1.1.2 with ⟨-, h0⟩ | ⟨g, cap, cur, e, hb, hg, h5, -⟩
    · omega
    · injection e with e1 e2 e3
      omega
set_option maxRecDepth 100000 in
set_option maxHeartbeats 32000000 in
theorem tree_parse (s : ByteArray) (hs : s.size ≤ 1000000) (w : World) (he : ErrV w) : Calls Tryz.prog 10 #[.string s] w (AnsPG w (parseI s)) := by
  obtain ⟨b1, b2, bV, hV⟩ := boxes2 w #[.slice none 0 0, .slice none 0 0, .slice none 0 0, .slice none 0 0] #[.int .i64 0, .int .i64 0] 27 29
  have heV := he.below bV
  have hTk := lexI_toks hs
  obtain ⟨V, hVV⟩ : ∃ V, (w.alloc (.cells #[.slice none 0 0, .slice none 0 0, .slice none 0 0, .slice none 0 0] 27)).alloc (.cells #[.int .i64 0, .int .i64 0] 29) = V := ⟨_, rfl⟩
  have LX0 := lex_Lex s hs V
  have LX : Calls Tryz.prog 25 #[.string s] ((w.alloc (.cells #[.slice none 0 0, .slice none 0 0, .slice none 0 0, .slice none 0 0] 27)).alloc (.cells #[.int .i64 0, .int .i64 0] 29)) (AnsX V (lexI s)) := by rw [hVV]; exact LX0
  clear LX0
  rw [hVV] at b1 b2 bV hV heV
  unfold AnsX at LX
  have PLC := fun (w3 : World) (R : Nat) ta tc (i l o : Value) L p al S (T : Tq V w3 R ta tc i l o L p al S) => q_place T s hs
  obtain ⟨⟨L, ⟨pl, pc⟩, E⟩, hl⟩ : ∃ X, lexI s = X := ⟨_, rfl⟩
  rw [hl] at LX hTk
  dsimp only at LX hTk
  have PG := fun (w2 : World) (R : Nat) la lc (T : Tq V w2 R la lc (.slice none 0 0) (.slice none 0 0) (.slice none 0 0) L 0 [] []) => q_program T hTk heV
  by_cases hE : E ≠ 0
  · rw [parseI_err hl hE]
    have e1 : (E != 0) = true := by rw [bne_iff_ne]; exact hE
    have hVs : w.heap.size + 1 < V.heap.size := hV
    clear hl hE hs he heV hTk PLC PG hV hVV
    go_enter Tryz.func10, Tryz.ntmps10
    go_wp2_with (go_at_call 25; (with_reducible refine Calls.mono LX ?_); rintro e w1 ⟨la, lc, rfl, o1⟩; have N := boxes1 w1 #[.int .i64 pl, .int .i64 pc] 29; have p0 := (N.1.cell 0).1; have p1 := (N.1.cell 1).1; have D1 := (b1.more o1.below).more N.2.1; have D2 := (b2.more o1.below).more N.2.1; have BV1 := below_more o1.below N.2.1; have hq : w.heap.size + 1 < w1.heap.size := Nat.lt_of_lt_of_le hVs o1.below.size; have c0 := (D1.cell 0).1; have c1 := (D1.cell 1).1; have c2 := (D1.cell 2).1; have c3 := (D1.cell 3).1; have c4 := (D2.cell 0).1; have c5 := (D2.cell 1).1; have f0 := (D1.cell 0).2; have f1 := (D1.cell 1).2; have f2 := (D1.cell 2).2; have f3 := (D1.cell 3).2; have f4 := (D2.cell 0).2; have f5 := (D2.cell 1).2)
    generalize w1.alloc (.cells #[.int .i64 pl, .int .i64 pc] 29) = V2 at *
    clear o1 N b1 b2 LX
    go_region
    all_goals go_wp2
    all_goals
      obtain ⟨F, hF, g0, g1, g2, g3, g4, g5, bF, kF⟩ := pg_store D1 D2 (Nat.le_refl _) (below_more bV BV1) (.slice none 0 0) (.slice none 0 0) (.slice none 0 0) (.slice none 0 0) (.int .i64 pl) (.int .i64 pc)
      rw [hF]
      exact bodyPost_ret (v := .tuple #[.agg #[.slice none 0 0, .slice none 0 0, .slice none 0 0, .slice none 0 0], .agg #[.int .i64 pl, .int .i64 pc], .int .i64 E]) (by simp [results, Tryz.results10, go_sem, g0, g1, g2, g3, g4, g5]) rfl (ansPG_no bF.drew)
  · obtain rfl : E = 0 := Decidable.not_not.1 hE
    have hVs : w.heap.size + 1 < V.heap.size := hV
    have HG : (progI numT L).2.bad = false → Behind (progI numT L).1.all ∧ ∀ x ∈ (progI numT L).1.all, 0 ≤ x.kind ∧ x.kind ≤ 7 := fun h => ⟨(prog_good h).2.2.behind, prog_kinds h⟩
    have HA := (prog_all L).2
    have hn4 := hTk.len
    unfold AnsPr at PG
    cases hbad : (progI numT L).2.bad with
    | true =>
      rw [parseI_bad hl hbad]
      rw [hbad] at PG
      have PL := fun (w3 : World) (R : Nat) ta tc (i l o : Value) al S (T : Tq V w3 R ta tc i l o L (progI numT L).2.pos al S) => PLC w3 R ta tc i l o L (progI numT L).2.pos al S T
      generalize plcI s L (progI numT L).2.pos = zz at *
      obtain ⟨zl, zc⟩ := zz
      dsimp only at PL
      generalize (progI numT L).2.pos = Q at *
      clear PLC hl hE hs he heV hTk hV hVV HG HA hn4 hbad
      go_enter Tryz.func10, Tryz.ntmps10
      go_wp2_with (first
        | (go_at_call 25; ((with_reducible refine Calls.mono LX ?_); rintro e w1 ⟨la, lc, rfl, o1⟩; have N := boxes1 w1 #[.int .i64 pl, .int .i64 pc] 29; have D1 := (b1.more o1.below).more N.2.1; have D2 := (b2.more o1.below).more N.2.1; have BV1 := below_more o1.below N.2.1; have hq : w.heap.size + 1 < w1.heap.size := Nat.lt_of_lt_of_le hVs o1.below.size; have NR := boxes1 (w1.alloc (.cells #[.int .i64 pl, .int .i64 pc] 29)) #[.slice la L.length lc, .slice none 0 0, .slice none 0 0, .slice none 0 0, .slice none 0 0, .slice none 0 0] 59; have hz1 : (w1.alloc (.cells #[.int .i64 pl, .int .i64 pc] 29)).heap.size = w1.heap.size + 1 := (by simp); have NB := NR.1; rw [hz1] at NB; have T0 := tq_start (by have := BV1.size; omega) NB ((o1.alloc (.cells #[.int .i64 pl, .int .i64 pc] 29)).more NR.2.1)))
        | (go_at_call 26; (with_reducible refine Calls.mono (PG _ _ _ _ T0) ?_); rintro e w3 ⟨rfl, ⟨ia, il, ic, ta, ll, tc, oa, ol, oc, al, S, T3, -⟩, K3⟩; have E1 := (D1.more NR.2.1).keep K3 (by unfold TYL TY; decide); have E2 := (D2.more NR.2.1).keep K3 (by unfold TYL TY; decide))
        | (go_at_call 27; (with_reducible refine Calls.mono (PL _ _ _ _ _ _ _ _ _ T3) ?_); rintro e w4 ⟨rfl, d4⟩; have G1 := E1.more d4; have G2 := E2.more d4; have BW4 := below_more T3.below d4; have c0 := (G1.cell 0).1; have c1 := (G1.cell 1).1; have c2 := (G1.cell 2).1; have c3 := (G1.cell 3).1; have c4 := (G2.cell 0).1; have c5 := (G2.cell 1).1; have f0 := (G1.cell 0).2; have f1 := (G1.cell 1).2; have f2 := (G1.cell 2).2; have f3 := (G1.cell 3).2; have f4 := (G2.cell 0).2; have f5 := (G2.cell 1).2))
      obtain ⟨F, hF, g0, g1, g2, g3, g4, g5, bF, kF⟩ := pg_store G1 G2 (Nat.le_refl _) (below_more bV BW4) (.slice none 0 0) (.slice none 0 0) (.slice none 0 0) (.slice none 0 0) (.int .i64 zl) (.int .i64 zc)
      rw [hF]
      exact bodyPost_ret (v := .tuple #[.agg #[.slice none 0 0, .slice none 0 0, .slice none 0 0, .slice none 0 0], .agg #[.int .i64 zl, .int .i64 zc], .int .i64 5]) (by simp [results, Tryz.results10, go_sem, g0, g1, g2, g3, g4, g5]) rfl (ansPG_no bF)
    | false =>
      obtain ⟨hBh, hKd⟩ := HG hbad
      rw [hbad] at PG
      obtain ⟨f, hf⟩ : ∃ f, (decide ((progI numT L).1.all.length ≤ 400) && decide ((progI numT L).1.ins.length ≤ 40) && decide ((progI numT L).1.lets.length ≤ 40) && decide ((progI numT L).1.outs.length ≤ 40)) = f := ⟨_, rfl⟩
      obtain ⟨lw, hlw⟩ : ∃ lw, (!(List.range (progI numT L).1.all.length).any fun k => decide (60 < tallI (progI numT L).1.all k)) = lw := ⟨_, rfl⟩
      rw [parseI_rest hl hbad (long_few hf hlw)]
      generalize (progI numT L).1 = p at *
      generalize (progI numT L).2.pos = Q at *
      have hn5 : p.all.length ≤ 100000 := by omega
      have FW := fun (v : World) (ic tc oc c : Nat) (ia ta oa a : Option Addr) => tree_few p.ins.length ic p.lets.length tc p.outs.length oc p.all.length c ia ta oa a f hf v
      have LW : ∀ (v : World) (a : Option Addr) (c : Nat), NodesM V v a c p.all → Calls Tryz.prog 29 #[.slice a p.all.length c] v fun e w' => e = .returned (.bool lw) ∧ Below v.heap.size v w' := by
        intro v a c N
        obtain ⟨ms, i1, i2, i3, i4, i5⟩ := N.isn
        exact tree_low (c := c) i1 hn5 (by rw [i2]; exact hBh) (fun m hm => by
          have : m.1.nd ∈ p.all := by rw [← i2]; exact List.mem_map_of_mem hm
          exact hKd m.1.nd this) i4 lw (by rw [i2]; exact hlw)
      clear HG hBh hKd hl hE hs he heV hTk hV hVV HA hn4 hbad hn5 PLC hf hlw
      cases f with
      | false =>
        rw [if_pos (by simp)]
        go_enter Tryz.func10, Tryz.ntmps10
        go_wp2_with (first
          | (go_at_call 25; ((with_reducible refine Calls.mono LX ?_); rintro e w1 ⟨la, lc, rfl, o1⟩; have N := boxes1 w1 #[.int .i64 pl, .int .i64 pc] 29; have D1 := (b1.more o1.below).more N.2.1; have D2 := (b2.more o1.below).more N.2.1; have BV1 := below_more o1.below N.2.1; have hq : w.heap.size + 1 < w1.heap.size := Nat.lt_of_lt_of_le hVs o1.below.size; have NR := boxes1 (w1.alloc (.cells #[.int .i64 pl, .int .i64 pc] 29)) #[.slice la L.length lc, .slice none 0 0, .slice none 0 0, .slice none 0 0, .slice none 0 0, .slice none 0 0] 59; have hz1 : (w1.alloc (.cells #[.int .i64 pl, .int .i64 pc] 29)).heap.size = w1.heap.size + 1 := (by simp); have NB := NR.1; rw [hz1] at NB; have T0 := tq_start (by have := BV1.size; omega) NB ((o1.alloc (.cells #[.int .i64 pl, .int .i64 pc] 29)).more NR.2.1)))
          | (go_at_call 26; (with_reducible refine Calls.mono (PG _ _ _ _ T0) ?_); rintro e w3 ⟨rfl, ⟨ia, il, ic, ta, ll, tc, oa, ol, oc, al, S, T3, h3⟩, K3⟩; have E1 := (D1.more NR.2.1).keep K3 (by unfold TYL TY; decide); have E2 := (D2.more NR.2.1).keep K3 (by unfold TYL TY; decide); obtain ⟨rfl, rfl, rfl, rfl, OI, OL, OO⟩ := h3 trivial; obtain ⟨aa, ac, x1, x2, x3, x4, NM⟩ := T3.prog)
          | (go_at_call 28; (with_reducible refine Calls.mono (FW _ _ _ _ _ _ _ _ _) ?_); rintro e w4 ⟨rfl, d4⟩; have T4 := T3.more d4; have NM4 := NM.more d4; obtain ⟨y1, y2, y3, -, -, -, -⟩ := T4.cells; have y4 : w4.cell? ⟨w1.heap.size + 1, 4, none⟩ = some (.slice aa p.all.length ac) := (by rw [d4.cell (World.block_lt_of_cell? w3 _ x4)]; exact x4); have G1 := E1.more d4; have G2 := E2.more d4; have c0 := (G1.cell 0).1; have c1 := (G1.cell 1).1; have c2 := (G1.cell 2).1; have c3 := (G1.cell 3).1; have c4 := (G2.cell 0).1; have c5 := (G2.cell 1).1; have f0 := (G1.cell 0).2; have f1 := (G1.cell 1).2; have f2 := (G1.cell 2).2; have f3 := (G1.cell 3).2; have f4 := (G2.cell 0).2; have f5 := (G2.cell 1).2))
        obtain ⟨F, hF, g0, g1, g2, g3, g4, g5, bF, kF⟩ := pg_store G1 G2 (Nat.le_refl _) (below_more bV T4.below) (.slice none 0 0) (.slice none 0 0) (.slice none 0 0) (.slice none 0 0) (.int .i64 1) (.int .i64 1)
        rw [hF]
        exact bodyPost_ret (v := .tuple #[.agg #[.slice none 0 0, .slice none 0 0, .slice none 0 0, .slice none 0 0], .agg #[.int .i64 1, .int .i64 1], .int .i64 4]) (by simp [results, Tryz.results10, go_sem, g0, g1, g2, g3, g4, g5]) rfl (ansPG_no bF)
      | true =>
        cases lw with
        | false =>
          rw [if_pos (by simp)]
          go_enter Tryz.func10, Tryz.ntmps10
          go_wp2_with (first
            | (go_at_call 25; ((with_reducible refine Calls.mono LX ?_); rintro e w1 ⟨la, lc, rfl, o1⟩; have N := boxes1 w1 #[.int .i64 pl, .int .i64 pc] 29; have D1 := (b1.more o1.below).more N.2.1; have D2 := (b2.more o1.below).more N.2.1; have BV1 := below_more o1.below N.2.1; have hq : w.heap.size + 1 < w1.heap.size := Nat.lt_of_lt_of_le hVs o1.below.size; have NR := boxes1 (w1.alloc (.cells #[.int .i64 pl, .int .i64 pc] 29)) #[.slice la L.length lc, .slice none 0 0, .slice none 0 0, .slice none 0 0, .slice none 0 0, .slice none 0 0] 59; have hz1 : (w1.alloc (.cells #[.int .i64 pl, .int .i64 pc] 29)).heap.size = w1.heap.size + 1 := (by simp); have NB := NR.1; rw [hz1] at NB; have T0 := tq_start (by have := BV1.size; omega) NB ((o1.alloc (.cells #[.int .i64 pl, .int .i64 pc] 29)).more NR.2.1)))
            | (go_at_call 26; (with_reducible refine Calls.mono (PG _ _ _ _ T0) ?_); rintro e w3 ⟨rfl, ⟨ia, il, ic, ta, ll, tc, oa, ol, oc, al, S, T3, h3⟩, K3⟩; have E1 := (D1.more NR.2.1).keep K3 (by unfold TYL TY; decide); have E2 := (D2.more NR.2.1).keep K3 (by unfold TYL TY; decide); obtain ⟨rfl, rfl, rfl, rfl, OI, OL, OO⟩ := h3 trivial; obtain ⟨aa, ac, x1, x2, x3, x4, NM⟩ := T3.prog)
            | (go_at_call 28; (with_reducible refine Calls.mono (FW _ _ _ _ _ _ _ _ _) ?_); rintro e w4 ⟨rfl, d4⟩; have T4 := T3.more d4; have NM4 := NM.more d4; obtain ⟨y1, y2, y3, -, -, -, -⟩ := T4.cells; have y4 : w4.cell? ⟨w1.heap.size + 1, 4, none⟩ = some (.slice aa p.all.length ac) := (by rw [d4.cell (World.block_lt_of_cell? w3 _ x4)]; exact x4); have G1 := E1.more d4; have G2 := E2.more d4; have c0 := (G1.cell 0).1; have c1 := (G1.cell 1).1; have c2 := (G1.cell 2).1; have c3 := (G1.cell 3).1; have c4 := (G2.cell 0).1; have c5 := (G2.cell 1).1; have f0 := (G1.cell 0).2; have f1 := (G1.cell 1).2; have f2 := (G1.cell 2).2; have f3 := (G1.cell 3).2; have f4 := (G2.cell 0).2; have f5 := (G2.cell 1).2)
            | (go_at_call 29; (with_reducible refine Calls.mono (LW _ _ _ NM4) ?_); rintro e w5 ⟨rfl, d5⟩; have T5 := T4.more d5; obtain ⟨z1, z2, z3, -, -, -, -⟩ := T5.cells; have z4 : w5.cell? ⟨w1.heap.size + 1, 4, none⟩ = some (.slice aa p.all.length ac) := (by rw [d5.cell (World.block_lt_of_cell? w4 _ y4)]; exact y4); have H1 := G1.more d5; have H2 := G2.more d5; have u0 := (H1.cell 0).1; have u1 := (H1.cell 1).1; have u2 := (H1.cell 2).1; have u3 := (H1.cell 3).1; have u4 := (H2.cell 0).1; have u5 := (H2.cell 1).1; have h0 := (H1.cell 0).2; have h1 := (H1.cell 1).2; have h2 := (H1.cell 2).2; have h3 := (H1.cell 3).2; have h4 := (H2.cell 0).2; have h5 := (H2.cell 1).2))
          obtain ⟨F, hF, g0, g1, g2, g3, g4, g5, bF, kF⟩ := pg_store H1 H2 (Nat.le_refl _) (below_more bV T5.below) (.slice none 0 0) (.slice none 0 0) (.slice none 0 0) (.slice none 0 0) (.int .i64 1) (.int .i64 1)
          rw [hF]
          exact bodyPost_ret (v := .tuple #[.agg #[.slice none 0 0, .slice none 0 0, .slice none 0 0, .slice none 0 0], .agg #[.int .i64 1, .int .i64 1], .int .i64 4]) (by simp [results, Tryz.results10, go_sem, g0, g1, g2, g3, g4, g5]) rfl (ansPG_no bF)
        | true =>
          rw [if_neg (by simp)]
          go_enter Tryz.func10, Tryz.ntmps10
          go_wp2_with (first
            | (go_at_call 25; ((with_reducible refine Calls.mono LX ?_); rintro e w1 ⟨la, lc, rfl, o1⟩; have N := boxes1 w1 #[.int .i64 pl, .int .i64 pc] 29; have D1 := (b1.more o1.below).more N.2.1; have D2 := (b2.more o1.below).more N.2.1; have BV1 := below_more o1.below N.2.1; have hq : w.heap.size + 1 < w1.heap.size := Nat.lt_of_lt_of_le hVs o1.below.size; have NR := boxes1 (w1.alloc (.cells #[.int .i64 pl, .int .i64 pc] 29)) #[.slice la L.length lc, .slice none 0 0, .slice none 0 0, .slice none 0 0, .slice none 0 0, .slice none 0 0] 59; have hz1 : (w1.alloc (.cells #[.int .i64 pl, .int .i64 pc] 29)).heap.size = w1.heap.size + 1 := (by simp); have NB := NR.1; rw [hz1] at NB; have T0 := tq_start (by have := BV1.size; omega) NB ((o1.alloc (.cells #[.int .i64 pl, .int .i64 pc] 29)).more NR.2.1)))
            | (go_at_call 26; (with_reducible refine Calls.mono (PG _ _ _ _ T0) ?_); rintro e w3 ⟨rfl, ⟨ia, il, ic, ta, ll, tc, oa, ol, oc, al, S, T3, h3⟩, K3⟩; have E1 := (D1.more NR.2.1).keep K3 (by unfold TYL TY; decide); have E2 := (D2.more NR.2.1).keep K3 (by unfold TYL TY; decide); obtain ⟨rfl, rfl, rfl, rfl, OI, OL, OO⟩ := h3 trivial; obtain ⟨aa, ac, x1, x2, x3, x4, NM⟩ := T3.prog)
            | (go_at_call 28; (with_reducible refine Calls.mono (FW _ _ _ _ _ _ _ _ _) ?_); rintro e w4 ⟨rfl, d4⟩; have T4 := T3.more d4; have NM4 := NM.more d4; obtain ⟨y1, y2, y3, -, -, -, -⟩ := T4.cells; have y4 : w4.cell? ⟨w1.heap.size + 1, 4, none⟩ = some (.slice aa p.all.length ac) := (by rw [d4.cell (World.block_lt_of_cell? w3 _ x4)]; exact x4); have G1 := E1.more d4; have G2 := E2.more d4; have c0 := (G1.cell 0).1; have c1 := (G1.cell 1).1; have c2 := (G1.cell 2).1; have c3 := (G1.cell 3).1; have c4 := (G2.cell 0).1; have c5 := (G2.cell 1).1; have f0 := (G1.cell 0).2; have f1 := (G1.cell 1).2; have f2 := (G1.cell 2).2; have f3 := (G1.cell 3).2; have f4 := (G2.cell 0).2; have f5 := (G2.cell 1).2)
            | (go_at_call 29; (with_reducible refine Calls.mono (LW _ _ _ NM4) ?_); rintro e w5 ⟨rfl, d5⟩; have T5 := T4.more d5; obtain ⟨z1, z2, z3, -, -, -, -⟩ := T5.cells; have z4 : w5.cell? ⟨w1.heap.size + 1, 4, none⟩ = some (.slice aa p.all.length ac) := (by rw [d5.cell (World.block_lt_of_cell? w4 _ y4)]; exact y4); have H1 := G1.more d5; have H2 := G2.more d5; have u0 := (H1.cell 0).1; have u1 := (H1.cell 1).1; have u2 := (H1.cell 2).1; have u3 := (H1.cell 3).1; have u4 := (H2.cell 0).1; have u5 := (H2.cell 1).1; have h0 := (H1.cell 0).2; have h1 := (H1.cell 1).2; have h2 := (H1.cell 2).2; have h3 := (H1.cell 3).2; have h4 := (H2.cell 0).2; have h5 := (H2.cell 1).2))
          obtain ⟨F, hF, g0, g1, g2, g3, g4, g5, bF, kF⟩ := pg_store H1 H2 (Nat.le_refl _) (below_more bV T5.below) (.slice ia p.ins.length ic) (.slice ta p.lets.length tc) (.slice oa p.outs.length oc) (.slice aa p.all.length ac) (.int .i64 0) (.int .i64 0)
          rw [hF]
          exact bodyPost_ret (v := .tuple #[.agg #[.slice ia p.ins.length ic, .slice ta p.lets.length tc, .slice oa p.outs.length oc, .slice aa p.all.length ac], .agg #[.int .i64 0, .int .i64 0], .int .i64 0]) (by simp [results, Tryz.results10, go_sem, g0, g1, g2, g3, g4, g5]) rfl (pg_good OI OL OO NM4 d4 d5 kF bF (by decide) (by decide) (by decide) (by decide))
end Go.Proofs.YtbcfplaalepnbaaGreatDoor
namespace Go.Proofs.YtbcfplaalepnbaaGreatDoor
open Go.RowKit Go.Lib
set_option maxHeartbeats 8000000 in
theorem ref_tnamesEq {w : World} {a b : Option Addr} {n c d : Nat} {xs : List ByteArray} (h1 : IsS w a n xs) (h2 : IsS w b n xs) (hn : n ≤ 100000) :
    Calls Tryz.prog 35 #[.slice a n c, .slice b n d] w fun e w' => e = .returned (.bool true) ∧ Below w.heap.size w w' := by
  have HH : Hid (IsS w a n xs ∧ IsS w b n xs ∧ n ≤ 100000) := ⟨h1, h2, hn⟩
  clear h1 h2 hn
  go_enter Tryz.func35, Tryz.ntmps35
  go_wp2
  go_loopg [5] n (fun g s5 v => ∃ t : Nat, s5 = .int .i64 t ∧ t + g = n ∧ Below w.heap.size w v)
  case atStart => exact ⟨0, rfl, by omega, Below.refl _ _⟩
  case round =>
    obtain ⟨t, rfl, hg, bw⟩ := hrel
    obtain ⟨h1, h2, hn⟩ := HH.out
    rcases Nat.lt_or_ge t n with ht | ht
    · have p1 : (t : Int) < n := by omega
      obtain ⟨g1, o1, rfl, c1⟩ := (h1.below bw).2.resolve_left (by omega)
      obtain ⟨g2, o2, rfl, c2⟩ := (h2.below bw).2.resolve_left (by omega)
      obtain ⟨x, hx⟩ : ∃ x, xs[t]? = some x := ⟨_, List.getElem?_eq_getElem (by have := h1.1; omega)⟩
      have k1 := c1 t x hx
      have k2 := c2 t x hx
      have HW : Hid (wrap64 ((t : Int) + 1) = (t : Int) + 1) := wrap_smalls (by omega) (by omega)
      have HN : Hid (t + 1 + (n - (t + 1)) = n ∧ n - (t + 1) < gk ∧ Below w.heap.size w wr) := ⟨by omega, by omega, bw⟩
      clear hg bw h1 h2 hn c1 c2 hx HH
      have wT := HW.out
      go_wp2
      go_quiet (fail)
      obtain ⟨j2, j3, j4⟩ := HN.out
      go_wp2
      go_roundg (n - (t + 1))
      case measure => exact j3
      case rel => exact ⟨t + 1, by first | rfl | (rw [wT]; rfl), j2, below_drewN j4 _⟩
    · have p1 : ¬ (t : Int) < n := by omega
      obtain rfl : t = n := by omega
      clear hg h1 h2 hn HH
      go_wp2
      go_ret
      exact ⟨rfl, bw⟩
set_option maxHeartbeats 8000000 in
theorem ref_tnodeEq {w : World} {k a b x : Int} {nm : ByteArray} {ng : Bool} {ua va ua' va' : Option Addr} {n m uc vc n' m' uc' vc' : Nat} {xs ys : List Int} (h : IsWords w (.slice ua n uc) xs) (g : IsWords w (.slice va m vc) ys) (h' : IsWords w (.slice ua' n' uc') xs) (g' : IsWords w (.slice va' m' vc') ys) :
    Calls Tryz.prog 34 #[.agg #[.int .i64 k, .int .i64 a, .int .i64 b, .int .i64 x, .string nm, .bool ng, .slice ua n uc, .slice va m vc], .agg #[.int .i64 k, .int .i64 a, .int .i64 b, .int .i64 x, .string nm, .bool ng, .slice ua' n' uc', .slice va' m' vc']] w fun e w' => e = .returned (.bool true) ∧ Below w.heap.size w w' := by
  obtain ⟨b1, b2, bV, hs⟩ := boxes2 w #[.int .i64 k, .int .i64 a, .int .i64 b, .int .i64 x, .string nm, .bool ng, .slice ua n uc, .slice va m vc] #[.int .i64 k, .int .i64 a, .int .i64 b, .int .i64 x, .string nm, .bool ng, .slice ua' n' uc', .slice va' m' vc'] 44 44
  have EQ := fun (v : World) (d : Below w.heap.size w v) => ref_requal (s := ng) (s' := ng) (h.below d) (g.below d) (h'.below d) (g'.below d) true (by simp)
  have e1 : (k == k) = true := by simp
  have e2 : (a == a) = true := by simp
  have e3 : (b == b) = true := by simp
  have e4 : (x == x) = true := by simp
  have HB : Hid (Below w.heap.size w _) := bV
  clear b1 b2 hs h g h' g'
  go_enter Tryz.func34, Tryz.ntmps34
  go_wp2_with (go_at_call 64; (with_reducible refine Calls.mono (EQ _ HB.out) ?_); rintro e w1 ⟨rfl, d1⟩)
  go_ret
  exact ⟨rfl, below_more HB.out d1⟩
set_option maxHeartbeats 32000000 in
theorem ref_tsame {w : World} {ia la oa a ia' la' oa' a' : Option Addr} {il ic ln lc ol oc n c ic' lc' oc' c' : Nat} {ins outs : List ByteArray} {ls : List (ByteArray × Int)} {ms ms' : List Mn}
    (h1 : IsS w ia il ins) (h1' : IsS w ia' il ins) (h2 : IsLt w la ln ls) (h2' : IsLt w la' ln ls) (h3 : IsS w oa ol outs) (h3' : IsS w oa' ol outs) (h4 : IsN w a n ms) (h4' : IsN w a' n ms') (h5 : NdR w ms) (h5' : NdR w ms') (he : ms.map (·.1) = ms'.map (·.1)) (hb : il ≤ 100000 ∧ ln ≤ 100000 ∧ ol ≤ 100000 ∧ n ≤ 100000) :
    Calls Tryz.prog 12 #[.agg #[.slice ia il ic, .slice la ln lc, .slice oa ol oc, .slice a n c], .agg #[.slice ia' il ic', .slice la' ln lc', .slice oa' ol oc', .slice a' n c']] w fun e w' => e = .returned (.bool true) ∧ Below w.heap.size w w' := by
  obtain ⟨b1, b2, bV, hs⟩ := boxes2 w #[.slice ia il ic, .slice la ln lc, .slice oa ol oc, .slice a n c] #[.slice ia' il ic', .slice la' ln lc', .slice oa' ol oc', .slice a' n c'] 27 27
  have HH : Hid (IsS w ia il ins ∧ IsS w ia' il ins ∧ IsLt w la ln ls ∧ IsLt w la' ln ls ∧ IsS w oa ol outs ∧ IsS w oa' ol outs ∧ IsN w a n ms ∧ IsN w a' n ms' ∧ NdR w ms ∧ NdR w ms' ∧ ms.map (·.1) = ms'.map (·.1) ∧ il ≤ 100000 ∧ ln ≤ 100000 ∧ ol ≤ 100000 ∧ n ≤ 100000) := ⟨h1, h1', h2, h2', h3, h3', h4, h4', h5, h5', he, hb.1, hb.2.1, hb.2.2.1, hb.2.2.2⟩
  have CB : Hid (∀ v, Below ((w.alloc (.cells #[.slice ia il ic, .slice la ln lc, .slice oa ol oc, .slice a n c] 27)).alloc (.cells #[.slice ia' il ic', .slice la' ln lc', .slice oa' ol oc', .slice a' n c'] 27)).heap.size ((w.alloc (.cells #[.slice ia il ic, .slice la ln lc, .slice oa ol oc, .slice a n c] 27)).alloc (.cells #[.slice ia' il ic', .slice la' ln lc', .slice oa' ol oc', .slice a' n c'] 27)) v →
      v.cell? ⟨w.heap.size, 0, none⟩ = some (.slice ia il ic) ∧ v.cell? ⟨w.heap.size, 1, none⟩ = some (.slice la ln lc) ∧ v.cell? ⟨w.heap.size, 2, none⟩ = some (.slice oa ol oc) ∧ v.cell? ⟨w.heap.size, 3, none⟩ = some (.slice a n c) ∧ v.cell? ⟨w.heap.size + 1, 0, none⟩ = some (.slice ia' il ic') ∧ v.cell? ⟨w.heap.size + 1, 1, none⟩ = some (.slice la' ln lc') ∧ v.cell? ⟨w.heap.size + 1, 2, none⟩ = some (.slice oa' ol oc') ∧ v.cell? ⟨w.heap.size + 1, 3, none⟩ = some (.slice a' n c')) := fun v d =>
    ⟨((b1.more d).cell 0).1, ((b1.more d).cell 1).1, ((b1.more d).cell 2).1, ((b1.more d).cell 3).1, ((b2.more d).cell 0).1, ((b2.more d).cell 1).1, ((b2.more d).cell 2).1, ((b2.more d).cell 3).1⟩
  have HV : Hid (Below w.heap.size w ((w.alloc (.cells #[.slice ia il ic, .slice la ln lc, .slice oa ol oc, .slice a n c] 27)).alloc (.cells #[.slice ia' il ic', .slice la' ln lc', .slice oa' ol oc', .slice a' n c'] 27)) ∧ w.heap.size + 1 < ((w.alloc (.cells #[.slice ia il ic, .slice la ln lc, .slice oa ol oc, .slice a n c] 27)).alloc (.cells #[.slice ia' il ic', .slice la' ln lc', .slice oa' ol oc', .slice a' n c'] 27)).heap.size) := ⟨bV, hs⟩
  clear h1 h1' h2 h2' h3 h3' h4 h4' h5 h5' he hb b1 b2 bV hs
  go_enter Tryz.func12, Tryz.ntmps12
  go_wp2
  generalize (w.alloc (.cells #[.slice ia il ic, .slice la ln lc, .slice oa ol oc, .slice a n c] 27)).alloc (.cells #[.slice ia' il ic', .slice la' ln lc', .slice oa' ol oc', .slice a' n c'] 27) = V at *
  go_loopg [5] ln (fun g s5 v => ∃ t : Nat, s5 = .int .i64 t ∧ t + g = ln ∧ Below V.heap.size V v)
  case atStart => exact ⟨0, rfl, by omega, Below.refl _ _⟩
  case round =>
    obtain ⟨t, rfl, hg, bw⟩ := hrel
    have hL1 := HH.out.2.2.1
    have hL2 := HH.out.2.2.2.1
    have hln := HH.out.2.2.2.2.2.2.2.2.2.2.2.2.1
    have bW := below_more HV.out.1 bw
    have hsz : w.heap.size + 1 < wr.heap.size := Nat.lt_of_lt_of_le HV.out.2 bw.size
    obtain ⟨x0, x1, x2, x3, y0, y1, y2, y3⟩ := CB.out wr bw
    rcases Nat.lt_or_ge t ln with ht | ht
    · have p1 : (t : Int) < ln := by omega
      obtain ⟨g1, o1, rfl, c1⟩ := (hL1.below bW).2.resolve_left (by omega)
      obtain ⟨g2, o2, rfl, c2⟩ := (hL2.below bW).2.resolve_left (by omega)
      obtain ⟨⟨nm, rt⟩, hx⟩ : ∃ x, ls[t]? = some x := ⟨_, List.getElem?_eq_getElem (by have := hL1.1; omega)⟩
      obtain ⟨k1, k2⟩ := c1 t _ hx
      obtain ⟨k3, k4⟩ := c2 t _ hx
      dsimp only at k1 k2 k3 k4
      have HW : Hid (wrap64 ((t : Int) + 1) = (t : Int) + 1) := wrap_smalls (by omega) (by omega)
      have HN : Hid (t + 1 + (ln - (t + 1)) = ln ∧ ln - (t + 1) < gk ∧ Below V.heap.size V wr) := ⟨by omega, by omega, bw⟩
      clear hg bw hL1 hL2 hln c1 c2 hx HH bW
      have wT := HW.out
      go_wp2
      go_quiet (fail)
      obtain ⟨j2, j3, j4⟩ := HN.out
      go_wp2
      go_roundg (ln - (t + 1))
      case measure => exact j3
      case rel => exact ⟨t + 1, by first | rfl | (rw [wT]; rfl), j2, below_drewN j4 _⟩
    · have p1 : ¬ (t : Int) < ln := by omega
      obtain rfl : t = ln := by omega
      clear hg hL1 hL2 hln bW
      have HP : Hid (Below V.heap.size V wr) := bw
      go_wp2
      go_loopg [6] n (fun g s6 v => ∃ k : Nat, s6 = .int .i64 k ∧ k + g = n ∧ Below V.heap.size V v)
      case atStart => exact ⟨0, rfl, by omega, HP.out⟩
      case round =>
        obtain ⟨k, rfl, hg, bw⟩ := hrel
        obtain ⟨i1, i1', -, -, i3, i3', i4, i4', i5, i5', he, hil, -, hol, hn⟩ := HH.out
        have bW := below_more HV.out.1 bw
        have hsz : w.heap.size + 1 < wr.heap.size := Nat.lt_of_lt_of_le HV.out.2 bw.size
        obtain ⟨x0, x1, x2, x3, y0, y1, y2, y3⟩ := CB.out wr bw
        rcases Nat.lt_or_ge k n with hk | hk
        · have p1 : (k : Int) < n := by omega
          obtain ⟨m, hm⟩ : ∃ m, ms[k]? = some m := ⟨_, List.getElem?_eq_getElem (by have := i4.1; omega)⟩
          obtain ⟨m', hm'⟩ : ∃ m', ms'[k]? = some m' := ⟨_, List.getElem?_eq_getElem (by have := i4'.1; omega)⟩
          have hmm : m'.1 = m.1 := by
            have q := congrArg (fun l => l[k]?) he
            simp only [List.getElem?_map, hm, hm', Option.map_some] at q
            injection q with q
            exact q.symm
          obtain ⟨⟨ux, uy, hu, hu'⟩, ⟨vx, vy, hv, hv'⟩, -⟩ := i5 m (List.mem_of_getElem? hm)
          obtain ⟨⟨ux', uy', hx, hx'⟩, ⟨vx', vy', hy, hy'⟩, -⟩ := i5' m' (List.mem_of_getElem? hm')
          rw [hmm] at hx hx' hy hy'
          obtain ⟨gm, om, rfl, -⟩ := i4.node hm
          obtain ⟨gp, op, rfl, -⟩ := i4'.node hm'
          have CE := fun (v : World) (b : Below w.heap.size w v) => i4.at hm v b
          have CF := fun (v : World) (b : Below w.heap.size w v) => i4'.at hm' v b
          simp only [hu, hv] at CE
          simp only [hx, hy, hmm] at CF
          have NQ := fun (v : World) (b : Below w.heap.size w v) => ref_tnodeEq (k := m.1.kind) (a := m.1.a) (b := m.1.b) (x := m.1.exp) (nm := m.1.name) (ng := m.1.neg) (hu'.below b) (hv'.below b) (hx'.below b) (hy'.below b)
          have SO : ∀ v, Below wr.heap.size wr v → (v.cell? ⟨w.heap.size, 3, none⟩ = some (.slice (some ⟨gm, om, none⟩) n c) ∧ v.cell? ⟨w.heap.size + 1, 3, none⟩ = some (.slice (some ⟨gp, op, none⟩) n c') ∧ v.cell? ⟨gm, om + k * 8, none⟩ = some (.int .i64 m.1.kind) ∧ v.cell? ⟨gm, om + k * 8 + 1, none⟩ = some (.int .i64 m.1.a) ∧ v.cell? ⟨gm, om + k * 8 + 2, none⟩ = some (.int .i64 m.1.b) ∧ v.cell? ⟨gm, om + k * 8 + 3, none⟩ = some (.int .i64 m.1.exp) ∧ v.cell? ⟨gm, om + k * 8 + 4, none⟩ = some (.string m.1.name) ∧ v.cell? ⟨gm, om + k * 8 + 5, none⟩ = some (.bool m.1.neg) ∧ v.cell? ⟨gm, om + k * 8 + 6, none⟩ = some (.slice ux m.1.xs.length uy) ∧ v.cell? ⟨gm, om + k * 8 + 7, none⟩ = some (.slice vx m.1.ys.length vy) ∧ v.cell? ⟨gp, op + k * 8, none⟩ = some (.int .i64 m.1.kind) ∧ v.cell? ⟨gp, op + k * 8 + 1, none⟩ = some (.int .i64 m.1.a) ∧ v.cell? ⟨gp, op + k * 8 + 2, none⟩ = some (.int .i64 m.1.b) ∧ v.cell? ⟨gp, op + k * 8 + 3, none⟩ = some (.int .i64 m.1.exp) ∧ v.cell? ⟨gp, op + k * 8 + 4, none⟩ = some (.string m.1.name) ∧ v.cell? ⟨gp, op + k * 8 + 5, none⟩ = some (.bool m.1.neg) ∧ v.cell? ⟨gp, op + k * 8 + 6, none⟩ = some (.slice ux' m.1.xs.length uy') ∧ v.cell? ⟨gp, op + k * 8 + 7, none⟩ = some (.slice vx' m.1.ys.length vy')) := fun v b => by
            have c1 := CB.out v (below_more bw b)
            have c2 := CE v (below_more bW b)
            have c3 := CF v (below_more bW b)
            exact ⟨c1.2.2.2.1, c1.2.2.2.2.2.2.2, c2.1, c2.2.1, c2.2.2.1, c2.2.2.2.1, c2.2.2.2.2.1, c2.2.2.2.2.2.1, c2.2.2.2.2.2.2.1, c2.2.2.2.2.2.2.2, c3⟩
          have HW : Hid (wrap64 ((k : Int) + 1) = (k : Int) + 1) := wrap_smalls (by omega) (by omega)
          have HN : Hid (k + 1 + (n - (k + 1)) = n ∧ n - (k + 1) < gk) := ⟨by omega, by omega⟩
          clear hg i1 i1' i3 i3' i4 i4' i5 i5' he hil hol hn hm hm' hmm hu hv hx hy hu' hv' hx' hy' HH CB CE CF
          have bs := (Below.refl wr.heap.size wr).drew
          have b0 := Below.refl wr.heap.size wr
          go_wp2
          go_region_held3 (fun v => v.cell? ⟨w.heap.size, 3, none⟩ = some (.slice (some ⟨gm, om, none⟩) n c) ∧ v.cell? ⟨w.heap.size + 1, 3, none⟩ = some (.slice (some ⟨gp, op, none⟩) n c') ∧ v.cell? ⟨gm, om + k * 8, none⟩ = some (.int .i64 m.1.kind) ∧ v.cell? ⟨gm, om + k * 8 + 1, none⟩ = some (.int .i64 m.1.a) ∧ v.cell? ⟨gm, om + k * 8 + 2, none⟩ = some (.int .i64 m.1.b) ∧ v.cell? ⟨gm, om + k * 8 + 3, none⟩ = some (.int .i64 m.1.exp) ∧ v.cell? ⟨gm, om + k * 8 + 4, none⟩ = some (.string m.1.name) ∧ v.cell? ⟨gm, om + k * 8 + 5, none⟩ = some (.bool m.1.neg) ∧ v.cell? ⟨gm, om + k * 8 + 6, none⟩ = some (.slice ux m.1.xs.length uy) ∧ v.cell? ⟨gm, om + k * 8 + 7, none⟩ = some (.slice vx m.1.ys.length vy) ∧ v.cell? ⟨gp, op + k * 8, none⟩ = some (.int .i64 m.1.kind) ∧ v.cell? ⟨gp, op + k * 8 + 1, none⟩ = some (.int .i64 m.1.a) ∧ v.cell? ⟨gp, op + k * 8 + 2, none⟩ = some (.int .i64 m.1.b) ∧ v.cell? ⟨gp, op + k * 8 + 3, none⟩ = some (.int .i64 m.1.exp) ∧ v.cell? ⟨gp, op + k * 8 + 4, none⟩ = some (.string m.1.name) ∧ v.cell? ⟨gp, op + k * 8 + 5, none⟩ = some (.bool m.1.neg) ∧ v.cell? ⟨gp, op + k * 8 + 6, none⟩ = some (.slice ux' m.1.xs.length uy') ∧ v.cell? ⟨gp, op + k * 8 + 7, none⟩ = some (.slice vx' m.1.ys.length vy'))
            ((refine SO _ ?_; first | exact bs | exact bs.drew | exact b0))
            (first
            | (go_at_call 34; (with_reducible refine Calls.mono (NQ _ (below_more bW bs)) ?_); rintro e w2 ⟨rfl, d2⟩; replace bs := below_more bs d2))
          all_goals
            have wT := HW.out
            go_wp2
            obtain ⟨j2, j3⟩ := HN.out
            go_roundg (n - (k + 1))
            case measure => exact j3
            case rel => exact ⟨k + 1, by first | rfl | (rw [wT]; rfl), j2, by first | exact below_more bw bs | exact below_more bw bs.drew⟩
        · have p1 : ¬ (k : Int) < n := by omega
          obtain rfl : k = n := by omega
          have N1 := fun (v : World) (b : Below w.heap.size w v) => ref_tnamesEq (c := ic) (d := ic') (i1.below b) (i1'.below b) hil
          have N3 := fun (v : World) (b : Below w.heap.size w v) => ref_tnamesEq (c := oc) (d := oc') (i3.below b) (i3'.below b) hol
          clear hg i1 i1' i3 i3' i4 i4' i5 i5' he hil hol hn HH
          go_wp2_with (first
            | (go_at_call 35; (with_reducible refine Calls.mono (N1 _ bW) ?_); rintro e w2 ⟨rfl, d2⟩; obtain ⟨q0, q1, q2, q3, r0, r1, r2, r3⟩ := CB.out _ (below_more bw d2); have bW2 := below_more bW d2)
            | (go_at_call 35; (with_reducible refine Calls.mono (N3 _ bW2) ?_); rintro e w3 ⟨rfl, d3⟩))
          go_ret
          exact ⟨rfl, below_more bW2 d3⟩
end Go.Proofs.YtbcfplaalepnbaaGreatDoor
namespace Go.Proofs.YtbcfplaalepnbaaGreatDoor
open Go.RowKit Go.Lib
def exT : ByteArray := ⟨#[105, 110, 32, 120, 59, 32, 108, 101, 116, 32, 97, 32, 61, 32, 50, 32, 42, 32, 120, 32, 94, 32, 45, 51, 59, 32, 111, 117, 116, 32, 97, 59]⟩
def exN : List Nd := [⟨1, 0, 0, 0, noText, (false, 2, 1)⟩, ⟨0, 0, 0, 0, ⟨#[120]⟩, (false, 0, 0)⟩, ⟨7, 1, 0, -3, noText, (false, 0, 0)⟩, ⟨4, 0, 2, 0, noText, (false, 0, 0)⟩]
def exP : Pg := ⟨[⟨#[120]⟩], [(⟨#[97]⟩, 3)], [⟨#[97]⟩], exN⟩
theorem ex_parse : parseI exT = (exP, (0, 0), 0) := by kernel_rfl
def exM : List Nw := [⟨1, 0, 0, 0, ⟨#[]⟩, false, [2], [1]⟩, ⟨0, 0, 0, 0, ⟨#[120]⟩, false, [], []⟩, ⟨7, 1, 0, -3, ⟨#[]⟩, false, [], []⟩, ⟨4, 0, 2, 0, ⟨#[]⟩, false, [], []⟩]
theorem ex_raw : exN.map rawOf = exM := by kernel_rfl
theorem ex_right : rgtB [⟨#[120]⟩] [⟨#[97]⟩] [(⟨#[97]⟩, 3)] exM = true := by kernel_rfl
theorem ex_hts : hts exN 4 = [1, 1, 2, 3] := by kernel_rfl
end Go.Proofs.YtbcfplaalepnbaaGreatDoor
namespace Go.Proofs.YtbcfplaalepnbaaGreatDoor
open Go.RowKit Go.Lib
set_option maxHeartbeats 8000000 in
theorem ref_ints {w : World} {a b : Option Addr} {n c d : Nat} {xs : List Int} (h1 : IsI w a n xs) (h2 : IsI w b n xs) (hn : n ≤ 100000) :
    Calls Tryz.prog 17 #[.slice a n c, .slice b n d] w fun e w' => e = .returned (.bool true) ∧ Below w.heap.size w w' := by
  have HH : Hid (IsI w a n xs ∧ IsI w b n xs ∧ n ≤ 100000) := ⟨h1, h2, hn⟩
  clear h1 h2 hn
  go_enter Tryz.func17, Tryz.ntmps17
  go_wp2
  go_loopg [5] n (fun g s5 v => ∃ t : Nat, s5 = .int .i64 t ∧ t + g = n ∧ Below w.heap.size w v)
  case atStart => exact ⟨0, rfl, by omega, Below.refl _ _⟩
  case round =>
    obtain ⟨t, rfl, hg, bw⟩ := hrel
    obtain ⟨h1, h2, hn⟩ := HH.out
    rcases Nat.lt_or_ge t n with ht | ht
    · have p1 : (t : Int) < n := by omega
      obtain ⟨g1, o1, rfl, c1⟩ := (h1.below bw).2.resolve_left (by omega)
      obtain ⟨g2, o2, rfl, c2⟩ := (h2.below bw).2.resolve_left (by omega)
      obtain ⟨x, hx⟩ : ∃ x, xs[t]? = some x := ⟨_, List.getElem?_eq_getElem (by have := h1.1; omega)⟩
      have k1 := c1 t x hx
      have k2 := c2 t x hx
      have HW : Hid (wrap64 ((t : Int) + 1) = (t : Int) + 1) := wrap_smalls (by omega) (by omega)
      have HN : Hid (t + 1 + (n - (t + 1)) = n ∧ n - (t + 1) < gk ∧ Below w.heap.size w wr) := ⟨by omega, by omega, bw⟩
      clear hg bw h1 h2 hn c1 c2 hx HH
      have wT := HW.out
      go_wp2
      go_quiet (fail)
      obtain ⟨j2, j3, j4⟩ := HN.out
      go_wp2
      go_roundg (n - (t + 1))
      case measure => exact j3
      case rel => exact ⟨t + 1, by first | rfl | (rw [wT]; rfl), j2, below_drewN j4 _⟩
    · have p1 : ¬ (t : Int) < n := by omega
      obtain rfl : t = n := by omega
      clear hg h1 h2 hn HH
      go_wp2
      go_ret
      exact ⟨rfl, bw⟩
theorem pg_ex {w : World} {i l o a : Value} (h : IsPg w i l o a exP) : ∃ ia ic la lc oa oc aa ac ms, i = .slice ia 1 ic ∧ l = .slice la 1 lc ∧ o = .slice oa 1 oc ∧ a = .slice aa 4 ac ∧ PgR w ia la oa aa 1 1 1 4 ac [⟨#[120]⟩] [⟨#[97]⟩] [(⟨#[97]⟩, 3)] ms ∧ ms.map (·.1) = exM ∧ (ms.map fun m => m.1.nd) = exN := by
  obtain ⟨ia, ic, la, lc, oa, oc, aa, ac, ms, rfl, rfl, rfl, rfl, h1, h2, h3, h4, h5, h6, h7⟩ := h
  have h5' : ms.map (·.1) = exM := h5.trans ex_raw
  have hmem : ∀ m ∈ ms, m.1 ∈ exM := fun m hm => by rw [← h5']; exact List.mem_map_of_mem hm
  have hall : ∀ x ∈ exM, Wd x.xs ∧ Wd x.ys ∧ x.xs.length ≤ 10000 ∧ x.ys.length ≤ 10000 ∧ x.name.size ≤ 1000000 := by
    intro x hx
    simp only [exM, List.mem_cons, List.not_mem_nil, or_false] at hx
    rcases hx with rfl | rfl | rfl | rfl
    · exact ⟨fun y hy => by simp at hy; subst hy; decide, fun y hy => by simp at hy; subst hy; decide, by decide, by decide, by decide⟩
    · exact ⟨fun y hy => by simp at hy, fun y hy => by simp at hy, by decide, by decide, by decide⟩
    · exact ⟨fun y hy => by simp at hy, fun y hy => by simp at hy, by decide, by decide, by decide⟩
    · exact ⟨fun y hy => by simp at hy, fun y hy => by simp at hy, by decide, by decide, by decide⟩
  refine ⟨ia, ic, la, lc, oa, oc, aa, ac, ms, rfl, rfl, rfl, rfl, ⟨h1.isS, h2.isLt, h3.isS, h4, fun m hm => ?_, ?_, h7⟩, h5', nd_map h5⟩
  · obtain ⟨⟨x, y, e, q⟩, ⟨x', y', e', q'⟩⟩ := h6 m hm
    obtain ⟨a1, a2, a3, a4, a5⟩ := hall _ (hmem m hm)
    exact ⟨⟨x, y, e, e ▸ q⟩, ⟨x', y', e', e' ▸ q'⟩, a1, a2, a3, a4, a5⟩
  · intro x hx; obtain rfl := List.mem_singleton.1 hx; exact ⟨by decide, by decide⟩
end Go.Proofs.YtbcfplaalepnbaaGreatDoor
