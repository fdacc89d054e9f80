/-
  Texts of mine put together in build order, as far as TreeParses, TreeRight need them: TreeRA, TreeRB, TreeRC, TreeRD, TreeRE, LexA, LexB, LexC, LexD, LexE, LexF, LexG, LexH, LexI. No conditions of their own.
-/
import Derived.WalkKit
import Derived.ProofKit
import Derived.Lib.AppendZerosOnto
import Derived.Laws.AppendOwn
import Derived.Laws.AppendOwnNone
import Derived.Test.YtbcfplaalepnbaaGreatDoorRows
import Derived.WalkLawsBesides
import Derived.Deep.QuietTactic
import Derived.BigQuiet
import Derived.Outline
import Derived.Lib.BitFns
import Derived.OpenShut
import Derived.Laws.CopyOwn
import Derived.Lib.DecodeN
import Derived.Deep.LoopGhost
import Derived.Deep.RegionLaw
import Derived.Deep.DrawnRows
import Derived.Deep.RegionWith
import Derived.Deep.RegionHeld3
import Derived.Laws.IdiomStrings
import Derived.Laws.Bits64b
import Derived.RangeFuncNested
import Derived.RangeFuncBound
import Derived.RangeFuncCalls
import Derived.RangeFuncLeaves
import Derived.Shelf.Abstract
import Derived.Shelf.RegionOpen
import Derived.OwnWalkIn
import Derived.TacticsInMore
import Derived.LoopNIn
import Derived.LoopIn
import Derived.Sort.LoopGhostIn
import Derived.Lib.AtoiAll
import Derived.Lib.OthersKept
import Derived.Shelf.Strconv.AtoiAll
import Derived.Test.YtbcfplaalepnbaaGreatDoorProg
import Derived.Laws.EntriesVeiled
import Derived.Deep.DeepCutAuto
import Derived.Lib.Bytealg
import Derived.Lib.Strings
import Derived.Lib.BufferWrite
import Derived.Lib.UnsafeStr
import Derived.Laws.MakeOwn
import Derived.Test.YtbcfplaalepnbaaGreatDoorPack6
namespace Go.Proofs.YtbcfplaalepnbaaGreatDoor
open Go.RowKit Go.Lib
def IsI (w : World) (a : Option Addr) (n : Nat) (xs : List Int) : Prop := xs.length = n ∧ (n = 0 ∨ ∃ g o, a = some ⟨g, o, none⟩ ∧ ∀ (j : Nat) (x : Int), xs[j]? = some x → w.cell? ⟨g, o + j, none⟩ = some (.int .i64 x))
set_option maxHeartbeats 8000000 in
theorem eq_ints {w : World} {a b : Option Addr} {n c m d : Nat} {xs ys : List Int} (h1 : IsI w a n xs) (h2 : IsI w b m ys) (hn : n ≤ 100000) (r : Bool) (hr : decide (xs = ys) = r) :
    Calls Tryz.prog 103 #[.slice a n c, .slice b m d] w fun e w' => e = .returned (.bool r) ∧ Below w.heap.size w w' := by
  by_cases hl : n = m
  · subst hl
    have HH : Hid (IsI w a n xs ∧ IsI w b n ys ∧ n ≤ 100000 ∧ decide (xs = ys) = r) := ⟨h1, h2, hn, hr⟩
    clear h1 h2 hn hr
    go_enter Tryz.func103, Tryz.ntmps103
    go_wp2
    go_loopg [13] n (fun g s13 v => ∃ t : Nat, s13 = .int .i64 t ∧ t + g = n ∧ (∀ j, j < t → xs[j]? = ys[j]?) ∧ Below w.heap.size w v)
    case atStart => exact ⟨0, rfl, by omega, fun j hj => absurd hj (by omega), Below.refl _ _⟩
    case round =>
      obtain ⟨t, rfl, hg, hN, bw⟩ := hrel
      obtain ⟨⟨l1, h1⟩, ⟨l2, h2⟩, hn, hr⟩ := HH.out
      rcases Nat.lt_or_ge t n with ht | ht
      · have p1 : (t : Int) < n := by omega
        obtain ⟨g1, o1, rfl, c1⟩ := h1.resolve_left (by omega)
        obtain ⟨g2, o2, rfl, c2⟩ := h2.resolve_left (by omega)
        obtain ⟨x, hx⟩ : ∃ x, xs[t]? = some x := ⟨_, List.getElem?_eq_getElem (by omega)⟩
        obtain ⟨y, hy⟩ : ∃ y, ys[t]? = some y := ⟨_, List.getElem?_eq_getElem (by omega)⟩
        have k1 := c1 t x hx
        have k2 := c2 t y hy
        have b1 := World.block_lt_of_cell? w _ k1
        have b2 := World.block_lt_of_cell? w _ k2
        rw [← bw.cell b1] at k1
        rw [← bw.cell b2] at k2
        by_cases hxy : x = y
        · subst hxy
          have e1 : (x == x) = true := by simp
          have e2 : (x != x) = false := by simp
          have w1 : wrap64 ((t : Int) + 1) = (t : Int) + 1 := wrap_smalls (by omega) (by omega)
          have HN : Hid ((∀ j, j < t + 1 → xs[j]? = ys[j]?) ∧ t + 1 + (n - (t + 1)) = n ∧ n - (t + 1) < gk ∧ Below w.heap.size w wr) := ⟨fun j hj => by
            rcases Nat.lt_or_ge j t with q | q
            · exact hN j q
            · obtain rfl : j = t := by omega
              rw [hx, hy], by clear w1; omega, by clear w1; omega, bw⟩
          clear hg hN hn hr h1 h2 c1 c2 hx hy bw l1 l2 b1 b2 HH
          go_wp2
          go_quiet (fail)
          obtain ⟨j1, j2, j3, j4⟩ := HN.out
          go_wp2
          go_roundg (n - (t + 1))
          case measure => exact j3
          case rel => exact ⟨t + 1, by first | rfl | (rw [w1]; rfl), j2, j1, below_drewN j4 _⟩
        · have hrf : r = false := by
            rw [← hr]
            refine decide_eq_false fun e => hxy ?_
            rw [e, hy] at hx
            injection hx with hx
            exact hx.symm
          subst hrf
          have e1 : (x == y) = false := by rw [beq_eq_false_iff_ne]; exact hxy
          have e2 : (x != y) = true := by rw [bne_iff_ne]; exact hxy
          have HB : Hid (Below w.heap.size w wr) := bw
          clear hg hN hn hr h1 h2 c1 c2 hx hy bw l1 l2 b1 b2 HH
          go_wp2
          go_quiet (fail)
          go_wp2
          go_ret
          exact ⟨rfl, below_drewN HB.out _⟩
      · have p1 : ¬ (t : Int) < n := by omega
        obtain rfl : t = n := by omega
        have hrt : r = true := by
          rw [← hr]
          refine decide_eq_true (List.ext_getElem? fun j => ?_)
          rcases Nat.lt_or_ge j t with q | q
          · exact hN j q
          · rw [List.getElem?_eq_none (by omega), List.getElem?_eq_none (by omega)]
        subst hrt
        clear hg hN hn hr h1 h2 l1 l2 HH
        go_wp2
        go_ret
        exact ⟨rfl, bw⟩
  · have hrf : r = false := by
      rw [← hr]
      refine decide_eq_false fun e => hl ?_
      rw [← h1.1, ← h2.1, e]
    subst hrf
    have k1 : ((n : Int) == m) = false := by rw [beq_eq_false_iff_ne]; omega
    have k2 : ((n : Int) != m) = true := by rw [bne_iff_ne]; omega
    have k3 : ¬ (n : Int) = m := by omega
    clear h1 h2 hn hr hl
    go_enter Tryz.func103, Tryz.ntmps103
    go_wp2
    go_ret
    exact ⟨rfl, Below.refl _ _⟩
set_option maxHeartbeats 4000000 in
theorem tree_none (s : Bool) (a : Option Addr) (n c : Nat) (b : Option Addr) (m d : Nat) (r : Bool) (hr : (!s && decide (n = 0) && decide (m = 0)) = r) (w : World) :
    Calls Tryz.prog 121 #[.agg #[.bool s, .slice a n c, .slice b m d]] w fun e w' => e = .returned (.bool r) ∧ Below w.heap.size w w' := by
  obtain ⟨b1, bV, hs⟩ := boxes1 w #[.bool s, .slice a n c, .slice b m d] 42
  obtain ⟨x0, x1, x2, f0, f1, f2⟩ := b1.cells3
  cases s with
  | true =>
    simp only [Bool.not_true, Bool.false_and] at hr
    subst hr
    clear b1
    go_enter Tryz.func121, Tryz.ntmps121
    go_wp2
    go_ret
    exact ⟨rfl, bV⟩
  | false =>
    by_cases h1 : n = 0
    · subst h1
      have e2 : (((m : Nat) : Int) == 0) = r := by
        rw [← hr]
        by_cases q : m = 0
        · subst q; rfl
        · rw [decide_eq_false q, beq_eq_false_iff_ne.2 (show ((m : Nat) : Int) ≠ 0 by omega)]; rfl
      have hk : ((0 : Nat) : Int) = 0 := rfl
      clear b1 hr
      go_enter Tryz.func121, Tryz.ntmps121
      go_wp2
      go_ret
      exact ⟨by first | rfl | (rw [← e2]; rfl), bV⟩
    · rw [decide_eq_false h1] at hr
      simp only [Bool.not_false, Bool.true_and, Bool.false_and] at hr
      subst hr
      have e1 : ((n : Int) == 0) = false := by rw [beq_eq_false_iff_ne]; omega
      clear b1 h1
      go_enter Tryz.func121, Tryz.ntmps121
      go_wp2
      go_ret
      exact ⟨rfl, bV⟩
def shortB (xs : List Int) : Bool := decide (xs.length ≤ 5) && decide ((decOf (val xs)).length ≤ 40)
set_option maxHeartbeats 4000000 in
theorem tree_short {w : World} {a : Option Addr} {n c : Nat} {xs : List Int} (h : IsWords w (.slice a n c) xs) (hx : Wd xs) (hn : n ≤ 1000000) (hl : xs.length = n) (r : Bool) (hr : shortB xs = r) :
    Calls Tryz.prog 140 #[.slice a n c] w fun e w' => e = .returned (.bool r) ∧ Below w.heap.size w w' := by
  have DG := deci_digits h hx hn (val xs) rfl
  unfold shortB at hr
  rw [hl] at hr
  generalize (decOf (val xs)).length = D at *
  by_cases h1 : n ≤ 5
  · have k1 : (n : Int) ≤ 5 := by omega
    rw [decide_eq_true h1, Bool.true_and] at hr
    have e : decide ((D : Int) ≤ 40) = r := by rw [← hr]; exact decide_eq_decide.2 (by omega)
    clear h hx hn h1 hl hr
    go_enter Tryz.func140, Tryz.ntmps140
    go_wp2_with (go_at_call 153; (with_reducible refine Calls.mono DG ?_); rintro e' w1 ⟨rfl, d1⟩)
    go_ret
    exact ⟨by rw [← e]; rfl, d1⟩
  · have k1 : ¬ (n : Int) ≤ 5 := by omega
    rw [decide_eq_false h1, Bool.false_and] at hr
    subst hr
    clear h hx hn h1 hl DG
    go_enter Tryz.func140, Tryz.ntmps140
    go_wp2
    go_ret
    exact ⟨rfl, Below.refl _ _⟩
def rghB (s : Bool) (xs ys : List Int) : Bool := decide (decide ((rv s (val xs) (val ys)).num < 0) = s ∧ natOf (rv s (val xs) (val ys)).num.natAbs = xs ∧ natOf (rv s (val xs) (val ys)).den = ys)
def numR (s : Bool) (xs ys : List Int) : Bool := !s && shortB xs && shortB ys && rghB s xs ys
set_option maxHeartbeats 8000000 in
theorem tree_number {s : Bool} {w : World} {a b : Option Addr} {n c m d : Nat} {xs ys : List Int} (h : IsWords w (.slice a n c) xs) (hx : Wd xs) (k : IsWords w (.slice b m d) ys) (hy : Wd ys) (hn : n ≤ 10000) (hm : m ≤ 10000) (hl : xs.length = n) (hl' : ys.length = m) (r : Bool) (hr : numR s xs ys = r) :
    Calls Tryz.prog 120 #[.agg #[.bool s, .slice a n c, .slice b m d]] w fun e w' => e = .returned (.bool r) ∧ Below w.heap.size w w' := by
  obtain ⟨b1, bV, hs⟩ := boxes1 w #[.bool s, .slice a n c, .slice b m d] 42
  obtain ⟨x0, x1, x2, f0, f1, f2⟩ := b1.cells3
  unfold numR at hr
  have HB := b1
  generalize hV : w.alloc (.cells #[.bool s, .slice a n c, .slice b m d] 42) = V at *
  have S1 := fun (q : Bool) (hq : shortB xs = q) => tree_short (h.below bV) hx (by omega) hl q hq
  have S2 := fun (v : World) (dv : Below V.heap.size V v) (q : Bool) (hq : shortB ys = q) => tree_short ((k.below bV).below dv) hy (by omega) hl' q hq
  have RG := fun (v : World) (dv : Below V.heap.size V v) (q : Bool) (hq : rghB s xs ys = q) => rat_right ((h.below bV).below dv) hx ((k.below bV).below dv) hy hn hm _ rfl q hq
  have CB := fun (v : World) (dv : Below V.heap.size V v) => (HB.more dv).cells3
  subst hV
  cases s with
  | true =>
    simp only [Bool.not_true, Bool.false_and] at hr
    subst hr
    clear b1 h hx k hy hn hm hl hl' S1 S2 RG CB HB
    go_enter Tryz.func120, Tryz.ntmps120
    go_wp2
    go_ret
    exact ⟨rfl, bV⟩
  | false =>
    rw [Bool.not_false, Bool.true_and] at hr
    cases h1 : shortB xs with
    | false =>
      rw [h1] at hr
      simp only [Bool.false_and] at hr
      subst hr
      have S1' := S1 false h1
      clear b1 h hx k hy hn hm hl hl' S1 S2 RG CB HB h1
      go_enter Tryz.func120, Tryz.ntmps120
      go_wp2_with (go_at_call 140; (with_reducible refine Calls.mono S1' ?_); rintro e w1 ⟨rfl, d1⟩)
      go_ret
      exact ⟨rfl, below_more bV d1⟩
    | true =>
      rw [h1, Bool.true_and] at hr
      have S1' := S1 true h1
      cases h2 : shortB ys with
      | false =>
        rw [h2] at hr
        simp only [Bool.false_and] at hr
        subst hr
        have S2' := fun v dv => S2 v dv false h2
        clear b1 h hx k hy hn hm hl hl' S1 S2 RG HB h1 h2
        go_enter Tryz.func120, Tryz.ntmps120
        go_wp2_with (first
          | (go_at_call 140; (with_reducible refine Calls.mono S1' ?_); rintro e w1 ⟨rfl, d1⟩; obtain ⟨y0, y1, y2, -, -, -⟩ := CB _ d1)
          | (go_at_call 140; (with_reducible refine Calls.mono (S2' _ d1) ?_); rintro e w2 ⟨rfl, d2⟩))
        go_ret
        exact ⟨rfl, below_more (below_more bV d1) d2⟩
      | true =>
        rw [h2, Bool.true_and] at hr
        have S2' := fun v dv => S2 v dv true h2
        have RG' := fun v dv => RG v dv r hr
        clear b1 h hx k hy hn hm hl hl' S1 S2 RG HB h1 h2 hr
        go_enter Tryz.func120, Tryz.ntmps120
        go_wp2_with (first
          | (go_at_call 140; (with_reducible refine Calls.mono S1' ?_); rintro e w1 ⟨rfl, d1⟩; obtain ⟨y0, y1, y2, -, -, -⟩ := CB _ d1)
          | (go_at_call 140; (with_reducible refine Calls.mono (S2' _ d1) ?_); rintro e w2 ⟨rfl, d2⟩; have d12 := below_more d1 d2; obtain ⟨z0, z1, z2, -, -, -⟩ := CB _ d12)
          | (go_at_call 141; (with_reducible refine Calls.mono (RG' _ d12) ?_); rintro e w3 ⟨rfl, d3⟩))
        go_ret
        exact ⟨rfl, below_more (below_more (below_more bV d1) d2) d3⟩
def IsS (w : World) (a : Option Addr) (n : Nat) (xs : List ByteArray) : Prop := xs.length = n ∧ (n = 0 ∨ ∃ g o, a = some ⟨g, o, none⟩ ∧ ∀ (j : Nat) (x : ByteArray), xs[j]? = some x → w.cell? ⟨g, o + j, none⟩ = some (.string x))
theorem spot_none {w : World} {a : Addr} {v : Value} (h : w.cell? a = some v) : a.spot = none := by
  unfold World.cell? at h
  split at h
  · cases hs : a.spot with
    | none => rfl
    | some q => simp [hs] at h
  · simp at h
theorem add_lit (g o j : Nat) : (⟨g, o, none⟩ : Addr).add j = ⟨g, o + j, none⟩ := by cases j <;> simp [Addr.add]
theorem IsC.lit {k : Nat} {w : World} {a : Option Addr} {n : Nat} {cs : List Value} (h : IsC k w a n cs) (hk : 0 < k) : n = 0 ∨ ∃ g o, a = some ⟨g, o, none⟩ ∧ ∀ j u, cs[j]? = some u → w.cell? ⟨g, o + j, none⟩ = some u := by
  rcases h.2 with h0 | ⟨⟨g, o, sp⟩, rfl, hc⟩
  · exact .inl h0
  · rcases Nat.eq_zero_or_pos n with h0 | hp
    · exact .inl h0
    · right
      have hl : 0 < cs.length := by rw [h.1]; exact Nat.mul_pos hp hk
      have h1 := hc 0 _ (List.getElem?_eq_getElem hl)
      have h2 : sp = none := by
        have := spot_none h1
        simpa [Addr.add] using this
      subst h2
      refine ⟨g, o, rfl, fun j u hj => ?_⟩
      rw [← add_lit]
      exact hc j u hj
theorem flat_strs (xs : List ByteArray) : flat encS xs = xs.map Value.string := by
  induction xs with
  | nil => rfl
  | cons x xs ih => show encS x ++ flat encS xs = _; rw [ih]; rfl
theorem IsC.isS {w : World} {a : Option Addr} {n : Nat} {xs : List ByteArray} (h : IsC 1 w a n (flat encS xs)) : IsS w a n xs := by
  have hl := h.1
  rw [flat_strs, List.length_map, Nat.mul_one] at hl
  refine ⟨hl, ?_⟩
  rcases h.lit (by decide) with h0 | ⟨g, o, e, hc⟩
  · exact .inl h0
  · exact .inr ⟨g, o, e, fun j x hj => hc j _ (by rw [flat_strs, List.getElem?_map, hj]; rfl)⟩
theorem IsS.below {w w' : World} {a : Option Addr} {n : Nat} {xs : List ByteArray} (h : IsS w a n xs) (hb : Below w.heap.size w w') : IsS w' a n xs := by
  refine ⟨h.1, ?_⟩
  rcases h.2 with h0 | ⟨g, o, e, hc⟩
  · exact .inl h0
  · exact .inr ⟨g, o, e, fun j x hj => by rw [hb.cell (World.block_lt_of_cell? w _ (hc j x hj))]; exact hc j x hj⟩
set_option maxHeartbeats 8000000 in
theorem tree_named {w : World} {a : Option Addr} {n c : Nat} {xs : List ByteArray} (h : IsS w a n xs) (hz : ∀ x ∈ xs, x.size ≤ 1000000) (hn : n ≤ 100000) (r : Bool) (hr : xs.all nameB = r) :
    Calls Tryz.prog 42 #[.slice a n c] w fun e w' => e = .returned (.bool r) ∧ Below w.heap.size w w' := by
  have HH : Hid (xs.length = n ∧ IsS w a n xs ∧ (∀ x ∈ xs, x.size ≤ 1000000) ∧ n ≤ 100000 ∧ xs.all nameB = r) := ⟨h.1, h, hz, hn, hr⟩
  clear h hz hn hr
  go_enter Tryz.func42, Tryz.ntmps42
  go_wp2
  go_loopg [7] n (fun g s7 v => ∃ t : Nat, s7 = .int .i64 t ∧ t + g = n ∧ (∀ j x, j < t → xs[j]? = some x → nameB x = true) ∧ Below w.heap.size w v)
  case atStart => exact ⟨0, rfl, by omega, fun j x hj => absurd hj (by omega), Below.refl _ _⟩
  case round =>
    obtain ⟨t, rfl, hg, hN, bw⟩ := hrel
    obtain ⟨hl, hc, hz, hn, hr⟩ := HH.out
    rcases Nat.lt_or_ge t n with ht | ht
    · have p1 : (t : Int) < n := by omega
      obtain ⟨x, hx⟩ : ∃ x, xs[t]? = some x := ⟨_, List.getElem?_eq_getElem (by omega)⟩
      obtain ⟨g1, o1, rfl, k1⟩ := (hc.below bw).2.resolve_left (by omega)
      have k1 := k1 t x hx
      have hx1 := hz x (List.mem_of_getElem? hx)
      cases hb : nameB x with
      | false =>
        have hrf : r = false := by
          rw [← hr, List.all_eq_false]
          exact ⟨x, List.mem_of_getElem? hx, by rw [hb]; simp⟩
        subst hrf
        have SN := fun v => sign_name x v hx1 false hb
        have HB : Hid (Below w.heap.size w wr) := bw
        clear hg hN bw hl hc hz hn hr hx hx1 hb HH
        go_wp2_with (go_at_call 69; (with_reducible refine Calls.mono (SN _) ?_); rintro e w2 ⟨rfl, d2⟩)
        go_ret
        exact ⟨rfl, below_more HB.out d2⟩
      | true =>
        have SN := fun v => sign_name x v hx1 true hb
        have w1 : wrap64 ((t : Int) + 1) = (t : Int) + 1 := wrap_smalls (by omega) (by omega)
        have HN : Hid ((∀ j y, j < t + 1 → xs[j]? = some y → nameB y = true) ∧ t + 1 + (n - (t + 1)) = n ∧ n - (t + 1) < gk ∧ Below w.heap.size w wr) := ⟨fun j y hj hy => by
          rcases Nat.lt_or_ge j t with q | q
          · exact hN j y q hy
          · obtain rfl : j = t := by omega
            rw [hx] at hy
            injection hy with hy
            rw [← hy]; exact hb, by clear w1; omega, by clear w1; omega, bw⟩
        clear hg hN bw hl hc hz hn hr hx hx1 hb HH
        go_wp2_with (go_at_call 69; (with_reducible refine Calls.mono (SN _) ?_); rintro e w2 ⟨rfl, d2⟩)
        obtain ⟨j1, j2, j3, j4⟩ := HN.out
        go_roundg (n - (t + 1))
        case measure => exact j3
        case rel => exact ⟨t + 1, by first | rfl | (rw [w1]; rfl), j2, j1, below_more j4 d2⟩
    · have p1 : ¬ (t : Int) < n := by omega
      obtain rfl : t = n := by omega
      have hrt : r = true := by
        rw [← hr, List.all_eq_true]
        intro x hx
        obtain ⟨j, hj, he⟩ := List.getElem_of_mem hx
        exact hN j x (by omega) (by rw [List.getElem?_eq_getElem hj, he])
      subst hrt
      clear hg hN hn hr hl hc hz HH
      go_wp2
      go_ret
      exact ⟨rfl, bw⟩
end Go.Proofs.YtbcfplaalepnbaaGreatDoor
namespace Go.Proofs.YtbcfplaalepnbaaGreatDoor
open Go.RowKit Go.Lib
def emptyB (x : ByteArray) : Bool := x.toList == []
def noneB (m : Nw) : Bool := !m.neg && decide (m.xs.length = 0) && decide (m.ys.length = 0)
def fillR (m : Nw) : Bool :=
  if m.kind = 0 then nameB m.name && (m.a == 0) && (m.b == 0) && (m.exp == 0) && noneB m
  else if m.kind = 1 then numR m.neg m.xs m.ys && (m.a == 0) && (m.b == 0) && (m.exp == 0) && emptyB m.name
  else if m.kind = 2 ∨ m.kind = 3 ∨ m.kind = 4 ∨ m.kind = 5 then (m.exp == 0) && emptyB m.name && noneB m
  else if m.kind = 6 then (m.b == 0) && (m.exp == 0) && emptyB m.name && noneB m
  else if m.kind = 7 then decide (-20 ≤ m.exp ∧ m.exp ≤ 20) && (m.b == 0) && emptyB m.name && noneB m
  else false
set_option maxHeartbeats 64000000 in
theorem tree_filled {w : World} {k a b x : Int} {nm : ByteArray} {ng : Bool} {ua va : Option Addr} {uc vc : Nat} {xs ys : List Int} (hu : IsWords w (.slice ua xs.length uc) xs) (hx : Wd xs) (hv : IsWords w (.slice va ys.length vc) ys) (hy : Wd ys) (hn : xs.length ≤ 10000) (hm : ys.length ≤ 10000) (hs : nm.size ≤ 1000000) (r : Bool) (hr : fillR ⟨k, a, b, x, nm, ng, xs, ys⟩ = r) :
    Calls Tryz.prog 102 #[.agg #[.int .i64 k, .int .i64 a, .int .i64 b, .int .i64 x, .string nm, .bool ng, .slice ua xs.length uc, .slice va ys.length vc]] w fun e w' => e = .returned (.bool r) ∧ Below w.heap.size w w' := by
  have NO := fun (v : World) (q : Bool) (hq : noneB ⟨k, a, b, x, nm, ng, xs, ys⟩ = q) => tree_none ng ua xs.length uc va ys.length vc q hq v
  have NZ := fun (v : World) => tree_none false none 0 0 none 0 0 true rfl v
  have NU := fun (v : World) (dv : Below w.heap.size w v) (q : Bool) (hq : numR ng xs ys = q) => tree_number (hu.below dv) hx (hv.below dv) hy hn hm rfl rfl q hq
  have SN := fun (v : World) (q : Bool) (hq : nameB nm = q) => sign_name nm v hs q hq
  obtain ⟨b1, b2, bV, hV⟩ := boxes2 w #[.int .i64 k, .int .i64 a, .int .i64 b, .int .i64 x, .string nm, .bool ng, .slice ua xs.length uc, .slice va ys.length vc] #[.int .i64 k, .int .i64 a, .int .i64 b, .int .i64 x, .string nm, .bool ng, .slice ua xs.length uc, .slice va ys.length vc] 44 44
  have HB : Hid (BoxC _ _ _ _ ∧ Below w.heap.size w _ ∧ w.heap.size + 1 < _) := ⟨b2, bV, hV⟩
  have HE : ∀ y : ByteArray, emptyB y = (y.toList == []) := fun _ => rfl
  unfold fillR at hr
  dsimp only at hr
  generalize hnone : noneB ⟨k, a, b, x, nm, ng, xs, ys⟩ = nb at *
  generalize hnum : numR ng xs ys = qb at *
  generalize hname : nameB nm = sb at *
  rw [HE] at hr
  clear b1 b2 bV hV hu hx hv hy hn hm hs HE
  by_cases k0 : k = 0
  · subst k0
    have HB2 := HB.out.2.1
    rw [if_pos (by decide)] at hr
    cases hs0 : sb with
    | false =>
      have hr' : r = false := by rw [← hr]; simp [hs0]
      subst hr'
      clear hr
      go_enter Tryz.func102, Tryz.ntmps102
      go_wp2_with (first
        | (go_at_call 69; (with_reducible refine Calls.mono (SN _ _ rfl) ?_); rintro e w1 ⟨rfl, d1⟩; have D := HB.out.1.more d1; have e0 := (D.cell 0).1; have e1 := (D.cell 1).1; have e2 := (D.cell 2).1; have e3 := (D.cell 3).1; have e4 := (D.cell 4).1; have e5 := (D.cell 5).1; have e6 := (D.cell 6).1; have e7 := (D.cell 7).1; have f0 := (D.cell 0).2; have f1 := (D.cell 1).2; have f2 := (D.cell 2).2; have f3 := (D.cell 3).2; have f4 := (D.cell 4).2; have f5 := (D.cell 5).2; have f6 := (D.cell 6).2; have f7 := (D.cell 7).2; have bb := below_more HB.out.2.1 d1))
      go_ret
      exact ⟨rfl, by (repeat' first | exact bb | with_reducible refine Below.alloc ?_ ?_ _ | with_reducible refine Below.setCell ?_ ?_ _ | with_reducible refine Below.drew ?_ | exact Below.refl _ _ | exact Nat.le_succ _ | exact Nat.le_refl _ | (simp; done) | (simp; omega))⟩
    | true =>
      cases ha : (a == 0) with
      | false =>
        have hr' : r = false := by rw [← hr]; simp [hs0, ha]
        subst hr'
        clear hr
        go_enter Tryz.func102, Tryz.ntmps102
        go_wp2_with (first
          | (go_at_call 69; (with_reducible refine Calls.mono (SN _ _ rfl) ?_); rintro e w1 ⟨rfl, d1⟩; have D := HB.out.1.more d1; have e0 := (D.cell 0).1; have e1 := (D.cell 1).1; have e2 := (D.cell 2).1; have e3 := (D.cell 3).1; have e4 := (D.cell 4).1; have e5 := (D.cell 5).1; have e6 := (D.cell 6).1; have e7 := (D.cell 7).1; have f0 := (D.cell 0).2; have f1 := (D.cell 1).2; have f2 := (D.cell 2).2; have f3 := (D.cell 3).2; have f4 := (D.cell 4).2; have f5 := (D.cell 5).2; have f6 := (D.cell 6).2; have f7 := (D.cell 7).2; have bb := below_more HB.out.2.1 d1))
        go_ret
        exact ⟨rfl, by (repeat' first | exact bb | with_reducible refine Below.alloc ?_ ?_ _ | with_reducible refine Below.setCell ?_ ?_ _ | with_reducible refine Below.drew ?_ | exact Below.refl _ _ | exact Nat.le_succ _ | exact Nat.le_refl _ | (simp; done) | (simp; omega))⟩
      | true =>
        cases hb : (b == 0) with
        | false =>
          have hr' : r = false := by rw [← hr]; simp [hs0, ha, hb]
          subst hr'
          clear hr
          go_enter Tryz.func102, Tryz.ntmps102
          go_wp2_with (first
            | (go_at_call 69; (with_reducible refine Calls.mono (SN _ _ rfl) ?_); rintro e w1 ⟨rfl, d1⟩; have D := HB.out.1.more d1; have e0 := (D.cell 0).1; have e1 := (D.cell 1).1; have e2 := (D.cell 2).1; have e3 := (D.cell 3).1; have e4 := (D.cell 4).1; have e5 := (D.cell 5).1; have e6 := (D.cell 6).1; have e7 := (D.cell 7).1; have f0 := (D.cell 0).2; have f1 := (D.cell 1).2; have f2 := (D.cell 2).2; have f3 := (D.cell 3).2; have f4 := (D.cell 4).2; have f5 := (D.cell 5).2; have f6 := (D.cell 6).2; have f7 := (D.cell 7).2; have bb := below_more HB.out.2.1 d1))
          go_ret
          exact ⟨rfl, by (repeat' first | exact bb | with_reducible refine Below.alloc ?_ ?_ _ | with_reducible refine Below.setCell ?_ ?_ _ | with_reducible refine Below.drew ?_ | exact Below.refl _ _ | exact Nat.le_succ _ | exact Nat.le_refl _ | (simp; done) | (simp; omega))⟩
        | true =>
          cases hx0 : (x == 0) with
          | false =>
            have hr' : r = false := by rw [← hr]; simp [hs0, ha, hb, hx0]
            subst hr'
            clear hr
            go_enter Tryz.func102, Tryz.ntmps102
            go_wp2_with (first
              | (go_at_call 69; (with_reducible refine Calls.mono (SN _ _ rfl) ?_); rintro e w1 ⟨rfl, d1⟩; have D := HB.out.1.more d1; have e0 := (D.cell 0).1; have e1 := (D.cell 1).1; have e2 := (D.cell 2).1; have e3 := (D.cell 3).1; have e4 := (D.cell 4).1; have e5 := (D.cell 5).1; have e6 := (D.cell 6).1; have e7 := (D.cell 7).1; have f0 := (D.cell 0).2; have f1 := (D.cell 1).2; have f2 := (D.cell 2).2; have f3 := (D.cell 3).2; have f4 := (D.cell 4).2; have f5 := (D.cell 5).2; have f6 := (D.cell 6).2; have f7 := (D.cell 7).2; have bb := below_more HB.out.2.1 d1))
            go_ret
            exact ⟨rfl, by (repeat' first | exact bb | with_reducible refine Below.alloc ?_ ?_ _ | with_reducible refine Below.setCell ?_ ?_ _ | with_reducible refine Below.drew ?_ | exact Below.refl _ _ | exact Nat.le_succ _ | exact Nat.le_refl _ | (simp; done) | (simp; omega))⟩
          | true =>
            have hr' : r = nb := by rw [← hr]; simp [hs0, ha, hb, hx0]
            subst hr'
            clear hr
            go_enter Tryz.func102, Tryz.ntmps102
            go_wp2_with (first
              | (go_at_call 69; (with_reducible refine Calls.mono (SN _ _ rfl) ?_); rintro e w1 ⟨rfl, d1⟩; have D := HB.out.1.more d1; have e0 := (D.cell 0).1; have e1 := (D.cell 1).1; have e2 := (D.cell 2).1; have e3 := (D.cell 3).1; have e4 := (D.cell 4).1; have e5 := (D.cell 5).1; have e6 := (D.cell 6).1; have e7 := (D.cell 7).1; have f0 := (D.cell 0).2; have f1 := (D.cell 1).2; have f2 := (D.cell 2).2; have f3 := (D.cell 3).2; have f4 := (D.cell 4).2; have f5 := (D.cell 5).2; have f6 := (D.cell 6).2; have f7 := (D.cell 7).2; have bb := below_more HB.out.2.1 d1)
              | (go_at_call 121; (with_reducible refine Calls.mono (NO _ _ rfl) ?_); rintro e w2 ⟨rfl, d2⟩))
            go_ret
            exact ⟨rfl, by (repeat' first | exact bb | with_reducible refine below_more ?_ d2 | with_reducible refine Below.alloc ?_ ?_ _ | with_reducible refine Below.setCell ?_ ?_ _ | with_reducible refine Below.drew ?_ | exact Below.refl _ _ | exact Nat.le_succ _ | exact Nat.le_refl _ | (simp; done) | (simp; omega))⟩
  by_cases k1 : k = 1
  · subst k1
    have HB2 := HB.out.2.1
    rw [if_neg (by decide), if_pos (by decide)] at hr
    cases hq0 : qb with
    | false =>
      have hr' : r = false := by rw [← hr]; simp [hq0]
      subst hr'
      clear hr
      go_enter Tryz.func102, Tryz.ntmps102
      go_wp2_with (first
        | (go_at_call 120; (with_reducible refine Calls.mono (NU _ HB.out.2.1 _ rfl) ?_); rintro e w1 ⟨rfl, d1⟩; have D := HB.out.1.more d1; have e0 := (D.cell 0).1; have e1 := (D.cell 1).1; have e2 := (D.cell 2).1; have e3 := (D.cell 3).1; have e4 := (D.cell 4).1; have e5 := (D.cell 5).1; have e6 := (D.cell 6).1; have e7 := (D.cell 7).1; have f0 := (D.cell 0).2; have f1 := (D.cell 1).2; have f2 := (D.cell 2).2; have f3 := (D.cell 3).2; have f4 := (D.cell 4).2; have f5 := (D.cell 5).2; have f6 := (D.cell 6).2; have f7 := (D.cell 7).2; have bb := below_more HB.out.2.1 d1))
      go_ret
      exact ⟨rfl, by (repeat' first | exact bb | with_reducible refine Below.alloc ?_ ?_ _ | with_reducible refine Below.setCell ?_ ?_ _ | with_reducible refine Below.drew ?_ | exact Below.refl _ _ | exact Nat.le_succ _ | exact Nat.le_refl _ | (simp; done) | (simp; omega))⟩
    | true =>
      cases ha : (a == 0) with
      | false =>
        have hr' : r = false := by rw [← hr]; simp [hq0, ha]
        subst hr'
        clear hr
        go_enter Tryz.func102, Tryz.ntmps102
        go_wp2_with (first
          | (go_at_call 120; (with_reducible refine Calls.mono (NU _ HB.out.2.1 _ rfl) ?_); rintro e w1 ⟨rfl, d1⟩; have D := HB.out.1.more d1; have e0 := (D.cell 0).1; have e1 := (D.cell 1).1; have e2 := (D.cell 2).1; have e3 := (D.cell 3).1; have e4 := (D.cell 4).1; have e5 := (D.cell 5).1; have e6 := (D.cell 6).1; have e7 := (D.cell 7).1; have f0 := (D.cell 0).2; have f1 := (D.cell 1).2; have f2 := (D.cell 2).2; have f3 := (D.cell 3).2; have f4 := (D.cell 4).2; have f5 := (D.cell 5).2; have f6 := (D.cell 6).2; have f7 := (D.cell 7).2; have bb := below_more HB.out.2.1 d1))
        go_ret
        exact ⟨rfl, by (repeat' first | exact bb | with_reducible refine Below.alloc ?_ ?_ _ | with_reducible refine Below.setCell ?_ ?_ _ | with_reducible refine Below.drew ?_ | exact Below.refl _ _ | exact Nat.le_succ _ | exact Nat.le_refl _ | (simp; done) | (simp; omega))⟩
      | true =>
        cases hb : (b == 0) with
        | false =>
          have hr' : r = false := by rw [← hr]; simp [hq0, ha, hb]
          subst hr'
          clear hr
          go_enter Tryz.func102, Tryz.ntmps102
          go_wp2_with (first
            | (go_at_call 120; (with_reducible refine Calls.mono (NU _ HB.out.2.1 _ rfl) ?_); rintro e w1 ⟨rfl, d1⟩; have D := HB.out.1.more d1; have e0 := (D.cell 0).1; have e1 := (D.cell 1).1; have e2 := (D.cell 2).1; have e3 := (D.cell 3).1; have e4 := (D.cell 4).1; have e5 := (D.cell 5).1; have e6 := (D.cell 6).1; have e7 := (D.cell 7).1; have f0 := (D.cell 0).2; have f1 := (D.cell 1).2; have f2 := (D.cell 2).2; have f3 := (D.cell 3).2; have f4 := (D.cell 4).2; have f5 := (D.cell 5).2; have f6 := (D.cell 6).2; have f7 := (D.cell 7).2; have bb := below_more HB.out.2.1 d1))
          go_ret
          exact ⟨rfl, by (repeat' first | exact bb | with_reducible refine Below.alloc ?_ ?_ _ | with_reducible refine Below.setCell ?_ ?_ _ | with_reducible refine Below.drew ?_ | exact Below.refl _ _ | exact Nat.le_succ _ | exact Nat.le_refl _ | (simp; done) | (simp; omega))⟩
        | true =>
          cases hx0 : (x == 0) with
          | false =>
            have hr' : r = false := by rw [← hr]; simp [hq0, ha, hb, hx0]
            subst hr'
            clear hr
            go_enter Tryz.func102, Tryz.ntmps102
            go_wp2_with (first
              | (go_at_call 120; (with_reducible refine Calls.mono (NU _ HB.out.2.1 _ rfl) ?_); rintro e w1 ⟨rfl, d1⟩; have D := HB.out.1.more d1; have e0 := (D.cell 0).1; have e1 := (D.cell 1).1; have e2 := (D.cell 2).1; have e3 := (D.cell 3).1; have e4 := (D.cell 4).1; have e5 := (D.cell 5).1; have e6 := (D.cell 6).1; have e7 := (D.cell 7).1; have f0 := (D.cell 0).2; have f1 := (D.cell 1).2; have f2 := (D.cell 2).2; have f3 := (D.cell 3).2; have f4 := (D.cell 4).2; have f5 := (D.cell 5).2; have f6 := (D.cell 6).2; have f7 := (D.cell 7).2; have bb := below_more HB.out.2.1 d1))
            go_ret
            exact ⟨rfl, by (repeat' first | exact bb | with_reducible refine Below.alloc ?_ ?_ _ | with_reducible refine Below.setCell ?_ ?_ _ | with_reducible refine Below.drew ?_ | exact Below.refl _ _ | exact Nat.le_succ _ | exact Nat.le_refl _ | (simp; done) | (simp; omega))⟩
          | true =>
            cases hm0 : (nm.toList == []) with
            | false =>
              have hr' : r = false := by rw [← hr]; simp [hq0, ha, hb, hx0, hm0]
              subst hr'
              clear hr
              go_enter Tryz.func102, Tryz.ntmps102
              go_wp2_with (first
                | (go_at_call 120; (with_reducible refine Calls.mono (NU _ HB.out.2.1 _ rfl) ?_); rintro e w1 ⟨rfl, d1⟩; have D := HB.out.1.more d1; have e0 := (D.cell 0).1; have e1 := (D.cell 1).1; have e2 := (D.cell 2).1; have e3 := (D.cell 3).1; have e4 := (D.cell 4).1; have e5 := (D.cell 5).1; have e6 := (D.cell 6).1; have e7 := (D.cell 7).1; have f0 := (D.cell 0).2; have f1 := (D.cell 1).2; have f2 := (D.cell 2).2; have f3 := (D.cell 3).2; have f4 := (D.cell 4).2; have f5 := (D.cell 5).2; have f6 := (D.cell 6).2; have f7 := (D.cell 7).2; have bb := below_more HB.out.2.1 d1))
              go_ret
              exact ⟨rfl, by (repeat' first | exact bb | with_reducible refine Below.alloc ?_ ?_ _ | with_reducible refine Below.setCell ?_ ?_ _ | with_reducible refine Below.drew ?_ | exact Below.refl _ _ | exact Nat.le_succ _ | exact Nat.le_refl _ | (simp; done) | (simp; omega))⟩
            | true =>
              have hr' : r = true := by rw [← hr]; simp [hq0, ha, hb, hx0, hm0]
              subst hr'
              clear hr
              go_enter Tryz.func102, Tryz.ntmps102
              go_wp2_with (first
                | (go_at_call 120; (with_reducible refine Calls.mono (NU _ HB.out.2.1 _ rfl) ?_); rintro e w1 ⟨rfl, d1⟩; have D := HB.out.1.more d1; have e0 := (D.cell 0).1; have e1 := (D.cell 1).1; have e2 := (D.cell 2).1; have e3 := (D.cell 3).1; have e4 := (D.cell 4).1; have e5 := (D.cell 5).1; have e6 := (D.cell 6).1; have e7 := (D.cell 7).1; have f0 := (D.cell 0).2; have f1 := (D.cell 1).2; have f2 := (D.cell 2).2; have f3 := (D.cell 3).2; have f4 := (D.cell 4).2; have f5 := (D.cell 5).2; have f6 := (D.cell 6).2; have f7 := (D.cell 7).2; have bb := below_more HB.out.2.1 d1)
                | (go_at_call 121; (with_reducible refine Calls.mono (NZ _) ?_); rintro e w2 ⟨rfl, d2⟩))
              go_ret
              exact ⟨rfl, by (repeat' first | exact bb | with_reducible refine below_more ?_ d2 | with_reducible refine Below.alloc ?_ ?_ _ | with_reducible refine Below.setCell ?_ ?_ _ | with_reducible refine Below.drew ?_ | exact Below.refl _ _ | exact Nat.le_succ _ | exact Nat.le_refl _ | (simp; done) | (simp; omega))⟩
  by_cases k2 : k = 2
  · subst k2
    have HB2 := HB.out.2.1
    rw [if_neg (by decide), if_neg (by decide), if_pos (by decide)] at hr
    cases hx0 : (x == 0) with
    | false =>
      have hr' : r = false := by rw [← hr]; simp [hx0]
      subst hr'
      clear hr
      go_enter Tryz.func102, Tryz.ntmps102
      go_wp2
      go_ret
      exact ⟨rfl, by (repeat' first | exact HB2 | with_reducible refine Below.alloc ?_ ?_ _ | with_reducible refine Below.setCell ?_ ?_ _ | with_reducible refine Below.drew ?_ | exact Below.refl _ _ | exact Nat.le_succ _ | exact Nat.le_refl _ | (simp; done) | (simp; omega))⟩
    | true =>
      cases hm0 : (nm.toList == []) with
      | false =>
        have hr' : r = false := by rw [← hr]; simp [hx0, hm0]
        subst hr'
        clear hr
        go_enter Tryz.func102, Tryz.ntmps102
        go_wp2
        go_ret
        exact ⟨rfl, by (repeat' first | exact HB2 | with_reducible refine Below.alloc ?_ ?_ _ | with_reducible refine Below.setCell ?_ ?_ _ | with_reducible refine Below.drew ?_ | exact Below.refl _ _ | exact Nat.le_succ _ | exact Nat.le_refl _ | (simp; done) | (simp; omega))⟩
      | true =>
        have hr' : r = nb := by rw [← hr]; simp [hx0, hm0]
        subst hr'
        clear hr
        go_enter Tryz.func102, Tryz.ntmps102
        go_wp2_with (first
          | (go_at_call 121; (with_reducible refine Calls.mono (NO _ _ rfl) ?_); rintro e w2 ⟨rfl, d2⟩))
        go_ret
        exact ⟨rfl, by (repeat' first | exact HB2 | with_reducible refine below_more ?_ d2 | with_reducible refine Below.alloc ?_ ?_ _ | with_reducible refine Below.setCell ?_ ?_ _ | with_reducible refine Below.drew ?_ | exact Below.refl _ _ | exact Nat.le_succ _ | exact Nat.le_refl _ | (simp; done) | (simp; omega))⟩
  by_cases k3 : k = 3
  · subst k3
    have HB2 := HB.out.2.1
    rw [if_neg (by decide), if_neg (by decide), if_pos (by decide)] at hr
    cases hx0 : (x == 0) with
    | false =>
      have hr' : r = false := by rw [← hr]; simp [hx0]
      subst hr'
      clear hr
      go_enter Tryz.func102, Tryz.ntmps102
      go_wp2
      go_ret
      exact ⟨rfl, by (repeat' first | exact HB2 | with_reducible refine Below.alloc ?_ ?_ _ | with_reducible refine Below.setCell ?_ ?_ _ | with_reducible refine Below.drew ?_ | exact Below.refl _ _ | exact Nat.le_succ _ | exact Nat.le_refl _ | (simp; done) | (simp; omega))⟩
    | true =>
      cases hm0 : (nm.toList == []) with
      | false =>
        have hr' : r = false := by rw [← hr]; simp [hx0, hm0]
        subst hr'
        clear hr
        go_enter Tryz.func102, Tryz.ntmps102
        go_wp2
        go_ret
        exact ⟨rfl, by (repeat' first | exact HB2 | with_reducible refine Below.alloc ?_ ?_ _ | with_reducible refine Below.setCell ?_ ?_ _ | with_reducible refine Below.drew ?_ | exact Below.refl _ _ | exact Nat.le_succ _ | exact Nat.le_refl _ | (simp; done) | (simp; omega))⟩
      | true =>
        have hr' : r = nb := by rw [← hr]; simp [hx0, hm0]
        subst hr'
        clear hr
        go_enter Tryz.func102, Tryz.ntmps102
        go_wp2_with (first
          | (go_at_call 121; (with_reducible refine Calls.mono (NO _ _ rfl) ?_); rintro e w2 ⟨rfl, d2⟩))
        go_ret
        exact ⟨rfl, by (repeat' first | exact HB2 | with_reducible refine below_more ?_ d2 | with_reducible refine Below.alloc ?_ ?_ _ | with_reducible refine Below.setCell ?_ ?_ _ | with_reducible refine Below.drew ?_ | exact Below.refl _ _ | exact Nat.le_succ _ | exact Nat.le_refl _ | (simp; done) | (simp; omega))⟩
  by_cases k4 : k = 4
  · subst k4
    have HB2 := HB.out.2.1
    rw [if_neg (by decide), if_neg (by decide), if_pos (by decide)] at hr
    cases hx0 : (x == 0) with
    | false =>
      have hr' : r = false := by rw [← hr]; simp [hx0]
      subst hr'
      clear hr
      go_enter Tryz.func102, Tryz.ntmps102
      go_wp2
      go_ret
      exact ⟨rfl, by (repeat' first | exact HB2 | with_reducible refine Below.alloc ?_ ?_ _ | with_reducible refine Below.setCell ?_ ?_ _ | with_reducible refine Below.drew ?_ | exact Below.refl _ _ | exact Nat.le_succ _ | exact Nat.le_refl _ | (simp; done) | (simp; omega))⟩
    | true =>
      cases hm0 : (nm.toList == []) with
      | false =>
        have hr' : r = false := by rw [← hr]; simp [hx0, hm0]
        subst hr'
        clear hr
        go_enter Tryz.func102, Tryz.ntmps102
        go_wp2
        go_ret
        exact ⟨rfl, by (repeat' first | exact HB2 | with_reducible refine Below.alloc ?_ ?_ _ | with_reducible refine Below.setCell ?_ ?_ _ | with_reducible refine Below.drew ?_ | exact Below.refl _ _ | exact Nat.le_succ _ | exact Nat.le_refl _ | (simp; done) | (simp; omega))⟩
      | true =>
        have hr' : r = nb := by rw [← hr]; simp [hx0, hm0]
        subst hr'
        clear hr
        go_enter Tryz.func102, Tryz.ntmps102
        go_wp2_with (first
          | (go_at_call 121; (with_reducible refine Calls.mono (NO _ _ rfl) ?_); rintro e w2 ⟨rfl, d2⟩))
        go_ret
        exact ⟨rfl, by (repeat' first | exact HB2 | with_reducible refine below_more ?_ d2 | with_reducible refine Below.alloc ?_ ?_ _ | with_reducible refine Below.setCell ?_ ?_ _ | with_reducible refine Below.drew ?_ | exact Below.refl _ _ | exact Nat.le_succ _ | exact Nat.le_refl _ | (simp; done) | (simp; omega))⟩
  by_cases k5 : k = 5
  · subst k5
    have HB2 := HB.out.2.1
    rw [if_neg (by decide), if_neg (by decide), if_pos (by decide)] at hr
    cases hx0 : (x == 0) with
    | false =>
      have hr' : r = false := by rw [← hr]; simp [hx0]
      subst hr'
      clear hr
      go_enter Tryz.func102, Tryz.ntmps102
      go_wp2
      go_ret
      exact ⟨rfl, by (repeat' first | exact HB2 | with_reducible refine Below.alloc ?_ ?_ _ | with_reducible refine Below.setCell ?_ ?_ _ | with_reducible refine Below.drew ?_ | exact Below.refl _ _ | exact Nat.le_succ _ | exact Nat.le_refl _ | (simp; done) | (simp; omega))⟩
    | true =>
      cases hm0 : (nm.toList == []) with
      | false =>
        have hr' : r = false := by rw [← hr]; simp [hx0, hm0]
        subst hr'
        clear hr
        go_enter Tryz.func102, Tryz.ntmps102
        go_wp2
        go_ret
        exact ⟨rfl, by (repeat' first | exact HB2 | with_reducible refine Below.alloc ?_ ?_ _ | with_reducible refine Below.setCell ?_ ?_ _ | with_reducible refine Below.drew ?_ | exact Below.refl _ _ | exact Nat.le_succ _ | exact Nat.le_refl _ | (simp; done) | (simp; omega))⟩
      | true =>
        have hr' : r = nb := by rw [← hr]; simp [hx0, hm0]
        subst hr'
        clear hr
        go_enter Tryz.func102, Tryz.ntmps102
        go_wp2_with (first
          | (go_at_call 121; (with_reducible refine Calls.mono (NO _ _ rfl) ?_); rintro e w2 ⟨rfl, d2⟩))
        go_ret
        exact ⟨rfl, by (repeat' first | exact HB2 | with_reducible refine below_more ?_ d2 | with_reducible refine Below.alloc ?_ ?_ _ | with_reducible refine Below.setCell ?_ ?_ _ | with_reducible refine Below.drew ?_ | exact Below.refl _ _ | exact Nat.le_succ _ | exact Nat.le_refl _ | (simp; done) | (simp; omega))⟩
  by_cases k6 : k = 6
  · subst k6
    have HB2 := HB.out.2.1
    rw [if_neg (by decide), if_neg (by decide), if_neg (by decide), if_pos (by decide)] at hr
    cases hb : (b == 0) with
    | false =>
      have hr' : r = false := by rw [← hr]; simp [hb]
      subst hr'
      clear hr
      go_enter Tryz.func102, Tryz.ntmps102
      go_wp2
      go_ret
      exact ⟨rfl, by (repeat' first | exact HB2 | with_reducible refine Below.alloc ?_ ?_ _ | with_reducible refine Below.setCell ?_ ?_ _ | with_reducible refine Below.drew ?_ | exact Below.refl _ _ | exact Nat.le_succ _ | exact Nat.le_refl _ | (simp; done) | (simp; omega))⟩
    | true =>
      cases hx0 : (x == 0) with
      | false =>
        have hr' : r = false := by rw [← hr]; simp [hb, hx0]
        subst hr'
        clear hr
        go_enter Tryz.func102, Tryz.ntmps102
        go_wp2
        go_ret
        exact ⟨rfl, by (repeat' first | exact HB2 | with_reducible refine Below.alloc ?_ ?_ _ | with_reducible refine Below.setCell ?_ ?_ _ | with_reducible refine Below.drew ?_ | exact Below.refl _ _ | exact Nat.le_succ _ | exact Nat.le_refl _ | (simp; done) | (simp; omega))⟩
      | true =>
        cases hm0 : (nm.toList == []) with
        | false =>
          have hr' : r = false := by rw [← hr]; simp [hb, hx0, hm0]
          subst hr'
          clear hr
          go_enter Tryz.func102, Tryz.ntmps102
          go_wp2
          go_ret
          exact ⟨rfl, by (repeat' first | exact HB2 | with_reducible refine Below.alloc ?_ ?_ _ | with_reducible refine Below.setCell ?_ ?_ _ | with_reducible refine Below.drew ?_ | exact Below.refl _ _ | exact Nat.le_succ _ | exact Nat.le_refl _ | (simp; done) | (simp; omega))⟩
        | true =>
          have hr' : r = nb := by rw [← hr]; simp [hb, hx0, hm0]
          subst hr'
          clear hr
          go_enter Tryz.func102, Tryz.ntmps102
          go_wp2_with (first
            | (go_at_call 121; (with_reducible refine Calls.mono (NO _ _ rfl) ?_); rintro e w2 ⟨rfl, d2⟩))
          go_ret
          exact ⟨rfl, by (repeat' first | exact HB2 | with_reducible refine below_more ?_ d2 | with_reducible refine Below.alloc ?_ ?_ _ | with_reducible refine Below.setCell ?_ ?_ _ | with_reducible refine Below.drew ?_ | exact Below.refl _ _ | exact Nat.le_succ _ | exact Nat.le_refl _ | (simp; done) | (simp; omega))⟩
  by_cases k7 : k = 7
  · subst k7
    have HB2 := HB.out.2.1
    rw [if_neg (by decide), if_neg (by decide), if_neg (by decide), if_neg (by decide), if_pos (by decide)] at hr
    by_cases p1 : -20 ≤ x
    · by_cases p2 : x ≤ 20
      · have hp0 : decide (-20 ≤ x ∧ x ≤ 20) = true := decide_eq_true ⟨p1, p2⟩
        rw [hp0] at hr
        clear hp0
        cases hb : (b == 0) with
        | false =>
          have hr' : r = false := by rw [← hr]; simp [hb]
          subst hr'
          clear hr
          go_enter Tryz.func102, Tryz.ntmps102
          go_wp2
          go_region
          all_goals go_wp2
          all_goals go_ret
          all_goals exact ⟨rfl, by (repeat' first | exact HB2 | with_reducible refine Below.alloc ?_ ?_ _ | with_reducible refine Below.setCell ?_ ?_ _ | with_reducible refine Below.drew ?_ | exact Below.refl _ _ | exact Nat.le_succ _ | exact Nat.le_refl _ | (simp; done) | (simp; omega))⟩
        | true =>
          cases hm0 : (nm.toList == []) with
          | false =>
            have hr' : r = false := by rw [← hr]; simp [hb, hm0]
            subst hr'
            clear hr
            go_enter Tryz.func102, Tryz.ntmps102
            go_wp2
            go_region
            all_goals go_wp2
            all_goals go_ret
            all_goals exact ⟨rfl, by (repeat' first | exact HB2 | with_reducible refine Below.alloc ?_ ?_ _ | with_reducible refine Below.setCell ?_ ?_ _ | with_reducible refine Below.drew ?_ | exact Below.refl _ _ | exact Nat.le_succ _ | exact Nat.le_refl _ | (simp; done) | (simp; omega))⟩
          | true =>
            have hr' : r = nb := by rw [← hr]; simp [hb, hm0]
            subst hr'
            clear hr
            go_enter Tryz.func102, Tryz.ntmps102
            go_wp2
            go_region
            all_goals go_wp2_with (first
              | (go_at_call 121; (with_reducible refine Calls.mono (NO _ _ rfl) ?_); rintro e w2 ⟨rfl, d2⟩))
            all_goals go_ret
            all_goals exact ⟨rfl, by (repeat' first | exact HB2 | with_reducible refine below_more ?_ d2 | with_reducible refine Below.alloc ?_ ?_ _ | with_reducible refine Below.setCell ?_ ?_ _ | with_reducible refine Below.drew ?_ | exact Below.refl _ _ | exact Nat.le_succ _ | exact Nat.le_refl _ | (simp; done) | (simp; omega))⟩
      · have hp0 : decide (-20 ≤ x ∧ x ≤ 20) = false := decide_eq_false (fun q => p2 q.2)
        have hr' : r = false := by rw [← hr, hp0]; simp
        subst hr'
        clear hr hp0
        go_enter Tryz.func102, Tryz.ntmps102
        go_wp2
        go_region
        all_goals go_wp2
        all_goals go_ret
        all_goals exact ⟨rfl, by (repeat' first | exact HB2 | with_reducible refine Below.alloc ?_ ?_ _ | with_reducible refine Below.setCell ?_ ?_ _ | with_reducible refine Below.drew ?_ | exact Below.refl _ _ | exact Nat.le_succ _ | exact Nat.le_refl _ | (simp; done) | (simp; omega))⟩
    · have hp0 : decide (-20 ≤ x ∧ x ≤ 20) = false := decide_eq_false (fun q => p1 q.1)
      have hr' : r = false := by rw [← hr, hp0]; simp
      subst hr'
      clear hr hp0
      have p3 : decide (-20 ≤ x) = false := decide_eq_false p1
      have p4 : x < -20 := by omega
      go_enter Tryz.func102, Tryz.ntmps102
      go_wp2
      go_region
      all_goals go_wp2
      all_goals go_ret
      all_goals exact ⟨rfl, by (repeat' first | exact HB2 | with_reducible refine Below.alloc ?_ ?_ _ | with_reducible refine Below.setCell ?_ ?_ _ | with_reducible refine Below.drew ?_ | exact Below.refl _ _ | exact Nat.le_succ _ | exact Nat.le_refl _ | (simp; done) | (simp; omega))⟩
  have hr' : r = false := by
    rw [← hr, if_neg k0, if_neg k1, if_neg (by omega), if_neg k6, if_neg k7]
  subst hr'
  have HB2 := HB.out.2.1
  have g0 : (k == 0) = false := by rw [beq_eq_false_iff_ne]; exact k0
  have g1 : (k == 1) = false := by rw [beq_eq_false_iff_ne]; exact k1
  have g2 : (k == 2) = false := by rw [beq_eq_false_iff_ne]; exact k2
  have g3 : (k == 3) = false := by rw [beq_eq_false_iff_ne]; exact k3
  have g4 : (k == 4) = false := by rw [beq_eq_false_iff_ne]; exact k4
  have g5 : (k == 5) = false := by rw [beq_eq_false_iff_ne]; exact k5
  have g6 : (k == 6) = false := by rw [beq_eq_false_iff_ne]; exact k6
  have g7 : (k == 7) = false := by rw [beq_eq_false_iff_ne]; exact k7
  clear hr k0 k1 k2 k3 k4 k5 k6 k7
  go_enter Tryz.func102, Tryz.ntmps102
  go_wp2
  go_ret
  exact ⟨rfl, by (repeat' first | exact HB2 | with_reducible refine Below.alloc ?_ ?_ _ | with_reducible refine Below.setCell ?_ ?_ _ | with_reducible refine Below.drew ?_ | exact Below.refl _ _ | exact Nat.le_succ _ | exact Nat.le_refl _ | (simp; done) | (simp; omega))⟩
end Go.Proofs.YtbcfplaalepnbaaGreatDoor
namespace Go.Proofs.YtbcfplaalepnbaaGreatDoor
open Go.RowKit Go.Lib
def sgStep (ms : List Nw) (i : Nat) (lo : List Int) : Option (List Int) := match ms[i]? with
  | none => none
  | some m => if fillR m = true ∧ (ptsI m.kind m.a m.b).length ≤ lo.length ∧ lo.drop (lo.length - (ptsI m.kind m.a m.b).length) = ptsI m.kind m.a m.b then some (lo.take (lo.length - (ptsI m.kind m.a m.b).length) ++ [(i : Int)]) else none
def sgF (ms : List Nw) (j : Nat) : Nat → Nat → List Int → Bool
  | 0, _, lo => decide (lo.length = 1)
  | f + 1, i, lo => if i < j then (match sgStep ms i lo with | none => false | some lo' => sgF ms j f (i + 1) lo') else decide (lo.length = 1)
def sgB (ms : List Nw) (j i : Nat) : Bool := sgF ms j (j + 1) i []
theorem IsN.at {w : World} {g o n : Nat} {ms : List Mn} (h : IsN w (some ⟨g, o, none⟩) n ms) {i : Nat} {m : Mn} (hm : ms[i]? = some m) (v : World) (b : Below w.heap.size w v) : v.cell? ⟨g, o + i * 8, none⟩ = some (.int .i64 m.1.kind) ∧ v.cell? ⟨g, o + i * 8 + 1, none⟩ = some (.int .i64 m.1.a) ∧ v.cell? ⟨g, o + i * 8 + 2, none⟩ = some (.int .i64 m.1.b) ∧ v.cell? ⟨g, o + i * 8 + 3, none⟩ = some (.int .i64 m.1.exp) ∧
    v.cell? ⟨g, o + i * 8 + 4, none⟩ = some (.string m.1.name) ∧ v.cell? ⟨g, o + i * 8 + 5, none⟩ = some (.bool m.1.neg) ∧ v.cell? ⟨g, o + i * 8 + 6, none⟩ = some m.2.1 ∧ v.cell? ⟨g, o + i * 8 + 7, none⟩ = some m.2.2 := by
  obtain ⟨g', o', e, r⟩ := (h.below b).node hm
  injection e with e
  injection e with e1 e2
  subst e1; subst e2
  exact r
def NdR (w : World) (ms : List Mn) : Prop := ∀ m ∈ ms, (∃ x y, m.2.1 = .slice x m.1.xs.length y ∧ IsWords w (.slice x m.1.xs.length y) m.1.xs) ∧ (∃ x y, m.2.2 = .slice x m.1.ys.length y ∧ IsWords w (.slice x m.1.ys.length y) m.1.ys) ∧ Wd m.1.xs ∧ Wd m.1.ys ∧ m.1.xs.length ≤ 10000 ∧ m.1.ys.length ≤ 10000 ∧ m.1.name.size ≤ 1000000
theorem OwnC.nilC {W w : World} {la : Option Addr} {n lc : Nat} {cs : List Value} (h : OwnC 3 1 W w (.slice la n lc) n cs) : (la = none ∧ lc = 0 ∧ n = 0) ∨ ∃ g, la = some ⟨g, 0, none⟩ ∧ n ≤ lc := by
  rcases h.1.2 with ⟨e, h0⟩ | ⟨g, cap, cur, e, h1, hg, h2, -⟩
  · injection e with e1 e2 e3
    exact .inl ⟨e1, e3, h0⟩
  · injection e with e1 e2 e3
    exact .inr ⟨g, e1, by omega⟩
theorem IsI.below {w w' : World} {a : Option Addr} {n : Nat} {xs : List Int} (h : IsI w a n xs) (hb : Below w.heap.size w w') : IsI w' a n xs := by
  refine ⟨h.1, ?_⟩
  rcases h.2 with h0 | ⟨g, o, e, hc⟩
  · exact .inl h0
  · exact .inr ⟨g, o, e, fun j x hj => by rw [hb.cell (World.block_lt_of_cell? w _ (hc j x hj))]; exact hc j x hj⟩
theorem IsP.isI {B : Nat} {w w' : World} {pa : Option Addr} {P : List Int} (h : IsP B w pa P) (hb : Below w.heap.size w w') : IsI w' pa P.length P := by
  refine IsI.below (w := w) ⟨rfl, ?_⟩ hb
  rcases h with rfl | ⟨b, q1, q2, q3, q4⟩
  · exact .inl rfl
  · exact .inr ⟨b, 0, q1, fun j x hj => by rw [Nat.zero_add]; exact q4 j x hj⟩
set_option maxHeartbeats 64000000 in
theorem tree_single {w : World} {a : Option Addr} {n c : Nat} {ms : List Mn} (h : IsN w a n ms) (hR : NdR w ms) (hn : n ≤ 100000) (i : Nat) (hi : i ≤ n) (r : Bool) (hr : sgB (ms.map (·.1)) n i = r) :
    Calls Tryz.prog 70 #[.slice a n c, .int .i64 i] w fun e w' => e = .returned (.bool r) ∧ Below w.heap.size w w' := by
  have HH : Hid (IsN w a n ms ∧ NdR w ms ∧ n ≤ 100000 ∧ sgF (ms.map (·.1)) n (n + 1) i [] = r ∧ OwnC 3 1 w w (.slice none 0 0) 0 []) := ⟨h, hR, hn, hr, OwnC.nil (Below.refl _ _)⟩
  have hi' : Hid (i ≤ n) := hi
  clear h hR hn hr hi
  go_enter Tryz.func70, Tryz.ntmps70
  go_wp2
  go_loopg [5, 6] (n - i + 1) (fun g s5 s6 v => ∃ (t f : Nat) (la : Option Addr) (lc : Nat) (lo : List Int), s5 = .slice la lo.length lc ∧ s6 = .int .i64 t ∧ t ≤ n ∧ n - t + 1 ≤ g ∧ n - t < f ∧ OwnC 3 1 w v (.slice la lo.length lc) lo.length (lo.map (Value.int .i64)) ∧ sgF (ms.map (·.1)) n f t lo = r ∧ lo.length ≤ t)
  case atStart => exact ⟨i, n + 1, none, 0, [], rfl, rfl, hi'.out, Nat.le_refl _, by omega, HH.out.2.2.2.2, HH.out.2.2.2.1, Nat.zero_le _⟩
  case round =>
    obtain ⟨t, f, la, lc, lo, rfl, rfl, htn, hg, hf, o, hr, hlt⟩ := hrel
    obtain ⟨hN, hR, hn, -, -⟩ := HH.out
    have bw := o.below
    cases f with
    | zero => omega
    | succ f =>
      rcases Nat.lt_or_ge t n with ht | ht
      · have p1 : (t : Int) < n := by omega
        obtain ⟨m, hm⟩ : ∃ m, ms[t]? = some m := ⟨_, List.getElem?_eq_getElem (by have := hN.1; omega)⟩
        obtain ⟨⟨ux, uy, hu, hu'⟩, ⟨vx, vy, hv, hv'⟩, hwx, hwy, hlx, hly, hnm⟩ := hR m (List.mem_of_getElem? hm)
        obtain ⟨gm, om, rfl, -⟩ := hN.node hm
        have CE := fun (v : World) (b : Below w.heap.size w v) => hN.at hm v b
        simp only [hu, hv] at CE
        obtain ⟨n0, n1, n2, n3, n4, n5, n6, n7⟩ := CE wr bw
        have hms : (ms.map (·.1))[t]? = some m.1 := by rw [List.getElem?_map, hm]; rfl
        have PT := fun (v : World) => tree_parts m.1.kind m.1.a m.1.b m.1.exp m.1.name m.1.neg ux m.1.xs.length uy vx m.1.ys.length vy v
        have FL : ∀ (v : World), Below w.heap.size w v → ∀ q, fillR m.1 = q → Calls Tryz.prog 102 #[.agg #[.int .i64 m.1.kind, .int .i64 m.1.a, .int .i64 m.1.b, .int .i64 m.1.exp, .string m.1.name, .bool m.1.neg, .slice ux m.1.xs.length uy, .slice vx m.1.ys.length vy]] v fun e w' => e = .returned (.bool q) ∧ Below v.heap.size v w' := fun v b q hq => tree_filled (hu'.below b) hwx (hv'.below b) hwy hlx hly hnm q hq
        unfold sgF at hr
        rw [if_pos ht] at hr
        unfold sgStep at hr
        rw [hms] at hr
        dsimp only at hr
        have hP2 := pts_len m.1.kind m.1.a m.1.b
        generalize ptsI m.1.kind m.1.a m.1.b = P at *
        generalize hfl : fillR m.1 = fb at *
        have FL' := fun (v : World) (b : Below w.heap.size w v) => FL v b fb rfl
        clear FL
        generalize m.1.kind = y0 at *
        generalize m.1.a = y1 at *
        generalize m.1.b = y2 at *
        generalize m.1.exp = y3 at *
        generalize m.1.name = y4 at *
        generalize m.1.neg = y5 at *
        generalize m.1.xs.length = y6 at *
        generalize m.1.ys.length = y7 at *
        have g5 : gm < wr.heap.size := World.block_lt_of_cell? wr _ n0
        clear hm hu hv hu' hv' hwx hwy hlx hly hnm hms hfl hR hN
        by_cases hlen : lo.length < P.length
        · -- too few wait
          have hrf : r = false := by rw [← hr, if_neg (fun q => by have := q.2.1; omega)]
          subst hrf
          have w0 : wrap64 ((lo.length : Int) - (P.length : Int)) = (lo.length : Int) - (P.length : Int) := by unfold wrap64; omega
          have k0 : (lo.length : Int) - (P.length : Int) < 0 := by omega
          have k0' : (lo.length : Int) < (P.length : Int) := by omega
          have HB : Hid (Below w.heap.size w wr) := bw
          generalize lo.length = N at *
          generalize P.length = PN at *
          clear hr htn hg hf o hlt hlen hn HH hi' hP2
          cases fb with
          | false =>
            go_wp2_with (first
              | (go_at_call 71; (with_reducible refine Calls.mono (PT _) ?_); rintro e w1 ⟨pa, pc, rfl, hp, d1⟩; have b1 := below_more bw d1; obtain ⟨n0, n1, n2, n3, n4, n5, n6, n7⟩ := CE _ b1)
              | (go_at_call 102; (with_reducible refine Calls.mono (FL' _ b1) ?_); rintro e w2 ⟨rfl, d2⟩; have b2 := below_more b1 d2))
            go_ret
            exact ⟨rfl, b2⟩
          | true =>
            go_wp2_with (first
              | (go_at_call 71; (with_reducible refine Calls.mono (PT _) ?_); rintro e w1 ⟨pa, pc, rfl, hp, d1⟩; have b1 := below_more bw d1; obtain ⟨n0, n1, n2, n3, n4, n5, n6, n7⟩ := CE _ b1)
              | (go_at_call 102; (with_reducible refine Calls.mono (FL' _ b1) ?_); rintro e w2 ⟨rfl, d2⟩; have b2 := below_more b1 d2))
            go_ret
            exact ⟨rfl, b2⟩
        · obtain ⟨R, hRl⟩ : ∃ R, lo.length = R + P.length := ⟨lo.length - P.length, by omega⟩
          have hsub : lo.length - P.length = R := by omega
          rw [hsub] at hr
          have HW : Hid (wrap64 ((lo.length : Int) - (P.length : Int)) = (R : Int)) := by show wrap64 _ = _; unfold wrap64; omega
          have k0 : ¬ (R : Int) < 0 := by omega
          cases fb with
          | false =>
            have w0 := HW.out
            have hrf : r = false := by rw [← hr, if_neg (fun q => absurd q.1 (by simp))]
            subst hrf
            generalize lo.length = N at *
            generalize P.length = PN at *
            clear hr htn hg hf o hlt hlen hn HH hi' hP2 hRl hsub
            go_wp2_with (first
              | (go_at_call 71; (with_reducible refine Calls.mono (PT _) ?_); rintro e w1 ⟨pa, pc, rfl, hp, d1⟩; have b1 := below_more bw d1; obtain ⟨n0, n1, n2, n3, n4, n5, n6, n7⟩ := CE _ b1)
              | (go_at_call 102; (with_reducible refine Calls.mono (FL' _ b1) ?_); rintro e w2 ⟨rfl, d2⟩; have b2 := below_more b1 d2))
            go_ret
            exact ⟨rfl, b2⟩
          | true =>
            have hR0 : R ≤ lo.length := by omega
            have hcut := o.cut (m := R) hR0
            have OC : Hid (OwnC 3 1 w wr (.slice la R lc) R ((lo.take R).map (Value.int .i64))) := by
              have : ((lo.map (Value.int .i64)).take (R * 1)) = (lo.take R).map (Value.int .i64) := by rw [Nat.mul_one, List.map_take]
              rw [← this]; exact hcut
            have HT : Hid (wrap64 ((t : Int) + 1) = (t : Int) + 1) := wrap_smalls (by omega) (by omega)
            have m1 : R + 1 ≤ maxLen := by unfold maxLen; omega
            have m2 : (R + 1) * 8 ≤ 140737488355328 := by omega
            have HL : Hid ((lo.take R ++ [(t : Int)]).length = R + 1) := by show _ = _; rw [List.length_append, List.length_take]; show min R lo.length + 1 = _; omega
            have hwR : Hid (wrap64 (R : Int) = R) := by show wrap64 _ = _; unfold wrap64; omega
            by_cases hE : lo.drop R = P
            · rw [if_pos ⟨rfl, by omega, hE⟩] at hr
              have HQ : Hid (sgF (ms.map (·.1)) n f (t + 1) (lo.take R ++ [(t : Int)]) = r ∧ t + 1 ≤ n ∧ n - (t + 1) < f ∧ R + 1 ≤ t + 1 ∧ n - (t + 1) + 1 < gk) := ⟨hr, by omega, by omega, by omega, by omega⟩
              rcases o.nilC with ⟨rfl, rfl, h0⟩ | ⟨g, rfl, hcap⟩
              · have hP0 : P = [] := List.eq_nil_of_length_eq_zero (by omega)
                subst hP0
                obtain rfl : R = 0 := by omega
                have EQ := fun (v : World) (a' b' : Option Addr) (c' d' : Nat) => eq_ints (w := v) (a := a') (b := b') (n := 0) (c := c') (m := 0) (d := d') (xs := []) (ys := []) ⟨rfl, .inl rfl⟩ ⟨rfl, .inl rfl⟩ (by decide) true (by decide)
                rw [show (([] : List Int).length) = 0 from rfl] at *
                rw [h0] at HW
                rw [h0]
                clear hr hP2 hE hR0 hcut hsub hlen hlt hn hf hg htn HH hi' o
                have w0 := HW.out
                have w1t := HT.out
                go_wp2_with (first
                  | (go_at_call 71; (with_reducible refine Calls.mono (PT _) ?_); rintro e w1 ⟨pa, pc, rfl, hp, d1⟩; have b1 := below_more bw d1; obtain ⟨n0, n1, n2, n3, n4, n5, n6, n7⟩ := CE _ b1)
                  | (go_at_call 102; (with_reducible refine Calls.mono (FL' _ b1) ?_); rintro e w2 ⟨rfl, d2⟩; have b2 := below_more b1 d2; have b12 := below_more d1 d2)
                  | (go_at_call 103; (with_reducible refine Calls.mono (EQ _ _ _ _ _) ?_); rintro e w3 ⟨rfl, d3⟩; have b3 := below_more b2 d3; have dd := below_more b12 d3)
                  | (at_builtin; refine wpl_append_c (t := 37) (e := 3) Tryz.underlying37 infoInt rfl (by decide) (.tmp 46) (.tmp 48) rfl rfl w _ _ 0 _ (some ⟨w3.heap.size, 0, none⟩) 1 1 [.int .i64 t] rfl rfl ((OC.out.more dd).alloc _) (BoxC.new w3 #[.int .i64 t] 3).isc (by simp [Value.oneCell']) (by simp) m1 m2 ?_; intro a6 c6 w6 _ o6 g6))
                obtain ⟨q1, q2, q3, q4, q5⟩ := HQ.out
                clear w0
                have hl' := HL.out
                go_roundg (n - (t + 1) + 1)
                case measure => exact q5
                case rel => exact ⟨t + 1, f, a6, c6, lo.take 0 ++ [(t : Int)], by rw [hl'], by first | rfl | (rw [w1t]; rfl), q2, Nat.le_refl _, q3, by rw [hl', List.map_append]; exact o6, q1, by rw [hl']; exact q4⟩
              · by_cases hP0 : P = []
                · subst hP0
                  have EQ := fun (v : World) (a' b' : Option Addr) (c' d' : Nat) => eq_ints (w := v) (a := a') (b := b') (n := 0) (c := c') (m := 0) (d := d') (xs := []) (ys := []) ⟨rfl, .inl rfl⟩ ⟨rfl, .inl rfl⟩ (by decide) true (by decide)
                  have hlR : lo.length = R := by rw [hRl]; rfl
                  have k1 : R ≤ lc := by omega
                  have k2 : (R : Int) ≤ (lc : Int) := by omega
                  have k3 : (0 : Int) ≤ (R : Int) := by omega
                  rw [show (([] : List Int).length) = 0 from rfl] at *
                  rw [hlR] at HW
                  rw [hlR]
                  have w0R := hwR.out
                  by_cases hcc : lc - R = 0
                  · clear hr hP2 hE hR0 hcut hsub hlen hlt hn hf hg htn HH hi' o
                    have w0 := HW.out
                    have w1t := HT.out
                    go_wp2_with (first
                      | (go_at_call 71; (with_reducible refine Calls.mono (PT _) ?_); rintro e w1 ⟨pa, pc, rfl, hp, d1⟩; have b1 := below_more bw d1; obtain ⟨n0, n1, n2, n3, n4, n5, n6, n7⟩ := CE _ b1)
                      | (go_at_call 102; (with_reducible refine Calls.mono (FL' _ b1) ?_); rintro e w2 ⟨rfl, d2⟩; have b2 := below_more b1 d2; have b12 := below_more d1 d2)
                      | (go_at_call 103; (with_reducible refine Calls.mono (EQ _ _ _ _ _) ?_); rintro e w3 ⟨rfl, d3⟩; have b3 := below_more b2 d3; have dd := below_more b12 d3)
                      | (at_builtin; refine wpl_append_c (t := 37) (e := 3) Tryz.underlying37 infoInt rfl (by decide) (.tmp 46) (.tmp 48) rfl rfl w _ _ R _ (some ⟨w3.heap.size, 0, none⟩) 1 1 [.int .i64 t] rfl rfl ((OC.out.more dd).alloc _) (BoxC.new w3 #[.int .i64 t] 3).isc (by simp [Value.oneCell']) (by simp) m1 m2 ?_; intro a6 c6 w6 _ o6 g6))
                    all_goals
                      obtain ⟨q1, q2, q3, q4, q5⟩ := HQ.out
                      clear w0
                      have hl' := HL.out
                      go_roundg (n - (t + 1) + 1)
                      case measure => exact q5
                      case rel => exact ⟨t + 1, f, a6, c6, lo.take R ++ [(t : Int)], by rw [hl'], by first | rfl | (rw [w1t]; rfl), q2, Nat.le_refl _, q3, by rw [hl', List.map_append]; exact o6, q1, by rw [hl']; exact q4⟩
                  · clear hr hP2 hE hR0 hcut hsub hlen hlt hn hf hg htn HH hi' o
                    have w0 := HW.out
                    have w1t := HT.out
                    go_wp2_with (first
                      | (go_at_call 71; (with_reducible refine Calls.mono (PT _) ?_); rintro e w1 ⟨pa, pc, rfl, hp, d1⟩; have b1 := below_more bw d1; obtain ⟨n0, n1, n2, n3, n4, n5, n6, n7⟩ := CE _ b1)
                      | (go_at_call 102; (with_reducible refine Calls.mono (FL' _ b1) ?_); rintro e w2 ⟨rfl, d2⟩; have b2 := below_more b1 d2; have b12 := below_more d1 d2)
                      | (go_at_call 103; (with_reducible refine Calls.mono (EQ _ _ _ _ _) ?_); rintro e w3 ⟨rfl, d3⟩; have b3 := below_more b2 d3; have dd := below_more b12 d3)
                      | (at_builtin; refine wpl_append_c (t := 37) (e := 3) Tryz.underlying37 infoInt rfl (by decide) (.tmp 46) (.tmp 48) rfl rfl w _ _ R _ (some ⟨w3.heap.size, 0, none⟩) 1 1 [.int .i64 t] rfl rfl ((OC.out.more dd).alloc _) (BoxC.new w3 #[.int .i64 t] 3).isc (by simp [Value.oneCell']) (by simp) m1 m2 ?_; intro a6 c6 w6 _ o6 g6))
                    obtain ⟨q1, q2, q3, q4, q5⟩ := HQ.out
                    clear w0
                    have hl' := HL.out
                    go_roundg (n - (t + 1) + 1)
                    case measure => exact q5
                    case rel => exact ⟨t + 1, f, a6, c6, lo.take R ++ [(t : Int)], by rw [hl'], by first | rfl | (rw [w1t]; rfl), q2, Nat.le_refl _, q3, by rw [hl', List.map_append]; exact o6, q1, by rw [hl']; exact q4⟩
                · have hPN : 0 < P.length := List.length_pos_iff.2 hP0
                  have k1 : R ≤ lc := by omega
                  have k2 : (R : Int) ≤ (lc : Int) := by omega
                  have k3 : (0 : Int) ≤ (R : Int) := by omega
                  have hcc : lc - R ≠ 0 := by omega
                  have k4 : (R : Int) ≤ ((R + P.length : Nat) : Int) := by omega
                  have k5 : R ≤ R + P.length := by omega
                  have IW : IsI wr (some ⟨g, R, none⟩) P.length (lo.drop R) := ⟨by rw [List.length_drop]; omega, .inr ⟨g, R, rfl, fun j x hj => (o.at1 (k := R + j) (by rw [List.getElem?_map]; rw [List.getElem?_drop] at hj; rw [hj]; rfl)).1⟩⟩
                  have EQ := fun (v : World) (b : Below wr.heap.size wr v) (pa : Option Addr) (pc : Nat) (hp : IsI v pa P.length P) => eq_ints (c := lc - R) (d := pc) (IW.below b) hp (by omega) true (decide_eq_true hE)
                  rw [hRl] at HW
                  rw [hRl]
                  have w0R := hwR.out
                  clear hr hP2 hE hR0 hcut hsub hlen hlt hn hf hg htn HH hi' o
                  have w0 := HW.out
                  have w1t := HT.out
                  go_wp2_with (first
                    | (go_at_call 71; (with_reducible refine Calls.mono (PT _) ?_); rintro e w1 ⟨pa, pc, rfl, hp, d1⟩; have b1 := below_more bw d1; obtain ⟨n0, n1, n2, n3, n4, n5, n6, n7⟩ := CE _ b1)
                    | (go_at_call 102; (with_reducible refine Calls.mono (FL' _ b1) ?_); rintro e w2 ⟨rfl, d2⟩; have b2 := below_more b1 d2; have b12 := below_more d1 d2)
                    | (go_at_call 103; (with_reducible refine Calls.mono (EQ _ b12 _ _ (IsP.isI hp d2)) ?_); rintro e w3 ⟨rfl, d3⟩; have b3 := below_more b2 d3; have dd := below_more b12 d3)
                    | (at_builtin; refine wpl_append_c (t := 37) (e := 3) Tryz.underlying37 infoInt rfl (by decide) (.tmp 46) (.tmp 48) rfl rfl w _ _ R _ (some ⟨w3.heap.size, 0, none⟩) 1 1 [.int .i64 t] rfl rfl ((OC.out.more dd).alloc _) (BoxC.new w3 #[.int .i64 t] 3).isc (by simp [Value.oneCell']) (by simp) m1 m2 ?_; intro a6 c6 w6 _ o6 g6))
                  obtain ⟨q1, q2, q3, q4, q5⟩ := HQ.out
                  clear w0
                  have hl' := HL.out
                  go_roundg (n - (t + 1) + 1)
                  case measure => exact q5
                  case rel => exact ⟨t + 1, f, a6, c6, lo.take R ++ [(t : Int)], by rw [hl'], by first | rfl | (rw [w1t]; rfl), q2, Nat.le_refl _, q3, by rw [hl', List.map_append]; exact o6, q1, by rw [hl']; exact q4⟩
            · have hrf : r = false := by rw [← hr, if_neg (fun q => hE q.2.2)]
              subst hrf
              have hP0 : P ≠ [] := fun q => hE (by rw [q]; exact List.drop_eq_nil_of_le (by rw [hRl, q]; exact Nat.le_refl _))
              have hPN : 0 < P.length := List.length_pos_iff.2 hP0
              rcases o.nilC with ⟨rfl, rfl, h0⟩ | ⟨g, rfl, hcap⟩
              · exact absurd hPN (by omega)
              · have k1 : R ≤ lc := by omega
                have k2 : (R : Int) ≤ (lc : Int) := by omega
                have k3 : (0 : Int) ≤ (R : Int) := by omega
                have hcc : lc - R ≠ 0 := by omega
                have k4 : (R : Int) ≤ ((R + P.length : Nat) : Int) := by omega
                have k5 : R ≤ R + P.length := by omega
                have IW : IsI wr (some ⟨g, R, none⟩) P.length (lo.drop R) := ⟨by rw [List.length_drop]; omega, .inr ⟨g, R, rfl, fun j x hj => (o.at1 (k := R + j) (by rw [List.getElem?_map]; rw [List.getElem?_drop] at hj; rw [hj]; rfl)).1⟩⟩
                have EQ := fun (v : World) (b : Below wr.heap.size wr v) (pa : Option Addr) (pc : Nat) (hp : IsI v pa P.length P) => eq_ints (c := lc - R) (d := pc) (IW.below b) hp (by omega) false (decide_eq_false hE)
                rw [hRl] at HW
                rw [hRl]
                have w0R := hwR.out
                clear hr hP2 hE hR0 hcut hsub hlen hlt hn hf hg htn HH hi' o
                have w0 := HW.out
                go_wp2_with (first
                  | (go_at_call 71; (with_reducible refine Calls.mono (PT _) ?_); rintro e w1 ⟨pa, pc, rfl, hp, d1⟩; have b1 := below_more bw d1; obtain ⟨n0, n1, n2, n3, n4, n5, n6, n7⟩ := CE _ b1)
                  | (go_at_call 102; (with_reducible refine Calls.mono (FL' _ b1) ?_); rintro e w2 ⟨rfl, d2⟩; have b2 := below_more b1 d2; have b12 := below_more d1 d2)
                  | (go_at_call 103; (with_reducible refine Calls.mono (EQ _ b12 _ _ (IsP.isI hp d2)) ?_); rintro e w3 ⟨rfl, d3⟩; have b3 := below_more b2 d3; have dd := below_more b12 d3))
                go_ret
                exact ⟨rfl, b3⟩
      · have p1 : ¬ (t : Int) < n := by omega
        have hr' : decide (lo.length = 1) = r := by rw [← hr]; unfold sgF; rw [if_neg (by omega)]
        have e : ((lo.length : Int) == 1) = r := by
          rw [← hr']
          by_cases q : lo.length = 1
          · rw [q]; rfl
          · rw [decide_eq_false q, beq_eq_false_iff_ne]; omega
        have HB : Hid (Below w.heap.size w wr) := bw
        generalize lo.length = N at *
        clear htn hg hf o hr hlt hN hR hn ht hr' HH hi'
        go_wp2
        go_ret
        exact ⟨by rw [← e]; rfl, HB.out⟩
end Go.Proofs.YtbcfplaalepnbaaGreatDoor
namespace Go.Proofs.YtbcfplaalepnbaaGreatDoor
open Go.RowKit Go.Lib
def grF (ms : List Nw) : List (ByteArray × Int) → Int → Bool
  | [], fr => decide (fr = ms.length)
  | l :: ls, fr => nameB l.1 && decide (fr ≤ l.2) && decide (l.2 < ms.length) && sgB (ms.take (l.2.toNat + 1)) (l.2.toNat + 1) fr.toNat && grF ms ls (l.2 + 1)
theorem IsN.take {w : World} {a : Option Addr} {n : Nat} {ms : List Mn} (h : IsN w a n ms) {k : Nat} (hk : k ≤ n) : IsN w a k (ms.take k) := by
  refine ⟨by rw [List.length_take, h.1]; omega, ?_⟩
  rcases h.2 with h0 | ⟨g, o, e, hc⟩
  · exact .inl (by omega)
  · refine .inr ⟨g, o, e, fun i m hm => hc i m ?_⟩
    rw [List.getElem?_take] at hm
    split at hm
    · exact hm
    · exact absurd hm (by simp)
theorem NdR.take {w : World} {ms : List Mn} (h : NdR w ms) (k : Nat) : NdR w (ms.take k) := fun m hm => h m (List.mem_of_mem_take hm)
theorem NdR.below {w w' : World} {ms : List Mn} (h : NdR w ms) (hb : Below w.heap.size w w') : NdR w' ms := fun m hm => by
  obtain ⟨⟨x, y, e, h1⟩, ⟨x', y', e', h1'⟩, r⟩ := h m hm
  exact ⟨⟨x, y, e, h1.below hb⟩, ⟨x', y', e', h1'.below hb⟩, r⟩
def IsLt (w : World) (a : Option Addr) (n : Nat) (ls : List (ByteArray × Int)) : Prop := ls.length = n ∧ (n = 0 ∨ ∃ g o, a = some ⟨g, o, none⟩ ∧ ∀ (j : Nat) (x : ByteArray × Int), ls[j]? = some x → w.cell? ⟨g, o + j * 2, none⟩ = some (.string x.1) ∧ w.cell? ⟨g, o + j * 2 + 1, none⟩ = some (.int .i64 x.2))
theorem IsLt.below {w w' : World} {a : Option Addr} {n : Nat} {ls : List (ByteArray × Int)} (h : IsLt w a n ls) (hb : Below w.heap.size w w') : IsLt w' a n ls := by
  refine ⟨h.1, ?_⟩
  rcases h.2 with h0 | ⟨g, o, e, hc⟩
  · exact .inl h0
  · exact .inr ⟨g, o, e, fun j x hj => by
      obtain ⟨c1, c2⟩ := hc j x hj
      exact ⟨by rw [hb.cell (World.block_lt_of_cell? w _ c1)]; exact c1, by rw [hb.cell (World.block_lt_of_cell? w _ c2)]; exact c2⟩⟩
theorem IsC.isLt {w : World} {a : Option Addr} {n : Nat} {ls : List (ByteArray × Int)} (h : IsC 2 w a n (flat encL ls)) : IsLt w a n ls := by
  obtain ⟨hl, -⟩ := h.get encL_length (by decide)
  refine ⟨hl, ?_⟩
  rcases h.lit (by decide) with h0 | ⟨g, o, e, hc⟩
  · exact .inl h0
  · refine .inr ⟨g, o, e, fun j x hj => ?_⟩
    have f0 := flat_get encL_length ls j x hj 0 (by decide)
    have f1 := flat_get encL_length ls j x hj 1 (by decide)
    exact ⟨hc _ _ f0, by rw [Nat.add_assoc]; exact hc _ _ f1⟩
set_option maxHeartbeats 64000000 in
theorem tree_grown {w : World} {ia la oa a : Option Addr} {il ic ln lc ol oc n c : Nat} {ls : List (ByteArray × Int)} {ms : List Mn} (hL : IsLt w la ln ls) (h : IsN w a n ms) (hR : NdR w ms) (hn : n ≤ 100000) (hln : ln ≤ 100000) (hc : n ≤ c) (hz : ∀ x ∈ ls, x.1.size ≤ 1000000 ∧ -9223372036854775808 ≤ x.2 ∧ x.2 < 9223372036854775808) (r : Bool) (hr : grF (ms.map (·.1)) ls 0 = r) :
    Calls Tryz.prog 43 #[.agg #[.slice ia il ic, .slice la ln lc, .slice oa ol oc, .slice a n c]] w fun e w' => e = .returned (.bool r) ∧ Below w.heap.size w w' := by
  obtain ⟨B1, bV, hs⟩ := boxes1 w #[.slice ia il ic, .slice la ln lc, .slice oa ol oc, .slice a n c] 27
  have hlen : (ms.map (·.1)).length = n := by rw [List.length_map]; exact h.1
  have HH : Hid (IsLt w la ln ls ∧ IsN w a n ms ∧ NdR w ms ∧ n ≤ 100000 ∧ ln ≤ 100000 ∧ n ≤ c ∧ (∀ x ∈ ls, x.1.size ≤ 1000000 ∧ -9223372036854775808 ≤ x.2 ∧ x.2 < 9223372036854775808) ∧ grF (ms.map (·.1)) ls 0 = r ∧ (ms.map (·.1)).length = n) := ⟨hL, h, hR, hn, hln, hc, hz, hr, hlen⟩
  have HB : Hid (BoxC (w.alloc (.cells #[.slice ia il ic, .slice la ln lc, .slice oa ol oc, .slice a n c] 27)) w.heap.size #[.slice ia il ic, .slice la ln lc, .slice oa ol oc, .slice a n c] 27 ∧ Below w.heap.size w (w.alloc (.cells #[.slice ia il ic, .slice la ln lc, .slice oa ol oc, .slice a n c] 27))) := ⟨B1, bV⟩
  clear hL h hR hn hln hc hz hr hlen B1 bV hs
  go_enter Tryz.func43, Tryz.ntmps43
  go_wp2
  generalize hV : w.alloc (.cells #[.slice ia il ic, .slice la ln lc, .slice oa ol oc, .slice a n c] 27) = V at *
  go_loopg [3, 9] ln (fun g s3 s9 v => ∃ (t : Nat) (fr : Int), s3 = .int .i64 fr ∧ s9 = .int .i64 t ∧ t + g = ln ∧ 0 ≤ fr ∧ fr ≤ n ∧ grF (ms.map (·.1)) (ls.drop t) fr = r ∧ Below V.heap.size V v)
  case atStart => exact ⟨0, 0, rfl, rfl, by omega, Int.le_refl _, by omega, HH.out.2.2.2.2.2.2.2.1, Below.refl _ _⟩
  case round =>
    obtain ⟨t, fr, rfl, rfl, hg, hf0, hfn, hr, bw⟩ := hrel
    obtain ⟨hL, h, hR, hn, hln, hc, hz, -, hlen⟩ := HH.out
    rcases Nat.lt_or_ge t ln with ht | ht
    · have p1 : (t : Int) < ln := by omega
      obtain ⟨⟨nm, rt⟩, hx⟩ : ∃ x, ls[t]? = some x := ⟨_, List.getElem?_eq_getElem (by have := hL.1; omega)⟩
      have hbW := below_more HB.out.2 bw
      obtain ⟨g1, o1, rfl, hcl⟩ := (hL.below hbW).2.resolve_left (by omega)
      obtain ⟨c0, c1⟩ := hcl t _ hx
      have g1w : g1 < wr.heap.size := World.block_lt_of_cell? wr _ c0
      dsimp only at c0 c1
      obtain ⟨hz1, hz2, hz3⟩ := hz _ (List.mem_of_getElem? hx)
      dsimp only at hz1 hz2 hz3
      have hd : ls.drop t = (nm, rt) :: ls.drop (t + 1) := by
        obtain ⟨q1, q2⟩ := List.getElem?_eq_some_iff.1 hx
        rw [List.drop_eq_getElem_cons q1, q2]
      rw [hd] at hr
      unfold grF at hr
      dsimp only at hr
      rw [hlen] at hr
      obtain ⟨q, rfl⟩ := Int.eq_ofNat_of_zero_le hf0
      rw [show ((q : Int)).toNat = q from rfl] at hr
      have hR1 := (HB.out.1.more bw).lt
      cases hb : nameB nm with
      | false =>
        rw [hb] at hr
        simp only [Bool.false_and] at hr
        subst hr
        have SN := fun v => sign_name nm v hz1 false hb
        clear hL h hR hn hln hc hz hlen hcl hx hz1 hz2 hz3 hd hb hg hf0 hfn HH
        go_wp2_with (first
          | (go_at_call 69; (with_reducible refine Calls.mono (SN _) ?_); rintro e w1 ⟨rfl, d1⟩; have BX := (BoxC.new wr #[.string nm, .int .i64 rt] 46).more d1; obtain ⟨x0, x1, -, -⟩ := BX.cells2; have bA := (Below.refl wr.heap.size wr).alloc (Nat.le_refl _) (.cells #[.string nm, .int .i64 rt] 46); have b1 := below_more bA d1; have b1V := below_more bw b1; have P1 := HB.out.1.more b1V; have p3 := (P1.cell 3).1))
        go_ret
        exact ⟨rfl, below_more HB.out.2 b1V⟩
      | true =>
        rw [hb, Bool.true_and] at hr
        have SN := fun v => sign_name nm v hz1 true hb
        by_cases hlt : rt < (q : Int)
        · rw [decide_eq_false (by omega)] at hr
          simp only [Bool.false_and] at hr
          subst hr
          clear hL h hR hn hln hc hz hlen hcl hx hz1 hz2 hz3 hd hb hg hf0 hfn HH
          go_wp2_with (first
            | (go_at_call 69; (with_reducible refine Calls.mono (SN _) ?_); rintro e w1 ⟨rfl, d1⟩; have BX := (BoxC.new wr #[.string nm, .int .i64 rt] 46).more d1; obtain ⟨x0, x1, -, -⟩ := BX.cells2; have bA := (Below.refl wr.heap.size wr).alloc (Nat.le_refl _) (.cells #[.string nm, .int .i64 rt] 46); have b1 := below_more bA d1; have b1V := below_more bw b1; have P1 := HB.out.1.more b1V; have p3 := (P1.cell 3).1))
          go_ret
          exact ⟨rfl, below_more HB.out.2 b1V⟩
        · rw [decide_eq_true (by omega), Bool.true_and] at hr
          obtain ⟨R, rfl⟩ := Int.eq_ofNat_of_zero_le (show 0 ≤ rt by omega)
          by_cases hge : n ≤ R
          · rw [decide_eq_false (by omega)] at hr
            simp only [Bool.false_and] at hr
            subst hr
            have k1 : (n : Int) ≤ R := by omega
            have k2 : ¬ (R : Int) < n := by omega
            clear hL h hR hn hln hc hz hlen hcl hx hz1 hz2 hz3 hd hb hg hf0 hfn HH
            go_wp2_with (first
              | (go_at_call 69; (with_reducible refine Calls.mono (SN _) ?_); rintro e w1 ⟨rfl, d1⟩; have BX := (BoxC.new wr #[.string nm, .int .i64 (R : Int)] 46).more d1; obtain ⟨x0, x1, -, -⟩ := BX.cells2; have bA := (Below.refl wr.heap.size wr).alloc (Nat.le_refl _) (.cells #[.string nm, .int .i64 (R : Int)] 46); have b1 := below_more bA d1; have b1V := below_more bw b1; have P1 := HB.out.1.more b1V; have p3 := (P1.cell 3).1))
            go_ret
            exact ⟨rfl, below_more HB.out.2 b1V⟩
          · rw [decide_eq_true (by omega), Bool.true_and] at hr
            rw [show ((R : Int)).toNat = R from rfl] at hr
            have k1 : ¬ (n : Int) ≤ R := by omega
            have k2 : (R : Int) < n := by omega
            have k3 : R + 1 ≤ c := by omega
            have k4 : (R : Int) + 1 ≤ (c : Int) := by omega
            have k5 : (0 : Int) ≤ (R : Int) + 1 := by omega
            have SG0 := fun (v : World) (b : Below V.heap.size V v) (sb : Bool) (hs : sgB (((ms.take (R + 1)).map (·.1))) (R + 1) q = sb) => tree_single (c := c) ((h.below (below_more HB.out.2 b)).take (show R + 1 ≤ n by omega)) ((hR.below (below_more HB.out.2 b)).take (R + 1)) (by omega) q (by omega) sb hs
            rw [List.map_take] at SG0
            have HW : Hid (wrap64 ((R : Int) + 1) = (R : Int) + 1 ∧ wrap64 ((t : Int) + 1) = (t : Int) + 1) := ⟨wrap_smalls (by omega) (by omega), wrap_smalls (by omega) (by omega)⟩
            cases hsg : sgB ((ms.map (·.1)).take (R + 1)) (R + 1) q with
            | false =>
              rw [hsg] at hr
              simp only [Bool.false_and] at hr
              subst hr
              have SG := fun v b => SG0 v b false hsg
              clear hL h hR hn hln hc hz hlen hcl hx hz1 hz2 hz3 hd hb hg hf0 hfn HH SG0 hsg
              have wR := HW.out.1
              go_wp2_with (first
                | (go_at_call 69; (with_reducible refine Calls.mono (SN _) ?_); rintro e w1 ⟨rfl, d1⟩; have BX := (BoxC.new wr #[.string nm, .int .i64 (R : Int)] 46).more d1; obtain ⟨x0, x1, -, -⟩ := BX.cells2; have bA := (Below.refl wr.heap.size wr).alloc (Nat.le_refl _) (.cells #[.string nm, .int .i64 (R : Int)] 46); have b1 := below_more bA d1; have b1V := below_more bw b1; have P1 := HB.out.1.more b1V; have p3 := (P1.cell 3).1)
                | (go_at_call 70; (with_reducible refine Calls.mono (SG _ b1V) ?_); rintro e w2 ⟨rfl, d2⟩; obtain ⟨z0, z1, -, -⟩ := (BX.more d2).cells2; have b2V := below_more b1V d2))
              go_ret
              exact ⟨rfl, below_more HB.out.2 b2V⟩
            | true =>
              rw [hsg, Bool.true_and] at hr
              have SG := fun v b => SG0 v b true hsg
              have HQ : Hid (grF (ms.map (·.1)) (ls.drop (t + 1)) ((R : Int) + 1) = r ∧ t + 1 + (ln - (t + 1)) = ln ∧ 0 ≤ (R : Int) + 1 ∧ (R : Int) + 1 ≤ n ∧ ln - (t + 1) < gk) := ⟨hr, by omega, by omega, by omega, by omega⟩
              clear hr hL h hR hn hln hc hz hlen hcl hx hz1 hz2 hz3 hd hb hg hf0 hfn HH SG0 hsg
              have wR := HW.out.1
              have wT := HW.out.2
              go_wp2_with (first
                | (go_at_call 69; (with_reducible refine Calls.mono (SN _) ?_); rintro e w1 ⟨rfl, d1⟩; have BX := (BoxC.new wr #[.string nm, .int .i64 (R : Int)] 46).more d1; obtain ⟨x0, x1, -, -⟩ := BX.cells2; have bA := (Below.refl wr.heap.size wr).alloc (Nat.le_refl _) (.cells #[.string nm, .int .i64 (R : Int)] 46); have b1 := below_more bA d1; have b1V := below_more bw b1; have P1 := HB.out.1.more b1V; have p3 := (P1.cell 3).1)
                | (go_at_call 70; (with_reducible refine Calls.mono (SG _ b1V) ?_); rintro e w2 ⟨rfl, d2⟩; obtain ⟨z0, z1, -, -⟩ := (BX.more d2).cells2; have b2V := below_more b1V d2))
              obtain ⟨q1, q2, q3, q4, q5⟩ := HQ.out
              go_roundg (ln - (t + 1))
              case measure => exact q5
              case rel => exact ⟨t + 1, (R : Int) + 1, by first | rfl | rw [wR], by first | rfl | (rw [wT]; rfl), q2, q3, q4, q1, b2V⟩
    · have p1 : ¬ (t : Int) < ln := by omega
      obtain rfl : t = ln := by omega
      rw [List.drop_eq_nil_of_le (by have := hL.1; omega)] at hr
      unfold grF at hr
      rw [hlen] at hr
      have e : (fr == (n : Int)) = r := by
        rw [← hr]
        by_cases q : fr = (n : Int)
        · rw [decide_eq_true q, beq_iff_eq]; exact q
        · rw [decide_eq_false q, beq_eq_false_iff_ne]; exact q
      have P1 := HB.out.1.more bw
      have p3 := (P1.cell 3).1
      clear hL h hR hn hln hc hz hlen hg hf0 hfn hr HH P1
      go_wp2
      go_ret
      exact ⟨by rw [← e]; rfl, below_more HB.out.2 bw⟩
end Go.Proofs.YtbcfplaalepnbaaGreatDoor
namespace Go.Proofs.YtbcfplaalepnbaaGreatDoor
open Go.RowKit Go.Lib
structure PgR (w : World) (ia la oa a : Option Addr) (il ln ol n c : Nat) (ins outs : List ByteArray) (ls : List (ByteArray × Int)) (ms : List Mn) : Prop where
  hins : IsS w ia il ins
  hlets : IsLt w la ln ls
  houts : IsS w oa ol outs
  hall : IsN w a n ms
  hnodes : NdR w ms
  isz : ∀ x ∈ ins, x.size ≤ 1000000
  osz : ∀ x ∈ outs, x.size ≤ 1000000
  lsz : ∀ x ∈ ls, x.1.size ≤ 1000000 ∧ -9223372036854775808 ≤ x.2 ∧ x.2 < 9223372036854775808
  cap : n ≤ c
theorem PgR.below {w w' : World} {ia la oa a : Option Addr} {il ln ol n c : Nat} {ins outs : List ByteArray} {ls : List (ByteArray × Int)} {ms : List Mn} (h : PgR w ia la oa a il ln ol n c ins outs ls ms) (hb : Below w.heap.size w w') : PgR w' ia la oa a il ln ol n c ins outs ls ms :=
  ⟨h.hins.below hb, h.hlets.below hb, h.houts.below hb, h.hall.below hb, h.hnodes.below hb, h.isz, h.osz, h.lsz, h.cap⟩
def fewB (n i l o : Nat) : Bool := decide (n ≤ 400) && decide (i ≤ 40) && decide (l ≤ 40) && decide (o ≤ 40)
def lowB (l : List Nd) : Bool := !(List.range l.length).any fun k => decide (60 < tallI l k)
def rgtB (ins outs : List ByteArray) (ls : List (ByteArray × Int)) (ms : List Nw) : Bool :=
  fewB ms.length ins.length ls.length outs.length && decide (0 < ins.length) && decide (0 < outs.length) && ins.all nameB && outs.all nameB && grF ms ls 0 && lowB (ms.map Nw.nd)
theorem sg_step {ms : List Nw} {i : Nat} {lo lo' : List Int} (h : sgStep ms i lo = some lo') (hl : ∀ x ∈ lo, 0 ≤ x ∧ x < (i : Int)) : (∃ m, ms[i]? = some m ∧ fillR m = true ∧ ∀ p ∈ ptsI m.kind m.a m.b, 0 ≤ p ∧ p < (i : Int)) ∧ ∀ x ∈ lo', 0 ≤ x ∧ x < ((i + 1 : Nat) : Int) := by
  unfold sgStep at h
  cases hm : ms[i]? with
  | none => rw [hm] at h; exact absurd h (by simp)
  | some m =>
    rw [hm] at h
    dsimp only at h
    split at h
    · rename_i hc
      injection h with h
      refine ⟨⟨m, rfl, hc.1, fun p hp => ?_⟩, fun x hx => ?_⟩
      · rw [← hc.2.2] at hp
        exact hl p (List.mem_of_mem_drop hp)
      · rw [← h] at hx
        rcases List.mem_append.1 hx with q | q
        · have := hl x (List.mem_of_mem_take q)
          omega
        · obtain rfl := List.mem_singleton.1 q
          omega
    · exact absurd h (by simp)
theorem sg_all (ms : List Nw) (j : Nat) : ∀ (f t : Nat) (lo : List Int), sgF ms j f t lo = true → j - t < f → (∀ x ∈ lo, 0 ≤ x ∧ x < (t : Int)) → ∀ i, t ≤ i → i < j → ∃ m, ms[i]? = some m ∧ fillR m = true ∧ ∀ p ∈ ptsI m.kind m.a m.b, 0 ≤ p ∧ p < (i : Int) := by
  intro f
  induction f with
  | zero => intro t lo _ h; omega
  | succ f ih =>
    intro t lo h hf hl i hti hij
    unfold sgF at h
    rw [if_pos (by omega)] at h
    cases hs : sgStep ms t lo with
    | none => rw [hs] at h; exact absurd h (by simp)
    | some lo' =>
      rw [hs] at h
      dsimp only at h
      obtain ⟨h1, h2⟩ := sg_step hs hl
      rcases Nat.lt_or_ge t i with q | q
      · exact ih (t + 1) lo' h (by omega) h2 i (by omega) hij
      · obtain rfl : t = i := by omega
        exact h1
theorem gr_all (ms : List Nw) : ∀ (ls : List (ByteArray × Int)) (fr : Int), 0 ≤ fr → grF ms ls fr = true → ∀ i : Nat, fr ≤ i → i < ms.length → ∃ m, ms[i]? = some m ∧ fillR m = true ∧ ∀ p ∈ ptsI m.kind m.a m.b, 0 ≤ p ∧ p < (i : Int) := by
  intro ls
  induction ls with
  | nil =>
    intro fr h0 h i h1 h2
    unfold grF at h
    rw [decide_eq_true_eq] at h
    omega
  | cons l ls ih =>
    intro fr h0 h i h1 h2
    unfold grF at h
    simp only [Bool.and_eq_true, decide_eq_true_eq] at h
    obtain ⟨⟨⟨⟨-, h3⟩, h4⟩, h5⟩, h6⟩ := h
    by_cases q : (i : Int) ≤ l.2
    · obtain ⟨m, m1, m2⟩ := sg_all (ms.take (l.2.toNat + 1)) (l.2.toNat + 1) _ fr.toNat [] h5 (by omega) (fun x hx => absurd hx (by simp)) i (by omega) (by omega)
      refine ⟨m, ?_, m2⟩
      rw [List.getElem?_take] at m1
      split at m1
      · exact m1
      · exact absurd m1 (by simp)
    · exact ih (l.2 + 1) (by omega) h6 i (by omega) h2
theorem fill_kind {m : Nw} (h : fillR m = true) : 0 ≤ m.kind ∧ m.kind ≤ 7 := by
  unfold fillR at h
  by_cases k0 : m.kind = 0
  · omega
  rw [if_neg k0] at h
  by_cases k1 : m.kind = 1
  · omega
  rw [if_neg k1] at h
  by_cases k2 : m.kind = 2 ∨ m.kind = 3 ∨ m.kind = 4 ∨ m.kind = 5
  · omega
  rw [if_neg k2] at h
  by_cases k6 : m.kind = 6
  · omega
  rw [if_neg k6] at h
  by_cases k7 : m.kind = 7
  · omega
  rw [if_neg k7] at h
  exact absurd h (by simp)
theorem gr_behind {ms : List Nw} {ls : List (ByteArray × Int)} (h : grF ms ls 0 = true) : Behind (ms.map Nw.nd) ∧ ∀ m ∈ ms, 0 ≤ m.kind ∧ m.kind ≤ 7 := by
  have ga := gr_all ms ls 0 (Int.le_refl _) h
  refine ⟨fun p n hn hk => ?_, fun m hm => ?_⟩
  · rw [List.getElem?_map] at hn
    cases hm : ms[p]? with
    | none => rw [hm] at hn; exact absurd hn (by simp)
    | some m =>
      rw [hm] at hn
      have e : m.nd = n := by simpa using hn
      subst e
      obtain ⟨m', m1, m2, m3⟩ := ga p (by omega) (List.getElem?_eq_some_iff.1 hm).1
      rw [hm] at m1
      injection m1 with m1
      subst m1
      have hk' : 2 ≤ m.kind := hk
      have h7 := fill_kind m2
      unfold ptsI at m3
      rw [if_neg (by omega)] at m3
      by_cases k6 : m.kind = 6 ∨ m.kind = 7
      · rw [if_pos k6] at m3
        have := m3 m.a (by simp)
        exact ⟨this.1, this.2, fun q => by have : m.kind ≤ 5 := q; omega⟩
      · rw [if_neg k6] at m3
        have h1 := m3 m.a (by simp)
        have h2 := m3 m.b (by simp)
        exact ⟨h1.1, h1.2, fun _ => h2⟩
  · obtain ⟨i, hi, he⟩ := List.getElem_of_mem hm
    obtain ⟨m', m1, m2, -⟩ := ga i (by omega) hi
    rw [List.getElem?_eq_getElem hi, he] at m1
    injection m1 with m1
    rw [m1]
    exact fill_kind m2
set_option maxHeartbeats 16000000 in
theorem tree_right {w : World} {ia la oa a : Option Addr} {il ic ln lc ol oc n c : Nat} {ins outs : List ByteArray} {ls : List (ByteArray × Int)} {ms : List Mn} (h : PgR w ia la oa a il ln ol n c ins outs ls ms) (r : Bool) (hr : rgtB ins outs ls (ms.map (·.1)) = r) :
    Calls Tryz.prog 16 #[.agg #[.slice ia il ic, .slice la ln lc, .slice oa ol oc, .slice a n c]] w fun e w' => e = .returned (.bool r) ∧ Below w.heap.size w w' := by
  obtain ⟨B1, bV, hs⟩ := boxes1 w #[.slice ia il ic, .slice la ln lc, .slice oa ol oc, .slice a n c] 27
  have hlen : (ms.map (·.1)).length = n := by rw [List.length_map]; exact h.hall.1
  have hnd : (ms.map (·.1)).map Nw.nd = ms.map fun m => m.1.nd := by rw [List.map_map]; rfl
  unfold rgtB at hr
  rw [hlen, h.hins.1, h.houts.1, h.hlets.1] at hr
  have CB := fun (v : World) (b : Below (w.alloc (.cells #[.slice ia il ic, .slice la ln lc, .slice oa ol oc, .slice a n c] 27)).heap.size (w.alloc (.cells #[.slice ia il ic, .slice la ln lc, .slice oa ol oc, .slice a n c] 27)) v) => (show v.cell? ⟨w.heap.size, 0, none⟩ = some (.slice ia il ic) ∧ v.cell? ⟨w.heap.size, 1, none⟩ = some (.slice la ln lc) ∧ v.cell? ⟨w.heap.size, 2, none⟩ = some (.slice oa ol oc) ∧ v.cell? ⟨w.heap.size, 3, none⟩ = some (.slice a n c) from ⟨((B1.more b).cell 0).1, ((B1.more b).cell 1).1, ((B1.more b).cell 2).1, ((B1.more b).cell 3).1⟩)
  have hV := h.below bV
  generalize hVV : w.alloc (.cells #[.slice ia il ic, .slice la ln lc, .slice oa ol oc, .slice a n c] 27) = V at *
  have FW0 := fun (q : Bool) (hq : fewB n il ln ol = q) (v : World) => tree_few il ic ln lc ol oc n c ia la oa a q hq v
  subst hVV
  cases hf : fewB n il ln ol with
  | false =>
    rw [hf] at hr
    simp only [Bool.false_and] at hr
    subst hr
    have FW := FW0 false hf
    clear h hV hlen hnd B1 FW0 hf
    go_enter Tryz.func16, Tryz.ntmps16
    go_wp2_with (first
      | (go_at_call 28; (with_reducible refine Calls.mono (FW _) ?_); rintro e w1 ⟨rfl, d1⟩; obtain ⟨y0, y1, y2, y3⟩ := CB _ d1))
    go_ret
    exact ⟨rfl, below_more bV d1⟩
  | true =>
    have FW := FW0 true hf
    have hb : n ≤ 400 ∧ il ≤ 40 ∧ ln ≤ 40 ∧ ol ≤ 40 := by
      unfold fewB at hf
      simp only [Bool.and_eq_true, decide_eq_true_eq] at hf
      exact ⟨hf.1.1.1, hf.1.1.2, hf.1.2, hf.2⟩
    rw [hf, Bool.true_and] at hr
    clear FW0 hf
    by_cases h1 : 0 < il
    · have k1 : (0 : Int) < il := by omega
      rw [decide_eq_true h1, Bool.true_and] at hr
      by_cases h2 : 0 < ol
      · have k2 : (0 : Int) < ol := by omega
        rw [decide_eq_true h2, Bool.true_and] at hr
        have N10 := fun (q : Bool) (hq : ins.all nameB = q) (v : World) (b : Below _ _ v) => tree_named (c := ic) (hV.hins.below b) h.isz (by omega) q hq
        have N20 := fun (q : Bool) (hq : outs.all nameB = q) (v : World) (b : Below _ _ v) => tree_named (c := oc) (hV.houts.below b) h.osz (by omega) q hq
        cases ha : ins.all nameB with
        | false =>
          rw [ha] at hr
          simp only [Bool.false_and] at hr
          subst hr
          have N1 := N10 false ha
          clear h hV hlen hnd B1 N10 N20 ha h1 h2 hb
          go_enter Tryz.func16, Tryz.ntmps16
          go_wp2_with (first
            | (go_at_call 28; (with_reducible refine Calls.mono (FW _) ?_); rintro e w1 ⟨rfl, d1⟩; obtain ⟨y0, y1, y2, y3⟩ := CB _ d1)
            | (go_at_call 42; (with_reducible refine Calls.mono (N1 _ d1) ?_); rintro e w2 ⟨rfl, d2⟩; have e2 := below_more d1 d2; obtain ⟨y0, y1, y2, y3⟩ := CB _ e2))
          go_ret
          exact ⟨rfl, below_more bV e2⟩
        | true =>
          rw [ha, Bool.true_and] at hr
          have N1 := N10 true ha
          cases hb2 : outs.all nameB with
          | false =>
            rw [hb2] at hr
            simp only [Bool.false_and] at hr
            subst hr
            have N2 := N20 false hb2
            clear h hV hlen hnd B1 N10 N20 ha hb2 h1 h2 hb
            go_enter Tryz.func16, Tryz.ntmps16
            go_wp2_with (first
              | (go_at_call 28; (with_reducible refine Calls.mono (FW _) ?_); rintro e w1 ⟨rfl, d1⟩; obtain ⟨y0, y1, y2, y3⟩ := CB _ d1)
              | (go_at_call 42; (with_reducible refine Calls.mono (N1 _ d1) ?_); rintro e w2 ⟨rfl, d2⟩; have e2 := below_more d1 d2; obtain ⟨y0, y1, y2, y3⟩ := CB _ e2)
              | (go_at_call 42; (with_reducible refine Calls.mono (N2 _ e2) ?_); rintro e w3 ⟨rfl, d3⟩; have e3 := below_more e2 d3; obtain ⟨y0, y1, y2, y3⟩ := CB _ e3))
            go_ret
            exact ⟨rfl, below_more bV e3⟩
          | true =>
            rw [hb2, Bool.true_and] at hr
            have N2 := N20 true hb2
            have GW0 := fun (q : Bool) (hq : grF (ms.map (·.1)) ls 0 = q) (v : World) (b : Below _ _ v) => tree_grown (ia := ia) (oa := oa) (il := il) (ic := ic) (lc := lc) (ol := ol) (oc := oc) (c := c) (hV.hlets.below b) (hV.hall.below b) (hV.hnodes.below b) (by omega) (by omega) h.cap h.lsz q hq
            cases hg : grF (ms.map (·.1)) ls 0 with
            | false =>
              rw [hg] at hr
              simp only [Bool.false_and] at hr
              subst hr
              have GW := GW0 false hg
              clear h hV hlen hnd B1 N10 N20 GW0 ha hb2 h1 h2 hb hg
              go_enter Tryz.func16, Tryz.ntmps16
              go_wp2_with (first
                | (go_at_call 28; (with_reducible refine Calls.mono (FW _) ?_); rintro e w1 ⟨rfl, d1⟩; obtain ⟨y0, y1, y2, y3⟩ := CB _ d1)
                | (go_at_call 42; (with_reducible refine Calls.mono (N1 _ d1) ?_); rintro e w2 ⟨rfl, d2⟩; have e2 := below_more d1 d2; obtain ⟨y0, y1, y2, y3⟩ := CB _ e2)
                | (go_at_call 42; (with_reducible refine Calls.mono (N2 _ e2) ?_); rintro e w3 ⟨rfl, d3⟩; have e3 := below_more e2 d3; obtain ⟨y0, y1, y2, y3⟩ := CB _ e3)
                | (go_at_call 43; (with_reducible refine Calls.mono (GW _ e3) ?_); rintro e w4 ⟨rfl, d4⟩; have e4 := below_more e3 d4; obtain ⟨y0, y1, y2, y3⟩ := CB _ e4))
              go_ret
              exact ⟨rfl, below_more bV e4⟩
            | true =>
              rw [hg, Bool.true_and] at hr
              have GW := GW0 true hg
              obtain ⟨hBh, hKd⟩ := gr_behind hg
              rw [hnd] at hBh
              unfold lowB at hr
              rw [hnd, List.length_map, hV.hall.1] at hr
              have LW := fun (v : World) (b : Below _ _ v) => tree_low (c := c) (hV.hall.below b) (by omega) hBh (fun m hm => hKd m.1 (List.mem_map_of_mem hm)) (fun m hm => by
                obtain ⟨⟨x, y, e, -⟩, ⟨x', y', e', -⟩, -⟩ := hV.hnodes m hm
                exact ⟨⟨x, _, y, e⟩, ⟨x', _, y', e'⟩⟩) r hr
              clear h hV hlen hnd B1 N10 N20 GW0 ha hb2 h1 h2 hb hg hBh hKd hr
              go_enter Tryz.func16, Tryz.ntmps16
              go_wp2_with (first
                | (go_at_call 28; (with_reducible refine Calls.mono (FW _) ?_); rintro e w1 ⟨rfl, d1⟩; obtain ⟨y0, y1, y2, y3⟩ := CB _ d1)
                | (go_at_call 42; (with_reducible refine Calls.mono (N1 _ d1) ?_); rintro e w2 ⟨rfl, d2⟩; have e2 := below_more d1 d2; obtain ⟨y0, y1, y2, y3⟩ := CB _ e2)
                | (go_at_call 42; (with_reducible refine Calls.mono (N2 _ e2) ?_); rintro e w3 ⟨rfl, d3⟩; have e3 := below_more e2 d3; obtain ⟨y0, y1, y2, y3⟩ := CB _ e3)
                | (go_at_call 43; (with_reducible refine Calls.mono (GW _ e3) ?_); rintro e w4 ⟨rfl, d4⟩; have e4 := below_more e3 d4; obtain ⟨y0, y1, y2, y3⟩ := CB _ e4)
                | (go_at_call 29; (with_reducible refine Calls.mono (LW _ e4) ?_); rintro e w5 ⟨rfl, d5⟩; have e5 := below_more e4 d5))
              go_ret
              exact ⟨rfl, below_more bV e5⟩
      · have k2 : ¬ (0 : Int) < ol := by omega
        rw [decide_eq_false h2] at hr
        simp only [Bool.false_and] at hr
        subst hr
        clear h hV hlen hnd B1 h1 h2 hb
        go_enter Tryz.func16, Tryz.ntmps16
        go_wp2_with (first
          | (go_at_call 28; (with_reducible refine Calls.mono (FW _) ?_); rintro e w1 ⟨rfl, d1⟩; obtain ⟨y0, y1, y2, y3⟩ := CB _ d1))
        go_ret
        exact ⟨rfl, below_more bV d1⟩
    · have k1 : ¬ (0 : Int) < il := by omega
      rw [decide_eq_false h1] at hr
      simp only [Bool.false_and] at hr
      subst hr
      clear h hV hlen hnd B1 h1 hb
      go_enter Tryz.func16, Tryz.ntmps16
      go_wp2_with (first
        | (go_at_call 28; (with_reducible refine Calls.mono (FW _) ?_); rintro e w1 ⟨rfl, d1⟩; obtain ⟨y0, y1, y2, y3⟩ := CB _ d1))
      go_ret
      exact ⟨rfl, below_more bV d1⟩
set_option maxHeartbeats 8000000 in
theorem tree_Heights {w : World} {ia la oa a : Option Addr} {il ic ln lc ol oc n c : Nat} {ins outs : List ByteArray} {ls : List (ByteArray × Int)} {ms : List Mn} (h : PgR w ia la oa a il ln ol n c ins outs ls ms) (r : Bool) (hr : rgtB ins outs ls (ms.map (·.1)) = r) :
    Calls Tryz.prog 18 #[.agg #[.slice ia il ic, .slice la ln lc, .slice oa ol oc, .slice a n c]] w fun e w' => ∃ ha hn hc, e = .returned (.slice ha hn hc) ∧ IsI w' ha hn (if r = true then hts (ms.map fun m => m.1.nd) n else []) ∧ Below w.heap.size w w' := by
  obtain ⟨B1, bV, hs⟩ := boxes1 w #[.slice ia il ic, .slice la ln lc, .slice oa ol oc, .slice a n c] 27
  have z0 := (B1.cell 0).1
  have z1 := (B1.cell 1).1
  have z2 := (B1.cell 2).1
  have z3 := (B1.cell 3).1
  have RT := tree_right (ic := ic) (lc := lc) (oc := oc) (h.below bV) r hr
  cases r with
  | false =>
    simp only [Bool.false_eq_true, if_false]
    clear h hr B1 hs
    go_enter Tryz.func18, Tryz.ntmps18
    go_wp2_with (go_at_call 16; (with_reducible refine Calls.mono RT ?_); rintro e w1 ⟨rfl, d1⟩)
    go_ret
    exact ⟨none, 0, 0, rfl, ⟨rfl, .inl rfl⟩, below_more bV d1⟩
  | true =>
    have hlen : (ms.map (·.1)).length = n := by rw [List.length_map]; exact h.hall.1
    have hnd : (ms.map (·.1)).map Nw.nd = ms.map fun m => m.1.nd := by rw [List.map_map]; rfl
    unfold rgtB at hr
    simp only [Bool.and_eq_true] at hr
    obtain ⟨hBh, hKd⟩ := gr_behind hr.1.2
    rw [hnd] at hBh
    have hn4 : n ≤ 400 := by
      have := hr.1.1.1.1.1.1
      unfold fewB at this
      simp only [Bool.and_eq_true, decide_eq_true_eq] at this
      have := this.1.1.1
      omega
    have hV := h.below bV
    have CB := fun (v : World) (b : Below _ _ v) => ((B1.more b).cell 3).1
    have HT := fun (v : World) (b : Below _ _ v) => tree_heights (c := c) (hV.hall.below b) (by omega) hBh (fun m hm => hKd m.1 (List.mem_map_of_mem hm)) (fun m hm => by
      obtain ⟨⟨x, y, e, -⟩, ⟨x', y', e', -⟩, -⟩ := hV.hnodes m hm
      exact ⟨⟨x, _, y, e⟩, ⟨x', _, y', e'⟩⟩)
    simp only [if_true]
    clear h hr B1 hs hlen hnd hBh hKd hn4 hV
    go_enter Tryz.func18, Tryz.ntmps18
    go_wp2_with (first
      | (go_at_call 16; (with_reducible refine Calls.mono RT ?_); rintro e w1 ⟨rfl, d1⟩; have y3 := CB _ d1)
      | (go_at_call 44; (with_reducible refine Calls.mono (HT _ d1) ?_); rintro e w2 ⟨g, rfl, o⟩))
    go_ret
    refine ⟨some ⟨g, 0, none⟩, n, n, rfl, ⟨hts_length _ _, ?_⟩, below_more (below_more bV d1) o.below⟩
    exact .inr ⟨g, 0, rfl, fun j x hj => by rw [Nat.zero_add]; exact (o.at1 (by rw [List.getElem?_map, hj]; rfl)).1⟩
end Go.Proofs.YtbcfplaalepnbaaGreatDoor
namespace Go.Proofs.YtbcfplaalepnbaaGreatDoor
open Go.RowKit Go.Lib
def ks (K : List Int) : Array Value := (K.map fun k => Value.int .i64 k).toArray
theorem ks_get {v : World} {g : Nat} {K : List Int} (h : BoxC v g (ks K) 3) {t : Nat} (ht : t < K.length) : v.cell? ⟨g, t, none⟩ = some (.int .i64 K[t]) := by
  rw [(h.cell t).1]
  unfold ks
  simp [ht]
set_option maxHeartbeats 4000000 in
theorem lib_index (g : Nat) (K : List Int) (w : World) (hB : BoxC w g (ks K) 3) (hl : K.length ≤ 10) (x : Int) :
    Calls Tryz.prog 129 #[.slice (some ⟨g, 0, none⟩) K.length K.length, .int .i64 x] w fun e w' => ∃ r : Int, e = .returned (.int .i64 r) ∧ (x ∈ K ∧ 0 ≤ r ∨ x ∉ K ∧ r = -1) ∧ w = w' := by
  have HB : Hid (BoxC w g (ks K) 3 ∧ K.length ≤ 10) := ⟨hB, hl⟩
  clear hB hl
  go_enter Tryz.func129, Tryz.ntmps129
  go_wp2
  go_loopg [8] K.length (fun q s8 v => ∃ t : Nat, s8 = .int .i64 t ∧ t + q = K.length ∧ (∀ j (h : j < K.length), j < t → K[j] ≠ x) ∧ w = v)
  case atStart => exact ⟨0, rfl, by omega, fun j _ h => absurd h (by omega), rfl⟩
  case round =>
    obtain ⟨t, rfl, hq, hN, rfl⟩ := hrel
    obtain ⟨hB, hl⟩ := HB.out
    rcases Nat.lt_or_ge t K.length with h | h
    · have h1 : (t : Int) < K.length := by omega
      have hc := ks_get hB h
      by_cases h2 : K[t] = x
      · have e2 : (x == K[t]) = true := by rw [beq_iff_eq]; exact h2.symm
        have HM : Hid (x ∈ K) := by show _; rw [← h2]; exact List.getElem_mem h
        generalize K[t] = y at *
        clear hN hB HB hl hq h2
        go_wp2
        go_ret
        exact ⟨_, rfl, .inl ⟨HM.out, by omega⟩, rfl⟩
      · have e2 : (x == K[t]) = false := by rw [beq_eq_false_iff_ne]; exact fun e => h2 e.symm
        have HN : Hid (∀ j (h : j < K.length), j < t + 1 → K[j] ≠ x) := by
          intro j hj hjt
          rcases Nat.lt_or_ge j t with h3 | h3
          · exact hN j hj h3
          · obtain rfl : j = t := by omega
            exact h2
        have q1 : 0 ≤ (t : Int) + 1 := by omega
        have q2 : (t : Int) + 1 < 10000000 := by omega
        have HG : Hid (t + gk = K.length ∧ t < K.length) := ⟨hq, h⟩
        generalize K[t] = y at *
        clear hN hB hl hq h2
        have W1 : Hid (wrap64 ((t : Int) + 1) = (t : Int) + 1) := wrap_smalls q1 q2
        clear q1 q2
        go_wp2
        have hG := HG.out
        go_roundg (K.length - (t + 1))
        case measure => omega
        case rel => exact ⟨t + 1, by rw [W1.out]; go_num, by omega, HN.out, rfl⟩
    · have h1 : ¬ (t : Int) < K.length := by omega
      have HM : Hid (x ∉ K) := by
        intro hm
        obtain ⟨j, hj, e⟩ := List.getElem_of_mem hm
        exact hN j hj (by omega) e
      clear hN hB HB hl hq
      go_wp2
      go_ret
      exact ⟨_, rfl, .inr ⟨HM.out, rfl⟩, rfl⟩
set_option maxHeartbeats 4000000 in
theorem lib_contains (g : Nat) (K : List Int) (w : World) (hB : BoxC w g (ks K) 3) (hl : K.length ≤ 10) (x : Int) :
    Calls Tryz.prog 108 #[.slice (some ⟨g, 0, none⟩) K.length K.length, .int .i64 x] w fun e w' => e = .returned (.bool (decide (x ∈ K))) ∧ w = w' := by
  have I := lib_index g K w hB hl x
  generalize K.length = n at *
  by_cases hx : x ∈ K
  · have I2 : Calls Tryz.prog 129 #[.slice (some ⟨g, 0, none⟩) n n, .int .i64 x] w fun e w' => ∃ r : Int, e = .returned (.int .i64 r) ∧ 0 ≤ r ∧ w = w' := by
      refine I.mono ?_
      rintro e w' ⟨r, h1, h2, h3⟩
      exact ⟨r, h1, by rcases h2 with h2 | h2; exact h2.2; exact absurd hx h2.1, h3⟩
    rw [decide_eq_true hx]
    clear I hB hl hx
    go_enter Tryz.func108, Tryz.ntmps108
    go_wp2_with (go_at_call 129; (with_reducible refine Calls.mono I2 ?_); rintro e v1 ⟨r, rfl, hr, rfl⟩)
    go_ret
    exact ⟨rfl, rfl⟩
  · have I2 : Calls Tryz.prog 129 #[.slice (some ⟨g, 0, none⟩) n n, .int .i64 x] w fun e w' => e = .returned (.int .i64 (-1)) ∧ w = w' := by
      refine I.mono ?_
      rintro e w' ⟨r, h1, h2, h3⟩
      rcases h2 with h2 | h2
      · exact absurd h2.1 hx
      · exact ⟨by rw [h1, h2.2], h3⟩
    rw [decide_eq_false hx]
    clear I hB hl hx
    go_enter Tryz.func108, Tryz.ntmps108
    go_wp2_with (go_at_call 129; (with_reducible refine Calls.mono I2 ?_); rintro e v1 ⟨rfl, rfl⟩)
    go_ret
    exact ⟨rfl, rfl⟩
set_option maxHeartbeats 8000000 in
/-- Where runes of these kinds end. -/
theorem lex_span (s : ByteArray) (hs : s.size ≤ 1000000) (g : Nat) (K : List Int) (w : World) (hB : BoxC w g (ks K) 3) (hl : K.length ≤ 10) (n : Nat) (hn : K.length = n) :
    Calls Tryz.prog 76 #[.string s, .slice (some ⟨g, 0, none⟩) n n] w fun e w' => e = .returned (.int .i64 (spanE K s 0)) ∧ Below w.heap.size w w' := by
  subst hn
  have HB : Hid (BoxC w g (ks K) 3 ∧ K.length ≤ 10 ∧ s.size ≤ 1000000) := ⟨hB, hl, hs⟩
  generalize hE : spanE K s 0 = E
  have HE : Hid (spanE K s 0 = E) := hE
  clear hB hl hs hE
  go_enter Tryz.func76, Tryz.ntmps76
  go_wp2
  go_loopg [] s.size (fun q v => ∃ i : Nat, i + q = s.size ∧ v.heap[w.heap.size]? = some (.stringIter s i) ∧ Below w.heap.size w v ∧ spanE K s i = E)
  case atStart => exact ⟨0, by omega, iter_new w s, below_iter w s 0, HE.out⟩
  case round =>
    obtain ⟨i, hq, hit, bw, hF⟩ := hrel
    clear HE
    obtain ⟨hB, hl, hs⟩ := HB.out
    rcases Nat.lt_or_ge i s.size with hi | hi
    · have hnx : ∀ ty, (Instr.next (.pointer (some ⟨w.heap.size, 0, none⟩)) true ty).run Tryz.prog wr = .ok (.tuple #[.bool true, .int .i64 i, .int .i32 (nextR s i)]) (wr.iterAt w.heap.size s (i + nextN s i)) := fun ty => run_next_any_at wr w.heap.size s i ty hit hi
      have hi2 := iterAt_heap wr w.heap.size s i (i + nextN s i) hit
      have bw2 := below_iterAt bw (Nat.le_refl _) s (i + nextN s i)
      have hz := next_size hi
      have C := lib_contains g K _ (hB.more bw2) hl (kindI (nextR s i))
      have KD := fun v => sign_kind (nextR s i) _ rfl v
      have e1 : kindAt s i = kindI (nextR s i) := by unfold kindAt; rw [if_pos hi]
      have e2 : stepAt s i = nextN s i := by unfold stepAt; rw [if_pos hi]
      by_cases hm : kindI (nextR s i) ∈ K
      · have HF : Hid (spanE K s (i + nextN s i) = E) := by
          have := spanE_step (K := K) hi (by rw [e1]; exact hm)
          rw [e2] at this
          exact this.symm.trans hF
        rw [decide_eq_true hm] at C
        have HG : Hid (i + gk = s.size ∧ 1 ≤ nextN s i ∧ i + nextN s i ≤ s.size) := ⟨hq, hz.1, hz.2.2⟩
        generalize kindI (nextR s i) = k at *
        generalize nextR s i = R at *
        generalize nextN s i = M at *
        generalize wr.iterAt w.heap.size s (i + M) = wi at *
        clear hB hl hs hq hit bw hF hz hi e1 e2 hm
        go_wp2_with (first
          | (go_at_call 78; (with_reducible refine Calls.mono (KD _) ?_); rintro e v1 ⟨rfl, rfl⟩)
          | (go_at_call 108; (with_reducible refine Calls.mono C ?_); rintro e v2 ⟨rfl, rfl⟩))
        have hG := HG.out
        go_roundg (s.size - (i + M))
        case measure => omega
        case rel => exact ⟨i + M, by omega, hi2, bw2, HF.out⟩
      · have hE2 := spanE_here (K := K) (s := s) (i := i) (fun e => hm (by rw [← e1]; exact e.2))
        rw [hE2] at hF
        subst hF
        rw [decide_eq_false hm] at C
        generalize kindI (nextR s i) = k at *
        generalize nextR s i = R at *
        generalize nextN s i = M at *
        generalize wr.iterAt w.heap.size s (i + M) = wi at *
        clear hB hl hs hq hit bw hz hi e1 e2 hm hE2
        go_wp2_with (first
          | (go_at_call 78; (with_reducible refine Calls.mono (KD _) ?_); rintro e v1 ⟨rfl, rfl⟩)
          | (go_at_call 108; (with_reducible refine Calls.mono C ?_); rintro e v2 ⟨rfl, rfl⟩))
        go_ret
        exact ⟨rfl, bw2⟩
    · have hnx : ∀ ty, (Instr.next (.pointer (some ⟨w.heap.size, 0, none⟩)) true ty).run Tryz.prog wr = .ok (.tuple #[.bool false]) wr := fun ty => run_next_end_at wr w.heap.size s i ty hit (by omega)
      rw [spanE_here (fun e => by omega)] at hF
      obtain rfl : i = s.size := by omega
      subst hF
      clear hB hl hs hq hit hi
      go_wp2
      go_ret
      exact ⟨rfl, bw⟩
theorem lex_span1 (s : ByteArray) (hs : s.size ≤ 1000000) (g : Nat) (k : Int) (w : World) (hB : BoxC w g #[.int .i64 k] 3) :
    Calls Tryz.prog 76 #[.string s, .slice (some ⟨g, 0, none⟩) 1 1] w fun e w' => e = .returned (.int .i64 (spanE [k] s 0)) ∧ Below w.heap.size w w' := lex_span s hs g [k] w hB (by simp) 1 rfl
theorem lex_span2 (s : ByteArray) (hs : s.size ≤ 1000000) (g : Nat) (k l : Int) (w : World) (hB : BoxC w g #[.int .i64 k, .int .i64 l] 3) :
    Calls Tryz.prog 76 #[.string s, .slice (some ⟨g, 0, none⟩) 2 2] w fun e w' => e = .returned (.int .i64 (spanE [k, l] s 0)) ∧ Below w.heap.size w w' := lex_span s hs g [k, l] w hB (by simp) 2 rfl
end Go.Proofs.YtbcfplaalepnbaaGreatDoor
namespace Go.Proofs.YtbcfplaalepnbaaGreatDoor
open Go.RowKit Go.Lib
theorem stroke_first {x : ByteArray} (h : 0 < x.size) : ((x.extract 0 1).toList == [124]) = decide (bt x 0 = 124) := by
  have hz : (x.extract 0 1).size = 1 := by rw [ByteArray.size_extract]; omega
  have hf := front x (e := 1) (by omega)
  have h0 := hf.same 0 (by omega)
  rw [← h0]
  generalize x.extract 0 1 = y at *
  rw [ByteArray.toList_eq]
  obtain ⟨⟨l⟩⟩ := y
  have hl : l.length = 1 := hz
  obtain ⟨b, rfl⟩ := List.length_eq_one_iff.1 hl
  rw [Bool.eq_iff_iff, beq_iff_eq, decide_eq_true_eq]
  show [b] = [124] ↔ b.toNat = 124
  constructor
  · intro e; rw [List.cons.inj e |>.1]; rfl
  · intro e; rw [show b = 124 from UInt8.toNat_inj.1 e]
set_option maxHeartbeats 4000000 in
/-- What is behind the stroke, if a text begins with one. -/
theorem cut_stroke {s u : ByteArray} (hs : s.size ≤ 1000000) {g : Bool} (h : (s.size = 0 ∧ g = false ∧ u = s) ∨ (0 < s.size ∧ g = true ∧ ((s.extract 0 1).toList == [124]) = true ∧ s.extract 1 s.size = u) ∨ (0 < s.size ∧ g = false ∧ ((s.extract 0 1).toList == [124]) = false ∧ u = s)) (w : World) :
    Calls Tryz.prog 131 #[.string s, .string ⟨#[124]⟩] w fun e w' => e = .returned (.tuple #[.string u, .bool g]) ∧ w = w' := by
  have H : ∀ (q : Bool), ((s.size = 0 ∧ q = false) ∨ (0 < s.size ∧ ((s.extract 0 1).toList == [124]) = q)) → Calls Tryz.prog 156 #[.string s, .string ⟨#[124]⟩] w fun e w' => e = .returned (.bool q) ∧ w = w' := by
    clear h
    intro q h
    rcases h with ⟨h0, rfl⟩ | ⟨h0, hq⟩
    case' inl => have h1 : ¬ (1 : Int) ≤ s.size := by omega
    case' inr => have h1 : (1 : Int) ≤ s.size := by omega
    all_goals
      go_enter Tryz.func156, Tryz.ntmps156
      go_wp2
      go_ret
      exact ⟨rfl, rfl⟩
  have H2 : Calls Tryz.prog 145 #[.string s, .string ⟨#[124]⟩] w fun e w' => e = .returned (.tuple #[.string u, .bool g]) ∧ w = w' := by
    rcases h with ⟨h0, rfl, rfl⟩ | ⟨h0, rfl, hq, hu⟩ | ⟨h0, rfl, hq, rfl⟩
    case' inl => have H1 := H false (.inl ⟨h0, rfl⟩)
    case' inr.inl =>
      have H1 := H true (.inr ⟨h0, hq⟩)
      have h1 : (1 : Int) ≤ s.size := by omega
    case' inr.inr => have H1 := H false (.inr ⟨h0, hq⟩)
    all_goals
      clear H
      go_enter Tryz.func145, Tryz.ntmps145
      go_wp2_with (go_at_call 156; (with_reducible refine Calls.mono H1 ?_); rintro e w1 ⟨rfl, rfl⟩)
      go_ret2
      exact ⟨rfl, rfl⟩
  clear H h
  go_enter Tryz.func131, Tryz.ntmps131
  go_wp2_with (go_at_call 145; (with_reducible refine Calls.mono H2 ?_); rintro e w1 ⟨rfl, rfl⟩)
  go_ret2
  exact ⟨rfl, rfl⟩
set_option maxHeartbeats 4000000 in
theorem lex_plain (x : ByteArray) (hx : x.size ≤ 1000000) (r : Bool) (hr : plainB x = r) (w : World) :
    Calls Tryz.prog 132 #[.string x] w fun e w' => e = .returned (.bool r) ∧ w = w' := by
  unfold plainB at hr
  by_cases h1 : (x.toList == [48]) = true
  · obtain rfl : r = true := by rw [← hr, h1]; rfl
    clear hr
    go_enter Tryz.func132, Tryz.ntmps132
    go_wp2
    go_ret
    exact ⟨rfl, rfl⟩
  · have h1' : (x.toList == [48]) = false := by rw [Bool.eq_false_iff]; exact h1
    rw [h1', Bool.false_or] at hr
    by_cases h0 : x.size = 0
    · have e0 : (x.toList == []) = true := by rw [size_zero h0, ByteArray.toList_eq]; rfl
      obtain rfl : r = false := by rw [← hr, decide_eq_false (fun e => e h0)]; rfl
      clear hr h1 h0
      go_enter Tryz.func132, Tryz.ntmps132
      go_wp2
      go_ret
      exact ⟨rfl, rfl⟩
    · have e0 : (x.toList == []) = false := text_full (by omega)
      have k0 : 0 < x.size := by omega
      have k1 : (0 : Int) < x.size := by omega
      have e2 : ((x[0].toNat : Int) != 48) = r := by
        rw [← hr, decide_eq_true h0, Bool.true_and, bt_get k0, Bool.eq_iff_iff, bne_iff_ne, decide_eq_true_eq]
        omega
      clear hr h1 h0 hx
      go_enter Tryz.func132, Tryz.ntmps132
      go_wp2
      go_ret
      exact ⟨rfl, rfl⟩
end Go.Proofs.YtbcfplaalepnbaaGreatDoor
namespace Go.Proofs.YtbcfplaalepnbaaGreatDoor
open Go.RowKit Go.Lib
theorem text_empty {x : ByteArray} (h : x.size = 0) : (x.toList == []) = true := by rw [size_zero h, ByteArray.toList_eq]; rfl
set_option maxHeartbeats 4000000 in
theorem lex_size (a b : ByteArray) (ha : a.size ≤ 1000000) (hb : b.size ≤ 1000000) (r : Nat) (hr : (if b.size = 0 then a.size else a.size + 1 + b.size) = r) (w : World) :
    Calls Tryz.prog 114 #[.agg #[.string a, .string b]] w fun e w' => e = .returned (.int .i64 r) ∧ Below w.heap.size w w' := by
  obtain ⟨b1, bV, hV⟩ := boxes1 w #[.string a, .string b] 137
  obtain ⟨x0, x1, -, -⟩ := b1.cells2
  by_cases h : b.size = 0
  · rw [if_pos h] at hr
    subst hr
    have e0 := text_empty h
    clear h ha hb
    go_enter Tryz.func114, Tryz.ntmps114
    go_wp2
    go_ret
    exact ⟨rfl, bV⟩
  · rw [if_neg h] at hr
    have e0 : (b.toList == []) = false := text_full (by omega)
    have HR : Hid (((a.size : Int) + 1 + b.size) = r) := by show ((a.size : Int) + 1 + b.size) = r; omega
    have W1 : wrap64 ((a.size : Int) + 1) = (a.size : Int) + 1 := wrap_smalls (by omega) (by omega)
    have W2 : wrap64 ((a.size : Int) + 1 + b.size) = (a.size : Int) + 1 + b.size := wrap_smalls (by omega) (by omega)
    clear h ha hb hr
    go_enter Tryz.func114, Tryz.ntmps114
    go_wp2
    go_ret
    exact ⟨by rw [← HR.out]; simp only [W1, W2]; rfl, bV⟩
set_option maxHeartbeats 4000000 in
theorem lex_long (a b : ByteArray) (r : Bool) (hr : longB a b = r) (w : World) :
    Calls Tryz.prog 112 #[.agg #[.string a, .string b]] w fun e w' => e = .returned (.bool r) ∧ Below w.heap.size w w' := by
  obtain ⟨b1, bV, hV⟩ := boxes1 w #[.string a, .string b] 137
  obtain ⟨x0, x1, -, -⟩ := b1.cells2
  unfold longB at hr
  by_cases h : 40 < a.size
  · have k : 40 < (a.size : Int) := by omega
    obtain rfl : r = true := by rw [← hr, decide_eq_true h]; rfl
    clear h hr
    go_enter Tryz.func112, Tryz.ntmps112
    go_wp2
    go_ret
    exact ⟨rfl, bV⟩
  · have k : ¬ 40 < (a.size : Int) := by omega
    rw [decide_eq_false h, Bool.false_or] at hr
    by_cases h2 : 40 < b.size
    · have k2 : 40 < (b.size : Int) := by omega
      obtain rfl : r = true := by rw [← hr, decide_eq_true h2]
      clear h h2 hr
      go_enter Tryz.func112, Tryz.ntmps112
      go_wp2
      go_ret
      exact ⟨rfl, bV⟩
    · have k2 : ¬ 40 < (b.size : Int) := by omega
      obtain rfl : r = false := by rw [← hr, decide_eq_false h2]
      clear h h2 hr
      go_enter Tryz.func112, Tryz.ntmps112
      go_wp2
      go_ret
      exact ⟨rfl, bV⟩
set_option maxHeartbeats 8000000 in
theorem lex_may (a b : ByteArray) (ha : a.size ≤ 1000000) (hb : b.size ≤ 1000000) (r : Bool) (hr : mayB a b = r) (w : World) :
    Calls Tryz.prog 113 #[.agg #[.string a, .string b]] w fun e w' => e = .returned (.bool r) ∧ Below w.heap.size w w' := by
  obtain ⟨b1, bV, hV⟩ := boxes1 w #[.string a, .string b] 137
  obtain ⟨x0, x1, -, -⟩ := b1.cells2
  have LG := fun v => lex_long a b _ rfl v
  have PA := fun v => lex_plain a ha _ rfl v
  have PB := fun v => lex_plain b hb _ rfl v
  unfold mayB at hr
  generalize longB a b = l at *
  generalize plainB a = p at *
  generalize plainB b = q at *
  cases l with
  | true =>
    obtain rfl : r = false := by rw [← hr]; rfl
    clear hr PA PB ha hb
    go_enter Tryz.func113, Tryz.ntmps113
    go_wp2_with (go_at_call 112; (with_reducible refine Calls.mono (LG _) ?_); rintro e v1 ⟨rfl, d1⟩)
    go_ret
    exact ⟨rfl, below_more bV d1⟩
  | false =>
    cases p with
    | false =>
      obtain rfl : r = false := by rw [← hr]; rfl
      clear hr PB ha hb
      go_enter Tryz.func113, Tryz.ntmps113
      go_wp2_with (first
        | (go_at_call 112; (with_reducible refine Calls.mono (LG _) ?_); rintro e v1 ⟨rfl, d1⟩; obtain ⟨x0, x1, -, -⟩ := (b1.more d1).cells2)
        | (go_at_call 132; (with_reducible refine Calls.mono (PA _) ?_); rintro e v2 ⟨rfl, rfl⟩))
      go_ret
      exact ⟨rfl, below_more bV d1⟩
    | true =>
      by_cases h : b.size = 0
      · obtain rfl : r = true := by rw [← hr, decide_eq_true h]; rfl
        have e0 := text_empty h
        clear hr PB ha hb h
        go_enter Tryz.func113, Tryz.ntmps113
        go_wp2_with (first
          | (go_at_call 112; (with_reducible refine Calls.mono (LG _) ?_); rintro e v1 ⟨rfl, d1⟩; obtain ⟨x0, x1, -, -⟩ := (b1.more d1).cells2)
          | (go_at_call 132; (with_reducible refine Calls.mono (PA _) ?_); rintro e v2 ⟨rfl, rfl⟩))
        go_ret
        exact ⟨rfl, below_more bV d1⟩
      · have e0 : (b.toList == []) = false := text_full (by omega)
        rw [decide_eq_false h] at hr
        simp only [Bool.not_false, Bool.true_and, Bool.false_or] at hr
        generalize hg : (b.toList == [48]) = g at *
        have hne : (b.toList != [48]) = !g := by rw [← hg]; rfl
        cases q <;> cases g
        all_goals
          simp only [Bool.not_false, Bool.not_true, Bool.true_and, Bool.false_and] at hr hne
          subst hr
          clear ha hb h
          go_enter Tryz.func113, Tryz.ntmps113
          go_wp2_with (first
            | (go_at_call 112; (with_reducible refine Calls.mono (LG _) ?_); rintro e v1 ⟨rfl, d1⟩; obtain ⟨x0, x1, -, -⟩ := (b1.more d1).cells2)
            | (go_at_call 132; (with_reducible refine Calls.mono (PA _) ?_); rintro e v2 ⟨rfl, rfl⟩)
            | (go_at_call 132; (with_reducible refine Calls.mono (PB _) ?_); rintro e v3 ⟨rfl, rfl⟩))
          go_ret
          exact ⟨by simp, below_more bV d1⟩
end Go.Proofs.YtbcfplaalepnbaaGreatDoor
namespace Go.Proofs.YtbcfplaalepnbaaGreatDoor
open Go.RowKit Go.Lib
theorem below_text {t : ByteArray} (h : digEnd t 0 + 1 ≤ t.size) : (t.extract (digEnd t 0 + 1) t.size).extract 0 (digEnd (t.extract (digEnd t 0 + 1) t.size) 0) = t.extract (digEnd t 0 + 1) (digEnd t (digEnd t 0 + 1)) := by
  have hsh := shifted_rest t h
  have h1 := hsh.digits _ 0 (Nat.le_refl _)
  rw [Nat.add_zero] at h1
  rw [h1, ← hsh.extract 0 (digEnd (t.extract (digEnd t 0 + 1) t.size) 0), Nat.add_zero]
set_option maxHeartbeats 8000000 in
theorem lex_numeral (t : ByteArray) (ht : t.size ≤ 1000000) (w : World) :
    Calls Tryz.prog 111 #[.string t] w fun e w' => e = .returned (.agg #[.string (above t), .string (below t)]) ∧ Below w.heap.size w w' := by
  obtain ⟨b1, b2, bV, hV⟩ := boxes2 w #[.string ⟨#[]⟩, .string ⟨#[]⟩] #[.int .i64 2] 137 3
  have S1 := lex_span1 t ht _ 2 _ b2
  rw [spanE_digits] at S1
  have hD := (digEnd_range t 0).2 (Nat.zero_le _)
  have hz : (t.extract 0 (digEnd t 0)).size = digEnd t 0 := by rw [ByteArray.size_extract]; omega
  have hzr : (t.extract (digEnd t 0) t.size).size = t.size - digEnd t 0 := by rw [ByteArray.size_extract]; omega
  have hb0 := ext_bt t (digEnd t 0) hD 0
  rw [Nat.add_zero] at hb0
  have ha : above t = t.extract 0 (digEnd t 0) := rfl
  rw [ha]
  clear ha
  unfold below
  by_cases hc : digEnd t 0 < t.size ∧ bt t (digEnd t 0) = 124
  · rw [if_pos hc, ← below_text (by omega)]
    have hu : (t.extract (digEnd t 0) t.size).extract 1 (t.extract (digEnd t 0) t.size).size = t.extract (digEnd t 0 + 1) t.size := extract_more _ _
    have CU := fun v => cut_stroke (s := t.extract (digEnd t 0) t.size) (u := t.extract (digEnd t 0 + 1) t.size) (by omega) (g := true) (.inr (.inl ⟨by omega, rfl, by rw [stroke_first (by omega), decide_eq_true (by rw [hb0]; exact hc.2)], hu⟩)) v
    have hy : (t.extract (digEnd t 0 + 1) t.size).size ≤ 1000000 := by rw [ByteArray.size_extract]; omega
    have hE := (digEnd_range (t.extract (digEnd t 0 + 1) t.size) 0).2 (Nat.zero_le _)
    have S2 := fun (v : World) (cs : Array Value) => lex_span1 (t.extract (digEnd t 0 + 1) t.size) hy _ 2 _ (boxes2 v cs #[.int .i64 2] 137 3).2.1
    rw [spanE_digits] at S2
    have k1 : (digEnd t 0 : Int) ≤ t.size := by omega
    have k2 : (digEnd (t.extract (digEnd t 0 + 1) t.size) 0 : Int) ≤ (t.extract (digEnd t 0 + 1) t.size).size := by omega
    generalize t.extract (digEnd t 0 + 1) t.size = y at *
    generalize digEnd y 0 = E at *
    generalize digEnd t 0 = D at *
    clear ht hD hzr hb0 hc hu hy hE
    go_enter Tryz.func111, Tryz.ntmps111
    go_wp2_with (first
      | (go_at_call 76; (with_reducible refine Calls.mono S1 ?_); rintro e w1 ⟨rfl, d1⟩; have N := boxes2 w1 #[.string (t.extract 0 D), .string ⟨#[]⟩] #[.int .i64 2] 137 3)
      | (go_at_call 131; (with_reducible refine Calls.mono (CU _) ?_); rintro e w0 ⟨rfl, rfl⟩)
      | (go_at_call 76; (with_reducible refine Calls.mono (S2 _ _) ?_); rintro e w2 ⟨rfl, d2⟩; obtain ⟨n0, n1, n2, n3⟩ := (N.1.more d2).cells2; obtain ⟨r0, r1, r2, r3⟩ := (((b1.more d1).more N.2.2.1).more d2).cells2; have hq : w.heap.size < w1.heap.size := Nat.lt_of_lt_of_le (Nat.lt_of_succ_lt hV) d1.size))
    exact bodyPost_ret (v := .agg #[.string (t.extract 0 D), .string (y.extract 0 E)]) (by simp [results, Tryz.results111, go_sem, r0, r1]) rfl ⟨rfl, (((below_more (below_more (below_more bV d1) N.2.2.1) d2).setCell (p := ⟨w1.heap.size, 1, none⟩) (Nat.le_of_lt hq) _).setCell (p := ⟨w.heap.size, 0, none⟩) (Nat.le_refl _) _).setCell (p := ⟨w.heap.size, 1, none⟩) (Nat.le_refl _) _⟩
  · rw [if_neg hc]
    have CU := fun v => cut_stroke (s := t.extract (digEnd t 0) t.size) (u := t.extract (digEnd t 0) t.size) (by omega) (g := false) (by
      by_cases h0 : digEnd t 0 < t.size
      · exact .inr (.inr ⟨by omega, rfl, by rw [stroke_first (by omega), decide_eq_false (by rw [hb0]; exact fun e => hc ⟨h0, e⟩)], rfl⟩)
      · exact .inl ⟨by omega, rfl, rfl⟩) v
    have k1 : (digEnd t 0 : Int) ≤ t.size := by omega
    generalize digEnd t 0 = D at *
    clear ht hD hzr hb0 hc
    go_enter Tryz.func111, Tryz.ntmps111
    go_wp2_with (first
      | (go_at_call 76; (with_reducible refine Calls.mono S1 ?_); rintro e w1 ⟨rfl, d1⟩; have N := boxes1 w1 #[.string (t.extract 0 D), .string ⟨#[]⟩] 137; obtain ⟨n0, n1, n2, n3⟩ := N.1.cells2; obtain ⟨r0, r1, r2, r3⟩ := (b1.more d1).cells2; have hq : w.heap.size < w1.heap.size := Nat.lt_of_lt_of_le (Nat.lt_of_succ_lt hV) d1.size)
      | (go_at_call 131; (with_reducible refine Calls.mono (CU _) ?_); rintro e w0 ⟨rfl, rfl⟩))
    have bb := ((below_more bV d1).setCell (p := ⟨w.heap.size, 0, none⟩) (Nat.le_refl _) (.string (t.extract 0 D))).setCell (p := ⟨w.heap.size, 1, none⟩) (Nat.le_refl _) (.string ⟨#[]⟩)
    obtain ⟨z0, z1, -, -⟩ := ((((b1.more d1).set 0 (.string (t.extract 0 D))).set 1 (.string ⟨#[]⟩)).alloc (.cells #[.string (t.extract 0 D), .string ⟨#[]⟩] 137)).cells2
    exact bodyPost_ret (v := .agg #[.string (t.extract 0 D), .string ⟨#[]⟩]) (by simp [results, Tryz.results111, go_sem, z0, z1]) rfl ⟨rfl, bb.alloc bb.size _⟩
theorem above_le (t : ByteArray) : (above t).size ≤ t.size := by
  rw [above_size]; exact (digEnd_range t 0).2 (Nat.zero_le _)
theorem below_le (t : ByteArray) : (below t).size ≤ t.size := by
  have h1 := digEnd_range t (digEnd t 0 + 1)
  rw [below_size]
  split
  · have := h1.2 (by omega)
    omega
  · omega
end Go.Proofs.YtbcfplaalepnbaaGreatDoor
namespace Go.Proofs.YtbcfplaalepnbaaGreatDoor
open Go.RowKit Go.Lib
theorem lex_infoU8 : (Tryz.prog.info? 5).map (fun i => (i.zero, i.size, i.bytes)) = some (some (.int .u8 0), 1, 1) := by kernel_rfl
set_option maxHeartbeats 4000000 in
set_option maxRecDepth 100000 in
theorem lib_clone0 (s : ByteArray) (w : World) (hlim : s.size ≤ 1000000) :
    Calls Tryz.prog 144 #[.string s] w fun e w' => e = .returned (.string s) ∧ Below w.heap.size w w' := by
  by_cases h0 : s.size = 0
  · obtain rfl := size_zero h0
    go_enter Tryz.func144, Tryz.ntmps144
    go_wp2
    go_ret
    exact ⟨rfl, Below.refl _ _⟩
  · obtain ⟨i0, hi, hz0, hz1, hz2⟩ := info_parts lex_infoU8
    have hinfo : (Tryz.prog.info? 5).map (·.size) = some 1 := by rw [hi]; simp [hz1]
    have hco : Tryz.prog.cellsOf 5 = 1 := by simp [Program.cellsOf, hi, hz1]
    obtain ⟨M, hM⟩ : ∃ M, M = madeCells (Value.int .u8 0).cells (((s.size : Nat) : Int).toNat * i0.size) := ⟨_, rfl⟩
    have hMs : M.size = s.size := by rw [hM, size_madeCells, hz1]; simp
    have hmk : ∀ W : World, (Instr.makeSlice 129 (.int .i64 (s.size : Int)) (.int .i64 (s.size : Int))).run Tryz.prog W = .ok (.slice (some ⟨W.heap.size, 0, none⟩) s.size s.size) (W.alloc (.cells M 5)) := fun W => by
      have h := run_make (P := Tryz.prog) W 129 5 i0 (.int .u8 0) Tryz.underlying129 hi hz0 .i64 .i64 (s.size : Int) (s.size : Int) (by omega) (by omega) (by rw [hz2]; omega) (by omega)
      rw [← hM] at h
      simpa using h
    clear hM
    have hcp := Lib.run_copy_row_string (P := Tryz.prog) (w.alloc (.cells M 5)) 129 9 3 5 w.heap.size 0 s.size s.size s M 5 Tryz.underlying129 hinfo (heap_alloc_new w _) (Nat.le_refl _) (by omega)
    obtain ⟨Y, hY⟩ : ∃ Y, Y = (M.toList.take 0 ++ Lib.byteCells s.data.toList ++ M.toList.drop (0 + s.size)).toArray := ⟨_, rfl⟩
    rw [← hY] at hcp
    have hYl : Y.toList = Lib.byteCells s.data.toList := by
      rw [hY, List.toList_toArray, List.take_zero, List.nil_append, List.drop_of_length_le (by rw [Array.length_toList]; omega), List.append_nil]
    have hYs : Y.size = s.size := by rw [← Array.length_toList, hYl, Lib.byteCells_length, ← Lib.size_eq]
    have hgY : ((w.alloc (.cells M 5)).setRow w.heap.size Y).heap[w.heap.size]? = some (.cells Y 5 (0, 0)) := setRow_heap _ _ M _ 5 (0, 0) (heap_alloc_new w _)
    have hne : s.data.toList ≠ [] := fun e => h0 (by rw [Lib.size_eq, e]; rfl)
    have hUS := Lib.run_unsafeString_row (P := Tryz.prog) ((w.alloc (.cells M 5)).setRow w.heap.size Y) 171 3 9 5 Tryz.underlying171 hco w.heap.size Y.size (by unfold World.shape?; rw [hgY]) s.data.toList hne (by rw [← Lib.size_eq]; omega) (by rw [← Lib.size_eq]; omega)
      (fun j x hx => Lib.cells_of_row hgY Y.size j _ (by rw [List.take_of_length_le (by rw [Array.length_toList]; exact Nat.le_refl _), hYl]; simp [Lib.byteCells, hx]))
    rw [← Lib.size_eq] at hUS
    clear hY
    go_enter Tryz.func144, Tryz.ntmps144
    go_wp2
    go_ret
    have hb1 : Below w.heap.size w (w.alloc (.cells M 5)) := (Below.refl _ w).alloc (Nat.le_refl _) _
    have hb2 : Below w.heap.size (w.alloc (.cells M 5)) ((w.alloc (.cells M 5)).setRow w.heap.size Y) := ⟨rfl, rfl, rfl, by simp, fun k hk => setRow_other _ _ _ _ (by omega)⟩
    exact ⟨rfl, Lib.below_freeze (hb1.trans hb2) (p := ⟨w.heap.size, 0, none⟩) (Nat.le_refl _) _⟩
set_option maxHeartbeats 4000000 in
theorem lib_clone (s : ByteArray) (hlim : s.size ≤ 1000000) (w : World) :
    Calls Tryz.prog 130 #[.string s] w fun e w' => e = .returned (.string s) ∧ Below w.heap.size w w' := by
  have C := fun v => lib_clone0 s v hlim
  clear hlim
  go_enter Tryz.func130, Tryz.ntmps130
  go_wp2_with (go_at_call 144; (with_reducible refine Calls.mono (C _) ?_); rintro e w1 ⟨rfl, d1⟩)
  go_ret
  exact ⟨rfl, d1⟩
end Go.Proofs.YtbcfplaalepnbaaGreatDoor
namespace Go.Proofs.YtbcfplaalepnbaaGreatDoor
open Go.RowKit Go.Lib
def RdL (W w : World) (t : ByteArray) (L C : Int) (l : List Tok) : Prop :=
  ∃ a c, BoxC w W.heap.size #[.int .i64 0, .int .i64 0] 29 ∧ BoxC w (W.heap.size + 1) #[.string t, .int .i64 L, .int .i64 C, .slice a l.length c] 87 ∧ OwnT W w (.slice a l.length c) l.length l
theorem RdL.more {W w w' : World} {t : ByteArray} {L C : Int} {l : List Tok} (h : RdL W w t L C l) (hb : Below w.heap.size w w') : RdL W w' t L C l := by
  obtain ⟨a, c, h1, h2, h3⟩ := h
  exact ⟨a, c, h1.more hb, h2.more hb, h3.more hb⟩
theorem RdL.below {W w : World} {t : ByteArray} {L C : Int} {l : List Tok} (h : RdL W w t L C l) : Below W.heap.size W w := by
  obtain ⟨a, c, h1, h2, h3⟩ := h
  exact h3.below
theorem reader_ne_tok : (87 : TypeId) ≠ 66 := by decide
theorem RdL.rest {W w : World} {t : ByteArray} {L C : Int} {l : List Tok} (h : RdL W w t L C l) (u : ByteArray) : RdL W (w.setCell ⟨W.heap.size + 1, 0, none⟩ (.string u)) u L C l := by
  obtain ⟨a, c, h1, h2, h3⟩ := h
  exact ⟨a, c, h1.other (by omega) _, h2.set 0 (.string u), h3.box h2 reader_ne_tok (by omega) _ _⟩
theorem RdL.line {W w : World} {t : ByteArray} {L C : Int} {l : List Tok} (h : RdL W w t L C l) (x : Int) : RdL W (w.setCell ⟨W.heap.size + 1, 1, none⟩ (.int .i64 x)) t x C l := by
  obtain ⟨a, c, h1, h2, h3⟩ := h
  exact ⟨a, c, h1.other (by omega) _, h2.set 1 (.int .i64 x), h3.box h2 reader_ne_tok (by omega) _ _⟩
theorem RdL.col {W w : World} {t : ByteArray} {L C : Int} {l : List Tok} (h : RdL W w t L C l) (x : Int) : RdL W (w.setCell ⟨W.heap.size + 1, 2, none⟩ (.int .i64 x)) t L x l := by
  obtain ⟨a, c, h1, h2, h3⟩ := h
  exact ⟨a, c, h1.other (by omega) _, h2.set 2 (.int .i64 x), h3.box h2 reader_ne_tok (by omega) _ _⟩
theorem RdL.alloc {W w : World} {t : ByteArray} {L C : Int} {l : List Tok} (h : RdL W w t L C l) (o : Obj) : RdL W (w.alloc o) t L C l := h.more ((Below.refl _ _).alloc (Nat.le_refl _) _)
theorem RdL.drew {W w : World} {t : ByteArray} {L C : Int} {l : List Tok} (h : RdL W w t L C l) : RdL W w.drew t L C l := by
  obtain ⟨a, c, h1, h2, h3⟩ := h
  exact ⟨a, c, h1.drew, h2.drew, h3.more (Below.refl _ _).drew⟩
theorem RdL.cells {W w : World} {t : ByteArray} {L C : Int} {l : List Tok} (h : RdL W w t L C l) :
    w.cell? ⟨W.heap.size + 1, 0, none⟩ = some (.string t) ∧ w.cell? ⟨W.heap.size + 1, 1, none⟩ = some (.int .i64 L) ∧ w.cell? ⟨W.heap.size + 1, 2, none⟩ = some (.int .i64 C) ∧
    w.frozen? ⟨W.heap.size + 1, 0, none⟩ = false ∧ w.frozen? ⟨W.heap.size + 1, 1, none⟩ = false ∧ w.frozen? ⟨W.heap.size + 1, 2, none⟩ = false ∧ w.frozen? ⟨W.heap.size + 1, 3, none⟩ = false ∧ W.heap.size + 1 < w.heap.size := by
  obtain ⟨a, c, h1, h2, h3⟩ := h
  exact ⟨(h2.cell 0).1, (h2.cell 1).1, (h2.cell 2).1, (h2.cell 0).2, (h2.cell 1).2, (h2.cell 2).2, (h2.cell 3).2, h2.lt⟩
set_option maxHeartbeats 8000000 in
theorem lex_pass {W w : World} {t : ByteArray} {L C : Int} {l : List Tok} (h : RdL W w t L C l) (ht : t.size ≤ 1000000) (hL : 1 ≤ L ∧ L ≤ 1000001) (hC : 1 ≤ C ∧ C ≤ 1000001) (n : Nat) {p c : Int} (hr : Reach t n p c) :
    Calls Tryz.prog 75 #[.pointer (some ⟨W.heap.size + 1, 0, none⟩), .int .i64 n] w fun e w' => e = .returned (.tuple #[]) ∧ RdL W w' (t.extract n t.size) (L + (p - 1)) (if p = 1 then C + (c - 1) else c) l := by
  obtain ⟨hn, p0, p1, c0, c1⟩ := hr.range
  have PL := fun v => sign_place (t.extract 0 n) n v (by rw [ByteArray.size_extract]; omega) (by omega) (by omega)
  rw [reach_alone hr] at PL
  unfold AnsL at PL
  obtain ⟨x0, x1, x2, y0, y1, y2, -, hk⟩ := h.cells
  have k1 : (n : Int) ≤ t.size := by omega
  have HR : Hid (RdL W w t L C l) := h
  clear hr h
  by_cases h1 : p = 1
  · subst h1
    rw [if_pos rfl, show L + ((1 : Int) - 1) = L by omega]
    have w1 : IntKind.i64.wrap (c - 1) = c - 1 := by rw [IntKind.wrap_i64]; omega
    have w2 : IntKind.i64.wrap (C + (c - 1)) = C + (c - 1) := by rw [IntKind.wrap_i64]; omega
    clear hn p0 p1 c0 c1 hL hC ht
    go_enter Tryz.func75, Tryz.ntmps75
    go_wp2_with (first
      | (go_at_call 23; (with_reducible refine Calls.mono (PL _) ?_); rintro e v1 ⟨rfl, d1⟩; have N := boxes1 v1 #[.int .i64 1, .int .i64 c] 29; obtain ⟨n0, n1, n2, n3⟩ := N.1.cells2; have hq : W.heap.size + 1 < v1.heap.size := Nat.lt_of_lt_of_le hk d1.size; obtain ⟨x0, x1, x2, y0, y1, y2, -, -⟩ := (HR.out.more d1).cells))
    go_region
    all_goals go_wp2
    go_end0
    exact ⟨rfl, ((((HR.out.more d1).col _).rest _).alloc _).drew⟩
  · have e1 : ((p : Int) == 1) = false := by rw [beq_eq_false_iff_ne]; exact h1
    rw [if_neg h1, show L + (p - 1) = L + p - 1 by omega]
    have w1 : IntKind.i64.wrap (L + p) = L + p := by rw [IntKind.wrap_i64]; omega
    have w2 : IntKind.i64.wrap (L + p - 1) = L + p - 1 := by rw [IntKind.wrap_i64]; omega
    clear hn p0 p1 c0 c1 hL hC ht h1
    go_enter Tryz.func75, Tryz.ntmps75
    go_wp2_with (first
      | (go_at_call 23; (with_reducible refine Calls.mono (PL _) ?_); rintro e v1 ⟨rfl, d1⟩; have N := boxes1 v1 #[.int .i64 p, .int .i64 c] 29; obtain ⟨n0, n1, n2, n3⟩ := N.1.cells2; have hq : W.heap.size + 1 < v1.heap.size := Nat.lt_of_lt_of_le hk d1.size; obtain ⟨x0, x1, x2, y0, y1, y2, -, -⟩ := (HR.out.more d1).cells))
    go_region
    all_goals go_wp2
    go_end0
    exact ⟨rfl, (((((HR.out.more d1).line _).col _).rest _).alloc _).drew⟩
end Go.Proofs.YtbcfplaalepnbaaGreatDoor
namespace Go.Proofs.YtbcfplaalepnbaaGreatDoor
open Go.RowKit Go.Lib
theorem Shifted.span {K : List Int} {u t : ByteArray} {k : Nat} (h : Shifted u t k) : ∀ m i, t.size - i ≤ m → spanE K u (k + i) = k + spanE K t i := by
  have hz := h.size
  intro m
  induction m with
  | zero =>
    intro i hm
    rw [spanE_here (fun e => by omega), spanE_here (fun e => by omega)]
  | succ m ih =>
    intro i hm
    by_cases h2 : i < t.size ∧ kindAt t i ∈ K
    · have hs := stepAt_size h2.1
      rw [spanE_step h2.1 h2.2, spanE_step (s := u) (i := k + i) (by omega) (by rw [(h.kind i).1]; exact h2.2), (h.kind i).2, Nat.add_assoc]
      exact ih _ (by omega)
    · rw [spanE_here h2, spanE_here (fun e => h2 ⟨by omega, by rw [← (h.kind i).1]; exact e.2⟩)]
set_option maxHeartbeats 4000000 in
theorem lex_skip {W w : World} {s : ByteArray} {i : Nat} {L C : Int} {l : List Tok} (h : RdL W w (s.extract i s.size) L C l) (hs : s.size ≤ 1000000) (hr : Reach s i L C) :
    Calls Tryz.prog 51 #[.pointer (some ⟨W.heap.size + 1, 0, none⟩)] w fun e w' => e = .returned (.tuple #[]) ∧ ∃ L' C', RdL W w' (s.extract (spanE [3] s i) s.size) L' C' l ∧ Reach s (spanE [3] s i) L' C' := by
  have hg := hr.range
  have hsh := shifted_rest s hg.1
  have hz : (s.extract i s.size).size = s.size - i := by rw [ByteArray.size_extract]; omega
  obtain ⟨p, c, hp⟩ := Reach.span (K := [3]) (by decide) _ 0 1 1 (Nat.le_refl _) (Reach.zero (s.extract i s.size))
  have hon := hr.on hsh hp
  have he := hsh.span (K := [3]) _ 0 (Nat.le_refl _)
  rw [Nat.add_zero] at he
  rw [he, ← extract_more]
  have PS := fun v (q : RdL W v (s.extract i s.size) L C l) => lex_pass q (by omega) (by omega) (by omega) _ hp
  have S1 := lex_span1 (s.extract i s.size) (by omega) _ 3 _ (boxes1 w #[.int .i64 3] 3).1
  have R1 := h.more (boxes1 w #[.int .i64 3] 3).2.1
  obtain ⟨x0, x1, x2, y0, y1, y2, -, hk⟩ := h.cells
  generalize spanE [3] (s.extract i s.size) 0 = n at *
  have HO : Hid (Reach s (i + n) (L + (p - 1)) (if p = 1 then C + (c - 1) else c)) := hon
  generalize s.extract i s.size = t at *
  clear hg hsh hz hp hon he hr hs
  go_enter Tryz.func51, Tryz.ntmps51
  go_wp2_with (first
    | (go_at_call 76; (with_reducible refine Calls.mono S1 ?_); rintro e w1 ⟨rfl, d1⟩)
    | (go_at_call 75; (with_reducible refine Calls.mono (PS _ (R1.more d1)) ?_); rintro e w2 ⟨rfl, r2⟩))
  go_end0
  exact ⟨rfl, _, _, r2, HO.out⟩
theorem stp_append_tok {ops : Array Oper} {o : Oper} {a : Act} {K : Act → World → Prop} {Q : Exit → Act → World → Prop} {E : Prop} (s x : Operand)
    (ho : o.op = .call { callee := .builtin .append, args := #[s, x], argTypes := #[53, 53] }) (hgd : Region.wanted o (yielded ops a.tmps) = true)
    (W w : World) (v : Value) (n : Nat) (l : List Tok) (t : Tok) (g : Nat) (hs : a.eval s = v) (hx : a.eval x = .slice (some ⟨g, 0, none⟩) 1 1) (hown : OwnT W w v n l) (hsrc : BoxC w g (tcA t) 66) (hle : n ≤ 1000000)
    (h : ∀ a' c' w', OwnT W w' (.slice a' (n + 1) c') (n + 1) (l ++ [t]) → w.grownBy w' v.ownBlock → K (a.put o.dst (.slice a' (n + 1) c')) w') : if Region.wanted o (yielded ops a.tmps) = true then Oper.wp Tryz.prog o a w K Q else E := by
  obtain ⟨i, hi, hz, hs1, hby⟩ := info_parts infoTok
  have hmax : n + 1 ≤ maxLen := by unfold maxLen; omega
  rw [if_pos hgd]
  refine wp_append_own (P := Tryz.prog) w s x 53 ho W.heap.size 66 i _ 4 40 Tryz.underlying53 hi hz hs1 hby rfl (by decide) v n _ hs hown.1 ⟨g, 0, none⟩ 1 1 (tcA t).toList hx rfl ?_ ?_ hmax (by omega) hown.2.size ?_
  · intro j u hj
    rw [Go.WideShapes.add_plain, Nat.zero_add, (hsrc.cell j).1]
    simpa using hj
  · intro u hu
    simp [tcA] at hu
    rcases hu with rfl | rfl | rfl | rfl <;> rfl
  · intro v' w' h1 h2 _
    have hnew : OwnT W w' v' (n + 1) (l ++ [t]) := ⟨by rw [tcs_append]; simpa [tcs] using h1, hown.2.grown h2 hown.2.size (fun k hk => (hown.1.lt k hk).1)⟩
    obtain ⟨a', c', rfl⟩ := hnew.lit
    exact h a' c' w' hnew h2
end Go.Proofs.YtbcfplaalepnbaaGreatDoor
namespace Go.Proofs.YtbcfplaalepnbaaGreatDoor
open Go.RowKit Go.Lib
theorem rd_new {W w : World} {t : ByteArray} {L C : Int} {l : List Tok} {x : Tok} {v0 : Value} {a' : Option Addr} {c' : Nat}
    (h1 : BoxC w W.heap.size #[.int .i64 0, .int .i64 0] 29) (h2 : BoxC w (W.heap.size + 1) #[.string t, .int .i64 L, .int .i64 C, v0] 87) (h3 : OwnT W w (.slice a' (l.length + 1) c') (l.length + 1) (l ++ [x])) :
    RdL W (w.setCell ⟨W.heap.size + 1, 3, none⟩ (.slice a' (l.length + 1) c')) t L C (l ++ [x]) := by
  have e : (l ++ [x]).length = l.length + 1 := by simp
  refine ⟨a', c', h1.other (by omega) _, ?_, ?_⟩
  · rw [e]; exact h2.set 3 (.slice a' (l.length + 1) c')
  · rw [e]; exact h3.box h2 reader_ne_tok (by omega) _ _
set_option maxHeartbeats 16000000 in
theorem lex_take {W w : World} {t : ByteArray} {L C : Int} {l : List Tok} (h : RdL W w t L C l) (ht : t.size ≤ 1000000) (hL : 1 ≤ L ∧ L ≤ 1000001) (hC : 1 ≤ C ∧ C ≤ 1000001) (hl : l.length ≤ 4000) (n : Nat) (k : Int) {p c : Int} (hr : Reach t n p c) :
    Calls Tryz.prog 110 #[.pointer (some ⟨W.heap.size + 1, 0, none⟩), .int .i64 k, .int .i64 n] w fun e w' => e = .returned (.tuple #[]) ∧ RdL W w' (t.extract n t.size) (L + (p - 1)) (if p = 1 then C + (c - 1) else c) (l ++ [(k, t.extract 0 n, L, C)]) := by
  have hn := hr.range.1
  have k1 : (n : Int) ≤ t.size := by omega
  have CL := fun v => lib_clone (t.extract 0 n) (by rw [ByteArray.size_extract]; omega) v
  have PS := fun v (q : RdL W v t L C (l ++ [(k, t.extract 0 n, L, C)])) => lex_pass q ht hL hC n hr
  obtain ⟨a, d, B1, B2, o⟩ := h
  have B2' := B2.lt
  have x0 := (B2.cell 0).1
  have x1 := (B2.cell 1).1
  have x2 := (B2.cell 2).1
  have x3 := (B2.cell 3).1
  have HX : Hid (OwnT W w (.slice a l.length d) l.length l ∧ l.length ≤ 4000) := ⟨o, hl⟩
  have HA : Hid ((Value.slice a l.length d).ownBlock ≠ some (W.heap.size + 1) ∧ (Value.slice a l.length d).ownBlock ≠ some W.heap.size) := ⟨o.apart B2 reader_ne_tok, o.apart B1 place_ne_tok⟩
  generalize L + (p - 1) = L' at *
  generalize (if p = 1 then C + (c - 1) else c) = C' at *
  generalize hN : l.length = N at *
  clear hr hn ht hL hC o hl
  go_enter Tryz.func110, Tryz.ntmps110
  go_wp2
  go_region_law (first
    | (go_simp; go_at_call 130; (with_reducible refine Calls.mono (CL _) ?_); rintro e w1 ⟨rfl, d1⟩; have B3 := BoxC.new w1 (tcA (k, t.extract 0 n, L, C)) 66; have hq : W.heap.size + 1 < w1.heap.size := Nat.lt_of_lt_of_le B2' d1.size; have C2 := B2.drew.more d1; have x0 := (C2.cell 0).1; have x1 := (C2.cell 1).1; have x2 := (C2.cell 2).1; have x3 := (C2.cell 3).1; have oo := fun z => ((HX.out.1.more (Below.refl _ _).drew).more d1).alloc z)
    | (refine stp_append_tok (.tmp 10) (.tmp 24) rfl rfl W _ _ N l (k, t.extract 0 n, L, C) w1.heap.size rfl rfl (oo _) B3 (by have := HX.out.2; omega) ?_; intro a3 c3 w3 o3 g3; have D2 := (C2.alloc _).grown g3 HA.out.1; have y3 := (D2.cell 3).2; have x3' := (D2.cell 3).1))
  all_goals
    subst hN
    have D1 := ((B1.drew.more d1).alloc _).grown g3 HA.out.2
    have RN := rd_new D1 D2 o3
    have P1 := PS _ RN
    clear B1 B2 C2 D1 D2 B3 o3 RN PS CL oo x0 x1 x2 x3 x3' y3 HX HA g3 d1
    go_wp2_with (go_at_call 75; (with_reducible refine Calls.mono P1 ?_); rintro e w5 ⟨rfl, r5⟩)
    go_end0
    exact ⟨rfl, r5⟩
end Go.Proofs.YtbcfplaalepnbaaGreatDoor
namespace Go.Proofs.YtbcfplaalepnbaaGreatDoor
open Go.RowKit Go.Lib
def AnsRL (W : World) (t : ByteArray) (L C : Int) (l : List Tok) (e : Ending) (w' : World) : Prop :=
  e = .returned (.int .i64 (tokenI t 0).2.2.2) ∧ ((tokenI t 0).2.2.2 = 0 → ∃ p c, Reach t (tokenI t 0).2.2.1 p c ∧ RdL W w' (t.extract (tokenI t 0).2.2.1 t.size) (L + (p - 1)) (if p = 1 then C + (c - 1) else c) (l ++ [((tokenI t 0).1, (tokenI t 0).2.1, L, C)])) ∧ ((tokenI t 0).2.2.2 ≠ 0 → RdL W w' t L C l)
theorem ansR_no {W w' : World} {t : ByteArray} {L C : Int} {l : List Tok} {k : Int} {x : ByteArray} {n : Nat} {er : Int} (h : tokenI t 0 = (k, x, n, er)) (he : er ≠ 0) (hr : RdL W w' t L C l) : AnsRL W t L C l (.returned (.int .i64 er)) w' := by
  unfold AnsRL
  rw [h]
  exact ⟨rfl, fun e => absurd e he, fun _ => hr⟩
theorem ansR_yes {W w' : World} {t : ByteArray} {L C : Int} {l : List Tok} {k : Int} {x : ByteArray} {n : Nat} (h : tokenI t 0 = (k, x, n, 0)) {p c : Int} (hp : Reach t n p c) (hr : RdL W w' (t.extract n t.size) (L + (p - 1)) (if p = 1 then C + (c - 1) else c) (l ++ [(k, x, L, C)])) : AnsRL W t L C l (.returned (.int .i64 0)) w' := by
  unfold AnsRL
  rw [h]
  exact ⟨rfl, fun _ => ⟨p, c, hp, hr⟩, fun e => absurd rfl e⟩
section
variable {W w : World} {t : ByteArray} {L C : Int} {l : List Tok}
set_option maxHeartbeats 4000000 in
theorem lex_word (h : RdL W w t L C l) (ht : t.size ≤ 1000000) (hL : 1 ≤ L ∧ L ≤ 1000001) (hC : 1 ≤ C ∧ C ≤ 1000001) (hl : l.length ≤ 4000) (hk : kindAt t 0 = 1) :
    Calls Tryz.prog 79 #[.pointer (some ⟨W.heap.size + 1, 0, none⟩)] w (AnsRL W t L C l) := by
  have TK : tokenI t 0 = if 0 + 40 < wordEnd t 0 then (0, ⟨#[]⟩, wordEnd t 0, 4) else (0, t.extract 0 (wordEnd t 0), wordEnd t 0, 0) := by unfold tokenI; rw [if_pos hk]
  obtain ⟨p, c, hp⟩ := Reach.word _ 0 1 1 (Nat.le_refl _) (Reach.zero t)
  have TA := fun v (q : RdL W v t L C l) => lex_take q ht hL hC hl _ 0 hp
  have S2 := lex_span2 t ht _ 1 2 _ (boxes1 w #[.int .i64 1, .int .i64 2] 3).1
  rw [spanE_word] at S2
  have R1 := h.more (boxes1 w #[.int .i64 1, .int .i64 2] 3).2.1
  obtain ⟨x0, x1, x2, y0, y1, y2, -, hk2⟩ := h.cells
  generalize wordEnd t 0 = n at *
  by_cases h4 : 0 + 40 < n
  · rw [if_pos h4] at TK
    have HT : Hid (tokenI t 0 = (0, ⟨#[]⟩, n, 4)) := TK
    have k4 : 40 < (n : Int) := by omega
    clear TK TA hp h hk hl hL hC ht h4
    go_enter Tryz.func79, Tryz.ntmps79
    go_wp2_with (go_at_call 76; (with_reducible refine Calls.mono S2 ?_); rintro e w1 ⟨rfl, d1⟩)
    go_ret
    exact ansR_no HT.out (by decide) (R1.more d1)
  · rw [if_neg h4] at TK
    have HT : Hid (tokenI t 0 = (0, t.extract 0 n, n, 0)) := TK
    have HP : Hid (Reach t n p c) := hp
    have k4 : ¬ 40 < (n : Int) := by omega
    clear TK hp h hk hl hL hC ht h4
    go_enter Tryz.func79, Tryz.ntmps79
    go_wp2_with (first
      | (go_at_call 76; (with_reducible refine Calls.mono S2 ?_); rintro e w1 ⟨rfl, d1⟩)
      | (go_at_call 110; (with_reducible refine Calls.mono (TA _ (R1.more d1)) ?_); rintro e w2 ⟨rfl, r2⟩))
    go_ret
    exact ansR_yes HT.out HP.out r2
set_option maxHeartbeats 8000000 in
theorem lex_number (h : RdL W w t L C l) (ht : t.size ≤ 1000000) (hL : 1 ≤ L ∧ L ≤ 1000001) (hC : 1 ≤ C ∧ C ≤ 1000001) (hl : l.length ≤ 4000) (hk : kindAt t 0 = 2) :
    Calls Tryz.prog 80 #[.pointer (some ⟨W.heap.size + 1, 0, none⟩)] w (AnsRL W t L C l) := by
  have TK := token_number hk
  obtain ⟨p, c, hp⟩ := (Reach.zero t).number
  have TA := fun v (q : RdL W v t L C l) => lex_take q ht hL hC hl _ 1 hp
  have NO := fun v => lex_numeral t ht v
  have ha := above_le t
  have hb := below_le t
  have SZ := fun v => lex_size (above t) (below t) (by omega) (by omega) (numEnd t 0) (numEnd_size t).symm v
  have MY := fun v => lex_may (above t) (below t) (by omega) (by omega) _ rfl v
  have LG := fun v => lex_long (above t) (below t) _ rfl v
  obtain ⟨x0, x1, x2, y0, y1, y2, -, hk2⟩ := h.cells
  have HH : Hid (RdL W w t L C l ∧ Reach t (numEnd t 0) p c) := ⟨h, hp⟩
  generalize longB (above t) (below t) = g at *
  generalize mayB (above t) (below t) = m at *
  generalize numEnd t 0 = n at *
  generalize above t = a at *
  generalize below t = b at *
  clear h hp hk hl hL hC ht ha hb
  cases g with
  | true =>
    rw [if_pos rfl] at TK
    have HT : Hid (tokenI t 0 = (0, ⟨#[]⟩, n, 4)) := TK
    clear TK TA SZ MY
    go_enter Tryz.func80, Tryz.ntmps80
    go_wp2_with (first
      | (go_at_call 111; (with_reducible refine Calls.mono (NO _) ?_); rintro e w1 ⟨rfl, d1⟩; have N := boxes1 w1 #[.string a, .string b] 137; obtain ⟨n0, n1, n2, n3⟩ := N.1.cells2)
      | (go_at_call 112; (with_reducible refine Calls.mono (LG _) ?_); rintro e w2 ⟨rfl, d2⟩))
    go_ret
    exact ansR_no HT.out (by decide) (((HH.out.1.more d1).more N.2.1).more d2)
  | false =>
    rw [if_neg (by decide)] at TK
    cases m with
    | false =>
      rw [if_neg (by decide)] at TK
      have HT : Hid (tokenI t 0 = (0, ⟨#[]⟩, n, 5)) := TK
      clear TK TA SZ
      go_enter Tryz.func80, Tryz.ntmps80
      go_wp2_with (first
        | (go_at_call 111; (with_reducible refine Calls.mono (NO _) ?_); rintro e w1 ⟨rfl, d1⟩; have N := boxes1 w1 #[.string a, .string b] 137; obtain ⟨n0, n1, n2, n3⟩ := N.1.cells2)
        | (go_at_call 112; (with_reducible refine Calls.mono (LG _) ?_); rintro e w2 ⟨rfl, d2⟩; obtain ⟨n0, n1, n2, n3⟩ := (N.1.more d2).cells2)
        | (go_at_call 113; (with_reducible refine Calls.mono (MY _) ?_); rintro e w3 ⟨rfl, d3⟩))
      go_ret
      exact ansR_no HT.out (by decide) ((((HH.out.1.more d1).more N.2.1).more d2).more d3)
    | true =>
      rw [if_pos rfl] at TK
      have HT : Hid (tokenI t 0 = (1, t.extract 0 n, n, 0)) := TK
      clear TK
      go_enter Tryz.func80, Tryz.ntmps80
      go_wp2_with (first
        | (go_at_call 111; (with_reducible refine Calls.mono (NO _) ?_); rintro e w1 ⟨rfl, d1⟩; have N := boxes1 w1 #[.string a, .string b] 137; obtain ⟨n0, n1, n2, n3⟩ := N.1.cells2)
        | (go_at_call 112; (with_reducible refine Calls.mono (LG _) ?_); rintro e w2 ⟨rfl, d2⟩; obtain ⟨n0, n1, n2, n3⟩ := (N.1.more d2).cells2)
        | (go_at_call 113; (with_reducible refine Calls.mono (MY _) ?_); rintro e w3 ⟨rfl, d3⟩; obtain ⟨n0, n1, n2, n3⟩ := ((N.1.more d2).more d3).cells2)
        | (go_at_call 114; (with_reducible refine Calls.mono (SZ _) ?_); rintro e w4 ⟨rfl, d4⟩)
        | (go_at_call 110; (with_reducible refine Calls.mono (TA _ (((((HH.out.1.more d1).more N.2.1).more d2).more d3).more d4)) ?_); rintro e w5 ⟨rfl, r5⟩))
      go_ret
      exact ansR_yes HT.out HH.out.2 r5
set_option maxHeartbeats 4000000 in
theorem lex_mark (h : RdL W w t L C l) (ht : t.size ≤ 1000000) (hL : 1 ≤ L ∧ L ≤ 1000001) (hC : 1 ≤ C ∧ C ≤ 1000001) (hl : l.length ≤ 4000) (hk : kindAt t 0 = 4) :
    Calls Tryz.prog 81 #[.pointer (some ⟨W.heap.size + 1, 0, none⟩)] w (AnsRL W t L C l) := by
  have h0 := kindAt_in (s := t) (i := 0) (by omega)
  have TK : tokenI t 0 = (2, t.extract 0 (0 + stepAt t 0), 0 + stepAt t 0, 0) := by unfold tokenI; rw [if_neg (by omega), if_neg (by omega), if_pos hk]
  obtain ⟨p, c, hp⟩ := (Reach.zero t).step (by omega)
  have TA := fun v (q : RdL W v t L C l) => lex_take q ht hL hC hl _ 2 hp
  have NX : ∀ v, Calls Tryz.prog 77 #[.string t, .int .i64 0] v fun e w' => e = .returned (.tuple #[.int .i32 (nextR t 0), .int .i64 (stepAt t 0)]) ∧ Below v.heap.size v w' := fun v => by
    have := sign_next t 0 v ht h0
    unfold stepAt
    rw [if_pos h0]; exact this
  rw [Nat.zero_add] at TK hp TA
  obtain ⟨x0, x1, x2, y0, y1, y2, -, hk2⟩ := h.cells
  have HH : Hid (RdL W w t L C l ∧ Reach t (stepAt t 0) p c ∧ tokenI t 0 = (2, t.extract 0 (stepAt t 0), stepAt t 0, 0)) := ⟨h, hp, TK⟩
  generalize stepAt t 0 = n at *
  generalize nextR t 0 = R at *
  clear h hp TK hk hl hL hC ht h0
  go_enter Tryz.func81, Tryz.ntmps81
  go_wp2_with (first
    | (go_at_call 77; (with_reducible refine Calls.mono (NX _) ?_); rintro e w1 ⟨rfl, d1⟩)
    | (go_at_call 110; (with_reducible refine Calls.mono (TA _ (HH.out.1.more d1)) ?_); rintro e w5 ⟨rfl, r5⟩))
  go_ret
  exact ansR_yes HH.out.2.2 HH.out.2.1 r5
set_option maxHeartbeats 4000000 in
theorem lex_nothing (h : RdL W w t L C l) (hk : kindAt t 0 ≠ 1 ∧ kindAt t 0 ≠ 2 ∧ kindAt t 0 ≠ 4) :
    Calls Tryz.prog 82 #[.pointer (some ⟨W.heap.size + 1, 0, none⟩)] w (AnsRL W t L C l) := by
  have TK : tokenI t 0 = (0, ⟨#[]⟩, 0, 5) := by unfold tokenI; rw [if_neg hk.1, if_neg hk.2.1, if_neg hk.2.2]
  have HH : Hid (RdL W w t L C l ∧ tokenI t 0 = (0, ⟨#[]⟩, 0, 5)) := ⟨h, TK⟩
  clear h TK hk
  go_enter Tryz.func82, Tryz.ntmps82
  go_wp2
  go_ret
  exact ansR_no HH.out.2 (by decide) HH.out.1
set_option maxHeartbeats 4000000 in
/-- Which of these is to be called. -/
theorem lex_next (h : RdL W w t L C l) (ht : t.size ≤ 1000000) (h0 : 0 < t.size) (N : Nat) (hN : kindAt t 0 = 1 ∧ N = 79 ∨ kindAt t 0 = 2 ∧ N = 80 ∨ kindAt t 0 = 4 ∧ N = 81 ∨ (kindAt t 0 ≠ 1 ∧ kindAt t 0 ≠ 2 ∧ kindAt t 0 ≠ 4) ∧ N = 82) :
    Calls Tryz.prog 52 #[.pointer (some ⟨W.heap.size + 1, 0, none⟩)] w fun e w' => e = .returned (.func (.func N) #[.pointer (some ⟨W.heap.size + 1, 0, none⟩)] #[]) ∧ RdL W w' t L C l := by
  have NX : ∀ v, Calls Tryz.prog 77 #[.string t, .int .i64 0] v fun e w' => e = .returned (.tuple #[.int .i32 (nextR t 0), .int .i64 (nextN t 0)]) ∧ Below v.heap.size v w' := fun v => sign_next t 0 v ht h0
  have e1 : kindAt t 0 = kindI (nextR t 0) := by unfold kindAt; rw [if_pos h0]
  have KD := fun v => sign_kind (nextR t 0) _ rfl v
  rw [← e1] at KD
  obtain ⟨x0, x1, x2, y0, y1, y2, -, hk2⟩ := h.cells
  have HH : Hid (RdL W w t L C l) := h
  have hmf : ∀ (fn : Fn) (first cap : Array Value) (v : World), (Instr.makeFunc fn first cap).run Tryz.prog v = .ok (.func fn first cap) v := fun _ _ _ _ => rfl
  generalize kindAt t 0 = k at *
  generalize nextR t 0 = R at *
  generalize nextN t 0 = M at *
  clear h ht h0 e1
  rcases hN with ⟨rfl, rfl⟩ | ⟨rfl, rfl⟩ | ⟨rfl, rfl⟩ | ⟨⟨q1, q2, q4⟩, rfl⟩
  case' inr.inr.inr =>
    have f1 : (k == 1) = false := by rw [beq_eq_false_iff_ne]; exact q1
    have f2 : (k == 2) = false := by rw [beq_eq_false_iff_ne]; exact q2
    have f4 : (k == 4) = false := by rw [beq_eq_false_iff_ne]; exact q4
    clear q1 q2 q4
  all_goals
    go_enter Tryz.func52, Tryz.ntmps52
    go_wp2_with (first
      | (go_at_call 77; (with_reducible refine Calls.mono (NX _) ?_); rintro e w1 ⟨rfl, d1⟩)
      | (go_at_call 78; (with_reducible refine Calls.mono (KD _) ?_); rintro e w2 ⟨rfl, rfl⟩))
    go_ret
    exact ⟨rfl, HH.out.more d1⟩
end
end Go.Proofs.YtbcfplaalepnbaaGreatDoor
