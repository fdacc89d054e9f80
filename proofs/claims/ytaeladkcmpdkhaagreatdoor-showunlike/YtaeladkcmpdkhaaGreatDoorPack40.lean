/-
  Texts of mine in build order. No conditions of their own.
-/
import Derived.Test.YtaeladkcmpdkhaaGreatDoorPack29
import Derived.Test.YtaeladkcmpdkhaaGreatDoorPack30
import Derived.Test.YtaeladkcmpdkhaaGreatDoorPack32
set_option maxHeartbeats 64000000
namespace Go.Proofs.YtaeladkcmpdkhaaGreatDoor
section
open Go.RowKit Go.Lib
theorem ref_tnames_any {w : World} {a b : Option Addr} {n c m d : Nat} {xs ys : List ByteArray} (h1 : IsS w a n xs) (h2 : IsS w b m ys) (hn : n ≤ 100000) (r : Bool) (hr : decide (xs = ys) = r) :
  Calls Tryz.prog 41 #[.slice a n c, .slice b m d] w fun e w' => e = .returned (.bool r) ∧ Below w.heap.size w w' := by
 by_cases hnm : n = m
 case neg =>
  have hnm' : ((n : Int) != m) = true := by rw [bne_iff_ne]; omega
  obtain rfl : r = false := by rw [← hr]; refine decide_eq_false (fun e => hnm ?_); rw [← h1.1, ← h2.1, e]
  clear h1 h2 hr hn hnm
  go_enter Tryz.func41, Tryz.ntmps41
  go_wp2
  go_ret
  exact ⟨rfl, Below.refl _ _⟩
 case pos =>
 subst hnm
 have HH : Hid (IsS w a n xs ∧ IsS w b n ys ∧ n ≤ 100000 ∧ decide (xs = ys) = r) := ⟨h1, h2, hn, hr⟩
 clear h1 h2 hn hr
 go_enter Tryz.func41, Tryz.ntmps41
 go_wp2
 go_loopg [5] n (fun g s5 v => ∃ t : Nat, s5 = .int .i64 t ∧ t + g = n ∧ xs.take t = ys.take t ∧ Below w.heap.size w v)
 case atStart => exact ⟨0, rfl, by omega, rfl, Below.refl _ _⟩
 case round =>
  obtain ⟨t, rfl, hg, ht0, bw⟩ := hrel
  obtain ⟨h1, h2, hn, hr⟩ := HH.out
  rcases Nat.lt_or_ge t n with ht | ht
  ·have p1 : (t : Int) < n := by omega
   obtain ⟨g1, o1, rfl, c1⟩ := (h1.below bw).2.resolve_left (by omega)
   obtain ⟨g2, o2, rfl, c2⟩ := (h2.below bw).2.resolve_left (by omega)
   obtain ⟨x, hx⟩ : ∃ x, xs[t]? = some x := ⟨_, List.getElem?_eq_getElem (by have := h1.1; omega)⟩
   obtain ⟨y, hy⟩ : ∃ y, ys[t]? = some y := ⟨_, List.getElem?_eq_getElem (by have := h2.1; omega)⟩
   have k1 := c1 t x hx
   have k2 := c2 t y hy
   have HW : Hid (wrap64 ((t : Int) + 1) = (t : Int) + 1) := wrap_smalls (by omega) (by omega)
   by_cases hxy : x = y
   ·subst hxy
    have HN : Hid (t + 1 + (n - (t + 1)) = n ∧ n - (t + 1) < gk ∧ xs.take (t + 1) = ys.take (t + 1) ∧ Below w.heap.size w wr) := ⟨by omega, by omega, by rw [List.take_add_one, List.take_add_one, hx, hy, ht0], bw⟩
    clear hg bw h1 h2 hn c1 c2 hx hy HH hr ht0
    have wT := HW.out
    go_wp2
    go_quiet (fail)
    obtain ⟨j2, j3, j5, j4⟩ := HN.out
    go_wp2
    go_roundg (n - (t + 1))
    case measure => exact j3
    case rel => exact ⟨t + 1, by first | rfl | (rw [wT]; rfl), j2, j5, below_drewN j4 _⟩
   ·obtain rfl : r = false := by
     rw [← hr]
     refine decide_eq_false (fun e => hxy ?_)
     rw [e, hy] at hx
     exact (Option.some.inj hx).symm
    have e1 : (x.toList == y.toList) = false := by
     rw [beq_eq_false_iff_ne]
     intro f
     rw [ByteArray.toList_eq, ByteArray.toList_eq, Array.toList_inj] at f
     exact hxy (ByteArray.ext f)
    clear hg h1 h2 hn c1 c2 hx hy HH hr ht0 hxy HW
    go_wp2
    go_quiet (fail)
    go_wp2
    go_ret
    exact ⟨rfl, below_drewN bw _⟩
  ·have p1 : ¬ (t : Int) < n := by omega
   obtain rfl : t = n := by omega
   obtain rfl : r = true := by
    rw [← hr]
    refine decide_eq_true ?_
    rwa [List.take_of_length_le (by have := h1.1; omega), List.take_of_length_le (by have := h2.1; omega)] at ht0
   clear hg h1 h2 hn HH hr ht0
   go_wp2
   go_ret
   exact ⟨rfl, bw⟩
theorem ref_tnode_any {w : World} (m m' : Nw) {ua va ua' va' : Option Addr} {n q uc vc n' q' uc' vc' : Nat} (h : IsWords w (.slice ua n uc) m.xs) (g : IsWords w (.slice va q vc) m.ys) (h' : IsWords w (.slice ua' n' uc') m'.xs) (g' : IsWords w (.slice va' q' vc') m'.ys) (r : Bool) (hr : r = true ↔ m = m') :
  Calls Tryz.prog 40 #[.agg #[.int .i64 m.kind, .int .i64 m.a, .int .i64 m.b, .int .i64 m.exp, .string m.name, .bool m.neg, .slice ua n uc, .slice va q vc], .agg #[.int .i64 m'.kind, .int .i64 m'.a, .int .i64 m'.b, .int .i64 m'.exp, .string m'.name, .bool m'.neg, .slice ua' n' uc', .slice va' q' vc']] w fun e w' => e = .returned (.bool r) ∧ Below w.heap.size w w' := by
 obtain ⟨b1, b2, bV, hs⟩ := boxes2 w #[.int .i64 m.kind, .int .i64 m.a, .int .i64 m.b, .int .i64 m.exp, .string m.name, .bool m.neg, .slice ua n uc, .slice va q vc] #[.int .i64 m'.kind, .int .i64 m'.a, .int .i64 m'.b, .int .i64 m'.exp, .string m'.name, .bool m'.neg, .slice ua' n' uc', .slice va' q' vc'] 47 47
 have EQ := fun (v : World) (d : Below w.heap.size w v) (z : Bool) (hz : decide (m.neg = m'.neg ∧ m.xs = m'.xs ∧ m.ys = m'.ys) = z) => ref_requal (s := m.neg) (s' := m'.neg) (h.below d) (g.below d) (h'.below d) (g'.below d) z hz
 have HB : Hid (Below w.heap.size w _) := bV
 clear b1 b2 hs h g h' g'
 have no : ∀ {p : Prop}, (m = m' → p) → ¬ p → r = false := fun hp hn => Bool.eq_false_iff.2 fun e => hn (hp (hr.1 e))
 by_cases e1 : m.kind = m'.kind
 case neg =>
  obtain rfl := no (fun e => by rw [e]) e1
  have q1 : (m.kind == m'.kind) = false := beq_eq_false_iff_ne.2 e1
  clear e1 EQ hr no
  generalize m.neg = A1 at *
  generalize m'.neg = A2 at *
  go_enter Tryz.func40, Tryz.ntmps40
  go_wp2
  go_ret
  exact ⟨rfl, HB.out⟩
 have q1 : (m.kind == m'.kind) = true := by rw [beq_iff_eq]; exact e1
 by_cases e2 : m.a = m'.a
 case neg =>
  obtain rfl := no (fun e => by rw [e]) e2
  have q2 : (m.a == m'.a) = false := beq_eq_false_iff_ne.2 e2
  clear e1 e2 EQ hr no
  generalize m.neg = A1 at *
  generalize m'.neg = A2 at *
  go_enter Tryz.func40, Tryz.ntmps40
  go_wp2
  go_ret
  exact ⟨rfl, HB.out⟩
 have q2 : (m.a == m'.a) = true := by rw [beq_iff_eq]; exact e2
 by_cases e3 : m.b = m'.b
 case neg =>
  obtain rfl := no (fun e => by rw [e]) e3
  have q3 : (m.b == m'.b) = false := beq_eq_false_iff_ne.2 e3
  clear e1 e2 e3 EQ hr no
  generalize m.neg = A1 at *
  generalize m'.neg = A2 at *
  go_enter Tryz.func40, Tryz.ntmps40
  go_wp2
  go_ret
  exact ⟨rfl, HB.out⟩
 have q3 : (m.b == m'.b) = true := by rw [beq_iff_eq]; exact e3
 by_cases e4 : m.exp = m'.exp
 case neg =>
  obtain rfl := no (fun e => by rw [e]) e4
  have q4 : (m.exp == m'.exp) = false := beq_eq_false_iff_ne.2 e4
  clear e1 e2 e3 e4 EQ hr no
  generalize m.neg = A1 at *
  generalize m'.neg = A2 at *
  go_enter Tryz.func40, Tryz.ntmps40
  go_wp2
  go_ret
  exact ⟨rfl, HB.out⟩
 have q4 : (m.exp == m'.exp) = true := by rw [beq_iff_eq]; exact e4
 by_cases e5 : m.name = m'.name
 case neg =>
  obtain rfl := no (fun e => by rw [e]) e5
  have q5 : (m.name.toList == m'.name.toList) = false := by
   rw [beq_eq_false_iff_ne]
   intro f
   rw [ByteArray.toList_eq, ByteArray.toList_eq, Array.toList_inj] at f
   exact e5 (ByteArray.ext f)
  clear e1 e2 e3 e4 e5 EQ hr no
  generalize m.neg = A1 at *
  generalize m'.neg = A2 at *
  go_enter Tryz.func40, Tryz.ntmps40
  go_wp2
  go_ret
  exact ⟨rfl, HB.out⟩
 have q5 : (m.name.toList == m'.name.toList) = true := by rw [e5, beq_iff_eq]
 have hz : decide (m.neg = m'.neg ∧ m.xs = m'.xs ∧ m.ys = m'.ys) = r := by
  rw [Bool.eq_iff_iff, decide_eq_true_eq, hr]
  refine ⟨fun e => ?_, fun e => by rw [e]; exact ⟨rfl, rfl, rfl⟩⟩
  cases m
  cases m'
  simp only at e1 e2 e3 e4 e5 e
  obtain ⟨f1, f2, f3⟩ := e
  subst e1; subst e2; subst e3; subst e4; subst e5; subst f1; subst f2; subst f3
  rfl
 have EQ' := fun v d => EQ v d r hz
 generalize m.neg = A1 at *
 generalize m'.neg = A2 at *
 clear e1 e2 e3 e4 e5 EQ hr no hz
 go_enter Tryz.func40, Tryz.ntmps40
 go_wp2_with (go_at_call 42; (with_reducible refine Calls.mono (EQ' _ HB.out) ?_); rintro e w1 ⟨rfl, d1⟩)
 go_ret
 exact ⟨rfl, below_more HB.out d1⟩
theorem let_ne {x y : ByteArray × Int} (h : x ≠ y) : x.1.toList ≠ y.1.toList ∨ (x.1 = y.1 ∧ x.2 ≠ y.2) := by
 by_cases h1 : x.1 = y.1
 ·exact .inr ⟨h1, fun h2 => h (Prod.ext h1 h2)⟩
 ·refine .inl fun f => h1 ?_
  rw [ByteArray.toList_eq, ByteArray.toList_eq, Array.toList_inj] at f
  exact ByteArray.ext f
def SameP (ins ins' outs outs' : List ByteArray) (ls ls' : List (ByteArray × Int)) (ms ms' : List Nw) : Prop := ins = ins' ∧ outs = outs' ∧ ls = ls' ∧ ms = ms'
theorem ref_tsame_any {w : World} {ia la oa a ia' la' oa' a' : Option Addr} {il ic ln lc ol oc n c il' ic' ln' lc' ol' oc' n' c' : Nat} {ins outs ins' outs' : List ByteArray} {ls ls' : List (ByteArray × Int)} {ms ms' : List Mn}
  (h1 : IsS w ia il ins) (h1' : IsS w ia' il' ins') (h2 : IsLt w la ln ls) (h2' : IsLt w la' ln' ls') (h3 : IsS w oa ol outs) (h3' : IsS w oa' ol' outs') (h4 : IsN w a n ms) (h4' : IsN w a' n' ms') (h5 : NdR w ms) (h5' : NdR w ms') (hb : il ≤ 100000 ∧ ln ≤ 100000 ∧ ol ≤ 100000 ∧ n ≤ 100000) (r : Bool) (hr : r = true ↔ SameP ins ins' outs outs' ls ls' (ms.map (·.1)) (ms'.map (·.1))) :
  Calls Tryz.prog 17 #[.agg #[.slice ia il ic, .slice la ln lc, .slice oa ol oc, .slice a n c], .agg #[.slice ia' il' ic', .slice la' ln' lc', .slice oa' ol' oc', .slice a' n' c']] w fun e w' => e = .returned (.bool r) ∧ Below w.heap.size w w' := by
 obtain ⟨b1, b2, bV, hs⟩ := boxes2 w #[.slice ia il ic, .slice la ln lc, .slice oa ol oc, .slice a n c] #[.slice ia' il' ic', .slice la' ln' lc', .slice oa' ol' oc', .slice a' n' c'] 26 26
 have CB : Hid (∀ v, Below ((w.alloc (.cells #[.slice ia il ic, .slice la ln lc, .slice oa ol oc, .slice a n c] 26)).alloc (.cells #[.slice ia' il' ic', .slice la' ln' lc', .slice oa' ol' oc', .slice a' n' c'] 26)).heap.size ((w.alloc (.cells #[.slice ia il ic, .slice la ln lc, .slice oa ol oc, .slice a n c] 26)).alloc (.cells #[.slice ia' il' ic', .slice la' ln' lc', .slice oa' ol' oc', .slice a' n' c'] 26)) v →
   v.cell? ⟨w.heap.size, 0, none⟩ = some (.slice ia il ic) ∧ v.cell? ⟨w.heap.size, 1, none⟩ = some (.slice la ln lc) ∧ v.cell? ⟨w.heap.size, 2, none⟩ = some (.slice oa ol oc) ∧ v.cell? ⟨w.heap.size, 3, none⟩ = some (.slice a n c) ∧ v.cell? ⟨w.heap.size + 1, 0, none⟩ = some (.slice ia' il' ic') ∧ v.cell? ⟨w.heap.size + 1, 1, none⟩ = some (.slice la' ln' lc') ∧ v.cell? ⟨w.heap.size + 1, 2, none⟩ = some (.slice oa' ol' oc') ∧ v.cell? ⟨w.heap.size + 1, 3, none⟩ = some (.slice a' n' c')) := fun v d =>
  ⟨((b1.more d).cell 0).1, ((b1.more d).cell 1).1, ((b1.more d).cell 2).1, ((b1.more d).cell 3).1, ((b2.more d).cell 0).1, ((b2.more d).cell 1).1, ((b2.more d).cell 2).1, ((b2.more d).cell 3).1⟩
 have HV : Hid (Below w.heap.size w ((w.alloc (.cells #[.slice ia il ic, .slice la ln lc, .slice oa ol oc, .slice a n c] 26)).alloc (.cells #[.slice ia' il' ic', .slice la' ln' lc', .slice oa' ol' oc', .slice a' n' c'] 26)) ∧ w.heap.size + 1 < ((w.alloc (.cells #[.slice ia il ic, .slice la ln lc, .slice oa ol oc, .slice a n c] 26)).alloc (.cells #[.slice ia' il' ic', .slice la' ln' lc', .slice oa' ol' oc', .slice a' n' c'] 26)).heap.size) := ⟨bV, hs⟩
 have lL := h2.1
 have lL' := h2'.1
 have lN := h4.1
 have lN' := h4'.1
 by_cases hln : ln = ln'
 case neg =>
  obtain rfl : r = false := Bool.eq_false_iff.2 fun e => hln (by rw [← lL, ← lL', (hr.1 e).2.2.1])
  have q1 : ((ln : Int) != ln') = true := by rw [bne_iff_ne]; omega
  obtain ⟨x0, x1, x2, x3, y0, y1, y2, y3⟩ := CB.out _ (Below.refl _ _)
  clear h1 h1' h2 h2' h3 h3' h4 h4' h5 h5' hb hr b1 b2 bV hs CB hln lL lL' lN lN'
  go_enter Tryz.func17, Tryz.ntmps17
  go_wp2
  go_ret
  exact ⟨rfl, HV.out.1⟩
 case pos =>
 subst hln
 by_cases hnn : n = n'
 case neg =>
  obtain rfl : r = false := Bool.eq_false_iff.2 fun e => hnn (by have q := congrArg List.length (hr.1 e).2.2.2; rw [List.length_map, List.length_map] at q; omega)
  have q1 : ((n : Int) != n') = true := by rw [bne_iff_ne]; omega
  have q0 : ((ln : Int) != ln) = false := by simp
  obtain ⟨x0, x1, x2, x3, y0, y1, y2, y3⟩ := CB.out _ (Below.refl _ _)
  clear h1 h1' h2 h2' h3 h3' h4 h4' h5 h5' hb hr b1 b2 bV hs CB hnn lL lL' lN lN'
  go_enter Tryz.func17, Tryz.ntmps17
  go_wp2
  go_ret
  exact ⟨rfl, HV.out.1⟩
 case pos =>
 subst hnn
 have HH : Hid (IsS w ia il ins ∧ IsS w ia' il' ins' ∧ IsLt w la ln ls ∧ IsLt w la' ln ls' ∧ IsS w oa ol outs ∧ IsS w oa' ol' outs' ∧ IsN w a n ms ∧ IsN w a' n ms' ∧ NdR w ms ∧ NdR w ms' ∧ (r = true ↔ SameP ins ins' outs outs' ls ls' (ms.map (·.1)) (ms'.map (·.1))) ∧ il ≤ 100000 ∧ ln ≤ 100000 ∧ ol ≤ 100000 ∧ n ≤ 100000) := ⟨h1, h1', h2, h2', h3, h3', h4, h4', h5, h5', hr, hb.1, hb.2.1, hb.2.2.1, hb.2.2.2⟩
 obtain ⟨x0, x1, x2, x3, y0, y1, y2, y3⟩ := CB.out _ (Below.refl _ _)
 clear h1 h1' h2 h2' h3 h3' h4 h4' h5 h5' hr hb b1 b2 bV hs lL lL' lN lN'
 go_enter Tryz.func17, Tryz.ntmps17
 go_wp2
 clear x0 x1 x2 x3 y0 y1 y2 y3
 generalize ((w.alloc (.cells #[.slice ia il ic, .slice la ln lc, .slice oa ol oc, .slice a n c] 26)).alloc (.cells #[.slice ia' il' ic', .slice la' ln lc', .slice oa' ol' oc', .slice a' n c'] 26)) = V at *
 go_loopg [5] ln (fun g s5 v => ∃ t : Nat, s5 = .int .i64 t ∧ t + g = ln ∧ ls.take t = ls'.take t ∧ Below V.heap.size V v)
 case atStart => exact ⟨0, rfl, by omega, rfl, Below.refl _ _⟩
 case round =>
  obtain ⟨t, rfl, hg, ht0, bw⟩ := hrel
  have hL1 := HH.out.2.2.1
  have hL2 := HH.out.2.2.2.1
  have hln := HH.out.2.2.2.2.2.2.2.2.2.2.2.2.1
  have bW := below_more HV.out.1 bw
  have hsz : w.heap.size + 1 < wr.heap.size := Nat.lt_of_lt_of_le HV.out.2 bw.size
  obtain ⟨x0, x1, x2, x3, y0, y1, y2, y3⟩ := CB.out wr bw
  rcases Nat.lt_or_ge t ln with ht | ht
  ·have p1 : (t : Int) < ln := by omega
   obtain ⟨g1, o1, rfl, c1⟩ := (hL1.below bW).2.resolve_left (by omega)
   obtain ⟨g2, o2, rfl, c2⟩ := (hL2.below bW).2.resolve_left (by omega)
   obtain ⟨⟨nm, rt⟩, hx⟩ : ∃ x, ls[t]? = some x := ⟨_, List.getElem?_eq_getElem (by have := hL1.1; omega)⟩
   obtain ⟨⟨nm', rt'⟩, hy⟩ : ∃ x, ls'[t]? = some x := ⟨_, List.getElem?_eq_getElem (by have := hL2.1; omega)⟩
   obtain ⟨k1, k2⟩ := c1 t _ hx
   obtain ⟨k3, k4⟩ := c2 t _ hy
   dsimp only at k1 k2 k3 k4
   have HW : Hid (wrap64 ((t : Int) + 1) = (t : Int) + 1) := wrap_smalls (by omega) (by omega)
   by_cases hxy : ((nm, rt) : ByteArray × Int) = (nm', rt')
   ·have hst : ls.take (t + 1) = ls'.take (t + 1) := by rw [List.take_add_one, List.take_add_one, hx, hy, ht0, hxy]
    injection hxy with f1 f2
    subst f1; subst f2
    have HN : Hid (t + 1 + (ln - (t + 1)) = ln ∧ ln - (t + 1) < gk ∧ ls.take (t + 1) = ls'.take (t + 1) ∧ Below V.heap.size V wr) := ⟨by omega, by omega, hst, bw⟩
    clear hg bw hL1 hL2 hln c1 c2 hx hy HH bW ht0 hst
    have wT := HW.out
    go_wp2
    go_quiet (fail)
    obtain ⟨j2, j3, j5, j4⟩ := HN.out
    go_wp2
    go_roundg (ln - (t + 1))
    case measure => exact j3
    case rel => exact ⟨t + 1, by first | rfl | (rw [wT]; rfl), j2, j5, below_drewN j4 _⟩
   ·obtain rfl : r = false := Bool.eq_false_iff.2 fun e => hxy (by
     have q := (HH.out.2.2.2.2.2.2.2.2.2.2.1.1 e).2.2.1
     rw [q, hy] at hx
     exact (Option.some.inj hx).symm)
    have HZ : Hid (Below w.heap.size w wr) := bW
    rcases let_ne hxy with f | ⟨f, f'⟩
    case' inl => have e1 : (nm.toList == nm'.toList) = false := beq_eq_false_iff_ne.2 f
    case' inr => have e1 : (rt == rt') = false := beq_eq_false_iff_ne.2 f'; obtain rfl : nm = nm' := f
    all_goals
     clear hg bw hL1 hL2 hln c1 c2 hx hy HH bW ht0 hxy HW
     go_wp2
     go_quiet (fail)
     go_wp2
     go_ret
     exact ⟨rfl, below_drewN HZ.out _⟩
  ·have p1 : ¬ (t : Int) < ln := by omega
   obtain rfl : t = ln := by omega
   have hls : ls = ls' := by rwa [List.take_of_length_le (by have := hL1.1; omega), List.take_of_length_le (by have := hL2.1; omega)] at ht0
   clear hg hL1 hL2 hln bW ht0
   have HP : Hid (Below V.heap.size V wr ∧ ls = ls') := ⟨bw, hls⟩
   clear hls
   go_wp2
   go_loopg [6] n (fun g s6 v => ∃ k : Nat, s6 = .int .i64 k ∧ k + g = n ∧ (ms.map (·.1)).take k = (ms'.map (·.1)).take k ∧ Below V.heap.size V v)
   case atStart => exact ⟨0, rfl, by omega, rfl, HP.out.1⟩
   case round =>
    obtain ⟨k, rfl, hg, hk0, bw⟩ := hrel
    obtain ⟨i1, i1', -, -, i3, i3', i4, i4', i5, i5', hr, hil, -, hol, hn⟩ := HH.out
    have bW := below_more HV.out.1 bw
    have hsz : w.heap.size + 1 < wr.heap.size := Nat.lt_of_lt_of_le HV.out.2 bw.size
    obtain ⟨x0, x1, x2, x3, y0, y1, y2, y3⟩ := CB.out wr bw
    rcases Nat.lt_or_ge k n with hk | hk
    ·have p1 : (k : Int) < n := by omega
     obtain ⟨m, hm⟩ : ∃ m, ms[k]? = some m := ⟨_, List.getElem?_eq_getElem (by have := i4.1; omega)⟩
     obtain ⟨m', hm'⟩ : ∃ m', ms'[k]? = some m' := ⟨_, List.getElem?_eq_getElem (by have := i4'.1; omega)⟩
     obtain ⟨⟨ux, uy, hu, hu'⟩, ⟨vx, vy, hv, hv'⟩, -⟩ := i5 m (List.mem_of_getElem? hm)
     obtain ⟨⟨ux', uy', hx, hx'⟩, ⟨vx', vy', hy, hy'⟩, -⟩ := i5' m' (List.mem_of_getElem? hm')
     obtain ⟨gm, om, rfl, -⟩ := i4.node hm
     obtain ⟨gp, op, rfl, -⟩ := i4'.node hm'
     have CE := fun (v : World) (b : Below w.heap.size w v) => i4.at hm v b
     have CF := fun (v : World) (b : Below w.heap.size w v) => i4'.at hm' v b
     simp only [hu, hv] at CE
     simp only [hx, hy] at CF
     have NQ := fun (v : World) (b : Below w.heap.size w v) (z : Bool) (hz : z = true ↔ m.1 = m'.1) => ref_tnode_any m.1 m'.1 (hu'.below b) (hv'.below b) (hx'.below b) (hy'.below b) z hz
     have e0 : (ms.map (·.1))[k]? = some m.1 := by rw [List.getElem?_map, hm]; rfl
     have e0' : (ms'.map (·.1))[k]? = some m'.1 := by rw [List.getElem?_map, hm']; rfl
     have SO : ∀ v, Below wr.heap.size wr v → v.cell? ⟨w.heap.size, 3, none⟩ = some (.slice (some ⟨gm, om, none⟩) n c) ∧ v.cell? ⟨w.heap.size + 1, 3, none⟩ = some (.slice (some ⟨gp, op, none⟩) n c') ∧ v.cell? ⟨gm, om + k * 8, none⟩ = some (.int .i64 m.1.kind) ∧ v.cell? ⟨gm, om + k * 8 + 1, none⟩ = some (.int .i64 m.1.a) ∧ v.cell? ⟨gm, om + k * 8 + 2, none⟩ = some (.int .i64 m.1.b) ∧ v.cell? ⟨gm, om + k * 8 + 3, none⟩ = some (.int .i64 m.1.exp) ∧ v.cell? ⟨gm, om + k * 8 + 4, none⟩ = some (.string m.1.name) ∧ v.cell? ⟨gm, om + k * 8 + 5, none⟩ = some (.bool m.1.neg) ∧ v.cell? ⟨gm, om + k * 8 + 6, none⟩ = some (.slice ux m.1.xs.length uy) ∧ v.cell? ⟨gm, om + k * 8 + 7, none⟩ = some (.slice vx m.1.ys.length vy) ∧ v.cell? ⟨gp, op + k * 8, none⟩ = some (.int .i64 m'.1.kind) ∧ v.cell? ⟨gp, op + k * 8 + 1, none⟩ = some (.int .i64 m'.1.a) ∧ v.cell? ⟨gp, op + k * 8 + 2, none⟩ = some (.int .i64 m'.1.b) ∧ v.cell? ⟨gp, op + k * 8 + 3, none⟩ = some (.int .i64 m'.1.exp) ∧ v.cell? ⟨gp, op + k * 8 + 4, none⟩ = some (.string m'.1.name) ∧ v.cell? ⟨gp, op + k * 8 + 5, none⟩ = some (.bool m'.1.neg) ∧ v.cell? ⟨gp, op + k * 8 + 6, none⟩ = some (.slice ux' m'.1.xs.length uy') ∧ v.cell? ⟨gp, op + k * 8 + 7, none⟩ = some (.slice vx' m'.1.ys.length vy') := fun v b => by
      have c1 := CB.out v (below_more bw b)
      have c2 := CE v (below_more bW b)
      have c3 := CF v (below_more bW b)
      exact ⟨c1.2.2.2.1, c1.2.2.2.2.2.2.2, c2.1, c2.2.1, c2.2.2.1, c2.2.2.2.1, c2.2.2.2.2.1, c2.2.2.2.2.2.1, c2.2.2.2.2.2.2.1, c2.2.2.2.2.2.2.2, c3⟩
     have HW : Hid (wrap64 ((k : Int) + 1) = (k : Int) + 1) := wrap_smalls (by omega) (by omega)
     by_cases hmm : m.1 = m'.1
     ·have NQ' := fun (v : World) (b : Below w.heap.size w v) => NQ v b true ⟨fun _ => hmm, fun _ => rfl⟩
      have HN : Hid (k + 1 + (n - (k + 1)) = n ∧ n - (k + 1) < gk ∧ (ms.map (·.1)).take (k + 1) = (ms'.map (·.1)).take (k + 1)) := ⟨by omega, by omega, by rw [List.take_add_one, List.take_add_one, e0, e0', hk0, hmm]⟩
      clear hg i1 i1' i3 i3' i4 i4' i5 i5' hr hil hol hn hm hm' hmm hu hv hx hy hu' hv' hx' hy' HH CB CE CF NQ e0 e0' hk0
      have bs := (Below.refl wr.heap.size wr).drew
      have b0 := Below.refl wr.heap.size wr
      go_wp2
      go_region_held3 (fun v => v.cell? ⟨w.heap.size, 3, none⟩ = some (.slice (some ⟨gm, om, none⟩) n c) ∧ v.cell? ⟨w.heap.size + 1, 3, none⟩ = some (.slice (some ⟨gp, op, none⟩) n c') ∧ v.cell? ⟨gm, om + k * 8, none⟩ = some (.int .i64 m.1.kind) ∧ v.cell? ⟨gm, om + k * 8 + 1, none⟩ = some (.int .i64 m.1.a) ∧ v.cell? ⟨gm, om + k * 8 + 2, none⟩ = some (.int .i64 m.1.b) ∧ v.cell? ⟨gm, om + k * 8 + 3, none⟩ = some (.int .i64 m.1.exp) ∧ v.cell? ⟨gm, om + k * 8 + 4, none⟩ = some (.string m.1.name) ∧ v.cell? ⟨gm, om + k * 8 + 5, none⟩ = some (.bool m.1.neg) ∧ v.cell? ⟨gm, om + k * 8 + 6, none⟩ = some (.slice ux m.1.xs.length uy) ∧ v.cell? ⟨gm, om + k * 8 + 7, none⟩ = some (.slice vx m.1.ys.length vy) ∧ v.cell? ⟨gp, op + k * 8, none⟩ = some (.int .i64 m'.1.kind) ∧ v.cell? ⟨gp, op + k * 8 + 1, none⟩ = some (.int .i64 m'.1.a) ∧ v.cell? ⟨gp, op + k * 8 + 2, none⟩ = some (.int .i64 m'.1.b) ∧ v.cell? ⟨gp, op + k * 8 + 3, none⟩ = some (.int .i64 m'.1.exp) ∧ v.cell? ⟨gp, op + k * 8 + 4, none⟩ = some (.string m'.1.name) ∧ v.cell? ⟨gp, op + k * 8 + 5, none⟩ = some (.bool m'.1.neg) ∧ v.cell? ⟨gp, op + k * 8 + 6, none⟩ = some (.slice ux' m'.1.xs.length uy') ∧ v.cell? ⟨gp, op + k * 8 + 7, none⟩ = some (.slice vx' m'.1.ys.length vy')) ((refine SO _ ?_; first | exact bs | exact bs.drew | exact b0)) (first
       | (go_at_call 40; (with_reducible refine Calls.mono (NQ' _ (below_more bW bs)) ?_); rintro e w2 ⟨rfl, d2⟩; replace bs := below_more bs d2))
      all_goals
       have wT := HW.out
       go_wp2
       obtain ⟨j2, j3, j5⟩ := HN.out
       go_roundg (n - (k + 1))
       case measure => exact j3
       case rel => exact ⟨k + 1, by first | rfl | (rw [wT]; rfl), j2, j5, by first | exact below_more bw bs | exact below_more bw bs.drew⟩
     ·have NQ' := fun (v : World) (b : Below w.heap.size w v) => NQ v b false ⟨fun e => absurd e (by simp), fun e => absurd e hmm⟩
      obtain rfl : r = false := Bool.eq_false_iff.2 fun e => hmm (by
       have q := (hr.1 e).2.2.2
       rw [q, e0'] at e0
       exact (Option.some.inj e0).symm)
      clear hg i1 i1' i3 i3' i4 i4' i5 i5' hr hil hol hn hm hm' hmm hu hv hx hy hu' hv' hx' hy' HH CB CE CF NQ e0 e0' hk0 HW
      have bs := (Below.refl wr.heap.size wr).drew
      have b0 := Below.refl wr.heap.size wr
      go_wp2
      go_region_held3 (fun v => v.cell? ⟨w.heap.size, 3, none⟩ = some (.slice (some ⟨gm, om, none⟩) n c) ∧ v.cell? ⟨w.heap.size + 1, 3, none⟩ = some (.slice (some ⟨gp, op, none⟩) n c') ∧ v.cell? ⟨gm, om + k * 8, none⟩ = some (.int .i64 m.1.kind) ∧ v.cell? ⟨gm, om + k * 8 + 1, none⟩ = some (.int .i64 m.1.a) ∧ v.cell? ⟨gm, om + k * 8 + 2, none⟩ = some (.int .i64 m.1.b) ∧ v.cell? ⟨gm, om + k * 8 + 3, none⟩ = some (.int .i64 m.1.exp) ∧ v.cell? ⟨gm, om + k * 8 + 4, none⟩ = some (.string m.1.name) ∧ v.cell? ⟨gm, om + k * 8 + 5, none⟩ = some (.bool m.1.neg) ∧ v.cell? ⟨gm, om + k * 8 + 6, none⟩ = some (.slice ux m.1.xs.length uy) ∧ v.cell? ⟨gm, om + k * 8 + 7, none⟩ = some (.slice vx m.1.ys.length vy) ∧ v.cell? ⟨gp, op + k * 8, none⟩ = some (.int .i64 m'.1.kind) ∧ v.cell? ⟨gp, op + k * 8 + 1, none⟩ = some (.int .i64 m'.1.a) ∧ v.cell? ⟨gp, op + k * 8 + 2, none⟩ = some (.int .i64 m'.1.b) ∧ v.cell? ⟨gp, op + k * 8 + 3, none⟩ = some (.int .i64 m'.1.exp) ∧ v.cell? ⟨gp, op + k * 8 + 4, none⟩ = some (.string m'.1.name) ∧ v.cell? ⟨gp, op + k * 8 + 5, none⟩ = some (.bool m'.1.neg) ∧ v.cell? ⟨gp, op + k * 8 + 6, none⟩ = some (.slice ux' m'.1.xs.length uy') ∧ v.cell? ⟨gp, op + k * 8 + 7, none⟩ = some (.slice vx' m'.1.ys.length vy')) ((refine SO _ ?_; first | exact bs | exact bs.drew | exact b0)) (first
       | (go_at_call 40; (with_reducible refine Calls.mono (NQ' _ (below_more bW bs)) ?_); rintro e w2 ⟨rfl, d2⟩; replace bs := below_more bs d2))
      all_goals
       go_wp2
       go_ret
       exact ⟨rfl, by first | exact below_more bW bs | exact below_more bW bs.drew⟩
    ·have p1 : ¬ (k : Int) < n := by omega
     obtain rfl : k = n := by omega
     have hmm : ms.map (·.1) = ms'.map (·.1) := by rwa [List.take_of_length_le (by rw [List.length_map]; have := i4.1; omega), List.take_of_length_le (by rw [List.length_map]; have := i4'.1; omega)] at hk0
     have N1 := fun (v : World) (b : Below w.heap.size w v) (z : Bool) (hz : decide (ins = ins') = z) => ref_tnames_any (c := ic) (d := ic') (i1.below b) (i1'.below b) hil z hz
     have N3 := fun (v : World) (b : Below w.heap.size w v) (z : Bool) (hz : decide (outs = outs') = z) => ref_tnames_any (c := oc) (d := oc') (i3.below b) (i3'.below b) hol z hz
     have hls := HP.out.2
     by_cases hi : ins = ins'
     case neg =>
      have N1' := fun v b => N1 v b false (decide_eq_false hi)
      obtain rfl : r = false := Bool.eq_false_iff.2 fun e => hi (hr.1 e).1
      clear hg i1 i1' i3 i3' i4 i4' i5 i5' hr hil hol hn HH N1 N3 hmm hk0 hls hi HP
      go_wp2_with (go_at_call 41; (with_reducible refine Calls.mono (N1' _ bW) ?_); rintro e w2 ⟨rfl, d2⟩)
      go_ret
      exact ⟨rfl, below_more bW d2⟩
     case pos =>
     have N1' := fun v b => N1 v b true (decide_eq_true hi)
     have N3' := fun v b => N3 v b r (by
      rw [Bool.eq_iff_iff, decide_eq_true_eq, hr]
      exact ⟨fun e => ⟨hi, e, hls, hmm⟩, fun e => e.2.1⟩)
     clear hg i1 i1' i3 i3' i4 i4' i5 i5' hr hil hol hn HH N1 N3 hmm hk0 hls hi HP
     go_wp2_with (first
      | (go_at_call 41; (with_reducible refine Calls.mono (N1' _ bW) ?_); rintro e w2 ⟨rfl, d2⟩; obtain ⟨q0, q1, q2, q3, r0, r1, r2, r3⟩ := CB.out _ (below_more bw d2); have bW2 := below_more bW d2)
      | (go_at_call 41; (with_reducible refine Calls.mono (N3' _ bW2) ?_); rintro e w3 ⟨rfl, d3⟩))
     go_ret
     exact ⟨rfl, below_more bW2 d3⟩
end
end Go.Proofs.YtaeladkcmpdkhaaGreatDoor
