/-
  Texts of mine in build order. No conditions of their own.
-/
import Derived.Test.YtaeladkcmpdkhaaGreatDoorPack29
import Derived.Test.YtaeladkcmpdkhaaGreatDoorPack32
set_option maxHeartbeats 32000000
namespace Go.Proofs.YtaeladkcmpdkhaaGreatDoor
section
open Go.RowKit Go.Lib
theorem ref_tnamesEq {w : World} {a b : Option Addr} {n c d : Nat} {xs : List ByteArray} (h1 : IsS w a n xs) (h2 : IsS w b n xs) (hn : n ≤ 100000) :
  Calls Tryz.prog 41 #[.slice a n c, .slice b n d] w fun e w' => e = .returned (.bool true) ∧ Below w.heap.size w w' := by
 have HH : Hid (IsS w a n xs ∧ IsS w b n xs ∧ n ≤ 100000) := ⟨h1, h2, hn⟩
 clear h1 h2 hn
 go_enter Tryz.func41, Tryz.ntmps41
 go_wp2
 go_loopg [5] n (fun g s5 v => ∃ t : Nat, s5 = .int .i64 t ∧ t + g = n ∧ Below w.heap.size w v)
 case atStart => exact ⟨0, rfl, by omega, Below.refl _ _⟩
 case round =>
  obtain ⟨t, rfl, hg, bw⟩ := hrel
  obtain ⟨h1, h2, hn⟩ := HH.out
  rcases Nat.lt_or_ge t n with ht | ht
  ·have p1 : (t : Int) < n := by omega
   obtain ⟨g1, o1, rfl, c1⟩ := (h1.below bw).2.resolve_left (by omega)
   obtain ⟨g2, o2, rfl, c2⟩ := (h2.below bw).2.resolve_left (by omega)
   obtain ⟨x, hx⟩ : ∃ x, xs[t]? = some x := ⟨_, List.getElem?_eq_getElem (by have := h1.1; omega)⟩
   have k1 := c1 t x hx
   have k2 := c2 t x hx
   have HW : Hid (wrap64 ((t : Int) + 1) = (t : Int) + 1) := wrap_smalls (by omega) (by omega)
   have HN : Hid (t + 1 + (n - (t + 1)) = n ∧ n - (t + 1) < gk ∧ Below w.heap.size w wr) := ⟨by omega, by omega, bw⟩
   clear hg bw h1 h2 hn c1 c2 hx HH
   have wT := HW.out
   go_wp2
   go_quiet (fail)
   obtain ⟨j2, j3, j4⟩ := HN.out
   go_wp2
   go_roundg (n - (t + 1))
   case measure => exact j3
   case rel => exact ⟨t + 1, by first | rfl | (rw [wT]; rfl), j2, below_drewN j4 _⟩
  ·have p1 : ¬ (t : Int) < n := by omega
   obtain rfl : t = n := by omega
   clear hg h1 h2 hn HH
   go_wp2
   go_ret
   exact ⟨rfl, bw⟩
theorem ref_tnodeEq {w : World} {k a b x : Int} {nm : ByteArray} {ng : Bool} {ua va ua' va' : Option Addr} {n m uc vc n' m' uc' vc' : Nat} {xs ys : List Int} (h : IsWords w (.slice ua n uc) xs) (g : IsWords w (.slice va m vc) ys) (h' : IsWords w (.slice ua' n' uc') xs) (g' : IsWords w (.slice va' m' vc') ys) :
  Calls Tryz.prog 40 #[.agg #[.int .i64 k, .int .i64 a, .int .i64 b, .int .i64 x, .string nm, .bool ng, .slice ua n uc, .slice va m vc], .agg #[.int .i64 k, .int .i64 a, .int .i64 b, .int .i64 x, .string nm, .bool ng, .slice ua' n' uc', .slice va' m' vc']] w fun e w' => e = .returned (.bool true) ∧ Below w.heap.size w w' := by
 obtain ⟨b1, b2, bV, hs⟩ := boxes2 w #[.int .i64 k, .int .i64 a, .int .i64 b, .int .i64 x, .string nm, .bool ng, .slice ua n uc, .slice va m vc] #[.int .i64 k, .int .i64 a, .int .i64 b, .int .i64 x, .string nm, .bool ng, .slice ua' n' uc', .slice va' m' vc'] 47 47
 have EQ := fun (v : World) (d : Below w.heap.size w v) => ref_requal (s := ng) (s' := ng) (h.below d) (g.below d) (h'.below d) (g'.below d) true (by simp)
 have e1 : (k == k) = true := by simp
 have e2 : (a == a) = true := by simp
 have e3 : (b == b) = true := by simp
 have e4 : (x == x) = true := by simp
 have HB : Hid (Below w.heap.size w _) := bV
 clear b1 b2 hs h g h' g'
 go_enter Tryz.func40, Tryz.ntmps40
 go_wp2_with (go_at_call 42; (with_reducible refine Calls.mono (EQ _ HB.out) ?_); rintro e w1 ⟨rfl, d1⟩)
 go_ret
 exact ⟨rfl, below_more HB.out d1⟩
theorem ref_tsame {w : World} {ia la oa a ia' la' oa' a' : Option Addr} {il ic ln lc ol oc n c ic' lc' oc' c' : Nat} {ins outs : List ByteArray} {ls : List (ByteArray × Int)} {ms ms' : List Mn}
  (h1 : IsS w ia il ins) (h1' : IsS w ia' il ins) (h2 : IsLt w la ln ls) (h2' : IsLt w la' ln ls) (h3 : IsS w oa ol outs) (h3' : IsS w oa' ol outs) (h4 : IsN w a n ms) (h4' : IsN w a' n ms') (h5 : NdR w ms) (h5' : NdR w ms') (he : ms.map (·.1) = ms'.map (·.1)) (hb : il ≤ 100000 ∧ ln ≤ 100000 ∧ ol ≤ 100000 ∧ n ≤ 100000) :
  Calls Tryz.prog 17 #[.agg #[.slice ia il ic, .slice la ln lc, .slice oa ol oc, .slice a n c], .agg #[.slice ia' il ic', .slice la' ln lc', .slice oa' ol oc', .slice a' n c']] w fun e w' => e = .returned (.bool true) ∧ Below w.heap.size w w' := by
 obtain ⟨b1, b2, bV, hs⟩ := boxes2 w #[.slice ia il ic, .slice la ln lc, .slice oa ol oc, .slice a n c] #[.slice ia' il ic', .slice la' ln lc', .slice oa' ol oc', .slice a' n c'] 26 26
 have HH : Hid (IsS w ia il ins ∧ IsS w ia' il ins ∧ IsLt w la ln ls ∧ IsLt w la' ln ls ∧ IsS w oa ol outs ∧ IsS w oa' ol outs ∧ IsN w a n ms ∧ IsN w a' n ms' ∧ NdR w ms ∧ NdR w ms' ∧ ms.map (·.1) = ms'.map (·.1) ∧ il ≤ 100000 ∧ ln ≤ 100000 ∧ ol ≤ 100000 ∧ n ≤ 100000) := ⟨h1, h1', h2, h2', h3, h3', h4, h4', h5, h5', he, hb.1, hb.2.1, hb.2.2.1, hb.2.2.2⟩
 have CB : Hid (∀ v, Below ((w.alloc (.cells #[.slice ia il ic, .slice la ln lc, .slice oa ol oc, .slice a n c] 26)).alloc (.cells #[.slice ia' il ic', .slice la' ln lc', .slice oa' ol oc', .slice a' n c'] 26)).heap.size ((w.alloc (.cells #[.slice ia il ic, .slice la ln lc, .slice oa ol oc, .slice a n c] 26)).alloc (.cells #[.slice ia' il ic', .slice la' ln lc', .slice oa' ol oc', .slice a' n c'] 26)) v →
   v.cell? ⟨w.heap.size, 0, none⟩ = some (.slice ia il ic) ∧ v.cell? ⟨w.heap.size, 1, none⟩ = some (.slice la ln lc) ∧ v.cell? ⟨w.heap.size, 2, none⟩ = some (.slice oa ol oc) ∧ v.cell? ⟨w.heap.size, 3, none⟩ = some (.slice a n c) ∧ v.cell? ⟨w.heap.size + 1, 0, none⟩ = some (.slice ia' il ic') ∧ v.cell? ⟨w.heap.size + 1, 1, none⟩ = some (.slice la' ln lc') ∧ v.cell? ⟨w.heap.size + 1, 2, none⟩ = some (.slice oa' ol oc') ∧ v.cell? ⟨w.heap.size + 1, 3, none⟩ = some (.slice a' n c')) := fun v d =>
  ⟨((b1.more d).cell 0).1, ((b1.more d).cell 1).1, ((b1.more d).cell 2).1, ((b1.more d).cell 3).1, ((b2.more d).cell 0).1, ((b2.more d).cell 1).1, ((b2.more d).cell 2).1, ((b2.more d).cell 3).1⟩
 have HV : Hid (Below w.heap.size w ((w.alloc (.cells #[.slice ia il ic, .slice la ln lc, .slice oa ol oc, .slice a n c] 26)).alloc (.cells #[.slice ia' il ic', .slice la' ln lc', .slice oa' ol oc', .slice a' n c'] 26)) ∧ w.heap.size + 1 < ((w.alloc (.cells #[.slice ia il ic, .slice la ln lc, .slice oa ol oc, .slice a n c] 26)).alloc (.cells #[.slice ia' il ic', .slice la' ln lc', .slice oa' ol oc', .slice a' n c'] 26)).heap.size) := ⟨bV, hs⟩
 clear h1 h1' h2 h2' h3 h3' h4 h4' h5 h5' he hb b1 b2 bV hs
 go_enter Tryz.func17, Tryz.ntmps17
 go_wp2
 generalize (w.alloc (.cells #[.slice ia il ic, .slice la ln lc, .slice oa ol oc, .slice a n c] 26)).alloc (.cells #[.slice ia' il ic', .slice la' ln lc', .slice oa' ol oc', .slice a' n c'] 26) = V at *
 go_loopg [5] ln (fun g s5 v => ∃ t : Nat, s5 = .int .i64 t ∧ t + g = ln ∧ Below V.heap.size V v)
 case atStart => exact ⟨0, rfl, by omega, Below.refl _ _⟩
 case round =>
  obtain ⟨t, rfl, hg, bw⟩ := hrel
  have hL1 := HH.out.2.2.1
  have hL2 := HH.out.2.2.2.1
  have hln := HH.out.2.2.2.2.2.2.2.2.2.2.2.2.1
  have bW := below_more HV.out.1 bw
  have hsz : w.heap.size + 1 < wr.heap.size := Nat.lt_of_lt_of_le HV.out.2 bw.size
  obtain ⟨x0, x1, x2, x3, y0, y1, y2, y3⟩ := CB.out wr bw
  rcases Nat.lt_or_ge t ln with ht | ht
  ·have p1 : (t : Int) < ln := by omega
   obtain ⟨g1, o1, rfl, c1⟩ := (hL1.below bW).2.resolve_left (by omega)
   obtain ⟨g2, o2, rfl, c2⟩ := (hL2.below bW).2.resolve_left (by omega)
   obtain ⟨⟨nm, rt⟩, hx⟩ : ∃ x, ls[t]? = some x := ⟨_, List.getElem?_eq_getElem (by have := hL1.1; omega)⟩
   obtain ⟨k1, k2⟩ := c1 t _ hx
   obtain ⟨k3, k4⟩ := c2 t _ hx
   dsimp only at k1 k2 k3 k4
   have HW : Hid (wrap64 ((t : Int) + 1) = (t : Int) + 1) := wrap_smalls (by omega) (by omega)
   have HN : Hid (t + 1 + (ln - (t + 1)) = ln ∧ ln - (t + 1) < gk ∧ Below V.heap.size V wr) := ⟨by omega, by omega, bw⟩
   clear hg bw hL1 hL2 hln c1 c2 hx HH bW
   have wT := HW.out
   go_wp2
   go_quiet (fail)
   obtain ⟨j2, j3, j4⟩ := HN.out
   go_wp2
   go_roundg (ln - (t + 1))
   case measure => exact j3
   case rel => exact ⟨t + 1, by first | rfl | (rw [wT]; rfl), j2, below_drewN j4 _⟩
  ·have p1 : ¬ (t : Int) < ln := by omega
   obtain rfl : t = ln := by omega
   clear hg hL1 hL2 hln bW
   have HP : Hid (Below V.heap.size V wr) := bw
   go_wp2
   go_loopg [6] n (fun g s6 v => ∃ k : Nat, s6 = .int .i64 k ∧ k + g = n ∧ Below V.heap.size V v)
   case atStart => exact ⟨0, rfl, by omega, HP.out⟩
   case round =>
    obtain ⟨k, rfl, hg, bw⟩ := hrel
    obtain ⟨i1, i1', -, -, i3, i3', i4, i4', i5, i5', he, hil, -, hol, hn⟩ := HH.out
    have bW := below_more HV.out.1 bw
    have hsz : w.heap.size + 1 < wr.heap.size := Nat.lt_of_lt_of_le HV.out.2 bw.size
    obtain ⟨x0, x1, x2, x3, y0, y1, y2, y3⟩ := CB.out wr bw
    rcases Nat.lt_or_ge k n with hk | hk
    ·have p1 : (k : Int) < n := by omega
     obtain ⟨m, hm⟩ : ∃ m, ms[k]? = some m := ⟨_, List.getElem?_eq_getElem (by have := i4.1; omega)⟩
     obtain ⟨m', hm'⟩ : ∃ m', ms'[k]? = some m' := ⟨_, List.getElem?_eq_getElem (by have := i4'.1; omega)⟩
     have hmm : m'.1 = m.1 := by
      have q := congrArg (fun l => l[k]?) he
      simp only [List.getElem?_map, hm, hm', Option.map_some] at q
      injection q with q
      exact q.symm
     obtain ⟨⟨ux, uy, hu, hu'⟩, ⟨vx, vy, hv, hv'⟩, -⟩ := i5 m (List.mem_of_getElem? hm)
     obtain ⟨⟨ux', uy', hx, hx'⟩, ⟨vx', vy', hy, hy'⟩, -⟩ := i5' m' (List.mem_of_getElem? hm')
     rw [hmm] at hx hx' hy hy'
     obtain ⟨gm, om, rfl, -⟩ := i4.node hm
     obtain ⟨gp, op, rfl, -⟩ := i4'.node hm'
     have CE := fun (v : World) (b : Below w.heap.size w v) => i4.at hm v b
     have CF := fun (v : World) (b : Below w.heap.size w v) => i4'.at hm' v b
     simp only [hu, hv] at CE
     simp only [hx, hy, hmm] at CF
     have NQ := fun (v : World) (b : Below w.heap.size w v) => ref_tnodeEq (k := m.1.kind) (a := m.1.a) (b := m.1.b) (x := m.1.exp) (nm := m.1.name) (ng := m.1.neg) (hu'.below b) (hv'.below b) (hx'.below b) (hy'.below b)
     have SO : ∀ v, Below wr.heap.size wr v → (v.cell? ⟨w.heap.size, 3, none⟩ = some (.slice (some ⟨gm, om, none⟩) n c) ∧ v.cell? ⟨w.heap.size + 1, 3, none⟩ = some (.slice (some ⟨gp, op, none⟩) n c') ∧ v.cell? ⟨gm, om + k * 8, none⟩ = some (.int .i64 m.1.kind) ∧ v.cell? ⟨gm, om + k * 8 + 1, none⟩ = some (.int .i64 m.1.a) ∧ v.cell? ⟨gm, om + k * 8 + 2, none⟩ = some (.int .i64 m.1.b) ∧ v.cell? ⟨gm, om + k * 8 + 3, none⟩ = some (.int .i64 m.1.exp) ∧ v.cell? ⟨gm, om + k * 8 + 4, none⟩ = some (.string m.1.name) ∧ v.cell? ⟨gm, om + k * 8 + 5, none⟩ = some (.bool m.1.neg) ∧ v.cell? ⟨gm, om + k * 8 + 6, none⟩ = some (.slice ux m.1.xs.length uy) ∧ v.cell? ⟨gm, om + k * 8 + 7, none⟩ = some (.slice vx m.1.ys.length vy) ∧ v.cell? ⟨gp, op + k * 8, none⟩ = some (.int .i64 m.1.kind) ∧ v.cell? ⟨gp, op + k * 8 + 1, none⟩ = some (.int .i64 m.1.a) ∧ v.cell? ⟨gp, op + k * 8 + 2, none⟩ = some (.int .i64 m.1.b) ∧ v.cell? ⟨gp, op + k * 8 + 3, none⟩ = some (.int .i64 m.1.exp) ∧ v.cell? ⟨gp, op + k * 8 + 4, none⟩ = some (.string m.1.name) ∧ v.cell? ⟨gp, op + k * 8 + 5, none⟩ = some (.bool m.1.neg) ∧ v.cell? ⟨gp, op + k * 8 + 6, none⟩ = some (.slice ux' m.1.xs.length uy') ∧ v.cell? ⟨gp, op + k * 8 + 7, none⟩ = some (.slice vx' m.1.ys.length vy')) := fun v b => by
      have c1 := CB.out v (below_more bw b)
      have c2 := CE v (below_more bW b)
      have c3 := CF v (below_more bW b)
      exact ⟨c1.2.2.2.1, c1.2.2.2.2.2.2.2, c2.1, c2.2.1, c2.2.2.1, c2.2.2.2.1, c2.2.2.2.2.1, c2.2.2.2.2.2.1, c2.2.2.2.2.2.2.1, c2.2.2.2.2.2.2.2, c3⟩
     have HW : Hid (wrap64 ((k : Int) + 1) = (k : Int) + 1) := wrap_smalls (by omega) (by omega)
     have HN : Hid (k + 1 + (n - (k + 1)) = n ∧ n - (k + 1) < gk) := ⟨by omega, by omega⟩
     clear hg i1 i1' i3 i3' i4 i4' i5 i5' he hil hol hn hm hm' hmm hu hv hx hy hu' hv' hx' hy' HH CB CE CF
     have bs := (Below.refl wr.heap.size wr).drew
     have b0 := Below.refl wr.heap.size wr
     go_wp2
     go_region_held3 (fun v => v.cell? ⟨w.heap.size, 3, none⟩ = some (.slice (some ⟨gm, om, none⟩) n c) ∧ v.cell? ⟨w.heap.size + 1, 3, none⟩ = some (.slice (some ⟨gp, op, none⟩) n c') ∧ v.cell? ⟨gm, om + k * 8, none⟩ = some (.int .i64 m.1.kind) ∧ v.cell? ⟨gm, om + k * 8 + 1, none⟩ = some (.int .i64 m.1.a) ∧ v.cell? ⟨gm, om + k * 8 + 2, none⟩ = some (.int .i64 m.1.b) ∧ v.cell? ⟨gm, om + k * 8 + 3, none⟩ = some (.int .i64 m.1.exp) ∧ v.cell? ⟨gm, om + k * 8 + 4, none⟩ = some (.string m.1.name) ∧ v.cell? ⟨gm, om + k * 8 + 5, none⟩ = some (.bool m.1.neg) ∧ v.cell? ⟨gm, om + k * 8 + 6, none⟩ = some (.slice ux m.1.xs.length uy) ∧ v.cell? ⟨gm, om + k * 8 + 7, none⟩ = some (.slice vx m.1.ys.length vy) ∧ v.cell? ⟨gp, op + k * 8, none⟩ = some (.int .i64 m.1.kind) ∧ v.cell? ⟨gp, op + k * 8 + 1, none⟩ = some (.int .i64 m.1.a) ∧ v.cell? ⟨gp, op + k * 8 + 2, none⟩ = some (.int .i64 m.1.b) ∧ v.cell? ⟨gp, op + k * 8 + 3, none⟩ = some (.int .i64 m.1.exp) ∧ v.cell? ⟨gp, op + k * 8 + 4, none⟩ = some (.string m.1.name) ∧ v.cell? ⟨gp, op + k * 8 + 5, none⟩ = some (.bool m.1.neg) ∧ v.cell? ⟨gp, op + k * 8 + 6, none⟩ = some (.slice ux' m.1.xs.length uy') ∧ v.cell? ⟨gp, op + k * 8 + 7, none⟩ = some (.slice vx' m.1.ys.length vy'))
      ((refine SO _ ?_; first | exact bs | exact bs.drew | exact b0))
      (first
      | (go_at_call 40; (with_reducible refine Calls.mono (NQ _ (below_more bW bs)) ?_); rintro e w2 ⟨rfl, d2⟩; replace bs := below_more bs d2))
     all_goals
      have wT := HW.out
      go_wp2
      obtain ⟨j2, j3⟩ := HN.out
      go_roundg (n - (k + 1))
      case measure => exact j3
      case rel => exact ⟨k + 1, by first | rfl | (rw [wT]; rfl), j2, by first | exact below_more bw bs | exact below_more bw bs.drew⟩
    ·have p1 : ¬ (k : Int) < n := by omega
     obtain rfl : k = n := by omega
     have N1 := fun (v : World) (b : Below w.heap.size w v) => ref_tnamesEq (c := ic) (d := ic') (i1.below b) (i1'.below b) hil
     have N3 := fun (v : World) (b : Below w.heap.size w v) => ref_tnamesEq (c := oc) (d := oc') (i3.below b) (i3'.below b) hol
     clear hg i1 i1' i3 i3' i4 i4' i5 i5' he hil hol hn HH
     go_wp2_with (first
      | (go_at_call 41; (with_reducible refine Calls.mono (N1 _ bW) ?_); rintro e w2 ⟨rfl, d2⟩; obtain ⟨q0, q1, q2, q3, r0, r1, r2, r3⟩ := CB.out _ (below_more bw d2); have bW2 := below_more bW d2)
      | (go_at_call 41; (with_reducible refine Calls.mono (N3 _ bW2) ?_); rintro e w3 ⟨rfl, d3⟩))
     go_ret
     exact ⟨rfl, below_more bW2 d3⟩
end
end Go.Proofs.YtaeladkcmpdkhaaGreatDoor
