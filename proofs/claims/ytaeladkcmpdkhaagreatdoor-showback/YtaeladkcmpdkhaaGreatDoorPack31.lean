/-
  Texts of mine in build order. No conditions of their own.
-/
import Derived.Test.YtaeladkcmpdkhaaGreatDoorPack29
import Derived.Test.YtaeladkcmpdkhaaGreatDoorPack30
set_option maxHeartbeats 32000000
namespace Go.Proofs.YtaeladkcmpdkhaaGreatDoor
section
open Go.RowKit Go.Lib
theorem LibV.below {W w : World} (h : LibV W) (hb : Below W.heap.size W w) : LibV w := ⟨h.1.below hb, h.2.below hb⟩
end
section
open Go.ChangeShapes Go.WideShapes Go.ChangeAt Go.RowKit Go.Joins Go.Deep
def NdC (w : World) (ms : List Mn) : Prop := ∀ m ∈ ms, (∃ x y, m.2.1 = .slice x m.1.xs.length y ∧ IsWords w (.slice x m.1.xs.length y) m.1.xs) ∧ (∃ x y, m.2.2 = .slice x m.1.ys.length y ∧ IsWords w (.slice x m.1.ys.length y) m.1.ys) ∧ Wd m.1.xs ∧ Wd m.1.ys
structure PgC (w : World) (ia la oa a : Option Addr) (il ln ol n c : Nat) (ins outs : List ByteArray) (ls : List (ByteArray × Int)) (ms : List Mn) : Prop where
 hins : IsS w ia il ins
 hlets : IsLt w la ln ls
 houts : IsS w oa ol outs
 hall : IsN w a n ms
 hnodes : NdC w ms
 lsz : ∀ x ∈ ls, -9223372036854775808 ≤ x.2 ∧ x.2 < 9223372036854775808
 cap : n ≤ c
variable {H : Type} {enc : TypeId × Value → H} {W : World}
theorem wf_cell {a : Int} (h : (Lit.int .i64 a).wf = true) : -9223372036854775808 ≤ a ∧ a < 9223372036854775808 := by
 simp [Lit.wf, IntKind.min, IntKind.max, IntKind.signed, IntKind.bits] at h; omega
theorem lit_addr {w : World} {a : Addr} {v : Value} (h : w.cell? a = some v) : ∃ g o, a = ⟨g, o, none⟩ := by
 obtain ⟨g, o, s⟩ := a
 have := spot_none h
 exact ⟨g, o, by simpa using this⟩
theorem open_names {fuel : Nat} {v : Value} {y : DataW H × List MemPlace} (h : DataW.trod enc Tryz.prog W 0 (fun _ => true) true fuel 22 [v] = some y) :
  ∃ a n c xs, v = .slice a n c ∧ IsS W a n xs := by
 rcases open_strs Tryz.underlying22 Tryz.underlying9 (by kernel_rfl) h with ⟨hcs, -⟩ | ⟨a, len, cap, m, S, hcs, -, hl, -, hm, -, hc⟩
 ·exact ⟨none, 0, 0, [], by simpa using hcs, rfl, .inl rfl⟩
 ·refine ⟨some a, len, cap, (List.range len).map S, by simpa using hcs, by simp, ?_⟩
  rcases Nat.eq_zero_or_pos len with h0 | hp
  ·exact .inl h0
  ·have hlm : len ≤ m := by rw [hm]; split <;> omega
   obtain ⟨g, o, rfl⟩ := lit_addr (by have := (hc 0 (by omega)).1; simpa [Addr.add] using this)
   refine .inr ⟨g, o, rfl, fun j x hj => ?_⟩
   have hjl : j < len := by have := (List.getElem?_eq_some_iff.1 hj).1; simpa using this
   have e := (hc j (by omega)).1
   rw [add_lit] at e
   rw [e]
   have : S j = x := by simpa [hjl] using hj
   rw [this]
theorem open_lets {fuel : Nat} {v : Value} {y : DataW H × List MemPlace} (h : DataW.trod enc Tryz.prog W 0 (fun _ => true) true fuel 23 [v] = some y) :
  ∃ a n c xs, v = .slice a n c ∧ IsLt W a n xs ∧ ∀ x ∈ xs, -9223372036854775808 ≤ x.2 ∧ x.2 < 9223372036854775808 := by
 have hk : Tryz.prog.cellsOf 52 = 2 := by kernel_rfl
 rcases open_slice Tryz.underlying23 h with ⟨hcs, -⟩ | ⟨a, len, cap, m, n, D, Pl, hcs, -, hl, -, hm, -, hc⟩
 ·exact ⟨none, 0, 0, [], by simpa using hcs, ⟨rfl, .inl rfl⟩, fun x hx => absurd hx (by simp)⟩
 ·rw [hk] at hc
  have each : ∀ i, i < m → ∃ x : ByteArray × Int, W.cell? (a.add (i * 2)) = some (.string x.1) ∧ W.cell? (a.add (i * 2 + 1)) = some (.int .i64 x.2) ∧ -9223372036854775808 ≤ x.2 ∧ x.2 < 9223372036854775808 := fun i hi => by
   obtain ⟨cs, h1, h2⟩ := hc i hi
   obtain ⟨-, hlen, hcell⟩ := World.cells?_some h1
   match cs, hlen with
   | [c0, c1], _ =>
    obtain ⟨y0, y1, q, -, -, t0, t1⟩ := trod_struct2 Tryz.underlying52 h2
    obtain ⟨s, e0, -, -⟩ := DataW.trod_string Tryz.underlying9 t0
    obtain ⟨r, e1, -, wf⟩ := DataW.trod_int Tryz.underlying3 t1
    have k0 := hcell 0 (by omega)
    have k1 := hcell 1 (by omega)
    rw [add_add] at k0 k1
    have e0 : c0 = .string s := by simpa [show Tryz.prog.cellsOf 9 = 1 by kernel_rfl] using e0
    have e1 : c1 = .int .i64 r := by simpa [show Tryz.prog.cellsOf 3 = 1 by kernel_rfl] using e1
    exact ⟨(s, r), by rw [← e0]; simpa using k0, by rw [← e1]; simpa using k1, wf_cell wf⟩
  have : Inhabited (ByteArray × Int) := ⟨(⟨#[]⟩, 0)⟩
  obtain ⟨S, hS⟩ := choose_lt each
  have hlm : len ≤ m := by rw [hm]; split <;> omega
  refine ⟨some a, len, cap, (List.range len).map S, by simpa using hcs, ⟨by simp, ?_⟩, fun x hx => ?_⟩
  ·rcases Nat.eq_zero_or_pos len with h0 | hp
   ·exact .inl h0
   ·obtain ⟨g, o, rfl⟩ := lit_addr (by have := (hS 0 (by omega)).1; simpa [Addr.add] using this)
    refine .inr ⟨g, o, rfl, fun j x hj => ?_⟩
    have hjl : j < len := by have := (List.getElem?_eq_some_iff.1 hj).1; simpa using this
    have : S j = x := by simpa [hjl] using hj
    subst this
    obtain ⟨q1, q2, -⟩ := hS j (by omega)
    rw [add_lit] at q1 q2
    exact ⟨q1, by rw [Nat.add_assoc]; exact q2⟩
  ·obtain ⟨j, hj, rfl⟩ := List.mem_map.1 hx
   exact (hS j (by have := List.mem_range.1 hj; omega)).2.2
set_option maxRecDepth 100000 in
theorem open_node {fuel : Nat} {cs : List Value} {y : DataW H × List MemPlace} (h : DataW.trod enc Tryz.prog W 0 (fun _ => true) true fuel 47 cs = some y) :
  ∃ m : Mn, cs = encM m ∧ (∃ x y, m.2.1 = .slice x m.1.xs.length y ∧ IsWords W (.slice x m.1.xs.length y) m.1.xs) ∧ (∃ x y, m.2.2 = .slice x m.1.ys.length y ∧ IsWords W (.slice x m.1.ys.length y) m.1.ys) ∧ Wd m.1.xs ∧ Wd m.1.ys := by
 have k1 : Tryz.prog.cellsOf 3 = 1 := by kernel_rfl
 have k2 : Tryz.prog.cellsOf 9 = 1 := by kernel_rfl
 have k3 : Tryz.prog.cellsOf 45 = 3 := by kernel_rfl
 have k4 : Tryz.prog.cellsOf 47 = 8 := by kernel_rfl
 obtain ⟨xs, n, -, -, hl, hxs, hf⟩ := DataW.trod_struct Tryz.underlying47 h
 rw [k4] at hl
 match cs, hl with
 | [c0, c1, c2, c3, c4, c5, c6, c7], _ =>
 match xs, hxs with
 | [x0, x1, x2, x3, x4, x5], _ =>
 have f0 := hf 0 _ rfl
 have f1 := hf 1 _ rfl
 have f2 := hf 2 _ rfl
 have f3 := hf 3 _ rfl
 have f4 := hf 4 _ rfl
 have f5 := hf 5 _ rfl
 obtain ⟨a0, e0, -, -⟩ := DataW.trod_int Tryz.underlying3 f0
 obtain ⟨a1, e1, -, -⟩ := DataW.trod_int Tryz.underlying3 f1
 obtain ⟨a2, e2, -, -⟩ := DataW.trod_int Tryz.underlying3 f2
 obtain ⟨a3, e3, -, -⟩ := DataW.trod_int Tryz.underlying3 f3
 obtain ⟨a4, e4, -, -⟩ := DataW.trod_string Tryz.underlying9 f4
 obtain ⟨y0, y1, y2, q, -, -, t0, t1, t2⟩ := trod_struct3 Tryz.underlying45 f5
 obtain ⟨a5, e5, -⟩ := DataW.trod_bool Tryz.underlying4 t0
 have k5 : Tryz.prog.cellsOf 4 = 1 := by kernel_rfl
 have k6 : Tryz.prog.cellsOf 43 = 1 := by kernel_rfl
 simp only [k5, k6] at e5 t1 t2
 obtain ⟨ua, un, uc, zs, e6, w6⟩ := open_row (v := c6) t1
 obtain ⟨va, vn, vc, ys, e7, w7⟩ := open_row (v := c7) t2
 have u1 := came_words w6
 have u2 := came_words w7
 have l1 : (zs.take un).length = un := (came_reads w6).1.1
 have l2 : (ys.take vn).length = vn := (came_reads w7).1.1
 refine ⟨(⟨a0, a1, a2, a3, a4, a5, zs.take un, ys.take vn⟩, .slice ua un uc, .slice va vn vc), ?_, ⟨ua, uc, by rw [l1], by show IsWords W (.slice ua (zs.take un).length uc) (zs.take un); rw [l1]; exact u1⟩, ⟨va, vc, by rw [l2], by show IsWords W (.slice va (ys.take vn).length vc) (ys.take vn); rw [l2]; exact u2⟩, fun z hz => wf_u32 ((came_reads w6).2.2.2 z hz), fun z hz => wf_u32 ((came_reads w7).2.2.2 z hz)⟩
 have d0 : c0 = .int .i64 a0 := by simpa [k1] using e0
 have d1 : c1 = .int .i64 a1 := by simpa [k1] using e1
 have d2 : c2 = .int .i64 a2 := by simpa [k1] using e2
 have d3 : c3 = .int .i64 a3 := by simpa [k1] using e3
 have d4 : c4 = .string a4 := by simpa [k2] using e4
 have d5 : c5 = .bool a5 := by simpa [k3] using e5
 rw [d0, d1, d2, d3, d4, d5, e6, e7]; rfl
theorem open_nodes {fuel : Nat} {v : Value} {y : DataW H × List MemPlace} (h : DataW.trod enc Tryz.prog W 0 (fun _ => true) true fuel 24 [v] = some y) :
  ∃ a n c ms, v = .slice a n c ∧ IsN W a n ms ∧ NdC W ms ∧ n ≤ c := by
 have hk : Tryz.prog.cellsOf 47 = 8 := by kernel_rfl
 rcases open_slice Tryz.underlying24 h with ⟨hcs, -⟩ | ⟨a, len, cap, m, n, D, Pl, hcs, -, hl, -, hm, -, hc⟩
 ·exact ⟨none, 0, 0, [], by simpa using hcs, ⟨rfl, .inl rfl⟩, fun m hm => absurd hm (by simp), Nat.le_refl 0⟩
 ·rw [hk] at hc
  have each : ∀ i, i < m → ∃ x : Mn, (∀ j u, (encM x)[j]? = some u → W.cell? (a.add (i * 8 + j)) = some u) ∧ ((∃ p q, x.2.1 = .slice p x.1.xs.length q ∧ IsWords W (.slice p x.1.xs.length q) x.1.xs) ∧ (∃ p q, x.2.2 = .slice p x.1.ys.length q ∧ IsWords W (.slice p x.1.ys.length q) x.1.ys) ∧ Wd x.1.xs ∧ Wd x.1.ys) := fun i hi => by
   obtain ⟨cs, h1, h2⟩ := hc i hi
   obtain ⟨-, hlen, hcell⟩ := World.cells?_some h1
   obtain ⟨x, rfl, hx⟩ := open_node h2
   refine ⟨x, fun j u hj => ?_, hx⟩
   have hj8 : j < 8 := by have := (List.getElem?_eq_some_iff.1 hj).1; rwa [encM_length] at this
   rw [← add_add, hcell j hj8]; exact hj
  have : Inhabited Mn := ⟨(⟨0, 0, 0, 0, ⟨#[]⟩, false, [], []⟩, .nilIface, .nilIface)⟩
  obtain ⟨S, hS⟩ := choose_lt each
  have hlm : len ≤ m := by rw [hm]; split <;> omega
  refine ⟨some a, len, cap, (List.range len).map S, by simpa using hcs, ⟨by simp, ?_⟩, fun x hx => ?_, hl⟩
  ·rcases Nat.eq_zero_or_pos len with h0 | hp
   ·exact .inl h0
   ·obtain ⟨g, o, rfl⟩ := lit_addr (by have := (hS 0 (by omega)).1 0 _ rfl; simpa [Addr.add] using this)
    refine .inr ⟨g, o, rfl, fun j x hj k u hu => ?_⟩
    have hjl : j < len := by have := (List.getElem?_eq_some_iff.1 hj).1; simpa using this
    have : S j = x := by simpa [hjl] using hj
    subst this
    have q1 := (hS j (by omega)).1 k u hu
    rw [add_lit] at q1
    rw [Nat.add_assoc]; exact q1
  ·obtain ⟨j, hj, rfl⟩ := List.mem_map.1 hx
   exact (hS j (by have := List.mem_range.1 hj; omega)).2
end
section
open Go.RowKit Go.Lib
def fewN (m : Nw) : Bool := decide (m.xs.length ≤ 6) && decide (m.ys.length ≤ 6) && decide (m.name.size ≤ 60)
def fewQ (most n il ln ol : Nat) (ms : List Nw) : Bool := decide (n ≤ most) && decide (il ≤ 8) && decide (ln ≤ 8) && decide (ol ≤ 8) && ms.all fewN
theorem ref_few1 (w : World) (k : Nat) (s0 : Bool) (a0 b0 : Option Addr) (n0 c0 m0 d0 t : Nat) (h : BoxC w k #[.bool s0, .slice a0 n0 c0, .slice b0 m0 d0] 45) (r : Bool) (hr : decide (n0 ≤ t ∧ m0 ≤ t) = r) :
  Calls Tryz.prog 18 #[.slice (some ⟨k, 0, none⟩) 1 1, .int .i64 t] w fun e w' => e = .returned (.bool r) ∧ w = w' := by
 have x1 := (h.cell 1).1
 have x2 := (h.cell 2).1
 simp only [List.getElem?_toArray, List.getElem?_cons_succ, List.getElem?_cons_zero] at x1 x2
 have HR : Hid (decide (n0 ≤ t ∧ m0 ≤ t) = r) := hr
 clear h hr
 go_enter Tryz.func18, Tryz.ntmps18
 go_wp2
 go_loopg [5] 1 (fun g s5 v => ∃ i : Nat, s5 = .int .i64 i ∧ i + g = 1 ∧ w = v ∧ (1 ≤ i → n0 ≤ t ∧ m0 ≤ t))
 case atStart => exact ⟨0, rfl, rfl, rfl, by omega⟩
 case round =>
  obtain ⟨i, rfl, hi, rfl, q0⟩ := hrel
  rcases (by omega : i = 1 ∧ gk = 0 ∨ i = 0 ∧ gk = 1) with ⟨rfl, rfl⟩ | ⟨rfl, rfl⟩
  ·have HB : Hid (r = true) := by show r = true; rw [← HR.out]; exact decide_eq_true (q0 (by omega))
   clear q0 hi
   go_wp2
   go_ret
   exact ⟨by rw [HB.out]; rfl, rfl⟩
  ·by_cases hn : n0 ≤ t
   case neg =>
    have HB : Hid (r = false) := by show r = false; rw [← HR.out]; exact decide_eq_false (by omega)
    have hn' : (t : Int) < n0 := by omega
    clear hi q0 hn
    go_wp2
    go_ret
    exact ⟨by rw [HB.out]; rfl, rfl⟩
   case pos =>
    have hn' : ¬ (t : Int) < n0 := by omega
    by_cases hm : m0 ≤ t
    case neg =>
     have HB : Hid (r = false) := by show r = false; rw [← HR.out]; exact decide_eq_false (by omega)
     have hm' : (t : Int) < m0 := by omega
     clear hi q0 hn hm
     go_wp2
     go_ret
     exact ⟨by rw [HB.out]; rfl, rfl⟩
    case pos =>
     have hm' : ¬ (t : Int) < m0 := by omega
     have HN : Hid (n0 ≤ t ∧ m0 ≤ t) := ⟨hn, hm⟩
     clear hi hn hm q0
     go_wp2
     have h2 := HN.out
     go_roundg 0
     case measure => omega
     case rel => exact ⟨1, rfl, by omega, rfl, fun _ => h2⟩
set_option maxRecDepth 100000 in
theorem ref_tFew {w : World} {ia la oa a : Option Addr} {il ic ln lc ol oc n c : Nat} {ins outs : List ByteArray} {ls : List (ByteArray × Int)} {ms : List Mn} (h : PgC w ia la oa a il ln ol n c ins outs ls ms) (most : Nat) (hmost : most ≤ 400) (r : Bool) (hr : fewQ most n il ln ol (ms.map (·.1)) = r) :
  Calls Tryz.prog 9 #[.agg #[.slice ia il ic, .slice la ln lc, .slice oa ol oc, .slice a n c], .int .i64 most] w fun e w' => e = .returned (.bool r) ∧ Below w.heap.size w w' := by
 obtain ⟨B1, bV, hs⟩ := boxes1 w #[.slice ia il ic, .slice la ln lc, .slice oa ol oc, .slice a n c] 26
 have x0 := (B1.cell 0).1
 have x1 := (B1.cell 1).1
 have x2 := (B1.cell 2).1
 have x3 := (B1.cell 3).1
 unfold fewQ at hr
 by_cases h1 : n ≤ most
 case neg =>
  obtain rfl : r = false := by rw [← hr, decide_eq_false h1]; rfl
  have k1 : (most : Int) < n := by omega
  clear hr h B1 hs h1
  go_enter Tryz.func9, Tryz.ntmps9
  go_wp2
  go_ret
  exact ⟨rfl, bV⟩
 have k1 : ¬ (most : Int) < n := by omega
 by_cases h2 : il ≤ 8
 case neg =>
  obtain rfl : r = false := by rw [← hr, decide_eq_false h2]; simp
  have k2 : 8 < (il : Int) := by omega
  clear hr h B1 hs h1 h2
  go_enter Tryz.func9, Tryz.ntmps9
  go_wp2
  go_ret
  exact ⟨rfl, bV⟩
 have k2 : ¬ 8 < (il : Int) := by omega
 by_cases h3 : ln ≤ 8
 case neg =>
  obtain rfl : r = false := by rw [← hr, decide_eq_false h3]; simp
  have k3 : 8 < (ln : Int) := by omega
  clear hr h B1 hs h1 h2 h3
  go_enter Tryz.func9, Tryz.ntmps9
  go_wp2
  go_ret
  exact ⟨rfl, bV⟩
 have k3 : ¬ 8 < (ln : Int) := by omega
 by_cases h4 : ol ≤ 8
 case neg =>
  obtain rfl : r = false := by rw [← hr, decide_eq_false h4]; simp
  have k4 : 8 < (ol : Int) := by omega
  clear hr h B1 hs h1 h2 h3 h4
  go_enter Tryz.func9, Tryz.ntmps9
  go_wp2
  go_ret
  exact ⟨rfl, bV⟩
 have k4 : ¬ 8 < (ol : Int) := by omega
 rw [decide_eq_true h1, decide_eq_true h2, decide_eq_true h3, decide_eq_true h4, Bool.true_and, Bool.true_and, Bool.true_and, Bool.true_and] at hr
 have HH : Hid (PgC w ia la oa a il ln ol n c ins outs ls ms ∧ n ≤ 400 ∧ (ms.map (·.1)).all fewN = r ∧ Below w.heap.size w (w.alloc (.cells #[.slice ia il ic, .slice la ln lc, .slice oa ol oc, .slice a n c] 26))) := ⟨h, by omega, hr, bV⟩
 have CB : Hid (∀ v, Below (w.alloc (.cells #[.slice ia il ic, .slice la ln lc, .slice oa ol oc, .slice a n c] 26)).heap.size (w.alloc (.cells #[.slice ia il ic, .slice la ln lc, .slice oa ol oc, .slice a n c] 26)) v → v.cell? ⟨w.heap.size, 3, none⟩ = some (.slice a n c)) := fun v b => ((B1.more b).cell 3).1
 clear hr h h1 h2 h3 h4 B1 hs bV hmost
 go_enter Tryz.func9, Tryz.ntmps9
 go_wp2
 clear x0 x1 x2 x3 k1 k2 k3 k4
 generalize w.alloc (.cells #[.slice ia il ic, .slice la ln lc, .slice oa ol oc, .slice a n c] 26) = V at *
 go_loopg [5] n (fun g s5 v => ∃ t : Nat, s5 = .int .i64 t ∧ t + g = n ∧ (∀ j m, j < t → ms[j]? = some m → fewN m.1 = true) ∧ Below V.heap.size V v)
 case atStart => exact ⟨0, rfl, by omega, fun j x hj => absurd hj (by omega), Below.refl _ _⟩
 case round =>
  obtain ⟨t, rfl, hg, hN, bw⟩ := hrel
  obtain ⟨hP, hn, hr, hV⟩ := HH.out
  have bW := below_more hV bw
  have x3 := CB.out _ bw
  rcases Nat.lt_or_ge t n with ht | ht
  ·have p1 : (t : Int) < n := by omega
   obtain ⟨m, hm⟩ : ∃ m, ms[t]? = some m := ⟨_, List.getElem?_eq_getElem (by have := hP.hall.1; omega)⟩
   have hmm := List.mem_of_getElem? hm
   obtain ⟨⟨ux, uy, hu, -⟩, ⟨vx, vy, hv, -⟩, -⟩ := hP.hnodes m hmm
   obtain ⟨gm, om, rfl, n0, n1, n2, n3, n4, n5, n6, n7⟩ := (hP.hall.below bW).node hm
   rw [hu] at n6
   rw [hv] at n7
   have FW := fun (v : World) (q : Bool) (hq : decide (m.1.xs.length ≤ 6 ∧ m.1.ys.length ≤ 6) = q) => ref_few1 (v.alloc (.cells #[.bool m.1.neg, .slice ux m.1.xs.length uy, .slice vx m.1.ys.length vy] 45)) v.heap.size m.1.neg ux vx m.1.xs.length uy m.1.ys.length vy 6 (BoxC.new v _ _) q hq
   have q4 : (wr.alloc (.cells #[.bool m.1.neg, .slice ux m.1.xs.length uy, .slice vx m.1.ys.length vy] 45)).cell? ⟨gm, om + t * 8 + 4, none⟩ = some (.string m.1.name) := by
    rw [((Below.refl _ wr).alloc (Nat.le_refl _) _).cell (World.block_lt_of_cell? wr _ n4)]; exact n4
   have q3 : (wr.alloc (.cells #[.bool m.1.neg, .slice ux m.1.xs.length uy, .slice vx m.1.ys.length vy] 45)).cell? ⟨w.heap.size, 3, none⟩ = some (.slice (some ⟨gm, om, none⟩) n c) := CB.out _ (bw.alloc bw.size _)
   have hfew : fewN m.1 = (decide (m.1.xs.length ≤ 6 ∧ m.1.ys.length ≤ 6) && decide (m.1.name.size ≤ 60)) := by unfold fewN; rw [Bool.decide_and]
   have no : fewN m.1 = false → r = false := fun hf => by
    rw [← hr, List.all_eq_false]
    exact ⟨m.1, List.mem_map_of_mem hmm, by rw [hf]; simp⟩
   have yes : fewN m.1 = true → ∀ j m', j < t + 1 → ms[j]? = some m' → fewN m'.1 = true := fun hf j m' hj hm' => by
    rcases Nat.lt_or_ge j t with q | q
    ·exact hN j m' q hm'
    ·obtain rfl : j = t := by omega
     rw [hm] at hm'
     injection hm' with hm'
     rw [← hm']; exact hf
   have HB : Hid (Below w.heap.size w wr ∧ Below V.heap.size V wr ∧ t + 1 + (n - (t + 1)) = n ∧ n - (t + 1) < gk) := ⟨bW, bw, by omega, by omega⟩
   have WT : Hid (wrap64 ((t : Int) + 1) = (t : Int) + 1) := wrap_smalls (by omega) (by omega)
   clear hg hN hn hr hV bW bw hm hmm hu hv hP HH ht
   generalize m.1.xs.length = lx at *
   generalize m.1.ys.length = ly at *
   generalize m.1.name = Y at *
   generalize m.1.neg = G at *
   generalize m.1.kind = K at *
   generalize m.1.a = A at *
   generalize m.1.b = B at *
   generalize m.1.exp = X at *
   by_cases f1 : lx ≤ 6 ∧ ly ≤ 6
   case neg =>
    have hrf := no (by rw [hfew, decide_eq_false f1]; rfl)
    subst hrf
    have FW := fun v => FW v false (decide_eq_false f1)
    clear no yes hfew f1
    go_wp2_with (go_at_call 18; (with_reducible refine Calls.mono (FW _) ?_); rintro e w3 ⟨rfl, rfl⟩)
    go_ret
    exact ⟨rfl, HB.out.1.alloc HB.out.1.size _⟩
   have FW := fun v => FW v true (decide_eq_true f1)
   by_cases f2 : Y.size ≤ 60
   case neg =>
    have hrf := no (by rw [hfew, decide_eq_false f2]; simp)
    subst hrf
    have k60 : 60 < (Y.size : Int) := by omega
    clear no yes hfew f1 f2
    go_wp2_with (go_at_call 18; (with_reducible refine Calls.mono (FW _) ?_); rintro e w3 ⟨rfl, rfl⟩)
    go_ret
    exact ⟨rfl, HB.out.1.alloc HB.out.1.size _⟩
   have k60 : ¬ 60 < (Y.size : Int) := by omega
   have HY : Hid (∀ j m', j < t + 1 → ms[j]? = some m' → fewN m'.1 = true) := yes (by rw [hfew, decide_eq_true f1, decide_eq_true f2]; rfl)
   clear no yes hfew f1 f2
   have wT := WT.out
   go_wp2_with (go_at_call 18; (with_reducible refine Calls.mono (FW _) ?_); rintro e w3 ⟨rfl, rfl⟩)
   obtain ⟨-, j2, j3, j4⟩ := HB.out
   go_roundg (n - (t + 1))
   case measure => exact j4
   case rel => exact ⟨t + 1, by first | rfl | (rw [wT]; rfl), j3, HY.out, j2.alloc j2.size _⟩
  ·have p1 : ¬ (t : Int) < n := by omega
   have hrt : r = true := by
    rw [← hr, List.all_eq_true]
    intro x hx
    obtain ⟨m, hm, rfl⟩ := List.mem_map.1 hx
    obtain ⟨j, hj, he⟩ := List.getElem_of_mem hm
    exact hN j m (by have := hP.hall.1; omega) (by rw [List.getElem?_eq_getElem hj, he])
   subst hrt
   clear hg hN hn hr hV hP HH ht
   go_wp2
   go_ret
   exact ⟨rfl, bW⟩
theorem PgC.few {w : World} {ia la oa a : Option Addr} {il ln ol n c : Nat} {ins outs : List ByteArray} {ls : List (ByteArray × Int)} {ms : List Mn} (h : PgC w ia la oa a il ln ol n c ins outs ls ms) (hf : (ms.map (·.1)).all fewN = true) : PgR w ia la oa a il ln ol n c ins outs ls ms ∧ ∀ m ∈ ms, m.1.xs.length ≤ 3000 ∧ m.1.ys.length ≤ 3000 := by
 have each : ∀ m ∈ ms, m.1.xs.length ≤ 6 ∧ m.1.ys.length ≤ 6 ∧ m.1.name.size ≤ 60 := fun m hm => by
  have := List.all_eq_true.1 hf m.1 (List.mem_map_of_mem hm)
  unfold fewN at this
  simp only [Bool.and_eq_true, decide_eq_true_eq] at this
  exact ⟨this.1.1, this.1.2, this.2⟩
 refine ⟨⟨h.hins, h.hlets, h.houts, h.hall, fun m hm => ?_, h.lsz, h.cap⟩, fun m hm => ?_⟩
 ·obtain ⟨q1, q2, q3, q4⟩ := h.hnodes m hm
  obtain ⟨e1, e2, e3⟩ := each m hm
  exact ⟨q1, q2, q3, q4, by omega, by omega, by omega⟩
 ·obtain ⟨e1, e2, e3⟩ := each m hm
  exact ⟨by omega, by omega⟩
theorem PgC.below {w w' : World} {ia la oa a : Option Addr} {il ln ol n c : Nat} {ins outs : List ByteArray} {ls : List (ByteArray × Int)} {ms : List Mn} (h : PgC w ia la oa a il ln ol n c ins outs ls ms) (hb : Below w.heap.size w w') : PgC w' ia la oa a il ln ol n c ins outs ls ms :=
 ⟨h.hins.below hb, h.hlets.below hb, h.houts.below hb, h.hall.below hb, fun m hm => by
  obtain ⟨⟨x, y, e, h1⟩, ⟨x', y', e', h1'⟩, r⟩ := h.hnodes m hm
  exact ⟨⟨x, y, e, h1.below hb⟩, ⟨x', y', e', h1'.below hb⟩, r⟩, h.lsz, h.cap⟩
end
section
open Go.ChangeShapes Go.WideShapes Go.ChangeAt Go.RowKit Go.Joins Go.Deep
variable {H : Type} {enc : TypeId × Value → H} {W : World}
theorem open_room {fuel : Nat} {v : Value} {y : DataW H × List MemPlace} (h : DataW.trod enc Tryz.prog W 0 (fun _ => true) true fuel 22 [v] = some y) {a : Option Addr} {n c : Nat} (hv : v = .slice a n c) : n ≤ c := by
 rcases open_strs Tryz.underlying22 Tryz.underlying9 (by kernel_rfl) h with ⟨hcs, -⟩ | ⟨a', len, cap, m, S, hcs, -, hl, -, hm, -, hc⟩
 ·have e : v = .slice none 0 0 := by simpa using hcs
  rw [hv] at e
  injection e with e1 e2 e3
  omega
 ·have e : v = .slice (some a') len cap := by simpa using hcs
  rw [hv] at e
  injection e with e1 e2 e3
  omega
set_option maxRecDepth 100000 in
theorem open_ProgB {base : Nat} {v : Value} {d : DataW H} {p : List MemPlace} (hv : Value.okWide Tryz.prog W .any base 26 v) (h : DataW.Trod enc Tryz.prog W 0 (fun _ => true) true 26 v d p) :
  ∃ ia il ic la ln lc oa ol oc a n c ins outs ls ms, v = .agg #[.slice ia il ic, .slice la ln lc, .slice oa ol oc, .slice a n c] ∧ PgC W ia la oa a il ln ol n c ins outs ls ms ∧ il ≤ ic ∧ ol ≤ oc := by
 obtain ⟨c0, c1, c2, c3, y0, y1, y2, y3, m, rfl, -, -, h0, h1, h2, h3⟩ := open_agg4 Tryz.underlying26 (by kernel_rfl) (by kernel_rfl) hv h
 obtain ⟨ia, il, ic, ins, e0, w0⟩ := open_names h0
 obtain ⟨la, ln, lc, ls, e1, w1, z1⟩ := open_lets h1
 obtain ⟨oa, ol, oc, outs, e2, w2⟩ := open_names h2
 obtain ⟨a, n, c, ms, e3, w3, z3, hc⟩ := open_nodes h3
 exact ⟨ia, il, ic, la, ln, lc, oa, ol, oc, a, n, c, ins, outs, ls, ms, by rw [e0, e1, e2, e3], ⟨w0, w1, w2, w3, z3, z1, hc⟩, open_room h0 e0, open_room h2 e2⟩
end
end Go.Proofs.YtaeladkcmpdkhaaGreatDoor
