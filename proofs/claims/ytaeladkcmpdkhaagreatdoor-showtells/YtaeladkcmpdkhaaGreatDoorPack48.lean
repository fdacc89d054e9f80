/-
  Texts of mine in build order. No conditions of their own.
-/
import Derived.Test.YtaeladkcmpdkhaaGreatDoorPack37
import Derived.Test.YtaeladkcmpdkhaaGreatDoorPack46
import Derived.Test.YtaeladkcmpdkhaaGreatDoorPack47
set_option maxHeartbeats 128000000
namespace Go.Proofs.YtaeladkcmpdkhaaGreatDoor
section
open Go.RowKit Go.Lib
theorem ref_sname_any {s : ByteArray} (r : Bool) (hr : nameB s = r) (w : World) :
  Calls Tryz.prog 21 #[.string s] w fun e w' => e = .returned (.bool r) ∧ w = w' := by
 by_cases hs : s.size ≤ 1000000
 ·exact ref_sname hs r hr w
 ·unfold nameB at hr
  obtain rfl : r = false := by rw [← hr, decide_eq_false (by omega)]; rfl
  have k1 : ¬ (s.size : Int) < 1 := by omega
  have k2 : 40 < (s.size : Int) := by omega
  clear hr hs
  go_enter Tryz.func21, Tryz.ntmps21
  go_wp2
  go_ret
  exact ⟨rfl, rfl⟩
theorem ref_tlist {w : World} {a : Option Addr} {n c : Nat} {xs : List ByteArray} (h : IsS w a n xs) (r : Bool) (hr : (decide (1 ≤ n) && decide (n ≤ 40) && xs.all nameB) = r) :
  Calls Tryz.prog 19 #[.slice a n c, .int .i64 1] w fun e w' => e = .returned (.bool r) ∧ Below w.heap.size w w' := by
 by_cases h1 : 1 ≤ n
 case neg =>
  have k1 : (n : Int) < 1 := by omega
  obtain rfl : r = false := by rw [← hr, decide_eq_false h1]; rfl
  clear hr h
  go_enter Tryz.func19, Tryz.ntmps19
  go_wp2
  go_ret
  exact ⟨rfl, Below.refl _ _⟩
 have k1 : ¬ (n : Int) < 1 := by omega
 by_cases h2 : n ≤ 40
 case neg =>
  have k2 : 40 < (n : Int) := by omega
  obtain rfl : r = false := by rw [← hr, decide_eq_false h2]; simp
  clear hr h h1 h2
  go_enter Tryz.func19, Tryz.ntmps19
  go_wp2
  go_ret
  exact ⟨rfl, Below.refl _ _⟩
 have k2 : ¬ 40 < (n : Int) := by omega
 rw [decide_eq_true h1, decide_eq_true h2, Bool.true_and, Bool.true_and] at hr
 have HH : Hid (xs.length = n ∧ IsS w a n xs ∧ n ≤ 40 ∧ xs.all nameB = r) := ⟨h.1, h, h2, hr⟩
 clear h hr h1 h2
 go_enter Tryz.func19, Tryz.ntmps19
 go_wp2
 go_loopg [5] n (fun g s5 v => ∃ t : Nat, s5 = .int .i64 t ∧ t + g = n ∧ (∀ j x, j < t → xs[j]? = some x → nameB x = true) ∧ Below w.heap.size w v)
 case atStart => exact ⟨0, rfl, by omega, fun j x hj => absurd hj (by omega), Below.refl _ _⟩
 case round =>
  obtain ⟨t, rfl, hg, hN, bw⟩ := hrel
  obtain ⟨hl, hc, hn, hr⟩ := HH.out
  rcases Nat.lt_or_ge t n with ht | ht
  ·have p1 : (t : Int) < n := by omega
   obtain ⟨x, hx⟩ : ∃ x, xs[t]? = some x := ⟨_, List.getElem?_eq_getElem (by omega)⟩
   obtain ⟨g1, o1, rfl, c1⟩ := (hc.below bw).2.resolve_left (by omega)
   have c1 := c1 t x hx
   cases hb : nameB x with
   | false =>
    have hrf : r = false := by
     rw [← hr, List.all_eq_false]
     exact ⟨x, List.mem_of_getElem? hx, by rw [hb]; simp⟩
    subst hrf
    have SN := fun v => ref_sname_any (s := x) false hb v
    have HB : Hid (Below w.heap.size w wr) := bw
    clear hg hN bw hl hc hn hr hx hb HH
    go_wp2_with (go_at_call 21; (with_reducible refine Calls.mono (SN _) ?_); rintro e w2 ⟨rfl, rfl⟩)
    go_ret
    exact ⟨rfl, HB.out⟩
   | true =>
    have SN := fun v => ref_sname_any (s := x) true hb v
    have WT : Hid (wrap64 ((t : Int) + 1) = (t : Int) + 1) := wrap_smalls (by omega) (by omega)
    have HN : Hid ((∀ j y, j < t + 1 → xs[j]? = some y → nameB y = true) ∧ t + 1 + (n - (t + 1)) = n ∧ n - (t + 1) < gk ∧ Below w.heap.size w wr) := ⟨fun j y hj hy => by
     rcases Nat.lt_or_ge j t with q | q
     ·exact hN j y q hy
     ·obtain rfl : j = t := by omega
      rw [hx] at hy
      injection hy with hy
      rw [← hy]; exact hb, by omega, by omega, bw⟩
    clear hg hN bw hl hc hn hr hx hb HH
    have wT := WT.out
    go_wp2_with (go_at_call 21; (with_reducible refine Calls.mono (SN _) ?_); rintro e w2 ⟨rfl, rfl⟩)
    obtain ⟨j1, j2, j3, j4⟩ := HN.out
    go_roundg (n - (t + 1))
    case measure => exact j3
    case rel => exact ⟨t + 1, by first | rfl | (rw [wT]; rfl), j2, j1, j4⟩
  ·have p1 : ¬ (t : Int) < n := by omega
   have e : t = n := by omega
   have hrt : r = true := by
    rw [← hr, List.all_eq_true]
    intro x hx
    obtain ⟨j, hj, he⟩ := List.getElem_of_mem hx
    exact hN j x (by omega) (by rw [List.getElem?_eq_getElem hj, he])
   subst hrt
   clear hg hN hn hr hl hc HH e ht
   go_wp2
   go_ret
   exact ⟨rfl, bw⟩
theorem single_begin {m0 : List Nw} (hf : ∀ m ∈ m0, fillR m = true) {f k : Nat} (hfk : f ≤ k) : sgB (m0.take (k + 1)) (k + 1) f = decide (beginF (m0.map Nw.nd) f (k + 1) k = f) := by
 have hk : ∀ n ∈ m0.map Nw.nd, 0 ≤ n.kind ∧ n.kind ≤ 7 := fun n hn => by
  obtain ⟨m, hm, rfl⟩ := List.mem_map.1 hn
  exact fill_kind (hf m hm)
 cases h : sgB (m0.take (k + 1)) (k + 1) f with
 | true => rw [decide_eq_true (begin_seg (single_seg hfk h) f (Nat.le_refl _) (k + 1) (Nat.le_refl _))]
 | false =>
  symm
  rw [decide_eq_false_iff_not]
  intro e
  rw [seg_single hf (seg_begin hk (k + 1) k f e (Nat.le_refl _))] at h
  exact absurd h (by simp)
theorem rgt_doc {ins outs : List ByteArray} {ls : List (ByteArray × Int)} {ms : List Nw} : rgtB ins outs ls ms = ((decide (1 ≤ ins.length) && decide (ins.length ≤ 40) && ins.all nameB) && (decide (1 ≤ outs.length) && decide (outs.length ≤ 40) && outs.all nameB) && decide (ls.length ≤ 40) && decide (ms.length ≤ 400) && grF ms ls 0 && lowB (ms.map Nw.nd)) := by
 unfold rgtB fewB
 rw [show decide (0 < ins.length) = decide (1 ≤ ins.length) from rfl, show decide (0 < outs.length) = decide (1 ≤ outs.length) from rfl]
 cases decide (ms.length ≤ 400) <;> cases decide (ins.length ≤ 40) <;> cases decide (ls.length ≤ 40) <;> cases decide (outs.length ≤ 40) <;> cases decide (1 ≤ ins.length) <;> cases decide (1 ≤ outs.length) <;> cases ins.all nameB <;> cases outs.all nameB <;> simp
end
section
open Go.RowKit Go.Lib
theorem grF_nil (ms : List Nw) (fr : Int) : grF ms [] fr = decide (fr = ms.length) := rfl
theorem grF_cons (ms : List Nw) (l : ByteArray × Int) (ls : List (ByteArray × Int)) (fr : Int) : grF ms (l :: ls) fr = (nameB l.1 && decide (fr ≤ l.2) && decide (l.2 < ms.length) && sgB (ms.take (l.2.toNat + 1)) (l.2.toNat + 1) fr.toNat && grF ms ls (l.2 + 1)) := rfl
theorem drop_at {α : Type} {l : List α} {t : Nat} {x : α} (h : l[t]? = some x) : l.drop t = x :: l.drop (t + 1) := by
 obtain ⟨ht, e⟩ := List.getElem?_eq_some_iff.1 h
 rw [List.drop_eq_getElem_cons ht, e]
set_option maxRecDepth 100000 in
theorem ref_tRight {w : World} {ia la oa a : Option Addr} {il ic ln lc ol oc n c : Nat} {ins outs : List ByteArray} {ls : List (ByteArray × Int)} {ms : List Mn} (h : PgR w ia la oa a il ln ol n c ins outs ls ms) (hS : ∀ m ∈ ms, m.1.xs.length ≤ 3000 ∧ m.1.ys.length ≤ 3000) (r : Bool) (hr : rgtB ins outs ls (ms.map (·.1)) = r) :
  Calls Tryz.prog 10 #[.agg #[.slice ia il ic, .slice la ln lc, .slice oa ol oc, .slice a n c]] w fun e w' => e = .returned (.bool r) ∧ Below w.heap.size w w' := by
 obtain ⟨B1, bV, hs⟩ := boxes1 w #[.slice ia il ic, .slice la ln lc, .slice oa ol oc, .slice a n c] 26
 have hlen : (ms.map (·.1)).length = n := by rw [List.length_map]; exact h.hall.1
 have hnd : (ms.map (·.1)).map Nw.nd = ms.map fun m => m.1.nd := by rw [List.map_map]; rfl
 rw [rgt_doc, hlen, h.hins.1, h.houts.1, h.hlets.1] at hr
 have CB : Hid (∀ v, Below (w.alloc (.cells #[.slice ia il ic, .slice la ln lc, .slice oa ol oc, .slice a n c] 26)).heap.size (w.alloc (.cells #[.slice ia il ic, .slice la ln lc, .slice oa ol oc, .slice a n c] 26)) v → v.cell? ⟨w.heap.size, 0, none⟩ = some (.slice ia il ic) ∧ v.cell? ⟨w.heap.size, 1, none⟩ = some (.slice la ln lc) ∧ v.cell? ⟨w.heap.size, 2, none⟩ = some (.slice oa ol oc) ∧ v.cell? ⟨w.heap.size, 3, none⟩ = some (.slice a n c)) := fun v b => ⟨((B1.more b).cell 0).1, ((B1.more b).cell 1).1, ((B1.more b).cell 2).1, ((B1.more b).cell 3).1⟩
 have HV : Hid (Below w.heap.size w (w.alloc (.cells #[.slice ia il ic, .slice la ln lc, .slice oa ol oc, .slice a n c] 26))) := bV
 have HP : Hid (PgR w ia la oa a il ln ol n c ins outs ls ms ∧ (∀ m ∈ ms, m.1.xs.length ≤ 3000 ∧ m.1.ys.length ≤ 3000) ∧ (ms.map (·.1)).length = n ∧ (ms.map (·.1)).map Nw.nd = ms.map fun m => m.1.nd) := ⟨h, hS, hlen, hnd⟩
 have L1 := fun (q : Bool) (hq : (decide (1 ≤ il) && decide (il ≤ 40) && ins.all nameB) = q) => ref_tlist (c := ic) (h.hins.below bV) q hq
 have L2 := fun (q : Bool) (hq : (decide (1 ≤ ol) && decide (ol ≤ 40) && outs.all nameB) = q) (v : World) (b : Below w.heap.size w v) => ref_tlist (c := oc) (h.houts.below b) q hq
 have x00 := (B1.cell 0).1
 clear h hS hlen hnd B1 bV hs
 have hv1 : (decide (1 ≤ il) && decide (il ≤ 40) && ins.all nameB) = true → il ≤ 40 := fun h => by simp only [Bool.and_eq_true, decide_eq_true_eq] at h; exact h.1.2
 have hv2 : (decide (1 ≤ ol) && decide (ol ≤ 40) && outs.all nameB) = true → ol ≤ 40 := fun h => by simp only [Bool.and_eq_true, decide_eq_true_eq] at h; exact h.1.2
 generalize (decide (1 ≤ il) && decide (il ≤ 40) && ins.all nameB) = v1 at *
 generalize (decide (1 ≤ ol) && decide (ol ≤ 40) && outs.all nameB) = v2 at *
 cases v1 with
 | false =>
  obtain rfl : r = false := by rw [← hr]; rfl
  clear hr hv1 hv2
  go_enter Tryz.func10, Tryz.ntmps10
  go_wp2_with (first
   | (go_at_call 19; (with_reducible refine Calls.mono (L1 false rfl) ?_); rintro e w1 ⟨rfl, d1⟩; have b1 := below_more HV.out d1; obtain ⟨x0, x1, x2, x3⟩ := CB.out w1 d1)
   | (go_at_call 19; (with_reducible refine Calls.mono (L2 v2 rfl _ b1) ?_); rintro e w2 ⟨rfl, d2⟩; have d12 := below_more d1 d2; have b2 := below_more b1 d2; obtain ⟨z0, z1, z2, z3⟩ := CB.out w2 d12))
  go_ret
  exact ⟨rfl, b2⟩
 | true =>
 cases v2 with
 | false =>
  obtain rfl : r = false := by rw [← hr]; rfl
  clear hr hv1 hv2
  go_enter Tryz.func10, Tryz.ntmps10
  go_wp2_with (first
   | (go_at_call 19; (with_reducible refine Calls.mono (L1 true rfl) ?_); rintro e w1 ⟨rfl, d1⟩; have b1 := below_more HV.out d1; obtain ⟨x0, x1, x2, x3⟩ := CB.out w1 d1)
   | (go_at_call 19; (with_reducible refine Calls.mono (L2 false rfl _ b1) ?_); rintro e w2 ⟨rfl, d2⟩; have d12 := below_more d1 d2; have b2 := below_more b1 d2; obtain ⟨z0, z1, z2, z3⟩ := CB.out w2 d12))
  go_ret
  exact ⟨rfl, b2⟩
 | true =>
 rw [Bool.true_and, Bool.true_and] at hr
 have HL : Hid (il ≤ 40 ∧ ol ≤ 40) := ⟨hv1 rfl, hv2 rfl⟩
 clear hv1 hv2
 by_cases hl40 : ln ≤ 40
 case neg =>
  obtain rfl : r = false := by rw [← hr, decide_eq_false hl40]; rfl
  have k1 : 40 < (ln : Int) := by omega
  clear hr hl40
  go_enter Tryz.func10, Tryz.ntmps10
  go_wp2_with (first
   | (go_at_call 19; (with_reducible refine Calls.mono (L1 true rfl) ?_); rintro e w1 ⟨rfl, d1⟩; have b1 := below_more HV.out d1; obtain ⟨x0, x1, x2, x3⟩ := CB.out w1 d1)
   | (go_at_call 19; (with_reducible refine Calls.mono (L2 true rfl _ b1) ?_); rintro e w2 ⟨rfl, d2⟩; have d12 := below_more d1 d2; have b2 := below_more b1 d2; obtain ⟨z0, z1, z2, z3⟩ := CB.out w2 d12))
  go_ret
  exact ⟨rfl, b2⟩
 have k1 : ¬ 40 < (ln : Int) := by omega
 by_cases hn4 : n ≤ 400
 case neg =>
  obtain rfl : r = false := by rw [← hr, decide_eq_false hn4]; simp
  have k2 : 400 < (n : Int) := by omega
  clear hr hl40 hn4
  go_enter Tryz.func10, Tryz.ntmps10
  go_wp2_with (first
   | (go_at_call 19; (with_reducible refine Calls.mono (L1 true rfl) ?_); rintro e w1 ⟨rfl, d1⟩; have b1 := below_more HV.out d1; obtain ⟨x0, x1, x2, x3⟩ := CB.out w1 d1)
   | (go_at_call 19; (with_reducible refine Calls.mono (L2 true rfl _ b1) ?_); rintro e w2 ⟨rfl, d2⟩; have d12 := below_more d1 d2; have b2 := below_more b1 d2; obtain ⟨z0, z1, z2, z3⟩ := CB.out w2 d12))
  go_ret
  exact ⟨rfl, b2⟩
 have k2 : ¬ 400 < (n : Int) := by omega
 rw [decide_eq_true hl40, decide_eq_true hn4, Bool.true_and, Bool.true_and] at hr
 have HR : Hid ((grF (ms.map (·.1)) ls 0 && lowB ((ms.map (·.1)).map Nw.nd)) = r ∧ ln ≤ 40 ∧ n ≤ 400) := ⟨hr, hl40, hn4⟩
 clear hr hl40 hn4
 go_enter Tryz.func10, Tryz.ntmps10
 go_wp2_with (first
   | (go_at_call 19; (with_reducible refine Calls.mono (L1 true rfl) ?_); rintro e w1 ⟨rfl, d1⟩; have b1 := below_more HV.out d1; obtain ⟨x0, x1, x2, x3⟩ := CB.out w1 d1)
   | (go_at_call 19; (with_reducible refine Calls.mono (L2 true rfl _ b1) ?_); rintro e w2 ⟨rfl, d2⟩; have d12 := below_more d1 d2; have b2 := below_more b1 d2; obtain ⟨z0, z1, z2, z3⟩ := CB.out w2 d12))
 clear L1 L2 x0 x1 x2 x3 z0 z1 z2 z3 d1 d2 x00 k1 k2 b1
 have HW : Hid (Below (w.alloc (.cells #[.slice ia il ic, .slice la ln lc, .slice oa ol oc, .slice a n c] 26)).heap.size (w.alloc (.cells #[.slice ia il ic, .slice la ln lc, .slice oa ol oc, .slice a n c] 26)) w2) := d12
 clear d12 b2
 generalize w.alloc (.cells #[.slice ia il ic, .slice la ln lc, .slice oa ol oc, .slice a n c] 26) = V at *
 go_loopg [5] n (fun g s5 v => ∃ t : Nat, s5 = .int .i64 t ∧ t + g = n ∧ (∀ j m, j < t → ms[j]? = some m → fillR m.1 = true) ∧ Below V.heap.size V v)
 case atStart => exact ⟨0, rfl, by omega, fun j x hj => absurd hj (by omega), HW.out⟩
 case round =>
  obtain ⟨t, rfl, hg, hN, bw⟩ := hrel
  clear HW
  obtain ⟨x0, x1, x2, x3⟩ := CB.out _ bw
  have bW := below_more HV.out bw
  rcases Nat.lt_or_ge t n with ht | ht
  ·have p1 : (t : Int) < n := by omega
   have hn4 := HR.out.2.2
   obtain ⟨m, hm⟩ : ∃ m, ms[t]? = some m := ⟨_, List.getElem?_eq_getElem (by have := HP.out.1.hall.1; omega)⟩
   have hmm := List.mem_of_getElem? hm
   obtain ⟨⟨ux, uy, hu, hw1⟩, ⟨vx, vy, hv, hw2⟩, hd1, hd2, -, -, hnm⟩ := HP.out.1.hnodes m hmm
   obtain ⟨hs1, hs2⟩ := HP.out.2.1 m hmm
   obtain ⟨gm, om, rfl, n0, n1, n2, n3, n4, n5, n6, n7⟩ := (HP.out.1.hall.below bW).node hm
   rw [hu] at n6
   rw [hv] at n7
   have FD := fun (q : Bool) (hq : fillR m.1 = q) => ref_tfields (k := m.1.kind) (a := m.1.a) (b := m.1.b) (x := m.1.exp) (nm := m.1.name) (ng := m.1.neg) (hw1.below bW) hd1 (hw2.below bW) hd2 hs1 hs2 hnm q hq
   cases hf : fillR m.1 with
   | false =>
    have hrf : r = false := by
     rw [← HR.out.1]
     cases hgr : grF (ms.map (·.1)) ls 0 with
     | false => rfl
     | true =>
      exfalso
      obtain ⟨m', h1, h2, -⟩ := gr_all (ms.map (·.1)) ls 0 (Int.le_refl _) hgr t (by omega) (by rw [HP.out.2.2.1]; exact ht)
      rw [List.getElem?_map, hm] at h1
      have : m.1 = m' := by simpa using h1
      rw [← this, hf] at h2
      exact absurd h2 (by simp)
    subst hrf
    have FD := FD false hf
    have HB : Hid (Below w.heap.size w wr) := bW
    clear hg hN bw bW hn4 hm hmm hu hv hw1 hw2 hd1 hd2 hnm hs1 hs2 hf HR ht
    generalize m.1.kind = K at *
    generalize m.1.a = A at *
    generalize m.1.b = B at *
    generalize m.1.exp = X at *
    generalize m.1.name = Y at *
    generalize m.1.neg = G at *
    generalize m.1.xs.length = lx at *
    generalize m.1.ys.length = ly at *
    go_wp2_with (go_at_call 20; (with_reducible refine Calls.mono FD ?_); rintro e w3 ⟨rfl, d3⟩)
    go_ret
    exact ⟨rfl, below_more HB.out d3⟩
   | true =>
    have FD := FD true hf
    have WT : Hid (wrap64 ((t : Int) + 1) = (t : Int) + 1) := wrap_smalls (by omega) (by omega)
    have HN : Hid ((∀ j m, j < t + 1 → ms[j]? = some m → fillR m.1 = true) ∧ t + 1 + (n - (t + 1)) = n ∧ n - (t + 1) < gk ∧ Below V.heap.size V wr) := ⟨fun j m' hj hm' => by
     rcases Nat.lt_or_ge j t with q | q
     ·exact hN j m' q hm'
     ·obtain rfl : j = t := by omega
      rw [hm] at hm'
      injection hm' with hm'
      rw [← hm']; exact hf, by omega, by omega, bw⟩
    clear hg hN bw bW hn4 hm hmm hu hv hw1 hw2 hd1 hd2 hnm hs1 hs2 hf ht
    generalize m.1.kind = K at *
    generalize m.1.a = A at *
    generalize m.1.b = B at *
    generalize m.1.exp = X at *
    generalize m.1.name = Y at *
    generalize m.1.neg = G at *
    generalize m.1.xs.length = lx at *
    generalize m.1.ys.length = ly at *
    have wT := WT.out
    go_wp2_with (go_at_call 20; (with_reducible refine Calls.mono FD ?_); rintro e w3 ⟨rfl, d3⟩)
    obtain ⟨j1, j2, j3, j4⟩ := HN.out
    go_roundg (n - (t + 1))
    case measure => exact j3
    case rel => exact ⟨t + 1, by first | rfl | (rw [wT]; rfl), j2, j1, below_more j4 d3⟩
  ·have p1 : ¬ (t : Int) < n := by omega
   have hF : ∀ m ∈ ms.map (·.1), fillR m = true := fun m hm => by
    obtain ⟨m', hm', rfl⟩ := List.mem_map.1 hm
    obtain ⟨j, hj, he⟩ := List.getElem_of_mem hm'
    exact hN j m' (by have := HP.out.1.hall.1; omega) (by rw [List.getElem?_eq_getElem hj, he])
   have HF : Hid ((∀ m ∈ ms.map (·.1), fillR m = true) ∧ Below V.heap.size V wr) := ⟨hF, bw⟩
   clear hg hN hF bw bW ht
   go_wp2
   clear x0 x1 x2 x3 p1
   go_loopg [7, 8] ln (fun g s7 s8 v => ∃ t f : Nat, s7 = .int .i64 f ∧ s8 = .int .i64 t ∧ t + g = ln ∧ f ≤ n ∧ grF (ms.map (·.1)) (ls.drop t) f = grF (ms.map (·.1)) ls 0 ∧ Below V.heap.size V v)
   case atStart => exact ⟨0, 0, rfl, rfl, by omega, Nat.zero_le _, rfl, HF.out.2⟩
   case round =>
    obtain ⟨t, f, rfl, rfl, hg, hfn, hgr, bw⟩ := hrel
    obtain ⟨x0, x1, x2, x3⟩ := CB.out _ bw
    have bW := below_more HV.out bw
    obtain ⟨hR, hl40, hn4⟩ := HR.out
    have WF := fun (q : Nat) (hq : q ≤ n) => (wrap_smalls (x := (q : Int) + 1) (by omega) (by omega))
    rcases Nat.lt_or_ge t ln with ht | ht
    ·have p1 : (t : Int) < ln := by omega
     obtain ⟨⟨nm, rt⟩, hx⟩ : ∃ x, ls[t]? = some x := ⟨_, List.getElem?_eq_getElem (by have := HP.out.1.hlets.1; omega)⟩
     obtain ⟨gl, ol', rfl, cl⟩ := (HP.out.1.hlets.below bW).2.resolve_left (by omega)
     obtain ⟨c1, c2⟩ := cl t _ hx
     dsimp only at c1 c2
     rw [drop_at hx, grF_cons] at hgr
     dsimp only at hgr
     rw [HP.out.2.2.1] at hgr
     have WT : Hid (wrap64 ((t : Int) + 1) = (t : Int) + 1) := wrap_smalls (by omega) (by omega)
     have HB : Hid (Below w.heap.size w wr) := bW
     cases hb : nameB nm with
     | false =>
      have hrf : r = false := by rw [← hR, ← hgr, hb]; simp
      subst hrf
      have SN := fun v => ref_sname_any (s := nm) false hb v
      clear hg hfn hgr bw bW hR hl40 hn4 WF cl hx hb HR ht
      go_wp2_with (go_at_call 21; (with_reducible refine Calls.mono (SN _) ?_); rintro e w3 ⟨rfl, rfl⟩)
      go_ret
      exact ⟨rfl, HB.out⟩
     | true =>
     have SN := fun v => ref_sname_any (s := nm) true hb v
     by_cases h1 : (f : Int) ≤ rt
     case neg =>
      have hrf : r = false := by rw [← hR, ← hgr, decide_eq_false h1]; simp
      subst hrf
      have k1 : rt < (f : Int) := by omega
      clear hg hfn hgr bw bW hR hl40 hn4 WF cl hx hb HR ht h1
      go_wp2_with (go_at_call 21; (with_reducible refine Calls.mono (SN _) ?_); rintro e w3 ⟨rfl, rfl⟩)
      go_ret
      exact ⟨rfl, HB.out⟩
     have k1 : ¬ rt < (f : Int) := by omega
     by_cases h2 : rt < (n : Int)
     case neg =>
      have hrf : r = false := by rw [← hR, ← hgr, decide_eq_false h2]; simp
      subst hrf
      have k2 : (n : Int) ≤ rt := by omega
      clear hg hfn hgr bw bW hR hl40 hn4 WF cl hx hb HR ht h1 h2
      go_wp2_with (go_at_call 21; (with_reducible refine Calls.mono (SN _) ?_); rintro e w3 ⟨rfl, rfl⟩)
      go_ret
      exact ⟨rfl, HB.out⟩
     have k2 : ¬ (n : Int) ≤ rt := by omega
     obtain ⟨k, rfl⟩ : ∃ k : Nat, rt = (k : Int) := ⟨rt.toNat, by omega⟩
     rw [hb, decide_eq_true h1, decide_eq_true h2, Int.toNat_natCast, Int.toNat_natCast, single_begin HF.out.1 (by omega), HP.out.2.2.2] at hgr
     have BG := ref_tbegin (c := c) (HP.out.1.hall) (by omega) (fun m hm => by
      obtain ⟨⟨x, y, e, -⟩, ⟨x', y', e', -⟩, -⟩ := HP.out.1.hnodes m hm
      exact ⟨⟨x, _, y, e⟩, ⟨x', _, y', e'⟩⟩) f (by omega) (k + 1) k h2 (Int.le_refl _) (by omega) wr bW
     generalize beginF (ms.map fun m => m.1.nd) f (k + 1) k = D at *
     by_cases hD : D = (f : Int)
     case neg =>
      have hrf : r = false := by rw [← hR, ← hgr, decide_eq_false hD]; simp
      subst hrf
      have e1 : (D == (f : Int)) = false := by rw [beq_eq_false_iff_ne]; exact hD
      have e2 : (D != (f : Int)) = true := by rw [bne, e1]; rfl
      clear hg hfn hgr bw bW hR hl40 hn4 WF cl hx hb HR ht h1 h2 hD
      go_wp2_with (first
       | (go_at_call 21; (with_reducible refine Calls.mono (SN _) ?_); rintro e w3 ⟨rfl, rfl⟩)
       | (go_at_call 22; (with_reducible refine Calls.mono BG ?_); rintro e w4 ⟨rfl, d4⟩))
      go_ret
      exact ⟨rfl, below_more HB.out d4⟩
     subst hD
     rw [decide_eq_true rfl] at hgr
     simp only [Bool.true_and] at hgr
     have WK : Hid (wrap64 ((k : Int) + 1) = (k : Int) + 1) := WF k (by omega)
     have HN : Hid (t + 1 + (ln - (t + 1)) = ln ∧ ln - (t + 1) < gk ∧ k + 1 ≤ n ∧ grF (ms.map (·.1)) (ls.drop (t + 1)) ((k + 1 : Nat) : Int) = grF (ms.map (·.1)) ls 0 ∧ Below V.heap.size V wr) := ⟨by omega, by omega, by omega, hgr, bw⟩
     clear hg hfn hgr bw bW hR hl40 hn4 WF cl hx hb ht h1 h2
     have wT := WT.out
     have wK := WK.out
     go_wp2_with (first
      | (go_at_call 21; (with_reducible refine Calls.mono (SN _) ?_); rintro e w3 ⟨rfl, rfl⟩)
      | (go_at_call 22; (with_reducible refine Calls.mono BG ?_); rintro e w4 ⟨rfl, d4⟩))
     obtain ⟨j1, j2, j3, j4, j5⟩ := HN.out
     go_roundg (ln - (t + 1))
     case measure => exact j2
     case rel => exact ⟨t + 1, k + 1, by first | rfl | (rw [wK]; rfl), by first | rfl | (rw [wT]; rfl), j1, j3, j4, below_more j5 d4⟩
    ·have p1 : ¬ (t : Int) < ln := by omega
     have e : t = ln := by omega
     rw [List.drop_of_length_le (by have := HP.out.1.hlets.1; omega), grF_nil] at hgr
     rw [HP.out.2.2.1] at hgr
     by_cases hfn' : (f : Int) = (n : Int)
     case neg =>
      have hrf : r = false := by rw [← hR, ← hgr, decide_eq_false hfn']; rfl
      subst hrf
      have e1 : ((f : Int) == (n : Int)) = false := by rw [beq_eq_false_iff_ne]; exact hfn'
      have e2 : ((f : Int) != (n : Int)) = true := by rw [bne, e1]; rfl
      clear hg hfn hgr hR hl40 hn4 WF HR ht e hfn' bw
      go_wp2
      go_ret
      exact ⟨rfl, bW⟩
     rw [decide_eq_true hfn'] at hgr
     rw [← hgr, Bool.true_and] at hR
     have hB := (gr_behind hgr.symm).1
     rw [HP.out.2.2.2] at hB hR
     have LG := ref_tlong (c := c) (HP.out.1.hall.below bW) (by omega) hB (fun m hm => by
      obtain ⟨⟨x, y, e, -⟩, ⟨x', y', e', -⟩, -⟩ := HP.out.1.hnodes m hm
      exact ⟨⟨x, _, y, e⟩, ⟨x', _, y', e'⟩⟩) il ic ln lc ol oc ia la oa (!r) (by
       rw [← hR]
       have hlen' : (ms.map fun m => m.1.nd).length = n := by rw [List.length_map]; exact HP.out.1.hall.1
       have h12 := HL.out
       unfold lngB lowB
       rw [hlen', decide_eq_false (by omega : ¬ 400 < n), decide_eq_false (by omega : ¬ 40 < ln), decide_eq_false (by omega : ¬ 40 < il), decide_eq_false (by omega : ¬ 40 < ol)]
       simp)
     obtain rfl : f = n := by omega
     have HB : Hid (Below w.heap.size w wr) := bW
     clear hg hfn hgr hR hl40 hn4 WF HR ht e hfn' bw bW hB
     go_wp2_with (go_at_call 23; (with_reducible refine Calls.mono LG ?_); rintro e w5 ⟨rfl, d5⟩)
     go_ret
     exact ⟨by simp, below_more HB.out d5⟩
end
section
open Go.RowKit Go.Lib
theorem letB_text : (⟨#[108, 101, 116, 32]⟩ : ByteArray) = letB ++ ⟨#[32]⟩ := rfl
theorem inB_text : (⟨#[105, 110, 32]⟩ : ByteArray) = inB ++ ⟨#[32]⟩ := rfl
theorem outB_text : (⟨#[111, 117, 116, 32]⟩ : ByteArray) = outB ++ ⟨#[32]⟩ := rfl
theorem ref_sprint_no {w : World} {ia la oa a : Option Addr} {il ic ln lc ol oc n c : Nat} {ins outs : List ByteArray} {ls : List (ByteArray × Int)} {ms : List Mn} (h : PgR w ia la oa a il ln ol n c ins outs ls ms) (hS : ∀ m ∈ ms, m.1.xs.length ≤ 3000 ∧ m.1.ys.length ≤ 3000) (hr : rgtB ins outs ls (ms.map (·.1)) = false) :
  Calls Tryz.prog 13 #[.agg #[.slice ia il ic, .slice la ln lc, .slice oa ol oc, .slice a n c]] w (AnsB w ⟨#[]⟩) := by
 obtain ⟨B1, bV, -⟩ := boxes1 w #[.slice ia il ic, .slice la ln lc, .slice oa ol oc, .slice a n c] 26
 have RG := ref_tRight (ic := ic) (lc := lc) (oc := oc) (h.below bV) hS false hr
 unfold AnsB
 have z0 := (B1.cell 0).1
 have z1 := (B1.cell 1).1
 have z2 := (B1.cell 2).1
 have z3 := (B1.cell 3).1
 clear h hS hr
 go_enter Tryz.func13, Tryz.ntmps13
 go_wp2_with (go_at_call 10; (with_reducible refine Calls.mono RG ?_); rintro e w1 ⟨rfl, d1⟩)
 go_ret
 exact ⟨rfl, below_more bV d1⟩
theorem ref_sprint {w : World} {ia la oa a : Option Addr} {il ic ln lc ol oc n c : Nat} {ins outs : List ByteArray} {ls : List (ByteArray × Int)} {ms : List Mn} (h : PgR w ia la oa a il ln ol n c ins outs ls ms) (hS : ∀ m ∈ ms, m.1.xs.length ≤ 3000 ∧ m.1.ys.length ≤ 3000) (hr : rgtB ins outs ls (ms.map (·.1)) = true) :
  Calls Tryz.prog 13 #[.agg #[.slice ia il ic, .slice la ln lc, .slice oa ol oc, .slice a n c]] w (AnsB w (progX ins outs ls ((ms.map (·.1)).map Nw.nd))) := by
 obtain ⟨hf, hi, ho, hl, hi0, ho0, n1, n2, n3, n4, -⟩ := rgt_parts hr
 have FM := h.fill hr
 have hI := h.hins
 have hO := h.houts
 have hL := h.hlets
 have hlI := hI.1
 have hlO := hO.1
 have hlL := hL.1
 obtain ⟨B1, bV, -⟩ := boxes1 w #[.slice ia il ic, .slice la ln lc, .slice oa ol oc, .slice a n c] 26
 have RG := ref_tRight (ic := ic) (lc := lc) (oc := oc) (h.below bV) hS true hr
 have sI : ∀ x ∈ ins, x.size ≤ 40 := fun x hx => by have := name_short (hi x hx); omega
 have sO : ∀ x ∈ outs, x.size ≤ 40 := fun x hx => by have := name_short (ho x hx); omega
 have NI := fun (v : World) (b : Below w.heap.size w v) => ref_snames (c := ic) (hI.below b) (by omega) sI
 have NO := fun (v : World) (b : Below w.heap.size w v) => ref_snames (c := oc) (hO.below b) (by omega) sO
 have zI : ((nmX ins).size : Int) ≤ 1680 := by have := nmX_size sI; omega
 have zO : ((nmX outs).size : Int) ≤ 1680 := by have := nmX_size sO; omega
 have zL := let_size hf hl n3 n1
 have each := hl.each
 have HN : Hid (∀ (x : ByteArray × Int), x ∈ ls → nameB x.1 = true ∧ ∃ i : Nat, x.2 = (i : Int) ∧ (nodeX ((ms.map (·.1)).map Nw.nd) i).size ≤ 60000 ∧ ∀ v, Below w.heap.size w v → Calls Tryz.prog 11 #[.slice a n c, .int .i64 i] v (AnsB v (nodeX ((ms.map (·.1)).map Nw.nd) i))) := fun x hx => by
  obtain ⟨e1, c', i, e2, s⟩ := each x hx
  refine ⟨e1, i, e2, ?_, fun v hv => ref_node FM s v hv⟩
  have := nodeX_size hf s
  omega
 rw [progX_lines hi0 ho0]
 have HH : Hid (IsLt w la ln ls ∧ ls.length = ln ∧ ln ≤ 40 ∧ Below w.heap.size w (w.alloc (.cells #[.slice ia il ic, .slice la ln lc, .slice oa ol oc, .slice a n c] 26)) ∧ BoxC (w.alloc (.cells #[.slice ia il ic, .slice la ln lc, .slice oa ol oc, .slice a n c] 26)) w.heap.size #[.slice ia il ic, .slice la ln lc, .slice oa ol oc, .slice a n c] 26) := ⟨hL, hlL, by omega, bV, B1⟩
 have z0 := (B1.cell 0).1
 have z1 := (B1.cell 1).1
 have z2 := (B1.cell 2).1
 have z3 := (B1.cell 3).1
 have CB : Hid (∀ v, Below (w.alloc (.cells #[.slice ia il ic, .slice la ln lc, .slice oa ol oc, .slice a n c] 26)).heap.size (w.alloc (.cells #[.slice ia il ic, .slice la ln lc, .slice oa ol oc, .slice a n c] 26)) v → v.cell? ⟨w.heap.size, 0, none⟩ = some (.slice ia il ic) ∧ v.cell? ⟨w.heap.size, 1, none⟩ = some (.slice la ln lc) ∧ v.cell? ⟨w.heap.size, 2, none⟩ = some (.slice oa ol oc) ∧ v.cell? ⟨w.heap.size, 3, none⟩ = some (.slice a n c)) := fun v b => ⟨((B1.more b).cell 0).1, ((B1.more b).cell 1).1, ((B1.more b).cell 2).1, ((B1.more b).cell 3).1⟩
 generalize ((ms.map (·.1)).map Nw.nd) = NL at *
 have HZ : Hid (∀ t, ((letsX NL (ls.take t)).size : Int) ≤ 45000) := fun t => by have := letsX_part NL ls t; omega
 unfold AnsB at NI NO ⊢
 clear hf hi ho hl hi0 ho0 n1 n2 n3 n4 FM hI hO hL hlI hlO hlL sI sO zL each h hS hr B1
 go_enter Tryz.func13, Tryz.ntmps13
 go_wp2_with (first
  | (go_at_call 10; (with_reducible refine Calls.mono RG ?_); rintro e w1 ⟨rfl, d1⟩; obtain ⟨x0, x1, x2, x3⟩ := CB.out w1 d1)
  | (go_at_call 31; (with_reducible refine Calls.mono (NI _ (below_more bV d1)) ?_); rintro e w2 ⟨rfl, d2⟩))
 have dV := below_more d1 d2
 clear d1 d2 x0 x1 x2 x3 z0 z1 z2 z3 RG NI bV
 go_loopg [4, 5] ln (fun g s4 s5 v => ∃ (t : Nat) (y : ByteArray), s4 = .string y ∧ s5 = .int .i64 t ∧ t + g = ln ∧ y = lineX inB (nmX ins) ++ letsX NL (ls.take t) ∧ Below (w.alloc (.cells #[.slice ia il ic, .slice la ln lc, .slice oa ol oc, .slice a n c] 26)).heap.size (w.alloc (.cells #[.slice ia il ic, .slice la ln lc, .slice oa ol oc, .slice a n c] 26)) v)
 case atStart =>
  refine ⟨0, _, rfl, rfl, by omega, ?_, dV⟩
  unfold lineX
  rw [inB_text, show letsX NL (ls.take 0) = ⟨#[]⟩ from rfl]
  simp only [ByteArray.append_assoc]
  rw [show (⟨#[59, 10]⟩ : ByteArray) ++ ⟨#[]⟩ = ⟨#[59, 10]⟩ from rfl]
 case round =>
  obtain ⟨t, y, rfl, rfl, hg, hy, bw⟩ := hrel
  clear dV
  obtain ⟨hL, hlL, hl40, bV, B1⟩ := HH.out
  have hyz : (y.size : Int) ≤ 47000 := by
   have q := HZ.out t
   have e1 : inB.size = 2 := rfl
   rw [hy]
   unfold lineX
   simp only [ByteArray.size_append]
   have e2 : (⟨#[32]⟩ : ByteArray).size = 1 := rfl
   have e3 : (⟨#[59, 10]⟩ : ByteArray).size = 2 := rfl
   omega
  obtain ⟨z0, z1, z2, z3⟩ := CB.out wr bw
  rcases Nat.lt_or_ge t ln with ht | ht
  ·have p1 : (t : Int) < ln := by omega
   obtain ⟨x, hx⟩ : ∃ x, ls[t]? = some x := ⟨_, List.getElem?_eq_getElem (by omega)⟩
   obtain ⟨hn, i, hi, hsz, NC⟩ := HN.out x (List.mem_of_getElem? hx)
   have bW := below_more bV bw
   have LC : ∀ v, Below wr.heap.size wr v → ∃ g1 o1, la = some ⟨g1, o1, none⟩ ∧ v.cell? ⟨g1, o1 + t * 2, none⟩ = some (.string x.1) ∧ v.cell? ⟨g1, o1 + t * 2 + 1, none⟩ = some (.int .i64 x.2) := fun v b => by
    obtain ⟨g1, o1, e, k⟩ := (hL.below (below_more bW b)).2.resolve_left (by omega)
    exact ⟨g1, o1, e, (k t x hx).1, (k t x hx).2⟩
   obtain ⟨g1, o1, rfl, -, -⟩ := LC wr (Below.refl _ _)
   have LC2 : ∀ v, Below wr.heap.size wr v → v.cell? ⟨g1, o1 + t * 2, none⟩ = some (.string x.1) ∧ v.cell? ⟨g1, o1 + t * 2 + 1, none⟩ = some (.int .i64 (i : Int)) := fun v b => by
    obtain ⟨g', o', e, k1, k2⟩ := LC v b
    injection e with e
    injection e with e1 e2
    subst e1; subst e2
    rw [hi] at k2
    exact ⟨k1, k2⟩
   have SO : ∀ v, Below wr.heap.size wr v → v.cell? ⟨w.heap.size, 1, none⟩ = some (.slice (some ⟨g1, o1, none⟩) ln lc) ∧ v.cell? ⟨w.heap.size, 3, none⟩ = some (.slice a n c) ∧ v.cell? ⟨g1, o1 + t * 2, none⟩ = some (.string x.1) ∧ v.cell? ⟨g1, o1 + t * 2 + 1, none⟩ = some (.int .i64 (i : Int)) := fun v b => ⟨(CB.out v (below_more bw b)).2.1, (CB.out v (below_more bw b)).2.2.2, (LC2 v b).1, (LC2 v b).2⟩
   have st := letsX_take NL hx
   have eX : nodeX NL x.2.toNat = nodeX NL i := by rw [hi, Int.toNat_natCast]
   have hxz : (x.1.size : Int) ≤ 40 := by have := name_short hn; omega
   have HQ : Hid (t + 1 + (ln - (t + 1)) = ln ∧ ln - (t + 1) < gk ∧ y ++ letX NL x = lineX inB (nmX ins) ++ letsX NL (ls.take (t + 1)) ∧ letX NL x = lineX letB (x.1 ++ (⟨#[32, 61, 32]⟩ ++ nodeX NL i))) := ⟨by omega, by omega, by rw [st, hy, ByteArray.append_assoc], by unfold letX; rw [eX]⟩
   have WT : Hid (wrap64 ((t : Int) + 1) = (t : Int) + 1) := wrap_smalls (by omega) (by omega)
   have HW : Hid (Below w.heap.size w wr ∧ Below (w.alloc (.cells #[.slice ia il ic, .slice (some ⟨g1, o1, none⟩) ln lc, .slice oa ol oc, .slice a n c] 26)).heap.size (w.alloc (.cells #[.slice ia il ic, .slice (some ⟨g1, o1, none⟩) ln lc, .slice oa ol oc, .slice a n c] 26)) wr) := ⟨bW, bw⟩
   have NCs := fun v (b : Below wr.heap.size wr v) => NC v (below_more HW.out.1 b)
   have bs : Below wr.heap.size wr wr.drew := (Below.refl _ _).drew
   have hnz : ((nodeX NL i).size : Int) ≤ 60000 := by omega
   generalize nodeX NL i = X at *
   generalize x.1 = NM at *
   unfold AnsB at NCs
   have fz0 : (9223372036854775807 < y.size + 4) = False := eq_false (by omega)
   have fz1 : (9223372036854775807 < y.size + 4 + NM.size) = False := eq_false (by omega)
   have fz2 : (9223372036854775807 < y.size + 4 + NM.size + 3) = False := eq_false (by omega)
   have fz3 : (9223372036854775807 < y.size + 4 + NM.size + 3 + X.size) = False := eq_false (by omega)
   have fz4 : (9223372036854775807 < y.size + 4 + NM.size + 3 + X.size + 2) = False := eq_false (by omega)
   clear hg hy ht hx hn hi hsz NC LC LC2 st eX hL hlL hl40 bV B1 bW bw HH CB HN HZ z0 z2
   go_wp2
   go_region_held3 (fun v => v.cell? ⟨w.heap.size, 1, none⟩ = some (.slice (some ⟨g1, o1, none⟩) ln lc) ∧ v.cell? ⟨w.heap.size, 3, none⟩ = some (.slice a n c) ∧ v.cell? ⟨g1, o1 + t * 2, none⟩ = some (.string NM) ∧ v.cell? ⟨g1, o1 + t * 2 + 1, none⟩ = some (.int .i64 (i : Int))) (exact SO _ bs) (first
    | (go_at_call 11; (with_reducible refine Calls.mono (NCs _ bs) ?_); rintro e w3 ⟨rfl, d3⟩; replace bs := below_more bs d3))
   all_goals
    have wT := WT.out
    go_wp2
    obtain ⟨j1, j2, j3, j4⟩ := HQ.out
    go_roundg (ln - (t + 1))
    case measure => exact j2
    case rel =>
     refine ⟨t + 1, _, rfl, by first | rfl | (rw [wT]; rfl), j1, ?_, below_more HW.out.2 bs⟩
     rw [← j3, j4]
     unfold lineX
     rw [letB_text]
     simp only [ByteArray.append_assoc]
  ·have p1 : ¬ (t : Int) < ln := by omega
   have e : y = lineX inB (nmX ins) ++ letsX NL ls := by rw [hy, List.take_of_length_le (by omega)]
   have bW := below_more bV bw
   have HE : Hid (y = lineX inB (nmX ins) ++ letsX NL ls ∧ Below w.heap.size w wr) := ⟨e, bW⟩
   clear hg hy ht HH hL hlL hl40 bV B1 bw e CB HN HZ z0 z3
   go_wp2_with (go_at_call 31; (with_reducible refine Calls.mono (NO _ bW) ?_); rintro e w2 ⟨rfl, d2⟩)
   go_ret
   refine ⟨?_, below_more HE.out.2 d2⟩
   rw [← ByteArray.append_assoc, ← HE.out.1]
   unfold lineX
   rw [show outB ++ (⟨#[32]⟩ ++ (nmX outs ++ ⟨#[59, 10]⟩)) = (⟨#[111, 117, 116, 32]⟩ : ByteArray) ++ (nmX outs ++ ⟨#[59, 10]⟩) by rw [outB_text, ByteArray.append_assoc]]
   simp only [← ByteArray.append_assoc]
   rfl
end
section
open Go.RowKit Go.Lib
theorem show_Expr_low (k : Int) (hk : k < 0) {w : World} {ia la oa a : Option Addr} {il ic ln lc ol oc n c : Nat} :
  Calls Tryz.prog 14 #[.agg #[.slice ia il ic, .slice la ln lc, .slice oa ol oc, .slice a n c], .int .i64 k] w (AnsB w ⟨#[]⟩) := by
 obtain ⟨B1, bV, -⟩ := boxes1 w #[.slice ia il ic, .slice la ln lc, .slice oa ol oc, .slice a n c] 26
 unfold AnsB
 have z3 := (B1.cell 3).1
 go_enter Tryz.func14, Tryz.ntmps14
 go_wp2
 go_ret
 exact ⟨rfl, bV⟩
theorem show_Expr_high (k : Int) {w : World} {ia la oa a : Option Addr} {il ic ln lc ol oc n c : Nat} (hk : (n : Int) ≤ k) :
  Calls Tryz.prog 14 #[.agg #[.slice ia il ic, .slice la ln lc, .slice oa ol oc, .slice a n c], .int .i64 k] w (AnsB w ⟨#[]⟩) := by
 obtain ⟨B1, bV, -⟩ := boxes1 w #[.slice ia il ic, .slice la ln lc, .slice oa ol oc, .slice a n c] 26
 unfold AnsB
 have z3 := (B1.cell 3).1
 have p0 : ¬ k < 0 := by omega
 go_enter Tryz.func14, Tryz.ntmps14
 go_wp2
 go_ret
 exact ⟨rfl, bV⟩
theorem show_Expr_no {w : World} {ia la oa a : Option Addr} {il ic ln lc ol oc n c : Nat} {ins outs : List ByteArray} {ls : List (ByteArray × Int)} {ms : List Mn} (h : PgR w ia la oa a il ln ol n c ins outs ls ms) (k : Int) (h0 : 0 ≤ k) (h1 : k < n) (hr : rgtB ins outs ls (ms.map (·.1)) = false) :
  Calls Tryz.prog 14 #[.agg #[.slice ia il ic, .slice la ln lc, .slice oa ol oc, .slice a n c], .int .i64 k] w (AnsB w ⟨#[]⟩) := by
 obtain ⟨B1, bV, -⟩ := boxes1 w #[.slice ia il ic, .slice la ln lc, .slice oa ol oc, .slice a n c] 26
 have RG := tree_right (ic := ic) (lc := lc) (oc := oc) (h.below bV) false hr
 have p0 : ¬ k < 0 := by omega
 have p1 : ¬ (n : Int) ≤ k := by omega
 unfold AnsB
 have z0 := (B1.cell 0).1
 have z1 := (B1.cell 1).1
 have z2 := (B1.cell 2).1
 have z3 := (B1.cell 3).1
 clear h hr h0
 go_enter Tryz.func14, Tryz.ntmps14
 go_wp2_with (go_at_call 15; (with_reducible refine Calls.mono RG ?_); rintro e w1 ⟨rfl, d1⟩)
 go_ret
 exact ⟨rfl, below_more bV d1⟩
end
end Go.Proofs.YtaeladkcmpdkhaaGreatDoor
