/-
  Texts of mine in build order. No conditions of their own.
-/
import Derived.Deep.DeepCutAuto
import Derived.Test.YtaeladkcmpdkhaaGreatDoorPack13
import Derived.Test.YtaeladkcmpdkhaaGreatDoorPack44
set_option maxHeartbeats 16000000
namespace Go.Proofs.YtaeladkcmpdkhaaGreatDoor
section
open Go.RowKit Go.Lib
theorem ref_tlong {w : World} {a : Option Addr} {n c : Nat} {ms : List Mn} (h : IsN w a n ms) (hn : n ≤ 100000) (hB : Behind (ms.map fun m => m.1.nd)) (hV : ∀ m ∈ ms, (∃ x y z, m.2.1 = .slice x y z) ∧ ∃ x y z, m.2.2 = .slice x y z) (il ic tl tc ol oc : Nat) (ia ta oa : Option Addr) (r : Bool) (hr : lngB (ms.map fun m => m.1.nd) il tl ol = r) :
  Calls Tryz.prog 23 #[.agg #[.slice ia il ic, .slice ta tl tc, .slice oa ol oc, .slice a n c]] w fun e w' => e = .returned (.bool r) ∧ Below w.heap.size w w' := by
 obtain ⟨B1, bV, hs⟩ := boxes1 w #[.slice ia il ic, .slice ta tl tc, .slice oa ol oc, .slice a n c] 26
 have HT := ref_theights (c := c) (h.below bV) hn hB hV il ic tl tc ol oc ia ta oa rfl rfl rfl
 have z0 := (B1.cell 0).1
 have z1 := (B1.cell 1).1
 have z2 := (B1.cell 2).1
 have z3 := (B1.cell 3).1
 have hlen : (ms.map fun m => m.1.nd).length = n := by rw [List.length_map]; exact h.1
 unfold lngB at hr
 rw [hlen] at hr
 generalize (ms.map fun m => m.1.nd) = L at *
 clear h hB hV B1 hs hlen
 by_cases h1 : 400 < n
 ·have k1 : 400 < (n : Int) := by omega
  obtain rfl : r = true := by rw [← hr, decide_eq_true h1]; simp
  clear hr hn h1 HT
  go_enter Tryz.func23, Tryz.ntmps23
  go_wp2
  go_ret
  exact ⟨rfl, bV⟩
 have k1 : ¬ 400 < (n : Int) := by omega
 rw [decide_eq_false h1, Bool.false_or] at hr
 by_cases h2 : 40 < il
 ·have k2 : 40 < (il : Int) := by omega
  obtain rfl : r = true := by rw [← hr, decide_eq_true h2]; simp
  clear hr hn h1 h2 HT
  go_enter Tryz.func23, Tryz.ntmps23
  go_wp2
  go_ret
  exact ⟨rfl, bV⟩
 have k2 : ¬ 40 < (il : Int) := by omega
 rw [decide_eq_false h2, Bool.false_or] at hr
 by_cases h3 : 40 < tl
 ·have k3 : 40 < (tl : Int) := by omega
  obtain rfl : r = true := by rw [← hr, decide_eq_true h3]; simp
  clear hr hn h1 h2 h3 HT
  go_enter Tryz.func23, Tryz.ntmps23
  go_wp2
  go_ret
  exact ⟨rfl, bV⟩
 have k3 : ¬ 40 < (tl : Int) := by omega
 rw [decide_eq_false h3, Bool.false_or] at hr
 by_cases h4 : 40 < ol
 ·have k4 : 40 < (ol : Int) := by omega
  obtain rfl : r = true := by rw [← hr, decide_eq_true h4]; simp
  clear hr hn h1 h2 h3 h4 HT
  go_enter Tryz.func23, Tryz.ntmps23
  go_wp2
  go_ret
  exact ⟨rfl, bV⟩
 have k4 : ¬ 40 < (ol : Int) := by omega
 rw [decide_eq_false h4, Bool.false_or] at hr
 have HR : Hid (((List.range n).any fun k => decide (60 < tallI L k)) = r ∧ n ≤ 100000) := ⟨hr, hn⟩
 clear hr hn h1 h2 h3 h4
 go_enter Tryz.func23, Tryz.ntmps23
 go_wp2_with (go_at_call 48; (with_reducible refine Calls.mono HT ?_); rintro e w2 ⟨ha, hc, rfl, O⟩)
 obtain ⟨-, hI⟩ := O.ints
 have b2 := below_more bV O.below
 clear HT z0 z1 z2 z3
 go_loopg [4] n (fun g s4 v => ∃ t : Nat, s4 = .int .i64 t ∧ t + g = n ∧ (∀ j, j < t → ¬ 60 < tallI L j) ∧ w2 = v)
 case atStart => exact ⟨0, rfl, by omega, fun j hj => absurd hj (by omega), rfl⟩
 case round =>
  obtain ⟨t, rfl, hg, hN, rfl⟩ := hrel
  have hn := HR.out.2
  rcases Nat.lt_or_ge t n with ht | ht
  ·have p1 : (t : Int) < n := by omega
   obtain ⟨gb, rfl, hc2⟩ := hI.resolve_left (by omega)
   have cX := hc2 t _ (hts_get L ht)
   have hX : tallI L t = tallI L t := rfl
   by_cases h6 : 60 < tallI L t
   ·have hr : r = true := by
     rw [← HR.out.1, List.any_eq_true]
     exact ⟨t, List.mem_range.2 ht, by rw [decide_eq_true_eq]; exact h6⟩
    subst hr
    generalize tallI L t = X at *
    clear hg hN hn HR hI hc2 O hX
    go_wp2
    go_ret
    exact ⟨rfl, b2⟩
   ·have w1 : wrap64 ((t : Int) + 1) = (t : Int) + 1 := wrap_smalls (by omega) (by omega)
    have HN : Hid ((∀ j, j < t + 1 → ¬ 60 < tallI L j) ∧ t + gk = n ∧ t < n) := ⟨fun j hj => by
     rcases Nat.lt_or_ge j t with q | q
     ·exact hN j q
     ·obtain rfl : j = t := by omega
      exact h6, hg, ht⟩
    generalize tallI L t = X at *
    clear hg hN hn hI hc2 O hX
    go_wp2
    obtain ⟨j1, j2, j3⟩ := HN.out
    go_roundg (n - (t + 1))
    case measure => omega
    case rel => exact ⟨t + 1, by first | rfl | (rw [w1]; rfl), by omega, j1, rfl⟩
  ·have p1 : ¬ (t : Int) < n := by omega
   obtain rfl : t = n := by omega
   have hr : r = false := by
    rw [← HR.out.1, List.any_eq_false]
    intro k hk
    rw [decide_eq_true_eq]
    exact hN k (List.mem_range.1 hk)
   subst hr
   clear hg hN hn HR hI O
   go_wp2
   go_ret
   exact ⟨rfl, b2⟩
end
section
open Go.RowKit
theorem BoxC.new1 (v : World) (o : Obj) (cs : Array Value) (T : TypeId) : BoxC ((v.alloc o).alloc (.cells cs T)) (v.heap.size + 1) cs T := by
 have := BoxC.new (v.alloc o) cs T
 rwa [World.size_alloc] at this
end
section
open Go.RowKit Go.Lib
theorem wrap_near {x : Int} (h0 : -10000000 < x) (h1 : x < 10000000) : wrap64 x = x := by unfold wrap64; omega
theorem begin_range (l : List Nd) (s : Int) : ∀ (f : Nat) (i : Int), s - 1 ≤ beginF l s f i ∧ (beginF l s f i ≤ i ∨ beginF l s f i = s - 1) := by
 intro f
 induction f with
 | zero => intro i; exact ⟨Int.le_refl _, .inr rfl⟩
 | succ f ih =>
  intro i
  unfold beginF
  split
  ·exact ⟨Int.le_refl _, .inr rfl⟩
  ·rename_i his
   split
   ·exact ⟨Int.le_refl _, .inr rfl⟩
   ·rename_i n hn
    split
    ·exact ⟨by omega, .inl (Int.le_refl _)⟩
    ·split
     ·split
      ·exact ⟨Int.le_refl _, .inr rfl⟩
      ·rename_i ha
       have := ih n.a
       omega
     ·split
      ·exact ⟨Int.le_refl _, .inr rfl⟩
      ·rename_i hb
       split
       ·exact ⟨Int.le_refl _, .inr rfl⟩
       ·rename_i hc
        have h1 := ih n.b
        have h2 := ih n.a
        omega
theorem ref_tbegin {w : World} {a : Option Addr} {n c : Nat} {ms : List Mn} (h : IsN w a n ms) (hn : n ≤ 100000) (hV : ∀ m ∈ ms, (∃ x y z, m.2.1 = .slice x y z) ∧ ∃ x y z, m.2.2 = .slice x y z) (s : Nat) (hs : s ≤ 100000) :
  ∀ (f : Nat) (i : Int), i < n → i + 1 ≤ f → -1 ≤ i → ∀ v, Below w.heap.size w v → Calls Tryz.prog 22 #[.slice a n c, .int .i64 s, .int .i64 i] v fun e w' => e = .returned (.int .i64 (beginF (ms.map fun m => m.1.nd) s f i)) ∧ Below v.heap.size v w' := by
 have WS : Hid (wrap64 ((s : Int) - 1) = (s : Int) - 1) := wrap_near (by omega) (by omega)
 intro f
 induction f with
 | zero =>
  intro i hin hf hi v hb
  have k1 : i < (s : Int) := by omega
  clear h hn hV hs hin hf hi hb
  have wS := WS.out
  go_enter Tryz.func22, Tryz.ntmps22
  go_wp2
  go_ret
  exact ⟨by unfold beginF; first | rfl | (rw [wS]; rfl), Below.refl _ _⟩
 | succ f ih =>
  intro i hin hf hi v hb
  unfold beginF
  by_cases his : i < (s : Int)
  ·rw [if_pos his]
   clear h hn hV hs hin hf hi hb ih
   have wS := WS.out
   go_enter Tryz.func22, Tryz.ntmps22
   go_wp2
   go_ret
   exact ⟨by first | rfl | (rw [wS]; rfl), Below.refl _ _⟩
  rw [if_neg his]
  obtain ⟨I, rfl⟩ : ∃ I : Nat, i = (I : Int) := ⟨i.toNat, by omega⟩
  have hl := h.1
  obtain ⟨m, hm⟩ : ∃ m, ms[I]? = some m := ⟨_, List.getElem?_eq_getElem (by omega)⟩
  have hmd : (ms.map fun m => m.1.nd)[I]? = some m.1.nd := by rw [List.getElem?_map, hm]; rfl
  rw [Int.toNat_natCast, hmd]
  show Calls _ _ _ _ fun e w' => e = .returned (.int .i64 (if m.1.kind = 0 ∨ m.1.kind = 1 then (I : Int) else if m.1.kind = 6 ∨ m.1.kind = 7 then (if m.1.a ≠ (I : Int) - 1 then (s : Int) - 1 else beginF (ms.map fun m => m.1.nd) s f m.1.a) else if m.1.b ≠ (I : Int) - 1 then (s : Int) - 1 else if beginF (ms.map fun m => m.1.nd) s f m.1.b < s ∨ m.1.a ≠ beginF (ms.map fun m => m.1.nd) s f m.1.b - 1 then (s : Int) - 1 else beginF (ms.map fun m => m.1.nd) s f m.1.a)) ∧ Below v.heap.size v w'
  obtain ⟨⟨ua, un, uc, hu⟩, ⟨va, vn, vc, hv⟩⟩ := hV m (List.mem_of_getElem? hm)
  obtain ⟨g, o, rfl, c0, c1, c2, c3, c4, c5, c6, c7⟩ := (h.below hb).node hm
  rw [hu] at c6
  rw [hv] at c7
  have br := begin_range (ms.map fun m => m.1.nd) s f
  generalize m.1.kind = k at *
  generalize m.1.a = A at *
  generalize m.1.b = C at *
  generalize m.1.exp = X at *
  generalize m.1.name = Y at *
  generalize m.1.neg = G at *
  have k1 : (I : Int) < n := by omega
  have NB := BoxC.new v #[.int .i64 k, .int .i64 A, .int .i64 C, .int .i64 X, .string Y, .bool G, .slice ua un uc, .slice va vn vc] 47
  have b0V : Below v.heap.size v (v.alloc (.cells #[.int .i64 k, .int .i64 A, .int .i64 C, .int .i64 X, .string Y, .bool G, .slice ua un uc, .slice va vn vc] 47)) := (Below.refl _ v).alloc (Nat.le_refl _) _
  have bV := below_more hb b0V
  have z0 := (NB.cell 0).1
  have z1 := (NB.cell 1).1
  have z2 := (NB.cell 2).1
  have WI : Hid (wrap64 ((I : Int) - 1) = (I : Int) - 1) := wrap_near (by omega) (by omega)
  have hIf : I ≤ f := by omega
  by_cases k0 : k = 0
  ·subst k0
   rw [if_pos (.inl rfl)]
   clear ih h hV hm hmd hu hv hl br hs hn hin hf hi
   go_enter Tryz.func22, Tryz.ntmps22
   go_wp2
   go_ret
   exact ⟨rfl, b0V⟩
  by_cases k01 : k = 1
  ·subst k01
   rw [if_pos (.inr rfl)]
   clear ih h hV hm hmd hu hv hl br hs hn hin hf hi
   go_enter Tryz.func22, Tryz.ntmps22
   go_wp2
   go_ret
   exact ⟨rfl, b0V⟩
  rw [if_neg (by omega)]
  have g0 : (k == 0) = false := by rw [beq_eq_false_iff_ne]; exact k0
  have g1 : (k == 1) = false := by rw [beq_eq_false_iff_ne]; exact k01
  by_cases k67 : k = 6 ∨ k = 7
  ·rw [if_pos k67]
   by_cases hA : A ≠ (I : Int) - 1
   ·rw [if_pos hA]
    have e1 : (A == (I : Int) - 1) = false := by rw [beq_eq_false_iff_ne]; exact hA
    clear ih h hV hm hmd hu hv hl br hs hn hin hf hi
    rcases k67 with rfl | rfl
    all_goals
     have wS := WS.out
     have wI := WI.out
     go_enter Tryz.func22, Tryz.ntmps22
     go_wp2
     go_ret
     exact ⟨by first | rfl | (rw [wS]; rfl), b0V⟩
   ·rw [if_neg hA]
    obtain rfl : A = (I : Int) - 1 := Decidable.not_not.1 hA
    have CA := ih ((I : Int) - 1) (by omega) (by omega) (by omega)
    clear ih h hV hm hmd hu hv hl br hs hn hin hf hi hA
    rcases k67 with rfl | rfl
    all_goals
     have wI := WI.out
     go_enter Tryz.func22, Tryz.ntmps22
     go_wp2_with (go_at_call 22; (with_reducible refine Calls.mono (CA _ bV) ?_); rintro e w1 ⟨rfl, d1⟩)
     go_ret
     exact ⟨rfl, below_more b0V d1⟩
  rw [if_neg k67]
  have g6 : (k == 6) = false := by rw [beq_eq_false_iff_ne]; omega
  have g7 : (k == 7) = false := by rw [beq_eq_false_iff_ne]; omega
  by_cases hC : C ≠ (I : Int) - 1
  ·rw [if_pos hC]
   have e1 : (C == (I : Int) - 1) = false := by rw [beq_eq_false_iff_ne]; exact hC
   clear ih h hV hm hmd hu hv hl br hs hn hin hf hi k0 k01 k67
   have wS := WS.out
   have wI := WI.out
   go_enter Tryz.func22, Tryz.ntmps22
   go_wp2
   go_ret
   exact ⟨by first | rfl | (rw [wS]; rfl), b0V⟩
  rw [if_neg hC]
  obtain rfl : C = (I : Int) - 1 := Decidable.not_not.1 hC
  have CB := ih ((I : Int) - 1) (by omega) (by omega) (by omega)
  have hBr := br ((I : Int) - 1)
  have CA := fun (D : Int) (h1 : (s : Int) ≤ D) (h2 : D ≤ (I : Int) - 1) => ih (D - 1) (by omega) (by omega) (by omega)
  generalize beginF (ms.map fun m => m.1.nd) s f ((I : Int) - 1) = D at *
  by_cases hD : D < (s : Int)
  ·rw [if_pos (.inl hD)]
   clear ih h hV hm hmd hu hv hl br hs hn hin hf hi k0 k01 k67 CA hBr hC
   have wS := WS.out
   have wI := WI.out
   go_enter Tryz.func22, Tryz.ntmps22
   go_wp2_with (go_at_call 22; (with_reducible refine Calls.mono (CB _ bV) ?_); rintro e w1 ⟨rfl, d1⟩)
   go_ret
   exact ⟨by first | rfl | (rw [wS]; rfl), below_more b0V d1⟩
  have WD : Hid (wrap64 (D - 1) = D - 1) := wrap_near (by omega) (by omega)
  by_cases hA : A ≠ D - 1
  ·rw [if_pos (.inr hA)]
   have e1 : (A == D - 1) = false := by rw [beq_eq_false_iff_ne]; exact hA
   have e2 : (A != D - 1) = true := by rw [bne, e1]; rfl
   clear ih h hV hm hmd hu hv hl br hs hn hin hf hi k0 k01 k67 CA hBr hC
   have wS := WS.out
   have wI := WI.out
   have wD := WD.out
   go_enter Tryz.func22, Tryz.ntmps22
   go_wp2_with (go_at_call 22; (with_reducible refine Calls.mono (CB _ bV) ?_); rintro e w1 ⟨rfl, d1⟩; have y1 := ((NB.more d1).cell 1).1)
   go_ret
   exact ⟨by first | rfl | (rw [wS]; rfl), below_more b0V d1⟩
  ·rw [if_neg (by omega)]
   obtain rfl : A = D - 1 := Decidable.not_not.1 hA
   have CA := CA D (by omega) (by omega)
   clear ih h hV hm hmd hu hv hl br hs hn hin hf hi k0 k01 k67 hBr hC hA
   have wI := WI.out
   have wD := WD.out
   go_enter Tryz.func22, Tryz.ntmps22
   go_wp2_with (first
    | (go_at_call 22; (with_reducible refine Calls.mono (CB _ bV) ?_); rintro e w1 ⟨rfl, d1⟩; have y1 := ((NB.more d1).cell 1).1; have b1 := below_more bV d1)
    | (go_at_call 22; (with_reducible refine Calls.mono (CA _ b1) ?_); rintro e w2 ⟨rfl, d2⟩))
   go_ret
   exact ⟨rfl, below_more b0V (below_more d1 d2)⟩
end
end Go.Proofs.YtaeladkcmpdkhaaGreatDoor
