/-
  Texts of mine in build order. No conditions of their own.
-/
import Derived.Test.YtaeladkcmpdkhaaGreatDoorPack24
set_option maxHeartbeats 16000000
namespace Go.Proofs.YtaeladkcmpdkhaaGreatDoor
section
open Go.RowKit Go.Lib
structure PgR (w : World) (ia la oa a : Option Addr) (il ln ol n c : Nat) (ins outs : List ByteArray) (ls : List (ByteArray × Int)) (ms : List Mn) : Prop where
 hins : IsS w ia il ins
 hlets : IsLt w la ln ls
 houts : IsS w oa ol outs
 hall : IsN w a n ms
 hnodes : NdR w ms
 lsz : ∀ x ∈ ls, -9223372036854775808 ≤ x.2 ∧ x.2 < 9223372036854775808
 cap : n ≤ c
theorem PgR.below {w w' : World} {ia la oa a : Option Addr} {il ln ol n c : Nat} {ins outs : List ByteArray} {ls : List (ByteArray × Int)} {ms : List Mn} (h : PgR w ia la oa a il ln ol n c ins outs ls ms) (hb : Below w.heap.size w w') : PgR w' ia la oa a il ln ol n c ins outs ls ms :=
 ⟨h.hins.below hb, h.hlets.below hb, h.houts.below hb, h.hall.below hb, h.hnodes.below hb, h.lsz, h.cap⟩
def fewB (n i l o : Nat) : Bool := decide (n ≤ 400) && decide (i ≤ 40) && decide (l ≤ 40) && decide (o ≤ 40)
def lowB (l : List Nd) : Bool := !(List.range l.length).any fun k => decide (60 < tallI l k)
def rgtB (ins outs : List ByteArray) (ls : List (ByteArray × Int)) (ms : List Nw) : Bool :=
 fewB ms.length ins.length ls.length outs.length && decide (0 < ins.length) && decide (0 < outs.length) && ins.all nameB && outs.all nameB && grF ms ls 0 && lowB (ms.map Nw.nd)
theorem sg_step {ms : List Nw} {i : Nat} {lo lo' : List Int} (h : sgStep ms i lo = some lo') (hl : ∀ x ∈ lo, 0 ≤ x ∧ x < (i : Int)) : (∃ m, ms[i]? = some m ∧ fillR m = true ∧ ∀ p ∈ ptsI m.kind m.a m.b, 0 ≤ p ∧ p < (i : Int)) ∧ ∀ x ∈ lo', 0 ≤ x ∧ x < ((i + 1 : Nat) : Int) := by
 unfold sgStep at h
 cases hm : ms[i]? with
 | none => rw [hm] at h; exact absurd h (by simp)
 | some m =>
  rw [hm] at h
  dsimp only at h
  split at h
  ·rename_i hc
   injection h with h
   refine ⟨⟨m, rfl, hc.1, fun p hp => ?_⟩, fun x hx => ?_⟩
   ·rw [← hc.2.2] at hp
    exact hl p (List.mem_of_mem_drop hp)
   ·rw [← h] at hx
    rcases List.mem_append.1 hx with q | q
    ·have := hl x (List.mem_of_mem_take q)
     omega
    ·obtain rfl := List.mem_singleton.1 q
     omega
  ·exact absurd h (by simp)
theorem sg_all (ms : List Nw) (j : Nat) : ∀ (f t : Nat) (lo : List Int), sgF ms j f t lo = true → j - t < f → (∀ x ∈ lo, 0 ≤ x ∧ x < (t : Int)) → ∀ i, t ≤ i → i < j → ∃ m, ms[i]? = some m ∧ fillR m = true ∧ ∀ p ∈ ptsI m.kind m.a m.b, 0 ≤ p ∧ p < (i : Int) := by
 intro f
 induction f with
 | zero => intro t lo _ h; omega
 | succ f ih =>
  intro t lo h hf hl i hti hij
  unfold sgF at h
  rw [if_pos (by omega)] at h
  cases hs : sgStep ms t lo with
  | none => rw [hs] at h; exact absurd h (by simp)
  | some lo' =>
   rw [hs] at h
   dsimp only at h
   obtain ⟨h1, h2⟩ := sg_step hs hl
   rcases Nat.lt_or_ge t i with q | q
   ·exact ih (t + 1) lo' h (by omega) h2 i (by omega) hij
   ·obtain rfl : t = i := by omega
    exact h1
theorem gr_all (ms : List Nw) : ∀ (ls : List (ByteArray × Int)) (fr : Int), 0 ≤ fr → grF ms ls fr = true → ∀ i : Nat, fr ≤ i → i < ms.length → ∃ m, ms[i]? = some m ∧ fillR m = true ∧ ∀ p ∈ ptsI m.kind m.a m.b, 0 ≤ p ∧ p < (i : Int) := by
 intro ls
 induction ls with
 | nil =>
  intro fr h0 h i h1 h2
  unfold grF at h
  rw [decide_eq_true_eq] at h
  omega
 | cons l ls ih =>
  intro fr h0 h i h1 h2
  unfold grF at h
  simp only [Bool.and_eq_true, decide_eq_true_eq] at h
  obtain ⟨⟨⟨⟨-, h3⟩, h4⟩, h5⟩, h6⟩ := h
  by_cases q : (i : Int) ≤ l.2
  ·obtain ⟨m, m1, m2⟩ := sg_all (ms.take (l.2.toNat + 1)) (l.2.toNat + 1) _ fr.toNat [] h5 (by omega) (fun x hx => absurd hx (by simp)) i (by omega) (by omega)
   refine ⟨m, ?_, m2⟩
   rw [List.getElem?_take] at m1
   split at m1
   ·exact m1
   ·exact absurd m1 (by simp)
  ·exact ih (l.2 + 1) (by omega) h6 i (by omega) h2
theorem fill_kind {m : Nw} (h : fillR m = true) : 0 ≤ m.kind ∧ m.kind ≤ 7 := by
 unfold fillR at h
 by_cases k0 : m.kind = 0
 ·omega
 rw [if_neg k0] at h
 by_cases k1 : m.kind = 1
 ·omega
 rw [if_neg k1] at h
 by_cases k2 : m.kind = 2 ∨ m.kind = 3 ∨ m.kind = 4 ∨ m.kind = 5
 ·omega
 rw [if_neg k2] at h
 by_cases k6 : m.kind = 6
 ·omega
 rw [if_neg k6] at h
 by_cases k7 : m.kind = 7
 ·omega
 rw [if_neg k7] at h
 exact absurd h (by simp)
theorem gr_behind {ms : List Nw} {ls : List (ByteArray × Int)} (h : grF ms ls 0 = true) : Behind (ms.map Nw.nd) ∧ ∀ m ∈ ms, 0 ≤ m.kind ∧ m.kind ≤ 7 := by
 have ga := gr_all ms ls 0 (Int.le_refl _) h
 refine ⟨fun p n hn hk => ?_, fun m hm => ?_⟩
 ·rw [List.getElem?_map] at hn
  cases hm : ms[p]? with
  | none => rw [hm] at hn; exact absurd hn (by simp)
  | some m =>
   rw [hm] at hn
   have e : m.nd = n := by simpa using hn
   subst e
   obtain ⟨m', m1, m2, m3⟩ := ga p (by omega) (List.getElem?_eq_some_iff.1 hm).1
   rw [hm] at m1
   injection m1 with m1
   subst m1
   have hk' : 2 ≤ m.kind := hk
   have h7 := fill_kind m2
   unfold ptsI at m3
   rw [if_neg (by omega)] at m3
   by_cases k6 : m.kind = 6 ∨ m.kind = 7
   ·rw [if_pos k6] at m3
    have := m3 m.a (by simp)
    exact ⟨this.1, this.2, fun q => by have : m.kind ≤ 5 := q; omega⟩
   ·rw [if_neg k6] at m3
    have h1 := m3 m.a (by simp)
    have h2 := m3 m.b (by simp)
    exact ⟨h1.1, h1.2, fun _ => h2⟩
 ·obtain ⟨i, hi, he⟩ := List.getElem_of_mem hm
  obtain ⟨m', m1, m2, -⟩ := ga i (by omega) hi
  rw [List.getElem?_eq_getElem hi, he] at m1
  injection m1 with m1
  rw [m1]
  exact fill_kind m2
theorem tree_right {w : World} {ia la oa a : Option Addr} {il ic ln lc ol oc n c : Nat} {ins outs : List ByteArray} {ls : List (ByteArray × Int)} {ms : List Mn} (h : PgR w ia la oa a il ln ol n c ins outs ls ms) (r : Bool) (hr : rgtB ins outs ls (ms.map (·.1)) = r) :
  Calls Tryz.prog 15 #[.agg #[.slice ia il ic, .slice la ln lc, .slice oa ol oc, .slice a n c]] w fun e w' => e = .returned (.bool r) ∧ Below w.heap.size w w' := by
 obtain ⟨B1, bV, hs⟩ := boxes1 w #[.slice ia il ic, .slice la ln lc, .slice oa ol oc, .slice a n c] 26
 have hlen : (ms.map (·.1)).length = n := by rw [List.length_map]; exact h.hall.1
 have hnd : (ms.map (·.1)).map Nw.nd = ms.map fun m => m.1.nd := by rw [List.map_map]; rfl
 unfold rgtB at hr
 rw [hlen, h.hins.1, h.houts.1, h.hlets.1] at hr
 have CB := fun (v : World) (b : Below (w.alloc (.cells #[.slice ia il ic, .slice la ln lc, .slice oa ol oc, .slice a n c] 26)).heap.size (w.alloc (.cells #[.slice ia il ic, .slice la ln lc, .slice oa ol oc, .slice a n c] 26)) v) => (show v.cell? ⟨w.heap.size, 0, none⟩ = some (.slice ia il ic) ∧ v.cell? ⟨w.heap.size, 1, none⟩ = some (.slice la ln lc) ∧ v.cell? ⟨w.heap.size, 2, none⟩ = some (.slice oa ol oc) ∧ v.cell? ⟨w.heap.size, 3, none⟩ = some (.slice a n c) from ⟨((B1.more b).cell 0).1, ((B1.more b).cell 1).1, ((B1.more b).cell 2).1, ((B1.more b).cell 3).1⟩)
 have hV := h.below bV
 generalize hVV : w.alloc (.cells #[.slice ia il ic, .slice la ln lc, .slice oa ol oc, .slice a n c] 26) = V at *
 have FW0 := fun (q : Bool) (hq : fewB n il ln ol = q) (v : World) => tree_few il ic ln lc ol oc n c ia la oa a q hq v
 subst hVV
 cases hf : fewB n il ln ol with
 | false =>
  rw [hf] at hr
  simp only [Bool.false_and] at hr
  subst hr
  have FW := FW0 false hf
  clear h hV hlen hnd B1 FW0 hf
  go_enter Tryz.func15, Tryz.ntmps15
  go_wp2_with (first
   | (go_at_call 33; (with_reducible refine Calls.mono (FW _) ?_); rintro e w1 ⟨rfl, d1⟩; obtain ⟨y0, y1, y2, y3⟩ := CB _ d1))
  go_ret
  exact ⟨rfl, below_more bV d1⟩
 | true =>
  have FW := FW0 true hf
  have hb : n ≤ 400 ∧ il ≤ 40 ∧ ln ≤ 40 ∧ ol ≤ 40 := by
   unfold fewB at hf
   simp only [Bool.and_eq_true, decide_eq_true_eq] at hf
   exact ⟨hf.1.1.1, hf.1.1.2, hf.1.2, hf.2⟩
  rw [hf, Bool.true_and] at hr
  clear FW0 hf
  by_cases h1 : 0 < il
  ·have k1 : (0 : Int) < il := by omega
   rw [decide_eq_true h1, Bool.true_and] at hr
   by_cases h2 : 0 < ol
   ·have k2 : (0 : Int) < ol := by omega
    rw [decide_eq_true h2, Bool.true_and] at hr
    have N10 := fun (q : Bool) (hq : ins.all nameB = q) (v : World) (b : Below _ _ v) => tree_named (c := ic) (hV.hins.below b) (by omega) q hq
    have N20 := fun (q : Bool) (hq : outs.all nameB = q) (v : World) (b : Below _ _ v) => tree_named (c := oc) (hV.houts.below b) (by omega) q hq
    cases ha : ins.all nameB with
    | false =>
     rw [ha] at hr
     simp only [Bool.false_and] at hr
     subst hr
     have N1 := N10 false ha
     clear h hV hlen hnd B1 N10 N20 ha h1 h2 hb
     go_enter Tryz.func15, Tryz.ntmps15
     go_wp2_with (first
      | (go_at_call 33; (with_reducible refine Calls.mono (FW _) ?_); rintro e w1 ⟨rfl, d1⟩; obtain ⟨y0, y1, y2, y3⟩ := CB _ d1)
      | (go_at_call 34; (with_reducible refine Calls.mono (N1 _ d1) ?_); rintro e w2 ⟨rfl, d2⟩; have e2 := below_more d1 d2; obtain ⟨y0, y1, y2, y3⟩ := CB _ e2))
     go_ret
     exact ⟨rfl, below_more bV e2⟩
    | true =>
     rw [ha, Bool.true_and] at hr
     have N1 := N10 true ha
     cases hb2 : outs.all nameB with
     | false =>
      rw [hb2] at hr
      simp only [Bool.false_and] at hr
      subst hr
      have N2 := N20 false hb2
      clear h hV hlen hnd B1 N10 N20 ha hb2 h1 h2 hb
      go_enter Tryz.func15, Tryz.ntmps15
      go_wp2_with (first
       | (go_at_call 33; (with_reducible refine Calls.mono (FW _) ?_); rintro e w1 ⟨rfl, d1⟩; obtain ⟨y0, y1, y2, y3⟩ := CB _ d1)
       | (go_at_call 34; (with_reducible refine Calls.mono (N1 _ d1) ?_); rintro e w2 ⟨rfl, d2⟩; have e2 := below_more d1 d2; obtain ⟨y0, y1, y2, y3⟩ := CB _ e2)
       | (go_at_call 34; (with_reducible refine Calls.mono (N2 _ e2) ?_); rintro e w3 ⟨rfl, d3⟩; have e3 := below_more e2 d3; obtain ⟨y0, y1, y2, y3⟩ := CB _ e3))
      go_ret
      exact ⟨rfl, below_more bV e3⟩
     | true =>
      rw [hb2, Bool.true_and] at hr
      have N2 := N20 true hb2
      have GW0 := fun (q : Bool) (hq : grF (ms.map (·.1)) ls 0 = q) (v : World) (b : Below _ _ v) => tree_grown (ia := ia) (oa := oa) (il := il) (ic := ic) (lc := lc) (ol := ol) (oc := oc) (c := c) (hV.hlets.below b) (hV.hall.below b) (hV.hnodes.below b) (by omega) (by omega) h.cap h.lsz q hq
      cases hg : grF (ms.map (·.1)) ls 0 with
      | false =>
       rw [hg] at hr
       simp only [Bool.false_and] at hr
       subst hr
       have GW := GW0 false hg
       clear h hV hlen hnd B1 N10 N20 GW0 ha hb2 h1 h2 hb hg
       go_enter Tryz.func15, Tryz.ntmps15
       go_wp2_with (first
        | (go_at_call 33; (with_reducible refine Calls.mono (FW _) ?_); rintro e w1 ⟨rfl, d1⟩; obtain ⟨y0, y1, y2, y3⟩ := CB _ d1)
        | (go_at_call 34; (with_reducible refine Calls.mono (N1 _ d1) ?_); rintro e w2 ⟨rfl, d2⟩; have e2 := below_more d1 d2; obtain ⟨y0, y1, y2, y3⟩ := CB _ e2)
        | (go_at_call 34; (with_reducible refine Calls.mono (N2 _ e2) ?_); rintro e w3 ⟨rfl, d3⟩; have e3 := below_more e2 d3; obtain ⟨y0, y1, y2, y3⟩ := CB _ e3)
        | (go_at_call 35; (with_reducible refine Calls.mono (GW _ e3) ?_); rintro e w4 ⟨rfl, d4⟩; have e4 := below_more e3 d4; obtain ⟨y0, y1, y2, y3⟩ := CB _ e4))
       go_ret
       exact ⟨rfl, below_more bV e4⟩
      | true =>
       rw [hg, Bool.true_and] at hr
       have GW := GW0 true hg
       obtain ⟨hBh, hKd⟩ := gr_behind hg
       rw [hnd] at hBh
       unfold lowB at hr
       rw [hnd, List.length_map, hV.hall.1] at hr
       have LW := fun (v : World) (b : Below _ _ v) => tree_low (c := c) (hV.hall.below b) (by omega) hBh (fun m hm => hKd m.1 (List.mem_map_of_mem hm)) (fun m hm => by
        obtain ⟨⟨x, y, e, -⟩, ⟨x', y', e', -⟩, -⟩ := hV.hnodes m hm
        exact ⟨⟨x, _, y, e⟩, ⟨x', _, y', e'⟩⟩) r hr
       clear h hV hlen hnd B1 N10 N20 GW0 ha hb2 h1 h2 hb hg hBh hKd hr
       go_enter Tryz.func15, Tryz.ntmps15
       go_wp2_with (first
        | (go_at_call 33; (with_reducible refine Calls.mono (FW _) ?_); rintro e w1 ⟨rfl, d1⟩; obtain ⟨y0, y1, y2, y3⟩ := CB _ d1)
        | (go_at_call 34; (with_reducible refine Calls.mono (N1 _ d1) ?_); rintro e w2 ⟨rfl, d2⟩; have e2 := below_more d1 d2; obtain ⟨y0, y1, y2, y3⟩ := CB _ e2)
        | (go_at_call 34; (with_reducible refine Calls.mono (N2 _ e2) ?_); rintro e w3 ⟨rfl, d3⟩; have e3 := below_more e2 d3; obtain ⟨y0, y1, y2, y3⟩ := CB _ e3)
        | (go_at_call 35; (with_reducible refine Calls.mono (GW _ e3) ?_); rintro e w4 ⟨rfl, d4⟩; have e4 := below_more e3 d4; obtain ⟨y0, y1, y2, y3⟩ := CB _ e4)
        | (go_at_call 36; (with_reducible refine Calls.mono (LW _ e4) ?_); rintro e w5 ⟨rfl, d5⟩; have e5 := below_more e4 d5))
       go_ret
       exact ⟨rfl, below_more bV e5⟩
   ·have k2 : ¬ (0 : Int) < ol := by omega
    rw [decide_eq_false h2] at hr
    simp only [Bool.false_and] at hr
    subst hr
    clear h hV hlen hnd B1 h1 h2 hb
    go_enter Tryz.func15, Tryz.ntmps15
    go_wp2_with (first
     | (go_at_call 33; (with_reducible refine Calls.mono (FW _) ?_); rintro e w1 ⟨rfl, d1⟩; obtain ⟨y0, y1, y2, y3⟩ := CB _ d1))
    go_ret
    exact ⟨rfl, below_more bV d1⟩
  ·have k1 : ¬ (0 : Int) < il := by omega
   rw [decide_eq_false h1] at hr
   simp only [Bool.false_and] at hr
   subst hr
   clear h hV hlen hnd B1 h1 hb
   go_enter Tryz.func15, Tryz.ntmps15
   go_wp2_with (first
    | (go_at_call 33; (with_reducible refine Calls.mono (FW _) ?_); rintro e w1 ⟨rfl, d1⟩; obtain ⟨y0, y1, y2, y3⟩ := CB _ d1))
   go_ret
   exact ⟨rfl, below_more bV d1⟩
end
section
open Go.Lib
theorem num_right {q : Rat} (h0 : 0 ≤ q.num) (h1 : (decOf q.num.natAbs).length ≤ 40) (h2 : (decOf q.den).length ≤ 40) : numR (tri q).1 (natOf (tri q).2.1) (natOf (tri q).2.2) = true := by
 have short : ∀ A : Nat, (decOf A).length ≤ 40 → shortB (natOf A) = true := fun A hA => by
  have hl : A < 4294967296 ^ 5 := Nat.lt_of_lt_of_le (lt_decOf A) (Nat.le_trans (Nat.pow_le_pow_right (by decide) hA) (by decide))
  unfold shortB
  rw [val_natOf, decide_eq_true hA, natOf_len, decide_eq_true (nl_le 5 A hl)]; rfl
 have e : decide (q.num < 0) = false := by rw [decide_eq_false_iff_not]; omega
 have hr := rv_tri q
 unfold numR tri
 dsimp only
 rw [short _ h1, short _ h2]
 unfold rghB
 rw [val_natOf, val_natOf, hr, e]
 simp
theorem num_one {l : List UInt8} (h : Num l) (hl : l.length ≤ 40) : parT l = tri ((valD l : Int) : Rat) := by
 have hd : ∀ c ∈ l, c ≠ 124 := fun c hc e => by
  have := h.2.1 c hc
  rw [e] at this
  exact absurd this.2 (by decide)
 have hh : l.head? ≠ some 45 := fun e => by
  have := h.2.1 45 (List.mem_of_mem_head? e)
  exact absurd this.1 (by decide)
 obtain ⟨f1, f2⟩ := front_all hd
 have es : stripI l = l := if_neg hh
 have z1 : zerr l = 0 := by unfold zerr; rw [es]; exact perr_ok (by omega) h
 have z2 : znum l = (valD l : Int) := by unfold znum minusI; rw [es, pnum_ok (by omega) h, decide_eq_false hh]; rfl
 have e : parE l = 0 := by unfold parE; rw [f1, z1, f2]; rfl
 unfold parT parQ
 rw [if_pos e, f1, f2, z2]
theorem num_two {l m : List UInt8} (h : Num l) (hl : l.length ≤ 40) (k : Num m) (hm : m.length ≤ 40) (h0 : 0 < valD m) : parT (l ++ 124 :: m) = tri (mkRat (valD l : Int) (valD m)) := by
 have hd : ∀ c ∈ l, c ≠ 124 := fun c hc e => by
  have := h.2.1 c hc
  rw [e] at this
  exact absurd this.2 (by decide)
 have hh : l.head? ≠ some 45 := fun e => by
  have := h.2.1 45 (List.mem_of_mem_head? e)
  exact absurd this.1 (by decide)
 obtain ⟨f1, f2⟩ := front_app (m := m) hd
 have es : stripI l = l := if_neg hh
 have z1 : zerr l = 0 := by unfold zerr; rw [es]; exact perr_ok (by omega) h
 have z2 : znum l = (valD l : Int) := by unfold znum minusI; rw [es, pnum_ok (by omega) h, decide_eq_false hh]; rfl
 have p1 := pnum_ok (by omega) k
 have p2 := perr_ok (by omega) k
 have e : parE (l ++ 124 :: m) = 0 := by
  unfold parE; rw [f1, z1, f2]
  show (if (0 : Int) ≠ 0 then (0 : Int) else if perr m ≠ 0 then perr m else if pnum m = 0 then 3 else 0) = 0
  rw [p2, p1, if_neg (by omega), if_neg (by omega), if_neg (by omega)]
 unfold parT parQ
 rw [if_pos e, f1, f2, z2]
 show tri (mkRat (valD l : Int) (pnum m)) = _
 rw [p1]
theorem rat_small (A D : Nat) (h : 0 < D) : 0 ≤ (mkRat (A : Int) D).num ∧ (mkRat (A : Int) D).num.natAbs ≤ A ∧ (mkRat (A : Int) D).den ≤ D := by
 rw [Rat.num_mkRat, Rat.den_mkRat, if_neg (by omega), if_neg (by omega)]
 refine ⟨Int.ediv_nonneg (by omega) (by omega), ?_, Nat.div_le_self _ _⟩
 rw [show ((A : Int) / ((Nat.gcd D (A : Int).natAbs : Nat) : Int)) = ((A / Nat.gcd D (A : Int).natAbs : Nat) : Int) by rw [Int.natCast_ediv]]
 rw [Int.natAbs_natCast]
 exact Nat.div_le_self _ _
theorem part_num {x : ByteArray} (h : partB x = true) : Num x.data.toList ∧ x.data.toList.length ≤ 40 := by
 unfold partB at h
 simp only [Bool.and_eq_true, Bool.or_eq_true, decide_eq_true_eq] at h
 obtain ⟨⟨⟨h1, h2⟩, h3⟩, h4⟩ := h
 have hz : x.data.toList.length = x.size := by rw [Array.length_toList]; rfl
 have get : ∀ j (hj : j < x.data.toList.length), (x.data.toList[j]).toNat = bt x j := fun j hj => by
  rw [bt_get (by omega : j < x.size)]; rfl
 refine ⟨⟨fun e => by rw [e] at hz; simp at hz; omega, fun c hc => ?_, fun e => ?_⟩, by omega⟩
 ·obtain ⟨j, hj, rfl⟩ := List.getElem_of_mem hc
  rw [get j hj]
  have := (kindAt_digit.1 (digEnd_all x _ 0 (Nat.le_refl _) j (Nat.zero_le _) (by omega))).2
  exact this
 ·rcases h4 with h4 | h4
  ·omega
  ·exfalso
   apply h4
   have hp : 0 < x.data.toList.length := by omega
   rw [← get 0 hp]
   rw [List.head?_eq_getElem?, List.getElem?_eq_getElem hp] at e
   rw [Option.some.inj e]; rfl
theorem split_text {x : ByteArray} {n : Nat} (h : n < x.size) (hb : bt x n = 124) : x.data.toList = (x.extract 0 n).data.toList ++ 124 :: (x.extract (n + 1) x.size).data.toList := by
 have hz : x.data.toList.length = x.size := by rw [Array.length_toList]; rfl
 have e1 : (x.extract 0 n).data.toList = x.data.toList.take n := by
  rw [ByteArray.data_extract, Array.toList_extract]; simp
 have e2 : (x.extract (n + 1) x.size).data.toList = x.data.toList.drop (n + 1) := by
  rw [ByteArray.data_extract, Array.toList_extract, List.extract_eq_take_drop]
  rw [List.take_of_length_le (by rw [List.length_drop]; omega)]
 rw [e1, e2]
 have hn : n < x.data.toList.length := by omega
 have e3 : x.data.toList[n] = 124 := by
  apply UInt8.toNat_inj.1
  rw [bt_get h] at hb
  exact hb
 conv => lhs; rw [← List.take_append_drop n x.data.toList]
 rw [List.drop_eq_getElem_cons hn, e3]
theorem num_text {x : ByteArray} (h : numB x = true) : numR (numT x).1 (natOf (numT x).2.1) (natOf (numT x).2.2) = true := by
 unfold numB at h
 unfold numT
 split at h
 ·obtain ⟨n1, n2⟩ := part_num h
  rw [num_one n1 n2]
  refine num_right ?_ ?_ ?_
  ·rw [Rat.num_intCast]; omega
  ·rw [Rat.num_intCast, Int.natAbs_natCast, decOf_valD n1]; exact n2
  ·rw [Rat.den_intCast]; exact decOf_len_le (by decide) (by decide)
 ·rename_i hc
  simp only [Bool.and_eq_true, Bool.not_eq_true'] at h
  obtain ⟨⟨h1, h2⟩, h3⟩ := h
  have hlt : cutI x < x.size := by have := cutI_le x; omega
  obtain ⟨n1, n2⟩ := part_num h1
  obtain ⟨m1, m2⟩ := part_num h2
  rw [split_text hlt ((cutI_told x).2 hlt)]
  have h0 : 0 < valD (x.extract (cutI x + 1) x.size).data.toList := by
   rcases Nat.eq_zero_or_pos (valD (x.extract (cutI x + 1) x.size).data.toList) with e | e
   ·exfalso
    have := decOf_valD m1
    rw [e, decOf_zero] at this
    rw [ByteArray.toList_eq, ← this] at h3
    exact absurd h3 (by decide)
   ·exact e
  rw [num_two n1 n2 m1 m2 h0]
  obtain ⟨r1, r2, r3⟩ := rat_small (valD (x.extract 0 (cutI x)).data.toList) (valD (x.extract (cutI x + 1) x.size).data.toList) h0
  refine num_right r1 (Nat.le_trans (decOf_len_mono r2) ?_) (Nat.le_trans (decOf_len_mono r3) ?_)
  ·rw [decOf_valD n1]; exact n2
  ·rw [decOf_valD m1]; exact m2
theorem exp_small {x : ByteArray} (h : kindAt x 0 = 2) : expI x ≤ 20 := by
 have hb := kindAt_digit.1 h
 unfold expI
 split
 ·omega
 ·split
  ·omega
  ·omega
def GoodN (n : Nd) : Prop := fillR (rawOf n) = true ∧ (natOf n.num.2.1).length ≤ 5 ∧ (natOf n.num.2.2).length ≤ 5 ∧ n.name.size ≤ 40
theorem none_raw (k a b x : Int) (y : ByteArray) : noneB (rawOf ⟨k, a, b, x, y, (false, 0, 0)⟩) = true := by
 unfold noneB rawOf
 dsimp only
 rw [natOf_zero]; rfl
theorem empty_no : emptyB noText = true := by unfold emptyB noText; rw [ByteArray.toList_eq]; rfl
theorem num_len {s : Bool} {xs ys : List Int} (h : numR s xs ys = true) : xs.length ≤ 5 ∧ ys.length ≤ 5 := by
 unfold numR shortB at h
 simp only [Bool.and_eq_true, decide_eq_true_eq] at h
 exact ⟨h.1.1.2.1, h.1.2.1⟩
theorem makes_good {L : List Tok} (hL : ∀ t ∈ L, RightT t.1 t.2.1) : Makes numT L GoodN := by
 have z : (natOf 0).length ≤ 5 := by rw [natOf_zero]; decide
 have e0 : noText.size ≤ 40 := by decide
 constructor
 ·intro x hx
  refine ⟨?_, z, z, ?_⟩
  ·unfold fillR
   rw [if_pos (show (rawOf ⟨0, 0, 0, 0, x, (false, 0, 0)⟩).kind = 0 from rfl), none_raw]
   show (nameB x && _ && _ && _ && _) = true
   rw [hx]; rfl
  ·unfold nameB at hx
   simp only [Bool.and_eq_true, decide_eq_true_eq] at hx
   exact hx.1.1.2
 ·intro t ht h1
  have hr := hL t ht
  rw [h1] at hr
  have hn : numB t.2.1 = true := by
   rcases right_kind hr with ⟨q, -⟩ | ⟨-, -, q⟩ | ⟨q, -⟩
   ·exact absurd q (by decide)
   ·exact q
   ·exact absurd q (by decide)
  have hq := num_text hn
  refine ⟨?_, (num_len hq).1, (num_len hq).2, e0⟩
  unfold fillR
  rw [if_neg (show ¬ (rawOf ⟨1, 0, 0, 0, noText, numT t.2.1⟩).kind = 0 from by show ¬ (1 : Int) = 0; decide), if_pos (show (rawOf ⟨1, 0, 0, 0, noText, numT t.2.1⟩).kind = 1 from rfl)]
  show (numR (numT t.2.1).1 (natOf (numT t.2.1).2.1) (natOf (numT t.2.1).2.2) && _ && _ && _ && emptyB noText) = true
  rw [hq, empty_no]; rfl
 ·intro k a b h2 h5
  refine ⟨?_, z, z, e0⟩
  have hn := none_raw k a b 0 noText
  obtain ⟨m, hm⟩ : ∃ m, rawOf ⟨k, a, b, 0, noText, (false, 0, 0)⟩ = m := ⟨_, rfl⟩
  have hk : m.kind = k := by rw [← hm]; rfl
  have he : m.exp = 0 := by rw [← hm]; rfl
  have hx : m.name = noText := by rw [← hm]; rfl
  rw [hm] at hn ⊢
  unfold fillR
  rw [if_neg (by omega), if_neg (by omega), if_pos (by omega), hn, he, hx, empty_no]; rfl
 ·intro a
  refine ⟨?_, z, z, e0⟩
  have hn := none_raw 6 a 0 0 noText
  obtain ⟨m, hm⟩ : ∃ m, rawOf ⟨6, a, 0, 0, noText, (false, 0, 0)⟩ = m := ⟨_, rfl⟩
  have hk : m.kind = 6 := by rw [← hm]; rfl
  have he : m.exp = 0 := by rw [← hm]; rfl
  have hb : m.b = 0 := by rw [← hm]; rfl
  have hx : m.name = noText := by rw [← hm]; rfl
  rw [hm] at hn ⊢
  unfold fillR
  rw [if_neg (by omega), if_neg (by omega), if_neg (by omega), if_pos hk, hn, he, hb, hx, empty_no]; rfl
 ·intro a fac t ht h1 h0 hf
  have hr := hL t ht
  rw [h1] at hr
  have hk : kindAt t.2.1 0 = 2 := by
   rcases right_kind hr with ⟨q, -⟩ | ⟨-, q, -⟩ | ⟨q, -⟩
   ·exact absurd q (by decide)
   ·exact q
   ·exact absurd q (by decide)
  have h20 := exp_small hk
  refine ⟨?_, z, z, e0⟩
  have hn := none_raw 7 a 0 (fac * expI t.2.1) noText
  obtain ⟨m, hm⟩ : ∃ m, rawOf ⟨7, a, 0, fac * expI t.2.1, noText, (false, 0, 0)⟩ = m := ⟨_, rfl⟩
  have hk : m.kind = 7 := by rw [← hm]; rfl
  have he : m.exp = fac * expI t.2.1 := by rw [← hm]; rfl
  have hb : m.b = 0 := by rw [← hm]; rfl
  have hx : m.name = noText := by rw [← hm]; rfl
  rw [hm] at hn ⊢
  unfold fillR
  rw [if_neg (by omega), if_neg (by omega), if_neg (by omega), if_neg (by omega), if_pos hk, hn, he, hb, hx, empty_no, decide_eq_true (by rcases hf with rfl | rfl <;> omega)]; rfl
theorem seg_sgF {m0 : List Nw} (hf : ∀ m ∈ m0, fillR m = true) (ms : List Nw) (j : Nat) (hms : ∀ p, p < j → ms[p]? = m0[p]?) {s i : Nat} (h : Seg (m0.map Nw.nd) s i) :
  s ≤ i ∧ (i < j → ∀ f (lo : List Int), i + 1 - s ≤ f → sgF ms j f s lo = sgF ms j (f - (i + 1 - s)) (i + 1) (lo ++ [(i : Int)])) := by
 have step : ∀ (p : Nat) (n : Nd) (lo : List Int) (pt : List Int), (m0.map Nw.nd)[p]? = some n → ptsI n.kind n.a n.b = pt → p < j → ∀ f, 1 ≤ f → sgF ms j f p (lo ++ pt) = sgF ms j (f - 1) (p + 1) (lo ++ [(p : Int)]) := by
  intro p n lo pt hn hp hj f hf1
  obtain ⟨f, rfl⟩ : ∃ g, f = g + 1 := ⟨f - 1, by omega⟩
  rw [List.getElem?_map] at hn
  cases hm0 : m0[p]? with
  | none => rw [hm0] at hn; exact absurd hn (by simp)
  | some m =>
   rw [hm0] at hn
   obtain rfl : m.nd = n := by simpa using hn
   have hm : ms[p]? = some m := by rw [hms p hj, hm0]
   have hfn := hf m (List.mem_of_getElem? hm0)
   have e : sgStep ms p (lo ++ pt) = some (lo ++ [(p : Int)]) := by
    unfold sgStep
    rw [hm]
    dsimp only
    rw [show ptsI m.kind m.a m.b = pt from hp]
    rw [List.length_append, Nat.add_sub_cancel, List.drop_left, List.take_left, if_pos ⟨hfn, Nat.le_add_left _ _, rfl⟩]
   conv => lhs; unfold sgF
   rw [if_pos hj, e]; rfl
 refine h (fun s i => s ≤ i ∧ (i < j → ∀ f (lo : List Int), i + 1 - s ≤ f → sgF ms j f s lo = sgF ms j (f - (i + 1 - s)) (i + 1) (lo ++ [(i : Int)]))) ?_ ?_ ?_
 ·intro i n hn hk
  refine ⟨Nat.le_refl _, fun hj f lo hl => ?_⟩
  have := step i n lo [] hn (by unfold ptsI; rw [if_pos hk]) hj f (by omega)
  rw [List.append_nil] at this
  rw [this, show i + 1 - i = 1 by omega]
 ·intro s i n ⟨hle, ih⟩ hn hk ha
  refine ⟨by omega, fun hj f lo hl => ?_⟩
  rw [ih (by omega) f lo (by omega)]
  have := step (i + 1) n lo [(i : Int)] hn (by unfold ptsI; rw [if_neg (by omega), if_pos hk, ha]) hj (f - (i + 1 - s)) (by omega)
  rw [this, show f - (i + 1 - s) - 1 = f - (i + 1 + 1 - s) by omega]
 ·intro s k i n ⟨h1, ih1⟩ ⟨h2, ih2⟩ hn hk2 hk5 ha hb
  refine ⟨by omega, fun hj f lo hl => ?_⟩
  rw [ih1 (by omega) f lo (by omega), ih2 (by omega) _ _ (by omega), List.append_assoc, List.singleton_append]
  have := step (i + 1) n lo [(k : Int), (i : Int)] hn (by unfold ptsI; rw [if_neg (by omega), if_neg (by omega), ha, hb]) hj (f - (k + 1 - s) - (i + 1 - (k + 1))) (by omega)
  rw [this, show f - (k + 1 - s) - (i + 1 - (k + 1)) - 1 = f - (i + 1 + 1 - s) by omega]
theorem seg_single {m0 : List Nw} (hf : ∀ m ∈ m0, fillR m = true) {s i : Nat} (h : Seg (m0.map Nw.nd) s i) : sgB (m0.take (i + 1)) (i + 1) s = true := by
 have hle := h.le
 unfold sgB
 rw [(seg_sgF hf _ (i + 1) (fun p hp => by rw [List.getElem?_take, if_pos hp]) h).2 (Nat.lt_succ_self i) (i + 1 + 1) [] (by omega)]
 obtain ⟨g, hg⟩ : ∃ g, i + 1 + 1 - (i + 1 - s) = g + 1 := ⟨i + 1 - (i + 1 - s), by omega⟩
 rw [hg]
 unfold sgF
 rw [if_neg (Nat.lt_irrefl _)]; rfl
theorem lets_grown {m0 : List Nw} (hf : ∀ m ∈ m0, fillR m = true) : ∀ {m : List (ByteArray × Int)} {b : Nat}, LetsEnd (m0.map Nw.nd) b m m0.length → grF m0 m b = true := by
 intro m
 induction m with
 | nil =>
  intro b h
  have : b = m0.length := h
  unfold grF
  rw [decide_eq_true (by omega)]
 | cons x m ih =>
  rintro b ⟨i, hx, hn, hs, h⟩
  have hle := hs.le
  rw [List.length_map] at hle
  unfold grF
  rw [hx, hn, decide_eq_true (show (b : Int) ≤ (i : Int) by omega), decide_eq_true (show (i : Int) < (m0.length : Int) by omega), Int.toNat_natCast, Int.toNat_natCast, seg_single hf hs]
  have := ih h
  rw [show ((i : Int) + 1) = ((i + 1 : Nat) : Int) by omega, this]; rfl
def Piled (l : List Nd) (s i : Nat) (lo : List Int) : Prop := ∀ P : Nat → List Int → Prop, P s [] → (∀ (b r : Nat) (m : List Int), P b m → Seg l b r → P (r + 1) (m ++ [(r : Int)])) → P i lo
theorem Piled.none {l : List Nd} {s : Nat} : Piled l s s [] := fun _ h _ => h
theorem Piled.more {l : List Nd} {s b r : Nat} {lo : List Int} (h : Piled l s b lo) (hs : Seg l b r) : Piled l s (r + 1) (lo ++ [(r : Int)]) := fun P h0 h1 => h1 b r lo (h P h0 h1) hs
theorem Piled.last {l : List Nd} {s i : Nat} {lo : List Int} {a : Int} (h : Piled l s i (lo ++ [a])) : ∃ b r : Nat, a = (r : Int) ∧ i = r + 1 ∧ Piled l s b lo ∧ Seg l b r := by
 refine (h (fun i L => Piled l s i L ∧ ∀ (lo : List Int) (a : Int), L = lo ++ [a] → ∃ b r : Nat, a = (r : Int) ∧ i = r + 1 ∧ Piled l s b lo ∧ Seg l b r) ⟨Piled.none, fun lo a e => absurd e (by simp)⟩ ?_).2 lo a rfl
 intro b r m hm hs
 refine ⟨hm.1.more hs, fun lo a e => ?_⟩
 obtain ⟨e1, e2⟩ := List.append_inj' e rfl
 simp only [List.cons.injEq, and_true] at e2
 subst e1
 exact ⟨b, r, e2.symm, rfl, hm.1, hs⟩
theorem Piled.start {l : List Nd} {s i : Nat} (h : Piled l s i []) : i = s :=
 h (fun i L => L = [] → i = s) (fun _ => rfl) (fun b r m _ _ e => absurd e (by simp)) rfl
theorem Piled.step {m0 : List Nw} {ms : List Nw} {i : Nat} (hms : ms[i]? = m0[i]?) {s : Nat} {lo lo' : List Int} (h : Piled (m0.map Nw.nd) s i lo) (hs : sgStep ms i lo = some lo') : Piled (m0.map Nw.nd) s (i + 1) lo' := by
 unfold sgStep at hs
 rw [hms] at hs
 cases hm : m0[i]? with
 | none => rw [hm] at hs; exact absurd hs (by simp)
 | some m =>
  rw [hm] at hs
  dsimp only at hs
  split at hs
  ·rename_i hc
   obtain ⟨h1, h2, h3⟩ := hc
   injection hs with hs
   have hn : (m0.map Nw.nd)[i]? = some m.nd := by rw [List.getElem?_map, hm]; rfl
   have hlo : lo = lo.take (lo.length - (ptsI m.kind m.a m.b).length) ++ ptsI m.kind m.a m.b := by
    conv => lhs; rw [← List.take_append_drop (lo.length - (ptsI m.kind m.a m.b).length) lo, h3]
   generalize lo.take (lo.length - (ptsI m.kind m.a m.b).length) = lt at *
   subst hs
   rw [hlo] at h
   have hkd := fill_kind h1
   by_cases k0 : m.kind = 0 ∨ m.kind = 1
   ·have e : ptsI m.kind m.a m.b = [] := by unfold ptsI; rw [if_pos k0]
    rw [e, List.append_nil] at h
    exact h.more (Seg.leaf hn k0)
   ·by_cases k6 : m.kind = 6 ∨ m.kind = 7
    ·have e : ptsI m.kind m.a m.b = [m.a] := by unfold ptsI; rw [if_neg k0, if_pos k6]
     rw [e] at h
     obtain ⟨b, r, e1, rfl, p1, p2⟩ := h.last
     exact p1.more (p2.one hn k6 e1)
    ·have e : ptsI m.kind m.a m.b = [m.a, m.b] := by unfold ptsI; rw [if_neg k0, if_neg k6]
     rw [e, show lt ++ [m.a, m.b] = lt ++ [m.a] ++ [m.b] by simp] at h
     obtain ⟨b, r, e1, rfl, p1, p2⟩ := h.last
     obtain ⟨b', r', e1', rfl, p1', p2'⟩ := p1.last
     exact p1'.more (p2'.two p2 hn (by show 2 ≤ m.kind; omega) (by show m.kind ≤ 5; omega) e1' e1)
  ·exact absurd hs (by simp)
theorem Piled.run {m0 ms : List Nw} {j : Nat} (hms : ∀ p, p < j → ms[p]? = m0[p]?) {s : Nat} : ∀ (f i : Nat) (lo : List Int), Piled (m0.map Nw.nd) s i lo → i ≤ j → j - i < f → sgF ms j f i lo = true → ∃ x, Piled (m0.map Nw.nd) s j [x] := by
 intro f
 induction f with
 | zero => intro i lo _ _ h; omega
 | succ f ih =>
  intro i lo h hij hf hr
  unfold sgF at hr
  split at hr
  ·rename_i hlt
   split at hr
   ·exact absurd hr (by simp)
   ·rename_i lo' hs
    exact ih (i + 1) lo' (h.step (hms i hlt) hs) hlt (by omega) hr
  ·obtain rfl : i = j := by omega
   have := decide_eq_true_iff.1 hr
   obtain ⟨x, rfl⟩ := List.length_eq_one_iff.1 this
   exact ⟨x, h⟩
theorem single_seg {m0 : List Nw} {s i : Nat} (hsi : s ≤ i) (h : sgB (m0.take (i + 1)) (i + 1) s = true) : Seg (m0.map Nw.nd) s i := by
 unfold sgB at h
 obtain ⟨x, hx⟩ := Piled.run (m0 := m0) (s := s) (fun p hp => by rw [List.getElem?_take, if_pos hp]) _ s [] Piled.none (by omega) (by omega) h
 obtain ⟨b, r, -, e2, p1, p2⟩ := Piled.last (lo := []) hx
 obtain rfl : i = r := by omega
 rw [← p1.start]
 exact p2
theorem grown_lets {m0 : List Nw} : ∀ {m : List (ByteArray × Int)} {b : Nat}, grF m0 m b = true → LetsEnd (m0.map Nw.nd) b m m0.length := by
 intro m
 induction m with
 | nil =>
  intro b h
  unfold grF at h
  have := decide_eq_true_iff.1 h
  show b = m0.length
  omega
 | cons x m ih =>
  intro b h
  unfold grF at h
  simp only [Bool.and_eq_true, decide_eq_true_eq] at h
  obtain ⟨⟨⟨⟨h1, h2⟩, h3⟩, h4⟩, h5⟩ := h
  obtain ⟨i, hi⟩ : ∃ i : Nat, x.2 = (i : Int) := ⟨x.2.toNat, by omega⟩
  rw [hi, Int.toNat_natCast, Int.toNat_natCast] at h4
  rw [hi, show ((i : Int) + 1) = ((i + 1 : Nat) : Int) by omega] at h5
  exact ⟨i, hi, h1, single_seg (by omega) h4, ih h5⟩
theorem parse_good {s : ByteArray} {p : Pg} {l c : Int} (h : parseI s = (p, (l, c), 0)) : (∀ n ∈ p.all, GoodN n) ∧ LetsEnd p.all 0 p.lets p.all.length ∧ (1 ≤ p.ins.length ∧ ∀ x ∈ p.ins, nameB x = true) ∧ (1 ≤ p.outs.length ∧ ∀ x ∈ p.outs, nameB x = true) ∧
  lngB p.all p.ins.length p.lets.length p.outs.length = false ∧ l = 0 ∧ c = 0 := by
 unfold parseI at h
 split at h
 ·rename_i h0
  injection h with h1 h2
  injection h2 with h2 h3
  exact absurd h3 h0
 ·split at h
  ·exfalso
   split at h
   ·injection h with h1 h2
    injection h2 with h2 h3
    exact absurd h3 (by decide)
   ·injection h with h1 h2
    injection h2 with h2 h3
    exact absurd h3 (by decide)
  ·rename_i hb
   split at h
   ·injection h with h1 h2
    injection h2 with h2 h3
    exact absurd h3 (by decide)
   ·rename_i hl
    injection h with h1 h2
    injection h2 with h2 h3
    injection h2 with h4 h5
    have hb' : (progI numT (lexI s).1).2.bad = false := by simpa using hb
    obtain ⟨g1, g2, g3⟩ := prog_good hb'
    have g4 := prog_fields (makes_good (fun t ht => (lexI_right s t ht).1)) hb'
    subst h1
    exact ⟨g4, g3, g1, g2, by simpa using hl, h4.symm, h5.symm⟩
theorem rgt_good {p : Pg} (hg : ∀ n ∈ p.all, GoodN n) (hl : LetsEnd p.all 0 p.lets p.all.length) (hi : 1 ≤ p.ins.length ∧ ∀ x ∈ p.ins, nameB x = true) (ho : 1 ≤ p.outs.length ∧ ∀ x ∈ p.outs, nameB x = true) (hn : lngB p.all p.ins.length p.lets.length p.outs.length = false) :
  rgtB p.ins p.outs p.lets (p.all.map rawOf) = true := by
 unfold lngB at hn
 simp only [Bool.or_eq_false_iff, decide_eq_false_iff_not] at hn
 obtain ⟨⟨⟨⟨n1, n2⟩, n3⟩, n4⟩, n5⟩ := hn
 have e : (p.all.map rawOf).map Nw.nd = p.all := by
  rw [List.map_map, show (Nw.nd ∘ rawOf) = id from funext nd_raw, List.map_id]
 have g := lets_grown (m0 := p.all.map rawOf) (fun m hm => by obtain ⟨n, hn, rfl⟩ := List.mem_map.1 hm; exact (hg n hn).1) (b := 0) (by rw [e, List.length_map]; exact hl)
 unfold rgtB fewB lowB
 rw [e, List.length_map, n5]
 rw [show ((0 : Int) = ((0 : Nat) : Int)) from rfl, g]
 rw [decide_eq_true (show p.all.length ≤ 400 by omega), decide_eq_true (show p.ins.length ≤ 40 by omega), decide_eq_true (show p.lets.length ≤ 40 by omega), decide_eq_true (show p.outs.length ≤ 40 by omega), decide_eq_true (show 0 < p.ins.length by omega), decide_eq_true (show 0 < p.outs.length by omega), List.all_eq_true.2 hi.2, List.all_eq_true.2 ho.2]; rfl
theorem parse_none {s : ByteArray} {p : Pg} {l c E : Int} (h : parseI s = (p, (l, c), E)) (hE : E ≠ 0) : p = noPg := by
 unfold parseI at h
 split at h
 ·injection h with h1 h2; exact h1.symm
 ·split at h
  ·split at h
   ·injection h with h1 h2; exact h1.symm
   ·injection h with h1 h2; exact h1.symm
  ·split at h
   ·injection h with h1 h2; exact h1.symm
   ·injection h with h1 h2
    injection h2 with h2 h3
    exact absurd h3.symm hE
structure FineP (p : Pg) : Prop where
 nodes : ∀ n ∈ p.all, GoodN n
 ins : ∀ x ∈ p.ins, nameB x = true
 outs : ∀ x ∈ p.outs, nameB x = true
 lets : ∀ x ∈ p.lets, x.1.size ≤ 40 ∧ 0 ≤ x.2 ∧ x.2 < (p.all.length : Int)
 few : p.ins.length ≤ 40 ∧ p.lets.length ≤ 40 ∧ p.outs.length ≤ 40 ∧ p.all.length ≤ 400
theorem fine_no : FineP noPg := ⟨fun n hn => absurd hn (by simp [noPg]), fun n hn => absurd hn (by simp [noPg]), fun n hn => absurd hn (by simp [noPg]), fun n hn => absurd hn (by simp [noPg]), by decide⟩
theorem name_short {x : ByteArray} (h : nameB x = true) : x.size ≤ 40 := by
 unfold nameB at h
 simp only [Bool.and_eq_true, decide_eq_true_eq] at h
 exact h.1.1.2
theorem LetsEnd.names {l : List Nd} : ∀ {m : List (ByteArray × Int)} {b e : Nat}, LetsEnd l b m e → ∀ x ∈ m, nameB x.1 = true := by
 intro m
 induction m with
 | nil => intro b e _ x hx; exact absurd hx (by simp)
 | cons y m ih =>
  rintro b e ⟨i, -, hn, -, h⟩ x hx
  rcases List.mem_cons.1 hx with rfl | hx
  ·exact hn
  ·exact ih h x hx
theorem parse_fine {s : ByteArray} {p : Pg} {l c E : Int} (h : parseI s = (p, (l, c), E)) : FineP p := by
 by_cases hE : E = 0
 ·subst hE
  obtain ⟨g1, g2, g3, g4, g5, -, -⟩ := parse_good h
  unfold lngB at g5
  simp only [Bool.or_eq_false_iff, decide_eq_false_iff_not] at g5
  obtain ⟨⟨⟨⟨n1, n2⟩, n3⟩, n4⟩, -⟩ := g5
  exact ⟨g1, g3.2, g4.2, fun x hx => ⟨name_short (g2.names x hx), g2.roots x hx⟩, by omega, by omega, by omega, by omega⟩
 ·rw [parse_none h hE]; exact fine_no
end
end Go.Proofs.YtaeladkcmpdkhaaGreatDoor
