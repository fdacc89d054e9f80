/-
  Texts of mine in build order. No conditions of their own.
-/
import Derived.Test.YtaeladkcmpdkhaaGreatDoorPack27
set_option maxHeartbeats 32000000
namespace Go.Proofs.YtaeladkcmpdkhaaGreatDoor
section
open Go.RowKit Go.Lib
structure FillM (w : World) (a : Option Addr) (n : Nat) (ms : List Mn) : Prop where
 all : IsN w a n ms
 nodes : NdR w ms
 fill : ∀ m ∈ ms.map (·.1), fillR m = true
 few : n ≤ 500
theorem FillM.below {w w' : World} {a : Option Addr} {n : Nat} {ms : List Mn} (h : FillM w a n ms) (hb : Below w.heap.size w w') : FillM w' a n ms := ⟨h.all.below hb, h.nodes.below hb, h.fill, h.few⟩
theorem nd_at {ms : List Mn} {i : Nat} {x : Nd} (h : ((ms.map (·.1)).map Nw.nd)[i]? = some x) : ∃ m, ms[i]? = some m ∧ m.1.nd = x := by
 rw [List.map_map, List.getElem?_map] at h
 cases hm : ms[i]? with
 | none => rw [hm] at h; exact absurd h (by simp)
 | some m => rw [hm] at h; exact ⟨m, rfl, by simpa using h⟩
theorem FillM.num {w : World} {a : Option Addr} {n : Nat} {ms : List Mn} (h : FillM w a n ms) {m : Mn} (hm : m ∈ ms) {k : Nat} (hk : 5 ≤ k) (h1 : m.1.kind = 1) {ua : Option Addr} {un uc : Nat} {va : Option Addr} {vn vc : Nat} (hu : m.2.1 = .slice ua un uc) (hv : m.2.2 = .slice va vn vc) : RR k w m.1.neg ua un uc va vn vc (rv m.1.neg (val m.1.xs) (val m.1.ys)) := by
 obtain ⟨⟨x, y, e1, q1⟩, ⟨x', y', e2, q2⟩, w1, w2, -⟩ := h.nodes m hm
 have hf := h.fill m.1 (List.mem_map_of_mem hm)
 rw [hu] at e1
 rw [hv] at e2
 injection e1 with e1 e1' e1''
 injection e2 with e2 e2' e2''
 subst e1; subst e1'; subst e1''; subst e2; subst e2'; subst e2''
 unfold fillR at hf
 rw [if_neg (by omega), if_pos h1] at hf
 simp only [Bool.and_eq_true] at hf
 have hl := num_len hf.1.1.1.1
 exact ⟨_, _, q1, w1, q2, w2, by omega, by omega, rfl⟩
end
section
open Go.RowKit Go.Lib
theorem clo_node {w : World} {a : Option Addr} {n c : Nat} {ms : List Mn} {p q : Nat} (h : FillM w a n ms) (HC : Clo w p q a n c) (hp : PowV w) {b i : Nat} (hs : Seg ((ms.map (·.1)).map Nw.nd) b i) :
  ∀ (m : Mn), ms[i]? = some m → ∀ least : Nat, 1 ≤ least → least ≤ 5 → ∀ (M : Int), M = (least : Int) - 1 → ∀ u, Below w.heap.size w u → Calls Tryz.prog 56 #[.int .i64 i, .int .i64 M, .pointer (some ⟨p, 0, none⟩), .pointer (some ⟨q, 0, none⟩)] u (AnsB u (partX ((ms.map (·.1)).map Nw.nd) i m.1.kind least)) := by
 have hlen : (ms.map (·.1)).length = n := by rw [List.length_map]; exact h.all.1
 have hfew := h.few
 have sl : ∀ m ∈ ms, ∃ ua un uc va vn vc, m.2.1 = .slice ua un uc ∧ m.2.2 = .slice va vn vc := fun m hm => by
  obtain ⟨⟨x, y, e1, -⟩, ⟨x', y', e2, -⟩, -⟩ := h.nodes m hm
  exact ⟨_, _, _, _, _, _, e1, e2⟩
 have szN : ∀ {b i : Nat}, Seg ((ms.map (·.1)).map Nw.nd) b i → (nodeX ((ms.map (·.1)).map Nw.nd) i).size ≤ 60000 := fun s => by
  have := nodeX_size h.fill s
  omega
 have szP : ∀ {b i : Nat} {x : Nd}, Seg ((ms.map (·.1)).map Nw.nd) b i → ((ms.map (·.1)).map Nw.nd)[i]? = some x → ∀ least, (partX ((ms.map (·.1)).map Nw.nd) i x.kind least).size ≤ 60000 := fun s hx least => by
  have := partX_size h.fill s hx least
  omega
 have part : ∀ {b i : Nat} {m : Mn}, Seg ((ms.map (·.1)).map Nw.nd) b i → ms[i]? = some m → (∀ M : Int, M ≤ (bindK m.1.kind : Int) - 1 → ∀ u, Below w.heap.size w u → Calls Tryz.prog 56 #[.int .i64 i, .int .i64 M, .pointer (some ⟨p, 0, none⟩), .pointer (some ⟨q, 0, none⟩)] u (AnsB u (nodeX ((ms.map (·.1)).map Nw.nd) i))) →
   ∀ least : Nat, 1 ≤ least → least ≤ 5 → ∀ (M : Int), M = (least : Int) - 1 → ∀ u, Below w.heap.size w u → Calls Tryz.prog 56 #[.int .i64 i, .int .i64 M, .pointer (some ⟨p, 0, none⟩), .pointer (some ⟨q, 0, none⟩)] u (AnsB u (partX ((ms.map (·.1)).map Nw.nd) i m.1.kind least)) := by
  intro b i m s hm hc least h1 h5 M hM u hu
  obtain ⟨ua, un, uc, va, vn, vc, hu1, hv1⟩ := sl m (List.mem_of_getElem? hm)
  unfold partX
  by_cases hb : bindK m.1.kind < least
  ·rw [if_pos hb]
   exact clo_wrap (h.all.below hu) hm hu1 hv1 (HC.more hu) M (by omega) (szN s) (fun v hv => hc _ (Int.le_refl _) v (below_more hu hv))
  ·rw [if_neg hb]
   exact hc M (by omega) u hu
 refine (hs (fun b i => Seg ((ms.map (·.1)).map Nw.nd) b i ∧ ∀ (m : Mn), ms[i]? = some m → ∀ least : Nat, 1 ≤ least → least ≤ 5 → ∀ (M : Int), M = (least : Int) - 1 → ∀ u, Below w.heap.size w u → Calls Tryz.prog 56 #[.int .i64 i, .int .i64 M, .pointer (some ⟨p, 0, none⟩), .pointer (some ⟨q, 0, none⟩)] u (AnsB u (partX ((ms.map (·.1)).map Nw.nd) i m.1.kind least))) ?_ ?_ ?_).2
 ·intro i x hx hk
  refine ⟨Seg.leaf hx hk, fun m hm => part (Seg.leaf hx hk) hm fun M hM u hu => ?_⟩
  have hx0 := hx
  obtain ⟨m', hm', rfl⟩ := nd_at hx
  obtain rfl : m' = m := by rw [hm] at hm'; exact (Option.some.inj hm').symm
  obtain ⟨ua, un, uc, va, vn, vc, hu1, hv1⟩ := sl _ (List.mem_of_getElem? hm)
  rcases hk with k | k
  ·rw [nodeX_ref hx0 k]
   rw [show bindK m'.1.kind = 5 by rw [show m'.1.kind = 0 from k]; rfl] at hM
   exact clo_name (h.all.below hu) hm hu1 hv1 (HC.more hu) k M (by omega)
  ·rw [nodeX_num hx0 k]
   rw [show bindK m'.1.kind = 5 by rw [show m'.1.kind = 1 from k]; rfl] at hM
   exact clo_num (h.all.below hu) hm hu1 hv1 (HC.more hu) k M (by omega) ((h.below hu).num (List.mem_of_getElem? hm) (by decide) k hu1 hv1) rfl
 ·intro b i x ⟨s, ih⟩ hx hk ha
  refine ⟨s.one hx hk ha, fun m hm => part (s.one hx hk ha) hm fun M hM u hu => ?_⟩
  have hx0 := hx
  obtain ⟨m', hm', rfl⟩ := nd_at hx
  obtain rfl : m' = m := by rw [hm] at hm'; exact (Option.some.inj hm').symm
  obtain ⟨ua, un, uc, va, vn, vc, hu1, hv1⟩ := sl _ (List.mem_of_getElem? hm)
  obtain ⟨y, hy⟩ : ∃ y, ((ms.map (·.1)).map Nw.nd)[i]? = some y := ⟨_, List.getElem?_eq_getElem s.le.2⟩
  have hy0 := hy
  obtain ⟨m1, hm1, rfl⟩ := nd_at hy
  have ha' : m'.1.a = (i : Int) := ha
  have P := ih m1 hm1
  rcases hk with k | k
  ·rw [nodeX_neg s hx0 hy0 k ha]
   rw [show bindK m'.1.kind = 3 by rw [show m'.1.kind = 6 from k]; rfl] at hM
   exact clo_neg (h.all.below hu) hm hu1 hv1 (HC.more hu) k M (by omega) (szP s hy0 3) (fun v hv => by rw [ha']; exact P 3 (by decide) (by decide) 2 (by decide) v (below_more hu hv))
  ·rw [nodeX_pow s hx0 hy0 k ha]
   rw [show bindK m'.1.kind = 4 by rw [show m'.1.kind = 7 from k]; rfl] at hM
   have he : m'.1.exp.natAbs ≤ 20 := fill_pow (h.fill m'.1 (List.mem_map_of_mem (List.mem_of_getElem? hm))) k
   have hez : (exX m'.1.exp.natAbs).size ≤ 80 := by
    have := (decOf_len_le (k := 2) (show m'.1.exp.natAbs < 10 ^ 2 by omega) (by decide))
    show (decOf m'.1.exp.natAbs).toArray.size ≤ 80
    rw [List.size_toArray]; omega
   have hz : (expX m'.1.exp).size ≤ 90 := by
    unfold expX
    rw [ByteArray.size_append]
    split
    ·show 1 + _ ≤ 90; omega
    ·show 0 + _ ≤ 90; omega
   exact clo_pow (h.all.below hu) hm hu1 hv1 (HC.more hu) k M (by omega) (szP s hy0 5) hz (fun v hv => show_itoa _ (by omega) v (hp.below (below_more hu hv))) (fun v hv => by rw [ha']; exact P 5 (by decide) (by decide) 4 (by decide) v (below_more hu hv))
 ·intro b j i x ⟨s, ih⟩ ⟨t, ih2⟩ hx h2 h5 ha hb
  refine ⟨s.two t hx h2 h5 ha hb, fun m hm => part (s.two t hx h2 h5 ha hb) hm fun M hM u hu => ?_⟩
  have hx0 := hx
  obtain ⟨m', hm', rfl⟩ := nd_at hx
  obtain rfl : m' = m := by rw [hm] at hm'; exact (Option.some.inj hm').symm
  obtain ⟨ua, un, uc, va, vn, vc, hu1, hv1⟩ := sl _ (List.mem_of_getElem? hm)
  obtain ⟨y, hy⟩ : ∃ y, ((ms.map (·.1)).map Nw.nd)[j]? = some y := ⟨_, List.getElem?_eq_getElem s.le.2⟩
  obtain ⟨z, hz⟩ : ∃ z, ((ms.map (·.1)).map Nw.nd)[i]? = some z := ⟨_, List.getElem?_eq_getElem t.le.2⟩
  have hy0 := hy
  have hz0 := hz
  obtain ⟨m1, hm1, rfl⟩ := nd_at hy
  obtain ⟨m2, hm2, rfl⟩ := nd_at hz
  have ha' : m'.1.a = (j : Int) := ha
  have hb' : m'.1.b = (i : Int) := hb
  have P := ih m1 hm1
  have Q := ih2 m2 hm2
  rw [nodeX_two s t hx0 hy0 hz0 h2 h5 ha hb]
  have hk4 : m'.1.kind = 2 ∨ m'.1.kind = 3 ∨ m'.1.kind = 4 ∨ m'.1.kind = 5 := by
   have : 2 ≤ m'.1.kind := h2
   have : m'.1.kind ≤ 5 := h5
   omega
  rcases hk4 with k | k | k | k
  ·rw [show m'.1.nd.kind = 2 from k]
   rw [show bindK m'.1.kind = 1 by rw [k]; rfl] at hM
   exact clo_two_2 (h.all.below hu) hm hu1 hv1 (HC.more hu) k M (by omega) (szP s hy0 1) (szP t hz0 2) (fun v hv => by rw [ha']; exact P 1 (by decide) (by decide) 0 (by decide) v (below_more hu hv)) (fun v hv => by rw [hb']; exact Q 2 (by decide) (by decide) 1 (by decide) v (below_more hu hv))
  ·rw [show m'.1.nd.kind = 3 from k]
   rw [show bindK m'.1.kind = 1 by rw [k]; rfl] at hM
   exact clo_two_3 (h.all.below hu) hm hu1 hv1 (HC.more hu) k M (by omega) (szP s hy0 1) (szP t hz0 2) (fun v hv => by rw [ha']; exact P 1 (by decide) (by decide) 0 (by decide) v (below_more hu hv)) (fun v hv => by rw [hb']; exact Q 2 (by decide) (by decide) 1 (by decide) v (below_more hu hv))
  ·rw [show m'.1.nd.kind = 4 from k]
   rw [show bindK m'.1.kind = 2 by rw [k]; rfl] at hM
   exact clo_two_4 (h.all.below hu) hm hu1 hv1 (HC.more hu) k M (by omega) (szP s hy0 2) (szP t hz0 3) (fun v hv => by rw [ha']; exact P 2 (by decide) (by decide) 1 (by decide) v (below_more hu hv)) (fun v hv => by rw [hb']; exact Q 3 (by decide) (by decide) 2 (by decide) v (below_more hu hv))
  ·rw [show m'.1.nd.kind = 5 from k]
   rw [show bindK m'.1.kind = 2 by rw [k]; rfl] at hM
   exact clo_two_5 (h.all.below hu) hm hu1 hv1 (HC.more hu) k M (by omega) (szP s hy0 2) (szP t hz0 3) (fun v hv => by rw [ha']; exact P 2 (by decide) (by decide) 1 (by decide) v (below_more hu hv)) (fun v hv => by rw [hb']; exact Q 3 (by decide) (by decide) 2 (by decide) v (below_more hu hv))
end
section
open Go.RowKit Go.Lib
theorem show_expr {w : World} {a : Option Addr} {n c : Nat} {ms : List Mn} (h : FillM w a n ms) (hp : PowV w) {b i : Nat} (hs : Seg ((ms.map (·.1)).map Nw.nd) b i) :
  Calls Tryz.prog 30 #[.slice a n c, .int .i64 i] w (AnsB w (nodeX ((ms.map (·.1)).map Nw.nd) i)) := by
 obtain ⟨y, hy⟩ : ∃ y, ((ms.map (·.1)).map Nw.nd)[i]? = some y := ⟨_, List.getElem?_eq_getElem hs.le.2⟩
 obtain ⟨m, hm, rfl⟩ := nd_at hy
 obtain ⟨B1, B2, bV, hV⟩ := boxes2 w #[.slice a n c] #[.func (.func 56) #[] #[.pointer (some ⟨w.heap.size, 0, none⟩), .pointer (some ⟨w.heap.size + 1, 0, none⟩)]] 24 98
 have CN := clo_node (c := c) (h.below bV) ⟨B1, B2⟩ (hp.below bV) hs m hm 1 (by decide) (by decide) 0 (by decide) _ (Below.refl _ _)
 have e1 : partX ((ms.map (·.1)).map Nw.nd) i m.1.kind 1 = nodeX ((ms.map (·.1)).map Nw.nd) i := by
  unfold partX
  have := bindK_range m.1.kind
  rw [if_neg (by omega)]
 rw [e1] at CN
 generalize nodeX ((ms.map (·.1)).map Nw.nd) i = X at *
 have hmf : ∀ (fn : Fn) (first cap : Array Value) (v : World), (Instr.makeFunc fn first cap).run Tryz.prog v = .ok (.func fn first cap) v := fun _ _ _ _ => rfl
 unfold AnsB at CN ⊢
 have z0 := (B2.cell 0).1
 clear h hp hs hy hm e1 hV
 go_enter Tryz.func30, Tryz.ntmps30
 go_wp2_with (go_at_call 56; (with_reducible refine Calls.mono CN ?_); rintro e w1 ⟨rfl, d1⟩)
 go_ret
 exact ⟨rfl, below_more bV d1⟩
end
section
open Go.RowKit Go.Lib
theorem LetsEnd.each {l : List Nd} : ∀ {m : List (ByteArray × Int)} {b e : Nat}, LetsEnd l b m e → ∀ x ∈ m, nameB x.1 = true ∧ ∃ c i : Nat, x.2 = (i : Int) ∧ Seg l c i := by
 intro m
 induction m with
 | nil => intro b e _ x hx; exact absurd hx (by simp)
 | cons y m ih =>
  rintro b e ⟨i, hy, hn, hs, he⟩ x hx
  rcases List.mem_cons.1 hx with rfl | hx
  ·exact ⟨hn, b, i, hy, hs⟩
  ·exact ih he x hx
theorem letsX_take (l : List Nd) {m : List (ByteArray × Int)} {t : Nat} {x : ByteArray × Int} (h : m[t]? = some x) : letsX l (m.take (t + 1)) = letsX l (m.take t) ++ letX l x := by
 rw [List.take_add_one, h, Option.toList_some, letsX_app]
 show letsX l (m.take t) ++ (letX l x ++ ⟨#[]⟩) = _
 rw [show letX l x ++ (⟨#[]⟩ : ByteArray) = letX l x from ByteArray.append_empty]
theorem letsX_part (l : List Nd) (m : List (ByteArray × Int)) (t : Nat) : (letsX l (m.take t)).size ≤ (letsX l m).size := by
 conv => rhs; rw [← List.take_append_drop t m, letsX_app]
 rw [ByteArray.size_append]; omega
theorem let_size {ms : List Nw} (hf : ∀ m ∈ ms, fillR m = true) {lets : List (ByteArray × Int)} (hl : LetsEnd (ms.map Nw.nd) 0 lets (ms.map Nw.nd).length) (h1 : lets.length ≤ 40) (h2 : ms.length ≤ 400) : (letsX (ms.map Nw.nd) lets).size ≤ 45000 := by
 have := (lets_size hf lets 0 _ hl).2
 rw [join_lets, List.length_map] at this
 omega
theorem PgR.fill {w : World} {ia la oa a : Option Addr} {il ln ol n c : Nat} {ins outs : List ByteArray} {ls : List (ByteArray × Int)} {ms : List Mn} (h : PgR w ia la oa a il ln ol n c ins outs ls ms) (hr : rgtB ins outs ls (ms.map (·.1)) = true) : FillM w a n ms := by
 obtain ⟨hf, -, -, -, -, -, n1, -⟩ := rgt_parts hr
 refine ⟨h.hall, h.hnodes, hf, ?_⟩
 rw [List.length_map, h.hall.1] at n1
 omega
end
section
open Go.RowKit Go.Lib
theorem show_print {w : World} {ia la oa a : Option Addr} {il ic ln lc ol oc n c : Nat} {ins outs : List ByteArray} {ls : List (ByteArray × Int)} {ms : List Mn} (h : PgR w ia la oa a il ln ol n c ins outs ls ms) (hic : il ≤ ic) (hoc : ol ≤ oc) (hp : PowV w) (hr : rgtB ins outs ls (ms.map (·.1)) = true) :
  Calls Tryz.prog 12 #[.agg #[.slice ia il ic, .slice la ln lc, .slice oa ol oc, .slice a n c]] w (AnsB w (progX ins outs ls ((ms.map (·.1)).map Nw.nd))) := by
 obtain ⟨hf, hi, ho, hl, hi0, ho0, n1, n2, n3, n4, -⟩ := rgt_parts hr
 have FM := h.fill hr
 have hI := h.hins
 have hO := h.houts
 have hL := h.hlets
 have hlI := hI.1
 have hlO := hO.1
 have hlL := hL.1
 obtain ⟨B1, bV, -⟩ := boxes1 w #[.slice ia il ic, .slice la ln lc, .slice oa ol oc, .slice a n c] 26
 have RG := tree_right (ic := ic) (lc := lc) (oc := oc) (h.below bV) true hr
 have sI : ∀ x ∈ ins, x.size ≤ 40 := fun x hx => by have := name_short (hi x hx); omega
 have sO : ∀ x ∈ outs, x.size ≤ 40 := fun x hx => by have := name_short (ho x hx); omega
 have NI := fun (v : World) (b : Below w.heap.size w v) => show_join (hI.below b) hic sI (by omega)
 have NO := fun (v : World) (b : Below w.heap.size w v) => show_join (hO.below b) hoc sO (by omega)
 have zI : (nmX ins).size ≤ 1680 := by have := nmX_size sI; omega
 have zO : (nmX outs).size ≤ 1680 := by have := nmX_size sO; omega
 have LI := show_line inB (nmX ins) (by decide) (by omega)
 have LO := show_line outB (nmX outs) (by decide) (by omega)
 have eLI : inB ++ (⟨#[32]⟩ ++ (nmX ins ++ ⟨#[59, 10]⟩)) = lineX inB (nmX ins) := rfl
 have eLO : outB ++ (⟨#[32]⟩ ++ (nmX outs ++ ⟨#[59, 10]⟩)) = lineX outB (nmX outs) := rfl
 have e2 : (⟨#[32]⟩ : ByteArray).size = 1 := rfl
 have e3 : (⟨#[59, 10]⟩ : ByteArray).size = 2 := rfl
 have e4 : (⟨#[32, 61, 32]⟩ : ByteArray).size = 3 := rfl
 have e5 : inB.size = 2 := rfl
 have e6 : outB.size = 3 := rfl
 have e7 : letB.size = 3 := rfl
 have zLI : ((lineX inB (nmX ins)).size : Int) ≤ 1690 := by
  unfold lineX
  simp only [ByteArray.size_append]
  omega
 have zLO : ((lineX outB (nmX outs)).size : Int) ≤ 1690 := by
  unfold lineX
  simp only [ByteArray.size_append]
  omega
 rw [eLI] at LI
 rw [eLO] at LO
 have zL := let_size hf hl n3 n1
 have each := hl.each
 have HN : Hid (∀ (x : ByteArray × Int), x ∈ ls → ∃ i : Nat, x.2 = (i : Int) ∧ x.1.size ≤ 40 ∧ (nodeX ((ms.map (·.1)).map Nw.nd) i).size ≤ 40000 ∧ (∀ v, Below w.heap.size w v → Calls Tryz.prog 30 #[.slice a n c, .int .i64 i] v (AnsB v (nodeX ((ms.map (·.1)).map Nw.nd) i))) ∧
   (letX ((ms.map (·.1)).map Nw.nd) x).size ≤ 50000 ∧ ∀ v, Calls Tryz.prog 28 #[.string letB, .string (x.1 ++ ⟨#[32, 61, 32]⟩ ++ nodeX ((ms.map (·.1)).map Nw.nd) i)] v (AnsB v (letX ((ms.map (·.1)).map Nw.nd) x))) := fun x hx => by
  obtain ⟨e1, c', i, e, s⟩ := each x hx
  have hz1 : x.1.size ≤ 40 := by have := name_short e1; omega
  have hz2 : (nodeX ((ms.map (·.1)).map Nw.nd) i).size ≤ 40000 := by have := nodeX_size hf s; omega
  have hX : letX ((ms.map (·.1)).map Nw.nd) x = letB ++ (⟨#[32]⟩ ++ ((x.1 ++ ⟨#[32, 61, 32]⟩ ++ nodeX ((ms.map (·.1)).map Nw.nd) i) ++ ⟨#[59, 10]⟩)) := by
   unfold letX lineX
   rw [e, Int.toNat_natCast]
   simp only [ByteArray.append_assoc]
  refine ⟨i, e, hz1, hz2, fun v hv => show_expr (FM.below hv) (hp.below hv) s, ?_, fun v => ?_⟩
  ·rw [hX]
   simp only [ByteArray.size_append]
   omega
  ·rw [hX]
   exact show_line letB _ (by decide) (by simp only [ByteArray.size_append]; omega) v
 rw [progX_lines hi0 ho0]
 have HH : Hid (IsLt w la ln ls ∧ ls.length = ln ∧ ln ≤ 40 ∧ Below w.heap.size w (w.alloc (.cells #[.slice ia il ic, .slice la ln lc, .slice oa ol oc, .slice a n c] 26))) := ⟨hL, hlL, by omega, bV⟩
 have z0 := (B1.cell 0).1
 have z1 := (B1.cell 1).1
 have z2 := (B1.cell 2).1
 have z3 := (B1.cell 3).1
 have CB : Hid (∀ v, Below (w.alloc (.cells #[.slice ia il ic, .slice la ln lc, .slice oa ol oc, .slice a n c] 26)).heap.size (w.alloc (.cells #[.slice ia il ic, .slice la ln lc, .slice oa ol oc, .slice a n c] 26)) v → v.cell? ⟨w.heap.size, 0, none⟩ = some (.slice ia il ic) ∧ v.cell? ⟨w.heap.size, 1, none⟩ = some (.slice la ln lc) ∧ v.cell? ⟨w.heap.size, 2, none⟩ = some (.slice oa ol oc) ∧ v.cell? ⟨w.heap.size, 3, none⟩ = some (.slice a n c)) := fun v b => ⟨((B1.more b).cell 0).1, ((B1.more b).cell 1).1, ((B1.more b).cell 2).1, ((B1.more b).cell 3).1⟩
 generalize ((ms.map (·.1)).map Nw.nd) = NL at *
 have HZ : Hid (∀ t, ((letsX NL (ls.take t)).size : Int) ≤ 45000) := fun t => by have := letsX_part NL ls t; omega
 unfold AnsB at NI NO LI LO ⊢
 generalize lineX inB (nmX ins) = HD at *
 generalize lineX outB (nmX outs) = TL at *
 have eI : (⟨#[105, 110]⟩ : ByteArray) = inB := rfl
 have eO : (⟨#[111, 117, 116]⟩ : ByteArray) = outB := rfl
 have eL : (⟨#[108, 101, 116]⟩ : ByteArray) = letB := rfl
 rw [← eI] at LI
 rw [← eO] at LO
 rw [← eL] at HN
 have HN' : Hid (∀ (x : ByteArray × Int), x ∈ ls → ∃ i : Nat, x.2 = (i : Int) ∧ x.1.size ≤ 40 ∧ (nodeX NL i).size ≤ 40000 ∧ (∀ v, Below w.heap.size w v → Calls Tryz.prog 30 #[.slice a n c, .int .i64 i] v (AnsB v (nodeX NL i))) ∧ (letX NL x).size ≤ 50000 ∧ ∀ v, Calls Tryz.prog 28 #[.string ⟨#[108, 101, 116]⟩, .string (x.1 ++ ⟨#[32, 61, 32]⟩ ++ nodeX NL i)] v (AnsB v (letX NL x))) := HN
 clear hf hi ho hl hi0 ho0 n1 n2 n3 n4 FM hI hO hL hlI hlO hlL sI sO zL each h hr B1 hic hoc hp zI zO eLI eLO e2 e3 e4 e5 e6 e7 eI eO eL HN
 go_enter Tryz.func12, Tryz.ntmps12
 go_wp2_with (first
  | (go_at_call 15; (with_reducible refine Calls.mono RG ?_); rintro e w1 ⟨rfl, d1⟩; obtain ⟨x0, x1, x2, x3⟩ := CB.out w1 d1)
  | (go_at_call 29; (with_reducible refine Calls.mono (NI _ (below_more bV d1)) ?_); rintro e w2 ⟨rfl, d2⟩)
  | (go_at_call 28; (with_reducible refine Calls.mono (LI _) ?_); rintro e w3 ⟨rfl, d3⟩; obtain ⟨y0, y1, y2, y3⟩ := CB.out w3 (below_more (below_more d1 d2) d3)))
 have dV := below_more (below_more d1 d2) d3
 clear d1 d2 d3 x0 x1 x2 x3 z0 z1 z2 z3 y0 y1 y2 y3 RG NI LI bV
 go_loopg [3, 16] ln (fun g s3 s16 v => ∃ (t : Nat) (y : ByteArray), s3 = .string y ∧ s16 = .int .i64 t ∧ t + g = ln ∧ y = HD ++ letsX NL (ls.take t) ∧ Below (w.alloc (.cells #[.slice ia il ic, .slice la ln lc, .slice oa ol oc, .slice a n c] 26)).heap.size (w.alloc (.cells #[.slice ia il ic, .slice la ln lc, .slice oa ol oc, .slice a n c] 26)) v)
 case atStart =>
  refine ⟨0, _, rfl, rfl, by omega, ?_, dV⟩
  rw [show letsX NL (ls.take 0) = ⟨#[]⟩ from rfl]
  exact ByteArray.append_empty.symm
 case round =>
  obtain ⟨t, y, rfl, rfl, hg, hy, bw⟩ := hrel
  clear dV
  obtain ⟨hL, hlL, hl40, bV⟩ := HH.out
  have hyz : (y.size : Int) ≤ 47000 := by
   have q := HZ.out t
   rw [hy]
   simp only [ByteArray.size_append]
   omega
  obtain ⟨z0, z1, z2, z3⟩ := CB.out wr bw
  rcases Nat.lt_or_ge t ln with ht | ht
  ·have p1 : (t : Int) < ln := by omega
   obtain ⟨x, hx⟩ : ∃ x, ls[t]? = some x := ⟨_, List.getElem?_eq_getElem (by omega)⟩
   obtain ⟨i, hi, hxz, hnz, XC, hlz, LN⟩ := HN'.out x (List.mem_of_getElem? hx)
   have bW := below_more bV bw
   obtain ⟨g1, o1, rfl, k⟩ := (hL.below bW).2.resolve_left (by omega)
   have k1 := (k t x hx).1
   have k2 := (k t x hx).2
   rw [hi] at k2
   have NB := BoxC.new wr #[.string x.1, .int .i64 (i : Int)] 52
   have b1 : Below wr.heap.size wr (wr.alloc (.cells #[.string x.1, .int .i64 (i : Int)] 52)) := (Below.refl _ wr).alloc (Nat.le_refl _) _
   have SO : ∀ v, Below (wr.alloc (.cells #[.string x.1, .int .i64 (i : Int)] 52)).heap.size (wr.alloc (.cells #[.string x.1, .int .i64 (i : Int)] 52)) v → v.cell? ⟨wr.heap.size, 0, none⟩ = some (.string x.1) ∧ v.cell? ⟨wr.heap.size, 1, none⟩ = some (.int .i64 (i : Int)) ∧ v.cell? ⟨w.heap.size, 3, none⟩ = some (.slice a n c) := fun v b => ⟨((NB.more b).cell 0).1, ((NB.more b).cell 1).1, (CB.out v (below_more bw (below_more b1 b))).2.2.2⟩
   have st := letsX_take NL hx
   have HQ : Hid (t + 1 + (ln - (t + 1)) = ln ∧ ln - (t + 1) < gk ∧ y ++ letX NL x = HD ++ letsX NL (ls.take (t + 1))) := ⟨by omega, by omega, by rw [st, hy, ByteArray.append_assoc]⟩
   have WT : Hid (wrap64 ((t : Int) + 1) = (t : Int) + 1) := wrap_smalls (by omega) (by omega)
   have HW : Hid (Below w.heap.size w (wr.alloc (.cells #[.string x.1, .int .i64 (i : Int)] 52)) ∧ Below (w.alloc (.cells #[.slice ia il ic, .slice (some ⟨g1, o1, none⟩) ln lc, .slice oa ol oc, .slice a n c] 26)).heap.size (w.alloc (.cells #[.slice ia il ic, .slice (some ⟨g1, o1, none⟩) ln lc, .slice oa ol oc, .slice a n c] 26)) (wr.alloc (.cells #[.string x.1, .int .i64 (i : Int)] 52))) := ⟨below_more bW b1, below_more bw b1⟩
   have XCs := fun v (b : Below (wr.alloc (.cells #[.string x.1, .int .i64 (i : Int)] 52)).heap.size (wr.alloc (.cells #[.string x.1, .int .i64 (i : Int)] 52)) v) => XC v (below_more HW.out.1 b)
   have bs : Below (wr.alloc (.cells #[.string x.1, .int .i64 (i : Int)] 52)).heap.size (wr.alloc (.cells #[.string x.1, .int .i64 (i : Int)] 52)) (wr.alloc (.cells #[.string x.1, .int .i64 (i : Int)] 52)).drew := (Below.refl _ _).drew
   generalize hX : nodeX NL i = X at *
   generalize hLZ : letX NL x = LZ at *
   generalize hNM : x.1 = NM at *
   unfold AnsB at XCs LN
   have fz0 : (9223372036854775807 < NM.size + 3) = False := eq_false (by omega)
   have fz1 : (9223372036854775807 < NM.size + 3 + X.size) = False := eq_false (by omega)
   have fz2 : (9223372036854775807 < y.size + LZ.size) = False := eq_false (by omega)
   clear hg hy ht hx hi hxz hnz hlz XC st hL hlL hl40 bV bW bw HH CB HN' HZ z0 z2 z3 z1 k NB b1 hX hLZ hNM
   go_wp2
   go_region_held3 (fun v => v.cell? ⟨wr.heap.size, 0, none⟩ = some (.string NM) ∧ v.cell? ⟨wr.heap.size, 1, none⟩ = some (.int .i64 (i : Int)) ∧ v.cell? ⟨w.heap.size, 3, none⟩ = some (.slice a n c)) (exact SO _ bs) (first
    | (go_at_call 30; (with_reducible refine Calls.mono (XCs _ bs) ?_); rintro e w3 ⟨rfl, d3⟩; replace bs := below_more bs d3)
    | (go_at_call 28; (with_reducible refine Calls.mono (LN _) ?_); rintro e w4 ⟨rfl, d4⟩; replace bs := below_more bs d4))
   all_goals
    have wT := WT.out
    go_wp2
    obtain ⟨j1, j2, j3⟩ := HQ.out
    go_roundg (ln - (t + 1))
    case measure => exact j2
    case rel => exact ⟨t + 1, _, rfl, by first | rfl | (rw [wT]; rfl), j1, j3, below_more HW.out.2 bs⟩
  ·have p1 : ¬ (t : Int) < ln := by omega
   have e : y = HD ++ letsX NL ls := by rw [hy, List.take_of_length_le (by omega)]
   have bW := below_more bV bw
   have HE : Hid (y = HD ++ letsX NL ls ∧ Below w.heap.size w wr) := ⟨e, bW⟩
   clear hg hy ht HH hL hlL hl40 bV bw e CB HN' HZ z0 z3 z1
   go_wp2_with (first
    | (go_at_call 29; (with_reducible refine Calls.mono (NO _ bW) ?_); rintro e w2 ⟨rfl, d2⟩)
    | (go_at_call 28; (with_reducible refine Calls.mono (LO _) ?_); rintro e w3 ⟨rfl, d3⟩))
   go_ret
   refine ⟨?_, below_more HE.out.2 (below_more d2 d3)⟩
   rw [← ByteArray.append_assoc, ← HE.out.1]
   rfl
theorem show_Expr {w : World} {ia la oa a : Option Addr} {il ic ln lc ol oc n c : Nat} {ins outs : List ByteArray} {ls : List (ByteArray × Int)} {ms : List Mn} (h : PgR w ia la oa a il ln ol n c ins outs ls ms) (k : Int) (i : Nat) (hi : k = (i : Int)) (h1 : i < n) (hp : PowV w) (hr : rgtB ins outs ls (ms.map (·.1)) = true) :
  Calls Tryz.prog 14 #[.agg #[.slice ia il ic, .slice la ln lc, .slice oa ol oc, .slice a n c], .int .i64 k] w (AnsB w (nodeX ((ms.map (·.1)).map Nw.nd) i)) := by
 obtain ⟨B1, bV, -⟩ := boxes1 w #[.slice ia il ic, .slice la ln lc, .slice oa ol oc, .slice a n c] 26
 subst hi
 have RG := tree_right (ic := ic) (lc := lc) (oc := oc) (h.below bV) true hr
 obtain ⟨hf, -, -, hl, -, -, n1, -⟩ := rgt_parts hr
 have FM := h.fill hr
 obtain ⟨c', s⟩ := hl.seg i (Nat.zero_le _) (by rw [List.length_map, List.length_map, h.hall.1]; exact h1)
 have hz := nodeX_size hf s
 have XC := fun (v : World) (b : Below w.heap.size w v) => show_expr (c := c) (FM.below b) (hp.below b) s
 generalize nodeX ((ms.map (·.1)).map Nw.nd) i = X at *
 have CL := lib_clone X (by omega)
 have CB : Hid (∀ v, Below (w.alloc (.cells #[.slice ia il ic, .slice la ln lc, .slice oa ol oc, .slice a n c] 26)).heap.size (w.alloc (.cells #[.slice ia il ic, .slice la ln lc, .slice oa ol oc, .slice a n c] 26)) v → v.cell? ⟨w.heap.size, 3, none⟩ = some (.slice a n c)) := fun v b => ((B1.more b).cell 3).1
 have p0 : ¬ (i : Int) < 0 := by omega
 have p1 : ¬ (n : Int) ≤ (i : Int) := by omega
 unfold AnsB at XC
 unfold AnsB
 have z0 := (B1.cell 0).1
 have z1 := (B1.cell 1).1
 have z2 := (B1.cell 2).1
 have z3 := (B1.cell 3).1
 clear h hr hp hf hl n1 FM s hz h1
 go_enter Tryz.func14, Tryz.ntmps14
 go_wp2_with (first
  | (go_at_call 15; (with_reducible refine Calls.mono RG ?_); rintro e w1 ⟨rfl, d1⟩; have y3 := CB.out w1 d1)
  | (go_at_call 30; (with_reducible refine Calls.mono (XC _ (below_more bV d1)) ?_); rintro e w2 ⟨rfl, d2⟩)
  | (go_at_call 32; (with_reducible refine Calls.mono (CL _) ?_); rintro e w3 ⟨rfl, d3⟩))
 go_ret
 exact ⟨rfl, below_more bV (below_more d1 (below_more d2 d3))⟩
end
section
open Go.RowKit Go.Lib
theorem pg_fine {w : World} {i l o a : Value} {p : Pg} (h : IsPg w i l o a p) (F : FineP p) : ∃ ia ic la lc oa oc aa ac ms, i = .slice ia p.ins.length ic ∧ l = .slice la p.lets.length lc ∧ o = .slice oa p.outs.length oc ∧ a = .slice aa p.all.length ac ∧
  PgR w ia la oa aa p.ins.length p.lets.length p.outs.length p.all.length ac p.ins p.outs p.lets ms ∧ ms.map (·.1) = p.all.map rawOf := by
 obtain ⟨ia, ic, la, lc, oa, oc, aa, ac, ms, rfl, rfl, rfl, rfl, h1, h2, h3, h4, h5, h6, h7⟩ := h
 refine ⟨ia, ic, la, lc, oa, oc, aa, ac, ms, rfl, rfl, rfl, rfl, ⟨h1.isS, h2.isLt, h3.isS, h4, fun m hm => ?_, fun x hx => ?_, h7.1⟩, h5⟩
 ·obtain ⟨⟨x, y, e, q⟩, ⟨x', y', e', q'⟩⟩ := h6 m hm
  have hmm : m.1 ∈ p.all.map rawOf := by rw [← h5]; exact List.mem_map_of_mem hm
  obtain ⟨n, hn, hr⟩ := List.mem_map.1 hmm
  obtain ⟨-, g1, g2, g3⟩ := F.nodes n hn
  have e1 : m.1.xs = natOf n.num.2.1 := by rw [← hr]; rfl
  have e2 : m.1.ys = natOf n.num.2.2 := by rw [← hr]; rfl
  have e3 : m.1.name = n.name := by rw [← hr]; rfl
  exact ⟨⟨x, y, e, e ▸ q⟩, ⟨x', y', e', e' ▸ q'⟩, by rw [e1]; exact wd_natOf _, by rw [e2]; exact wd_natOf _, by rw [e1]; omega, by rw [e2]; omega, by rw [e3]; omega⟩
 ·obtain ⟨q1, q2, q3⟩ := F.lets x hx
  have := F.few.2.2.2
  exact ⟨by omega, by omega⟩
end
end Go.Proofs.YtaeladkcmpdkhaaGreatDoor
