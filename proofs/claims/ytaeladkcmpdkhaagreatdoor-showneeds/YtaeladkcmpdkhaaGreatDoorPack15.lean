/-
  Texts of mine in build order. No conditions of their own.
-/
import Derived.Laws.EntriesVeiled
import Derived.Deep.DeepCutAuto
import Derived.Test.YtaeladkcmpdkhaaGreatDoorPack14
set_option maxHeartbeats 4000000
namespace Go.Proofs.YtaeladkcmpdkhaaGreatDoor
section
open Go.RowKit Go.Shelf
attribute [local go_sem] Oper.semAt_some
theorem blk_new (v : World) (o : Obj) : (v.alloc o).heap[v.heap.size]? = some o := by show (v.heap.push o)[v.heap.size]? = _; simp
theorem cell_of_box {w : World} {k : Nat} {v : Value} {T : TypeId} (h : w.heap[k]? = some (.cells #[v] T (0, 0))) : w.cell? ⟨k, 0, none⟩ = some v ∧ w.frozen? ⟨k, 0, none⟩ = false := by
 simp [World.cell?, World.frozen?, h]
theorem box_set {w : World} {k : Nat} {v : Value} {T : TypeId} (h : w.heap[k]? = some (.cells #[v] T (0, 0))) (u : Value) : (w.setCell ⟨k, 0, none⟩ u).heap[k]? = some (.cells #[u] T (0, 0)) := Boxed.set u h
def PrintAt (w V : World) (N m : Nat) (k : Nat) (W : World) : Prop :=
  ∃ (a : Option Addr) (c : Nat) (bs : List UInt8), W.heap[w.heap.size]? = some (.cells #[.slice a (9 * k) c] 89 (0, 0)) ∧ RowB (V.heap.size + 2) W (.slice a (9 * k) c) (9 * k) bs ∧ DigS bs ∧ valD bs = N / 1000000000 ^ (m - k) ∧
    (∀ j, j < V.heap.size → j ≠ w.heap.size → W.heap[j]? = V.heap[j]?) ∧ Below w.heap.size w W
theorem PrintAt.more {w V : World} {N m k : Nat} {A B : World} (h : PrintAt w V N m k A) (hb : Below A.heap.size A B) : PrintAt w V N m k B := by
 obtain ⟨a, c, bs, h1, h2, h3, h4, h5, h6⟩ := h
 refine ⟨a, c, bs, (hb.block _ (Array.getElem?_eq_some_iff.1 h1).1).trans h1, h2.more hb, h3, h4, fun j hj hne => ?_, below_more h6 hb⟩
 have e := h5 j hj hne
 rw [← e]
 exact hb.block j (by
  rcases Nat.lt_or_ge j A.heap.size with h | h
  ·exact h
  ·rw [Array.getElem?_eq_none h, Array.getElem?_eq_getElem hj] at e; cases e)
theorem PrintAt.put {w V : World} {N m k : Nat} {A : World} (h : PrintAt w V N m k A) (hV : w.heap.size < V.heap.size) {r : Nat} (hr : r = V.heap.size ∨ r = V.heap.size + 1) (o : Obj) : PrintAt w V N m k (A.putObj r o) := by
 obtain ⟨a, c, bs, h1, h2, h3, h4, h5, h6⟩ := h
 exact ⟨a, c, bs, (World.putObj_heap_other (by omega)).trans h1, h2.keep fun j hj => World.putObj_heap_other (by omega), h3, h4, fun j hj hne => (World.putObj_heap_other (by omega)).trans (h5 j hj hne), below_put h6 (by omega) o⟩
theorem PrintAt.next {w V : World} {N m k : Nat} {A B : World} {a a' : Option Addr} {c c' : Nat} {bs : List UInt8} {g : Int} (hk : k < m) (hV : w.heap.size < V.heap.size)
  (h1 : A.heap[w.heap.size]? = some (.cells #[.slice a (9 * k) c] 89 (0, 0))) (h3 : DigS bs) (h4 : valD bs = N / 1000000000 ^ (m - k)) (h5 : ∀ j, j < V.heap.size → j ≠ w.heap.size → A.heap[j]? = V.heap[j]?) (h6 : Below w.heap.size w A)
  (hg : g = ((N / 1000000000 ^ (m - 1 - k) % 1000000000 : Nat) : Int)) (hr : RowB (V.heap.size + 2) B (.slice a' (9 * k + 9) c') (9 * k + 9) (bs ++ pad 9 g.toNat)) (hb : Below (V.heap.size + 2) A B) :
  PrintAt w V N m (k + 1) (B.setCell ⟨w.heap.size, 0, none⟩ (.slice a' (9 * k + 9) c')) := by
 have b1 : B.heap[w.heap.size]? = some (.cells #[.slice a (9 * k) c] 89 (0, 0)) := (hb.block _ (by omega)).trans h1
 have hgn : g.toNat = N / 1000000000 ^ (m - 1 - k) % 1000000000 := by rw [hg]; exact Int.toNat_natCast _
 refine ⟨a', c', bs ++ pad 9 g.toNat, box_set b1 _, hr.keep fun j hj => Below.heap_setCell _ _ _ _ (by simp; omega), digS_append.2 ⟨h3, digS_pad _ _⟩, ?_, fun j hj hne => ?_, ?_⟩
 ·rw [valD_group _ (by rw [hgn]; exact Nat.mod_lt _ (by decide)), h4, hgn, show (10 : Nat) ^ 9 = 1000000000 from rfl, show m - k = (m - 1 - k) + 1 by omega, told_step, show m - 1 - k = m - (k + 1) by omega]
 ·rw [Below.heap_setCell _ _ _ _ (by simpa using hne), hb.block j (by omega)]; exact h5 j hj hne
 ·exact (h6.trans (hb.mono (by omega))).setCell (p := ⟨w.heap.size, 0, none⟩) (Nat.le_refl _) _
theorem Row.stay {w w' : World} {v : Value} {n : Nat} {xs : List Int} {n₀ : Nat} (h : Row n₀ w v n xs) (hb : ∀ k, n₀ ≤ k → k < w.heap.size → w'.heap[k]? = w.heap[k]?) : Row n₀ w' v n xs := by
 refine ⟨h.1, ?_⟩
 rcases h.2 with h0 | ⟨g, cap, cur, e, h1, hg, h2⟩
 ·exact .inl h0
 ·exact .inr ⟨g, cap, cur, e, h1, (hb g h1 (Array.getElem?_eq_some_iff.1 hg).1).trans hg, h2⟩
theorem conv_row {n₀ : Nat} {w : World} {a : Option Addr} {n c : Nat} {bs : List UInt8} (h : RowB n₀ w (.slice a n c) n bs) :
  Sem.run Tryz.prog (convert 89 9 (.slice a n c)) w = .ok (.string ⟨bs.toArray⟩) w := by
 have hl := h.length
 rcases h.cell with ⟨rfl, rfl⟩ | ⟨g, rfl, hc⟩
 ·subst hl
  rw [run_convert_bytes_string w 89 9 5 none _ c Tryz.underlying89 Tryz.underlying5 Tryz.underlying9]
  simp [Conv.bytesToString, go_sem]
  rfl
 ·subst hl
  exact run_convert_bytes_back (P := Tryz.prog) w 89 9 5 ⟨g, 0, none⟩ c bs Tryz.underlying89 Tryz.underlying5 Tryz.underlying9 hc
theorem deci_print : PrintOk := by
 intro a n c zs w h hz hn N hN
 have G := deci_groups (w := w.alloc (.cells #[.slice none 0 0] 89)) (h.below ((Below.refl _ _).alloc (Nat.le_refl _) _)) hz hn N hN
 clear h hz hn hN
 refine (callsIn_wide (n := 3)).1 ?_
 refine callsIn_of_wp_marks Tryz.func87 rfl trivial ?_ rfl
 simp only [Tryz.ntmps87, List.size_toArray, List.length_cons, List.length_nil, Nat.reduceAdd, Nat.reduceSub, Array.replicate_succ, Array.replicate_zero, List.push_toArray, List.append_toArray, List.nil_append, List.cons_append]
 gi_wp2_with (first
  | (refine ⟨trivial, ?_⟩; gi_at_call 118; (with_reducible refine CallsIn.mono (callsIn_wide.2 G) ?_); rintro e w1 ⟨a1, m, c1, ys, rfl, o1, hgr, hNm, hm⟩)
  | (refine ⟨trivial, ?_⟩; gi_at_call 117; refine (back_made _ _ _ _ _).mono ?_; rintro e w' ⟨rfl, rfl⟩))
 obtain ⟨V, hV⟩ : ∃ V, w1.alloc (.cells #[.slice a1 m c1] 43) = V := ⟨_, rfl⟩
 have z1 : w.heap.size + 1 ≤ w1.heap.size := by have := o1.below.size; simpa using this
 have zV : V.heap.size = w1.heap.size + 1 := by rw [← hV]; simp
 have b1 : Below w.heap.size w w1 := ((Below.refl _ w).alloc (Nat.le_refl _) (.cells #[.slice none 0 0] 89)).trans (o1.below.mono (by simp))
 have bV : Below w.heap.size w V := by rw [← hV]; exact b1.alloc (by omega) _
 have k0 : V.heap[w.heap.size]? = some (.cells #[.slice none 0 0] 89 (0, 0)) := by
  rw [← hV, Below.heap_alloc _ _ _ (by omega), o1.below.block _ (by simp)]; exact blk_new w _
 have k1 : V.heap[w1.heap.size]? = some (.cells #[.slice a1 m c1] 43 (0, 0)) := by rw [← hV]; exact blk_new w1 _
 have r1 : Row (w.heap.size + 1) V (.slice a1 m c1) m ys := by rw [← hV]; exact (o1.alloc _).row (by simp)
 rw [hV]
 clear hV G o1
 refine wpIn_range_made (x := fun k => .int .i64 ((m : Int) - 1 - k)) (y := fun k => .int .u32 (ys.getD (m - 1 - k) 0)) rfl (by omega) (gf := 145) (lb := #[.pointer (some ⟨w1.heap.size, 0, none⟩)]) rfl trivial (enters_of Tryz.func145 (by kernel_rfl) rfl)
  m (PrintAt w V N m) ⟨none, 0, [], by rw [Nat.mul_zero]; exact k0, RowB.nil _ _, (fun c hc => by cases hc), by rw [valD_nil, Nat.sub_zero, Nat.div_eq_of_lt hNm], fun _ _ _ => rfl, bV⟩ (fun k A B h hb => h.more hb) (fun k A r o h hr => h.put (by omega) hr o)
  (fun k => { tmps := #[.slice a n c, undef, .string ⟨#[]⟩, .pointer (some ⟨w.heap.size, 0, none⟩), undef, .int .u32 (ys.getD (m - 1 - k) 0), undef, .slice a n c, .slice a1 m c1, .func (.func 145) #[] #[.pointer (some ⟨w1.heap.size, 0, none⟩)], .int .i64 ((m : Int) - 1 - k), .int .u32 (ys.getD (m - 1 - k) 0), undef, undef, undef, undef, undef, undef, undef, undef, undef], defers := [] })
  ?assign ?body ?seq ?done
 case assign =>
  intro l k W K hK
  gi_wp2
  exact hK
 case body =>
  rintro l k W hk ⟨a5, c5, bs, h1, h2, h3, h4, h5, h6⟩ hz
  have hg := hgr.2 (m - 1 - k) (by omega)
  obtain ⟨z, hzd⟩ : ∃ z, ys.getD (m - 1 - k) 0 = z := ⟨_, rfl⟩
  rw [hzd] at hg
  have hz0 : 0 ≤ z := by omega
  have hz1 : z < 4294967296 := by omega
  have A1 := fun q => CallsIn.inRound l ((callsIn_wide (n := q)).2 (deci_appendGroup (V.heap.size + 2) a5 (9 * k) c5 bs z W h2 hz (by omega) hz0 hz1))
  have hcell := cell_of_box h1
  have HK : Hid (∀ (a' : Option Addr) (c' : Nat) (B : World), RowB (V.heap.size + 2) B (.slice a' (9 * k + 9) c') (9 * k + 9) (bs ++ pad 9 z.toNat) → Below (V.heap.size + 2) W B → PrintAt w V N m (k + 1) (B.setCell ⟨w.heap.size, 0, none⟩ (.slice a' (9 * k + 9) c'))) := fun a' c' B hr hb => PrintAt.next hk (by omega) h1 h3 h4 h5 h6 hg hr hb
  rw [hzd]
  obtain ⟨hc1, hc2⟩ := hcell
  have hbx : ∀ B, Below (V.heap.size + 2) W B → B.cell? ⟨w.heap.size, 0, none⟩ = some (.slice a5 (9 * k) c5) ∧ B.frozen? ⟨w.heap.size, 0, none⟩ = false := fun B hb => cell_of_box ((hb.block _ (by omega)).trans h1)
  clear hg hzd h1 h2 h3 h4 h5 h6 hgr
  gi_wp2_with (refine ⟨trivial, ?_⟩; gi_at_call 119; (with_reducible refine CallsIn.mono (A1 _) ?_); rintro e B ⟨a6, c6, rfl, r6, b6⟩; obtain ⟨hd1, hd2⟩ := hbx B b6)
  exact ⟨HK.out _ _ _ r6 b6, b6.size, (Below.heap_setCell _ _ _ _ (by simp; omega)).trans (b6.block _ (by omega)), (Below.heap_setCell _ _ _ _ (by simp; omega)).trans (b6.block _ (by omega))⟩
 case seq =>
  intro l J W hJI hJb hY h0
  refine (back_iter 2 l w1.heap.size (by omega) J a1 m c1 ys (by omega) (fun k A hj => ?_) (fun k A hk hj => hY k A hk hj) W h0).mono ?_
  ·obtain ⟨a5, c5, bs, h1, h2, h3, h4, h5, h6⟩ := hJI k A hj
   exact ⟨(cell_of_box ((h5 _ (by omega) (by omega)).trans k1)).1, (r1.stay fun j hj1 hj2 => h5 j hj2 (by omega)).words⟩
  ·rintro e B ⟨hv, hj⟩
   exact ⟨hv, hj⟩
 case done =>
  rintro D W hD1 hD2 ⟨a5, c5, bs, h1, h2, h3, h4, h5, h6⟩ hz hK
  have CV := conv_row h2
  have hlen := h2.length
  rw [Nat.sub_self, Nat.pow_zero, Nat.div_one] at h4
  have T := trim_left ⟨bs.toArray⟩ W (by show bs.toArray.size ≤ maxLen; unfold maxLen; simp; omega)
  rw [show (ByteArray.mk bs.toArray).data.toList = bs by simp, trim_dg h3, h4] at T
  obtain ⟨hc1, hc2⟩ := cell_of_box h1
  have HB : Hid (Below w.heap.size w W ∧ w.heap.size ≤ D) := ⟨h6, by omega⟩
  rcases Nat.eq_zero_or_pos N with h0 | h0
  ·subst h0
   rw [dg_zero] at T
   clear h1 h2 h3 h4 h5 h6 hgr hlen
   gi_wp2_with (refine ⟨trivial, ?_⟩; gi_at_call 120; (with_reducible refine CallsIn.mono (callsIn_wide.2 T) ?_); rintro e W2 ⟨rfl, rfl⟩)
   refine ⟨by simp, .inl ⟨_, _, rfl, run_takeDeferred hK, ?_⟩⟩
   exact ⟨_, results_tmp rfl _ _ _, by rw [decOf_zero]; rfl, below_put HB.out.1 HB.out.2 _⟩
  ·have he : (ByteArray.mk (dg N).toArray).toList.isEmpty = false := by
    rw [ByteArray.toList_eq]
    have := dg_ne h0
    simpa using this
   have HD : Hid (decOf N = dg N) := decOf_pos h0
   generalize hS : ByteArray.mk (dg N).toArray = S at T he
   have HS : Hid (ByteArray.mk (dg N).toArray = S) := hS
   clear hS h0
   clear h1 h2 h3 h4 h5 h6 hgr hlen
   gi_wp2_with (refine ⟨trivial, ?_⟩; gi_at_call 120; (with_reducible refine CallsIn.mono (callsIn_wide.2 T) ?_); rintro e W2 ⟨rfl, rfl⟩)
   refine ⟨by simp, .inl ⟨_, _, rfl, run_takeDeferred hK, ?_⟩⟩
   exact ⟨_, results_tmp rfl _ _ _, by rw [HD.out, HS.out]; rfl, below_put HB.out.1 HB.out.2 _⟩
theorem deci_digits : DigitsOk := by
 intro a n c zs w h hz hn N hN
 have P := deci_print h hz hn N hN
 have hl : (decOf N).length ≤ 10000000 := by
  have := decOf_words (A := N) (n := 1000000) (by rw [← hN]; exact nl_small hz _ (by rw [h.len]; exact hn)) (by omega)
  omega
 have HS : Hid ((decOf N).length ≤ 10000000) := hl
 clear h hz hn hN hl
 generalize hS : ByteArray.mk (decOf N).toArray = S at P
 have e : S.size = (decOf N).length := by rw [← hS]; show (decOf N).toArray.size = _; simp
 have hs : (S.size : Int) ≤ 10000000 := by have := HS.out; omega
 rw [← e]
 clear e hS HS
 go_enter Tryz.func182, Tryz.ntmps182
 go_wp2_with (go_at_call 87; (with_reducible refine Calls.mono P ?_); rintro e w1 ⟨rfl, b1⟩)
 go_ret
 exact ⟨rfl, b1⟩
end
section
open Go.RowKit
theorem minus_parts (s : ByteArray) (hs : s.size ≤ maxLen) : ∃ (g : Bool) (u : ByteArray), stripI s.data.toList = u.data.toList ∧ minusI s.data.toList = g ∧ u.size ≤ maxLen ∧
  (s.size = 0 ∧ g = false ∧ u = s ∨ 0 < s.size ∧ g = true ∧ ((s.extract 0 1).toList == [45]) = true ∧ s.extract 1 s.size = u ∨ 0 < s.size ∧ g = false ∧ ((s.extract 0 1).toList == [45]) = false ∧ u = s) := by
 rcases Nat.eq_zero_or_pos s.size with h0 | h0
 ·have e : s.data.toList = [] := List.eq_nil_of_length_eq_zero (by simpa using h0)
  exact ⟨false, s, by rw [e]; rfl, by rw [e]; rfl, hs, .inl ⟨h0, rfl, rfl⟩⟩
 ·have hh : s.data.toList = s[0] :: s.data.toList.tail := by
   have := drop_byte s 0 h0
   rw [List.drop_zero] at this
   rw [this]; rfl
  have hx : s.extract 0 1 = ⟨#[s[0]]⟩ := by
   refine ByteArray.ext ?_
   rw [← Array.toList_inj, ByteArray.data_extract, Array.toList_extract]
   rw [hh]; rfl
  by_cases hc : s[0] = 45
  ·refine ⟨true, s.extract 1 s.size, ?_, ?_, ?_, .inr (.inl ⟨h0, rfl, ?_, rfl⟩)⟩
   ·rw [extract_tail]; unfold stripI; rw [if_pos (by rw [hh, hc]; rfl)]
   ·unfold minusI; rw [hh, hc]; rfl
   ·rw [ByteArray.size_extract]; unfold maxLen at hs ⊢; omega
   ·rw [hx, hc, ByteArray.toList_eq]; rfl
  ·refine ⟨false, s, ?_, ?_, hs, .inr (.inr ⟨h0, rfl, ?_, rfl⟩)⟩
   ·unfold stripI; rw [if_neg (by rw [hh]; intro e; exact hc (Option.some.inj e))]
   ·unfold minusI; rw [hh]; simp [hc]
   ·rw [hx, ByteArray.toList_eq, beq_eq_false_iff_ne]
    intro e
    exact hc (List.cons.inj e).1
theorem cut_minus {s : ByteArray} {g : Bool} {u : ByteArray} (hs : s.size ≤ maxLen) (h : s.size = 0 ∧ g = false ∧ u = s ∨ 0 < s.size ∧ g = true ∧ ((s.extract 0 1).toList == [45]) = true ∧ s.extract 1 s.size = u ∨ 0 < s.size ∧ g = false ∧ ((s.extract 0 1).toList == [45]) = false ∧ u = s) (w : World) :
  Calls Tryz.prog 158 #[.string s, .string ⟨#[45]⟩] w fun e w' => e = .returned (.tuple #[.string u, .bool g]) ∧ w = w' := by
 have H : ∀ (q : Bool), ((s.size = 0 ∧ q = false) ∨ (0 < s.size ∧ ((s.extract 0 1).toList == [45]) = q)) → Calls Tryz.prog 200 #[.string s, .string ⟨#[45]⟩] w fun e w' => e = .returned (.bool q) ∧ w = w' := by
  clear h
  intro q h
  unfold maxLen at hs
  rcases h with ⟨h0, rfl⟩ | ⟨h0, hq⟩
  case' inl => have h1 : ¬ (1 : Int) ≤ s.size := by omega
  case' inr => have h1 : (1 : Int) ≤ s.size := by omega
  all_goals
   go_enter Tryz.func200, Tryz.ntmps200
   go_wp2
   go_ret
   exact ⟨rfl, rfl⟩
 have H2 : Calls Tryz.prog 185 #[.string s, .string ⟨#[45]⟩] w fun e w' => e = .returned (.tuple #[.string u, .bool g]) ∧ w = w' := by
  unfold maxLen at hs
  rcases h with ⟨h0, rfl, rfl⟩ | ⟨h0, rfl, hq, hu⟩ | ⟨h0, rfl, hq, rfl⟩
  case' inl => have H1 := H false (.inl ⟨h0, rfl⟩)
  case' inr.inl =>
   have H1 := H true (.inr ⟨h0, hq⟩)
   have h1 : (1 : Int) ≤ s.size := by omega
  case' inr.inr => have H1 := H false (.inr ⟨h0, hq⟩)
  all_goals
   clear H
   go_enter Tryz.func185, Tryz.ntmps185
   go_wp2_with (go_at_call 200; (with_reducible refine Calls.mono H1 ?_); rintro e w1 ⟨rfl, rfl⟩)
   go_ret2
   exact ⟨rfl, rfl⟩
 clear H h
 go_enter Tryz.func158, Tryz.ntmps158
 go_wp2_with (go_at_call 185; (with_reducible refine Calls.mono H2 ?_); rintro e w1 ⟨rfl, rfl⟩)
 go_ret2
 exact ⟨rfl, rfl⟩
theorem whole_parse (s : ByteArray) (w : World) (hs : s.size ≤ maxLen) :
  Calls Tryz.prog 202 #[.string s] w (AnsIP w (znum s.data.toList) (zerr s.data.toList)) := by
 obtain ⟨b1, bV, hb⟩ := boxes1 w #[.bool false, .slice none 0 0] 83
 obtain ⟨g, u, hu, hg, hsz, hp⟩ := minus_parts s hs
 have CU := fun v => cut_minus hs hp v
 have P := fun v => deci_parse u v hsz
 unfold znum zerr
 rw [hu, hg]
 have G := fun v a1 c1 => whole_signed g a1 (nl (pnum u.data.toList)) c1 v _ (sign_nl g (pnum u.data.toList))
 have hE : perr u.data.toList = 0 ∨ (perr u.data.toList != 0) = true ∧ pnum u.data.toList = 0 := by
  by_cases h : perr u.data.toList = 0
  ·exact .inl h
  ·exact .inr ⟨by simpa using h, pnum_err h⟩
 unfold AnsP at P
 generalize pnum u.data.toList = K at *
 generalize perr u.data.toList = E at *
 clear hu hg hs hsz hp
 unfold AnsIP
 rw [iv_abs]
 rcases hE with rfl | ⟨hE, hK⟩
 ·generalize decide (iv g K < 0) = r at G ⊢
  go_enter Tryz.func202, Tryz.ntmps202
  go_wp2_with (first
   | (go_at_call 158; (with_reducible refine Calls.mono (CU _) ?_); rintro e w0 ⟨rfl, rfl⟩)
   | (go_at_call 205; (with_reducible refine Calls.mono (P _) ?_); rintro e w1 ⟨a1, c1, rfl, o1⟩)
   | (go_at_call 140; (with_reducible refine Calls.mono (G _ _ _) ?_); rintro e w2 ⟨rfl, d2⟩; obtain ⟨z0, z1, f0, f1⟩ := ((b1.more o1.below).more d2).cells2))
  have q := fun x y => (((o1.more d2).above bV).set (k := w.heap.size) (by omega) hb 0 x).set (k := w.heap.size) (by omega) hb 1 y
  exact bodyPost_ret (v := .tuple #[.agg #[.bool r, .slice a1 (nl K) c1], .int .i64 0]) (by simp [results, Tryz.results202, go_sem, z0, z1]) rfl ⟨a1, c1, rfl, (q _ _).own (by omega)⟩
 ·subst hK
  rw [iv_zero]
  clear G
  simp only [nl_zero] at P
  go_enter Tryz.func202, Tryz.ntmps202
  go_wp2_with (first
   | (go_at_call 158; (with_reducible refine Calls.mono (CU _) ?_); rintro e w0 ⟨rfl, rfl⟩)
   | (go_at_call 205; (with_reducible refine Calls.mono (P _) ?_); rintro e w1 ⟨a1, c1, rfl, o1⟩; obtain ⟨z0, z1, f0, f1⟩ := (b1.more o1.below).cells2))
  have B1 := below_more bV o1.below
  have q := fun x y => (B1.setCell (p := ⟨w.heap.size, 0, none⟩) (Nat.le_refl _) x).setCell (p := ⟨w.heap.size, 1, none⟩) (Nat.le_refl _) y
  exact bodyPost_ret (v := .tuple #[.agg #[.bool false, .slice none 0 0], .int .i64 E]) (by simp [results, Tryz.results202, go_sem, z0, z1]) rfl ⟨none, 0, by simp [nl_zero], by simpa [nl_zero, natOf_zero] using Own.nil (q _ _)⟩
theorem whole_print {s : Bool} {a : Option Addr} {n c : Nat} {x : Int} {w : World} (h : RI w s a n c x) :
  Calls Tryz.prog 83 #[.agg #[.bool s, .slice a n c]] w fun e w' => e = .returned (.string ⟨(decI x).toArray⟩) ∧ Below w.heap.size w w' := by
 have F1 := fun v (hb : Below w.heap.size w v) => whole_fix (h.below hb)
 obtain ⟨zs, h, hz, hn, rfl⟩ := h
 have P := fun v (hb : Below w.heap.size w v) => deci_print (h.below hb) hz (by omega) (iv s (val zs)).natAbs (by rw [iv_abs])
 have l1 : nl (iv s (val zs)).natAbs ≤ n := by rw [iv_abs]; exact nl_small hz n (by rw [h.len]; omega)
 generalize iv s (val zs) = z at *
 have ld := decOf_words (n := n + 1) (A := z.natAbs) (by omega) (by omega)
 have hsz : (1 : Int) + (decOf z.natAbs).length ≤ 9223372036854775807 := by omega
 obtain ⟨b1, bV, hs⟩ := boxes1 w #[.bool s, .slice a n c] 83
 unfold AnsI at F1
 clear h hz hn l1 ld
 have FD : ∀ (q : Bool) (a1 : Option Addr) (n1 c1 : Nat) (v : World), Sem.run Tryz.prog (Instr.field 83 (.agg #[.bool q, .slice a1 n1 c1]) 0) v = .ok (.bool q) v := fun q a1 n1 c1 v => by kernel_rfl
 by_cases h0 : z < 0
 case' pos =>
  have e : decI z = 45 :: decOf z.natAbs := if_pos h0
  rw [decide_eq_true h0] at F1
  have HA : Hid ((⟨#[45]⟩ ++ ⟨(decOf z.natAbs).toArray⟩ : ByteArray) = ⟨(45 :: decOf z.natAbs).toArray⟩) := by
   show _ = _
   rw [ByteArray.mk_append_mk]; simp
 case' neg =>
  have e : decI z = decOf z.natAbs := if_neg h0
  rw [decide_eq_false h0] at F1
 all_goals
  rw [e]
  clear e
  generalize decOf z.natAbs = l at *
  generalize z.natAbs = N at *
  obtain ⟨x0, x1, -, -⟩ := b1.cells2
  go_enter Tryz.func83, Tryz.ntmps83
  go_wp2_with (first
   | (go_at_call 87; (with_reducible refine Calls.mono (P _ bV) ?_); rintro e w1 ⟨rfl, d1⟩; obtain ⟨x0, x1, -, -⟩ := (b1.more d1).cells2)
   | (go_at_call 113; (with_reducible refine Calls.mono (F1 _ (below_more bV d1)) ?_); rintro e w2 ⟨a1, c1, rfl, o1⟩))
  go_ret
  first
   | exact ⟨rfl, below_more (below_more bV d1) o1.below⟩
   | exact ⟨by rw [← HA.out]; rfl, below_more (below_more bV d1) o1.below⟩
end
section
open Go.RowKit
def NR (k : Nat) (w : World) (s : Bool) (a : Option Addr) (n c : Nat) (b : Option Addr) (m d : Nat) (q : Rat) : Prop :=
 ∃ xs ys, IsWords w (.slice a n c) xs ∧ Wd xs ∧ IsWords w (.slice b m d) ys ∧ Wd ys ∧ n ≤ k ∧ m ≤ k ∧ 0 < val ys ∧ rv s (val xs) (val ys) = q
theorem rat_fraction (s : Bool) (a : Option Addr) (n c : Nat) (b : Option Addr) (m d : Nat) (w : World) :
  Calls Tryz.prog 138 #[.bool s, .slice a n c, .slice b m d] w fun e w' => e = .returned (.agg #[.bool s, .slice a n c, .slice b m d]) ∧ Below w.heap.size w w' := by
 go_enter Tryz.func138, Tryz.ntmps138
 go_wp2
 have b1 := BoxC.new w #[.bool s, .slice a n c, .slice b m d] 121
 obtain ⟨y0, y1, y2, g0, g1, g2⟩ := b1.cells3
 exact bodyPost_ret (v := .agg #[.bool s, .slice a n c, .slice b m d]) (by simp [results, Tryz.results138, go_sem, y0, y1, y2]) rfl ⟨rfl, (Below.refl _ _).alloc (Nat.le_refl _) _⟩
theorem rat_top (s : Bool) (a : Option Addr) (n c : Nat) (b : Option Addr) (m d : Nat) (w : World) :
  Calls Tryz.prog 84 #[.agg #[.bool s, .slice a n c, .slice b m d]] w fun e w' => e = .returned (.agg #[.bool s, .slice a n c]) ∧ Below w.heap.size w w' := by
 obtain ⟨b1, b2, bV, hs⟩ := boxes2 w #[.bool s, .slice a n c, .slice b m d] #[.bool s, .slice a n c] 121 83
 obtain ⟨y0, y1, g0, g1⟩ := b2.cells2
 go_enter Tryz.func84, Tryz.ntmps84
 go_wp2
 exact bodyPost_ret (v := .agg #[.bool s, .slice a n c]) (by simp [results, Tryz.results84, go_sem, y0, y1]) rfl ⟨rfl, bV⟩
def AnsN (k : Nat) (W : World) (q : Rat) (e : Ending) (w' : World) : Prop :=
 ∃ s a n c b m d, e = .returned (.agg #[.bool s, .slice a n c, .slice b m d]) ∧ NR k w' s a n c b m d q ∧ Below W.heap.size W w'
theorem rat_within {k : Nat} {s : Bool} {a : Option Addr} {n c : Nat} {b : Option Addr} {m d : Nat} {q : Rat} {w : World} (h : RR k w s a n c b m d q) (hk : k ≤ 100000) (hk1 : 1 ≤ k) :
  Calls Tryz.prog 111 #[.agg #[.bool s, .slice a n c, .slice b m d]] w (AnsN k w q) := by
 obtain ⟨xs, ys, h1, h2, h3, h4, h5, h6, rfl⟩ := h
 have B := fun v (hb : Below w.heap.size w v) => nat_bits' (h3.below hb) h4 (by omega) _ rfl
 obtain ⟨b1, b2, bV, hs⟩ := boxes2 w #[.bool s, .slice a n c, .slice b m d] #[.bool false, .slice none 0 0, .slice none 0 0] 45 121
 obtain ⟨x0, x1, x2, f0, f1, f2⟩ := b1.cells3
 rcases Nat.eq_zero_or_pos (val ys) with h | h
 ·rw [h] at B ⊢
  have O := fun v => nat_of 1 v (by omega) (by omega)
  have G := fun v b m d => rat_fraction false none 0 0 b m d v
  unfold Ans at O
  have e1 : (1 : Int).toNat = 1 := rfl
  rw [e1] at O
  have l1 : nl 1 ≤ 1 := nl_le 1 1 (by omega)
  have nb : ((nbits 0 : Nat) : Int) = 0 := by rw [nbits_zero]; rfl
  rw [nb] at B
  have fin : ∀ v a2 c2, IsWords v (.slice a2 (nl 1) c2) (natOf 1) → NR k v false none 0 0 a2 (nl 1) c2 (rv s (val xs) 0) := fun v a2 c2 p => ⟨[], natOf 1, (.inl ⟨rfl, rfl⟩), (fun _ h => by cases h), p, wd_natOf 1, by omega, by omega, by rw [val_natOf]; omega, by rw [rv_den0]; exact rv_num0 _ _⟩
  clear h1 h2 h3 h4 h5 h6 h hk hk1 nb
  generalize nl 1 = l at *
  go_enter Tryz.func111, Tryz.ntmps111
  go_wp2_with (first
   | (go_at_call 137; (with_reducible refine Calls.mono (B _ bV) ?_); rintro e w1 ⟨rfl, rfl⟩)
   | (go_at_call 86; (with_reducible refine Calls.mono (O _) ?_); rintro e w1 ⟨a2, c2, rfl, o1⟩)
   | (go_at_call 138; (with_reducible refine Calls.mono (G _ _ _ _) ?_); rintro e w2 ⟨rfl, d2⟩; have B2 := (b2.more o1.below).more d2; obtain ⟨y0, y1, y2, g0, g1, g2⟩ := B2.cells3))
  exact bodyPost_ret (v := .agg #[.bool false, .slice none 0 0, .slice a2 l c2]) (by simp [results, Tryz.results111, go_sem, y0, y1, y2]) rfl ⟨_, _, _, _, _, _, _, rfl, fin _ _ _ ((((o1.outer bV).more d2).box3 B2 (by decide) (by omega) _ _ _).words), below_set3 (below_more (below_more bV o1.below) d2) (by omega) _ _ _⟩
 ·have nb : ((nbits (val ys) : Int) == 0) = false := by have := nbits_pos (n := val ys) (by omega); simp; omega
  have fin : ∀ v, Below w.heap.size w v → NR k v s a n c b m d (rv s (val xs) (val ys)) := fun v hb => ⟨xs, ys, h1.below hb, h2, h3.below hb, h4, h5, h6, h, rfl⟩
  obtain ⟨y0, y1, y2, g0, g1, g2⟩ := b2.cells3
  clear h1 h2 h3 h4 h5 h6 h hk hk1
  generalize (nbits (val ys) : Int) = nn at *
  go_enter Tryz.func111, Tryz.ntmps111
  go_wp2_with (go_at_call 137; (with_reducible refine Calls.mono (B _ bV) ?_); rintro e w1 ⟨rfl, rfl⟩)
  have bE' := ((Below.refl w.heap.size w).alloc (Nat.le_refl _) (.cells #[.bool s, .slice a n c, .slice b m d] 45)).alloc (by simp) (.cells #[.bool s, .slice a n c, .slice b m d] 121)
  exact bodyPost_ret (v := .agg #[.bool s, .slice a n c, .slice b m d]) (by simp [results, Tryz.results111, go_sem]) rfl ⟨_, _, _, _, _, _, _, rfl, fin _ bE', bE'⟩
theorem rat_lowest {k : Nat} {s : Bool} {a : Option Addr} {n c : Nat} {b : Option Addr} {m d : Nat} {q : Rat} {w : World} (h : NR k w s a n c b m d q) (hk : k ≤ 100000000) :
  Calls Tryz.prog 112 #[.agg #[.bool s, .slice a n c, .slice b m d]] w (AnsR w q) := by
 obtain ⟨xs, ys, h1, h2, h3, h4, h5, h6, h7, rfl⟩ := h
 have L := fun v (hb : Below w.heap.size w v) => common_lowest (h1.below hb) h2 (h3.below hb) h4 (by omega) (by omega) _ _ rfl rfl
 unfold AnsDivB at L
 obtain ⟨b1, b2, bV, hs⟩ := boxes2 w #[.bool s, .slice a n c, .slice b m d] #[.bool false, .slice none 0 0, .slice none 0 0] 121 45
 obtain ⟨x0, x1, x2, f0, f1, f2⟩ := b1.cells3
 clear h1 h2 h3 h4 h5 h6 hk
 generalize val xs = A at *
 generalize val ys = D at *
 have HA : Hid (∀ e w', AnsT w (tri (rv s A D)) e w' → AnsR w (rv s A D) e w') := fun _ _ h => h
 have eT : tri (rv s A D) = (s && decide (0 < A / Nat.gcd A D), A / Nat.gcd A D, D / Nat.gcd A D) := by
  rcases Nat.eq_zero_or_pos A with e | e
  ·subst e
   rw [rv_num0, tri_zero, Nat.zero_div, Nat.gcd_zero_left, Nat.div_self h7]; simp
  ·rw [tri_rv s A D e h7]
   have hX : 0 < A / Nat.gcd A D := Nat.div_pos (Nat.le_of_dvd e (Nat.gcd_dvd_left _ _)) (Nat.gcd_pos_of_pos_left _ e)
   simp [hX]
 rw [eT] at HA
 rw [show low1 A D = A / Nat.gcd A D from if_neg (by omega), show decide (0 < D) = true from decide_eq_true h7] at L
 generalize A / Nat.gcd A D = X at *
 generalize D / Nat.gcd A D = Y at *
 clear eT h7
 have eX : decide (0 < X) = decide ((0 : Int) < (nl X : Int)) := by
  rcases Nat.eq_zero_or_pos X with e | e
  ·subst e; rw [nl_zero]; rfl
  ·have := nl_pos e
   rw [decide_eq_true e, decide_eq_true (by omega)]
 rw [eX] at HA
 clear eX
 rcases s with _ | _
 case' false =>
  rw [Bool.false_and] at HA
 case' true =>
  rw [Bool.true_and] at HA
 all_goals
  go_enter Tryz.func112, Tryz.ntmps112
  go_wp2_with (go_at_call 139; (with_reducible refine Calls.mono (L _ bV) ?_); rintro e w1 ⟨a1, c1, a2, c2, rfl, o1, o2⟩; obtain ⟨x0, x1, x2, -, -, -⟩ := (b1.more o1.below).cells3; obtain ⟨y0, y1, y2, g0, g1, g2⟩ := (b2.more o1.below).cells3)
  exact bodyPost_ret (v := .agg #[.bool _, .slice a1 (nl X) c1, .slice a2 (nl Y) c2]) (by simp [results, Tryz.results112, go_sem, y0, y1, y2]) rfl (HA.out _ _ (ansT_mk (((o1.above bV).set3 (by omega) hs _ _ _).own (by omega)) (((o2.above bV).set3 (by omega) hs _ _ _).own (by omega))))
end
section
open Go.RowKit
theorem rat_lowest' {k : Nat} {s : Bool} {a : Option Addr} {n c : Nat} {b : Option Addr} {m d : Nat} {q : Rat} {w : World} (h : NR k w s a n c b m d q) (hk : k ≤ 100000000) : Calls Tryz.prog 112 #[.agg #[.bool s, .slice a n c, .slice b m d]] w (AnsT w (tri q)) := rat_lowest h hk
theorem rat_fix {s : Bool} {a : Option Addr} {n c : Nat} {b : Option Addr} {m d : Nat} {q : Rat} {w : World} (h : RR 10000 w s a n c b m d q) : Calls Tryz.prog 82 #[.agg #[.bool s, .slice a n c, .slice b m d]] w (AnsR w q) := by
 have F := fun v (hb : Below w.heap.size w v) => rat_within (h.below hb) (by omega) (by omega)
 unfold AnsN at F
 have L := fun v s a n c b m d (p : NR 10000 v s a n c b m d (q)) => rat_lowest' p (by omega)
 have HA : Hid (∀ e w', AnsT w (tri (q)) e w' → AnsR w (q) e w') := fun _ _ h => h
 generalize tri (q) = tt at L HA
 obtain ⟨t0, tN, tD⟩ := tt
 unfold AnsT at L
 dsimp only at L
 clear h
 obtain ⟨b1, b2, bV, hs⟩ := boxes2 w #[.bool s, .slice a n c, .slice b m d] #[.bool false, .slice none 0 0, .slice none 0 0] 45 45
 obtain ⟨x0, x1, x2, -, -, -⟩ := b1.cells3
 go_enter Tryz.func82, Tryz.ntmps82
 have bs : Below w.heap.size w w := Below.refl _ _
 go_wp2_with (first
  | (go_at_call 111; (with_reducible refine Calls.mono (F _ bV) ?_); rintro e w1 ⟨s1, a1, n1, c1, a1', n1', c1', rfl, N1, d1⟩; replace bs := d1)
  | (go_at_call 112; (with_reducible refine Calls.mono (L _ _ _ _ _ _ _ _ N1) ?_); rintro e w9 ⟨a8, c8, a9, c9, rfl, o8, o9⟩; have d9 := o8.below; replace o8 := o8.outer (below_more bV bs); replace o9 := o9.outer (below_more bV bs); replace bs := below_more bs d9; obtain ⟨y0, y1, y2, g0, g1, g2⟩ := (b2.more bs).cells3))
 exact bodyPost_ret (v := .agg #[.bool t0, .slice a8 (nl tN) c8, .slice a9 (nl tD) c9]) (by simp [results, Tryz.results82, go_sem, y0, y1, y2]) rfl (HA.out _ _ (ansT_mk (o8.box3 (b2.more bs) rat_ne_u32 (by omega) _ _ _) (o9.box3 (b2.more bs) rat_ne_u32 (by omega) _ _ _)))
end
section
open Go.RowKit
theorem rat_make {s : Bool} {a : Option Addr} {n c : Nat} {xs : List Int} {t : Bool} {b : Option Addr} {m d : Nat} {ys : List Int} {w : World} (h : IsWords w (.slice a n c) xs) (hx : Wd xs) (k : IsWords w (.slice b m d) ys) (hy : Wd ys) (hn : n ≤ 10000) (hm : m ≤ 10000) :
  Calls Tryz.prog 203 #[.agg #[.bool s, .slice a n c], .agg #[.bool t, .slice b m d]] w (AnsTE w (mkT s (val xs) t (val ys)) (mkE (val ys))) := by
 have B := fun v (hb : Below w.heap.size w v) => nat_bits' (k.below hb) hy (by omega) _ rfl
 have G := fun v => rat_fraction (!(s == t)) a n c b m d v
 obtain ⟨b1, b2, b3, bV, hs⟩ := boxes3 w #[.bool s, .slice a n c] #[.bool t, .slice b m d] #[.bool false, .slice none 0 0, .slice none 0 0] 83 83 45
 obtain ⟨x0, x1, -, -⟩ := b1.cells2
 obtain ⟨z0, z1, -, -⟩ := b2.cells2
 unfold mkT mkE
 rcases Nat.eq_zero_or_pos (val ys) with h0 | h0
 ·rw [if_pos h0, if_pos h0]
  rw [h0, nbits_zero] at B
  obtain ⟨y0, y1, y2, g0, g1, g2⟩ := b3.cells3
  clear h k hx hy hn hm h0 G
  go_enter Tryz.func203, Tryz.ntmps203
  go_wp2_with (go_at_call 137; (with_reducible refine Calls.mono (B _ bV) ?_); rintro e w1 ⟨rfl, rfl⟩)
  exact bodyPost_ret (v := .tuple #[.agg #[.bool false, .slice none 0 0, .slice none 0 0], .int .i64 3]) (by simp [results, Tryz.results203, go_sem, y0, y1, y2]) rfl (ansTE_no bV)
 ·rw [if_neg (by omega), if_neg (by omega)]
  have nb : ((nbits (val ys) : Int) == 0) = false := by have := nbits_pos (n := val ys) (by omega); simp; omega
  have L := fun v (hb : Below w.heap.size w v) => rat_lowest' (k := 10000) (q := rv (!(s == t)) (val xs) (val ys)) (w := v) (s := !(s == t)) ⟨xs, ys, h.below hb, hx, k.below hb, hy, hn, hm, h0, rfl⟩ (by omega)
  generalize tri (rv (!(s == t)) (val xs) (val ys)) = tt at L ⊢
  obtain ⟨t0, tN, tD⟩ := tt
  unfold AnsT at L
  dsimp only at L
  clear h k hx hy hn hm h0
  generalize (nbits (val ys) : Int) = nn at *
  go_enter Tryz.func203, Tryz.ntmps203
  go_wp2_with (first
   | (go_at_call 137; (with_reducible refine Calls.mono (B _ bV) ?_); rintro e w1 ⟨rfl, rfl⟩)
   | (go_at_call 138; (with_reducible refine Calls.mono (G _) ?_); rintro e w1 ⟨rfl, bs⟩)
   | (go_at_call 112; (with_reducible refine Calls.mono (L _ (below_more bV bs)) ?_); rintro e w9 ⟨a8, c8, a9, c9, rfl, o8, o9⟩; have d9 := o8.below; replace o8 := o8.outer (below_more bV bs); replace o9 := o9.outer (below_more bV bs); replace bs := below_more bs d9; obtain ⟨y0, y1, y2, g0, g1, g2⟩ := (b3.more bs).cells3))
  exact bodyPost_ret (v := .tuple #[.agg #[.bool t0, .slice a8 (nl tN) c8, .slice a9 (nl tD) c9], .int .i64 0]) (by simp [results, Tryz.results203, go_sem, y0, y1, y2]) rfl (ansTE_mk (o8.box3 (b3.more bs) rat_ne_u32 (by omega) _ _ _) (o9.box3 (b3.more bs) rat_ne_u32 (by omega) _ _ _))
end
section
open Go.RowKit
theorem words_right {w : World} {a : Option Addr} {n c : Nat} {zs : List Int} (h : IsWords w (.slice a n c) zs) (hz : Wd zs) : lowN zs n = n ↔ natOf (val zs) = zs := by
 have h1 := (h.low hz).1
 have h2 := h.len
 constructor
 ·intro e
  rw [h1] at e
  rw [← (h.low hz).2.1, e, ← h2, List.take_length]
 ·intro e
  rw [h1]; unfold nl; rw [e, h2]
theorem right_no {s : Bool} {xs ys : List Int} {q : Rat} (h : decide (q.num < 0) = s ∧ natOf q.num.natAbs = xs ∧ natOf q.den = ys) : natOf (val xs) = xs ∧ natOf (val ys) = ys ∧ 0 < val ys ∧ ¬ (s = true ∧ val xs = 0) ∧ Nat.gcd (val xs) (val ys) = 1 := by
 obtain ⟨e1, e2, e3⟩ := h
 have v1 : val xs = q.num.natAbs := by rw [← e2, val_natOf]
 have v2 : val ys = q.den := by rw [← e3, val_natOf]
 refine ⟨by rw [v1]; exact e2, by rw [v2]; exact e3, by rw [v2]; exact q.den_pos, ?_, by rw [v1, v2]; exact q.reduced⟩
 rintro ⟨h1, h2⟩
 rw [h1] at e1
 have := of_decide_eq_true e1
 omega
theorem right_yes {s : Bool} {xs ys : List Int} {q : Rat} (hq : rv s (val xs) (val ys) = q) (h1 : natOf (val xs) = xs) (h2 : natOf (val ys) = ys) (h3 : 0 < val ys) (h4 : ¬ (s = true ∧ val xs = 0)) (h5 : Nat.gcd (val xs) (val ys) = 1) : decide (q.num < 0) = s ∧ natOf q.num.natAbs = xs ∧ natOf q.den = ys := by
 subst hq
 rw [rv_num _ _ _ h3, rv_den _ _ _ h3, h5, Nat.div_one, Nat.div_one, iv_abs, iv_neg]
 refine ⟨?_, h1, h2⟩
 cases s
 ·rfl
 ·rw [Bool.true_and]; exact decide_eq_true (by have : val xs ≠ 0 := fun e => h4 ⟨rfl, e⟩; omega)
theorem rat_right {s : Bool} {a : Option Addr} {n c : Nat} {xs : List Int} {b : Option Addr} {m d : Nat} {ys : List Int} {w : World} (h : IsWords w (.slice a n c) xs) (hx : Wd xs) (k : IsWords w (.slice b m d) ys) (hy : Wd ys) (hn : n ≤ 10000) (hm : m ≤ 10000) (q : Rat) (hq : rv s (val xs) (val ys) = q)
  (r : Bool) (hr : decide (decide (q.num < 0) = s ∧ natOf q.num.natAbs = xs ∧ natOf q.den = ys) = r) : Calls Tryz.prog 156 #[.agg #[.bool s, .slice a n c, .slice b m d]] w fun e w' => e = .returned (.bool r) ∧ Below w.heap.size w w' := by
 have R1 := fun v (hb : Below w.heap.size w v) => nat_Right a n c xs v (h.below hb)
 have R2 := fun v (hb : Below w.heap.size w v) => nat_Right b m d ys v (k.below hb)
 have AP := fun v (hb : Below w.heap.size w v) => common_apart (h.below hb) hx (k.below hb) hy (by omega) (by omega)
 have w1 := words_right h hx
 have w2 := words_right k hy
 have n0 : n = 0 → val xs = 0 := fun e => by
  have := h.len; subst e; rw [List.eq_nil_of_length_eq_zero this]; rfl
 have m0 : natOf (val ys) = ys → m ≠ 0 → 0 < val ys := fun e hm0 => by
  rcases Nat.eq_zero_or_pos (val ys) with e1 | e1
  ·rw [e1, natOf_zero] at e
   exact absurd (by have := k.len; rw [← e] at this; exact this.symm) hm0
  ·exact e1
 have n0' : natOf (val xs) = xs → n ≠ 0 → val xs ≠ 0 := fun e hm0 e1 => by
  rw [e1, natOf_zero] at e
  exact hm0 (by have := h.len; rw [← e] at this; exact this.symm)
 have m0' : m = 0 → val ys = 0 := fun e => by
  have := k.len; subst e; rw [List.eq_nil_of_length_eq_zero this]; rfl
 have NO : ∀ (P : Prop), P → (natOf (val xs) = xs ∧ natOf (val ys) = ys ∧ 0 < val ys ∧ ¬ (s = true ∧ val xs = 0) ∧ Nat.gcd (val xs) (val ys) = 1 → ¬ P) → r = false := fun P p f => by
  rw [← hr]; exact decide_eq_false (fun g => f (right_no g) p)
 obtain ⟨b1, bV, hs⟩ := boxes1 w #[.bool s, .slice a n c, .slice b m d] 45
 obtain ⟨x0, x1, x2, -, -, -⟩ := b1.cells3
 by_cases c1 : natOf (val xs) = xs
 case neg =>
  have e := NO _ c1 (fun g => not_not_intro g.1)
  subst e
  have R3 := fun v hb => R1 v hb false (decide_eq_false (fun e => c1 (w1.1 e)))
  clear R1 R2 AP w1 w2 NO n0 m0 n0' m0' c1 hr hq hn hm h k hx hy
  go_enter Tryz.func156, Tryz.ntmps156
  go_wp2_with (go_at_call 183; (with_reducible refine Calls.mono (R3 _ bV) ?_); rintro e w3 ⟨rfl, rfl⟩)
  go_ret
  exact ⟨rfl, bV⟩
 have R3 := fun v hb => R1 v hb true (decide_eq_true (w1.2 c1))
 by_cases c2 : natOf (val ys) = ys
 case neg =>
  have e := NO _ c2 (fun g => not_not_intro g.2.1)
  subst e
  have R4 := fun v hb => R2 v hb false (decide_eq_false (fun e => c2 (w2.1 e)))
  clear R1 R2 AP w1 w2 NO n0 m0 n0' m0' c1 c2 hr hq hn hm h k hx hy
  go_enter Tryz.func156, Tryz.ntmps156
  go_wp2_with (first
   | (go_at_call 183; (with_reducible refine Calls.mono (R3 _ bV) ?_); rintro e w3 ⟨rfl, rfl⟩)
   | (go_at_call 183; (with_reducible refine Calls.mono (R4 _ bV) ?_); rintro e w3 ⟨rfl, rfl⟩))
  go_ret
  exact ⟨rfl, bV⟩
 have R4 := fun v hb => R2 v hb true (decide_eq_true (w2.2 c2))
 by_cases c3 : m = 0
 case pos =>
  have e := NO _ (m0' c3) (fun g => by omega)
  subst e
  subst c3
  clear R1 R2 AP w1 w2 NO n0 m0 n0' m0' c1 c2 hr hq hn hm h k hx hy
  go_enter Tryz.func156, Tryz.ntmps156
  go_wp2_with (first
   | (go_at_call 183; (with_reducible refine Calls.mono (R3 _ bV) ?_); rintro e w3 ⟨rfl, rfl⟩)
   | (go_at_call 183; (with_reducible refine Calls.mono (R4 _ bV) ?_); rintro e w3 ⟨rfl, rfl⟩))
  go_ret
  exact ⟨rfl, bV⟩
 have c3' : (0 : Int) < (m : Int) := by omega
 have p3 := m0 c2 c3
 by_cases c4 : s = true ∧ n = 0
 case pos =>
  have e := NO (s = true ∧ val xs = 0) ⟨c4.1, n0 c4.2⟩ (fun g => g.2.2.2.1)
  subst e
  obtain ⟨rfl, rfl⟩ := c4
  clear R1 R2 AP w1 w2 NO n0 m0 n0' m0' c1 c2 hr hq hn hm h k hx hy p3
  go_enter Tryz.func156, Tryz.ntmps156
  go_wp2_with (first
   | (go_at_call 183; (with_reducible refine Calls.mono (R3 _ bV) ?_); rintro e w3 ⟨rfl, rfl⟩)
   | (go_at_call 183; (with_reducible refine Calls.mono (R4 _ bV) ?_); rintro e w3 ⟨rfl, rfl⟩))
  go_ret
  exact ⟨rfl, bV⟩
 have e5 : decide (Nat.gcd (val xs) (val ys) = 1) = r := by
  rw [← hr]
  by_cases g : Nat.gcd (val xs) (val ys) = 1
  ·rw [decide_eq_true g, decide_eq_true (right_yes hq c1 c2 p3 (fun e => n0' c1 (fun e2 => c4 ⟨e.1, e2⟩) e.2) g)]
  ·rw [decide_eq_false g, decide_eq_false (fun e => g (right_no e).2.2.2.2)]
 have A2 := fun v hb => AP v hb r e5
 have c5 : s = false ∨ s = true ∧ ((n : Int) == 0) = false := by
  cases s
  ·exact .inl rfl
  ·have hn0 : n ≠ 0 := fun e => c4 ⟨rfl, e⟩
   exact .inr ⟨rfl, by simp; omega⟩
 clear R1 R2 AP w1 w2 NO n0 m0 n0' m0' c1 c2 c3 c4 hr hq hn hm h k hx hy p3 e5
 rcases c5 with rfl | ⟨rfl, c5⟩
 all_goals
  go_enter Tryz.func156, Tryz.ntmps156
  go_wp2_with (first
   | (go_at_call 183; (with_reducible refine Calls.mono (R3 _ bV) ?_); rintro e w3 ⟨rfl, rfl⟩)
   | (go_at_call 183; (with_reducible refine Calls.mono (R4 _ bV) ?_); rintro e w3 ⟨rfl, rfl⟩)
   | (go_at_call 184; (with_reducible refine Calls.mono (A2 _ bV) ?_); rintro e w4 ⟨rfl, d4⟩))
  go_ret
  exact ⟨rfl, below_more bV d4⟩
theorem rat_print {s : Bool} {a : Option Addr} {n c : Nat} {b : Option Addr} {m d : Nat} {q : Rat} {w : World} (h : RR 10000 w s a n c b m d q) : Calls Tryz.prog 58 #[.agg #[.bool s, .slice a n c, .slice b m d]] w fun e w' => e = .returned (.string ⟨(decR q).toArray⟩) ∧ Below w.heap.size w w' := by
 have F := fun v (hb : Below w.heap.size w v) => rat_fix (h.below hb)
 unfold AnsR OwnR at F
 obtain ⟨l1, l2⟩ := h.rs (by omega)
 have P1 := fun v W a1 c1 (p : Own W v (.slice a1 (nl q.num.natAbs) c1) (nl q.num.natAbs) (natOf q.num.natAbs)) => whole_print (p.ri (by omega))
 have P2 := fun v a1 c1 (p : IsWords v (.slice a1 (nl q.den) c1) (natOf q.den)) => deci_print p (wd_natOf _) (by omega) q.den (val_natOf _)
 have T := fun v s a n c b m d => rat_top s a n c b m d v
 have E := fun v => nat_of 1 v (by omega) (by omega)
 have e1 : (1 : Int).toNat = 1 := rfl
 rw [e1] at E
 unfold Ans at E
 have C := fun v a1 c1 a2 c2 (p : IsWords v (.slice a1 (nl q.den) c1) (natOf q.den)) (p' : IsWords v (.slice a2 (nl 1) c2) (natOf 1)) => nat_cmp' p (wd_natOf _) p' (wd_natOf _) (sgn q.den 1) (by rw [val_natOf, val_natOf]; rfl)
 have hL1 := decI_wlen q.num l1 (by omega)
 have hL2 := decOf_words l2 (by omega)
 obtain ⟨b1, bV, hs⟩ := boxes1 w #[.bool s, .slice a n c, .slice b m d] 45
 obtain ⟨x0, x1, x2, -, -, -⟩ := b1.cells3
 unfold decR
 have hd : q.den = 1 ∧ (sgn (q.den : Int) 1 == 0) = true ∨ q.den ≠ 1 ∧ (sgn (q.den : Int) 1 == 0) = false := by
  by_cases hd : q.den = 1
  ·exact .inl ⟨hd, by rw [hd]; rfl⟩
  ·refine .inr ⟨hd, ?_⟩
   rcases Nat.lt_or_ge q.den 1 with h | h
   ·have := q.den_pos; omega
   ·rw [sgn_gt (by omega)]; rfl
 clear h l1 l2 e1
 rcases hd with ⟨hd, ec⟩ | ⟨hd, ec⟩
 case' inl => rw [if_pos hd]
 case' inr => rw [if_neg hd]
 all_goals
  clear hd
  generalize sgn (q.den : Int) 1 = sg at *
  generalize decide (q.num < 0) = s1 at *
  generalize decI q.num = T1 at *
  generalize decOf q.den = T2 at *
  generalize q.num.natAbs = N1 at *
  generalize q.den = D1 at *
  generalize nl 1 = one at *
  have hT1 : (T1.length : Int) + 1 ≤ 9223372036854775807 := by omega
  have hT2 : (T1.length : Int) + 1 + T2.length ≤ 9223372036854775807 := by omega
  have HT : Hid (ByteArray.mk T1.toArray ++ ByteArray.mk #[124] ++ ByteArray.mk T2.toArray = ByteArray.mk (T1 ++ 124 :: T2).toArray) := by show _ = _; rw [ByteArray.mk_append_mk, ByteArray.mk_append_mk]; simp
  clear hL1 hL2
  go_enter Tryz.func58, Tryz.ntmps58
  go_wp2_with (first
   | (go_at_call 82; (with_reducible refine Calls.mono (F _ bV) ?_); rintro e w1 ⟨a1, c1, a2, c2, rfl, o1, o2⟩; have p1 := fun o => o1.alloc o; have p2 := fun o => o2.alloc o; have B1 := BoxC.new w1 #[.bool s1, .slice a1 (nl N1) c1, .slice a2 (nl D1) c2] 121)
   | (go_at_call 84; (with_reducible refine Calls.mono (T _ _ _ _ _ _ _ _) ?_); rintro e w2 ⟨rfl, d2⟩)
   | (go_at_call 83; (with_reducible refine Calls.mono (P1 _ _ _ _ ((p1 _).more d2)) ?_); rintro e w3 ⟨rfl, d3⟩))
  have B2 := (B1.more d2).more d3
  have o4 := ((o2.alloc (.cells #[.bool s1, .slice a1 (nl N1) c1, .slice a2 (nl D1) c2] 121)).more d2).more d3
  clear p1 p2 B1 d2 d3 x0 x1 x2 b1 hs o1 o2
  generalize w1.heap.size = k3 at *
  generalize w3 = V at *
  have SO := fun v (hb : Below V.heap.size V v) => (B2.more hb).cells3.2.2.1
  have bs : Below V.heap.size V V.drew := (Below.refl _ _).drew
  go_region_held3 (fun v => v.cell? ⟨k3, 2, none⟩ = some (.slice a2 (nl D1) c2))
   (with_reducible exact SO _ bs)
   (first
   | (go_at_call 86; (with_reducible refine Calls.mono (E _) ?_); rintro e w5 ⟨a5, c5, rfl, o5⟩; replace bs := below_more bs o5.below)
   | (go_at_call 85; (with_reducible refine Calls.mono (C _ _ _ _ _ (o4.more bs).words o5.words) ?_); rintro e w6 ⟨rfl, d6⟩; replace bs := below_more bs d6))
  all_goals
   have x2 := SO _ bs
   have o6 := o4.more bs
   have b6 := below_more bV o6.below
   clear SO bs o4 o5 d6
   go_wp2_with (go_at_call 87; (with_reducible refine Calls.mono (P2 _ _ _ o6.words) ?_); rintro e w7 ⟨rfl, d7⟩; replace b6 := below_more b6 d7)
   go_ret
   first | exact ⟨rfl, b6⟩ | exact ⟨by rw [← HT.out]; rfl, b6⟩
end
end Go.Proofs.YtaeladkcmpdkhaaGreatDoor
