/-
  Contracts of package deci's functions Print and Digits, for every list of up to a million words: the number's digits, and how many they are; memory that was there stays.
-/
import Derived.Test.YtlokidddbkdclaaDoorDeciWalks
import Derived.Test.YtlokidddbkdclaaDoorDeciB
import Derived.Test.YtlokidddbkdclaaDoorDeciC
import Derived.Test.YtlokidddbkdclaaDoorDeciD
import Derived.Test.YtlokidddbkdclaaDoorDeciE
namespace Go.Proofs.YtlokidddbkdclaaDoor
open Go.RowKit Go.Shelf
attribute [local go_sem] Oper.semAt_some

theorem blk_new (v : World) (o : Obj) : (v.alloc o).heap[v.heap.size]? = some o := by show (v.heap.push o)[v.heap.size]? = _; simp
theorem cell_of_box {w : World} {k : Nat} {v : Value} {T : TypeId} (h : w.heap[k]? = some (.cells #[v] T (0, 0))) : w.cell? ⟨k, 0, none⟩ = some v ∧ w.frozen? ⟨k, 0, none⟩ = false := by
  simp [World.cell?, World.frozen?, h]
theorem box_set {w : World} {k : Nat} {v : Value} {T : TypeId} (h : w.heap[k]? = some (.cells #[v] T (0, 0))) (u : Value) : (w.setCell ⟨k, 0, none⟩ u).heap[k]? = some (.cells #[u] T (0, 0)) := Boxed.set u h

/-- Where Print stands: k groups have been told. -/
def PrintAt (w V : World) (N m : Nat) (k : Nat) (W : World) : Prop :=
  ∃ (a : Option Addr) (c : Nat) (bs : List UInt8), W.heap[w.heap.size]? = some (.cells #[.slice a (9 * k) c] 38 (0, 0)) ∧ RowB (V.heap.size + 2) W (.slice a (9 * k) c) (9 * k) bs ∧ DigS bs ∧ valD bs = N / 1000000000 ^ (m - k) ∧
    (∀ j, j < V.heap.size → j ≠ w.heap.size → W.heap[j]? = V.heap[j]?) ∧ Below w.heap.size w W

theorem PrintAt.more {w V : World} {N m k : Nat} {A B : World} (h : PrintAt w V N m k A) (hb : Below A.heap.size A B) : PrintAt w V N m k B := by
  obtain ⟨a, c, bs, h1, h2, h3, h4, h5, h6⟩ := h
  refine ⟨a, c, bs, (hb.block _ (Array.getElem?_eq_some_iff.1 h1).1).trans h1, h2.more hb, h3, h4, fun j hj hne => ?_, below_more h6 hb⟩
  have e := h5 j hj hne
  rw [← e]
  exact hb.block j (by
    rcases Nat.lt_or_ge j A.heap.size with h | h
    · exact h
    · rw [Array.getElem?_eq_none h, Array.getElem?_eq_getElem hj] at e; cases e)
theorem PrintAt.put {w V : World} {N m k : Nat} {A : World} (h : PrintAt w V N m k A) (hV : w.heap.size < V.heap.size) {r : Nat} (hr : r = V.heap.size ∨ r = V.heap.size + 1) (o : Obj) : PrintAt w V N m k (A.putObj r o) := by
  obtain ⟨a, c, bs, h1, h2, h3, h4, h5, h6⟩ := h
  exact ⟨a, c, bs, (World.putObj_heap_other (by omega)).trans h1, h2.keep fun j hj => World.putObj_heap_other (by omega), h3, h4, fun j hj hne => (World.putObj_heap_other (by omega)).trans (h5 j hj hne), below_put h6 (by omega) o⟩
theorem PrintAt.next {w V : World} {N m k : Nat} {A B : World} {a a' : Option Addr} {c c' : Nat} {bs : List UInt8} {g : Int} (hk : k < m) (hV : w.heap.size < V.heap.size)
    (h1 : A.heap[w.heap.size]? = some (.cells #[.slice a (9 * k) c] 38 (0, 0))) (h3 : DigS bs) (h4 : valD bs = N / 1000000000 ^ (m - k)) (h5 : ∀ j, j < V.heap.size → j ≠ w.heap.size → A.heap[j]? = V.heap[j]?) (h6 : Below w.heap.size w A)
    (hg : g = ((N / 1000000000 ^ (m - 1 - k) % 1000000000 : Nat) : Int)) (hr : RowB (V.heap.size + 2) B (.slice a' (9 * k + 9) c') (9 * k + 9) (bs ++ pad 9 g.toNat)) (hb : Below (V.heap.size + 2) A B) :
    PrintAt w V N m (k + 1) (B.setCell ⟨w.heap.size, 0, none⟩ (.slice a' (9 * k + 9) c')) := by
  have b1 : B.heap[w.heap.size]? = some (.cells #[.slice a (9 * k) c] 38 (0, 0)) := (hb.block _ (by omega)).trans h1
  have hgn : g.toNat = N / 1000000000 ^ (m - 1 - k) % 1000000000 := by rw [hg]; exact Int.toNat_natCast _
  refine ⟨a', c', bs ++ pad 9 g.toNat, box_set b1 _, hr.keep fun j hj => Below.heap_setCell _ _ _ _ (by simp; omega), digS_append.2 ⟨h3, digS_pad _ _⟩, ?_, fun j hj hne => ?_, ?_⟩
  · rw [valD_group _ (by rw [hgn]; exact Nat.mod_lt _ (by decide)), h4, hgn, show (10 : Nat) ^ 9 = 1000000000 from rfl, show m - k = (m - 1 - k) + 1 by omega, told_step, show m - 1 - k = m - (k + 1) by omega]
  · rw [Below.heap_setCell _ _ _ _ (by simpa using hne), hb.block j (by omega)]; exact h5 j hj hne
  · exact (h6.trans (hb.mono (by omega))).setCell (p := ⟨w.heap.size, 0, none⟩) (Nat.le_refl _) _

theorem Row.stay {w w' : World} {v : Value} {n : Nat} {xs : List Int} {n₀ : Nat} (h : Row n₀ w v n xs) (hb : ∀ k, n₀ ≤ k → k < w.heap.size → w'.heap[k]? = w.heap[k]?) : Row n₀ w' v n xs := by
  refine ⟨h.1, ?_⟩
  rcases h.2 with h0 | ⟨g, cap, cur, e, h1, hg, h2⟩
  · exact .inl h0
  · exact .inr ⟨g, cap, cur, e, h1, (hb g h1 (Array.getElem?_eq_some_iff.1 hg).1).trans hg, h2⟩

/-- string(text). -/
theorem conv_row {n₀ : Nat} {w : World} {a : Option Addr} {n c : Nat} {bs : List UInt8} (h : RowB n₀ w (.slice a n c) n bs) :
    Sem.run Tryd.prog (convert 38 9 (.slice a n c)) w = .ok (.string ⟨bs.toArray⟩) w := by
  have hl := h.length
  rcases h.cell with ⟨rfl, rfl⟩ | ⟨g, rfl, hc⟩
  · subst hl
    rw [run_convert_bytes_string w 38 9 5 none _ c Tryd.underlying38 Tryd.underlying5 Tryd.underlying9]
    simp [Conv.bytesToString, go_sem]
    rfl
  · subst hl
    exact run_convert_bytes_back (P := Tryd.prog) w 38 9 5 ⟨g, 0, none⟩ c bs Tryd.underlying38 Tryd.underlying5 Tryd.underlying9 hc

set_option maxHeartbeats 4000000 in
theorem deci_print : PrintOk := by
  intro a n c zs w h hz hn N hN
  have G := deci_groups (w := w.alloc (.cells #[.slice none 0 0] 38)) (h.below ((Below.refl _ _).alloc (Nat.le_refl _) _)) hz hn N hN
  clear h hz hn hN
  refine (callsIn_wide (n := 3)).1 ?_
  refine callsIn_of_wp_marks Tryd.func14 rfl trivial ?_ rfl
  simp only [Tryd.ntmps14, List.size_toArray, List.length_cons, List.length_nil, Nat.reduceAdd, Nat.reduceSub, Array.replicate_succ, Array.replicate_zero, List.push_toArray, List.append_toArray, List.nil_append, List.cons_append]
  gi_wp2_with (first
    | (refine ⟨trivial, ?_⟩; gi_at_call 29; (with_reducible refine CallsIn.mono (callsIn_wide.2 G) ?_); rintro e w1 ⟨a1, m, c1, ys, rfl, o1, hgr, hNm, hm⟩)
    | (refine ⟨trivial, ?_⟩; gi_at_call 28; refine (back_made _ _ _ _ _).mono ?_; rintro e w' ⟨rfl, rfl⟩))
  obtain ⟨V, hV⟩ : ∃ V, w1.alloc (.cells #[.slice a1 m c1] 23) = V := ⟨_, rfl⟩
  have z1 : w.heap.size + 1 ≤ w1.heap.size := by have := o1.below.size; simpa using this
  have zV : V.heap.size = w1.heap.size + 1 := by rw [← hV]; simp
  have b1 : Below w.heap.size w w1 := ((Below.refl _ w).alloc (Nat.le_refl _) (.cells #[.slice none 0 0] 38)).trans (o1.below.mono (by simp))
  have bV : Below w.heap.size w V := by rw [← hV]; exact b1.alloc (by omega) _
  have k0 : V.heap[w.heap.size]? = some (.cells #[.slice none 0 0] 38 (0, 0)) := by
    rw [← hV, Below.heap_alloc _ _ _ (by omega), o1.below.block _ (by simp)]; exact blk_new w _
  have k1 : V.heap[w1.heap.size]? = some (.cells #[.slice a1 m c1] 23 (0, 0)) := by rw [← hV]; exact blk_new w1 _
  have r1 : Row (w.heap.size + 1) V (.slice a1 m c1) m ys := by rw [← hV]; exact (o1.alloc _).row (by simp)
  rw [hV]
  clear hV G o1
  refine wpIn_range_made (x := fun k => .int .i64 ((m : Int) - 1 - k)) (y := fun k => .int .u32 (ys.getD (m - 1 - k) 0)) rfl (by omega) (gf := 48) (lb := #[.pointer (some ⟨w1.heap.size, 0, none⟩)]) rfl trivial (enters_of Tryd.func48 (by kernel_rfl) rfl)
    m (PrintAt w V N m) ⟨none, 0, [], by rw [Nat.mul_zero]; exact k0, RowB.nil _ _, (fun c hc => by cases hc), by rw [valD_nil, Nat.sub_zero, Nat.div_eq_of_lt hNm], fun _ _ _ => rfl, bV⟩ (fun k A B h hb => h.more hb) (fun k A r o h hr => h.put (by omega) hr o)
    (fun k => { tmps := #[.slice a n c, undef, .string ⟨#[]⟩, .pointer (some ⟨w.heap.size, 0, none⟩), undef, .int .u32 (ys.getD (m - 1 - k) 0), undef, .slice a n c, .slice a1 m c1, .func (.func 48) #[] #[.pointer (some ⟨w1.heap.size, 0, none⟩)], .int .i64 ((m : Int) - 1 - k), .int .u32 (ys.getD (m - 1 - k) 0), undef, undef, undef, undef, undef, undef, undef, undef, undef], defers := [] })
    ?assign ?body ?seq ?done
  case assign =>
    intro l k W K hK
    gi_wp2
    exact hK
  case body =>
    rintro l k W hk ⟨a5, c5, bs, h1, h2, h3, h4, h5, h6⟩ hz
    have hg := hgr.2 (m - 1 - k) (by omega)
    obtain ⟨z, hzd⟩ : ∃ z, ys.getD (m - 1 - k) 0 = z := ⟨_, rfl⟩
    rw [hzd] at hg
    have hz0 : 0 ≤ z := by omega
    have hz1 : z < 4294967296 := by omega
    have A1 := fun q => CallsIn.inRound l ((callsIn_wide (n := q)).2 (deci_appendGroup (V.heap.size + 2) a5 (9 * k) c5 bs z W h2 hz (by omega) hz0 hz1))
    have hcell := cell_of_box h1
    have HK : Hid (∀ (a' : Option Addr) (c' : Nat) (B : World), RowB (V.heap.size + 2) B (.slice a' (9 * k + 9) c') (9 * k + 9) (bs ++ pad 9 z.toNat) → Below (V.heap.size + 2) W B → PrintAt w V N m (k + 1) (B.setCell ⟨w.heap.size, 0, none⟩ (.slice a' (9 * k + 9) c'))) := fun a' c' B hr hb => PrintAt.next hk (by omega) h1 h3 h4 h5 h6 hg hr hb
    rw [hzd]
    obtain ⟨hc1, hc2⟩ := hcell
    have hbx : ∀ B, Below (V.heap.size + 2) W B → B.cell? ⟨w.heap.size, 0, none⟩ = some (.slice a5 (9 * k) c5) ∧ B.frozen? ⟨w.heap.size, 0, none⟩ = false := fun B hb => cell_of_box ((hb.block _ (by omega)).trans h1)
    clear hg hzd h1 h2 h3 h4 h5 h6 hgr
    gi_wp2_with (refine ⟨trivial, ?_⟩; gi_at_call 30; (with_reducible refine CallsIn.mono (A1 _) ?_); rintro e B ⟨a6, c6, rfl, r6, b6⟩; obtain ⟨hd1, hd2⟩ := hbx B b6)
    exact ⟨HK.out _ _ _ r6 b6, b6.size, (Below.heap_setCell _ _ _ _ (by simp; omega)).trans (b6.block _ (by omega)), (Below.heap_setCell _ _ _ _ (by simp; omega)).trans (b6.block _ (by omega))⟩
  case seq =>
    intro l J W hJI hJb hY h0
    refine (back_iter 2 l w1.heap.size (by omega) J a1 m c1 ys (by omega) (fun k A hj => ?_) (fun k A hk hj => hY k A hk hj) W h0).mono ?_
    · obtain ⟨a5, c5, bs, h1, h2, h3, h4, h5, h6⟩ := hJI k A hj
      exact ⟨(cell_of_box ((h5 _ (by omega) (by omega)).trans k1)).1, (r1.stay fun j hj1 hj2 => h5 j hj2 (by omega)).words⟩
    · rintro e B ⟨hv, hj⟩
      exact ⟨hv, hj⟩
  case done =>
    rintro D W hD1 hD2 ⟨a5, c5, bs, h1, h2, h3, h4, h5, h6⟩ hz hK
    have CV := conv_row h2
    have hlen := h2.length
    rw [Nat.sub_self, Nat.pow_zero, Nat.div_one] at h4
    have T := trim_left ⟨bs.toArray⟩ W (by show bs.toArray.size ≤ maxLen; unfold maxLen; simp; omega)
    rw [show (ByteArray.mk bs.toArray).data.toList = bs by simp, trim_dg h3, h4] at T
    obtain ⟨hc1, hc2⟩ := cell_of_box h1
    have HB : Hid (Below w.heap.size w W ∧ w.heap.size ≤ D) := ⟨h6, by omega⟩
    rcases Nat.eq_zero_or_pos N with h0 | h0
    · subst h0
      rw [dg_zero] at T
      clear h1 h2 h3 h4 h5 h6 hgr hlen
      gi_wp2_with (refine ⟨trivial, ?_⟩; gi_at_call 31; (with_reducible refine CallsIn.mono (callsIn_wide.2 T) ?_); rintro e W2 ⟨rfl, rfl⟩)
      refine ⟨by simp, .inl ⟨_, _, rfl, run_takeDeferred hK, ?_⟩⟩
      exact ⟨_, results_tmp rfl _ _ _, by rw [decOf_zero]; rfl, below_put HB.out.1 HB.out.2 _⟩
    · have he : (ByteArray.mk (dg N).toArray).toList.isEmpty = false := by
        rw [ByteArray.toList_eq]
        have := dg_ne h0
        simpa using this
      have HD : Hid (decOf N = dg N) := decOf_pos h0
      generalize hS : ByteArray.mk (dg N).toArray = S at T he
      have HS : Hid (ByteArray.mk (dg N).toArray = S) := hS
      clear hS h0
      clear h1 h2 h3 h4 h5 h6 hgr hlen
      gi_wp2_with (refine ⟨trivial, ?_⟩; gi_at_call 31; (with_reducible refine CallsIn.mono (callsIn_wide.2 T) ?_); rintro e W2 ⟨rfl, rfl⟩)
      refine ⟨by simp, .inl ⟨_, _, rfl, run_takeDeferred hK, ?_⟩⟩
      exact ⟨_, results_tmp rfl _ _ _, by rw [HD.out, HS.out]; rfl, below_put HB.out.1 HB.out.2 _⟩

theorem deci_digits : DigitsOk := by
  intro a n c zs w h hz hn N hN
  have P := deci_print h hz hn N hN
  have hl : (decOf N).length ≤ 10000000 := by
    have := decOf_words (A := N) (n := 1000000) (by rw [← hN]; exact nl_small hz _ (by rw [h.len]; exact hn)) (by omega)
    omega
  have HS : Hid ((decOf N).length ≤ 10000000) := hl
  clear h hz hn hN hl
  generalize hS : ByteArray.mk (decOf N).toArray = S at P
  have e : S.size = (decOf N).length := by rw [← hS]; show (decOf N).toArray.size = _; simp
  have hs : (S.size : Int) ≤ 10000000 := by have := HS.out; omega
  rw [← e]
  clear e hS HS
  go_enter Tryd.func15, Tryd.ntmps15
  go_wp2_with (go_at_call 14; (with_reducible refine Calls.mono P ?_); rintro e w1 ⟨rfl, b1⟩)
  go_ret
  exact ⟨rfl, b1⟩
end Go.Proofs.YtlokidddbkdclaaDoor
