/-
  Texts of mine put together in build order: DeciF, WholeD, RatioA, RatioB, RatioC, RatioD, RatioE, RatioF, RatioG, RatioH, RatioI, RatioJ, RatioLaws, IntFrame. Each says at its head what it proves. No conditions of its own.
-/
import Derived.Test.YtpimcbncmfpdhaaGreatDoorPack4
import Derived.Test.YtpimcbncmfpdhaaGreatDoorPack2
import Derived.Deep.RegionHeld3
import Derived.Deep.DeepCutAuto
import Derived.Lib.Bytealg
import Derived.Test.YtpimcbncmfpdhaaGreatDoorPack3
import Derived.Test.YtpimcbncmfpdhaaGreatDoorPack1
import Derived.ProofKit
import Derived.Lib.SmallJoins
/-
  Contracts of package deci's functions Print and Digits, for every list of up to a million words: the number's digits, and how many they are; memory that was there stays.
-/
namespace Go.Proofs.YtpimcbncmfpdhaaGreatDoor
open Go.RowKit Go.Shelf
attribute [local go_sem] Oper.semAt_some

theorem blk_new (v : World) (o : Obj) : (v.alloc o).heap[v.heap.size]? = some o := by show (v.heap.push o)[v.heap.size]? = _; simp
theorem cell_of_box {w : World} {k : Nat} {v : Value} {T : TypeId} (h : w.heap[k]? = some (.cells #[v] T (0, 0))) : w.cell? ⟨k, 0, none⟩ = some v ∧ w.frozen? ⟨k, 0, none⟩ = false := by
  simp [World.cell?, World.frozen?, h]
theorem box_set {w : World} {k : Nat} {v : Value} {T : TypeId} (h : w.heap[k]? = some (.cells #[v] T (0, 0))) (u : Value) : (w.setCell ⟨k, 0, none⟩ u).heap[k]? = some (.cells #[u] T (0, 0)) := Boxed.set u h

/-- Where Print stands: k groups have been told. -/
def PrintAt (w V : World) (N m : Nat) (k : Nat) (W : World) : Prop :=
  ∃ (a : Option Addr) (c : Nat) (bs : List UInt8), W.heap[w.heap.size]? = some (.cells #[.slice a (9 * k) c] 99 (0, 0)) ∧ RowB (V.heap.size + 2) W (.slice a (9 * k) c) (9 * k) bs ∧ DigS bs ∧ valD bs = N / 1000000000 ^ (m - k) ∧
    (∀ j, j < V.heap.size → j ≠ w.heap.size → W.heap[j]? = V.heap[j]?) ∧ Below w.heap.size w W

theorem PrintAt.more {w V : World} {N m k : Nat} {A B : World} (h : PrintAt w V N m k A) (hb : Below A.heap.size A B) : PrintAt w V N m k B := by
  obtain ⟨a, c, bs, h1, h2, h3, h4, h5, h6⟩ := h
  refine ⟨a, c, bs, (hb.block _ (Array.getElem?_eq_some_iff.1 h1).1).trans h1, h2.more hb, h3, h4, fun j hj hne => ?_, below_more h6 hb⟩
  have e := h5 j hj hne
  rw [← e]
  exact hb.block j (by
    rcases Nat.lt_or_ge j A.heap.size with h | h
    · exact h
    · rw [Array.getElem?_eq_none h, Array.getElem?_eq_getElem hj] at e; cases e)
theorem PrintAt.put {w V : World} {N m k : Nat} {A : World} (h : PrintAt w V N m k A) (hV : w.heap.size < V.heap.size) {r : Nat} (hr : r = V.heap.size ∨ r = V.heap.size + 1) (o : Obj) : PrintAt w V N m k (A.putObj r o) := by
  obtain ⟨a, c, bs, h1, h2, h3, h4, h5, h6⟩ := h
  exact ⟨a, c, bs, (World.putObj_heap_other (by omega)).trans h1, h2.keep fun j hj => World.putObj_heap_other (by omega), h3, h4, fun j hj hne => (World.putObj_heap_other (by omega)).trans (h5 j hj hne), below_put h6 (by omega) o⟩
theorem PrintAt.next {w V : World} {N m k : Nat} {A B : World} {a a' : Option Addr} {c c' : Nat} {bs : List UInt8} {g : Int} (hk : k < m) (hV : w.heap.size < V.heap.size)
    (h1 : A.heap[w.heap.size]? = some (.cells #[.slice a (9 * k) c] 99 (0, 0))) (h3 : DigS bs) (h4 : valD bs = N / 1000000000 ^ (m - k)) (h5 : ∀ j, j < V.heap.size → j ≠ w.heap.size → A.heap[j]? = V.heap[j]?) (h6 : Below w.heap.size w A)
    (hg : g = ((N / 1000000000 ^ (m - 1 - k) % 1000000000 : Nat) : Int)) (hr : RowB (V.heap.size + 2) B (.slice a' (9 * k + 9) c') (9 * k + 9) (bs ++ pad 9 g.toNat)) (hb : Below (V.heap.size + 2) A B) :
    PrintAt w V N m (k + 1) (B.setCell ⟨w.heap.size, 0, none⟩ (.slice a' (9 * k + 9) c')) := by
  have b1 : B.heap[w.heap.size]? = some (.cells #[.slice a (9 * k) c] 99 (0, 0)) := (hb.block _ (by omega)).trans h1
  have hgn : g.toNat = N / 1000000000 ^ (m - 1 - k) % 1000000000 := by rw [hg]; exact Int.toNat_natCast _
  refine ⟨a', c', bs ++ pad 9 g.toNat, box_set b1 _, hr.keep fun j hj => Below.heap_setCell _ _ _ _ (by simp; omega), digS_append.2 ⟨h3, digS_pad _ _⟩, ?_, fun j hj hne => ?_, ?_⟩
  · rw [valD_group _ (by rw [hgn]; exact Nat.mod_lt _ (by decide)), h4, hgn, show (10 : Nat) ^ 9 = 1000000000 from rfl, show m - k = (m - 1 - k) + 1 by omega, told_step, show m - 1 - k = m - (k + 1) by omega]
  · rw [Below.heap_setCell _ _ _ _ (by simpa using hne), hb.block j (by omega)]; exact h5 j hj hne
  · exact (h6.trans (hb.mono (by omega))).setCell (p := ⟨w.heap.size, 0, none⟩) (Nat.le_refl _) _

theorem Row.stay {w w' : World} {v : Value} {n : Nat} {xs : List Int} {n₀ : Nat} (h : Row n₀ w v n xs) (hb : ∀ k, n₀ ≤ k → k < w.heap.size → w'.heap[k]? = w.heap[k]?) : Row n₀ w' v n xs := by
  refine ⟨h.1, ?_⟩
  rcases h.2 with h0 | ⟨g, cap, cur, e, h1, hg, h2⟩
  · exact .inl h0
  · exact .inr ⟨g, cap, cur, e, h1, (hb g h1 (Array.getElem?_eq_some_iff.1 hg).1).trans hg, h2⟩

/-- string(text). -/
theorem conv_row {n₀ : Nat} {w : World} {a : Option Addr} {n c : Nat} {bs : List UInt8} (h : RowB n₀ w (.slice a n c) n bs) :
    Sem.run Tryz.prog (convert 99 9 (.slice a n c)) w = .ok (.string ⟨bs.toArray⟩) w := by
  have hl := h.length
  rcases h.cell with ⟨rfl, rfl⟩ | ⟨g, rfl, hc⟩
  · subst hl
    rw [run_convert_bytes_string w 99 9 5 none _ c Tryz.underlying99 Tryz.underlying5 Tryz.underlying9]
    simp [Conv.bytesToString, go_sem]
    rfl
  · subst hl
    exact run_convert_bytes_back (P := Tryz.prog) w 99 9 5 ⟨g, 0, none⟩ c bs Tryz.underlying99 Tryz.underlying5 Tryz.underlying9 hc

set_option maxHeartbeats 4000000 in
theorem deci_print : PrintOk := by
  intro a n c zs w h hz hn N hN
  have G := deci_groups (w := w.alloc (.cells #[.slice none 0 0] 99)) (h.below ((Below.refl _ _).alloc (Nat.le_refl _) _)) hz hn N hN
  clear h hz hn hN
  refine (callsIn_wide (n := 3)).1 ?_
  refine callsIn_of_wp_marks Tryz.func77 rfl trivial ?_ rfl
  simp only [Tryz.ntmps77, List.size_toArray, List.length_cons, List.length_nil, Nat.reduceAdd, Nat.reduceSub, Array.replicate_succ, Array.replicate_zero, List.push_toArray, List.append_toArray, List.nil_append, List.cons_append]
  gi_wp2_with (first
    | (refine ⟨trivial, ?_⟩; gi_at_call 108; (with_reducible refine CallsIn.mono (callsIn_wide.2 G) ?_); rintro e w1 ⟨a1, m, c1, ys, rfl, o1, hgr, hNm, hm⟩)
    | (refine ⟨trivial, ?_⟩; gi_at_call 107; refine (back_made _ _ _ _ _).mono ?_; rintro e w' ⟨rfl, rfl⟩))
  obtain ⟨V, hV⟩ : ∃ V, w1.alloc (.cells #[.slice a1 m c1] 22) = V := ⟨_, rfl⟩
  have z1 : w.heap.size + 1 ≤ w1.heap.size := by have := o1.below.size; simpa using this
  have zV : V.heap.size = w1.heap.size + 1 := by rw [← hV]; simp
  have b1 : Below w.heap.size w w1 := ((Below.refl _ w).alloc (Nat.le_refl _) (.cells #[.slice none 0 0] 99)).trans (o1.below.mono (by simp))
  have bV : Below w.heap.size w V := by rw [← hV]; exact b1.alloc (by omega) _
  have k0 : V.heap[w.heap.size]? = some (.cells #[.slice none 0 0] 99 (0, 0)) := by
    rw [← hV, Below.heap_alloc _ _ _ (by omega), o1.below.block _ (by simp)]; exact blk_new w _
  have k1 : V.heap[w1.heap.size]? = some (.cells #[.slice a1 m c1] 22 (0, 0)) := by rw [← hV]; exact blk_new w1 _
  have r1 : Row (w.heap.size + 1) V (.slice a1 m c1) m ys := by rw [← hV]; exact (o1.alloc _).row (by simp)
  rw [hV]
  clear hV G o1
  refine wpIn_range_made (x := fun k => .int .i64 ((m : Int) - 1 - k)) (y := fun k => .int .u32 (ys.getD (m - 1 - k) 0)) rfl (by omega) (gf := 131) (lb := #[.pointer (some ⟨w1.heap.size, 0, none⟩)]) rfl trivial (enters_of Tryz.func131 (by kernel_rfl) rfl)
    m (PrintAt w V N m) ⟨none, 0, [], by rw [Nat.mul_zero]; exact k0, RowB.nil _ _, (fun c hc => by cases hc), by rw [valD_nil, Nat.sub_zero, Nat.div_eq_of_lt hNm], fun _ _ _ => rfl, bV⟩ (fun k A B h hb => h.more hb) (fun k A r o h hr => h.put (by omega) hr o)
    (fun k => { tmps := #[.slice a n c, undef, .string ⟨#[]⟩, .pointer (some ⟨w.heap.size, 0, none⟩), undef, .int .u32 (ys.getD (m - 1 - k) 0), undef, .slice a n c, .slice a1 m c1, .func (.func 131) #[] #[.pointer (some ⟨w1.heap.size, 0, none⟩)], .int .i64 ((m : Int) - 1 - k), .int .u32 (ys.getD (m - 1 - k) 0), undef, undef, undef, undef, undef, undef, undef, undef, undef], defers := [] })
    ?assign ?body ?seq ?done
  case assign =>
    intro l k W K hK
    gi_wp2
    exact hK
  case body =>
    rintro l k W hk ⟨a5, c5, bs, h1, h2, h3, h4, h5, h6⟩ hz
    have hg := hgr.2 (m - 1 - k) (by omega)
    obtain ⟨z, hzd⟩ : ∃ z, ys.getD (m - 1 - k) 0 = z := ⟨_, rfl⟩
    rw [hzd] at hg
    have hz0 : 0 ≤ z := by omega
    have hz1 : z < 4294967296 := by omega
    have A1 := fun q => CallsIn.inRound l ((callsIn_wide (n := q)).2 (deci_appendGroup (V.heap.size + 2) a5 (9 * k) c5 bs z W h2 hz (by omega) hz0 hz1))
    have hcell := cell_of_box h1
    have HK : Hid (∀ (a' : Option Addr) (c' : Nat) (B : World), RowB (V.heap.size + 2) B (.slice a' (9 * k + 9) c') (9 * k + 9) (bs ++ pad 9 z.toNat) → Below (V.heap.size + 2) W B → PrintAt w V N m (k + 1) (B.setCell ⟨w.heap.size, 0, none⟩ (.slice a' (9 * k + 9) c'))) := fun a' c' B hr hb => PrintAt.next hk (by omega) h1 h3 h4 h5 h6 hg hr hb
    rw [hzd]
    obtain ⟨hc1, hc2⟩ := hcell
    have hbx : ∀ B, Below (V.heap.size + 2) W B → B.cell? ⟨w.heap.size, 0, none⟩ = some (.slice a5 (9 * k) c5) ∧ B.frozen? ⟨w.heap.size, 0, none⟩ = false := fun B hb => cell_of_box ((hb.block _ (by omega)).trans h1)
    clear hg hzd h1 h2 h3 h4 h5 h6 hgr
    gi_wp2_with (refine ⟨trivial, ?_⟩; gi_at_call 109; (with_reducible refine CallsIn.mono (A1 _) ?_); rintro e B ⟨a6, c6, rfl, r6, b6⟩; obtain ⟨hd1, hd2⟩ := hbx B b6)
    exact ⟨HK.out _ _ _ r6 b6, b6.size, (Below.heap_setCell _ _ _ _ (by simp; omega)).trans (b6.block _ (by omega)), (Below.heap_setCell _ _ _ _ (by simp; omega)).trans (b6.block _ (by omega))⟩
  case seq =>
    intro l J W hJI hJb hY h0
    refine (back_iter 2 l w1.heap.size (by omega) J a1 m c1 ys (by omega) (fun k A hj => ?_) (fun k A hk hj => hY k A hk hj) W h0).mono ?_
    · obtain ⟨a5, c5, bs, h1, h2, h3, h4, h5, h6⟩ := hJI k A hj
      exact ⟨(cell_of_box ((h5 _ (by omega) (by omega)).trans k1)).1, (r1.stay fun j hj1 hj2 => h5 j hj2 (by omega)).words⟩
    · rintro e B ⟨hv, hj⟩
      exact ⟨hv, hj⟩
  case done =>
    rintro D W hD1 hD2 ⟨a5, c5, bs, h1, h2, h3, h4, h5, h6⟩ hz hK
    have CV := conv_row h2
    have hlen := h2.length
    rw [Nat.sub_self, Nat.pow_zero, Nat.div_one] at h4
    have T := trim_left ⟨bs.toArray⟩ W (by show bs.toArray.size ≤ maxLen; unfold maxLen; simp; omega)
    rw [show (ByteArray.mk bs.toArray).data.toList = bs by simp, trim_dg h3, h4] at T
    obtain ⟨hc1, hc2⟩ := cell_of_box h1
    have HB : Hid (Below w.heap.size w W ∧ w.heap.size ≤ D) := ⟨h6, by omega⟩
    rcases Nat.eq_zero_or_pos N with h0 | h0
    · subst h0
      rw [dg_zero] at T
      clear h1 h2 h3 h4 h5 h6 hgr hlen
      gi_wp2_with (refine ⟨trivial, ?_⟩; gi_at_call 110; (with_reducible refine CallsIn.mono (callsIn_wide.2 T) ?_); rintro e W2 ⟨rfl, rfl⟩)
      refine ⟨by simp, .inl ⟨_, _, rfl, run_takeDeferred hK, ?_⟩⟩
      exact ⟨_, results_tmp rfl _ _ _, by rw [decOf_zero]; rfl, below_put HB.out.1 HB.out.2 _⟩
    · have he : (ByteArray.mk (dg N).toArray).toList.isEmpty = false := by
        rw [ByteArray.toList_eq]
        have := dg_ne h0
        simpa using this
      have HD : Hid (decOf N = dg N) := decOf_pos h0
      generalize hS : ByteArray.mk (dg N).toArray = S at T he
      have HS : Hid (ByteArray.mk (dg N).toArray = S) := hS
      clear hS h0
      clear h1 h2 h3 h4 h5 h6 hgr hlen
      gi_wp2_with (refine ⟨trivial, ?_⟩; gi_at_call 110; (with_reducible refine CallsIn.mono (callsIn_wide.2 T) ?_); rintro e W2 ⟨rfl, rfl⟩)
      refine ⟨by simp, .inl ⟨_, _, rfl, run_takeDeferred hK, ?_⟩⟩
      exact ⟨_, results_tmp rfl _ _ _, by rw [HD.out, HS.out]; rfl, below_put HB.out.1 HB.out.2 _⟩

end Go.Proofs.YtpimcbncmfpdhaaGreatDoor
/-
  Contracts of package whole (Print, Parse) for every Int of up to a hundred thousand words and every text; and all of the package's contracts together: as integers and texts; memory that was there stays, and what is answered is the call's own.
-/
namespace Go.Proofs.YtpimcbncmfpdhaaGreatDoor
open Go.RowKit

theorem minus_parts (s : ByteArray) (hs : s.size ≤ maxLen) : ∃ (g : Bool) (u : ByteArray), stripI s.data.toList = u.data.toList ∧ minusI s.data.toList = g ∧ u.size ≤ maxLen ∧
    (s.size = 0 ∧ g = false ∧ u = s ∨ 0 < s.size ∧ g = true ∧ ((s.extract 0 1).toList == [45]) = true ∧ s.extract 1 s.size = u ∨ 0 < s.size ∧ g = false ∧ ((s.extract 0 1).toList == [45]) = false ∧ u = s) := by
  rcases Nat.eq_zero_or_pos s.size with h0 | h0
  · have e : s.data.toList = [] := List.eq_nil_of_length_eq_zero (by simpa using h0)
    exact ⟨false, s, by rw [e]; rfl, by rw [e]; rfl, hs, .inl ⟨h0, rfl, rfl⟩⟩
  · have hh : s.data.toList = s[0] :: s.data.toList.tail := by
      have := drop_byte s 0 h0
      rw [List.drop_zero] at this
      rw [this]; rfl
    have hx : s.extract 0 1 = ⟨#[s[0]]⟩ := by
      refine ByteArray.ext ?_
      rw [← Array.toList_inj, ByteArray.data_extract, Array.toList_extract]
      rw [hh]; rfl
    by_cases hc : s[0] = 45
    · refine ⟨true, s.extract 1 s.size, ?_, ?_, ?_, .inr (.inl ⟨h0, rfl, ?_, rfl⟩)⟩
      · rw [extract_tail]; unfold stripI; rw [if_pos (by rw [hh, hc]; rfl)]
      · unfold minusI; rw [hh, hc]; rfl
      · rw [ByteArray.size_extract]; unfold maxLen at hs ⊢; omega
      · rw [hx, hc, ByteArray.toList_eq]; rfl
    · refine ⟨false, s, ?_, ?_, hs, .inr (.inr ⟨h0, rfl, ?_, rfl⟩)⟩
      · unfold stripI; rw [if_neg (by rw [hh]; intro e; exact hc (Option.some.inj e))]
      · unfold minusI; rw [hh]; simp [hc]
      · rw [hx, ByteArray.toList_eq, beq_eq_false_iff_ne]
        intro e
        exact hc (List.cons.inj e).1

set_option maxHeartbeats 4000000 in
theorem cut_minus {s : ByteArray} {g : Bool} {u : ByteArray} (hs : s.size ≤ maxLen) (h : s.size = 0 ∧ g = false ∧ u = s ∨ 0 < s.size ∧ g = true ∧ ((s.extract 0 1).toList == [45]) = true ∧ s.extract 1 s.size = u ∨ 0 < s.size ∧ g = false ∧ ((s.extract 0 1).toList == [45]) = false ∧ u = s) (w : World) :
    Calls Tryz.prog 101 #[.string s, .string ⟨#[45]⟩] w fun e w' => e = .returned (.tuple #[.string u, .bool g]) ∧ w = w' := by
  have H : ∀ (q : Bool), ((s.size = 0 ∧ q = false) ∨ (0 < s.size ∧ ((s.extract 0 1).toList == [45]) = q)) → Calls Tryz.prog 154 #[.string s, .string ⟨#[45]⟩] w fun e w' => e = .returned (.bool q) ∧ w = w' := by
    clear h
    intro q h
    unfold maxLen at hs
    rcases h with ⟨h0, rfl⟩ | ⟨h0, hq⟩
    case' inl => have h1 : ¬ (1 : Int) ≤ s.size := by omega
    case' inr => have h1 : (1 : Int) ≤ s.size := by omega
    all_goals
      go_enter Tryz.func154, Tryz.ntmps154
      go_wp2
      go_ret
      exact ⟨rfl, rfl⟩
  have H2 : Calls Tryz.prog 127 #[.string s, .string ⟨#[45]⟩] w fun e w' => e = .returned (.tuple #[.string u, .bool g]) ∧ w = w' := by
    unfold maxLen at hs
    rcases h with ⟨h0, rfl, rfl⟩ | ⟨h0, rfl, hq, hu⟩ | ⟨h0, rfl, hq, rfl⟩
    case' inl => have H1 := H false (.inl ⟨h0, rfl⟩)
    case' inr.inl =>
      have H1 := H true (.inr ⟨h0, hq⟩)
      have h1 : (1 : Int) ≤ s.size := by omega
    case' inr.inr => have H1 := H false (.inr ⟨h0, hq⟩)
    all_goals
      clear H
      go_enter Tryz.func127, Tryz.ntmps127
      go_wp2_with (go_at_call 154; (with_reducible refine Calls.mono H1 ?_); rintro e w1 ⟨rfl, rfl⟩)
      go_ret2
      exact ⟨rfl, rfl⟩
  clear H h
  go_enter Tryz.func101, Tryz.ntmps101
  go_wp2_with (go_at_call 127; (with_reducible refine Calls.mono H2 ?_); rintro e w1 ⟨rfl, rfl⟩)
  go_ret2
  exact ⟨rfl, rfl⟩

set_option maxHeartbeats 4000000 in
theorem whole_parse (s : ByteArray) (w : World) (hs : s.size ≤ maxLen) :
    Calls Tryz.prog 70 #[.string s] w (AnsIP w (znum s.data.toList) (zerr s.data.toList)) := by
  obtain ⟨b1, bV, hb⟩ := boxes1 w #[.bool false, .slice none 0 0] 26
  obtain ⟨g, u, hu, hg, hsz, hp⟩ := minus_parts s hs
  have CU := fun v => cut_minus hs hp v
  have P := fun v => deci_parse u v hsz
  unfold znum zerr
  rw [hu, hg]
  have G := fun v a1 c1 => whole_signed g a1 (nl (pnum u.data.toList)) c1 v _ (sign_nl g (pnum u.data.toList))
  have hE : perr u.data.toList = 0 ∨ (perr u.data.toList != 0) = true ∧ pnum u.data.toList = 0 := by
    by_cases h : perr u.data.toList = 0
    · exact .inl h
    · exact .inr ⟨by simpa using h, pnum_err h⟩
  unfold AnsP at P
  generalize pnum u.data.toList = K at *
  generalize perr u.data.toList = E at *
  clear hu hg hs hsz hp
  unfold AnsIP
  rw [iv_abs]
  rcases hE with rfl | ⟨hE, hK⟩
  · generalize decide (iv g K < 0) = r at G ⊢
    go_enter Tryz.func70, Tryz.ntmps70
    go_wp2_with (first
      | (go_at_call 101; (with_reducible refine Calls.mono (CU _) ?_); rintro e w0 ⟨rfl, rfl⟩)
      | (go_at_call 71; (with_reducible refine Calls.mono (P _) ?_); rintro e w1 ⟨a1, c1, rfl, o1⟩)
      | (go_at_call 86; (with_reducible refine Calls.mono (G _ _ _) ?_); rintro e w2 ⟨rfl, d2⟩; obtain ⟨z0, z1, f0, f1⟩ := ((b1.more o1.below).more d2).cells2))
    have q := fun x y => (((o1.more d2).above bV).set (k := w.heap.size) (by omega) hb 0 x).set (k := w.heap.size) (by omega) hb 1 y
    exact bodyPost_ret (v := .tuple #[.agg #[.bool r, .slice a1 (nl K) c1], .int .i64 0]) (by simp [results, Tryz.results70, go_sem, z0, z1]) rfl ⟨a1, c1, rfl, (q _ _).own (by omega)⟩
  · subst hK
    rw [iv_zero]
    clear G
    simp only [nl_zero] at P
    go_enter Tryz.func70, Tryz.ntmps70
    go_wp2_with (first
      | (go_at_call 101; (with_reducible refine Calls.mono (CU _) ?_); rintro e w0 ⟨rfl, rfl⟩)
      | (go_at_call 71; (with_reducible refine Calls.mono (P _) ?_); rintro e w1 ⟨a1, c1, rfl, o1⟩; obtain ⟨z0, z1, f0, f1⟩ := (b1.more o1.below).cells2))
    have B1 := below_more bV o1.below
    have q := fun x y => (B1.setCell (p := ⟨w.heap.size, 0, none⟩) (Nat.le_refl _) x).setCell (p := ⟨w.heap.size, 1, none⟩) (Nat.le_refl _) y
    exact bodyPost_ret (v := .tuple #[.agg #[.bool false, .slice none 0 0], .int .i64 E]) (by simp [results, Tryz.results70, go_sem, z0, z1]) rfl ⟨none, 0, by simp [nl_zero], by simpa [nl_zero, natOf_zero] using Own.nil (q _ _)⟩

set_option maxHeartbeats 4000000 in
theorem whole_print {s : Bool} {a : Option Addr} {n c : Nat} {x : Int} {w : World} (h : RI w s a n c x) :
    Calls Tryz.prog 74 #[.agg #[.bool s, .slice a n c]] w fun e w' => e = .returned (.string ⟨(decI x).toArray⟩) ∧ Below w.heap.size w w' := by
  have F1 := fun v (hb : Below w.heap.size w v) => whole_fix (h.below hb)
  obtain ⟨zs, h, hz, hn, rfl⟩ := h
  have P := fun v (hb : Below w.heap.size w v) => deci_print (h.below hb) hz (by omega) (iv s (val zs)).natAbs (by rw [iv_abs])
  have l1 : nl (iv s (val zs)).natAbs ≤ n := by rw [iv_abs]; exact nl_small hz n (by rw [h.len]; omega)
  generalize iv s (val zs) = z at *
  have ld := decOf_words (n := n + 1) (A := z.natAbs) (by omega) (by omega)
  have hsz : (1 : Int) + (decOf z.natAbs).length ≤ 9223372036854775807 := by omega
  obtain ⟨b1, bV, hs⟩ := boxes1 w #[.bool s, .slice a n c] 26
  unfold AnsI at F1
  clear h hz hn l1 ld
  have FD : ∀ (q : Bool) (a1 : Option Addr) (n1 c1 : Nat) (v : World), Sem.run Tryz.prog (Instr.field 26 (.agg #[.bool q, .slice a1 n1 c1]) 0) v = .ok (.bool q) v := fun q a1 n1 c1 v => by kernel_rfl
  by_cases h0 : z < 0
  case' pos =>
    have e : decI z = 45 :: decOf z.natAbs := if_pos h0
    rw [decide_eq_true h0] at F1
    have HA : Hid ((⟨#[45]⟩ ++ ⟨(decOf z.natAbs).toArray⟩ : ByteArray) = ⟨(45 :: decOf z.natAbs).toArray⟩) := by
      show _ = _
      rw [ByteArray.mk_append_mk]; simp
  case' neg =>
    have e : decI z = decOf z.natAbs := if_neg h0
    rw [decide_eq_false h0] at F1
  all_goals
    rw [e]
    clear e
    generalize decOf z.natAbs = l at *
    generalize z.natAbs = N at *
    obtain ⟨x0, x1, -, -⟩ := b1.cells2
    go_enter Tryz.func74, Tryz.ntmps74
    go_wp2_with (first
      | (go_at_call 77; (with_reducible refine Calls.mono (P _ bV) ?_); rintro e w1 ⟨rfl, d1⟩; obtain ⟨x0, x1, -, -⟩ := (b1.more d1).cells2)
      | (go_at_call 104; (with_reducible refine Calls.mono (F1 _ (below_more bV d1)) ?_); rintro e w2 ⟨a1, c1, rfl, o1⟩))
    go_ret
    first
      | exact ⟨rfl, below_more (below_more bV d1) o1.below⟩
      | exact ⟨by rw [← HA.out]; rfl, below_more (below_more bV d1) o1.below⟩

end Go.Proofs.YtpimcbncmfpdhaaGreatDoor
/-
  Contracts of package ratio's own parts (fraction, within, and a number's top, bottom, none, opposite, turned, lowest), for every number of up to a hundred thousand words each: as rational numbers; memory that was there stays, and what is answered in lowest terms is the call's own.
-/
namespace Go.Proofs.YtpimcbncmfpdhaaGreatDoor
open Go.RowKit

/-- A number within package ratio that reads as q: its Den is not 0. -/
def NR (k : Nat) (w : World) (s : Bool) (a : Option Addr) (n c : Nat) (b : Option Addr) (m d : Nat) (q : Rat) : Prop :=
  ∃ xs ys, IsWords w (.slice a n c) xs ∧ Wd xs ∧ IsWords w (.slice b m d) ys ∧ Wd ys ∧ n ≤ k ∧ m ≤ k ∧ 0 < val ys ∧ rv s (val xs) (val ys) = q
theorem NR.below {k : Nat} {w w' : World} {s : Bool} {a : Option Addr} {n c : Nat} {b : Option Addr} {m d : Nat} {q : Rat} (h : NR k w s a n c b m d q) (hb : Below w.heap.size w w') : NR k w' s a n c b m d q := by
  obtain ⟨xs, ys, h1, h2, h3, h4, h5⟩ := h; exact ⟨xs, ys, h1.below hb, h2, h3.below hb, h4, h5⟩
theorem NR.mono {k l : Nat} {w : World} {s : Bool} {a : Option Addr} {n c : Nat} {b : Option Addr} {m d : Nat} {q : Rat} (h : NR k w s a n c b m d q) (hk : k ≤ l) : NR l w s a n c b m d q := by
  obtain ⟨xs, ys, h1, h2, h3, h4, h5, h6, h7⟩ := h; exact ⟨xs, ys, h1, h2, h3, h4, Nat.le_trans h5 hk, Nat.le_trans h6 hk, h7⟩

set_option maxHeartbeats 4000000 in
theorem rat_fraction (s : Bool) (a : Option Addr) (n c : Nat) (b : Option Addr) (m d : Nat) (w : World) :
    Calls Tryz.prog 44 #[.bool s, .slice a n c, .slice b m d] w fun e w' => e = .returned (.agg #[.bool s, .slice a n c, .slice b m d]) ∧ Below w.heap.size w w' := by
  go_enter Tryz.func44, Tryz.ntmps44
  go_wp2
  have b1 := BoxC.new w #[.bool s, .slice a n c, .slice b m d] 51
  obtain ⟨y0, y1, y2, g0, g1, g2⟩ := b1.cells3
  exact bodyPost_ret (v := .agg #[.bool s, .slice a n c, .slice b m d]) (by simp [results, Tryz.results44, go_sem, y0, y1, y2]) rfl ⟨rfl, (Below.refl _ _).alloc (Nat.le_refl _) _⟩
set_option maxHeartbeats 4000000 in
theorem rat_top (s : Bool) (a : Option Addr) (n c : Nat) (b : Option Addr) (m d : Nat) (w : World) :
    Calls Tryz.prog 75 #[.agg #[.bool s, .slice a n c, .slice b m d]] w fun e w' => e = .returned (.agg #[.bool s, .slice a n c]) ∧ Below w.heap.size w w' := by
  obtain ⟨b1, b2, bV, hs⟩ := boxes2 w #[.bool s, .slice a n c, .slice b m d] #[.bool s, .slice a n c] 51 26
  obtain ⟨y0, y1, g0, g1⟩ := b2.cells2
  go_enter Tryz.func75, Tryz.ntmps75
  go_wp2
  exact bodyPost_ret (v := .agg #[.bool s, .slice a n c]) (by simp [results, Tryz.results75, go_sem, y0, y1]) rfl ⟨rfl, bV⟩
set_option maxHeartbeats 4000000 in
theorem rat_bottom (s : Bool) (a : Option Addr) (n c : Nat) (b : Option Addr) (m d : Nat) (w : World) :
    Calls Tryz.prog 123 #[.agg #[.bool s, .slice a n c, .slice b m d]] w fun e w' => e = .returned (.agg #[.bool false, .slice b m d]) ∧ Below w.heap.size w w' := by
  obtain ⟨b1, b2, bV, hs⟩ := boxes2 w #[.bool s, .slice a n c, .slice b m d] #[.bool false, .slice b m d] 51 26
  obtain ⟨y0, y1, g0, g1⟩ := b2.cells2
  go_enter Tryz.func123, Tryz.ntmps123
  go_wp2
  exact bodyPost_ret (v := .agg #[.bool false, .slice b m d]) (by simp [results, Tryz.results123, go_sem, y0, y1]) rfl ⟨rfl, bV⟩
set_option maxHeartbeats 4000000 in
theorem rat_opposite (s : Bool) (a : Option Addr) (n c : Nat) (b : Option Addr) (m d : Nat) (w : World) :
    Calls Tryz.prog 52 #[.agg #[.bool s, .slice a n c, .slice b m d]] w fun e w' => e = .returned (.agg #[.bool (!s), .slice a n c, .slice b m d]) ∧ Below w.heap.size w w' := by
  have G := fun v => rat_fraction (!s) a n c b m d v
  obtain ⟨b1, b2, bV, hs⟩ := boxes2 w #[.bool s, .slice a n c, .slice b m d] #[.bool false, .slice none 0 0, .slice none 0 0] 51 51
  obtain ⟨x0, x1, x2, f0, f1, f2⟩ := b1.cells3
  go_enter Tryz.func52, Tryz.ntmps52
  go_wp2_with (go_at_call 44; (with_reducible refine Calls.mono (G _) ?_); rintro e w1 ⟨rfl, d1⟩; obtain ⟨y0, y1, y2, g0, g1, g2⟩ := (b2.more d1).cells3)
  exact bodyPost_ret (v := .agg #[.bool (!s), .slice a n c, .slice b m d]) (by simp [results, Tryz.results52, go_sem, y0, y1, y2]) rfl ⟨rfl, below_set3 (below_more bV d1) (by omega) _ _ _⟩
set_option maxHeartbeats 4000000 in
theorem rat_turned (s : Bool) (a : Option Addr) (n c : Nat) (b : Option Addr) (m d : Nat) (w : World) :
    Calls Tryz.prog 57 #[.agg #[.bool s, .slice a n c, .slice b m d]] w fun e w' => e = .returned (.agg #[.bool (s), .slice b m d, .slice a n c]) ∧ Below w.heap.size w w' := by
  have G := fun v => rat_fraction (s) b m d a n c v
  obtain ⟨b1, b2, bV, hs⟩ := boxes2 w #[.bool s, .slice a n c, .slice b m d] #[.bool false, .slice none 0 0, .slice none 0 0] 51 51
  obtain ⟨x0, x1, x2, f0, f1, f2⟩ := b1.cells3
  go_enter Tryz.func57, Tryz.ntmps57
  go_wp2_with (go_at_call 44; (with_reducible refine Calls.mono (G _) ?_); rintro e w1 ⟨rfl, d1⟩; obtain ⟨y0, y1, y2, g0, g1, g2⟩ := (b2.more d1).cells3)
  exact bodyPost_ret (v := .agg #[.bool (s), .slice b m d, .slice a n c]) (by simp [results, Tryz.results57, go_sem, y0, y1, y2]) rfl ⟨rfl, below_set3 (below_more bV d1) (by omega) _ _ _⟩
theorem NR.opposite {k : Nat} {w : World} {s : Bool} {a : Option Addr} {n c : Nat} {b : Option Addr} {m d : Nat} {q : Rat} (h : NR k w s a n c b m d q) : NR k w (!s) a n c b m d (-q) := by
  obtain ⟨xs, ys, h1, h2, h3, h4, h5, h6, h7, rfl⟩ := h
  exact ⟨xs, ys, h1, h2, h3, h4, h5, h6, h7, by unfold rv; rw [iv_not, Rat.neg_mkRat]⟩
theorem NR.turned {k : Nat} {w : World} {s : Bool} {a : Option Addr} {n c : Nat} {b : Option Addr} {m d : Nat} {q : Rat} (h : NR k w s a n c b m d q) (h0 : q ≠ 0) : NR k w s b m d a n c q⁻¹ := by
  obtain ⟨xs, ys, h1, h2, h3, h4, h5, h6, h7, rfl⟩ := h
  have hA : 0 < val xs := by
    rcases Nat.eq_zero_or_pos (val xs) with e | e
    · exact absurd ((rv_zero_iff _ _ _).2 (.inl e)) h0
    · exact e
  refine ⟨ys, xs, h3, h4, h1, h2, h6, h5, hA, tri_inj ?_⟩
  have e1 := tri_rv s _ _ hA h7
  rw [tri_inv h0, tri_rv s _ _ h7 hA, Nat.gcd_comm (val ys)]
  unfold tri at e1
  simp only [Prod.mk.injEq] at e1
  rw [e1.1, e1.2.1, e1.2.2]
set_option maxHeartbeats 4000000 in
theorem rat_none {k : Nat} {s : Bool} {a : Option Addr} {n c : Nat} {b : Option Addr} {m d : Nat} {q : Rat} {w : World} (h : NR k w s a n c b m d q) (hk : k ≤ 100000) (r : Bool) (hr : decide (q = 0) = r) :
    Calls Tryz.prog 56 #[.agg #[.bool s, .slice a n c, .slice b m d]] w fun e w' => e = .returned (.bool r) ∧ Below w.heap.size w w' := by
  obtain ⟨xs, ys, h1, h2, h3, h4, h5, h6, h7, rfl⟩ := h
  have B := fun v (hb : Below w.heap.size w v) => nat_bits' (h1.below hb) h2 (by omega) _ rfl
  have e0 : ((nbits (val xs) : Int) == 0) = r := by
    rw [← hr]
    have e := rv_zero_iff s (val xs) (val ys)
    rcases Nat.eq_zero_or_pos (val xs) with h | h
    · rw [decide_eq_true (e.2 (.inl h)), h, nbits_zero]; rfl
    · rw [decide_eq_false (fun g => by have := e.1 g; omega)]
      have := nbits_pos (n := val xs) (by omega)
      simp; omega
  obtain ⟨b1, bV, hs⟩ := boxes1 w #[.bool s, .slice a n c, .slice b m d] 51
  obtain ⟨x0, x1, x2, f0, f1, f2⟩ := b1.cells3
  clear h1 h2 h3 h4 h5 h6 h7 hr
  generalize (nbits (val xs) : Int) = nb at *
  go_enter Tryz.func56, Tryz.ntmps56
  go_wp2_with (go_at_call 43; (with_reducible refine Calls.mono (B _ bV) ?_); rintro e w1 ⟨rfl, rfl⟩)
  go_ret
  exact ⟨rfl, bV⟩

/-- What within answers. -/
def AnsN (k : Nat) (W : World) (q : Rat) (e : Ending) (w' : World) : Prop :=
  ∃ s a n c b m d, e = .returned (.agg #[.bool s, .slice a n c, .slice b m d]) ∧ NR k w' s a n c b m d q ∧ Below W.heap.size W w'
set_option maxHeartbeats 4000000 in
theorem rat_within {k : Nat} {s : Bool} {a : Option Addr} {n c : Nat} {b : Option Addr} {m d : Nat} {q : Rat} {w : World} (h : RR k w s a n c b m d q) (hk : k ≤ 100000) (hk1 : 1 ≤ k) :
    Calls Tryz.prog 51 #[.agg #[.bool s, .slice a n c, .slice b m d]] w (AnsN k w q) := by
  obtain ⟨xs, ys, h1, h2, h3, h4, h5, h6, rfl⟩ := h
  have B := fun v (hb : Below w.heap.size w v) => nat_bits' (h3.below hb) h4 (by omega) _ rfl
  obtain ⟨b1, b2, bV, hs⟩ := boxes2 w #[.bool s, .slice a n c, .slice b m d] #[.bool false, .slice none 0 0, .slice none 0 0] 24 51
  obtain ⟨x0, x1, x2, f0, f1, f2⟩ := b1.cells3
  rcases Nat.eq_zero_or_pos (val ys) with h | h
  · rw [h] at B ⊢
    have O := fun v => nat_of 1 v (by omega) (by omega)
    have G := fun v b m d => rat_fraction false none 0 0 b m d v
    unfold Ans at O
    have e1 : (1 : Int).toNat = 1 := rfl
    rw [e1] at O
    have l1 : nl 1 ≤ 1 := nl_le 1 1 (by omega)
    have nb : ((nbits 0 : Nat) : Int) = 0 := by rw [nbits_zero]; rfl
    rw [nb] at B
    have fin : ∀ v a2 c2, IsWords v (.slice a2 (nl 1) c2) (natOf 1) → NR k v false none 0 0 a2 (nl 1) c2 (rv s (val xs) 0) := fun v a2 c2 p => ⟨[], natOf 1, (.inl ⟨rfl, rfl⟩), (fun _ h => by cases h), p, wd_natOf 1, by omega, by omega, by rw [val_natOf]; omega, by rw [rv_den0]; exact rv_num0 _ _⟩
    clear h1 h2 h3 h4 h5 h6 h hk hk1 nb
    generalize nl 1 = l at *
    go_enter Tryz.func51, Tryz.ntmps51
    go_wp2_with (first
      | (go_at_call 43; (with_reducible refine Calls.mono (B _ bV) ?_); rintro e w1 ⟨rfl, rfl⟩)
      | (go_at_call 54; (with_reducible refine Calls.mono (O _) ?_); rintro e w1 ⟨a2, c2, rfl, o1⟩)
      | (go_at_call 44; (with_reducible refine Calls.mono (G _ _ _ _) ?_); rintro e w2 ⟨rfl, d2⟩; have B2 := (b2.more o1.below).more d2; obtain ⟨y0, y1, y2, g0, g1, g2⟩ := B2.cells3))
    exact bodyPost_ret (v := .agg #[.bool false, .slice none 0 0, .slice a2 l c2]) (by simp [results, Tryz.results51, go_sem, y0, y1, y2]) rfl ⟨_, _, _, _, _, _, _, rfl, fin _ _ _ ((((o1.outer bV).more d2).box3 B2 (by decide) (by omega) _ _ _).words), below_set3 (below_more (below_more bV o1.below) d2) (by omega) _ _ _⟩
  · have nb : ((nbits (val ys) : Int) == 0) = false := by have := nbits_pos (n := val ys) (by omega); simp; omega
    have fin : ∀ v, Below w.heap.size w v → NR k v s a n c b m d (rv s (val xs) (val ys)) := fun v hb => ⟨xs, ys, h1.below hb, h2, h3.below hb, h4, h5, h6, h, rfl⟩
    obtain ⟨y0, y1, y2, g0, g1, g2⟩ := b2.cells3
    clear h1 h2 h3 h4 h5 h6 h hk hk1
    generalize (nbits (val ys) : Int) = nn at *
    go_enter Tryz.func51, Tryz.ntmps51
    go_wp2_with (go_at_call 43; (with_reducible refine Calls.mono (B _ bV) ?_); rintro e w1 ⟨rfl, rfl⟩)
    have bE' := ((Below.refl w.heap.size w).alloc (Nat.le_refl _) (.cells #[.bool s, .slice a n c, .slice b m d] 24)).alloc (by simp) (.cells #[.bool s, .slice a n c, .slice b m d] 51)
    exact bodyPost_ret (v := .agg #[.bool s, .slice a n c, .slice b m d]) (by simp [results, Tryz.results51, go_sem]) rfl ⟨_, _, _, _, _, _, _, rfl, fin _ bE', bE'⟩

set_option maxHeartbeats 4000000 in
theorem rat_lowest {k : Nat} {s : Bool} {a : Option Addr} {n c : Nat} {b : Option Addr} {m d : Nat} {q : Rat} {w : World} (h : NR k w s a n c b m d q) (hk : k ≤ 100000000) :
    Calls Tryz.prog 45 #[.agg #[.bool s, .slice a n c, .slice b m d]] w (AnsR w q) := by
  obtain ⟨xs, ys, h1, h2, h3, h4, h5, h6, h7, rfl⟩ := h
  have L := fun v (hb : Below w.heap.size w v) => common_lowest (h1.below hb) h2 (h3.below hb) h4 (by omega) (by omega) _ _ rfl rfl
  unfold AnsDivB at L
  obtain ⟨b1, b2, bV, hs⟩ := boxes2 w #[.bool s, .slice a n c, .slice b m d] #[.bool false, .slice none 0 0, .slice none 0 0] 51 24
  obtain ⟨x0, x1, x2, f0, f1, f2⟩ := b1.cells3
  clear h1 h2 h3 h4 h5 h6 hk
  generalize val xs = A at *
  generalize val ys = D at *
  have HA : Hid (∀ e w', AnsT w (tri (rv s A D)) e w' → AnsR w (rv s A D) e w') := fun _ _ h => h
  have eT : tri (rv s A D) = (s && decide (0 < A / Nat.gcd A D), A / Nat.gcd A D, D / Nat.gcd A D) := by
    rcases Nat.eq_zero_or_pos A with e | e
    · subst e
      rw [rv_num0, tri_zero, Nat.zero_div, Nat.gcd_zero_left, Nat.div_self h7]; simp
    · rw [tri_rv s A D e h7]
      have hX : 0 < A / Nat.gcd A D := Nat.div_pos (Nat.le_of_dvd e (Nat.gcd_dvd_left _ _)) (Nat.gcd_pos_of_pos_left _ e)
      simp [hX]
  rw [eT] at HA
  rw [show low1 A D = A / Nat.gcd A D from if_neg (by omega), show decide (0 < D) = true from decide_eq_true h7] at L
  generalize A / Nat.gcd A D = X at *
  generalize D / Nat.gcd A D = Y at *
  clear eT h7
  have eX : decide (0 < X) = decide ((0 : Int) < (nl X : Int)) := by
    rcases Nat.eq_zero_or_pos X with e | e
    · subst e; rw [nl_zero]; rfl
    · have := nl_pos e
      rw [decide_eq_true e, decide_eq_true (by omega)]
  rw [eX] at HA
  clear eX
  rcases s with _ | _
  case' false =>
    rw [Bool.false_and] at HA
  case' true =>
    rw [Bool.true_and] at HA
  all_goals
    go_enter Tryz.func45, Tryz.ntmps45
    go_wp2_with (go_at_call 82; (with_reducible refine Calls.mono (L _ bV) ?_); rintro e w1 ⟨a1, c1, a2, c2, rfl, o1, o2⟩; obtain ⟨x0, x1, x2, -, -, -⟩ := (b1.more o1.below).cells3; obtain ⟨y0, y1, y2, g0, g1, g2⟩ := (b2.more o1.below).cells3)
    exact bodyPost_ret (v := .agg #[.bool _, .slice a1 (nl X) c1, .slice a2 (nl Y) c2]) (by simp [results, Tryz.results45, go_sem, y0, y1, y2]) rfl (HA.out _ _ (ansT_mk (((o1.above bV).set3 (by omega) hs _ _ _).own (by omega)) (((o2.above bV).set3 (by omega) hs _ _ _).own (by omega))))
end Go.Proofs.YtpimcbncmfpdhaaGreatDoor
/-
  Contracts of package ratio's couples (both, crossed, sum, product, order), for every two numbers of up to twenty thousand words each: as rational numbers; memory that was there stays.
-/
namespace Go.Proofs.YtpimcbncmfpdhaaGreatDoor
open Go.RowKit

theorem BoxC.lo {v v' : World} {k n : Nat} {cs : Array Value} {T : TypeId} (h : BoxC v k cs T) (hb : Below n v v') (hk : k < n) : BoxC v' k cs T := (hb.block k hk).trans h
theorem BoxC.cells6 {v : World} {k : Nat} {x0 x1 x2 x3 x4 x5 : Value} {T : TypeId} (h : BoxC v k #[x0, x1, x2, x3, x4, x5] T) : v.cell? ⟨k, 0, none⟩ = some x0 ∧ v.cell? ⟨k, 1, none⟩ = some x1 ∧ v.cell? ⟨k, 2, none⟩ = some x2 ∧ v.cell? ⟨k, 3, none⟩ = some x3 ∧ v.cell? ⟨k, 4, none⟩ = some x4 ∧ v.cell? ⟨k, 5, none⟩ = some x5 ∧ v.frozen? ⟨k, 0, none⟩ = false ∧ v.frozen? ⟨k, 1, none⟩ = false ∧ v.frozen? ⟨k, 2, none⟩ = false ∧ v.frozen? ⟨k, 3, none⟩ = false ∧ v.frozen? ⟨k, 4, none⟩ = false ∧ v.frozen? ⟨k, 5, none⟩ = false :=
  ⟨(h.cell 0).1, (h.cell 1).1, (h.cell 2).1, (h.cell 3).1, (h.cell 4).1, (h.cell 5).1, (h.cell 0).2, (h.cell 1).2, (h.cell 2).2, (h.cell 3).2, (h.cell 4).2, (h.cell 5).2⟩
theorem below_lo {n : Nat} {a b c : World} (h : Below n a b) (k : Below b.heap.size b c) (hn : n ≤ a.heap.size) : Below n a c := h.trans (k.mono (Nat.le_trans hn h.size))
theorem below_set6 {W w : World} (h : Below W.heap.size W w) {k : Nat} (hk : W.heap.size ≤ k) (x y z x' y' z' : Value) : Below W.heap.size W ((((((w.setCell ⟨k, 0, none⟩ x).setCell ⟨k, 1, none⟩ y).setCell ⟨k, 2, none⟩ z).setCell ⟨k, 3, none⟩ x').setCell ⟨k, 4, none⟩ y').setCell ⟨k, 5, none⟩ z') :=
  (((((h.setCell (p := ⟨k, 0, none⟩) hk x).setCell (p := ⟨k, 1, none⟩) hk y).setCell (p := ⟨k, 2, none⟩) hk z).setCell (p := ⟨k, 3, none⟩) hk x').setCell (p := ⟨k, 4, none⟩) hk y').setCell (p := ⟨k, 5, none⟩) hk z'
/-- No word lies here. -/
def Bare (cs : Array Value) : Prop := ∀ (i : Nat) (z : Int), cs[i]? ≠ some (Value.int .u32 z)
theorem bare3 (s : Bool) (a : Option Addr) (n c : Nat) (b : Option Addr) (m d : Nat) : Bare #[.bool s, .slice a n c, .slice b m d] := by
  intro i z
  match i with
  | 0 => simp
  | 1 => simp
  | 2 => simp
  | i + 3 => simp
theorem bare6 (s : Bool) (a : Option Addr) (n c : Nat) (b : Option Addr) (m d : Nat) (s' : Bool) (a' : Option Addr) (n' c' : Nat) (b' : Option Addr) (m' d' : Nat) : Bare #[.bool s, .slice a n c, .slice b m d, .bool s', .slice a' n' c', .slice b' m' d'] := by
  intro i z
  match i with
  | 0 => simp
  | 1 => simp
  | 2 => simp
  | 3 => simp
  | 4 => simp
  | 5 => simp
  | i + 6 => simp
theorem Bare.set {cs : Array Value} (h : Bare cs) {x : Value} (hx : ∀ z, x ≠ .int .u32 z) (i : Nat) : Bare (cs.setIfInBounds i x) := by
  intro j z e
  rw [Array.getElem?_setIfInBounds] at e
  split at e
  · split at e
    · exact hx z (Option.some.inj e)
    · cases e
  · exact h j z e
/-- A list is read as before where a variable is written. -/
theorem words_box {w : World} {v : Value} {xs : List Int} (h : IsWords w v xs) {k : Nat} {cs : Array Value} {T : TypeId} (B : BoxC w k cs T) (hc : Bare cs) (i : Nat) (x : Value) : IsWords (w.setCell ⟨k, i, none⟩ x) v xs := by
  rcases h with h | ⟨y, cap, rfl, h1, h2, hy⟩
  · exact .inl h
  · refine .inr ⟨y, cap, rfl, h1, h2, fun j hj => ?_⟩
    have e := hy j hj
    have hne : (y.add j).block ≠ k := by
      intro e1
      have hs := World.cell?_spot e
      have e2 : w.cell? ⟨k, (y.add j).off, none⟩ = some (.int .u32 (xs.getD j 0)) := by
        rw [← e, ← e1, ← hs]
      rw [(B.cell _).1] at e2
      exact hc _ _ e2
    rw [World.cell?_of_block (Below.heap_setCell w ⟨k, i, none⟩ x _ (by simpa using hne))]
    exact e
theorem NR.box {K : Nat} {w : World} {s : Bool} {a : Option Addr} {n c : Nat} {b : Option Addr} {m d : Nat} {q : Rat} (h : NR K w s a n c b m d q) {k : Nat} {cs : Array Value} {T : TypeId} (B : BoxC w k cs T) (hc : Bare cs) (i : Nat) (x : Value) : NR K (w.setCell ⟨k, i, none⟩ x) s a n c b m d q := by
  obtain ⟨xs, ys, h1, h2, h3, h4, h5⟩ := h; exact ⟨xs, ys, words_box h1 B hc i x, h2, words_box h3 B hc i x, h4, h5⟩
theorem NR.box3 {K : Nat} {w : World} {s : Bool} {a : Option Addr} {n c : Nat} {b : Option Addr} {m d : Nat} {q : Rat} (h : NR K w s a n c b m d q) {k : Nat} {T : TypeId} {cs : Array Value} (B : BoxC w k cs T) (hc : Bare cs) (x0 : Bool) (x1 : Option Addr) (x2 x3 : Nat) (x : Value) :
    NR K (((w.setCell ⟨k, 0, none⟩ (.bool x0)).setCell ⟨k, 1, none⟩ (.slice x1 x2 x3)).setCell ⟨k, 2, none⟩ x) s a n c b m d q :=
  ((h.box B hc 0 _).box (B.set 0 _) (hc.set (by intro z; simp) 0) 1 _).box ((B.set 0 _).set 1 _) ((hc.set (by intro z; simp) 0).set (by intro z; simp) 1) 2 _
theorem NR.box3' {K : Nat} {w : World} {s : Bool} {a : Option Addr} {n c : Nat} {b : Option Addr} {m d : Nat} {q : Rat} (h : NR K w s a n c b m d q) {k : Nat} {T : TypeId} {cs : Array Value} (B : BoxC w k cs T) (hc : Bare cs) (x0 : Bool) (x1 : Option Addr) (x2 x3 : Nat) (x : Value) :
    NR K (((w.setCell ⟨k, 3, none⟩ (.bool x0)).setCell ⟨k, 4, none⟩ (.slice x1 x2 x3)).setCell ⟨k, 5, none⟩ x) s a n c b m d q :=
  ((h.box B hc 3 _).box (B.set 3 _) (hc.set (by intro z; simp) 3) 4 _).box ((B.set 3 _).set 4 _) ((hc.set (by intro z; simp) 3).set (by intro z; simp) 4) 5 _
theorem NR.box6 {K : Nat} {w : World} {s : Bool} {a : Option Addr} {n c : Nat} {b : Option Addr} {m d : Nat} {q : Rat} (h : NR K w s a n c b m d q) {k : Nat} {T : TypeId} {cs : Array Value} (B : BoxC w k cs T) (hc : Bare cs) (x0 : Bool) (x1 : Option Addr) (x2 x3 : Nat) (y1 : Option Addr) (y2 y3 : Nat) (z0 : Bool) (z1 : Option Addr) (z2 z3 : Nat) (u1 : Option Addr) (u2 u3 : Nat) :
    NR K ((((((w.setCell ⟨k, 0, none⟩ (.bool x0)).setCell ⟨k, 1, none⟩ (.slice x1 x2 x3)).setCell ⟨k, 2, none⟩ (.slice y1 y2 y3)).setCell ⟨k, 3, none⟩ (.bool z0)).setCell ⟨k, 4, none⟩ (.slice z1 z2 z3)).setCell ⟨k, 5, none⟩ (.slice u1 u2 u3)) s a n c b m d q :=
  (h.box3 B hc x0 x1 x2 x3 (.slice y1 y2 y3)).box3' (((B.set 0 _).set 1 _).set 2 _) (((hc.set (by intro z; simp) 0).set (by intro z; simp) 1).set (by intro z; simp) 2) z0 z1 z2 z3 (.slice u1 u2 u3)

end Go.Proofs.YtpimcbncmfpdhaaGreatDoor
/-
  Contracts of package ratio's couples (both, crossed, order), for every two numbers of up to forty thousand words each: as rational numbers; memory that was there stays.
-/
namespace Go.Proofs.YtpimcbncmfpdhaaGreatDoor
open Go.RowKit

/-- What a couple is answered as. -/
def AnsC (k : Nat) (W : World) (q r : Rat) (e : Ending) (w' : World) : Prop :=
  ∃ s a n c b m d s' a' n' c' b' m' d', e = .returned (.agg #[.bool s, .slice a n c, .slice b m d, .bool s', .slice a' n' c', .slice b' m' d']) ∧ NR k w' s a n c b m d q ∧ NR k w' s' a' n' c' b' m' d' r ∧ Below W.heap.size W w'

set_option maxHeartbeats 2000000 in
theorem rat_both {k : Nat} {s : Bool} {a : Option Addr} {n c : Nat} {b : Option Addr} {m d : Nat} {q : Rat} {s' : Bool} {a' : Option Addr} {n' c' : Nat} {b' : Option Addr} {m' d' : Nat} {r : Rat} {w : World} (h : RR k w s a n c b m d q) (g : RR k w s' a' n' c' b' m' d' r) (hk : k ≤ 100000) (hk1 : 1 ≤ k) :
    Calls Tryz.prog 63 #[.agg #[.bool s, .slice a n c, .slice b m d], (.agg #[.bool s', .slice a' n' c', .slice b' m' d'])] w (AnsC k w q r) := by
  have F1 := fun v (hb : Below w.heap.size w v) => rat_within (h.below hb) hk hk1
  have F2 := fun v (hb : Below w.heap.size w v) => rat_within (g.below hb) hk hk1
  unfold AnsN at F1 F2
  clear h g hk hk1
  obtain ⟨b1, b2, b3, bV, hs⟩ := boxes3 w #[.bool s, .slice a n c, .slice b m d] #[.bool s', .slice a' n' c', .slice b' m' d'] #[.bool false, .slice none 0 0, .slice none 0 0, .bool false, .slice none 0 0, .slice none 0 0] 24 24 64
  go_enter Tryz.func63, Tryz.ntmps63
  go_wp2
  generalize ((w.alloc (.cells #[.bool s, .slice a n c, .slice b m d] 24)).alloc (.cells #[.bool s', .slice a' n' c', .slice b' m' d'] 24)).alloc (.cells #[.bool false, .slice none 0 0, .slice none 0 0, .bool false, .slice none 0 0, .slice none 0 0] 64) = V at *
  have SB : ∀ v, BoxC v w.heap.size #[.bool s, .slice a n c, .slice b m d] 24 → BoxC v (w.heap.size + 1) #[.bool s', .slice a' n' c', .slice b' m' d'] 24 → v.cell? ⟨w.heap.size, 0, none⟩ = some (.bool s) ∧ v.cell? ⟨w.heap.size, 1, none⟩ = some (.slice a n c) ∧ v.cell? ⟨w.heap.size, 2, none⟩ = some (.slice b m d) ∧ v.cell? ⟨w.heap.size + 1, 0, none⟩ = some (.bool s') ∧ v.cell? ⟨w.heap.size + 1, 1, none⟩ = some (.slice a' n' c') ∧ v.cell? ⟨w.heap.size + 1, 2, none⟩ = some (.slice b' m' d') := fun v h1 h2 => ⟨h1.cells3.1, h1.cells3.2.1, h1.cells3.2.2.1, h2.cells3.1, h2.cells3.2.1, h2.cells3.2.2.1⟩
  have SO := fun v (hb : Below V.heap.size V v) => SB v (b1.more hb) (b2.more hb)
  have SR := fun v (hb : Below V.heap.size V v) x0 x1 x2 x3 x4 x5 => SB ((((((v.setCell ⟨w.heap.size + 1 + 1, 0, none⟩ x0).setCell ⟨w.heap.size + 1 + 1, 1, none⟩ x1).setCell ⟨w.heap.size + 1 + 1, 2, none⟩ x2).setCell ⟨w.heap.size + 1 + 1, 3, none⟩ x3).setCell ⟨w.heap.size + 1 + 1, 4, none⟩ x4).setCell ⟨w.heap.size + 1 + 1, 5, none⟩ x5) (((((((b1.more hb).other (by omega) _).other (by omega) _).other (by omega) _).other (by omega) _).other (by omega) _).other (by omega) _) (((((((b2.more hb).other (by omega) _).other (by omega) _).other (by omega) _).other (by omega) _).other (by omega) _).other (by omega) _)
  have bs : Below V.heap.size V V.drew := (Below.refl _ _).drew
  clear SB b1 b2
  go_region_held3 (fun v => v.cell? ⟨w.heap.size, 0, none⟩ = some (.bool s) ∧ v.cell? ⟨w.heap.size, 1, none⟩ = some (.slice a n c) ∧ v.cell? ⟨w.heap.size, 2, none⟩ = some (.slice b m d) ∧ v.cell? ⟨w.heap.size + 1, 0, none⟩ = some (.bool s') ∧ v.cell? ⟨w.heap.size + 1, 1, none⟩ = some (.slice a' n' c') ∧ v.cell? ⟨w.heap.size + 1, 2, none⟩ = some (.slice b' m' d'))
    (first | with_reducible exact SO _ bs | with_reducible exact SR _ bs _ _ _ _ _ _)
    (first
    | (go_at_call 51; (with_reducible refine Calls.mono (F1 _ (below_more bV bs)) ?_); rintro e w1 ⟨s1, a1, n1, c1, a2, n2, c2, rfl, N1, d1⟩; replace bs := below_more bs d1; (try replace N2 := N2.below d1); obtain ⟨y0, y1, y2, y3, y4, y5, g0, g1, g2, g3, g4, g5⟩ := (b3.more bs).cells6)
    | (go_at_call 51; (with_reducible refine Calls.mono (F2 _ (below_more bV bs)) ?_); rintro e w2 ⟨s2, a3, n3, c3, a4, n4, c4, rfl, N2, d2⟩; replace bs := below_more bs d2; (try replace N1 := N1.below d2); obtain ⟨y0, y1, y2, y3, y4, y5, g0, g1, g2, g3, g4, g5⟩ := (b3.more bs).cells6))
  all_goals
    go_wp2
    exact bodyPost_ret (v := .agg #[.bool s1, .slice a1 n1 c1, .slice a2 n2 c2, .bool s2, .slice a3 n3 c3, .slice a4 n4 c4]) (by simp [results, Tryz.results63, go_sem, y0, y1, y2, y3, y4, y5]) rfl ⟨_, _, _, _, _, _, _, _, _, _, _, _, _, _, rfl, N1.box6 (b3.more bs) (bare6 _ _ _ _ _ _ _ _ _ _ _ _ _ _) _ _ _ _ _ _ _ _ _ _ _ _ _ _, N2.box6 (b3.more bs) (bare6 _ _ _ _ _ _ _ _ _ _ _ _ _ _) _ _ _ _ _ _ _ _ _ _ _ _ _ _, below_set6 (below_more bV bs) (by omega) _ _ _ _ _ _⟩

/-- Two integers are answered, in memory of the call's own. -/
def AnsX (W : World) (x y : Int) (e : Ending) (w' : World) : Prop :=
  ∃ a c b d, e = .returned (.tuple #[.agg #[.bool (decide (x < 0)), .slice a (nl x.natAbs) c], .agg #[.bool (decide (y < 0)), .slice b (nl y.natAbs) d]]) ∧ Own W w' (.slice a (nl x.natAbs) c) (nl x.natAbs) (natOf x.natAbs) ∧ Own W w' (.slice b (nl y.natAbs) d) (nl y.natAbs) (natOf y.natAbs)
theorem iv_pos (N : Nat) : iv false N = N := rfl
set_option maxHeartbeats 4000000 in
theorem rat_crossed {s : Bool} {a : Option Addr} {n c : Nat} {b : Option Addr} {m d : Nat} {s' : Bool} {a' : Option Addr} {n' c' : Nat} {b' : Option Addr} {m' d' : Nat} {xs ys xs' ys' : List Int} {w : World} (h1 : IsWords w (.slice a n c) xs) (hx : Wd xs) (h2 : IsWords w (.slice b m d) ys) (hy : Wd ys) (h3 : IsWords w (.slice a' n' c') xs') (hx' : Wd xs') (h4 : IsWords w (.slice b' m' d') ys') (hy' : Wd ys') (l1 : n ≤ 40000) (l2 : m ≤ 40000) (l3 : n' ≤ 40000) (l4 : m' ≤ 40000) (x y : Int) (ex : iv s (val xs) * (val ys' : Int) = x) (ey : iv s' (val xs') * (val ys : Int) = y) :
    Calls Tryz.prog 94 #[.agg #[.bool s, .slice a n c, .slice b m d, .bool s', .slice a' n' c', .slice b' m' d']] w (AnsX w x y) := by
  have T1 := fun v => rat_top s a n c b m d v
  have T2 := fun v => rat_top s' a' n' c' b' m' d' v
  have B1 := fun v => rat_bottom s a n c b m d v
  have B2 := fun v => rat_bottom s' a' n' c' b' m' d' v
  have M1 := fun v (hb : Below w.heap.size w v) => whole_mul (⟨xs, h1.below hb, hx, by omega, rfl⟩ : RI v s a n c (iv s (val xs))) (⟨ys', h4.below hb, hy', by omega, rfl⟩ : RI v false b' m' d' (iv false (val ys'))) x ex
  have M2 := fun v (hb : Below w.heap.size w v) => whole_mul (⟨xs', h3.below hb, hx', by omega, rfl⟩ : RI v s' a' n' c' (iv s' (val xs'))) (⟨ys, h2.below hb, hy, by omega, rfl⟩ : RI v false b m d (iv false (val ys))) y ey
  unfold AnsI at M1 M2
  clear h1 h2 h3 h4 hx hy hx' hy' l1 l2 l3 l4 ex ey
  unfold AnsX
  generalize decide (x < 0) = r1 at *
  generalize decide (y < 0) = r2 at *
  generalize x.natAbs = X at *
  generalize y.natAbs = Y at *
  obtain ⟨b1, b2, b3, bV, hs⟩ := boxes3 w #[.bool s, .slice a n c, .slice b m d, .bool s', .slice a' n' c', .slice b' m' d'] #[.bool false, .slice none 0 0] #[.bool false, .slice none 0 0] 64 26 26
  go_enter Tryz.func94, Tryz.ntmps94
  go_wp2
  generalize ((w.alloc (.cells #[.bool s, .slice a n c, .slice b m d, .bool s', .slice a' n' c', .slice b' m' d'] 64)).alloc (.cells #[.bool false, .slice none 0 0] 26)).alloc (.cells #[.bool false, .slice none 0 0] 26) = V at *
  have SB : ∀ v, BoxC v w.heap.size #[.bool s, .slice a n c, .slice b m d, .bool s', .slice a' n' c', .slice b' m' d'] 64 → v.cell? ⟨w.heap.size, 0, none⟩ = some (.bool s) ∧ v.cell? ⟨w.heap.size, 1, none⟩ = some (.slice a n c) ∧ v.cell? ⟨w.heap.size, 2, none⟩ = some (.slice b m d) ∧ v.cell? ⟨w.heap.size, 3, none⟩ = some (.bool s') ∧ v.cell? ⟨w.heap.size, 4, none⟩ = some (.slice a' n' c') ∧ v.cell? ⟨w.heap.size, 5, none⟩ = some (.slice b' m' d') := fun v h1 => ⟨h1.cells6.1, h1.cells6.2.1, h1.cells6.2.2.1, h1.cells6.2.2.2.1, h1.cells6.2.2.2.2.1, h1.cells6.2.2.2.2.2.1⟩
  have SO := fun v (hb : Below V.heap.size V v) => SB v (b1.more hb)
  have SR := fun v (hb : Below V.heap.size V v) x0 x1 => SB ((v.setCell ⟨w.heap.size + 1, 0, none⟩ x0).setCell ⟨w.heap.size + 1, 1, none⟩ x1) (((b1.more hb).other (by omega) _).other (by omega) _)
  have SR2 := fun v (hb : Below V.heap.size V v) x0 x1 => SB ((v.setCell ⟨w.heap.size + 1 + 1, 0, none⟩ x0).setCell ⟨w.heap.size + 1 + 1, 1, none⟩ x1) (((b1.more hb).other (by omega) _).other (by omega) _)
  have SR3 := fun v (hb : Below V.heap.size V v) x0 x1 x2 x3 => SB ((((v.setCell ⟨w.heap.size + 1, 0, none⟩ x0).setCell ⟨w.heap.size + 1, 1, none⟩ x1).setCell ⟨w.heap.size + 1 + 1, 0, none⟩ x2).setCell ⟨w.heap.size + 1 + 1, 1, none⟩ x3) (((((b1.more hb).other (by omega) _).other (by omega) _).other (by omega) _).other (by omega) _)
  have SR4 := fun v (hb : Below V.heap.size V v) x0 x1 x2 x3 => SB ((((v.setCell ⟨w.heap.size + 1 + 1, 0, none⟩ x0).setCell ⟨w.heap.size + 1 + 1, 1, none⟩ x1).setCell ⟨w.heap.size + 1, 0, none⟩ x2).setCell ⟨w.heap.size + 1, 1, none⟩ x3) (((((b1.more hb).other (by omega) _).other (by omega) _).other (by omega) _).other (by omega) _)
  have bs : Below V.heap.size V V.drew := (Below.refl _ _).drew
  clear SB b1
  go_region_held3 (fun v => v.cell? ⟨w.heap.size, 0, none⟩ = some (.bool s) ∧ v.cell? ⟨w.heap.size, 1, none⟩ = some (.slice a n c) ∧ v.cell? ⟨w.heap.size, 2, none⟩ = some (.slice b m d) ∧ v.cell? ⟨w.heap.size, 3, none⟩ = some (.bool s') ∧ v.cell? ⟨w.heap.size, 4, none⟩ = some (.slice a' n' c') ∧ v.cell? ⟨w.heap.size, 5, none⟩ = some (.slice b' m' d'))
    (first | with_reducible exact SO _ bs | with_reducible exact SR _ bs _ _ | with_reducible exact SR2 _ bs _ _ | with_reducible exact SR3 _ bs _ _ _ _ | with_reducible exact SR4 _ bs _ _ _ _)
    (first
    | (go_at_call 75; (with_reducible refine Calls.mono (T1 _) ?_); rintro e w1 ⟨rfl, d1⟩; replace bs := below_more bs d1; (try replace o1 := o1.more d1); (try replace o2 := o2.more d1))
    | (go_at_call 75; (with_reducible refine Calls.mono (T2 _) ?_); rintro e w1 ⟨rfl, d1⟩; replace bs := below_more bs d1; (try replace o1 := o1.more d1); (try replace o2 := o2.more d1))
    | (go_at_call 123; (with_reducible refine Calls.mono (B1 _) ?_); rintro e w1 ⟨rfl, d1⟩; replace bs := below_more bs d1; (try replace o1 := o1.more d1); (try replace o2 := o2.more d1))
    | (go_at_call 123; (with_reducible refine Calls.mono (B2 _) ?_); rintro e w1 ⟨rfl, d1⟩; replace bs := below_more bs d1; (try replace o1 := o1.more d1); (try replace o2 := o2.more d1))
    | (go_at_call 88; (with_reducible refine Calls.mono (M1 _ (below_more bV bs)) ?_); rintro e w3 ⟨a1, c1, rfl, o1⟩; have d1 := o1.below; replace o1 := o1.outer (below_more bV bs); replace bs := below_more bs d1; (try replace o2 := o2.more d1); obtain ⟨y0, y1, g0, g1⟩ := (b2.more bs).cells2; obtain ⟨z0, z1, f0, f1⟩ := (b3.more bs).cells2)
    | (go_at_call 88; (with_reducible refine Calls.mono (M2 _ (below_more bV bs)) ?_); rintro e w4 ⟨a2, c2, rfl, o2⟩; have d1 := o2.below; replace o2 := o2.outer (below_more bV bs); replace bs := below_more bs d1; (try replace o1 := o1.more d1); obtain ⟨y0, y1, g0, g1⟩ := (b2.more bs).cells2; obtain ⟨z0, z1, f0, f1⟩ := (b3.more bs).cells2))
  all_goals
    go_wp2
    exact bodyPost_ret (v := .tuple #[.agg #[.bool r1, .slice a1 (nl X) c1], .agg #[.bool r2, .slice a2 (nl Y) c2]]) (by simp [results, Tryz.results94, go_sem, y0, y1, z0, z1]) rfl ⟨_, _, _, _, rfl, (o1.ibox2 (b2.more bs) (by omega)).ibox2 ((b3.more bs).other2 (by omega)) (by omega), (o2.ibox2 (b2.more bs) (by omega)).ibox2 ((b3.more bs).other2 (by omega)) (by omega)⟩

theorem sgn_scale {t : Int} (ht : 0 < t) (x y : Int) : sgn (t * x) (t * y) = sgn x y := by
  rcases Int.lt_trichotomy x y with h | h | h
  · rw [sgn_lt h, sgn_lt (Int.mul_lt_mul_of_pos_left h ht)]
  · rw [h, sgn_eq rfl, sgn_eq rfl]
  · rw [sgn_gt h, sgn_gt (Int.mul_lt_mul_of_pos_left h ht)]
theorem rv_split (s : Bool) (A D : Nat) (h : 0 < D) : ∃ g : Nat, 0 < g ∧ iv s A = (rv s A D).num * (g : Int) ∧ D = (rv s A D).den * g := by
  refine ⟨Nat.gcd A D, Nat.gcd_pos_of_pos_right _ h, ?_, ?_⟩
  · rw [rv_num s A D h, ← iv_div s A _ (Nat.gcd_dvd_left A D)]
    refine (Int.ediv_mul_cancel ?_).symm
    obtain ⟨k, hk⟩ := Nat.gcd_dvd_left A D
    unfold iv
    split
    · exact Int.dvd_neg.2 (Int.natCast_dvd_natCast.2 ⟨k, hk⟩)
    · exact Int.natCast_dvd_natCast.2 ⟨k, hk⟩
  · rw [rv_den s A D h]; exact (Nat.div_mul_cancel (Nat.gcd_dvd_right A D)).symm
theorem rsgn_rv (s : Bool) (A D : Nat) (s' : Bool) (A' D' : Nat) (h : 0 < D) (h' : 0 < D') : sgn (iv s A * (D' : Int)) (iv s' A' * (D : Int)) = rsgn (rv s A D) (rv s' A' D') := by
  obtain ⟨g, hg, e1, e2⟩ := rv_split s A D h
  obtain ⟨k, hk, e3, e4⟩ := rv_split s' A' D' h'
  unfold rsgn
  generalize rv s A D = q at *
  generalize rv s' A' D' = r at *
  have t : (0 : Int) < (g : Int) * (k : Int) := Int.mul_pos (by omega) (by omega)
  rw [e1, e3, e2, e4]
  refine Eq.trans ?_ (sgn_scale t _ _)
  congr 1
  · rw [Int.natCast_mul]; ac_rfl
  · rw [Int.natCast_mul]; ac_rfl

set_option maxHeartbeats 2000000 in
theorem rat_order {k : Nat} {s : Bool} {a : Option Addr} {n c : Nat} {b : Option Addr} {m d : Nat} {q : Rat} {s' : Bool} {a' : Option Addr} {n' c' : Nat} {b' : Option Addr} {m' d' : Nat} {r : Rat} {w : World} (h : NR k w s a n c b m d q) (g : NR k w s' a' n' c' b' m' d' r) (hk : k ≤ 40000) (z : Int) (hz : rsgn q r = z) :
    Calls Tryz.prog 67 #[.agg #[.bool s, .slice a n c, .slice b m d, .bool s', .slice a' n' c', .slice b' m' d']] w fun e w' => e = .returned (.int .i64 z) ∧ Below w.heap.size w w' := by
  obtain ⟨xs, ys, h1, hx, h2, hy, l1, l2, p1, rfl⟩ := h
  obtain ⟨xs', ys', h3, hx', h4, hy', l3, l4, p2, rfl⟩ := g
  have ez := rsgn_rv s (val xs) (val ys) s' (val xs') (val ys') p1 p2
  rw [hz] at ez
  have X := fun v (hb : Below w.heap.size w v) => rat_crossed (s := s) (s' := s') (h1.below hb) hx (h2.below hb) hy (h3.below hb) hx' (h4.below hb) hy' (by omega) (by omega) (by omega) (by omega) _ _ rfl rfl
  unfold AnsX at X
  have e1 := nl_small hx n (by rw [h1.len]; exact Nat.le_refl _)
  have e2 := nl_small hy m (by rw [h2.len]; exact Nat.le_refl _)
  have e3 := nl_small hx' n' (by rw [h3.len]; exact Nat.le_refl _)
  have e4 := nl_small hy' m' (by rw [h4.len]; exact Nat.le_refl _)
  have f1 := nl_imul (iv s (val xs)) (val ys' : Int)
  have f2 := nl_imul (iv s' (val xs')) (val ys : Int)
  rw [iv_abs, Int.natAbs_natCast] at f1 f2
  generalize iv s (val xs) * (val ys' : Int) = x at *
  generalize iv s' (val xs') * (val ys : Int) = y at *
  have C := fun v a1 c1 a2 c2 (p : Own w v (.slice a1 (nl x.natAbs) c1) (nl x.natAbs) (natOf x.natAbs)) (p' : Own w v (.slice a2 (nl y.natAbs) c2) (nl y.natAbs) (natOf y.natAbs)) => whole_cmp (p.ri (by omega)) (p'.ri (by omega)) _ ez
  clear h1 h2 h3 h4 hx hy hx' hy' l1 l2 l3 l4 p1 p2 hz ez e1 e2 e3 e4 f1 f2 hk
  generalize decide (x < 0) = r1 at *
  generalize decide (y < 0) = r2 at *
  generalize x.natAbs = A1 at *
  generalize y.natAbs = A2 at *
  obtain ⟨b1, bV, hs⟩ := boxes1 w #[.bool s, .slice a n c, .slice b m d, .bool s', .slice a' n' c', .slice b' m' d'] 64
  obtain ⟨y0, y1, y2, y3, y4, y5, -, -, -, -, -, -⟩ := b1.cells6
  go_enter Tryz.func67, Tryz.ntmps67
  go_wp2_with (first
    | (go_at_call 94; (with_reducible refine Calls.mono (X _ bV) ?_); rintro e w1 ⟨a1, c1, a2, c2, rfl, o1, o2⟩; replace o1 := o1.outer bV; replace o2 := o2.outer bV)
    | (go_at_call 98; (with_reducible refine Calls.mono (C _ _ _ _ _ o1 o2) ?_); rintro e w2 ⟨rfl, d2⟩))
  go_ret
  exact ⟨rfl, below_more o1.below d2⟩
end Go.Proofs.YtpimcbncmfpdhaaGreatDoor
/-
  Contracts of package ratio's couples (sum), for every two numbers of up to twenty thousand words each: as rational numbers; memory that was there stays.
-/
namespace Go.Proofs.YtpimcbncmfpdhaaGreatDoor
open Go.RowKit

theorem rv_mk (z : Int) (D : Nat) : rv (decide (z < 0)) z.natAbs D = mkRat z D := by unfold rv; rw [iv_self]
theorem rv_sum (s : Bool) (A D : Nat) (s' : Bool) (A' D' : Nat) (h : 0 < D) (h' : 0 < D') : mkRat (iv s A * (D' : Int) + iv s' A' * (D : Int)) (D * D') = rv s A D + rv s' A' D' := by
  unfold rv; rw [Rat.mkRat_add_mkRat _ _ (by omega) (by omega)]
theorem rv_prod (s : Bool) (A D : Nat) (s' : Bool) (A' D' : Nat) : mkRat (iv s A * iv s' A') (D * D') = rv s A D * rv s' A' D' := by
  unfold rv; rw [Rat.mkRat_mul_mkRat]
theorem words_box3 {w : World} {v : Value} {xs : List Int} (h : IsWords w v xs) {k : Nat} {cs : Array Value} {T : TypeId} (B : BoxC w k cs T) (hc : Bare cs) (x0 : Bool) (x1 : Option Addr) (x2 x3 : Nat) (x : Value) : IsWords (((w.setCell ⟨k, 0, none⟩ (.bool x0)).setCell ⟨k, 1, none⟩ (.slice x1 x2 x3)).setCell ⟨k, 2, none⟩ x) v xs :=
  words_box (words_box (words_box h B hc 0 _) (B.set 0 _) (hc.set (by intro z; simp) 0) 1 _) ((B.set 0 _).set 1 _) ((hc.set (by intro z; simp) 0).set (by intro z; simp) 1) 2 _

set_option maxHeartbeats 4000000 in
theorem rat_sum {k : Nat} {s : Bool} {a : Option Addr} {n c : Nat} {b : Option Addr} {m d : Nat} {q : Rat} {s' : Bool} {a' : Option Addr} {n' c' : Nat} {b' : Option Addr} {m' d' : Nat} {r : Rat} {w : World} (h : NR k w s a n c b m d q) (g : NR k w s' a' n' c' b' m' d' r) (hk : k ≤ 20000) :
    Calls Tryz.prog 64 #[.agg #[.bool s, .slice a n c, .slice b m d, .bool s', .slice a' n' c', .slice b' m' d']] w (AnsN 100000000 w (q + r)) := by
  obtain ⟨xs, ys, h1, hx, h2, hy, l1, l2, p1, rfl⟩ := h
  obtain ⟨xs', ys', h3, hx', h4, hy', l3, l4, p2, rfl⟩ := g
  have X := fun v (hb : Below w.heap.size w v) => rat_crossed (s := s) (s' := s') (h1.below hb) hx (h2.below hb) hy (h3.below hb) hx' (h4.below hb) hy' (by omega) (by omega) (by omega) (by omega) _ _ rfl rfl
  have M := fun v (hb : Below w.heap.size w v) => times_mul' (h2.below hb) hy (h4.below hb) hy' (by omega) (by omega) _ rfl
  unfold AnsX at X
  unfold Ans at M
  have e1 := nl_small hx n (by rw [h1.len]; exact Nat.le_refl _)
  have e2 := nl_small hy m (by rw [h2.len]; exact Nat.le_refl _)
  have e3 := nl_small hx' n' (by rw [h3.len]; exact Nat.le_refl _)
  have e4 := nl_small hy' m' (by rw [h4.len]; exact Nat.le_refl _)
  have f1 := nl_imul (iv s (val xs)) (val ys' : Int)
  have f2 := nl_imul (iv s' (val xs')) (val ys : Int)
  rw [iv_abs, Int.natAbs_natCast] at f1 f2
  have f3 := nl_iadd (iv s (val xs) * (val ys' : Int)) (iv s' (val xs') * (val ys : Int))
  have f4 := nl_mul (val ys) (val ys')
  have eR := rv_sum s (val xs) (val ys) s' (val xs') (val ys') p1 p2
  have pD : 0 < val ys * val ys' := Nat.mul_pos p1 p2
  generalize iv s (val xs) * (val ys' : Int) = x at *
  generalize iv s' (val xs') * (val ys : Int) = y at *
  have A := fun v a1 c1 a2 c2 (p : Own w v (.slice a1 (nl x.natAbs) c1) (nl x.natAbs) (natOf x.natAbs)) (p' : Own w v (.slice a2 (nl y.natAbs) c2) (nl y.natAbs) (natOf y.natAbs)) => whole_add (p.ri (by omega)) (p'.ri (by omega)) _ rfl
  unfold AnsI at A
  have G := fun v a1 c1 a2 c2 => rat_fraction (decide (x + y < 0)) a1 (nl (x + y).natAbs) c1 a2 (nl (val ys * val ys')) c2 v
  have fin : Hid (∀ v a1 c1 a2 c2, IsWords v (.slice a1 (nl (x + y).natAbs) c1) (natOf (x + y).natAbs) → IsWords v (.slice a2 (nl (val ys * val ys')) c2) (natOf (val ys * val ys')) → NR 100000000 v (decide (x + y < 0)) a1 (nl (x + y).natAbs) c1 a2 (nl (val ys * val ys')) c2 (rv s (val xs) (val ys) + rv s' (val xs') (val ys'))) := fun v a1 c1 a2 c2 i1 i2 =>
    ⟨_, _, i1, wd_natOf _, i2, wd_natOf _, by omega, by omega, by rw [val_natOf]; exact pD, by rw [val_natOf, val_natOf, rv_mk]; exact eR⟩
  clear h1 h2 h3 h4 hx hy hx' hy' l1 l2 l3 l4 p1 p2 eR pD e1 e2 e3 e4 f1 f2 f3 f4 hk
  generalize rv s (val xs) (val ys) + rv s' (val xs') (val ys') = u at *
  generalize val ys * val ys' = E at *
  generalize decide (x + y < 0) = z0 at *
  generalize (x + y).natAbs = Z at *
  generalize decide (x < 0) = r1 at *
  generalize decide (y < 0) = r2 at *
  generalize x.natAbs = A1 at *
  generalize y.natAbs = A2 at *
  obtain ⟨b1, b2, bV, hs⟩ := boxes2 w #[.bool s, .slice a n c, .slice b m d, .bool s', .slice a' n' c', .slice b' m' d'] #[.bool false, .slice none 0 0, .slice none 0 0] 64 51
  obtain ⟨y0, y1, y2, y3, y4, y5, -, -, -, -, -, -⟩ := b1.cells6
  go_enter Tryz.func64, Tryz.ntmps64
  go_wp2_with (first
    | (go_at_call 94; (with_reducible refine Calls.mono (X _ bV) ?_); rintro e w1 ⟨a1, c1, a2, c2, rfl, o1, o2⟩; have d1 := o1.below; replace o1 := o1.outer bV; replace o2 := o2.outer bV)
    | (go_at_call 93; (with_reducible refine Calls.mono (A _ _ _ _ _ o1 o2) ?_); rintro e w2 ⟨a3, c3, rfl, o3⟩))
  have bW := o1.below
  have d2 := o3.below
  have BN := BoxC.new w2 #[.bool z0, .slice a3 (nl Z) c3] 26
  have BC := ((b1.more d1).more d2).alloc (.cells #[.bool z0, .slice a3 (nl Z) c3] 26)
  have BR := ((b2.more d1).more d2).alloc (.cells #[.bool z0, .slice a3 (nl Z) c3] 26)
  have o4 := (o3.outer bW).alloc (.cells #[.bool z0, .slice a3 (nl Z) c3] 26)
  have hk3 : w.heap.size + 1 < w2.heap.size := ((b2.more d1).more d2).lt
  clear o1 o2 o3 d1 d2 b1 b2 X A bV hs y0 y1 y2 y3 y4 y5 bW
  generalize w2.heap.size = k3 at *
  generalize w2.alloc (.cells #[.bool z0, .slice a3 (nl Z) c3] 26) = V at *
  have SB : ∀ v, BoxC v k3 #[.bool z0, .slice a3 (nl Z) c3] 26 → BoxC v w.heap.size #[.bool s, .slice a n c, .slice b m d, .bool s', .slice a' n' c', .slice b' m' d'] 64 → v.cell? ⟨k3, 0, none⟩ = some (.bool z0) ∧ v.cell? ⟨k3, 1, none⟩ = some (.slice a3 (nl Z) c3) ∧ v.cell? ⟨w.heap.size, 2, none⟩ = some (.slice b m d) ∧ v.cell? ⟨w.heap.size, 5, none⟩ = some (.slice b' m' d') := fun v h1 h2 => ⟨h1.cells2.1, h1.cells2.2.1, h2.cells6.2.2.1, h2.cells6.2.2.2.2.2.1⟩
  have SO := fun v (hb : Below V.heap.size V v) => SB v (BN.more hb) (BC.more hb)
  have SR := fun v (hb : Below V.heap.size V v) x0 x1 x2 => SB (((v.setCell ⟨w.heap.size + 1, 0, none⟩ x0).setCell ⟨w.heap.size + 1, 1, none⟩ x1).setCell ⟨w.heap.size + 1, 2, none⟩ x2) ((((BN.more hb).other (by omega) _).other (by omega) _).other (by omega) _) ((((BC.more hb).other (by omega) _).other (by omega) _).other (by omega) _)
  have bs : Below V.heap.size V V.drew := (Below.refl _ _).drew
  clear SB BN BC
  go_region_held3 (fun v => v.cell? ⟨k3, 0, none⟩ = some (.bool z0) ∧ v.cell? ⟨k3, 1, none⟩ = some (.slice a3 (nl Z) c3) ∧ v.cell? ⟨w.heap.size, 2, none⟩ = some (.slice b m d) ∧ v.cell? ⟨w.heap.size, 5, none⟩ = some (.slice b' m' d'))
    (first | with_reducible exact SO _ bs | with_reducible exact SR _ bs _ _ _)
    (first
    | (go_at_call 89; (with_reducible refine Calls.mono (M _ (below_more o4.below bs)) ?_); rintro e w3 ⟨a4, c4, rfl, o5⟩; replace bs := below_more bs o5.below)
    | (go_at_call 44; (with_reducible refine Calls.mono (G _ _ _ _ _) ?_); rintro e w4 ⟨rfl, d4⟩; replace bs := below_more bs d4; obtain ⟨y0, y1, y2, g0, g1, g2⟩ := (BR.more bs).cells3))
  all_goals
    go_wp2
    exact bodyPost_ret (v := .agg #[.bool z0, .slice a3 (nl Z) c3, .slice a4 (nl E) c4]) (by simp [results, Tryz.results64, go_sem, y0, y1, y2]) rfl ⟨_, _, _, _, _, _, _, rfl, fin.out _ _ _ _ _ (words_box3 (o4.more bs).words (BR.more bs) (bare3 _ _ _ _ _ _ _) _ _ _ _ _) (words_box3 (o5.more d4).words (BR.more bs) (bare3 _ _ _ _ _ _ _) _ _ _ _ _), below_set3 (below_more o4.below bs) (by omega) _ _ _⟩
end Go.Proofs.YtpimcbncmfpdhaaGreatDoor
/-
  Contracts of package ratio's couples (product), for every two numbers of up to twenty thousand words each: as rational numbers; memory that was there stays.
-/
namespace Go.Proofs.YtpimcbncmfpdhaaGreatDoor
open Go.RowKit

set_option maxHeartbeats 4000000 in
theorem rat_product {k : Nat} {s : Bool} {a : Option Addr} {n c : Nat} {b : Option Addr} {m d : Nat} {q : Rat} {s' : Bool} {a' : Option Addr} {n' c' : Nat} {b' : Option Addr} {m' d' : Nat} {r : Rat} {w : World} (h : NR k w s a n c b m d q) (g : NR k w s' a' n' c' b' m' d' r) (hk : k ≤ 20000) :
    Calls Tryz.prog 58 #[.agg #[.bool s, .slice a n c, .slice b m d, .bool s', .slice a' n' c', .slice b' m' d']] w (AnsN 100000000 w (q * r)) := by
  obtain ⟨xs, ys, h1, hx, h2, hy, l1, l2, p1, rfl⟩ := h
  obtain ⟨xs', ys', h3, hx', h4, hy', l3, l4, p2, rfl⟩ := g
  have T1 := fun v => rat_top s a n c b m d v
  have T2 := fun v => rat_top s' a' n' c' b' m' d' v
  have A := fun v (hb : Below w.heap.size w v) => whole_mul (⟨xs, h1.below hb, hx, by omega, rfl⟩ : RI v s a n c (iv s (val xs))) (⟨xs', h3.below hb, hx', by omega, rfl⟩ : RI v s' a' n' c' (iv s' (val xs'))) _ rfl
  have M := fun v (hb : Below w.heap.size w v) => times_mul' (h2.below hb) hy (h4.below hb) hy' (by omega) (by omega) _ rfl
  unfold AnsI at A
  unfold Ans at M
  have e1 := nl_small hx n (by rw [h1.len]; exact Nat.le_refl _)
  have e2 := nl_small hy m (by rw [h2.len]; exact Nat.le_refl _)
  have e3 := nl_small hx' n' (by rw [h3.len]; exact Nat.le_refl _)
  have e4 := nl_small hy' m' (by rw [h4.len]; exact Nat.le_refl _)
  have f1 := nl_imul (iv s (val xs)) (iv s' (val xs'))
  rw [iv_abs, iv_abs] at f1
  have f4 := nl_mul (val ys) (val ys')
  have eR := rv_prod s (val xs) (val ys) s' (val xs') (val ys')
  have pD : 0 < val ys * val ys' := Nat.mul_pos p1 p2
  generalize iv s (val xs) * iv s' (val xs') = z at *
  have G := fun v a1 c1 a2 c2 => rat_fraction (decide (z < 0)) a1 (nl z.natAbs) c1 a2 (nl (val ys * val ys')) c2 v
  have fin : Hid (∀ v a1 c1 a2 c2, IsWords v (.slice a1 (nl z.natAbs) c1) (natOf z.natAbs) → IsWords v (.slice a2 (nl (val ys * val ys')) c2) (natOf (val ys * val ys')) → NR 100000000 v (decide (z < 0)) a1 (nl z.natAbs) c1 a2 (nl (val ys * val ys')) c2 (rv s (val xs) (val ys) * rv s' (val xs') (val ys'))) := fun v a1 c1 a2 c2 i1 i2 =>
    ⟨_, _, i1, wd_natOf _, i2, wd_natOf _, by omega, by omega, by rw [val_natOf]; exact pD, by rw [val_natOf, val_natOf, rv_mk]; exact eR⟩
  clear h1 h2 h3 h4 hx hy hx' hy' l1 l2 l3 l4 p1 p2 eR pD e1 e2 e3 e4 f1 f4 hk
  generalize rv s (val xs) (val ys) * rv s' (val xs') (val ys') = u at *
  generalize val ys * val ys' = E at *
  generalize decide (z < 0) = z0 at *
  generalize z.natAbs = Z at *
  obtain ⟨b1, b2, bV, hs⟩ := boxes2 w #[.bool s, .slice a n c, .slice b m d, .bool s', .slice a' n' c', .slice b' m' d'] #[.bool false, .slice none 0 0, .slice none 0 0] 64 51
  go_enter Tryz.func58, Tryz.ntmps58
  go_upto_region 1 with fail
  generalize (w.alloc (.cells #[.bool s, .slice a n c, .slice b m d, .bool s', .slice a' n' c', .slice b' m' d'] 64)).alloc (.cells #[.bool false, .slice none 0 0, .slice none 0 0] 51) = V at *
  go_cut [3] (fun s3 wx => ∃ (k3 : Nat) (a3 : Option Addr) (c3 : Nat), s3 = .pointer (some ⟨k3, 0, none⟩) ∧ w.heap.size + 1 < k3 ∧ BoxC wx k3 #[.bool z0, .slice a3 (nl Z) c3] 26 ∧ BoxC wx w.heap.size #[.bool s, .slice a n c, .slice b m d, .bool s', .slice a' n' c', .slice b' m' d'] 64 ∧ BoxC wx (w.heap.size + 1) #[.bool false, .slice none 0 0, .slice none 0 0] 51 ∧ Own w wx (.slice a3 (nl Z) c3) (nl Z) (natOf Z))
  case first =>
    have SO : ∀ v, Below V.heap.size V v → v.cell? ⟨w.heap.size, 0, none⟩ = some (.bool s) ∧ v.cell? ⟨w.heap.size, 1, none⟩ = some (.slice a n c) ∧ v.cell? ⟨w.heap.size, 2, none⟩ = some (.slice b m d) ∧ v.cell? ⟨w.heap.size, 3, none⟩ = some (.bool s') ∧ v.cell? ⟨w.heap.size, 4, none⟩ = some (.slice a' n' c') ∧ v.cell? ⟨w.heap.size, 5, none⟩ = some (.slice b' m' d') := fun v hb => ⟨(b1.more hb).cells6.1, (b1.more hb).cells6.2.1, (b1.more hb).cells6.2.2.1, (b1.more hb).cells6.2.2.2.1, (b1.more hb).cells6.2.2.2.2.1, (b1.more hb).cells6.2.2.2.2.2.1⟩
    have bs : Below V.heap.size V V.drew := (Below.refl _ _).drew
    have bs0 : Below V.heap.size V V := Below.refl _ _
    clear M G fin
    go_region_held3 (fun v => v.cell? ⟨w.heap.size, 0, none⟩ = some (.bool s) ∧ v.cell? ⟨w.heap.size, 1, none⟩ = some (.slice a n c) ∧ v.cell? ⟨w.heap.size, 2, none⟩ = some (.slice b m d) ∧ v.cell? ⟨w.heap.size, 3, none⟩ = some (.bool s') ∧ v.cell? ⟨w.heap.size, 4, none⟩ = some (.slice a' n' c') ∧ v.cell? ⟨w.heap.size, 5, none⟩ = some (.slice b' m' d'))
      ((with_reducible refine SO _ ?_; have hsz := bs.size; repeat' first | with_reducible exact bs | with_reducible exact bs0 | with_reducible refine Below.alloc ?_ ?_ _ | with_reducible refine Below.setCell ?_ ?_ _ | with_reducible refine Below.drew ?_ | exact hsz | omega | (simp; done) | (simp; omega)))
      (first
  | (go_at_call 75; (with_reducible refine Calls.mono (T1 _) ?_); rintro e w1 ⟨rfl, d1⟩; first | (replace bs := below_more bs d1; (try (replace P := P.more d1; obtain ⟨y0, y1, g0, g1⟩ := P.cells2))) | (have P := (BoxC.new V #[.bool false, .slice none 0 0] 26).drew.more d1; obtain ⟨y0, y1, g0, g1⟩ := P.cells2; have hP := bs.size; replace bs := below_more (bs0.alloc bs0.size _).drew d1) | (have P := (BoxC.new _ #[.bool false, .slice none 0 0] 26).more d1; obtain ⟨y0, y1, g0, g1⟩ := P.cells2; have hP := bs.size; replace bs := below_more (bs.alloc bs.size _) d1))
  | (go_at_call 75; (with_reducible refine Calls.mono (T2 _) ?_); rintro e w1 ⟨rfl, d1⟩; first | (replace bs := below_more bs d1; (try (replace P := P.more d1; obtain ⟨y0, y1, g0, g1⟩ := P.cells2))) | (have P := (BoxC.new V #[.bool false, .slice none 0 0] 26).drew.more d1; obtain ⟨y0, y1, g0, g1⟩ := P.cells2; have hP := bs.size; replace bs := below_more (bs0.alloc bs0.size _).drew d1) | (have P := (BoxC.new _ #[.bool false, .slice none 0 0] 26).more d1; obtain ⟨y0, y1, g0, g1⟩ := P.cells2; have hP := bs.size; replace bs := below_more (bs.alloc bs.size _) d1))
      | (go_at_call 88; (with_reducible refine Calls.mono (A _ (below_more bV bs)) ?_); rintro e w3 ⟨a3, c3, rfl, o3⟩; have d1 := o3.below; replace o3 := o3.outer (below_more bV bs); replace bs := below_more bs d1; (try (replace P := P.more d1; obtain ⟨y0, y1, g0, g1⟩ := P.cells2)))
      | (go_at_call 88; (with_reducible refine Calls.mono (A _ (below_more bV (bs.alloc bs.size _))) ?_); rintro e w3 ⟨a3, c3, rfl, o3⟩; have d1 := o3.below; replace o3 := o3.outer (below_more bV (bs.alloc bs.size _)); have P := (BoxC.new _ #[.bool false, .slice none 0 0] 26).more d1; obtain ⟨y0, y1, g0, g1⟩ := P.cells2; have hP := bs.size; replace bs := below_more (bs.alloc bs.size _) d1))
    all_goals go_wp2_with fail
    all_goals go_meet
    all_goals have q1 := b1.more bs
    all_goals have q2 := b2.more bs
    all_goals have hz := bs.size
    all_goals clear SO A T1 T2 bs0
    all_goals refine ⟨_, a3, c3, rfl, ?_, ?_, ?_, ?_, ?_⟩
    all_goals repeat' first | with_reducible assumption | with_reducible exact BoxC.new _ _ _ | with_reducible refine BoxC.set2 ?_ | with_reducible refine BoxC.other2 ?_ ?_ | with_reducible refine BoxC.alloc ?_ _ | with_reducible refine Own.alloc ?_ _ | with_reducible refine Own.ibox2 ?_ ?_ ?_ | omega
  case rest =>
    obtain ⟨k3, a3, c3, rfl, hk3, BN, BC, BR, o4⟩ := hcut
    clear b1 b2 bV hs T1 T2 A
    generalize wc = V' at *
    have SB : ∀ v, BoxC v k3 #[.bool z0, .slice a3 (nl Z) c3] 26 → BoxC v w.heap.size #[.bool s, .slice a n c, .slice b m d, .bool s', .slice a' n' c', .slice b' m' d'] 64 → v.cell? ⟨k3, 0, none⟩ = some (.bool z0) ∧ v.cell? ⟨k3, 1, none⟩ = some (.slice a3 (nl Z) c3) ∧ v.cell? ⟨w.heap.size, 2, none⟩ = some (.slice b m d) ∧ v.cell? ⟨w.heap.size, 5, none⟩ = some (.slice b' m' d') := fun v h1 h2 => ⟨h1.cells2.1, h1.cells2.2.1, h2.cells6.2.2.1, h2.cells6.2.2.2.2.2.1⟩
    have SO := fun v (hb : Below V'.heap.size V' v) => SB v (BN.more hb) (BC.more hb)
    have SR := fun v (hb : Below V'.heap.size V' v) x0 x1 x2 => SB (((v.setCell ⟨w.heap.size + 1, 0, none⟩ x0).setCell ⟨w.heap.size + 1, 1, none⟩ x1).setCell ⟨w.heap.size + 1, 2, none⟩ x2) ((((BN.more hb).other (by omega) _).other (by omega) _).other (by omega) _) ((((BC.more hb).other (by omega) _).other (by omega) _).other (by omega) _)
    have bs : Below V'.heap.size V' V'.drew := (Below.refl _ _).drew
    clear SB BN BC
    go_wp2_with fail
    go_region_held3 (fun v => v.cell? ⟨k3, 0, none⟩ = some (.bool z0) ∧ v.cell? ⟨k3, 1, none⟩ = some (.slice a3 (nl Z) c3) ∧ v.cell? ⟨w.heap.size, 2, none⟩ = some (.slice b m d) ∧ v.cell? ⟨w.heap.size, 5, none⟩ = some (.slice b' m' d'))
      (first | with_reducible exact SO _ bs | with_reducible exact SR _ bs _ _ _)
      (first
      | (go_at_call 89; (with_reducible refine Calls.mono (M _ (below_more o4.below bs)) ?_); rintro e w3 ⟨a4, c4, rfl, o5⟩; replace bs := below_more bs o5.below)
      | (go_at_call 44; (with_reducible refine Calls.mono (G _ _ _ _ _) ?_); rintro e w4 ⟨rfl, d4⟩; replace bs := below_more bs d4; obtain ⟨y0, y1, y2, g0, g1, g2⟩ := (BR.more bs).cells3))
    all_goals
      go_wp2
      exact bodyPost_ret (v := .agg #[.bool z0, .slice a3 (nl Z) c3, .slice a4 (nl E) c4]) (by simp [results, Tryz.results58, go_sem, y0, y1, y2]) rfl ⟨_, _, _, _, _, _, _, rfl, fin.out _ _ _ _ _ (words_box3 (o4.more bs).words (BR.more bs) (bare3 _ _ _ _ _ _ _) _ _ _ _ _) (words_box3 (o5.more d4).words (BR.more bs) (bare3 _ _ _ _ _ _ _) _ _ _ _ _), below_set3 (below_more o4.below bs) (by omega) _ _ _⟩
end Go.Proofs.YtpimcbncmfpdhaaGreatDoor
/-
  Contracts of package ratio (Fix, Neg, Add, Sub, Mul, Div, Cmp, Same), for every two Rats of up to ten thousand words each: as rational numbers; memory that was there stays, and what is answered is the call's own.
-/
namespace Go.Proofs.YtpimcbncmfpdhaaGreatDoor
open Go.RowKit

theorem rat_lowest' {k : Nat} {s : Bool} {a : Option Addr} {n c : Nat} {b : Option Addr} {m d : Nat} {q : Rat} {w : World} (h : NR k w s a n c b m d q) (hk : k ≤ 100000000) : Calls Tryz.prog 45 #[.agg #[.bool s, .slice a n c, .slice b m d]] w (AnsT w (tri q)) := rat_lowest h hk

set_option maxHeartbeats 4000000 in
theorem rat_fix {s : Bool} {a : Option Addr} {n c : Nat} {b : Option Addr} {m d : Nat} {q : Rat} {w : World} (h : RR 10000 w s a n c b m d q) : Calls Tryz.prog 18 #[.agg #[.bool s, .slice a n c, .slice b m d]] w (AnsR w q) := by
  have F := fun v (hb : Below w.heap.size w v) => rat_within (h.below hb) (by omega) (by omega)
  unfold AnsN at F
  have L := fun v s a n c b m d (p : NR 10000 v s a n c b m d (q)) => rat_lowest' p (by omega)
  have HA : Hid (∀ e w', AnsT w (tri (q)) e w' → AnsR w (q) e w') := fun _ _ h => h
  generalize tri (q) = tt at L HA
  obtain ⟨t0, tN, tD⟩ := tt
  unfold AnsT at L
  dsimp only at L
  clear h
  obtain ⟨b1, b2, bV, hs⟩ := boxes2 w #[.bool s, .slice a n c, .slice b m d] #[.bool false, .slice none 0 0, .slice none 0 0] 24 24
  obtain ⟨x0, x1, x2, -, -, -⟩ := b1.cells3
  go_enter Tryz.func18, Tryz.ntmps18
  have bs : Below w.heap.size w w := Below.refl _ _
  go_wp2_with (first
    | (go_at_call 51; (with_reducible refine Calls.mono (F _ bV) ?_); rintro e w1 ⟨s1, a1, n1, c1, a1', n1', c1', rfl, N1, d1⟩; replace bs := d1)
    | (go_at_call 45; (with_reducible refine Calls.mono (L _ _ _ _ _ _ _ _ N1) ?_); rintro e w9 ⟨a8, c8, a9, c9, rfl, o8, o9⟩; have d9 := o8.below; replace o8 := o8.outer (below_more bV bs); replace o9 := o9.outer (below_more bV bs); replace bs := below_more bs d9; obtain ⟨y0, y1, y2, g0, g1, g2⟩ := (b2.more bs).cells3))
  exact bodyPost_ret (v := .agg #[.bool t0, .slice a8 (nl tN) c8, .slice a9 (nl tD) c9]) (by simp [results, Tryz.results18, go_sem, y0, y1, y2]) rfl (HA.out _ _ (ansT_mk (o8.box3 (b2.more bs) rat_ne_u32 (by omega) _ _ _) (o9.box3 (b2.more bs) rat_ne_u32 (by omega) _ _ _)))

set_option maxHeartbeats 4000000 in
theorem rat_neg {s : Bool} {a : Option Addr} {n c : Nat} {b : Option Addr} {m d : Nat} {q : Rat} {w : World} (h : RR 10000 w s a n c b m d q) (z : Rat) (hz : -q = z) : Calls Tryz.prog 20 #[.agg #[.bool s, .slice a n c, .slice b m d]] w (AnsR w z) := by
  subst hz
  have F := fun v (hb : Below w.heap.size w v) => rat_within (h.below hb) (by omega) (by omega)
  have O := fun v s a n c b m d => rat_opposite s a n c b m d v
  unfold AnsN at F
  have L := fun v s a n c b m d (p : NR 10000 v s a n c b m d (-q)) => rat_lowest' p (by omega)
  have HA : Hid (∀ e w', AnsT w (tri (-q)) e w' → AnsR w (-q) e w') := fun _ _ h => h
  generalize tri (-q) = tt at L HA
  obtain ⟨t0, tN, tD⟩ := tt
  unfold AnsT at L
  dsimp only at L
  clear h
  obtain ⟨b1, b2, bV, hs⟩ := boxes2 w #[.bool s, .slice a n c, .slice b m d] #[.bool false, .slice none 0 0, .slice none 0 0] 24 24
  obtain ⟨x0, x1, x2, -, -, -⟩ := b1.cells3
  go_enter Tryz.func20, Tryz.ntmps20
  have bs : Below w.heap.size w w := Below.refl _ _
  go_wp2_with (first
    | (go_at_call 51; (with_reducible refine Calls.mono (F _ bV) ?_); rintro e w1 ⟨s1, a1, n1, c1, a1', n1', c1', rfl, N1, d1⟩; replace bs := d1)
    | (go_at_call 52; (with_reducible refine Calls.mono (O _ _ _ _ _ _ _ _) ?_); rintro e w2 ⟨rfl, d2⟩; replace bs := below_more bs d2)
    | (go_at_call 45; (with_reducible refine Calls.mono (L _ _ _ _ _ _ _ _ (N1.below d2).opposite) ?_); rintro e w9 ⟨a8, c8, a9, c9, rfl, o8, o9⟩; have d9 := o8.below; replace o8 := o8.outer (below_more bV bs); replace o9 := o9.outer (below_more bV bs); replace bs := below_more bs d9; obtain ⟨y0, y1, y2, g0, g1, g2⟩ := (b2.more bs).cells3))
  exact bodyPost_ret (v := .agg #[.bool t0, .slice a8 (nl tN) c8, .slice a9 (nl tD) c9]) (by simp [results, Tryz.results20, go_sem, y0, y1, y2]) rfl (HA.out _ _ (ansT_mk (o8.box3 (b2.more bs) rat_ne_u32 (by omega) _ _ _) (o9.box3 (b2.more bs) rat_ne_u32 (by omega) _ _ _)))

set_option maxHeartbeats 4000000 in
theorem rat_add {s : Bool} {a : Option Addr} {n c : Nat} {b : Option Addr} {m d : Nat} {q : Rat} {s' : Bool} {a' : Option Addr} {n' c' : Nat} {b' : Option Addr} {m' d' : Nat} {r : Rat} {w : World} (h : RR 10000 w s a n c b m d q) (g : RR 10000 w s' a' n' c' b' m' d' r) (z : Rat) (hz : q + r = z) : Calls Tryz.prog 27 #[.agg #[.bool s, .slice a n c, .slice b m d], (.agg #[.bool s', .slice a' n' c', .slice b' m' d'])] w (AnsR w z) := by
  subst hz
  have F := fun v (hb : Below w.heap.size w v) => rat_both (h.below hb) (g.below hb) (by omega) (by omega)
  have S := fun v s a n c b m d s' a' n' c' b' m' d' (p : NR 10000 v s a n c b m d q) (p' : NR 10000 v s' a' n' c' b' m' d' r) => rat_sum p p' (by omega)
  unfold AnsC at F
  unfold AnsN at S
  have L := fun v s a n c b m d (p : NR 100000000 v s a n c b m d (q + r)) => rat_lowest' p (by omega)
  have HA : Hid (∀ e w', AnsT w (tri (q + r)) e w' → AnsR w (q + r) e w') := fun _ _ h => h
  generalize tri (q + r) = tt at L HA
  obtain ⟨t0, tN, tD⟩ := tt
  unfold AnsT at L
  dsimp only at L
  clear h g
  obtain ⟨b1, b2, b3, bV, hs⟩ := boxes3 w #[.bool s, .slice a n c, .slice b m d] #[.bool s', .slice a' n' c', .slice b' m' d'] #[.bool false, .slice none 0 0, .slice none 0 0] 24 24 24
  obtain ⟨x0, x1, x2, -, -, -⟩ := b1.cells3
  obtain ⟨z0, z1, z2, -, -, -⟩ := b2.cells3
  go_enter Tryz.func27, Tryz.ntmps27
  have bs : Below w.heap.size w w := Below.refl _ _
  go_wp2_with (first
    | (go_at_call 63; (with_reducible refine Calls.mono (F _ bV) ?_); rintro e w1 ⟨s1, a1, n1, c1, a1', n1', c1', s2, a2, n2, c2, a2', n2', c2', rfl, N1, N2, d1⟩; replace bs := d1)
    | (go_at_call 64; (with_reducible refine Calls.mono (S _ _ _ _ _ _ _ _ _ _ _ _ _ _ _ N1 N2) ?_); rintro e w2 ⟨s3, a3, n3, c3, a3', n3', c3', rfl, N3, d2⟩; replace bs := below_more bs d2)
    | (go_at_call 45; (with_reducible refine Calls.mono (L _ _ _ _ _ _ _ _ N3) ?_); rintro e w9 ⟨a8, c8, a9, c9, rfl, o8, o9⟩; have d9 := o8.below; replace o8 := o8.outer (below_more bV bs); replace o9 := o9.outer (below_more bV bs); replace bs := below_more bs d9; obtain ⟨y0, y1, y2, g0, g1, g2⟩ := (b3.more bs).cells3))
  exact bodyPost_ret (v := .agg #[.bool t0, .slice a8 (nl tN) c8, .slice a9 (nl tD) c9]) (by simp [results, Tryz.results27, go_sem, y0, y1, y2]) rfl (HA.out _ _ (ansT_mk (o8.box3 (b3.more bs) rat_ne_u32 (by omega) _ _ _) (o9.box3 (b3.more bs) rat_ne_u32 (by omega) _ _ _)))

set_option maxHeartbeats 4000000 in
theorem rat_mul {s : Bool} {a : Option Addr} {n c : Nat} {b : Option Addr} {m d : Nat} {q : Rat} {s' : Bool} {a' : Option Addr} {n' c' : Nat} {b' : Option Addr} {m' d' : Nat} {r : Rat} {w : World} (h : RR 10000 w s a n c b m d q) (g : RR 10000 w s' a' n' c' b' m' d' r) (z : Rat) (hz : q * r = z) : Calls Tryz.prog 31 #[.agg #[.bool s, .slice a n c, .slice b m d], (.agg #[.bool s', .slice a' n' c', .slice b' m' d'])] w (AnsR w z) := by
  subst hz
  have F := fun v (hb : Below w.heap.size w v) => rat_both (h.below hb) (g.below hb) (by omega) (by omega)
  have S := fun v s a n c b m d s' a' n' c' b' m' d' (p : NR 10000 v s a n c b m d q) (p' : NR 10000 v s' a' n' c' b' m' d' r) => rat_product p p' (by omega)
  unfold AnsC at F
  unfold AnsN at S
  have L := fun v s a n c b m d (p : NR 100000000 v s a n c b m d (q * r)) => rat_lowest' p (by omega)
  have HA : Hid (∀ e w', AnsT w (tri (q * r)) e w' → AnsR w (q * r) e w') := fun _ _ h => h
  generalize tri (q * r) = tt at L HA
  obtain ⟨t0, tN, tD⟩ := tt
  unfold AnsT at L
  dsimp only at L
  clear h g
  obtain ⟨b1, b2, b3, bV, hs⟩ := boxes3 w #[.bool s, .slice a n c, .slice b m d] #[.bool s', .slice a' n' c', .slice b' m' d'] #[.bool false, .slice none 0 0, .slice none 0 0] 24 24 24
  obtain ⟨x0, x1, x2, -, -, -⟩ := b1.cells3
  obtain ⟨z0, z1, z2, -, -, -⟩ := b2.cells3
  go_enter Tryz.func31, Tryz.ntmps31
  have bs : Below w.heap.size w w := Below.refl _ _
  go_wp2_with (first
    | (go_at_call 63; (with_reducible refine Calls.mono (F _ bV) ?_); rintro e w1 ⟨s1, a1, n1, c1, a1', n1', c1', s2, a2, n2, c2, a2', n2', c2', rfl, N1, N2, d1⟩; replace bs := d1)
    | (go_at_call 58; (with_reducible refine Calls.mono (S _ _ _ _ _ _ _ _ _ _ _ _ _ _ _ N1 N2) ?_); rintro e w2 ⟨s3, a3, n3, c3, a3', n3', c3', rfl, N3, d2⟩; replace bs := below_more bs d2)
    | (go_at_call 45; (with_reducible refine Calls.mono (L _ _ _ _ _ _ _ _ N3) ?_); rintro e w9 ⟨a8, c8, a9, c9, rfl, o8, o9⟩; have d9 := o8.below; replace o8 := o8.outer (below_more bV bs); replace o9 := o9.outer (below_more bV bs); replace bs := below_more bs d9; obtain ⟨y0, y1, y2, g0, g1, g2⟩ := (b3.more bs).cells3))
  exact bodyPost_ret (v := .agg #[.bool t0, .slice a8 (nl tN) c8, .slice a9 (nl tD) c9]) (by simp [results, Tryz.results31, go_sem, y0, y1, y2]) rfl (HA.out _ _ (ansT_mk (o8.box3 (b3.more bs) rat_ne_u32 (by omega) _ _ _) (o9.box3 (b3.more bs) rat_ne_u32 (by omega) _ _ _)))

set_option maxHeartbeats 4000000 in
theorem rat_cmp {s : Bool} {a : Option Addr} {n c : Nat} {b : Option Addr} {m d : Nat} {q : Rat} {s' : Bool} {a' : Option Addr} {n' c' : Nat} {b' : Option Addr} {m' d' : Nat} {r : Rat} {w : World} (h : RR 10000 w s a n c b m d q) (g : RR 10000 w s' a' n' c' b' m' d' r) (z : Int) (hz : rsgn q r = z) : Calls Tryz.prog 33 #[.agg #[.bool s, .slice a n c, .slice b m d], (.agg #[.bool s', .slice a' n' c', .slice b' m' d'])] w fun e w' => e = .returned (.int .i64 z) ∧ Below w.heap.size w w' := by
  have F := fun v (hb : Below w.heap.size w v) => rat_both (h.below hb) (g.below hb) (by omega) (by omega)
  have S := fun v s a n c b m d s' a' n' c' b' m' d' (p : NR 10000 v s a n c b m d q) (p' : NR 10000 v s' a' n' c' b' m' d' r) => rat_order p p' (by omega) z hz
  unfold AnsC at F
  clear h g hz
  obtain ⟨b1, b2, bV, hs⟩ := boxes2 w #[.bool s, .slice a n c, .slice b m d] #[.bool s', .slice a' n' c', .slice b' m' d'] 24 24
  obtain ⟨x0, x1, x2, -, -, -⟩ := b1.cells3
  obtain ⟨z0, z1, z2, -, -, -⟩ := b2.cells3
  go_enter Tryz.func33, Tryz.ntmps33
  go_wp2_with (first
    | (go_at_call 63; (with_reducible refine Calls.mono (F _ bV) ?_); rintro e w1 ⟨s1, a1, n1, c1, a1', n1', c1', s2, a2, n2, c2, a2', n2', c2', rfl, N1, N2, d1⟩)
    | (go_at_call 67; (with_reducible refine Calls.mono (S _ _ _ _ _ _ _ _ _ _ _ _ _ _ _ N1 N2) ?_); rintro e w2 ⟨rfl, d2⟩))
  go_ret
  exact ⟨rfl, below_more bV (below_more d1 d2)⟩
set_option maxHeartbeats 4000000 in
theorem rat_same {s : Bool} {a : Option Addr} {n c : Nat} {b : Option Addr} {m d : Nat} {q : Rat} {s' : Bool} {a' : Option Addr} {n' c' : Nat} {b' : Option Addr} {m' d' : Nat} {r : Rat} {w : World} (h : RR 10000 w s a n c b m d q) (g : RR 10000 w s' a' n' c' b' m' d' r) (z : Bool) (hz : decide (q = r) = z) : Calls Tryz.prog 34 #[.agg #[.bool s, .slice a n c, .slice b m d], (.agg #[.bool s', .slice a' n' c', .slice b' m' d'])] w fun e w' => e = .returned (.bool z) ∧ Below w.heap.size w w' := by
  have F := fun v (hb : Below w.heap.size w v) => rat_cmp (h.below hb) (g.below hb) _ rfl
  have e0 : (rsgn q r == 0) = z := by
    rw [← hz]
    by_cases e : q = r
    · rw [decide_eq_true e, rsgn_eq e]; rfl
    · rw [decide_eq_false e, beq_eq_false_iff_ne]; exact fun k => e (rsgn_zero.1 k)
  generalize rsgn q r = y at *
  clear h g hz
  obtain ⟨b1, b2, bV, hs⟩ := boxes2 w #[.bool s, .slice a n c, .slice b m d] #[.bool s', .slice a' n' c', .slice b' m' d'] 24 24
  obtain ⟨x0, x1, x2, -, -, -⟩ := b1.cells3
  obtain ⟨z0, z1, z2, -, -, -⟩ := b2.cells3
  go_enter Tryz.func34, Tryz.ntmps34
  go_wp2_with (go_at_call 33; (with_reducible refine Calls.mono (F _ bV) ?_); rintro e w1 ⟨rfl, d1⟩)
  go_ret
  exact ⟨rfl, below_more bV d1⟩

set_option maxHeartbeats 4000000 in
theorem rat_sub {s : Bool} {a : Option Addr} {n c : Nat} {b : Option Addr} {m d : Nat} {q : Rat} {s' : Bool} {a' : Option Addr} {n' c' : Nat} {b' : Option Addr} {m' d' : Nat} {r : Rat} {w : World} (h : RR 10000 w s a n c b m d q) (g : RR 10000 w s' a' n' c' b' m' d' r) (z : Rat) (hz : q - r = z) : Calls Tryz.prog 29 #[.agg #[.bool s, .slice a n c, .slice b m d], (.agg #[.bool s', .slice a' n' c', .slice b' m' d'])] w (AnsR w z) := by
  have hz' : q + -r = z := by rw [← hz, Rat.sub_eq_add_neg]
  subst hz'
  have F1 := fun v (hb : Below w.heap.size w v) => rat_within (h.below hb) (by omega) (by omega)
  have F2 := fun v (hb : Below w.heap.size w v) => rat_within (g.below hb) (by omega) (by omega)
  have O := fun v s a n c b m d => rat_opposite s a n c b m d v
  have S := fun v s a n c b m d s' a' n' c' b' m' d' (p : NR 10000 v s a n c b m d q) (p' : NR 10000 v s' a' n' c' b' m' d' (-r)) => rat_sum p p' (by omega)
  unfold AnsN at F1 F2 S
  have L := fun v s a n c b m d (p : NR 100000000 v s a n c b m d (q + -r)) => rat_lowest' p (by omega)
  have HA : Hid (∀ e w', AnsT w (tri (q + -r)) e w' → AnsR w (q + -r) e w') := fun _ _ h => h
  generalize tri (q + -r) = tt at L HA
  obtain ⟨t0, tN, tD⟩ := tt
  unfold AnsT at L
  dsimp only at L
  clear h g hz
  obtain ⟨b1, b2, b3, bV, hs⟩ := boxes3 w #[.bool s, .slice a n c, .slice b m d] #[.bool s', .slice a' n' c', .slice b' m' d'] #[.bool false, .slice none 0 0, .slice none 0 0] 24 24 24
  go_enter Tryz.func29, Tryz.ntmps29
  go_wp2
  generalize (((w.alloc (.cells #[.bool s, .slice a n c, .slice b m d] 24)).alloc (.cells #[.bool s', .slice a' n' c', .slice b' m' d'] 24)).alloc (.cells #[.bool false, .slice none 0 0, .slice none 0 0] 24)) = V at *
  have SB : ∀ v, BoxC v w.heap.size #[.bool s, .slice a n c, .slice b m d] 24 → BoxC v (w.heap.size + 1) #[.bool s', .slice a' n' c', .slice b' m' d'] 24 → v.cell? ⟨w.heap.size, 0, none⟩ = some (.bool s) ∧ v.cell? ⟨w.heap.size, 1, none⟩ = some (.slice a n c) ∧ v.cell? ⟨w.heap.size, 2, none⟩ = some (.slice b m d) ∧ v.cell? ⟨w.heap.size + 1, 0, none⟩ = some (.bool s') ∧ v.cell? ⟨w.heap.size + 1, 1, none⟩ = some (.slice a' n' c') ∧ v.cell? ⟨w.heap.size + 1, 2, none⟩ = some (.slice b' m' d') := fun v h1 h2 => ⟨h1.cells3.1, h1.cells3.2.1, h1.cells3.2.2.1, h2.cells3.1, h2.cells3.2.1, h2.cells3.2.2.1⟩
  have SO := fun v (hb : Below V.heap.size V v) => SB v (b1.more hb) (b2.more hb)
  have SR := fun v (hb : Below V.heap.size V v) x0 x1 x2 => SB (((v.setCell ⟨w.heap.size + 1 + 1, 0, none⟩ x0).setCell ⟨w.heap.size + 1 + 1, 1, none⟩ x1).setCell ⟨w.heap.size + 1 + 1, 2, none⟩ x2) ((((b1.more hb).other (by omega) _).other (by omega) _).other (by omega) _) ((((b2.more hb).other (by omega) _).other (by omega) _).other (by omega) _)
  have bs : Below V.heap.size V V.drew := (Below.refl _ _).drew
  clear SB b1 b2
  go_region_held3 (fun v => v.cell? ⟨w.heap.size, 0, none⟩ = some (.bool s) ∧ v.cell? ⟨w.heap.size, 1, none⟩ = some (.slice a n c) ∧ v.cell? ⟨w.heap.size, 2, none⟩ = some (.slice b m d) ∧ v.cell? ⟨w.heap.size + 1, 0, none⟩ = some (.bool s') ∧ v.cell? ⟨w.heap.size + 1, 1, none⟩ = some (.slice a' n' c') ∧ v.cell? ⟨w.heap.size + 1, 2, none⟩ = some (.slice b' m' d'))
    (first | with_reducible exact SO _ bs | with_reducible exact SR _ bs _ _ _)
    (first
    | (go_at_call 51; (with_reducible refine Calls.mono (F1 _ (below_more bV bs)) ?_); rintro e w1 ⟨s1, a1, n1, c1, a1', n1', c1', rfl, N1, d1⟩; replace bs := below_more bs d1; (try replace N2 := N2.below d1))
    | (go_at_call 51; (with_reducible refine Calls.mono (F2 _ (below_more bV bs)) ?_); rintro e w2 ⟨s2, a2, n2, c2, a2', n2', c2', rfl, N2, d2⟩; replace bs := below_more bs d2; (try replace N1 := N1.below d2))
    | (go_at_call 52; (with_reducible refine Calls.mono (O _ _ _ _ _ _ _ _) ?_); rintro e w3 ⟨rfl, d3⟩; replace bs := below_more bs d3; replace N2 := N2.below d3; (try replace N1 := N1.below d3))
    | (go_at_call 64; (with_reducible refine Calls.mono (S _ _ _ _ _ _ _ _ _ _ _ _ _ _ _ N1 N2.opposite) ?_); rintro e w4 ⟨s3, a3, n3, c3, a3', n3', c3', rfl, N3, d4⟩; replace bs := below_more bs d4)
    | (go_at_call 45; (with_reducible refine Calls.mono (L _ _ _ _ _ _ _ _ N3) ?_); rintro e w9 ⟨a8, c8, a9, c9, rfl, o8, o9⟩; have d9 := o8.below; replace o8 := o8.outer (below_more bV bs); replace o9 := o9.outer (below_more bV bs); replace bs := below_more bs d9; obtain ⟨y0, y1, y2, g0, g1, g2⟩ := (b3.more bs).cells3))
  all_goals
    go_wp2
    exact bodyPost_ret (v := .agg #[.bool t0, .slice a8 (nl tN) c8, .slice a9 (nl tD) c9]) (by simp [results, Tryz.results29, go_sem, y0, y1, y2]) rfl (HA.out _ _ (ansT_mk (o8.box3 (b3.more bs) rat_ne_u32 (by omega) _ _ _) (o9.box3 (b3.more bs) rat_ne_u32 (by omega) _ _ _)))
end Go.Proofs.YtpimcbncmfpdhaaGreatDoor
/-
  Contracts of package ratio (Make, Of, Div, Right, Print), for every Rat of up to ten thousand words: as rational numbers; memory that was there stays, and what is answered is the call's own.
-/
namespace Go.Proofs.YtpimcbncmfpdhaaGreatDoor
open Go.RowKit

set_option maxHeartbeats 4000000 in
theorem rat_make {s : Bool} {a : Option Addr} {n c : Nat} {xs : List Int} {t : Bool} {b : Option Addr} {m d : Nat} {ys : List Int} {w : World} (h : IsWords w (.slice a n c) xs) (hx : Wd xs) (k : IsWords w (.slice b m d) ys) (hy : Wd ys) (hn : n ≤ 10000) (hm : m ≤ 10000) :
    Calls Tryz.prog 13 #[.agg #[.bool s, .slice a n c], .agg #[.bool t, .slice b m d]] w (AnsTE w (mkT s (val xs) t (val ys)) (mkE (val ys))) := by
  have B := fun v (hb : Below w.heap.size w v) => nat_bits' (k.below hb) hy (by omega) _ rfl
  have G := fun v => rat_fraction (!(s == t)) a n c b m d v
  obtain ⟨b1, b2, b3, bV, hs⟩ := boxes3 w #[.bool s, .slice a n c] #[.bool t, .slice b m d] #[.bool false, .slice none 0 0, .slice none 0 0] 26 26 24
  obtain ⟨x0, x1, -, -⟩ := b1.cells2
  obtain ⟨z0, z1, -, -⟩ := b2.cells2
  unfold mkT mkE
  rcases Nat.eq_zero_or_pos (val ys) with h0 | h0
  · rw [if_pos h0, if_pos h0]
    rw [h0, nbits_zero] at B
    obtain ⟨y0, y1, y2, g0, g1, g2⟩ := b3.cells3
    clear h k hx hy hn hm h0 G
    go_enter Tryz.func13, Tryz.ntmps13
    go_wp2_with (go_at_call 43; (with_reducible refine Calls.mono (B _ bV) ?_); rintro e w1 ⟨rfl, rfl⟩)
    exact bodyPost_ret (v := .tuple #[.agg #[.bool false, .slice none 0 0, .slice none 0 0], .int .i64 3]) (by simp [results, Tryz.results13, go_sem, y0, y1, y2]) rfl (ansTE_no bV)
  · rw [if_neg (by omega), if_neg (by omega)]
    have nb : ((nbits (val ys) : Int) == 0) = false := by have := nbits_pos (n := val ys) (by omega); simp; omega
    have L := fun v (hb : Below w.heap.size w v) => rat_lowest' (k := 10000) (q := rv (!(s == t)) (val xs) (val ys)) (w := v) (s := !(s == t)) ⟨xs, ys, h.below hb, hx, k.below hb, hy, hn, hm, h0, rfl⟩ (by omega)
    generalize tri (rv (!(s == t)) (val xs) (val ys)) = tt at L ⊢
    obtain ⟨t0, tN, tD⟩ := tt
    unfold AnsT at L
    dsimp only at L
    clear h k hx hy hn hm h0
    generalize (nbits (val ys) : Int) = nn at *
    go_enter Tryz.func13, Tryz.ntmps13
    go_wp2_with (first
      | (go_at_call 43; (with_reducible refine Calls.mono (B _ bV) ?_); rintro e w1 ⟨rfl, rfl⟩)
      | (go_at_call 44; (with_reducible refine Calls.mono (G _) ?_); rintro e w1 ⟨rfl, bs⟩)
      | (go_at_call 45; (with_reducible refine Calls.mono (L _ (below_more bV bs)) ?_); rintro e w9 ⟨a8, c8, a9, c9, rfl, o8, o9⟩; have d9 := o8.below; replace o8 := o8.outer (below_more bV bs); replace o9 := o9.outer (below_more bV bs); replace bs := below_more bs d9; obtain ⟨y0, y1, y2, g0, g1, g2⟩ := (b3.more bs).cells3))
    exact bodyPost_ret (v := .tuple #[.agg #[.bool t0, .slice a8 (nl tN) c8, .slice a9 (nl tD) c9], .int .i64 0]) (by simp [results, Tryz.results13, go_sem, y0, y1, y2]) rfl (ansTE_mk (o8.box3 (b3.more bs) rat_ne_u32 (by omega) _ _ _) (o9.box3 (b3.more bs) rat_ne_u32 (by omega) _ _ _))

set_option maxHeartbeats 4000000 in
theorem rat_of (n : Int) (w : World) (h0 : -9223372036854775808 ≤ n) (h1 : n < 9223372036854775808) : Calls Tryz.prog 22 #[.int .i64 n] w (AnsR w (n : Rat)) := by
  have O := fun v => whole_of n v h0 h1
  have E := fun v => nat_of 1 v (by omega) (by omega)
  have e1 : (1 : Int).toNat = 1 := rfl
  rw [e1] at E
  unfold AnsI at O
  unfold Ans at E
  have l1 : nl n.natAbs ≤ 2 := nl_two n (by omega)
  have l2 : nl 1 ≤ 1 := nl_le 1 1 (by omega)
  have L := fun v a1 c1 a2 c2 (p : IsWords v (.slice a1 (nl n.natAbs) c1) (natOf n.natAbs)) (p' : IsWords v (.slice a2 (nl 1) c2) (natOf 1)) => rat_lowest' (k := 10000) (q := (n : Rat)) (w := v) (s := decide (n < 0)) ⟨_, _, p, wd_natOf _, p', wd_natOf _, by omega, by omega, by rw [val_natOf]; omega, by rw [val_natOf, val_natOf]; exact rv_int n⟩ (by omega)
  have G := fun v a1 c1 a2 c2 => rat_fraction (decide (n < 0)) a1 (nl n.natAbs) c1 a2 (nl 1) c2 v
  have HA : Hid (∀ e w', AnsT w (tri (n : Rat)) e w' → AnsR w (n : Rat) e w') := fun _ _ h => h
  generalize tri (n : Rat) = tt at L HA
  obtain ⟨t0, tN, tD⟩ := tt
  unfold AnsT at L
  dsimp only at L
  clear l1 l2 h0 h1
  obtain ⟨b1, bV, hs⟩ := boxes1 w #[.bool false, .slice none 0 0, .slice none 0 0] 24
  generalize nl 1 = one at *
  go_enter Tryz.func22, Tryz.ntmps22
  go_wp2_with (go_at_call 53; (with_reducible refine Calls.mono (O _) ?_); rintro e w1 ⟨a1, c1, rfl, o1⟩)
  have BN := BoxC.new w1 #[.bool (decide (n < 0)), .slice a1 (nl n.natAbs) c1] 26
  have BR := (b1.more o1.below).alloc (.cells #[.bool (decide (n < 0)), .slice a1 (nl n.natAbs) c1] 26)
  have bW := (o1.alloc (.cells #[.bool (decide (n < 0)), .slice a1 (nl n.natAbs) c1] 26)).outer bV
  have hk3 : w.heap.size < w1.heap.size := (b1.more o1.below).lt
  clear o1 b1 bV hs
  generalize w1.heap.size = k3 at *
  generalize w1.alloc (.cells #[.bool (decide (n < 0)), .slice a1 (nl n.natAbs) c1] 26) = V at *
  have SO := fun v (hb : Below V.heap.size V v) => (show v.cell? ⟨k3, 0, none⟩ = some (.bool (decide (n < 0))) ∧ v.cell? ⟨k3, 1, none⟩ = some (.slice a1 (nl n.natAbs) c1) from ⟨(BN.more hb).cells2.1, (BN.more hb).cells2.2.1⟩)
  have SR := fun v (hb : Below V.heap.size V v) x0 x1 x2 => (show (((v.setCell ⟨w.heap.size, 0, none⟩ x0).setCell ⟨w.heap.size, 1, none⟩ x1).setCell ⟨w.heap.size, 2, none⟩ x2).cell? ⟨k3, 0, none⟩ = some (.bool (decide (n < 0))) ∧ (((v.setCell ⟨w.heap.size, 0, none⟩ x0).setCell ⟨w.heap.size, 1, none⟩ x1).setCell ⟨w.heap.size, 2, none⟩ x2).cell? ⟨k3, 1, none⟩ = some (.slice a1 (nl n.natAbs) c1) from ⟨(((((BN.more hb).other (by omega) _).other (by omega) _).other (by omega) _)).cells2.1, (((((BN.more hb).other (by omega) _).other (by omega) _).other (by omega) _)).cells2.2.1⟩)
  have bs : Below V.heap.size V V.drew := (Below.refl _ _).drew
  clear BN
  generalize decide (n < 0) = sn at *
  go_region_held3 (fun v => v.cell? ⟨k3, 0, none⟩ = some (.bool sn) ∧ v.cell? ⟨k3, 1, none⟩ = some (.slice a1 (nl n.natAbs) c1))
    (first | with_reducible exact SO _ bs | with_reducible exact SR _ bs _ _ _)
    (first
    | (go_at_call 54; (with_reducible refine Calls.mono (E _) ?_); rintro e w2 ⟨a2, c2, rfl, o2⟩; replace bs := below_more bs o2.below)
    | (go_at_call 44; (with_reducible refine Calls.mono (G _ _ _ _ _) ?_); rintro e w3 ⟨rfl, d3⟩; replace o2 := o2.more d3; replace bs := below_more bs d3)
    | (go_at_call 45; (with_reducible refine Calls.mono (L _ _ _ _ _ (bW.more bs).words o2.words) ?_); rintro e w9 ⟨a8, c8, a9, c9, rfl, o8, o9⟩; have d9 := o8.below; replace o8 := o8.outer (below_more bW.below bs); replace o9 := o9.outer (below_more bW.below bs); replace bs := below_more bs d9; obtain ⟨y0, y1, y2, g0, g1, g2⟩ := (BR.more bs).cells3))
  all_goals
    go_wp2
    exact bodyPost_ret (v := .agg #[.bool t0, .slice a8 (nl tN) c8, .slice a9 (nl tD) c9]) (by simp [results, Tryz.results22, go_sem, y0, y1, y2]) rfl (HA.out _ _ (ansT_mk (o8.box3 (BR.more bs) rat_ne_u32 (by omega) _ _ _) (o9.box3 (BR.more bs) rat_ne_u32 (by omega) _ _ _)))

set_option maxHeartbeats 4000000 in
theorem rat_div {s : Bool} {a : Option Addr} {n c : Nat} {b : Option Addr} {m d : Nat} {q : Rat} {s' : Bool} {a' : Option Addr} {n' c' : Nat} {b' : Option Addr} {m' d' : Nat} {r : Rat} {w : World} (h : RR 10000 w s a n c b m d q) (g : RR 10000 w s' a' n' c' b' m' d' r) : Calls Tryz.prog 24 #[.agg #[.bool s, .slice a n c, .slice b m d], (.agg #[.bool s', .slice a' n' c', .slice b' m' d'])] w (AnsTE w (divT q r) (divE r)) := by
  have F1 := fun v (hb : Below w.heap.size w v) => rat_within (h.below hb) (by omega) (by omega)
  have F2 := fun v (hb : Below w.heap.size w v) => rat_within (g.below hb) (by omega) (by omega)
  unfold AnsN at F1 F2
  obtain ⟨b1, b2, b3, bV, hs⟩ := boxes3 w #[.bool s, .slice a n c, .slice b m d] #[.bool s', .slice a' n' c', .slice b' m' d'] #[.bool false, .slice none 0 0, .slice none 0 0] 24 24 24
  obtain ⟨x0, x1, x2, -, -, -⟩ := b2.cells3
  unfold divT divE
  by_cases h0 : r = 0
  · rw [if_pos h0, if_pos h0]
    have Q := fun v s a n c b m d (p : NR 10000 v s a n c b m d r) => rat_none p (by omega) true (decide_eq_true h0)
    clear h g h0
    go_enter Tryz.func24, Tryz.ntmps24
    go_wp2_with (first
      | (go_at_call 51; (with_reducible refine Calls.mono (F2 _ bV) ?_); rintro e w1 ⟨s1, a1, n1, c1, a1', n1', c1', rfl, N1, d1⟩; have P1 := fun o => N1.below ((Below.refl _ _).alloc (Nat.le_refl _) o); have B3 := fun o => (b3.more d1).alloc o; have bW := fun o => (below_more bV d1).alloc (below_more bV d1).size o; clear F2)
      | (go_at_call 56; (with_reducible refine Calls.mono (Q _ _ _ _ _ _ _ _ (P1 _)) ?_); rintro e w2 ⟨rfl, d2⟩; obtain ⟨y0, y1, y2, g0, g1, g2⟩ := ((B3 _).more d2).cells3))
    exact bodyPost_ret (v := .tuple #[.agg #[.bool false, .slice none 0 0, .slice none 0 0], .int .i64 3]) (by simp [results, Tryz.results24, go_sem, y0, y1, y2]) rfl (ansTE_no (below_set3 (below_more (bW _) d2) (by omega) _ _ _))
  · rw [if_neg h0, if_neg h0]
    have Q := fun v s a n c b m d (p : NR 10000 v s a n c b m d r) => rat_none p (by omega) false (decide_eq_false h0)
    have T := fun v s a n c b m d => rat_turned s a n c b m d v
    have TN := fun v s a n c b m d (p : NR 10000 v s a n c b m d r) => p.turned h0
    have S := fun v s a n c b m d s' a' n' c' b' m' d' (p : NR 10000 v s a n c b m d q) (p' : NR 10000 v s' a' n' c' b' m' d' r⁻¹) => rat_product p p' (by omega)
    have L := fun v s a n c b m d (p : NR 100000000 v s a n c b m d (q * r⁻¹)) => rat_lowest' p (by omega)
    unfold AnsN at S
    rw [Rat.div_def]
    generalize tri (q * r⁻¹) = tt at L ⊢
    obtain ⟨t0, tN, tD⟩ := tt
    unfold AnsT at L
    dsimp only at L
    clear h g h0
    go_enter Tryz.func24, Tryz.ntmps24
    go_wp2_with (first
      | (go_at_call 51; (with_reducible refine Calls.mono (F2 _ bV) ?_); rintro e w1 ⟨s1, a1, n1, c1, a1', n1', c1', rfl, N1, d1⟩; have P1 := fun o => N1.below ((Below.refl _ _).alloc (Nat.le_refl _) o); clear F2)
      | (go_at_call 56; (with_reducible refine Calls.mono (Q _ _ _ _ _ _ _ _ (P1 _)) ?_); rintro e w2 ⟨rfl, d2⟩))
    have BX := (BoxC.new w1 #[.bool s1, .slice a1 n1 c1, .slice a1' n1' c1'] 51).more d2
    have BA := ((b1.more d1).alloc (.cells #[.bool s1, .slice a1 n1 c1, .slice a1' n1' c1'] 51)).more d2
    have BR := ((b3.more d1).alloc (.cells #[.bool s1, .slice a1 n1 c1, .slice a1' n1' c1'] 51)).more d2
    have bW := below_more ((below_more bV d1).alloc (below_more bV d1).size (.cells #[.bool s1, .slice a1 n1 c1, .slice a1' n1' c1'] 51)) d2
    have N2 := (P1 (.cells #[.bool s1, .slice a1 n1 c1, .slice a1' n1' c1'] 51)).below d2
    have hk3 : w.heap.size + 1 + 1 < w1.heap.size := (b3.more d1).lt
    clear d1 d2 b1 b2 b3 x0 x1 x2 bV hs P1 Q N1
    generalize w1.heap.size = k3 at *
    have SB : ∀ v, BoxC v k3 #[.bool s1, .slice a1 n1 c1, .slice a1' n1' c1'] 51 → BoxC v w.heap.size #[.bool s, .slice a n c, .slice b m d] 24 → v.cell? ⟨k3, 0, none⟩ = some (.bool s1) ∧ v.cell? ⟨k3, 1, none⟩ = some (.slice a1 n1 c1) ∧ v.cell? ⟨k3, 2, none⟩ = some (.slice a1' n1' c1') ∧ v.cell? ⟨w.heap.size, 0, none⟩ = some (.bool s) ∧ v.cell? ⟨w.heap.size, 1, none⟩ = some (.slice a n c) ∧ v.cell? ⟨w.heap.size, 2, none⟩ = some (.slice b m d) := fun v h1 h2 => ⟨h1.cells3.1, h1.cells3.2.1, h1.cells3.2.2.1, h2.cells3.1, h2.cells3.2.1, h2.cells3.2.2.1⟩
    generalize w2 = V at *
    have SO := fun v (hb : Below V.heap.size V v) => SB v (BX.more hb) (BA.more hb)
    have SR := fun v (hb : Below V.heap.size V v) x0 x1 x2 => SB (((v.setCell ⟨w.heap.size + 1 + 1, 0, none⟩ x0).setCell ⟨w.heap.size + 1 + 1, 1, none⟩ x1).setCell ⟨w.heap.size + 1 + 1, 2, none⟩ x2) ((((BX.more hb).other (by omega) _).other (by omega) _).other (by omega) _) ((((BA.more hb).other (by omega) _).other (by omega) _).other (by omega) _)
    have bs : Below V.heap.size V V.drew := (Below.refl _ _).drew
    clear SB BX BA
    go_region_held3 (fun v => v.cell? ⟨k3, 0, none⟩ = some (.bool s1) ∧ v.cell? ⟨k3, 1, none⟩ = some (.slice a1 n1 c1) ∧ v.cell? ⟨k3, 2, none⟩ = some (.slice a1' n1' c1') ∧ v.cell? ⟨w.heap.size, 0, none⟩ = some (.bool s) ∧ v.cell? ⟨w.heap.size, 1, none⟩ = some (.slice a n c) ∧ v.cell? ⟨w.heap.size, 2, none⟩ = some (.slice b m d))
      (first | with_reducible exact SO _ bs | with_reducible exact SR _ bs _ _ _)
      (first
      | (go_at_call 51; (with_reducible refine Calls.mono (F1 _ (below_more bW bs)) ?_); rintro e w3 ⟨s3, a3, n3, c3, a3', n3', c3', rfl, N3, d3⟩; replace bs := below_more bs d3)
      | (go_at_call 57; (with_reducible refine Calls.mono (T _ _ _ _ _ _ _ _) ?_); rintro e w4 ⟨rfl, d4⟩; replace bs := below_more bs d4; (try replace N3 := N3.below d4))
      | (go_at_call 58; (with_reducible refine Calls.mono (S _ _ _ _ _ _ _ _ _ _ _ _ _ _ _ N3 (TN _ _ _ _ _ _ _ _ (N2.below bs))) ?_); rintro e w5 ⟨s5, a5, n5, c5, a5', n5', c5', rfl, N5, d5⟩; replace bs := below_more bs d5)
      | (go_at_call 45; (with_reducible refine Calls.mono (L _ _ _ _ _ _ _ _ N5) ?_); rintro e w9 ⟨a8, c8, a9, c9, rfl, o8, o9⟩; have d9 := o8.below; replace o8 := o8.outer (below_more bW bs); replace o9 := o9.outer (below_more bW bs); replace bs := below_more bs d9; obtain ⟨y0, y1, y2, g0, g1, g2⟩ := (BR.more bs).cells3))
    all_goals
      go_wp2
      exact bodyPost_ret (v := .tuple #[.agg #[.bool t0, .slice a8 (nl tN) c8, .slice a9 (nl tD) c9], .int .i64 0]) (by simp [results, Tryz.results24, go_sem, y0, y1, y2]) rfl (ansTE_mk (o8.box3 (BR.more bs) rat_ne_u32 (by omega) _ _ _) (o9.box3 (BR.more bs) rat_ne_u32 (by omega) _ _ _))
end Go.Proofs.YtpimcbncmfpdhaaGreatDoor
/-
  Contracts of package ratio (Right, Print), for every Rat of up to ten thousand words: as rational numbers; memory that was there stays.
-/
namespace Go.Proofs.YtpimcbncmfpdhaaGreatDoor
open Go.RowKit

theorem words_right {w : World} {a : Option Addr} {n c : Nat} {zs : List Int} (h : IsWords w (.slice a n c) zs) (hz : Wd zs) : lowN zs n = n ↔ natOf (val zs) = zs := by
  have h1 := (h.low hz).1
  have h2 := h.len
  constructor
  · intro e
    rw [h1] at e
    rw [← (h.low hz).2.1, e, ← h2, List.take_length]
  · intro e
    rw [h1]; unfold nl; rw [e, h2]
theorem right_no {s : Bool} {xs ys : List Int} {q : Rat} (h : decide (q.num < 0) = s ∧ natOf q.num.natAbs = xs ∧ natOf q.den = ys) : natOf (val xs) = xs ∧ natOf (val ys) = ys ∧ 0 < val ys ∧ ¬ (s = true ∧ val xs = 0) ∧ Nat.gcd (val xs) (val ys) = 1 := by
  obtain ⟨e1, e2, e3⟩ := h
  have v1 : val xs = q.num.natAbs := by rw [← e2, val_natOf]
  have v2 : val ys = q.den := by rw [← e3, val_natOf]
  refine ⟨by rw [v1]; exact e2, by rw [v2]; exact e3, by rw [v2]; exact q.den_pos, ?_, by rw [v1, v2]; exact q.reduced⟩
  rintro ⟨h1, h2⟩
  rw [h1] at e1
  have := of_decide_eq_true e1
  omega
theorem right_yes {s : Bool} {xs ys : List Int} {q : Rat} (hq : rv s (val xs) (val ys) = q) (h1 : natOf (val xs) = xs) (h2 : natOf (val ys) = ys) (h3 : 0 < val ys) (h4 : ¬ (s = true ∧ val xs = 0)) (h5 : Nat.gcd (val xs) (val ys) = 1) : decide (q.num < 0) = s ∧ natOf q.num.natAbs = xs ∧ natOf q.den = ys := by
  subst hq
  rw [rv_num _ _ _ h3, rv_den _ _ _ h3, h5, Nat.div_one, Nat.div_one, iv_abs, iv_neg]
  refine ⟨?_, h1, h2⟩
  cases s
  · rfl
  · rw [Bool.true_and]; exact decide_eq_true (by have : val xs ≠ 0 := fun e => h4 ⟨rfl, e⟩; omega)

set_option maxHeartbeats 4000000 in
theorem rat_right {s : Bool} {a : Option Addr} {n c : Nat} {xs : List Int} {b : Option Addr} {m d : Nat} {ys : List Int} {w : World} (h : IsWords w (.slice a n c) xs) (hx : Wd xs) (k : IsWords w (.slice b m d) ys) (hy : Wd ys) (hn : n ≤ 10000) (hm : m ≤ 10000) (q : Rat) (hq : rv s (val xs) (val ys) = q)
    (r : Bool) (hr : decide (decide (q.num < 0) = s ∧ natOf q.num.natAbs = xs ∧ natOf q.den = ys) = r) : Calls Tryz.prog 15 #[.agg #[.bool s, .slice a n c, .slice b m d]] w fun e w' => e = .returned (.bool r) ∧ Below w.heap.size w w' := by
  have R1 := fun v (hb : Below w.heap.size w v) => nat_Right a n c xs v (h.below hb)
  have R2 := fun v (hb : Below w.heap.size w v) => nat_Right b m d ys v (k.below hb)
  have AP := fun v (hb : Below w.heap.size w v) => common_apart (h.below hb) hx (k.below hb) hy (by omega) (by omega)
  have w1 := words_right h hx
  have w2 := words_right k hy
  have n0 : n = 0 → val xs = 0 := fun e => by
    have := h.len; subst e; rw [List.eq_nil_of_length_eq_zero this]; rfl
  have m0 : natOf (val ys) = ys → m ≠ 0 → 0 < val ys := fun e hm0 => by
    rcases Nat.eq_zero_or_pos (val ys) with e1 | e1
    · rw [e1, natOf_zero] at e
      exact absurd (by have := k.len; rw [← e] at this; exact this.symm) hm0
    · exact e1
  have n0' : natOf (val xs) = xs → n ≠ 0 → val xs ≠ 0 := fun e hm0 e1 => by
    rw [e1, natOf_zero] at e
    exact hm0 (by have := h.len; rw [← e] at this; exact this.symm)
  have m0' : m = 0 → val ys = 0 := fun e => by
    have := k.len; subst e; rw [List.eq_nil_of_length_eq_zero this]; rfl
  have NO : ∀ (P : Prop), P → (natOf (val xs) = xs ∧ natOf (val ys) = ys ∧ 0 < val ys ∧ ¬ (s = true ∧ val xs = 0) ∧ Nat.gcd (val xs) (val ys) = 1 → ¬ P) → r = false := fun P p f => by
    rw [← hr]; exact decide_eq_false (fun g => f (right_no g) p)
  obtain ⟨b1, bV, hs⟩ := boxes1 w #[.bool s, .slice a n c, .slice b m d] 24
  obtain ⟨x0, x1, x2, -, -, -⟩ := b1.cells3
  by_cases c1 : natOf (val xs) = xs
  case neg =>
    have e := NO _ c1 (fun g => not_not_intro g.1)
    subst e
    have R3 := fun v hb => R1 v hb false (decide_eq_false (fun e => c1 (w1.1 e)))
    clear R1 R2 AP w1 w2 NO n0 m0 n0' m0' c1 hr hq hn hm h k hx hy
    go_enter Tryz.func15, Tryz.ntmps15
    go_wp2_with (go_at_call 48; (with_reducible refine Calls.mono (R3 _ bV) ?_); rintro e w3 ⟨rfl, rfl⟩)
    go_ret
    exact ⟨rfl, bV⟩
  have R3 := fun v hb => R1 v hb true (decide_eq_true (w1.2 c1))
  by_cases c2 : natOf (val ys) = ys
  case neg =>
    have e := NO _ c2 (fun g => not_not_intro g.2.1)
    subst e
    have R4 := fun v hb => R2 v hb false (decide_eq_false (fun e => c2 (w2.1 e)))
    clear R1 R2 AP w1 w2 NO n0 m0 n0' m0' c1 c2 hr hq hn hm h k hx hy
    go_enter Tryz.func15, Tryz.ntmps15
    go_wp2_with (first
      | (go_at_call 48; (with_reducible refine Calls.mono (R3 _ bV) ?_); rintro e w3 ⟨rfl, rfl⟩)
      | (go_at_call 48; (with_reducible refine Calls.mono (R4 _ bV) ?_); rintro e w3 ⟨rfl, rfl⟩))
    go_ret
    exact ⟨rfl, bV⟩
  have R4 := fun v hb => R2 v hb true (decide_eq_true (w2.2 c2))
  by_cases c3 : m = 0
  case pos =>
    have e := NO _ (m0' c3) (fun g => by omega)
    subst e
    subst c3
    clear R1 R2 AP w1 w2 NO n0 m0 n0' m0' c1 c2 hr hq hn hm h k hx hy
    go_enter Tryz.func15, Tryz.ntmps15
    go_wp2_with (first
      | (go_at_call 48; (with_reducible refine Calls.mono (R3 _ bV) ?_); rintro e w3 ⟨rfl, rfl⟩)
      | (go_at_call 48; (with_reducible refine Calls.mono (R4 _ bV) ?_); rintro e w3 ⟨rfl, rfl⟩))
    go_ret
    exact ⟨rfl, bV⟩
  have c3' : (0 : Int) < (m : Int) := by omega
  have p3 := m0 c2 c3
  by_cases c4 : s = true ∧ n = 0
  case pos =>
    have e := NO (s = true ∧ val xs = 0) ⟨c4.1, n0 c4.2⟩ (fun g => g.2.2.2.1)
    subst e
    obtain ⟨rfl, rfl⟩ := c4
    clear R1 R2 AP w1 w2 NO n0 m0 n0' m0' c1 c2 hr hq hn hm h k hx hy p3
    go_enter Tryz.func15, Tryz.ntmps15
    go_wp2_with (first
      | (go_at_call 48; (with_reducible refine Calls.mono (R3 _ bV) ?_); rintro e w3 ⟨rfl, rfl⟩)
      | (go_at_call 48; (with_reducible refine Calls.mono (R4 _ bV) ?_); rintro e w3 ⟨rfl, rfl⟩))
    go_ret
    exact ⟨rfl, bV⟩
  have e5 : decide (Nat.gcd (val xs) (val ys) = 1) = r := by
    rw [← hr]
    by_cases g : Nat.gcd (val xs) (val ys) = 1
    · rw [decide_eq_true g, decide_eq_true (right_yes hq c1 c2 p3 (fun e => n0' c1 (fun e2 => c4 ⟨e.1, e2⟩) e.2) g)]
    · rw [decide_eq_false g, decide_eq_false (fun e => g (right_no e).2.2.2.2)]
  have A2 := fun v hb => AP v hb r e5
  have c5 : s = false ∨ s = true ∧ ((n : Int) == 0) = false := by
    cases s
    · exact .inl rfl
    · have hn0 : n ≠ 0 := fun e => c4 ⟨rfl, e⟩
      exact .inr ⟨rfl, by simp; omega⟩
  clear R1 R2 AP w1 w2 NO n0 m0 n0' m0' c1 c2 c3 c4 hr hq hn hm h k hx hy p3 e5
  rcases c5 with rfl | ⟨rfl, c5⟩
  all_goals
    go_enter Tryz.func15, Tryz.ntmps15
    go_wp2_with (first
      | (go_at_call 48; (with_reducible refine Calls.mono (R3 _ bV) ?_); rintro e w3 ⟨rfl, rfl⟩)
      | (go_at_call 48; (with_reducible refine Calls.mono (R4 _ bV) ?_); rintro e w3 ⟨rfl, rfl⟩)
      | (go_at_call 49; (with_reducible refine Calls.mono (A2 _ bV) ?_); rintro e w4 ⟨rfl, d4⟩))
    go_ret
    exact ⟨rfl, below_more bV d4⟩

theorem rat_fix' {s : Bool} {a : Option Addr} {n c : Nat} {b : Option Addr} {m d : Nat} {q : Rat} {w : World} (h : RR 10000 w s a n c b m d q) : Calls Tryz.prog 18 #[.agg #[.bool s, .slice a n c, .slice b m d]] w (AnsT w (tri q)) := rat_fix h
set_option maxHeartbeats 4000000 in
theorem rat_print {s : Bool} {a : Option Addr} {n c : Nat} {b : Option Addr} {m d : Nat} {q : Rat} {w : World} (h : RR 10000 w s a n c b m d q) : Calls Tryz.prog 39 #[.agg #[.bool s, .slice a n c, .slice b m d]] w fun e w' => e = .returned (.string ⟨(decR q).toArray⟩) ∧ Below w.heap.size w w' := by
  have F := fun v (hb : Below w.heap.size w v) => rat_fix (h.below hb)
  unfold AnsR OwnR at F
  obtain ⟨l1, l2⟩ := h.rs (by omega)
  have P1 := fun v W a1 c1 (p : Own W v (.slice a1 (nl q.num.natAbs) c1) (nl q.num.natAbs) (natOf q.num.natAbs)) => whole_print (p.ri (by omega))
  have P2 := fun v a1 c1 (p : IsWords v (.slice a1 (nl q.den) c1) (natOf q.den)) => deci_print p (wd_natOf _) (by omega) q.den (val_natOf _)
  have T := fun v s a n c b m d => rat_top s a n c b m d v
  have E := fun v => nat_of 1 v (by omega) (by omega)
  have e1 : (1 : Int).toNat = 1 := rfl
  rw [e1] at E
  unfold Ans at E
  have C := fun v a1 c1 a2 c2 (p : IsWords v (.slice a1 (nl q.den) c1) (natOf q.den)) (p' : IsWords v (.slice a2 (nl 1) c2) (natOf 1)) => nat_cmp' p (wd_natOf _) p' (wd_natOf _) (sgn q.den 1) (by rw [val_natOf, val_natOf]; rfl)
  have hL1 := decI_wlen q.num l1 (by omega)
  have hL2 := decOf_words l2 (by omega)
  obtain ⟨b1, bV, hs⟩ := boxes1 w #[.bool s, .slice a n c, .slice b m d] 24
  obtain ⟨x0, x1, x2, -, -, -⟩ := b1.cells3
  unfold decR
  have hd : q.den = 1 ∧ (sgn (q.den : Int) 1 == 0) = true ∨ q.den ≠ 1 ∧ (sgn (q.den : Int) 1 == 0) = false := by
    by_cases hd : q.den = 1
    · exact .inl ⟨hd, by rw [hd]; rfl⟩
    · refine .inr ⟨hd, ?_⟩
      rcases Nat.lt_or_ge q.den 1 with h | h
      · have := q.den_pos; omega
      · rw [sgn_gt (by omega)]; rfl
  clear h l1 l2 e1
  rcases hd with ⟨hd, ec⟩ | ⟨hd, ec⟩
  case' inl => rw [if_pos hd]
  case' inr => rw [if_neg hd]
  all_goals
    clear hd
    generalize sgn (q.den : Int) 1 = sg at *
    generalize decide (q.num < 0) = s1 at *
    generalize decI q.num = T1 at *
    generalize decOf q.den = T2 at *
    generalize q.num.natAbs = N1 at *
    generalize q.den = D1 at *
    generalize nl 1 = one at *
    have hT1 : (T1.length : Int) + 1 ≤ 9223372036854775807 := by omega
    have hT2 : (T1.length : Int) + 1 + T2.length ≤ 9223372036854775807 := by omega
    have HT : Hid (ByteArray.mk T1.toArray ++ ByteArray.mk #[124] ++ ByteArray.mk T2.toArray = ByteArray.mk (T1 ++ 124 :: T2).toArray) := by show _ = _; rw [ByteArray.mk_append_mk, ByteArray.mk_append_mk]; simp
    clear hL1 hL2
    go_enter Tryz.func39, Tryz.ntmps39
    go_wp2_with (first
      | (go_at_call 18; (with_reducible refine Calls.mono (F _ bV) ?_); rintro e w1 ⟨a1, c1, a2, c2, rfl, o1, o2⟩; have p1 := fun o => o1.alloc o; have p2 := fun o => o2.alloc o; have B1 := BoxC.new w1 #[.bool s1, .slice a1 (nl N1) c1, .slice a2 (nl D1) c2] 51)
      | (go_at_call 75; (with_reducible refine Calls.mono (T _ _ _ _ _ _ _ _) ?_); rintro e w2 ⟨rfl, d2⟩)
      | (go_at_call 74; (with_reducible refine Calls.mono (P1 _ _ _ _ ((p1 _).more d2)) ?_); rintro e w3 ⟨rfl, d3⟩))
    have B2 := (B1.more d2).more d3
    have o4 := ((o2.alloc (.cells #[.bool s1, .slice a1 (nl N1) c1, .slice a2 (nl D1) c2] 51)).more d2).more d3
    clear p1 p2 B1 d2 d3 x0 x1 x2 b1 hs o1 o2
    generalize w1.heap.size = k3 at *
    generalize w3 = V at *
    have SO := fun v (hb : Below V.heap.size V v) => (B2.more hb).cells3.2.2.1
    have bs : Below V.heap.size V V.drew := (Below.refl _ _).drew
    go_region_held3 (fun v => v.cell? ⟨k3, 2, none⟩ = some (.slice a2 (nl D1) c2))
      (with_reducible exact SO _ bs)
      (first
      | (go_at_call 54; (with_reducible refine Calls.mono (E _) ?_); rintro e w5 ⟨a5, c5, rfl, o5⟩; replace bs := below_more bs o5.below)
      | (go_at_call 76; (with_reducible refine Calls.mono (C _ _ _ _ _ (o4.more bs).words o5.words) ?_); rintro e w6 ⟨rfl, d6⟩; replace bs := below_more bs d6))
    all_goals
      have x2 := SO _ bs
      have o6 := o4.more bs
      have b6 := below_more bV o6.below
      clear SO bs o4 o5 d6
      go_wp2_with (go_at_call 77; (with_reducible refine Calls.mono (P2 _ _ _ o6.words) ?_); rintro e w7 ⟨rfl, d7⟩; replace b6 := below_more b6 d7)
      go_ret
      first | exact ⟨rfl, b6⟩ | exact ⟨by rw [← HT.out]; rfl, b6⟩
end Go.Proofs.YtpimcbncmfpdhaaGreatDoor
/-
  Contract of package ratio's Pow, for every Rat of so many words that no power is above 4096 words: as rational numbers; memory that was there stays, and what is answered is the call's own.
-/
namespace Go.Proofs.YtpimcbncmfpdhaaGreatDoor
open Go.RowKit

theorem pow_signs {x : Int} (h : x < 0) (k : Nat) : (k % 2 = 1 → x ^ k < 0) ∧ (k % 2 = 0 → 0 < x ^ k) := by
  induction k with
  | zero => exact ⟨fun h => by omega, fun _ => by rw [Int.pow_zero]; omega⟩
  | succ k ih =>
    rw [Int.pow_succ]
    refine ⟨fun e => Int.mul_neg_of_pos_of_neg (ih.2 (by omega)) h, fun e => Int.mul_pos_of_neg_of_neg (ih.1 (by omega)) h⟩
theorem pow_nn {x : Int} (h : 0 ≤ x) (k : Nat) : 0 ≤ x ^ k := by
  induction k with
  | zero => rw [Int.pow_zero]; omega
  | succ k ih => rw [Int.pow_succ]; exact Int.mul_nonneg ih h
theorem tri_pow {z : Rat} {s : Bool} {A D : Nat} (h : tri z = (s, A, D)) (k : Nat) : tri (z ^ k) = (s && decide (k % 2 = 1), A ^ k, D ^ k) := by
  unfold tri at h ⊢
  simp only [Prod.mk.injEq] at h
  obtain ⟨h1, h2, h3⟩ := h
  rw [Rat.num_pow, Rat.den_pow, Int.natAbs_pow, h2, h3, ← h1]
  congr 1
  by_cases hx : z.num < 0
  · rw [decide_eq_true hx, Bool.true_and]
    obtain ⟨p1, p2⟩ := pow_signs hx k
    by_cases hk : k % 2 = 1
    · rw [decide_eq_true hk, decide_eq_true (p1 hk)]
    · rw [decide_eq_false hk, decide_eq_false (by have := p2 (by omega); omega)]
  · rw [decide_eq_false hx, Bool.false_and]
    exact decide_eq_false (by have := pow_nn (show 0 ≤ z.num by omega) k; omega)

set_option maxHeartbeats 4000000 in
theorem rat_power {s : Bool} {a : Option Addr} {c : Nat} {b : Option Addr} {d : Nat} {A D : Nat} {w : World} (p : IsWords w (.slice a (nl A) c) (natOf A)) (p' : IsWords w (.slice b (nl D) d) (natOf D)) (z : Rat) (hz : tri z = (s, A, D)) (i : Int) (i0 : 0 ≤ i) (i1 : i ≤ 64) (lA : nl A ≤ 100000) (lD : nl D ≤ 100000) (hA : nl A * i.toNat ≤ 4096) (hD : nl D * i.toNat ≤ 4096) :
    Calls Tryz.prog 68 #[.agg #[.bool s, .slice a (nl A) c, .slice b (nl D) d], .int .i64 i] w (AnsTE w (tri (z ^ i.toNat)) 0) := by
  rw [tri_pow hz]
  have PA := fun v (hb : Below w.heap.size w v) => times_pow a (nl A) c (natOf A) i v (p.below hb) (wd_natOf _) (by omega) i0 (by omega) (by rw [val_natOf]; exact .inr hA)
  have PD := fun v (hb : Below w.heap.size w v) => times_pow b (nl D) d (natOf D) i v (p'.below hb) (wd_natOf _) (by omega) i0 (by omega) (by rw [val_natOf]; exact .inr hD)
  simp only [val_natOf] at PA PD
  unfold AnsOk at PA PD
  have e1 : (Int.tmod i 2 == 1) = decide (i.toNat % 2 = 1) := by
    have : Int.tmod i 2 = i % 2 := Int.tmod_eq_emod_of_nonneg i0
    rw [this]
    by_cases h : i.toNat % 2 = 1
    · rw [decide_eq_true h]; simp; omega
    · rw [decide_eq_false h]; simp; omega
  have e2 : (i % 2 == 1) = decide (i.toNat % 2 = 1) := by
    by_cases h : i.toNat % 2 = 1
    · rw [decide_eq_true h]; simp; omega
    · rw [decide_eq_false h]; simp; omega
  generalize decide (i.toNat % 2 = 1) = od at *
  generalize A ^ i.toNat = uN at *
  generalize D ^ i.toNat = uD at *
  clear p p' hA hD lA lD hz
  obtain ⟨b1, b2, bV, hs⟩ := boxes2 w #[.bool s, .slice a (nl A) c, .slice b (nl D) d] #[.bool false, .slice none 0 0, .slice none 0 0] 51 24
  obtain ⟨x0, x1, x2, -, -, -⟩ := b1.cells3
  rcases s with _ | _
  case' false => rw [Bool.false_and]
  case' true => rw [Bool.true_and]
  all_goals
    go_enter Tryz.func68, Tryz.ntmps68
    go_wp2_with (first
      | (go_at_call 99; (with_reducible refine Calls.mono (PA _ bV) ?_); rintro e w1 ⟨a8, c8, rfl, o8⟩; have d1 := o8.below; replace o8 := o8.outer bV; obtain ⟨x0, x1, x2, -, -, -⟩ := (b1.more d1).cells3; clear PA)
      | (go_at_call 99; (with_reducible refine Calls.mono (PD _ (below_more bV d1)) ?_); rintro e w2 ⟨a9, c9, rfl, o9⟩; have d2 := o9.below; replace o9 := o9.outer (below_more bV d1); replace o8 := o8.more d2; have BR := (b2.more d1).more d2; obtain ⟨x0, x1, x2, -, -, -⟩ := ((b1.more d1).more d2).cells3; obtain ⟨y0, y1, y2, g0, g1, g2⟩ := BR.cells3))
    exact bodyPost_ret (v := .tuple #[.agg #[.bool _, .slice a8 (nl uN) c8, .slice a9 (nl uD) c9], .int .i64 0]) (by simp [results, Tryz.results68, go_sem, y0, y1, y2]) rfl (ansTE_mk (o8.box3 BR rat_ne_u32 (by omega) _ _ _) (o9.box3 BR rat_ne_u32 (by omega) _ _ _))

set_option maxHeartbeats 4000000 in
theorem rat_pow {k : Nat} {s : Bool} {a : Option Addr} {n c : Nat} {b : Option Addr} {m d : Nat} {q : Rat} {w : World} (h : RR k w s a n c b m d q) (hk : k ≤ 10000) (i : Int) (i0 : -9223372036854775808 ≤ i) (i1 : i < 9223372036854775808) (hi : -64 ≤ i ∧ i ≤ 64 → k * i.natAbs ≤ 4096) :
    Calls Tryz.prog 35 #[.agg #[.bool s, .slice a n c, .slice b m d], .int .i64 i] w (AnsTE w (powT q i) (powE q i)) := by
  have F := fun v (hb : Below w.heap.size w v) => rat_fix' ((h.below hb).mono hk)
  obtain ⟨b1, b2, bV, hs⟩ := boxes2 w #[.bool s, .slice a n c, .slice b m d] #[.bool false, .slice none 0 0, .slice none 0 0] 24 24
  obtain ⟨x0, x1, x2, -, -, -⟩ := b1.cells3
  unfold powT powE
  by_cases hb : i < -64 ∨ 64 < i
  case pos =>
    rw [if_pos hb, if_pos hb]
    obtain ⟨y0, y1, y2, g0, g1, g2⟩ := b2.cells3
    clear h hi F
    rcases hb with hb | hb
    case' inr => have hb' : ¬ i < -64 := by omega
    all_goals
      go_enter Tryz.func35, Tryz.ntmps35
      go_wp2
      exact bodyPost_ret (v := .tuple #[.agg #[.bool false, .slice none 0 0, .slice none 0 0], .int .i64 4]) (by simp [results, Tryz.results35, go_sem, y0, y1, y2]) rfl (ansTE_no bV)
  rw [if_neg hb, if_neg hb]
  have rs : RS (max k 1) q := (h.mono (Nat.le_max_left k 1)).rs (Nat.le_max_right k 1)
  have hi2 : max k 1 * i.natAbs ≤ 4096 := by
    have := hi (by omega)
    rcases Nat.eq_zero_or_pos k with e | e
    · subst e; simp; omega
    · rw [Nat.max_eq_left e]; exact this
  have hA : nl q.num.natAbs * i.natAbs ≤ 4096 := Nat.le_trans (Nat.mul_le_mul_right _ rs.1) hi2
  have hD : nl q.den * i.natAbs ≤ 4096 := Nat.le_trans (Nat.mul_le_mul_right _ rs.2) hi2
  have lA : nl q.num.natAbs ≤ 100000 := Nat.le_trans rs.1 (by omega)
  have lD : nl q.den ≤ 100000 := Nat.le_trans rs.2 (by omega)
  have hb1 : ¬ i < -64 := by omega
  have hb2 : ¬ 64 < i := by omega
  clear h hi rs hi2 hb
  by_cases hs0 : 0 ≤ i
  case pos =>
    have hs1 : ¬ i < 0 := by omega
    rw [if_neg (fun e => hs1 e.2), if_neg (fun e => hs1 e.2), zpow_nat q i hs0]
    have PW := fun v a1 c1 a2 c2 (p : IsWords v (.slice a1 (nl q.num.natAbs) c1) (natOf q.num.natAbs)) (p' : IsWords v (.slice a2 (nl q.den) c2) (natOf q.den)) => rat_power (d := c2) p p' q rfl i hs0 (by omega) lA lD (by rw [show i.toNat = i.natAbs by omega]; exact hA) (by rw [show i.toNat = i.natAbs by omega]; exact hD)
    unfold AnsT tri at F
    dsimp only at F
    generalize tri (q ^ i.toNat) = tt at PW ⊢
    obtain ⟨u0, uN, uD⟩ := tt
    unfold AnsTE at PW
    dsimp only at PW
    clear hA hD lA lD
    generalize decide (q.num < 0) = t0 at *
    generalize q.num.natAbs = A at *
    generalize q.den = D at *
    go_enter Tryz.func35, Tryz.ntmps35
    go_wp2_with (first
      | (go_at_call 18; (with_reducible refine Calls.mono (F _ bV) ?_); rintro e w1 ⟨a1, c1, a2, c2, rfl, o1, o2⟩; have d1 := o1.below; have p1 := fun o => o1.alloc o; have p2 := fun o => o2.alloc o; have B1 := BoxC.new w1 #[.bool t0, .slice a1 (nl A) c1, .slice a2 (nl D) c2] 51; have BQ := fun o => (b2.more d1).alloc o; have bW := fun o => (below_more bV d1).alloc (below_more bV d1).size o; have hk1 := (b2.more d1).lt)
      | (go_at_call 68; (with_reducible refine Calls.mono (PW _ _ _ _ _ (p1 _).words (p2 _).words) ?_); rintro e w9 ⟨a8, c8, a9, c9, rfl, o8, o9⟩; have d9 := o8.below; replace o8 := o8.outer (bW _); replace o9 := o9.outer (bW _); have BR := (BQ _).more d9; obtain ⟨y0, y1, y2, g0, g1, g2⟩ := BR.cells3))
    exact bodyPost_ret (v := .tuple #[.agg #[.bool u0, .slice a8 (nl uN) c8, .slice a9 (nl uD) c9], .int .i64 0]) (by simp [results, Tryz.results35, go_sem, y0, y1, y2]) rfl (ansTE_mk (o8.box3 BR rat_ne_u32 (by omega) _ _ _) (o9.box3 BR rat_ne_u32 (by omega) _ _ _))
  have hs1 : i < 0 := by omega
  by_cases hq : q = 0
  case pos =>
    rw [if_pos ⟨hq, hs1⟩, if_pos ⟨hq, hs1⟩]
    have Q := fun v W a1 c1 a2 c2 (o : OwnR W v a1 c1 a2 c2 q) => rat_none (k := 100000) (q := q) (s := decide (q.num < 0)) (w := v) ⟨_, _, o.1.words, wd_natOf _, o.2.words, wd_natOf _, lA, lD, by rw [val_natOf]; exact q.den_pos, by rw [val_natOf, val_natOf]; exact rv_tri q⟩ (by omega) true (decide_eq_true hq)
    unfold AnsT tri at F
    dsimp only at F
    unfold OwnR at Q
    clear hA hD lA lD hq
    generalize decide (q.num < 0) = t0 at *
    generalize q.num.natAbs = A at *
    generalize q.den = D at *
    go_enter Tryz.func35, Tryz.ntmps35
    go_wp2_with (first
      | (go_at_call 18; (with_reducible refine Calls.mono (F _ bV) ?_); rintro e w1 ⟨a1, c1, a2, c2, rfl, o1, o2⟩; have d1 := o1.below; have p1 := fun o => o1.alloc o; have p2 := fun o => o2.alloc o; have B1 := BoxC.new w1 #[.bool t0, .slice a1 (nl A) c1, .slice a2 (nl D) c2] 51; have BQ := fun o => (b2.more d1).alloc o; have bW := fun o => (below_more bV d1).alloc (below_more bV d1).size o; have hk1 := (b2.more d1).lt)
      | (go_at_call 56; (with_reducible refine Calls.mono (Q _ _ _ _ _ _ ⟨p1 _, p2 _⟩) ?_); rintro e w9 ⟨rfl, d9⟩; obtain ⟨y0, y1, y2, g0, g1, g2⟩ := ((BQ _).more d9).cells3))
    exact bodyPost_ret (v := .tuple #[.agg #[.bool false, .slice none 0 0, .slice none 0 0], .int .i64 3]) (by simp [results, Tryz.results35, go_sem, y0, y1, y2]) rfl (ansTE_no (below_set3 (below_more (bW _) d9) (by omega) _ _ _))
  have hqi : ¬ (q = 0 ∧ i < 0) := fun e => hq e.1
  rw [if_neg hqi, if_neg hqi, zpow_turned q i hs1]
  have Q := fun v W a1 c1 a2 c2 (o : OwnR W v a1 c1 a2 c2 q) => rat_none (k := 100000) (q := q) (s := decide (q.num < 0)) (w := v) ⟨_, _, o.1.words, wd_natOf _, o.2.words, wd_natOf _, lA, lD, by rw [val_natOf]; exact q.den_pos, by rw [val_natOf, val_natOf]; exact rv_tri q⟩ (by omega) false (decide_eq_false hq)
  have T := fun v s a n c b m d => rat_turned s a n c b m d v
  have PW := fun v a1 c1 a2 c2 (p : IsWords v (.slice a1 (nl q.num.natAbs) c1) (natOf q.num.natAbs)) (p' : IsWords v (.slice a2 (nl q.den) c2) (natOf q.den)) => rat_power (c := c2) (d := c1) p' p q⁻¹ (tri_inv hq) (-i) (by omega) (by omega) lD lA (by rw [show (-i).toNat = i.natAbs by omega]; exact hD) (by rw [show (-i).toNat = i.natAbs by omega]; exact hA)
  unfold AnsT tri at F
  dsimp only at F
  unfold OwnR at Q
  generalize tri (q⁻¹ ^ (-i).toNat) = tt at PW ⊢
  obtain ⟨u0, uN, uD⟩ := tt
  unfold AnsTE at PW
  dsimp only at PW
  clear hA hD lA lD hq hqi
  generalize decide (q.num < 0) = t0 at *
  generalize q.num.natAbs = A at *
  generalize q.den = D at *
  go_enter Tryz.func35, Tryz.ntmps35
  go_wp2_with (first
    | (go_at_call 18; (with_reducible refine Calls.mono (F _ bV) ?_); rintro e w1 ⟨a1, c1, a2, c2, rfl, o1, o2⟩; have d1 := o1.below; have p1 := fun o => o1.alloc o; have p2 := fun o => o2.alloc o; have B1 := BoxC.new w1 #[.bool t0, .slice a1 (nl A) c1, .slice a2 (nl D) c2] 51; have BQ := fun o => (b2.more d1).alloc o; have bW := fun o => (below_more bV d1).alloc (below_more bV d1).size o; have hk1 := (b2.more d1).lt)
    | (go_at_call 56; (with_reducible refine Calls.mono (Q _ _ _ _ _ _ ⟨p1 _, p2 _⟩) ?_); rintro e w3 ⟨rfl, d3⟩; obtain ⟨x0, x1, x2, -, -, -⟩ := (B1.more d3).cells3)
    | (go_at_call 57; (with_reducible refine Calls.mono (T _ _ _ _ _ _ _ _) ?_); rintro e w4 ⟨rfl, d4⟩; have d5 := below_more d3 d4)
    | (go_at_call 68; (with_reducible refine Calls.mono (PW _ _ _ _ _ ((p1 _).more d5).words ((p2 _).more d5).words) ?_); rintro e w9 ⟨a8, c8, a9, c9, rfl, o8, o9⟩; have d9 := o8.below; replace o8 := o8.outer (below_more (bW _) d5); replace o9 := o9.outer (below_more (bW _) d5); have BR := ((BQ _).more d5).more d9; obtain ⟨y0, y1, y2, g0, g1, g2⟩ := BR.cells3))
  exact bodyPost_ret (v := .tuple #[.agg #[.bool u0, .slice a8 (nl uN) c8, .slice a9 (nl uD) c9], .int .i64 0]) (by simp [results, Tryz.results35, go_sem, y0, y1, y2]) rfl (ansTE_mk (o8.box3 BR rat_ne_u32 (by omega) _ _ _) (o9.box3 BR rat_ne_u32 (by omega) _ _ _))
end Go.Proofs.YtpimcbncmfpdhaaGreatDoor
/-
  Contract of strings.Cut at the stroke, and of package ratio's Parse, for every text: the rational number, or the error; memory that was there stays, and what is answered is the call's own; and all of the package's contracts together.
-/
namespace Go.Proofs.YtpimcbncmfpdhaaGreatDoor
open Go.RowKit

theorem index_stroke (l : List UInt8) : Go.Lib.indexByte l 124 = if strokeAt l < l.length then (strokeAt l : Int) else -1 := by
  induction l with
  | nil => rfl
  | cons c l ih =>
    unfold Go.Lib.indexByte
    rw [stroke_cons, ih, List.length_cons]
    by_cases h : c = 124
    · subst h; simp
    · have h' : (c == 124) = false := by simpa using h
      simp only [h', if_neg h, Bool.false_eq_true, if_false]
      by_cases hl : strokeAt l < l.length
      · have : (((strokeAt l : Nat) : Int) == -1) = false := by simp
        simp only [if_pos hl, this, Bool.false_eq_true, if_false]
        rw [if_pos (by omega)]; omega
      · simp only [if_neg hl]
        rw [if_neg (by omega : ¬ strokeAt l + 1 < l.length + 1)]; rfl

set_option maxHeartbeats 4000000 in
set_option maxRecDepth 100000 in
theorem index_byte (s : ByteArray) (w : World) (c : Int) (hc : c = 124) : Calls Tryz.prog 150 #[.string s, .int .u8 c] w fun e w' => e = .returned (.int .i64 (Go.Lib.indexByte s.data.toList 124)) ∧ w = w' := by
  subst hc
  have R := fun v => Go.Lib.run_indexByteString (P := Tryz.prog) s 124 v
  rw [show (124 : Int).toNat.toUInt8 = 124 from rfl] at R
  generalize Go.Lib.indexByte s.data.toList 124 = I at *
  go_enter Tryz.func150, Tryz.ntmps150
  go_wp2
  rw [run_callFunc_extern Tryz.func170 (by kernel_rfl) (by kernel_rfl) (by kernel_rfl) (e := Extern.BytealgIndexByte.indexByte) (by kernel_rfl), R]
  simp only [Result.andThen]
  rw [Oper.upon_value]
  go_wp2
  go_ret
  exact ⟨rfl, rfl⟩

set_option maxHeartbeats 4000000 in
set_option maxRecDepth 100000 in
theorem index_at (s : ByteArray) (w : World) (I : Int) (hI : Go.Lib.indexByte s.data.toList 124 = I) :
    Calls Tryz.prog 126 #[.string s, .string ⟨#[124]⟩] w fun e w' => e = .returned (.int .i64 I) ∧ w = w' := by
  have B := fun v c hc => index_byte s v c hc
  have h0 : ([124] == s.toList) = true ∧ I = 0 ∨ ([124] == s.toList) = false := by
    cases h : ([124] == s.toList)
    · exact .inr rfl
    · refine .inl ⟨rfl, ?_⟩
      have e : s.data.toList = [124] := by rw [← ByteArray.toList_eq]; exact (beq_iff_eq.1 h).symm
      rw [← hI, e]; rfl
  rw [hI] at B
  clear hI
  rcases h0 with ⟨h0, rfl⟩ | h0
  all_goals
    go_enter Tryz.func126, Tryz.ntmps126
    go_wp2_with (go_at_call 150; (with_reducible refine Calls.mono (B _ _ (by decide)) ?_); rintro e w1 ⟨rfl, rfl⟩)
    go_ret
    exact ⟨rfl, rfl⟩

/-- strings.Cut at the stroke: what stands ahead of it, what behind. -/
def cutF (s : ByteArray) : ByteArray := s.extract 0 (strokeAt s.data.toList)
set_option maxHeartbeats 4000000 in
theorem cut_no (s : ByteArray) (w : World) (h : ¬ strokeAt s.data.toList < s.size) : Calls Tryz.prog 69 #[.string s, .string ⟨#[124]⟩] w fun e w' => e = .returned (.tuple #[.string s, .string ⟨#[]⟩, .bool false]) ∧ Below w.heap.size w w' := by
  have X := fun v => index_at s v (-1) (by rw [index_stroke, if_neg (by simpa using h)])
  have C : ∀ v, Calls Tryz.prog 100 #[.string s, .string ⟨#[124]⟩] v fun e w' => e = .returned (.tuple #[.string s, .string ⟨#[]⟩, .bool false]) ∧ Below v.heap.size v w' := by
    intro v
    go_enter Tryz.func100, Tryz.ntmps100
    go_wp2_with (go_at_call 126; (with_reducible refine Calls.mono (X _) ?_); rintro e w1 ⟨rfl, rfl⟩)
    go_ret3
    exact ⟨rfl, Below.refl _ _⟩
  go_enter Tryz.func69, Tryz.ntmps69
  go_wp2_with (go_at_call 100; (with_reducible refine Calls.mono (C _) ?_); rintro e w1 ⟨rfl, d1⟩)
  go_ret3
  exact ⟨rfl, d1⟩
set_option maxHeartbeats 4000000 in
theorem cut_yes (s : ByteArray) (hs : s.size ≤ maxLen) (w : World) (A : Nat) (hA : strokeAt s.data.toList = A) (h : A < s.size) : Calls Tryz.prog 69 #[.string s, .string ⟨#[124]⟩] w fun e w' => e = .returned (.tuple #[.string (s.extract 0 A), .string (s.extract (A + 1) s.size), .bool true]) ∧ Below w.heap.size w w' := by
  have X := fun v => index_at s v (A : Int) (by rw [index_stroke, hA, if_pos (by simpa using h)])
  have C : ∀ v, Calls Tryz.prog 100 #[.string s, .string ⟨#[124]⟩] v fun e w' => e = .returned (.tuple #[.string (s.extract 0 A), .string (s.extract (A + 1) s.size), .bool true]) ∧ Below v.heap.size v w' := by
    intro v
    unfold maxLen at hs
    have c1 : (0 : Int) ≤ (A : Int) := by omega
    have c2 : (A : Int) ≤ (s.size : Int) := by omega
    have c3 : (0 : Int) ≤ (A : Int) + 1 := by omega
    have c4 : (A : Int) + 1 ≤ (s.size : Int) := by omega
    have c5 : IntKind.i64.wrap ((A : Int) + 1) = (A : Int) + 1 := by rw [IntKind.wrap_i64]; omega
    clear hA h hs
    go_enter Tryz.func100, Tryz.ntmps100
    go_wp2_with (go_at_call 126; (with_reducible refine Calls.mono (X _) ?_); rintro e w1 ⟨rfl, rfl⟩)
    go_quiet (fail)
    go_wp2
    go_ret3
    exact ⟨rfl, below_drewN (Below.refl _ _) _⟩
  clear hA h hs X
  go_enter Tryz.func69, Tryz.ntmps69
  go_wp2_with (go_at_call 100; (with_reducible refine Calls.mono (C _) ?_); rintro e w1 ⟨rfl, d1⟩)
  go_ret3
  exact ⟨rfl, d1⟩

theorem cut_parts (s : ByteArray) (hs : s.size ≤ maxLen) : ∃ (f u : ByteArray) (ct : Bool), (∀ v, Calls Tryz.prog 69 #[.string s, .string ⟨#[124]⟩] v fun e w' => e = .returned (.tuple #[.string f, .string u, .bool ct]) ∧ Below v.heap.size v w') ∧ f.data.toList = frontR s.data.toList ∧ f.size ≤ maxLen ∧ u.size ≤ maxLen ∧ (ct = false ∧ restR s.data.toList = [] ∨ ct = true ∧ ∃ c, restR s.data.toList = c :: u.data.toList) := by
  have hsz : s.data.toList.length = s.size := by simp
  have hle := stroke_le s.data.toList
  rw [hsz] at hle
  by_cases h : strokeAt s.data.toList < s.size
  · refine ⟨_, _, true, fun v => cut_yes s hs v _ rfl h, ?_, ?_, ?_, .inr ⟨rfl, s[strokeAt s.data.toList], ?_⟩⟩
    · rw [extract_front, front_take]
    · rw [ByteArray.size_extract]; omega
    · rw [ByteArray.size_extract]; omega
    · rw [rest_drop, extract_rest]; exact drop_byte s _ h
  · refine ⟨_, _, false, fun v => cut_no s v h, ?_, hs, Nat.zero_le _, .inl ⟨rfl, ?_⟩⟩
    · rw [front_take, List.take_of_length_le (by omega)]
    · rw [rest_drop, List.drop_of_length_le (by omega)]

set_option maxHeartbeats 8000000 in
theorem rat_parse (s : ByteArray) (w : World) (hs : s.size ≤ maxLen) : Calls Tryz.prog 37 #[.string s] w (AnsTE w (parT s.data.toList) (parE s.data.toList)) := by
  obtain ⟨f, u, ct, CU, hf, lf, lu, hc⟩ := cut_parts s hs
  have P1 := fun v => whole_parse f v lf
  have P2 := fun v => deci_parse u v lu
  rw [hf] at P1
  have lz : nl (znum (frontR s.data.toList)).natAbs ≤ 1001 := by unfold znum; rw [iv_abs]; exact pnum_words _
  have lu2 : nl (pnum u.data.toList) ≤ 1001 := pnum_words _
  unfold AnsIP at P1
  unfold AnsP at P2
  obtain ⟨b1, bV, hs⟩ := boxes1 w #[.bool false, .slice none 0 0, .slice none 0 0] 24
  by_cases hz : zerr (frontR s.data.toList) = 0
  case neg =>
    obtain ⟨e1, e2⟩ := par_err hz
    rw [e1, e2]
    have hz2 : (zerr (frontR s.data.toList) == 0) = false := by simpa using hz
    generalize zerr (frontR s.data.toList) = E1 at *
    generalize znum (frontR s.data.toList) = Z at *
    generalize decide (Z < 0) = gZ at *
    generalize Z.natAbs = NZ at *
    clear hf lf lu hc lz lu2 e1 e2 hz P2
    go_enter Tryz.func37, Tryz.ntmps37
    go_wp2_with (first
      | (go_at_call 69; (with_reducible refine Calls.mono (CU _) ?_); rintro e w0 ⟨rfl, d0⟩)
      | (go_at_call 70; (with_reducible refine Calls.mono (P1 _) ?_); rintro e w1 ⟨a1, c1, rfl, o1⟩; have d1 := below_more d0 o1.below; obtain ⟨y0, y1, y2, g0, g1, g2⟩ := (b1.more d1).cells3; have R := fun o => ((b1.more d1).alloc o).cells3; have u0 := fun o => (R o).1; have u1 := fun o => (R o).2.1; have u2 := fun o => (R o).2.2.1; have v0 := fun o => (R o).2.2.2.1; have v1 := fun o => (R o).2.2.2.2.1; have v2 := fun o => (R o).2.2.2.2.2; clear R))
    have bw := below_more bV d1
    have q := fun x y z o => (((b1.more d1).alloc o).set3 x y z).cells3
    have q0 := fun x y z o => (q x y z o).1
    have q1 := fun x y z o => (q x y z o).2.1
    have q2 := fun x y z o => (q x y z o).2.2.1
    exact bodyPost_ret (v := .tuple #[.agg #[.bool false, .slice none 0 0, .slice none 0 0], .int .i64 E1]) (by simp [results, Tryz.results37, go_sem, q0, q1, q2]) rfl (ansTE_no (below_set3 (bw.alloc bw.size _) (by omega) _ _ _))
  rw [hz] at P1
  rcases hc with ⟨rfl, hr⟩ | ⟨rfl, c, hr⟩
  · obtain ⟨e1, e2⟩ := par_none hz hr
    rw [e1, e2]
    have O := fun v => whole_of 1 v (by omega) (by omega)
    unfold AnsI at O
    rw [show decide ((1 : Int) < 0) = false from rfl, show (1 : Int).natAbs = 1 from rfl] at O
    have l1 : nl 1 ≤ 1 := nl_le 1 1 (by omega)
    have MK := fun v a1 c1 a2 c2 (p : IsWords v (.slice a1 (nl (znum (frontR s.data.toList)).natAbs) c1) (natOf (znum (frontR s.data.toList)).natAbs)) (p' : IsWords v (.slice a2 (nl 1) c2) (natOf 1)) => rat_make (s := decide (znum (frontR s.data.toList) < 0)) (t := false) p (wd_natOf _) p' (wd_natOf _) (by omega) (by omega)
    simp only [val_natOf] at MK
    generalize mkT (decide (znum (frontR s.data.toList) < 0)) (znum (frontR s.data.toList)).natAbs false 1 = tt at *
    generalize mkE 1 = EE at *
    obtain ⟨t0, tN, tD⟩ := tt
    unfold AnsTE at MK
    dsimp only at MK
    generalize znum (frontR s.data.toList) = Z at *
    generalize decide (Z < 0) = gZ at *
    generalize Z.natAbs = NZ at *
    generalize nl 1 = one at *
    clear hf lf lu lz lu2 e1 e2 hz P2 hr l1
    go_enter Tryz.func37, Tryz.ntmps37
    go_wp2_with (first
      | (go_at_call 69; (with_reducible refine Calls.mono (CU _) ?_); rintro e w0 ⟨rfl, d0⟩)
      | (go_at_call 70; (with_reducible refine Calls.mono (P1 _) ?_); rintro e w1 ⟨a1, c1, rfl, o1⟩))
    have d1 := below_more d0 o1.below
    have BN := BoxC.new w1 #[.bool gZ, .slice a1 (nl NZ) c1] 26
    have BR := (b1.more d1).alloc (.cells #[.bool gZ, .slice a1 (nl NZ) c1] 26)
    have o4 := (o1.outer (below_more bV d0)).alloc (.cells #[.bool gZ, .slice a1 (nl NZ) c1] 26)
    have hk3 : w.heap.size < w1.heap.size := (b1.more d1).lt
    clear o1 d0 d1 b1 bV hs CU P1
    generalize w1.heap.size = k3 at *
    generalize w1.alloc (.cells #[.bool gZ, .slice a1 (nl NZ) c1] 26) = V at *
    have SO := fun v (hb : Below V.heap.size V v) => (show v.cell? ⟨k3, 0, none⟩ = some (.bool gZ) ∧ v.cell? ⟨k3, 1, none⟩ = some (.slice a1 (nl NZ) c1) from ⟨(BN.more hb).cells2.1, (BN.more hb).cells2.2.1⟩)
    have SR := fun v (hb : Below V.heap.size V v) x0 x1 x2 => (show (((v.setCell ⟨w.heap.size, 0, none⟩ x0).setCell ⟨w.heap.size, 1, none⟩ x1).setCell ⟨w.heap.size, 2, none⟩ x2).cell? ⟨k3, 0, none⟩ = some (.bool gZ) ∧ (((v.setCell ⟨w.heap.size, 0, none⟩ x0).setCell ⟨w.heap.size, 1, none⟩ x1).setCell ⟨w.heap.size, 2, none⟩ x2).cell? ⟨k3, 1, none⟩ = some (.slice a1 (nl NZ) c1) from ⟨(((((BN.more hb).other (by omega) _).other (by omega) _).other (by omega) _)).cells2.1, (((((BN.more hb).other (by omega) _).other (by omega) _).other (by omega) _)).cells2.2.1⟩)
    have bs : Below V.heap.size V V.drew := (Below.refl _ _).drew
    clear BN
    go_region_held3 (fun v => v.cell? ⟨k3, 0, none⟩ = some (.bool gZ) ∧ v.cell? ⟨k3, 1, none⟩ = some (.slice a1 (nl NZ) c1))
      (first | with_reducible exact SO _ bs | with_reducible exact SR _ bs _ _ _)
      (first
      | (go_at_call 53; (with_reducible refine Calls.mono (O _) ?_); rintro e w2 ⟨a2, c2, rfl, o2⟩; replace bs := below_more bs o2.below)
      | (go_at_call 13; (with_reducible refine Calls.mono (MK _ _ _ _ _ (o4.more bs).words o2.words) ?_); rintro e w9 ⟨a8, c8, a9, c9, rfl, o8, o9⟩; have d9 := o8.below; replace o8 := o8.outer (below_more o4.below bs); replace o9 := o9.outer (below_more o4.below bs); replace bs := below_more bs d9; obtain ⟨y0, y1, y2, g0, g1, g2⟩ := (BR.more bs).cells3))
    all_goals
      go_wp2
      exact bodyPost_ret (v := .tuple #[.agg #[.bool t0, .slice a8 (nl tN) c8, .slice a9 (nl tD) c9], .int .i64 EE]) (by simp [results, Tryz.results37, go_sem, y0, y1, y2]) rfl (ansTE_mk (o8.box3 (BR.more bs) rat_ne_u32 (by omega) _ _ _) (o9.box3 (BR.more bs) rat_ne_u32 (by omega) _ _ _))
  · by_cases hp : perr u.data.toList = 0
    case neg =>
      obtain ⟨e1, e2⟩ := par_rest hz hr hp
      rw [e1, e2]
      have hp2 : (perr u.data.toList == 0) = false := by simpa using hp
      generalize perr u.data.toList = E1 at *
      generalize pnum u.data.toList = NP at *
      generalize znum (frontR s.data.toList) = Z at *
      generalize decide (Z < 0) = gZ at *
      generalize Z.natAbs = NZ at *
      clear hf lf lu lz lu2 e1 e2 hz hp hr
      go_enter Tryz.func37, Tryz.ntmps37
      go_wp2_with (first
        | (go_at_call 69; (with_reducible refine Calls.mono (CU _) ?_); rintro e w0 ⟨rfl, d0⟩)
        | (go_at_call 70; (with_reducible refine Calls.mono (P1 _) ?_); rintro e w1 ⟨a1, c1, rfl, o1⟩; have d1 := below_more d0 o1.below; have bw := fun o => (below_more bV d1).alloc (below_more bV d1).size o; have BW := fun o => (b1.more d1).alloc o)
        | (go_at_call 71; (with_reducible refine Calls.mono (P2 _) ?_); rintro e w2 ⟨a2, c2, rfl, o2⟩; have d2 := o2.below; obtain ⟨y0, y1, y2, g0, g1, g2⟩ := ((BW _).more d2).cells3))
      exact bodyPost_ret (v := .tuple #[.agg #[.bool false, .slice none 0 0, .slice none 0 0], .int .i64 E1]) (by simp [results, Tryz.results37, go_sem, y0, y1, y2]) rfl (ansTE_no (below_set3 (below_more (bw _) d2) (by omega) _ _ _))
    obtain ⟨e1, e2⟩ := par_both hz hr hp
    rw [e1, e2]
    rw [hp] at P2
    have MK := fun v a1 c1 a2 c2 (p : IsWords v (.slice a1 (nl (znum (frontR s.data.toList)).natAbs) c1) (natOf (znum (frontR s.data.toList)).natAbs)) (p' : IsWords v (.slice a2 (nl (pnum u.data.toList)) c2) (natOf (pnum u.data.toList))) => rat_make (s := decide (znum (frontR s.data.toList) < 0)) (t := false) p (wd_natOf _) p' (wd_natOf _) (by omega) (by omega)
    simp only [val_natOf] at MK
    generalize mkT (decide (znum (frontR s.data.toList) < 0)) (znum (frontR s.data.toList)).natAbs false (pnum u.data.toList) = tt at *
    generalize mkE (pnum u.data.toList) = EE at *
    obtain ⟨t0, tN, tD⟩ := tt
    unfold AnsTE at MK
    dsimp only at MK
    generalize pnum u.data.toList = NP at *
    generalize znum (frontR s.data.toList) = Z at *
    generalize decide (Z < 0) = gZ at *
    generalize Z.natAbs = NZ at *
    clear hf lf lu lz lu2 e1 e2 hz hp hr
    go_enter Tryz.func37, Tryz.ntmps37
    go_wp2_with (first
      | (go_at_call 69; (with_reducible refine Calls.mono (CU _) ?_); rintro e w0 ⟨rfl, d0⟩)
      | (go_at_call 70; (with_reducible refine Calls.mono (P1 _) ?_); rintro e w1 ⟨a1, c1, rfl, o1⟩; have d1 := below_more d0 o1.below; have o3 := o1.outer (below_more bV d0); have bw := fun o => (below_more bV d1).alloc (below_more bV d1).size o; have BW := fun o => (b1.more d1).alloc o; have BN := BoxC.new w1 #[.bool gZ, .slice a1 (nl NZ) c1] 26)
      | (go_at_call 71; (with_reducible refine Calls.mono (P2 _) ?_); rintro e w2 ⟨a2, c2, rfl, o2⟩; have d2 := o2.below; obtain ⟨x0, x1, -, -⟩ := (BN.more d2).cells2)
      | (go_at_call 13; (with_reducible refine Calls.mono (MK _ _ _ _ _ ((o3.alloc _).more d2).words o2.words) ?_); rintro e w9 ⟨a8, c8, a9, c9, rfl, o8, o9⟩; have d9 := o8.below; replace o8 := o8.outer (below_more (bw _) d2); replace o9 := o9.outer (below_more (bw _) d2); have BR := ((BW _).more d2).more d9; obtain ⟨y0, y1, y2, g0, g1, g2⟩ := BR.cells3))
    exact bodyPost_ret (v := .tuple #[.agg #[.bool t0, .slice a8 (nl tN) c8, .slice a9 (nl tD) c9], .int .i64 EE]) (by simp [results, Tryz.results37, go_sem, y0, y1, y2]) rfl (ansTE_mk (o8.box3 (BR) rat_ne_u32 (by omega) _ _ _) (o9.box3 (BR) rat_ne_u32 (by omega) _ _ _))

/-- Package ratio keeps its contracts. -/
theorem ratio_ok : RatioOk where
  right := fun h hx k hy hn hm q hq r hr => rat_right h hx k hy hn hm q hq r hr
  fix := fun h => rat_fix h
  make := fun h hx k hy hn hm => rat_make h hx k hy hn hm
  of := rat_of
  neg := fun h z hz => rat_neg h z hz
  add := fun h g z hz => rat_add h g z hz
  sub := fun h g z hz => rat_sub h g z hz
  mul := fun h g z hz => rat_mul h g z hz
  div := fun h g => rat_div h g
  cmp := fun h g z hz => rat_cmp h g z hz
  same := fun h g z hz => rat_same h g z hz
  pow := fun h hk i i0 i1 hi => rat_pow h hk i i0 i1 hi
  parse := rat_parse
  print := fun h => rat_print h
end Go.Proofs.YtpimcbncmfpdhaaGreatDoor
/-
  The eight statements over rational numbers, out of package ratio's contracts. Memory that was there stays.
-/
namespace Go.Proofs.YtpimcbncmfpdhaaGreatDoor
open Go.RowKit

theorem law_RatioOrder (s0 : Bool) (a0 : Option Addr) (len0 cap0 : Nat) (z0 : List Int) (b0 : Option Addr) (m0 e0 : Nat) (y0 : List Int) (s1 : Bool) (a1 : Option Addr) (len1 cap1 : Nat) (z1 : List Int) (b1 : Option Addr) (m1 e1 : Nat) (y1 : List Int) (s2 : Bool) (a2 : Option Addr) (len2 cap2 : Nat) (z2 : List Int) (b2 : Option Addr) (m2 e2 : Nat) (y2 : List Int) (w : World) (w0 : CameIn .u32 w a0 len0 cap0 z0) (x0 : CameIn .u32 w b0 m0 e0 y0) (w1 : CameIn .u32 w a1 len1 cap1 z1) (x1 : CameIn .u32 w b1 m1 e1 y1) (w2 : CameIn .u32 w a2 len2 cap2 z2) (x2 : CameIn .u32 w b2 m2 e2 y2) :
    Calls Tryz.prog 7 #[.agg #[.bool s0, .slice a0 len0 cap0, .slice b0 m0 e0], .agg #[.bool s1, .slice a1 len1 cap1, .slice b1 m1 e1], .agg #[.bool s2, .slice a2 len2 cap2, .slice b2 m2 e2]] w fun e w' => e = .returned (.bool true) ∧ Below w.heap.size w w' := walk_RatioOrder ratio_ok s0 a0 len0 cap0 z0 b0 m0 e0 y0 s1 a1 len1 cap1 z1 b1 m1 e1 y1 s2 a2 len2 cap2 z2 b2 m2 e2 y2 w w0 x0 w1 x1 w2 x2
theorem law_RatioBetween (s0 : Bool) (a0 : Option Addr) (len0 cap0 : Nat) (z0 : List Int) (b0 : Option Addr) (m0 e0 : Nat) (y0 : List Int) (s1 : Bool) (a1 : Option Addr) (len1 cap1 : Nat) (z1 : List Int) (b1 : Option Addr) (m1 e1 : Nat) (y1 : List Int) (s2 : Bool) (a2 : Option Addr) (len2 cap2 : Nat) (z2 : List Int) (b2 : Option Addr) (m2 e2 : Nat) (y2 : List Int) (w : World) (w0 : CameIn .u32 w a0 len0 cap0 z0) (x0 : CameIn .u32 w b0 m0 e0 y0) (w1 : CameIn .u32 w a1 len1 cap1 z1) (x1 : CameIn .u32 w b1 m1 e1 y1) (w2 : CameIn .u32 w a2 len2 cap2 z2) (x2 : CameIn .u32 w b2 m2 e2 y2) :
    Calls Tryz.prog 9 #[.agg #[.bool s0, .slice a0 len0 cap0, .slice b0 m0 e0], .agg #[.bool s1, .slice a1 len1 cap1, .slice b1 m1 e1], .agg #[.bool s2, .slice a2 len2 cap2, .slice b2 m2 e2]] w fun e w' => e = .returned (.bool true) ∧ Below w.heap.size w w' := walk_RatioBetween ratio_ok s0 a0 len0 cap0 z0 b0 m0 e0 y0 s1 a1 len1 cap1 z1 b1 m1 e1 y1 s2 a2 len2 cap2 z2 b2 m2 e2 y2 w w0 x0 w1 x1 w2 x2
theorem law_RatioReckons (s0 : Bool) (a0 : Option Addr) (len0 cap0 : Nat) (z0 : List Int) (b0 : Option Addr) (m0 e0 : Nat) (y0 : List Int) (s1 : Bool) (a1 : Option Addr) (len1 cap1 : Nat) (z1 : List Int) (b1 : Option Addr) (m1 e1 : Nat) (y1 : List Int) (w : World) (w0 : CameIn .u32 w a0 len0 cap0 z0) (x0 : CameIn .u32 w b0 m0 e0 y0) (w1 : CameIn .u32 w a1 len1 cap1 z1) (x1 : CameIn .u32 w b1 m1 e1 y1) :
    Calls Tryz.prog 4 #[.agg #[.bool s0, .slice a0 len0 cap0, .slice b0 m0 e0], .agg #[.bool s1, .slice a1 len1 cap1, .slice b1 m1 e1]] w fun e w' => e = .returned (.bool true) ∧ Below w.heap.size w w' := walk_RatioReckons ratio_ok s0 a0 len0 cap0 z0 b0 m0 e0 y0 s1 a1 len1 cap1 z1 b1 m1 e1 y1 w w0 x0 w1 x1
theorem law_RatioTells (s0 : Bool) (a0 : Option Addr) (len0 cap0 : Nat) (z0 : List Int) (b0 : Option Addr) (m0 e0 : Nat) (y0 : List Int) (s1 : Bool) (a1 : Option Addr) (len1 cap1 : Nat) (z1 : List Int) (s2 : Bool) (a2 : Option Addr) (len2 cap2 : Nat) (z2 : List Int) (a3 : Int) (w : World) (w0 : CameIn .u32 w a0 len0 cap0 z0) (x0 : CameIn .u32 w b0 m0 e0 y0) (w1 : CameIn .u32 w a1 len1 cap1 z1) (w2 : CameIn .u32 w a2 len2 cap2 z2) (w3 : (Lit.int .i64 a3).wf = true) :
    Calls Tryz.prog 3 #[.agg #[.bool s0, .slice a0 len0 cap0, .slice b0 m0 e0], .agg #[.bool s1, .slice a1 len1 cap1], .agg #[.bool s2, .slice a2 len2 cap2], .int .i64 a3] w fun e w' => e = .returned (.bool true) ∧ Below w.heap.size w w' := walk_RatioTells ratio_ok s0 a0 len0 cap0 z0 b0 m0 e0 y0 s1 a1 len1 cap1 z1 s2 a2 len2 cap2 z2 a3 w w0 x0 w1 w2 w3
theorem law_RatioTerms (s0 : Bool) (a0 : Option Addr) (len0 cap0 : Nat) (z0 : List Int) (b0 : Option Addr) (m0 e0 : Nat) (y0 : List Int) (a1 : Option Addr) (len1 cap1 : Nat) (z1 : List Int) (w : World) (w0 : CameIn .u32 w a0 len0 cap0 z0) (x0 : CameIn .u32 w b0 m0 e0 y0) (w1 : CameIn .u32 w a1 len1 cap1 z1) :
    Calls Tryz.prog 10 #[.agg #[.bool s0, .slice a0 len0 cap0, .slice b0 m0 e0], .slice a1 len1 cap1] w fun e w' => e = .returned (.bool true) ∧ Below w.heap.size w w' := walk_RatioTerms ratio_ok s0 a0 len0 cap0 z0 b0 m0 e0 y0 a1 len1 cap1 z1 w w0 x0 w1
theorem law_RatioPowers (s0 : Bool) (a0 : Option Addr) (len0 cap0 : Nat) (z0 : List Int) (b0 : Option Addr) (m0 e0 : Nat) (y0 : List Int) (a1 a2 a3 : Int) (w : World) (w0 : CameIn .u32 w a0 len0 cap0 z0) (x0 : CameIn .u32 w b0 m0 e0 y0) (w1 : (Lit.int .i64 a1).wf = true) (w2 : (Lit.int .u8 a2).wf = true) (w3 : (Lit.int .u8 a3).wf = true) :
    Calls Tryz.prog 5 #[.agg #[.bool s0, .slice a0 len0 cap0, .slice b0 m0 e0], .int .i64 a1, .int .u8 a2, .int .u8 a3] w fun e w' => e = .returned (.bool true) ∧ Below w.heap.size w w' := walk_RatioPowers ratio_ok s0 a0 len0 cap0 z0 b0 m0 e0 y0 a1 a2 a3 w w0 x0 w1 w2 w3
theorem law_RatioTexts (s : ByteArray) (s1 : Bool) (a1 : Option Addr) (len1 cap1 : Nat) (z1 : List Int) (b1 : Option Addr) (m1 e1 : Nat) (y1 : List Int) (w : World) (hs : s.size ≤ maxLen) (w1 : CameIn .u32 w a1 len1 cap1 z1) (x1 : CameIn .u32 w b1 m1 e1 y1) :
    Calls Tryz.prog 6 #[.string s, .agg #[.bool s1, .slice a1 len1 cap1, .slice b1 m1 e1]] w fun e w' => e = .returned (.bool true) ∧ Below w.heap.size w w' := walk_RatioTexts ratio_ok s s1 a1 len1 cap1 z1 b1 m1 e1 y1 w hs w1 x1
theorem law_RatioBack (s0 : Bool) (a0 : Option Addr) (len0 cap0 : Nat) (z0 : List Int) (b0 : Option Addr) (m0 e0 : Nat) (y0 : List Int) (s1 : Bool) (a1 : Option Addr) (len1 cap1 : Nat) (z1 : List Int) (b1 : Option Addr) (m1 e1 : Nat) (y1 : List Int) (w : World) (w0 : CameIn .u32 w a0 len0 cap0 z0) (x0 : CameIn .u32 w b0 m0 e0 y0) (w1 : CameIn .u32 w a1 len1 cap1 z1) (x1 : CameIn .u32 w b1 m1 e1 y1) :
    Calls Tryz.prog 8 #[.agg #[.bool s0, .slice a0 len0 cap0, .slice b0 m0 e0], .agg #[.bool s1, .slice a1 len1 cap1, .slice b1 m1 e1]] w fun e w' => e = .returned (.bool true) ∧ Below w.heap.size w w' := walk_RatioBack ratio_ok s0 a0 len0 cap0 z0 b0 m0 e0 y0 s1 a1 len1 cap1 z1 b1 m1 e1 y1 w w0 x0 w1 x1
end Go.Proofs.YtpimcbncmfpdhaaGreatDoor
/-
  Laws of no function: how an Int, and a Rat, that came in reads: a bool, and slices of words. No conditions of the program.
-/
namespace Go.Proofs.YtpimcbncmfpdhaaGreatDoor
open Go.ChangeShapes Go.WideShapes Go.ChangeAt Go.RowKit Go.Joins

theorem open_row {H : Type} {enc : TypeId × Value → H} {W : World} {fuel : Nat} {v : Value} {y : DataW H × List MemPlace} (h : DataW.trod enc Tryz.prog W 0 (fun _ => true) true fuel 22 [v] = some y) :
    ∃ a len cap zs, v = .slice a len cap ∧ CameIn .u32 W a len cap zs := by
  rcases open_ints Tryz.underlying22 Tryz.underlying62 (by kernel_rfl) h with ⟨hcs, _⟩ | ⟨x, l, c, zs, hcs, _, hl, hm, hz, _, hcell, hwz⟩
  · exact ⟨none, 0, 0, [], by simpa using hcs, .inl ⟨rfl, rfl, rfl, rfl⟩⟩
  · exact ⟨some x, l, c, zs, by simpa using hcs, .inr ⟨x, rfl, hl, hm, by simpa using hz, hcell, hwz⟩⟩

set_option maxRecDepth 100000 in
theorem open_Int {H : Type} {enc : TypeId × Value → H} {W : World} {base : Nat} {v : Value} {d : DataW H} {p : List MemPlace} (hv : Value.okWide Tryz.prog W .any base 26 v) (h : DataW.Trod enc Tryz.prog W 0 (fun _ => true) true 26 v d p) :
    ∃ s a len cap zs, v = .agg #[.bool s, .slice a len cap] ∧ CameIn .u32 W a len cap zs := by
  obtain ⟨c0, c1, y0, y1, m, rfl, -, -, h0, h1⟩ := open_agg2 Tryz.underlying26 (by kernel_rfl) (by kernel_rfl) hv h
  obtain ⟨s, e0, -⟩ := DataW.trod_bool Tryz.underlying4 h0
  obtain ⟨a, len, cap, zs, e1, hc⟩ := open_row h1
  refine ⟨s, a, len, cap, zs, ?_, hc⟩
  rw [e1, show c0 = .bool s by simpa using e0]

set_option maxRecDepth 100000 in
theorem open_Rat {H : Type} {enc : TypeId × Value → H} {W : World} {base : Nat} {v : Value} {d : DataW H} {p : List MemPlace} (hv : Value.okWide Tryz.prog W .any base 24 v) (h : DataW.Trod enc Tryz.prog W 0 (fun _ => true) true 24 v d p) :
    ∃ s a len cap zs b len' cap' zs', v = .agg #[.bool s, .slice a len cap, .slice b len' cap'] ∧ CameIn .u32 W a len cap zs ∧ CameIn .u32 W b len' cap' zs' := by
  obtain ⟨c0, c1, c2, y0, y1, y2, m, rfl, -, -, h0, h1, h2⟩ := open_agg3 Tryz.underlying24 (by kernel_rfl) (by kernel_rfl) hv h
  obtain ⟨s, e0, -⟩ := DataW.trod_bool Tryz.underlying4 h0
  obtain ⟨a, len, cap, zs, e1, hc⟩ := open_row h1
  obtain ⟨b, len', cap', zs', e2, hc2⟩ := open_row h2
  refine ⟨s, a, len, cap, zs, b, len', cap', zs', ?_, hc, hc2⟩
  rw [e1, e2, show c0 = .bool s by simpa using e0]
end Go.Proofs.YtpimcbncmfpdhaaGreatDoor
