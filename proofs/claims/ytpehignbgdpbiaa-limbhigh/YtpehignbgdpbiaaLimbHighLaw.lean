/-
  The walk of the statement LimbHigh: for every word, every list of words and every small number it returns true; memory that was there stays.
-/
import Derived.Test.YtpehignbgdpbiaaLimbLawsB
import Derived.Test.YtpehignbgdpbiaaWords
namespace Go.Proofs.Ytpehignbgdpbiaa
open Go.RowKit

theorem IsWords.reads {w : World} {a : Option Addr} {n c : Nat} {zs : List Int} (h : IsWords w (.slice a n c) zs) : Reads .u32 w a n zs ∧ n ≤ 9223372036854775807 := by
  rcases h with ⟨e, rfl⟩ | ⟨x, cap, e, h1, h2, hc⟩
  · simp only [Value.slice.injEq] at e
    obtain ⟨rfl, rfl, rfl⟩ := e
    exact ⟨⟨rfl, .inl rfl⟩, by omega⟩
  · simp only [Value.slice.injEq] at e
    obtain ⟨rfl, rfl, rfl⟩ := e
    refine ⟨⟨rfl, ?_⟩, by unfold maxLen at h2; omega⟩
    by_cases h0 : zs.length = 0
    · exact .inl h0
    · obtain ⟨b, off, rfl, hc'⟩ := Go.ints_at hc (by omega)
      exact .inr ⟨b, off, rfl, hc'⟩

theorem came_words {w : World} {a : Option Addr} {len cap : Nat} {zs : List Int} (h : CameIn .u32 w a len cap zs) : IsWords w (.slice a len cap) (zs.take len) := by
  rcases h with ⟨rfl, rfl, rfl, rfl⟩ | ⟨x, rfl, hl, hm, hz, hc, hw⟩
  · exact .inl ⟨rfl, rfl⟩
  · have e : (zs.take len).length = len := by simp; omega
    refine .inr ⟨x, cap, by rw [e], by omega, hm, fun i hi => ?_⟩
    rw [e] at hi
    rw [hc i (by omega)]
    simp [List.getD_eq_getElem?_getD, hi]

/-- limb.Low of whatever reads as words. -/
theorem limb_low_words (a : Option Addr) (n cap : Nat) (zs : List Int) (w : World) (h : IsWords w (.slice a n cap) zs) :
    Calls Try.prog 21 #[.slice a n cap] w fun e w' => e = .returned (.int .i64 (lowN zs n)) ∧ w = w' :=
  limb_low a n cap zs w h.reads.1 h.reads.2

theorem lowN_append (zs ys : List Int) : ∀ n, n ≤ zs.length → lowN (zs ++ ys) n = lowN zs n
  | 0, _ => rfl
  | n + 1, h => by
    have e : (zs ++ ys).getD n 0 = zs.getD n 0 := by
      simp [List.getD_eq_getElem?_getD, List.getElem?_append, show n < zs.length by omega]
    simp only [lowN, e, lowN_append zs ys n (by omega)]

theorem lowN_zeros (zs : List Int) (k : Nat) : ∀ j, j ≤ k → lowN (zs ++ List.replicate k 0) (zs.length + j) = lowN zs zs.length
  | 0, _ => lowN_append zs _ _ (Nat.le_refl _)
  | j + 1, h => by
    have e : (zs ++ List.replicate k (0 : Int)).getD (zs.length + j) 0 = 0 := by
      rw [List.getD_eq_getElem?_getD, List.getElem?_append_right (by omega)]
      simp [show j < k by omega]
    rw [← Nat.add_assoc, lowN_zero e, lowN_zeros zs k j (by omega)]

theorem lowN_last (zs : List Int) (x : Int) (hx : x ≠ 0) : lowN (zs ++ [x]) (zs.length + 1) = zs.length + 1 :=
  lowN_keep (by simpa [List.getD_eq_getElem?_getD] using hx)

theorem lowN_top (zs : List Int) : ∀ n, lowN zs n = 0 ∨ zs.getD (lowN zs n - 1) 0 ≠ 0
  | 0 => .inl rfl
  | n + 1 => by
    by_cases h : zs.getD n 0 = 0
    · rw [lowN_zero h]; exact lowN_top zs n
    · rw [lowN_keep h]; exact .inr (by simpa using h)

theorem lowN_again (zs : List Int) (n : Nat) : lowN zs (lowN zs n) = lowN zs n := by
  rcases lowN_top zs n with h | h
  · rw [h]; rfl
  · match hm : lowN zs n with
    | 0 => rfl
    | m + 1 => rw [hm] at h; exact lowN_keep (by simpa using h)

theorem lowN_take (zs : List Int) (k : Nat) : ∀ n, n ≤ k → lowN (zs.take k) n = lowN zs n
  | 0, _ => rfl
  | n + 1, h => by
    have e : (zs.take k).getD n 0 = zs.getD n 0 := by
      simp [List.getD_eq_getElem?_getD, show n < k by omega]
    simp only [lowN, e, lowN_take zs k n (by omega)]

theorem bits_double (a : Int) (h0 : 0 ≤ a) (h : Lib.bitLen a.toNat < 32) (h1 : a < 4294967296) : 2 * a + 1 < 4294967296 ∧ Lib.bitLen (2 * a + 1).toNat = Lib.bitLen a.toNat + 1 := by
  have hlt : a < 2147483648 := by
    by_cases hc : a < 2147483648
    · exact hc
    · exfalso
      have := Lib.bitLen_shift 31 a.toNat (by omega) (by omega)
      have e : a.toNat / 2 ^ 31 = 1 := by omega
      rw [e] at this
      have e1 : Lib.bitLen 1 = 1 := rfl
      omega
  refine ⟨by omega, ?_⟩
  rw [Lib.bitLen_half _ (by omega) (by omega), show (2 * a + 1).toNat / 2 = a.toNat by omega]
  omega
set_option maxHeartbeats 2000000 in
theorem law_LimbHigh (a : Int) (s : Option Addr) (len cap : Nat) (zs : List Int) (m : Int) (w : World) (h0 : (Lit.int .u32 a).wf = true) (h1 : CameIn .u32 w s len cap zs) (h2 : (Lit.int .u8 m).wf = true) :
    Calls Try.prog 9 #[.int .u32 a, .slice s len cap, .int .u8 m] w fun e w' => e = .returned (.bool true) ∧ Below w.heap.size w w' := by
  obtain ⟨a0, a1⟩ := wf_u32 h0
  obtain ⟨m0, m1⟩ := bounds_u8 h2
  have hw : IsWords w (.slice s len cap) (zs.take len) := came_words h1
  have hlen : (zs.take len).length = len := (came_reads h1).1.1
  have hcap : len ≤ cap := (came_reads h1).2.2.1
  clear h0 h2
  by_cases h100 : 100 < len
  · go_enter Try.func9, Try.ntmps9
    go_wp2_with (go_at_call 10; refine (limb_awake _).mono ?_; rintro e w0 ⟨rfl, x0⟩)
    go_ret
    exact ⟨rfl, x0⟩
  · obtain ⟨L, hL⟩ : ∃ L, lowN (zs.take len) len = L := ⟨_, rfl⟩
    have hLl : L ≤ len := by rw [← hL]; exact lowN_le _ _
    obtain ⟨n, hn⟩ : ∃ n, Lib.bitLen a.toNat = n := ⟨_, rfl⟩
    have hn32 : n ≤ 32 := by rw [← hn]; exact Lib.bitLen_le _ 32 (by omega) (by omega)
    have L1 : ∀ v, Below w.heap.size w v → Calls Try.prog 21 #[.slice s len cap] v fun e w' => e = .returned (.int .i64 L) ∧ v = w' := fun v b => by
      rw [← hL]; exact limb_low_words s len cap _ v (hw.below b)
    have L2 : ∀ a c v, Own w v (.slice a (len + m.toNat) c) (len + m.toNat) (zs.take len ++ List.replicate m.toNat 0) → Calls Try.prog 21 #[.slice a (len + m.toNat) c] v fun e w' => e = .returned (.int .i64 L) ∧ v = w' := fun a c v o => by
      have e := lowN_zeros (zs.take len) m.toNat m.toNat (Nat.le_refl _)
      rw [hlen, hL] at e
      rw [← e]; exact limb_low_words _ _ _ _ v o.words
    have L4 : ∀ a c v, Own w v (.slice a (len + m.toNat + 1) c) (len + m.toNat + 1) (zs.take len ++ List.replicate m.toNat 0 ++ [7]) → Calls Try.prog 21 #[.slice a (len + m.toNat + 1) c] v fun e w' => e = .returned (.int .i64 (len + m.toNat + 1 : Nat)) ∧ v = w' := fun a c v o => by
      have e := lowN_last (zs.take len ++ List.replicate m.toNat 0) 7 (by decide)
      rw [List.length_append, hlen, List.length_replicate] at e
      have := limb_low_words _ _ _ _ v o.words
      rw [e] at this
      exact this
    have B1 : ∀ v, Calls Try.prog 19 #[.int .u32 a] v fun e w' => e = .returned (.int .i64 n) ∧ v = w' := fun v => by
      rw [← hn]; exact limb_bits a v a0 a1
    have HL : Hid (lowN (zs.take len) len = L) := hL
    by_cases hn1 : n < 32
    · obtain ⟨d1, d2⟩ := bits_double a a0 (by omega) a1
      have B2 : ∀ v, Calls Try.prog 19 #[.int .u32 (2 * a + 1)] v fun e w' => e = .returned (.int .i64 ((n : Int) + 1)) ∧ v = w' := fun v => by
        have := limb_bits (2 * a + 1) v (by omega) d1
        rw [d2, hn] at this
        exact this
      clear hn hL d2
      by_cases hL0 : L = 0
      · clear h1
        have L3 : ∀ v, Below w.heap.size w v → Calls Try.prog 21 #[.slice s 0 cap] v fun e w' => e = .returned (.int .i64 0) ∧ v = w' := fun v _ => limb_low s 0 cap [] v ⟨rfl, .inl rfl⟩ (by omega)
        go_enter Try.func9, Try.ntmps9
        go_wp2_with (first
          | (go_at_call 10; refine (limb_awake _).mono ?_; rintro e w0 ⟨rfl, x0⟩)
          | (go_at_call 19; with_reducible refine Calls.mono (B1 _) ?_; rintro e w1 ⟨rfl, rfl⟩)
          | (go_at_call 19; with_reducible refine Calls.mono (B2 _) ?_; rintro e w1 ⟨rfl, rfl⟩)
          | (go_at_call 21; with_reducible refine Calls.mono (L1 _ x0) ?_; rintro e w1 ⟨rfl, rfl⟩)
          | (at_builtin; refine wpl_append_words (.tmp 20) (.tmp 21) rfl rfl w _ _ _ 0 len [] (zs.take len) rfl rfl (own_lit w w0 [] 0 x0 rfl (by decide)) ((hw.below x0).below ((Below.refl _ _).alloc (Nat.le_refl _) _)) hlen len (Nat.zero_add _) (by omega) ?_; intro a1 c1 w1 o1 g1)
          | (at_builtin; refine wpl_append_zeros (.tmp 22) (.tmp 24) rfl rfl w _ _ len m.toNat (zs.take len) _ rfl rfl (by omega) o1 (len + m.toNat) rfl (by omega) ?_; intro a2 c2 w2 o2 g2)
          | (go_at_call 21; with_reducible refine Calls.mono (L2 _ _ _ o2) ?_; rintro e w3 ⟨rfl, rfl⟩)
          | (go_at_call 21; with_reducible refine Calls.mono (L3 _ o2.below) ?_; rintro e w3 ⟨rfl, rfl⟩)
          | (at_builtin; refine wpl_append_words (.tmp 83) (.tmp 84) rfl rfl w _ _ _ (len + m.toNat) 1 (zs.take len ++ List.replicate m.toNat 0) [7] rfl rfl (o2.alloc _) (lit_words w2 [7] 1 rfl (by decide)) rfl (len + m.toNat + 1) rfl (by omega) ?_; intro a4 c4 w4 o4 g4)
          | (go_at_call 21; with_reducible refine Calls.mono (L4 _ _ _ o4) ?_; rintro e w5 ⟨rfl, rfl⟩))
        go_ret
        exact ⟨rfl, o4.below⟩
      · obtain ⟨K, rfl⟩ : ∃ K, L = K + 1 := ⟨L - 1, by omega⟩
        obtain ⟨b, off, rfl, hc⟩ : ∃ b off, s = some ⟨b, off, none⟩ ∧ ∀ i, i < len → w.cell? ⟨b, off + i, none⟩ = some (.int .u32 ((zs.take len).getD i 0)) := by
          rcases (came_reads h1).1.2 with h | h
          · omega
          · exact h
        clear h1 hL0
        have hz : (zs.take len).getD K 0 ≠ 0 := by
          rcases lowN_top (zs.take len) len with h | h
          · rw [HL.out] at h; omega
          · rw [HL.out] at h; simpa using h
        have L3 : ∀ v, Below w.heap.size w v → Calls Try.prog 21 #[.slice (some ⟨b, off, none⟩) (K + 1) cap] v fun e w' => e = .returned (.int .i64 (K + 1 : Nat)) ∧ v = w' := fun v bl => by
          have r : Reads .u32 w (some ⟨b, off, none⟩) (K + 1) ((zs.take len).take (K + 1)) := by
            refine ⟨by rw [List.length_take]; omega, .inr ⟨b, off, rfl, fun i hi => ?_⟩⟩
            rw [hc i (by omega)]
            simp [List.getD_eq_getElem?_getD, hi, show i < len by omega]
          have q := limb_low _ _ cap _ v (r.below bl) (by omega)
          rw [lowN_take _ _ _ (Nat.le_refl _), lowN_keep hz] at q
          exact q
        have hck := hc K (by omega)
        clear hc
        generalize (zs.take len).getD K 0 = z at hck hz
        have hz' : (z == 0) = false := by simpa using hz
        have hz2 : (z != 0) = true := by simpa using hz
        clear hz
        have hck' : ∀ v, Below w.heap.size w v → v.cell? ⟨b, off + K, none⟩ = some (.int .u32 z) := fun v bl => by
          rw [bl.cell (p := ⟨b, off + K, none⟩) (World.block_lt_of_cell? w _ hck)]; exact hck
        go_enter Try.func9, Try.ntmps9
        go_wp2_with (first
          | (go_at_call 10; refine (limb_awake _).mono ?_; rintro e w0 ⟨rfl, x0⟩)
          | (go_at_call 19; with_reducible refine Calls.mono (B1 _) ?_; rintro e w1 ⟨rfl, rfl⟩)
          | (go_at_call 19; with_reducible refine Calls.mono (B2 _) ?_; rintro e w1 ⟨rfl, rfl⟩)
          | (go_at_call 21; with_reducible refine Calls.mono (L1 _ x0) ?_; rintro e w1 ⟨rfl, rfl⟩)
          | (at_builtin; refine wpl_append_words (.tmp 20) (.tmp 21) rfl rfl w _ _ _ 0 len [] (zs.take len) rfl rfl (own_lit w w0 [] 0 x0 rfl (by decide)) ((hw.below x0).below ((Below.refl _ _).alloc (Nat.le_refl _) _)) hlen len (Nat.zero_add _) (by omega) ?_; intro a1 c1 w1 o1 g1)
          | (at_builtin; refine wpl_append_zeros (.tmp 22) (.tmp 24) rfl rfl w _ _ len m.toNat (zs.take len) _ rfl rfl (by omega) o1 (len + m.toNat) rfl (by omega) ?_; intro a2 c2 w2 o2 g2)
          | (go_at_call 21; with_reducible refine Calls.mono (L2 _ _ _ o2) ?_; rintro e w3 ⟨rfl, rfl⟩)
          | (go_at_call 21; with_reducible refine Calls.mono (L3 _ o2.below) ?_; rintro e w3 ⟨rfl, rfl⟩; have hk2 := hck' _ o2.below)
          | (at_builtin; refine wpl_append_words (.tmp 83) (.tmp 84) rfl rfl w _ _ _ (len + m.toNat) 1 (zs.take len ++ List.replicate m.toNat 0) [7] rfl rfl (o2.alloc _) (lit_words w2 [7] 1 rfl (by decide)) rfl (len + m.toNat + 1) rfl (by omega) ?_; intro a4 c4 w4 o4 g4)
          | (go_at_call 21; with_reducible refine Calls.mono (L4 _ _ _ o4) ?_; rintro e w5 ⟨rfl, rfl⟩))
        go_ret
        exact ⟨rfl, o4.below⟩
    · have B2 : Hid True := trivial
      clear hn hL
      by_cases hL0 : L = 0
      · clear h1
        have L3 : ∀ v, Below w.heap.size w v → Calls Try.prog 21 #[.slice s 0 cap] v fun e w' => e = .returned (.int .i64 0) ∧ v = w' := fun v _ => limb_low s 0 cap [] v ⟨rfl, .inl rfl⟩ (by omega)
        go_enter Try.func9, Try.ntmps9
        go_wp2_with (first
          | (go_at_call 10; refine (limb_awake _).mono ?_; rintro e w0 ⟨rfl, x0⟩)
          | (go_at_call 19; with_reducible refine Calls.mono (B1 _) ?_; rintro e w1 ⟨rfl, rfl⟩)
          | (go_at_call 21; with_reducible refine Calls.mono (L1 _ x0) ?_; rintro e w1 ⟨rfl, rfl⟩)
          | (at_builtin; refine wpl_append_words (.tmp 20) (.tmp 21) rfl rfl w _ _ _ 0 len [] (zs.take len) rfl rfl (own_lit w w0 [] 0 x0 rfl (by decide)) ((hw.below x0).below ((Below.refl _ _).alloc (Nat.le_refl _) _)) hlen len (Nat.zero_add _) (by omega) ?_; intro a1 c1 w1 o1 g1)
          | (at_builtin; refine wpl_append_zeros (.tmp 22) (.tmp 24) rfl rfl w _ _ len m.toNat (zs.take len) _ rfl rfl (by omega) o1 (len + m.toNat) rfl (by omega) ?_; intro a2 c2 w2 o2 g2)
          | (go_at_call 21; with_reducible refine Calls.mono (L2 _ _ _ o2) ?_; rintro e w3 ⟨rfl, rfl⟩)
          | (go_at_call 21; with_reducible refine Calls.mono (L3 _ o2.below) ?_; rintro e w3 ⟨rfl, rfl⟩)
          | (at_builtin; refine wpl_append_words (.tmp 83) (.tmp 84) rfl rfl w _ _ _ (len + m.toNat) 1 (zs.take len ++ List.replicate m.toNat 0) [7] rfl rfl (o2.alloc _) (lit_words w2 [7] 1 rfl (by decide)) rfl (len + m.toNat + 1) rfl (by omega) ?_; intro a4 c4 w4 o4 g4)
          | (go_at_call 21; with_reducible refine Calls.mono (L4 _ _ _ o4) ?_; rintro e w5 ⟨rfl, rfl⟩))
        go_ret
        exact ⟨rfl, o4.below⟩
      · obtain ⟨K, rfl⟩ : ∃ K, L = K + 1 := ⟨L - 1, by omega⟩
        obtain ⟨b, off, rfl, hc⟩ : ∃ b off, s = some ⟨b, off, none⟩ ∧ ∀ i, i < len → w.cell? ⟨b, off + i, none⟩ = some (.int .u32 ((zs.take len).getD i 0)) := by
          rcases (came_reads h1).1.2 with h | h
          · omega
          · exact h
        clear h1 hL0
        have hz : (zs.take len).getD K 0 ≠ 0 := by
          rcases lowN_top (zs.take len) len with h | h
          · rw [HL.out] at h; omega
          · rw [HL.out] at h; simpa using h
        have L3 : ∀ v, Below w.heap.size w v → Calls Try.prog 21 #[.slice (some ⟨b, off, none⟩) (K + 1) cap] v fun e w' => e = .returned (.int .i64 (K + 1 : Nat)) ∧ v = w' := fun v bl => by
          have r : Reads .u32 w (some ⟨b, off, none⟩) (K + 1) ((zs.take len).take (K + 1)) := by
            refine ⟨by rw [List.length_take]; omega, .inr ⟨b, off, rfl, fun i hi => ?_⟩⟩
            rw [hc i (by omega)]
            simp [List.getD_eq_getElem?_getD, hi, show i < len by omega]
          have q := limb_low _ _ cap _ v (r.below bl) (by omega)
          rw [lowN_take _ _ _ (Nat.le_refl _), lowN_keep hz] at q
          exact q
        have hck := hc K (by omega)
        clear hc
        generalize (zs.take len).getD K 0 = z at hck hz
        have hz' : (z == 0) = false := by simpa using hz
        have hz2 : (z != 0) = true := by simpa using hz
        clear hz
        have hck' : ∀ v, Below w.heap.size w v → v.cell? ⟨b, off + K, none⟩ = some (.int .u32 z) := fun v bl => by
          rw [bl.cell (p := ⟨b, off + K, none⟩) (World.block_lt_of_cell? w _ hck)]; exact hck
        go_enter Try.func9, Try.ntmps9
        go_wp2_with (first
          | (go_at_call 10; refine (limb_awake _).mono ?_; rintro e w0 ⟨rfl, x0⟩)
          | (go_at_call 19; with_reducible refine Calls.mono (B1 _) ?_; rintro e w1 ⟨rfl, rfl⟩)
          | (go_at_call 21; with_reducible refine Calls.mono (L1 _ x0) ?_; rintro e w1 ⟨rfl, rfl⟩)
          | (at_builtin; refine wpl_append_words (.tmp 20) (.tmp 21) rfl rfl w _ _ _ 0 len [] (zs.take len) rfl rfl (own_lit w w0 [] 0 x0 rfl (by decide)) ((hw.below x0).below ((Below.refl _ _).alloc (Nat.le_refl _) _)) hlen len (Nat.zero_add _) (by omega) ?_; intro a1 c1 w1 o1 g1)
          | (at_builtin; refine wpl_append_zeros (.tmp 22) (.tmp 24) rfl rfl w _ _ len m.toNat (zs.take len) _ rfl rfl (by omega) o1 (len + m.toNat) rfl (by omega) ?_; intro a2 c2 w2 o2 g2)
          | (go_at_call 21; with_reducible refine Calls.mono (L2 _ _ _ o2) ?_; rintro e w3 ⟨rfl, rfl⟩)
          | (go_at_call 21; with_reducible refine Calls.mono (L3 _ o2.below) ?_; rintro e w3 ⟨rfl, rfl⟩; have hk2 := hck' _ o2.below)
          | (at_builtin; refine wpl_append_words (.tmp 83) (.tmp 84) rfl rfl w _ _ _ (len + m.toNat) 1 (zs.take len ++ List.replicate m.toNat 0) [7] rfl rfl (o2.alloc _) (lit_words w2 [7] 1 rfl (by decide)) rfl (len + m.toNat + 1) rfl (by omega) ?_; intro a4 c4 w4 o4 g4)
          | (go_at_call 21; with_reducible refine Calls.mono (L4 _ _ _ o4) ?_; rintro e w5 ⟨rfl, rfl⟩))
        go_ret
        exact ⟨rfl, o4.below⟩
end Go.Proofs.Ytpehignbgdpbiaa
