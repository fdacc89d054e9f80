/-
  Texts of mine in build order. No conditions of their own.
-/
import Derived.Test.YtaeladkcmpdkhaaGreatDoorPack18
import Derived.Test.YtaeladkcmpdkhaaGreatDoorPack33
set_option maxHeartbeats 4000000
namespace Go.Proofs.YtaeladkcmpdkhaaGreatDoor
section
open Go.Lib
set_option maxRecDepth 100000 in
/-- The bytes of a rune behind its first one are 128 and more. -/
theorem decodeN_inner (n b0 b1 b2 b3 : Nat) : (1 < (decodeN n b0 b1 b2 b3).2 → 128 ≤ b0 ∧ 128 ≤ b1) ∧ (2 < (decodeN n b0 b1 b2 b3).2 → 128 ≤ b2) ∧ (3 < (decodeN n b0 b1 b2 b3).2 → 128 ≤ b3) := by
 unfold decodeN; repeat' split
 all_goals simp only
 all_goals refine ⟨fun h => ?_, fun h => ?_, fun h => ?_⟩
 all_goals omega
theorem next_inner {s : ByteArray} {i k : Nat} (h0 : i < k) (h1 : k < i + nextN s i) : 128 ≤ bt s i ∧ 128 ≤ bt s k := by
 unfold nextN at h1; rw [decode_bt] at h1
 have a := decodeN_inner (s.size - i) (bt s i) (bt s (i + 1)) (bt s (i + 2)) (bt s (i + 3))
 have b : (decodeN (s.size - i) (bt s i) (bt s (i + 1)) (bt s (i + 2)) (bt s (i + 3))).2 ≤ 4 := by
  generalize hX : decodeN (s.size - i) (bt s i) (bt s (i + 1)) (bt s (i + 2)) (bt s (i + 3)) = X at *
  unfold decodeN at hX
  repeat' split at hX
  all_goals (subst hX; simp only; omega)
 refine ⟨(a.1 (by omega)).1, ?_⟩
 rcases (by omega : k = i + 1 ∨ k = i + 2 ∨ k = i + 3) with rfl | rfl | rfl
 ·exact (a.1 (by omega)).2
 ·exact a.2.1 (by omega)
 ·exact a.2.2 (by omega)
end
section
open Go.Lib
theorem ktx_get {l : List Tok} {i : Nat} {t : Tok} (h : l[i]? = some t) : (ktx l)[i]? = some (t.1, t.2.1) := by
 unfold ktx; rw [List.getElem?_map, h]; rfl
end
section
open Go.Lib
def cntO (L : List Tok) (i j : Nat) : Nat := cntP (((ktx L).drop i).take (j - i))
theorem cntP_app (l m : List (Int × ByteArray)) : cntP (l ++ m) = cntP l + cntP m := List.countP_append
theorem cntP_cons (t : Int × ByteArray) (l : List (Int × ByteArray)) : cntP (t :: l) = (if isO t = true then 1 else 0) + cntP l := by
 unfold cntP
 rw [List.countP_cons]; omega
theorem cntO_parts {L : List Tok} {i j k : Nat} (h1 : i ≤ j) (h2 : j ≤ k) : cntO L i k = cntO L i j + cntO L j k := by
 unfold cntO
 rw [← cntP_app, show k - i = (j - i) + (k - j) by omega, List.take_add, List.drop_drop, show i + (j - i) = j by omega]
theorem cntO_more {L : List Tok} {i j j' k : Nat} (h1 : i ≤ j) (h2 : j ≤ j') (h3 : j' ≤ k) : cntO L i j + cntO L j' k ≤ cntO L i k := by
 rw [cntO_parts h1 (Nat.le_trans h2 h3), cntO_parts h2 h3]; omega
theorem cntO_open {L : List Tok} {r : Rd} (h : r.is L 2 [40] = true) {k : Nat} (hk : r.pos + 1 ≤ k) : 1 + cntO L (r.pos + 1) k ≤ cntO L r.pos k := by
 have e := cntO_parts (L := L) (i := r.pos) (j := r.pos + 1) (k := k) (Nat.le_succ r.pos) hk
 have : 1 ≤ cntO L r.pos (r.pos + 1) := by
  unfold Rd.is at h
  rw [Bool.and_eq_true] at h
  cases ht : L[r.pos]? with
  | none => rw [ht] at h; exact absurd h.2 (by simp)
  | some t =>
   rw [ht] at h
   have hx := ktx_get ht
   unfold cntO
   rw [show r.pos + 1 - r.pos = 1 by omega]
   obtain ⟨hl, he⟩ := List.getElem?_eq_some_iff.1 hx
   rw [List.drop_eq_getElem_cons hl, List.take_succ_cons, List.take_zero, cntP_cons, he]
   have hq : isO (t.1, t.2.1) = true := by
    unfold isO
    rw [← ByteArray.toList_eq]
    exact h.2
   rw [if_pos hq]; omega
 omega
section
variable (pr : Bool × Nat × Nat → ByteArray) (ex : Nat → ByteArray)
end
variable {pr : Bool × Nat × Nat → ByteArray} {ex : Nat → ByteArray}
theorem cnt_wrap (b : Bool) (x : List (Int × ByteArray)) : cntP (wrapP b x) = (if b = true then 1 else 0) + cntP x := by
 unfold wrapP
 split
 ·have e : isO (2, ⟨#[40]⟩) = true := rfl
  have e2 : cntP [((2 : Int), (⟨#[41]⟩ : ByteArray))] = 0 := rfl
  rw [cntP_cons, cntP_app, if_pos e, e2]; omega
 ·rw [Nat.zero_add]
theorem OP_body {l : List Nd} {i : Nat} {n : Nd} (h : l[i]? = some n) (least : Nat) : OP pr ex l i least = (if bindK n.kind < least then 1 else 0) + cntP (bodyP pr ex l i n) := by
 unfold OP
 rw [partP_step h, cnt_wrap]
 by_cases hb : bindK n.kind < least
 ·rw [if_pos hb, if_pos (by simpa using hb)]
 ·rw [if_neg hb, if_neg (by simpa using hb)]
theorem OP_mono {l : List Nd} {i : Nat} {n : Nd} (h : l[i]? = some n) {p q : Nat} (hpq : p ≤ q) : OP pr ex l i p ≤ OP pr ex l i q := by
 rw [OP_body h, OP_body h]
 split
 ·rw [if_pos (by omega)]; exact Nat.le_refl _
 ·omega
theorem OP_top {l : List Nd} {i : Nat} {n : Nd} (h : l[i]? = some n) (q : Nat) : OP pr ex l i q ≤ 1 + OP pr ex l i 1 := by
 rw [OP_body h, OP_body h]
 split <;> omega
theorem part_more2 {l : List Nd} {b i : Nat} (h : Seg l b i) : ∀ f, i + 1 ≤ f → ∀ g, i + 1 ≤ g → ∀ (m : List Nd) (least : Nat), partP pr ex (l ++ m) f i least = partP pr ex l g i least := by
 refine (h (fun b i => Seg l b i ∧ ∀ f, i + 1 ≤ f → ∀ g, i + 1 ≤ g → ∀ (m : List Nd) (least : Nat), partP pr ex (l ++ m) f i least = partP pr ex l g i least) ?_ ?_ ?_).2
 ·intro i n hn hk
  refine ⟨Seg.leaf hn hk, fun f hf g hg m least => ?_⟩
  obtain ⟨f, rfl⟩ : ∃ f', f = f' + 1 := ⟨f - 1, by omega⟩
  obtain ⟨g, rfl⟩ : ∃ g', g = g' + 1 := ⟨g - 1, by omega⟩
  rw [partP_step (get_more hn), partP_step hn]
  unfold bodyP
  rcases hk with e | e
  ·rw [if_pos e, if_pos e]
  ·have k0 : ¬ n.kind = 0 := by omega
   rw [if_neg k0, if_neg k0, if_pos e, if_pos e]
 ·intro b i n ⟨hs, ih⟩ hn hk ha
  refine ⟨hs.one hn hk ha, fun f hf g hg m least => ?_⟩
  obtain ⟨f, rfl⟩ : ∃ f', f = f' + 1 := ⟨f - 1, by omega⟩
  obtain ⟨g, rfl⟩ : ∃ g', g = g' + 1 := ⟨g - 1, by omega⟩
  have hN : n.a.toNat = i := by rw [ha]; exact Int.toNat_natCast i
  have k0 : ¬ n.kind = 0 := by omega
  have k1 : ¬ n.kind = 1 := by omega
  rw [partP_step (get_more hn), partP_step hn]
  unfold bodyP
  rw [if_neg k0, if_neg k0, if_neg k1, if_neg k1, hN, ih f (by omega) g (by omega) m 3, ih f (by omega) g (by omega) m 5]
  rcases hk with e | e
  ·rw [if_pos e, if_pos e]
  ·have k6 : ¬ n.kind = 6 := by omega
   rw [if_neg k6, if_neg k6, if_pos e, if_pos e]
 ·intro b j i n ⟨hs, ih⟩ ⟨ht, ih2⟩ hn h2 h5 ha hb
  refine ⟨hs.two ht hn h2 h5 ha hb, fun f hf g hg m least => ?_⟩
  have hle2 := ht.le
  obtain ⟨f, rfl⟩ : ∃ f', f = f' + 1 := ⟨f - 1, by omega⟩
  obtain ⟨g, rfl⟩ : ∃ g', g = g' + 1 := ⟨g - 1, by omega⟩
  have hN : n.a.toNat = j := by rw [ha]; exact Int.toNat_natCast j
  have hM : n.b.toNat = i := by rw [hb]; exact Int.toNat_natCast i
  have k0 : ¬ n.kind = 0 := by omega
  have k1 : ¬ n.kind = 1 := by omega
  have k6 : ¬ n.kind = 6 := by omega
  have k7 : ¬ n.kind = 7 := by omega
  rw [partP_step (get_more hn), partP_step hn]
  unfold bodyP
  rw [if_neg k0, if_neg k0, if_neg k1, if_neg k1, if_neg k6, if_neg k6, if_neg k7, if_neg k7, hN, hM, ih f (by omega) g (by omega), ih2 f (by omega) g (by omega)]
theorem OP_more {l : List Nd} {b i : Nat} (h : Seg l b i) (m : List Nd) (least : Nat) : OP pr ex (l ++ m) i least = OP pr ex l i least := by
 unfold OP
 rw [part_more2 h (i + 1) (Nat.le_refl _) (i + 1) (Nat.le_refl _)]
theorem part_fuel {l : List Nd} {b i : Nat} (h : Seg l b i) {f : Nat} (hf : i + 1 ≤ f) (least : Nat) : cntP (partP pr ex l f i least) = OP pr ex l i least := by
 have := part_more2 (pr := pr) (ex := ex) h f hf (i + 1) (Nat.le_refl _) [] least
 rw [List.append_nil] at this
 unfold OP
 rw [this]
theorem OP_leaf {l : List Nd} {i : Nat} {n : Nd} (h : l[i]? = some n) (hk : n.kind = 0 ∨ n.kind = 1) {least : Nat} (hl : least ≤ 5) : OP pr ex l i least = 0 := by
 have hb : bindK n.kind = 5 := by rcases hk with e | e <;> rw [e] <;> rfl
 rw [OP_body h, if_neg (by omega)]
 unfold bodyP
 rcases hk with e | e
 ·rw [if_pos e]; rfl
 ·rw [if_neg (by omega), if_pos e]; rfl
theorem OP_neg {l : List Nd} {b i : Nat} {n : Nd} (hs : Seg l b i) (h : l[i + 1]? = some n) (hk : n.kind = 6) (ha : n.a = (i : Int)) {least : Nat} (hl : least ≤ 3) : OP pr ex l (i + 1) least = OP pr ex l i 3 := by
 have hN : n.a.toNat = i := by rw [ha]; exact Int.toNat_natCast i
 rw [OP_body h, if_neg (by rw [hk]; show ¬ 3 < least; omega)]
 unfold bodyP
 rw [if_neg (by omega), if_neg (by omega), if_pos hk, hN, cntP_cons, part_fuel hs (Nat.le_refl _), if_neg (by decide)]; omega
theorem OP_pow {l : List Nd} {b i : Nat} {n : Nd} (hs : Seg l b i) (h : l[i + 1]? = some n) (hk : n.kind = 7) (ha : n.a = (i : Int)) {least : Nat} (hl : least ≤ 4) : OP pr ex l (i + 1) least = OP pr ex l i 5 := by
 have hN : n.a.toNat = i := by rw [ha]; exact Int.toNat_natCast i
 rw [OP_body h, if_neg (by rw [hk]; show ¬ 4 < least; omega)]
 unfold bodyP
 rw [if_neg (by omega), if_neg (by omega), if_neg (by omega), if_pos hk, hN, cntP_app, part_fuel hs (Nat.le_refl _), cntP_cons, cntP_app, if_neg (by decide)]
 have e1 : cntP (if n.exp < 0 then [((2 : Int), (⟨#[45]⟩ : ByteArray))] else []) = 0 := by split <;> rfl
 have e2 : cntP [((1 : Int), ex n.exp.natAbs)] = 0 := rfl
 rw [e1, e2]; omega
theorem OP_two {l : List Nd} {b j i : Nat} {n : Nd} (hs : Seg l b j) (ht : Seg l (j + 1) i) (h : l[i + 1]? = some n) (h2 : 2 ≤ n.kind) (h5 : n.kind ≤ 5) (ha : n.a = (j : Int)) (hb : n.b = (i : Int)) {least : Nat} (hl : least ≤ bindK n.kind) : OP pr ex l (i + 1) least = OP pr ex l j (bindK n.kind) + OP pr ex l i (bindK n.kind + 1) := by
 have hN : n.a.toNat = j := by rw [ha]; exact Int.toNat_natCast j
 have hM : n.b.toNat = i := by rw [hb]; exact Int.toNat_natCast i
 have hle := ht.le
 rw [OP_body h, if_neg (by omega)]
 unfold bodyP
 rw [if_neg (by omega), if_neg (by omega), if_neg (by omega), if_neg (by omega), hN, hM, cntP_app, part_fuel hs (by omega), cntP_cons, cntP_cons, cntP_cons, part_fuel ht (Nat.le_refl _)]
 have s0 : isO spP = false := rfl
 have : isO (2, opB n.kind) = false := by
  unfold isO opB
  repeat' split
  all_goals rfl
 simp only [s0, this, Bool.false_eq_true, if_false]; omega
def ReadC (pr : Bool × Nat × Nat → ByteArray) (ex : Nat → ByteArray) (L : List Tok) (least : Nat) (r : Rd) (x : Int) (r' : Rd) : Prop := ∃ i : Nat, x = (i : Int) ∧ r'.all.length = i + 1 ∧ Seg r'.all r.all.length i ∧ OP pr ex r'.all i least ≤ cntO L r.pos r'.pos
theorem ReadC.less {L : List Tok} {p q : Nat} {r r' : Rd} {x : Int} (h : ReadC pr ex L p r x r') (hq : q ≤ p) : ReadC pr ex L q r x r' := by
 obtain ⟨i, h1, h2, h3, h4⟩ := h
 obtain ⟨n, hn⟩ : ∃ n, r'.all[i]? = some n := ⟨_, List.getElem?_eq_getElem (by omega)⟩
 exact ⟨i, h1, h2, h3, Nat.le_trans (OP_mono hn hq) h4⟩
theorem two_readc {L : List Tok} {r0 r q : Rd} {a x : Int} {n : Nd} (h : ReadC pr ex L (bindK n.kind) r0 a r) (hr : r0.pos ≤ r.pos) (hs : ReadC pr ex L (bindK n.kind + 1) r.skip x q) (hq : r.skip.pos ≤ q.pos) (hm : ∃ m, q.all = r.all ++ m) (h2 : 2 ≤ n.kind) (h5 : n.kind ≤ 5) (ha : n.a = a) (hb : n.b = x) : ReadC pr ex L (bindK n.kind) r0 (q.node n).1 (q.node n).2 := by
 obtain ⟨j, rfl, hl, hs1, hc1⟩ := h
 obtain ⟨i, rfl, hl2, hs2, hc2⟩ := hs
 obtain ⟨m, hm⟩ := hm
 have hs2' : Seg q.all (j + 1) i := by rw [← hl]; exact hs2
 have hs1' : Seg q.all r0.all.length j := by rw [hm]; exact hs1.more m
 have hn : (q.all ++ [n])[i + 1]? = some n := by rw [← hl2, List.getElem?_append_right (Nat.le_refl _), Nat.sub_self]; rfl
 refine ⟨i + 1, ?_, ?_, Seg.two (hs1'.more _) (hs2'.more _) hn h2 h5 ha hb, ?_⟩
 ·show ((q.all.length : Nat) : Int) = _; rw [hl2]
 ·show (q.all ++ [n]).length = _; rw [List.length_append, hl2]; rfl
 ·show OP pr ex (q.all ++ [n]) (i + 1) _ ≤ cntO L r0.pos q.pos
  rw [OP_two (hs1'.more [n]) (hs2'.more [n]) hn h2 h5 ha hb (Nat.le_refl _), OP_more hs1', OP_more hs2']
  have e : OP pr ex q.all j (bindK n.kind) = OP pr ex r.all j (bindK n.kind) := by rw [hm, OP_more hs1]
  rw [e]
  have := cntO_more (L := L) (j' := r.pos + 1) hr (Nat.le_succ r.pos) (show r.pos + 1 ≤ q.pos from hq)
  have hc2' : OP pr ex q.all i (bindK n.kind + 1) ≤ cntO L (r.pos + 1) q.pos := hc2
  omega
theorem leaf_readc (num : ByteArray → Bool × Nat × Nat) (L : List Tok) (r : Rd) : ReadC pr ex L 5 r (r.leaf num L).1 (r.leaf num L).2 := by
 have key : ∀ (q : Rd) (n : Nd), q.all = r.all → (n.kind = 0 ∨ n.kind = 1) → ReadC pr ex L 5 r (q.node n).1 (q.node n).2 := by
  intro q n hm hk
  have hn : (q.all ++ [n])[q.all.length]? = some n := by rw [List.getElem?_append_right (Nat.le_refl _), Nat.sub_self]; rfl
  refine ⟨q.all.length, rfl, ?_, ?_, ?_⟩
  ·show (q.all ++ [n]).length = _; simp
  ·show Seg (q.all ++ [n]) r.all.length q.all.length
   rw [← hm]
   exact Seg.leaf hn hk
  ·show OP pr ex (q.all ++ [n]) q.all.length 5 ≤ _
   rw [OP_leaf hn hk (Nat.le_refl _)]; exact Nat.zero_le _
 have hn : (r.nameT L).2.all = r.all := by
  unfold Rd.nameT
  split
  ·rfl
  ·split
   ·rfl
   ·split <;> rfl
 unfold Rd.leaf
 by_cases hb : r.bad = true
 ·rw [if_pos hb]; exact key _ _ hn (.inl rfl)
 ·rw [if_neg hb]
  split
  ·split
   ·exact key _ _ rfl (.inr rfl)
   ·exact key _ _ hn (.inl rfl)
  ·exact key _ _ hn (.inl rfl)
theorem pow_one {L : List Tok} {r0 r q : Rd} {a : Int} {E : Int} (h : ReadC pr ex L 5 r0 a r) (hr : r0.pos ≤ r.pos) (hq : r.pos ≤ q.pos) (ha : q.all = r.all) : ReadC pr ex L 4 r0 (q.node ⟨7, a, 0, E, noText, (false, 0, 0)⟩).1 (q.node ⟨7, a, 0, E, noText, (false, 0, 0)⟩).2 := by
 obtain ⟨i, rfl, hl, hs, hc⟩ := h
 have hn : (q.all ++ [(⟨7, (i : Int), 0, E, noText, (false, 0, 0)⟩ : Nd)])[i + 1]? = some ⟨7, (i : Int), 0, E, noText, (false, 0, 0)⟩ := by rw [ha, ← hl, List.getElem?_append_right (Nat.le_refl _), Nat.sub_self]; rfl
 have hs' : Seg q.all r0.all.length i := by rw [ha]; exact hs
 refine ⟨i + 1, ?_, ?_, Seg.one (hs'.more _) hn (.inr rfl) rfl, ?_⟩
 ·show ((q.all.length : Nat) : Int) = _; rw [ha, hl]
 ·show (q.all ++ [_]).length = _; rw [List.length_append, ha, hl]; rfl
 ·show OP pr ex (q.all ++ [_]) (i + 1) 4 ≤ cntO L r0.pos q.pos
  rw [OP_pow (hs'.more _) hn rfl rfl (Nat.le_refl _), OP_more hs', ha]
  have := cntO_parts (L := L) hr hq
  omega
theorem powE_readc {L : List Tok} {r0 r1 r : Rd} {a fac : Int} (h : ReadC pr ex L 5 r0 a r1) (h1 : r0.pos ≤ r1.pos) (h2 : r1.pos ≤ r.pos) (ha : r.all = r1.all) (hb : (r.powE L a fac).2.bad = false) : ReadC pr ex L 4 r0 (r.powE L a fac).1 (r.powE L a fac).2 := by
 unfold Rd.powE at hb ⊢
 split at hb
 ·exact absurd hb (by simp [Rd.wrong])
 ·rename_i h0
  rw [if_neg h0]
  split at hb
  ·exact absurd hb (by simp [Rd.wrong])
  ·rename_i t ht
   split at hb
   ·exact absurd hb (by simp [Rd.wrong])
   ·rename_i h3
    rw [if_neg h3]
    split at hb
    ·exact absurd hb (by simp [Rd.wrong])
    ·rename_i h4
     rw [if_neg h4]
     exact pow_one (q := r.skip) h h1 (Nat.le_trans h2 (Nat.le_succ _)) ha
theorem powT_readc {L : List Tok} {r0 r : Rd} {a : Int} (h : ReadC pr ex L 5 r0 a r) (h1 : r0.pos ≤ r.pos) (hb : (r.powT L a).2.bad = false) : ReadC pr ex L 4 r0 (r.powT L a).1 (r.powT L a).2 := by
 unfold Rd.powT at hb ⊢
 split at hb
 ·rename_i c1
  rw [if_pos c1]
  split at hb
  ·rename_i c2
   rw [if_pos c2]
   exact powE_readc h h1 (show r.pos ≤ r.pos + 1 + 1 by omega) rfl hb
  ·rename_i c2
   rw [if_neg c2]
   exact powE_readc h h1 (show r.pos ≤ r.pos + 1 by omega) rfl hb
 ·rename_i c1
  rw [if_neg c1]
  exact h.less (by omega)
end
section
open Go.Lib
variable {pr : Bool × Nat × Nat → ByteArray} {ex : Nat → ByteArray}
def lvM : Nat → Nat
 | 0 => 1
 | 2 => 2
 | 4 => 3
 | 5 => 4
 | _ => 5
theorem expr_readc (num : ByteArray → Bool × Nat × Nat) (L : List Tok) : ∀ (f m : Nat) (a : Int) (r : Rd), needE L m r ≤ f → (exprF num L f m a r).2.bad = false →
  (m ≠ 1 → m ≠ 3 → ReadC pr ex L (lvM m) r (exprF num L f m a r).1 (exprF num L f m a r).2) ∧ (m = 1 → ∀ r0, r0.pos ≤ r.pos → ReadC pr ex L 1 r0 a r → ReadC pr ex L 1 r0 (exprF num L f m a r).1 (exprF num L f m a r).2) ∧ (m = 3 → ∀ r0, r0.pos ≤ r.pos → ReadC pr ex L 2 r0 a r → ReadC pr ex L 2 r0 (exprF num L f m a r).1 (exprF num L f m a r).2) := by
 intro f
 induction f with
 | zero => intro m a r hf; have := needE_pos L m r; omega
 | succ f ih =>
  intro m a r hf hb
  match m with
  | 0 =>
   have e1 : rankE 0 = 5 := rfl
   have e2 : rankE 2 = 4 := rfl
   have e3 : rankE 1 = 1 := rfl
   unfold needE at hf
   unfold exprF at hb ⊢
   have n1 := needE_on (L := L) (on_expr num L f 2 0 r) 1
   have g := Rd.good_of (on_expr num L f 1 _ _) hb
   have h1 := (ih 2 0 r (by unfold needE; omega) g).1 (by omega) (by omega)
   exact ⟨fun _ _ => (ih 1 _ _ (by omega) hb).2.1 rfl r (on_expr num L f 2 0 r).pos (h1.less (by decide)), fun h => by omega, fun h => by omega⟩
  | 1 =>
   have e2 : rankE 2 = 4 := rfl
   have e3 : rankE 1 = 1 := rfl
   unfold needE at hf
   refine ⟨fun h => absurd rfl h, fun _ r0 hr0 h0 => ?_, fun h => by omega⟩
   unfold exprF at hb ⊢
   by_cases h : (r.is L 2 [43] || r.is L 2 [45]) = true
   ·rw [if_pos h] at hb ⊢
    have hs : r.bad = false ∧ r.pos < L.length := by
     rcases Bool.or_eq_true_iff.1 h with h | h <;> exact r.is_in h
    have n2 := needE_skip hs.2 2
    have n3 := needE_skip hs.2 1
    have o := (on_expr num L f 2 0 r.skip).trans (Rd.on_node _ ⟨if r.is L 2 [45] = true then 3 else 2, a, (exprF num L f 2 0 r.skip).1, 0, noText, (false, 0, 0)⟩)
    have n1 := needE_on (L := L) o 1
    have g := Rd.good_of (on_expr num L f 1 _ _) hb
    have h1 := (ih 2 0 r.skip (by omega) g).1 (by omega) (by omega)
    obtain ⟨mm, hmm⟩ := (on_expr num L f 2 0 r.skip).all
    have hk : bindK (if r.is L 2 [45] = true then (3 : Int) else 2) = 1 := by split <;> rfl
    have h2 := two_readc (pr := pr) (ex := ex) (L := L) (r0 := r0) (r := r) (q := (exprF num L f 2 0 r.skip).2) (x := (exprF num L f 2 0 r.skip).1) (n := ⟨if r.is L 2 [45] = true then 3 else 2, a, (exprF num L f 2 0 r.skip).1, 0, noText, (false, 0, 0)⟩) (a := a) (by dsimp only; rw [hk]; exact h0) hr0 (by dsimp only; rw [hk]; exact h1) (on_expr num L f 2 0 r.skip).pos ⟨mm, hmm⟩ (by dsimp only; split <;> omega) (by dsimp only; split <;> omega) rfl rfl
    dsimp only at h2
    rw [hk] at h2
    have hp := o.pos
    exact (ih 1 _ _ (by unfold needE at n3 n1 ⊢; omega) hb).2.1 rfl r0 (Nat.le_trans hr0 (Nat.le_trans (Nat.le_succ r.pos) hp)) h2
   ·rw [if_neg h]; exact h0
  | 2 =>
   have e1 : rankE 2 = 4 := rfl
   have e2 : rankE 4 = 3 := rfl
   have e3 : rankE 3 = 1 := rfl
   unfold needE at hf
   unfold exprF at hb ⊢
   have n1 := needE_on (L := L) (on_expr num L f 4 0 r) 3
   have g := Rd.good_of (on_expr num L f 3 _ _) hb
   have h1 := (ih 4 0 r (by unfold needE; omega) g).1 (by omega) (by omega)
   exact ⟨fun _ _ => (ih 3 _ _ (by omega) hb).2.2 rfl r (on_expr num L f 4 0 r).pos (h1.less (by decide)), fun h => by omega, fun h => by omega⟩
  | 3 =>
   have e2 : rankE 4 = 3 := rfl
   have e3 : rankE 3 = 1 := rfl
   unfold needE at hf
   refine ⟨fun _ h => absurd rfl h, fun h => by omega, fun _ r0 hr0 h0 => ?_⟩
   unfold exprF at hb ⊢
   by_cases h : (r.is L 2 [42] || r.is L 2 [47]) = true
   ·rw [if_pos h] at hb ⊢
    have hs : r.bad = false ∧ r.pos < L.length := by
     rcases Bool.or_eq_true_iff.1 h with h | h <;> exact r.is_in h
    have n2 := needE_skip hs.2 4
    have n3 := needE_skip hs.2 3
    have o := (on_expr num L f 4 0 r.skip).trans (Rd.on_node _ ⟨if r.is L 2 [47] = true then 5 else 4, a, (exprF num L f 4 0 r.skip).1, 0, noText, (false, 0, 0)⟩)
    have n1 := needE_on (L := L) o 3
    have g := Rd.good_of (on_expr num L f 3 _ _) hb
    have h1 := (ih 4 0 r.skip (by omega) g).1 (by omega) (by omega)
    obtain ⟨mm, hmm⟩ := (on_expr num L f 4 0 r.skip).all
    have hk : bindK (if r.is L 2 [47] = true then (5 : Int) else 4) = 2 := by split <;> rfl
    have h2 := two_readc (pr := pr) (ex := ex) (L := L) (r0 := r0) (r := r) (q := (exprF num L f 4 0 r.skip).2) (x := (exprF num L f 4 0 r.skip).1) (n := ⟨if r.is L 2 [47] = true then 5 else 4, a, (exprF num L f 4 0 r.skip).1, 0, noText, (false, 0, 0)⟩) (a := a) (by dsimp only; rw [hk]; exact h0) hr0 (by dsimp only; rw [hk]; exact h1) (on_expr num L f 4 0 r.skip).pos ⟨mm, hmm⟩ (by dsimp only; split <;> omega) (by dsimp only; split <;> omega) rfl rfl
    dsimp only at h2
    rw [hk] at h2
    have hp := o.pos
    exact (ih 3 _ _ (by unfold needE at n3 n1 ⊢; omega) hb).2.2 rfl r0 (Nat.le_trans hr0 (Nat.le_trans (Nat.le_succ r.pos) hp)) h2
   ·rw [if_neg h]; exact h0
  | 4 =>
   have e1 : rankE 4 = 3 := rfl
   have e2 : rankE 5 = 2 := rfl
   unfold needE at hf
   refine ⟨fun _ _ => ?_, fun h => by omega, fun h => by omega⟩
   unfold exprF at hb ⊢
   by_cases h : r.is L 2 [45] = true
   ·rw [if_pos h] at hb ⊢
    have n2 := needE_skip (r.is_in h).2 4
    obtain ⟨i, h1, h2, h3, h4⟩ := (ih 4 0 r.skip (by omega) hb).1 (by omega) (by omega)
    have hn : ((exprF num L f 4 0 r.skip).2.all ++ [(⟨6, (exprF num L f 4 0 r.skip).1, 0, 0, noText, (false, 0, 0)⟩ : Nd)])[i + 1]? = some ⟨6, (exprF num L f 4 0 r.skip).1, 0, 0, noText, (false, 0, 0)⟩ := by rw [← h2, List.getElem?_append_right (Nat.le_refl _), Nat.sub_self]; rfl
    refine ⟨i + 1, ?_, ?_, Seg.one (h3.more _) hn (.inl rfl) h1, ?_⟩
    ·show (((exprF num L f 4 0 r.skip).2.all.length : Nat) : Int) = _; rw [h2]
    ·show ((exprF num L f 4 0 r.skip).2.all ++ [_]).length = _; rw [List.length_append, h2]; rfl
    ·show OP pr ex ((exprF num L f 4 0 r.skip).2.all ++ [_]) (i + 1) 3 ≤ cntO L r.pos (exprF num L f 4 0 r.skip).2.pos
     rw [OP_neg (h3.more _) hn rfl h1 (Nat.le_refl _), OP_more h3]
     have hp := (on_expr num L f 4 0 r.skip).pos
     have := cntO_parts (L := L) (j := r.pos + 1) (Nat.le_succ r.pos) (show r.pos + 1 ≤ (exprF num L f 4 0 r.skip).2.pos from hp)
     have h4' : OP pr ex (exprF num L f 4 0 r.skip).2.all i 3 ≤ cntO L (r.pos + 1) (exprF num L f 4 0 r.skip).2.pos := h4
     omega
   ·rw [if_neg h] at hb ⊢
    exact ((ih 5 0 r (by unfold needE; omega) hb).1 (by omega) (by omega)).less (by decide)
  | 5 =>
   have e1 : rankE 5 = 2 := rfl
   have e2 : rankE 6 = 1 := rfl
   unfold needE at hf
   refine ⟨fun _ _ => ?_, fun h => by omega, fun h => by omega⟩
   unfold exprF at hb ⊢
   have g := Rd.good_of (Rd.on_powT L _ _) hb
   exact powT_readc ((ih 6 0 r (by unfold needE; omega) g).1 (by omega) (by omega)) (on_expr num L f 6 0 r).pos hb
  | m + 6 =>
   have e1 : rankE (m + 6) = 1 := rfl
   have e2 : rankE 0 = 5 := rfl
   unfold needE at hf
   refine ⟨fun _ _ => ?_, fun h => by omega, fun h => by omega⟩
   show ReadC pr ex L 5 r _ _
   unfold exprF at hb ⊢
   by_cases h : r.is L 2 [40] = true
   ·rw [if_pos h] at hb ⊢
    have n2 := needE_skip (r.is_in h).2 0
    have g := Rd.good_of (Rd.on_want L _ 2 [41]) hb
    obtain ⟨i, h1, h2, h3, h4⟩ := (ih 0 0 r.skip (by omega) g).1 (by omega) (by omega)
    have hw : ((exprF num L f 0 0 r.skip).2.want L 2 [41]).all = (exprF num L f 0 0 r.skip).2.all := by unfold Rd.want; split <;> rfl
    have hp := (on_expr num L f 0 0 r.skip).pos
    have hp2 := (Rd.on_want L (exprF num L f 0 0 r.skip).2 2 [41]).pos
    obtain ⟨n, hn⟩ : ∃ n, (exprF num L f 0 0 r.skip).2.all[i]? = some n := ⟨_, List.getElem?_eq_getElem (by omega)⟩
    refine ⟨i, h1, by rw [← h2, ← hw], by rw [hw]; exact h3, ?_⟩
    show OP pr ex ((exprF num L f 0 0 r.skip).2.want L 2 [41]).all i 5 ≤ cntO L r.pos ((exprF num L f 0 0 r.skip).2.want L 2 [41]).pos
    rw [hw]
    have t := OP_top (pr := pr) (ex := ex) hn 5
    have hp' : r.pos + 1 ≤ (exprF num L f 0 0 r.skip).2.pos := hp
    have c1 := cntO_open h (k := ((exprF num L f 0 0 r.skip).2.want L 2 [41]).pos) (Nat.le_trans hp' hp2)
    have c2 := cntO_parts (L := L) hp' hp2
    have h4' : OP pr ex (exprF num L f 0 0 r.skip).2.all i 1 ≤ cntO L (r.pos + 1) (exprF num L f 0 0 r.skip).2.pos := h4
    omega
   ·rw [if_neg h]; exact leaf_readc num L r
theorem let_readc {num : ByteArray → Bool × Nat × Nat} {L : List Tok} {r : Rd} (h : (oneLet num L r).2.bad = false) : ∃ i : Nat, (oneLet num L r).1.2 = (i : Int) ∧ Seg (oneLet num L r).2.all r.all.length i ∧ OP pr ex (oneLet num L r).2.all i 1 ≤ cntO L r.pos (oneLet num L r).2.pos := by
 unfold oneLet at h ⊢
 dsimp only at h ⊢
 have h1 := Rd.good_of (Rd.on_want L _ _ _) h
 have p1 := ((Rd.on_name L r).trans (Rd.on_want L (r.nameT L).2 2 [61])).pos
 have p2 := (on_exprI num L 0 0 ((r.nameT L).2.want L 2 [61])).pos
 have p3 := (Rd.on_want L (exprI num L 0 0 ((r.nameT L).2.want L 2 [61])).2 2 [59]).pos
 obtain ⟨i, e1, e2, e3, e4⟩ := (expr_readc (pr := pr) (ex := ex) num L _ 0 0 ((r.nameT L).2.want L 2 [61]) (Nat.le_refl _) h1).1 (by omega) (by omega)
 rw [want_all]
 have ha : ((r.nameT L).2.want L 2 [61]).all = r.all := by rw [want_all, name_all]
 rw [ha] at e3
 refine ⟨i, e1, e3, Nat.le_trans e4 ?_⟩
 have := cntO_more (L := L) (Nat.le_refl r.pos) p1 (Nat.le_trans p2 p3)
 have c := cntO_parts (L := L) p2 p3
 show cntO L _ (exprI num L 0 0 ((r.nameT L).2.want L 2 [61])).2.pos ≤ _
 omega
theorem lets_readc (num : ByteArray → Bool × Nat × Nat) (L : List Tok) : ∀ (f : Nat) (out : List (ByteArray × Int)) (r : Rd), (letsF num L f out r).2.bad = false → ∃ m, (letsF num L f out r).1 = out ++ m ∧ OL pr ex (letsF num L f out r).2.all m ≤ cntO L r.pos (letsF num L f out r).2.pos := by
 intro f
 induction f with
 | zero => intro out r _; exact ⟨[], by rw [List.append_nil]; rfl, Nat.zero_le _⟩
 | succ f ih =>
  intro out r hb
  unfold letsF at hb ⊢
  by_cases h : r.is L 0 [108, 101, 116] = true
  ·rw [if_pos h] at hb ⊢
   have g := Rd.good_of (on_lets num L f _ _) hb
   obtain ⟨i, e1, e3, e4⟩ := let_readc (pr := pr) (ex := ex) g
   obtain ⟨m, hm, hl⟩ := ih _ _ hb
   obtain ⟨n, hn⟩ := (on_lets num L f (out ++ [(oneLet num L r.skip).1]) (oneLet num L r.skip).2).all
   have p1 := (on_let num L r.skip).pos
   have p2 := (on_lets num L f (out ++ [(oneLet num L r.skip).1]) (oneLet num L r.skip).2).pos
   refine ⟨(oneLet num L r.skip).1 :: m, by rw [hm, List.append_assoc, List.singleton_append], ?_⟩
   show OP pr ex _ (oneLet num L r.skip).1.2.toNat 1 + OL pr ex _ m ≤ _
   rw [e1, Int.toNat_natCast]
   have eo : OP pr ex (letsF num L f (out ++ [(oneLet num L r.skip).1]) (oneLet num L r.skip).2).2.all i 1 = OP pr ex (oneLet num L r.skip).2.all i 1 := by rw [hn, OP_more e3]
   rw [eo]
   have c := cntO_more (L := L) (Nat.le_refl r.pos) (show r.pos ≤ r.skip.pos from Nat.le_succ _) (Nat.le_trans p1 p2)
   have c2 := cntO_parts (L := L) p1 p2
   omega
  ·rw [if_neg h]; exact ⟨[], by rw [List.append_nil], Nat.zero_le _⟩
theorem cntO_all (L : List Tok) (i j : Nat) : cntO L i j ≤ cntP (ktx L) := by
 unfold cntO cntP
 exact (((List.take_sublist _ _).trans (List.drop_sublist _ _))).countP_le
theorem prog_readc {num : ByteArray → Bool × Nat × Nat} {L : List Tok} (h : (progI num L).2.bad = false) : OL pr ex (progI num L).1.all (progI num L).1.lets ≤ cntP (ktx L) := by
 have h1 : (outsI num L).2.bad = false := by
  unfold progI at h
  dsimp only at h
  split at h
  ·exact absurd h (by simp [Rd.wrong])
  ·exact h
 have o2 := on_names L ((letsI num L).2.want L 0 [111, 117, 116])
 have h2 : ((letsI num L).2.want L 0 [111, 117, 116]).bad = false := Rd.good_of o2.1 h1
 have h3 := Rd.good_of (Rd.on_want L _ _ _) h2
 obtain ⟨m, hm, hl⟩ := lets_readc (pr := pr) (ex := ex) num L _ _ _ h3
 have ha : (outsI num L).2.all = (letsI num L).2.all := by
  show (namesI L ((letsI num L).2.want L 0 [111, 117, 116])).2.all = _
  rw [o2.2, want_all]
 show OL pr ex (outsI num L).2.all (letsI num L).1 ≤ _
 rw [ha]
 have e : (letsI num L).1 = m := by
  show (letsF num L (L.length + 1) [] (insI L).2).1 = m
  rw [hm, List.nil_append]
 rw [e]
 exact Nat.le_trans hl (cntO_all L _ _)
end
section
open Go.Lib
theorem one_read {num : ByteArray → Bool × Nat × Nat} {E : List (Int × ByteArray)} {ns : List Nd} {L : List Tok} (HE : ∀ r : Rd, r.bad = false → r.all = [] → Pre L r.pos (E ++ [(2, ⟨#[59]⟩)]) → Reads1 num L 0 r E.length ns) {ins outs : List ByteArray} {nm : ByteArray}
  (hi : ins ≠ []) (hin : ∀ x ∈ ins, nameB x = true) (ho : outs ≠ []) (hon : ∀ x ∈ outs, nameB x = true) (hn : nameB nm = true)
  (hL : ktx L = listT inB ins ++ (((0, ⟨#[108, 101, 116]⟩) :: (0, nm) :: (2, ⟨#[61]⟩) :: (E ++ [(2, ⟨#[59]⟩)])) ++ listT outB outs)) :
  progI num L = (⟨ins, [(nm, (ns.length : Int) - 1)], outs, ns⟩, ⟨L.length, false, ns⟩) := by
 obtain ⟨x, xs, rfl⟩ : ∃ x xs, ins = x :: xs := by cases ins with | nil => exact absurd rfl hi | cons x xs => exact ⟨x, xs, rfl⟩
 obtain ⟨y, ys, rfl⟩ : ∃ y ys, outs = y :: ys := by cases outs with | nil => exact absurd rfl ho | cons y ys => exact ⟨y, ys, rfl⟩
 have hlen : L.length = (2 * xs.length + 3) + ((E.length + 4) + (2 * ys.length + 3)) := by
  rw [← ktx_length, hL, List.length_append, List.length_append, listT_length, listT_length]
  simp only [List.length_cons, List.length_append, List.length_nil]
 have P0 : Pre L 0 (listT inB (x :: xs) ++ (((0, ⟨#[108, 101, 116]⟩) :: (0, nm) :: (2, ⟨#[61]⟩) :: (E ++ [((2 : Int), (⟨#[59]⟩ : ByteArray))])) ++ listT outB (y :: ys))) := ⟨[], by rw [List.drop_zero, hL, List.append_nil]⟩
 obtain ⟨Pa, Pb⟩ := P0.app
 obtain ⟨Pc, Pf⟩ := Pb.app
 rw [listT_length, Nat.zero_add] at Pb Pc Pf
 have el : ((0, ⟨#[108, 101, 116]⟩) :: (0, nm) :: (2, ⟨#[61]⟩) :: (E ++ [((2 : Int), (⟨#[59]⟩ : ByteArray))])).length = E.length + 4 := by simp only [List.length_cons, List.length_append, List.length_nil]
 rw [el] at Pf
 obtain ⟨t1, Pa1⟩ := Pa.head
 obtain ⟨t2, Pf1⟩ := Pf.head
 obtain ⟨h1, hp1⟩ := Pc.head
 obtain ⟨h2, hp2⟩ := hp1.head
 obtain ⟨h3, hp3⟩ := hp2.head
 obtain ⟨hp4, hp5⟩ := hp3.app
 obtain ⟨h5, -⟩ := hp5.head
 have eI : insI L = (x :: xs, ⟨2 * xs.length + 3, false, []⟩) := by
  unfold insI
  have hw := want_tok (r := startR) rfl t1 [105, 110] rfl
  dsimp only at hw
  rw [hw, names_read (r := startR.skip) rfl Pa1 hin]
  show (x :: xs, (⟨0 + 1 + (2 * xs.length + 2), false, []⟩ : Rd)) = _
  rw [show 0 + 1 + (2 * xs.length + 2) = 2 * xs.length + 3 by omega]
 have R0 := HE ⟨2 * xs.length + 3 + 1 + 1 + 1, false, []⟩ rfl rfl hp3
 have eL : oneLet num L (⟨2 * xs.length + 3, false, []⟩ : Rd).skip = ((nm, (ns.length : Int) - 1), ⟨2 * xs.length + 3 + (E.length + 4), false, ns⟩) := by
  unfold Reads1 at R0
  unfold oneLet
  rw [name_tok (r := (⟨2 * xs.length + 3, false, []⟩ : Rd).skip) rfl h2 hn]
  dsimp only
  have hw := want_tok (r := (⟨2 * xs.length + 3, false, []⟩ : Rd).skip.skip) rfl h3 [61] rfl
  dsimp only at hw
  have R0' : exprI num L 0 0 (⟨2 * xs.length + 3, false, []⟩ : Rd).skip.skip.skip = _ := R0
  rw [hw, R0']
  dsimp only
  have hw2 := want_tok (r := ⟨2 * xs.length + 3 + 1 + 1 + 1 + E.length, false, [] ++ ns⟩) rfl h5 [59] rfl
  dsimp only at hw2
  rw [hw2]
  refine Prod.ext (Prod.ext rfl ?_) ?_
  ·show (([] : List Nd).length : Int) + (ns.length : Int) - 1 = (ns.length : Int) - 1
   rw [List.length_nil]; omega
  ·show (⟨2 * xs.length + 3 + 1 + 1 + 1 + E.length + 1, false, [] ++ ns⟩ : Rd) = _
   rw [List.nil_append, show 2 * xs.length + 3 + 1 + 1 + 1 + E.length + 1 = 2 * xs.length + 3 + (E.length + 4) by omega]
 have eS : letsI num L = ([(nm, (ns.length : Int) - 1)], ⟨2 * xs.length + 3 + (E.length + 4), false, ns⟩) := by
  unfold letsI
  rw [eI, show L.length + 1 = (L.length - 1) + 1 + 1 by omega]
  dsimp only
  unfold letsF
  rw [if_pos (by rw [Rd.is_tokAt (r := ⟨2 * xs.length + 3, false, []⟩) h1 rfl]; rfl), eL]
  dsimp only
  unfold letsF
  rw [if_neg (by rw [Rd.is_tokAt (r := ⟨2 * xs.length + 3 + (E.length + 4), false, ns⟩) t2 rfl]; decide)]
  rfl
 have eO : outsI num L = (y :: ys, ⟨L.length, false, ns⟩) := by
  unfold outsI
  rw [eS]
  dsimp only
  have hw := want_tok (r := ⟨2 * xs.length + 3 + (E.length + 4), false, ns⟩) rfl t2 [111, 117, 116] rfl
  dsimp only at hw
  rw [hw, names_read (r := (⟨2 * xs.length + 3 + (E.length + 4), false, ns⟩ : Rd).skip) rfl Pf1 hon]
  show (y :: ys, (⟨2 * xs.length + 3 + (E.length + 4) + 1 + (2 * ys.length + 2), false, _⟩ : Rd)) = _
  rw [show 2 * xs.length + 3 + (E.length + 4) + 1 + (2 * ys.length + 2) = L.length by omega]; rfl
 unfold progI
 rw [eI, eS, eO]
 dsimp only
 rw [if_neg (by omega)]
def own1 (l : List Nd) (b i : Nat) : List Nd := (slN l b i).map (shN (-(b : Int)))
theorem own1_get {l : List Nd} {b i k : Nat} (hk : b + k ≤ i) : (own1 l b i)[k]? = (l[b + k]?).map (shN (-(b : Int))) := by
 unfold own1 slN
 rw [List.getElem?_map, List.getElem?_take, if_pos (by omega), List.getElem?_drop]
theorem own1_length {l : List Nd} {b i : Nat} (hi : i < l.length) : (own1 l b i).length = i + 1 - b := by
 unfold own1
 rw [List.length_map, slN_length hi]
theorem shN_kind (d : Int) (n : Nd) : (shN d n).kind = n.kind := by
 unfold shN
 split
 ·rfl
 ·split <;> rfl
end
section
open Go.Lib
theorem shN_same (d : Int) (n : Nd) : (shN d n).name = n.name ∧ (shN d n).num = n.num ∧ (shN d n).exp = n.exp := by
 unfold shN
 split
 ·exact ⟨rfl, rfl, rfl⟩
 ·split <;> exact ⟨rfl, rfl, rfl⟩
theorem shN_a {d : Int} {n : Nd} (h : 2 ≤ n.kind) : (shN d n).a = n.a + d := by
 unfold shN
 rw [if_neg (by omega)]
 split <;> rfl
theorem shN_b {d : Int} {n : Nd} (h : 2 ≤ n.kind) (h5 : n.kind ≤ 5) : (shN d n).b = n.b + d := by
 unfold shN
 rw [if_neg (by omega), if_pos h5]
theorem own1_node {l : List Nd} {b i : Nat} (h : Seg l b i) {k : Nat} (hk : b + k ≤ i) : ∃ n, l[b + k]? = some n ∧ (own1 l b i)[k]? = some (shN (-(b : Int)) n) ∧
  (2 ≤ n.kind → ∃ a : Nat, b + a < b + k ∧ n.a = ((b + a : Nat) : Int) ∧ (shN (-(b : Int)) n).a = (a : Int)) ∧ (2 ≤ n.kind → n.kind ≤ 5 → ∃ a : Nat, b + a < b + k ∧ n.b = ((b + a : Nat) : Int) ∧ (shN (-(b : Int)) n).b = (a : Int)) := by
 have hle := h.le
 obtain ⟨n, hn⟩ : ∃ n, l[b + k]? = some n := ⟨_, List.getElem?_eq_getElem (by omega)⟩
 refine ⟨n, hn, by rw [own1_get hk, hn]; rfl, fun h2 => ?_, fun h2 h5 => ?_⟩
 ·obtain ⟨q1, q2, -⟩ := seg_parts h (b + k) n (by omega) hk hn h2
  exact ⟨n.a.toNat - b, by omega, by omega, by rw [shN_a h2]; omega⟩
 ·obtain ⟨-, -, q⟩ := seg_parts h (b + k) n (by omega) hk hn h2
  obtain ⟨q1, q2⟩ := q h5
  exact ⟨n.b.toNat - b, by omega, by omega, by rw [shN_b h2 h5]; omega⟩
theorem own1_tall {l : List Nd} {b i : Nat} (h : Seg l b i) : ∀ f k : Nat, b + k ≤ i → tallF (own1 l b i) f k = tallF l f ((b + k : Nat) : Int) := by
 intro f
 induction f with
 | zero => intro k _; rfl
 | succ f ih =>
  intro k hk
  obtain ⟨n, hn, ho, ha, hb⟩ := own1_node h hk
  unfold tallF
  rw [Int.toNat_natCast, Int.toNat_natCast, hn, ho]
  dsimp only
  rw [shN_kind]
  by_cases h1 : n.kind ≤ 1
  ·rw [if_pos h1, if_pos h1]
  rw [if_neg h1, if_neg h1]
  obtain ⟨x, x1, x2, x3⟩ := ha (by omega)
  rw [x2, x3, ih x (by omega)]
  by_cases h5 : n.kind ≤ 5
  ·rw [if_pos h5, if_pos h5]
   obtain ⟨y, y1, y2, y3⟩ := hb (by omega) h5
   rw [y2, y3, ih y (by omega)]
  ·rw [if_neg h5, if_neg h5]
theorem own1_behind {l : List Nd} {b i : Nat} (h : Seg l b i) : Behind (own1 l b i) := by
 intro p m hm hk
 have hp : p < (own1 l b i).length := (List.getElem?_eq_some_iff.1 hm).1
 have hle := h.le
 rw [own1_length hle.2] at hp
 obtain ⟨n, hn, ho, ha, hb⟩ := own1_node h (k := p) (by omega)
 rw [ho] at hm
 obtain rfl := Option.some.inj hm
 rw [shN_kind] at hk
 obtain ⟨x, x1, -, x3⟩ := ha hk
 rw [x3]
 refine ⟨by omega, by omega, fun h5 => ?_⟩
 rw [shN_kind] at h5
 obtain ⟨y, y1, -, y3⟩ := hb hk h5
 rw [y3]
 omega
theorem own1_low {l : List Nd} {b i : Nat} (h : Seg l b i) (hl : ∀ j, j < l.length → tallI l j ≤ 60) : ∀ k, k < (own1 l b i).length → tallI (own1 l b i) k ≤ 60 := by
 intro k hk
 have hle := h.le
 rw [own1_length hle.2] at hk
 have e : tallI (own1 l b i) k = tallI l (b + k) := by
  unfold tallI
  rw [tall_more (own1_behind h) (k + 1) k (Nat.le_refl _) (b + k + 1) (by omega), own1_tall h (b + k + 1) k (by omega)]
 rw [e]
 exact hl _ (by omega)
theorem own1_part {pr : Bool × Nat × Nat → ByteArray} {ex : Nat → ByteArray} {l : List Nd} {b i : Nat} (h : Seg l b i) : ∀ f k least : Nat, b + k ≤ i → partP pr ex (own1 l b i) f k least = partP pr ex l f (b + k) least := by
 intro f
 induction f with
 | zero => intro k least _; rfl
 | succ f ih =>
  intro k least hk
  obtain ⟨n, hn, ho, ha, hb⟩ := own1_node h hk
  obtain ⟨s1, s2, s3⟩ := shN_same (-(b : Int)) n
  rw [partP_step ho, partP_step hn, shN_kind]
  congr 1
  unfold bodyP
  rw [shN_kind, s1, s2, s3]
  by_cases k0 : n.kind = 0
  ·rw [if_pos k0, if_pos k0]
  rw [if_neg k0, if_neg k0]
  by_cases k1 : n.kind = 1
  ·rw [if_pos k1, if_pos k1]
  rw [if_neg k1, if_neg k1]
  by_cases k2 : 2 ≤ n.kind
  ·obtain ⟨x, x1, x2, x3⟩ := ha k2
   rw [x2, x3, Int.toNat_natCast, Int.toNat_natCast, ih x 3 (by omega), ih x 5 (by omega), ih x _ (by omega)]
   by_cases h5 : n.kind ≤ 5
   ·obtain ⟨y, y1, y2, y3⟩ := hb k2 h5
    rw [y2, y3, Int.toNat_natCast, Int.toNat_natCast, ih y _ (by omega)]
   ·by_cases k6 : n.kind = 6
    ·rw [if_pos k6, if_pos k6]
    ·rw [if_neg k6, if_neg k6]
     by_cases k7 : n.kind = 7
     ·rw [if_pos k7, if_pos k7]
     ·exfalso
      have hle := h.le
      have key : ∀ b i, Seg l b i → ∀ p m, b ≤ p → p ≤ i → l[p]? = some m → 0 ≤ m.kind ∧ m.kind ≤ 7 := by
       intro b i h
       refine (h (fun b i => Seg l b i ∧ ∀ p m, b ≤ p → p ≤ i → l[p]? = some m → 0 ≤ m.kind ∧ m.kind ≤ 7) ?_ ?_ ?_).2
       ·intro i n hn hk
        refine ⟨Seg.leaf hn hk, fun p m h1 h2 hm => ?_⟩
        obtain rfl : p = i := by omega
        rw [hn] at hm
        obtain rfl := Option.some.inj hm
        omega
       ·intro b i n ⟨hs, ih⟩ hn hk ha
        refine ⟨hs.one hn hk ha, fun p m h1 h2 hm => ?_⟩
        rcases Nat.lt_or_ge i p with q | q
        ·obtain rfl : p = i + 1 := by omega
         rw [hn] at hm
         obtain rfl := Option.some.inj hm
         omega
        ·exact ih p m h1 q hm
       ·intro b j i n ⟨hs, ih⟩ ⟨ht, ih2⟩ hn h2 h5 ha hb
        refine ⟨hs.two ht hn h2 h5 ha hb, fun p m h1 h2' hm => ?_⟩
        rcases Nat.lt_or_ge i p with q | q
        ·obtain rfl : p = i + 1 := by omega
         rw [hn] at hm
         obtain rfl := Option.some.inj hm
         omega
        ·rcases Nat.lt_or_ge j p with q2 | q2
         ·exact ih2 p m q2 q hm
         ·exact ih p m h1 q2 hm
      have := key b i h (b + k) n (by omega) hk hn
      omega
  ·have hkn : n.kind < 0 ∨ n.kind = 0 ∨ n.kind = 1 := by omega
   exfalso
   rcases hkn with q | q | q
   ·have hle := h.le
    have key : ∀ b i, Seg l b i → ∀ p m, b ≤ p → p ≤ i → l[p]? = some m → 0 ≤ m.kind := by
     intro b i h
     refine (h (fun b i => Seg l b i ∧ ∀ p m, b ≤ p → p ≤ i → l[p]? = some m → 0 ≤ m.kind) ?_ ?_ ?_).2
     ·intro i n hn hk
      refine ⟨Seg.leaf hn hk, fun p m h1 h2 hm => ?_⟩
      obtain rfl : p = i := by omega
      rw [hn] at hm
      obtain rfl := Option.some.inj hm
      omega
     ·intro b i n ⟨hs, ih⟩ hn hk ha
      refine ⟨hs.one hn hk ha, fun p m h1 h2 hm => ?_⟩
      rcases Nat.lt_or_ge i p with q | q
      ·obtain rfl : p = i + 1 := by omega
       rw [hn] at hm
       obtain rfl := Option.some.inj hm
       omega
      ·exact ih p m h1 q hm
     ·intro b j i n ⟨hs, ih⟩ ⟨ht, ih2⟩ hn h2 h5 ha hb
      refine ⟨hs.two ht hn h2 h5 ha hb, fun p m h1 h2' hm => ?_⟩
      rcases Nat.lt_or_ge i p with q | q
      ·obtain rfl : p = i + 1 := by omega
       rw [hn] at hm
       obtain rfl := Option.some.inj hm
       omega
      ·rcases Nat.lt_or_ge j p with q2 | q2
       ·exact ih2 p m q2 q hm
       ·exact ih p m h1 q2 hm
    have := key b i h (b + k) n (by omega) hk hn
    omega
   ·exact k0 q
   ·exact k1 q
theorem own1_seg {l : List Nd} {b i : Nat} (h : Seg l b i) : ∀ B I, B ≤ b → i ≤ I → Seg (own1 l B I) (b - B) (i - B) := by
 refine (h (fun b i => Seg l b i ∧ ∀ B I, B ≤ b → i ≤ I → Seg (own1 l B I) (b - B) (i - B)) ?_ ?_ ?_).2
 ·intro i n hn hk
  refine ⟨Seg.leaf hn hk, fun B I h1 h2 => ?_⟩
  refine Seg.leaf (n := shN (-(B : Int)) n) ?_ (by rw [shN_kind]; exact hk)
  rw [own1_get (by omega), show B + (i - B) = i by omega, hn]; rfl
 ·intro b i n ⟨hs, ih⟩ hn hk ha
  have hle := hs.le
  refine ⟨hs.one hn hk ha, fun B I h1 h2 => ?_⟩
  have q := ih B I h1 (by omega)
  rw [show i + 1 - B = (i - B) + 1 by omega]
  refine q.one (n := shN (-(B : Int)) n) ?_ (by rw [shN_kind]; exact hk) (by rw [shN_a (by omega), ha]; omega)
  rw [own1_get (by omega), show B + (i - B + 1) = i + 1 by omega, hn]; rfl
 ·intro b j i n ⟨hs, ih⟩ ⟨ht, ih2⟩ hn h2 h5 ha hb
  have hle := hs.le
  have hle2 := ht.le
  refine ⟨hs.two ht hn h2 h5 ha hb, fun B I h1 h3 => ?_⟩
  have q1 := ih B I h1 (by omega)
  have q2 := ih2 B I (by omega) (by omega)
  rw [show j + 1 - B = (j - B) + 1 by omega] at q2
  rw [show i + 1 - B = (i - B) + 1 by omega]
  refine q1.two q2 (n := shN (-(B : Int)) n) ?_ (by rw [shN_kind]; exact h2) (by rw [shN_kind]; exact h5) (by rw [shN_a h2, ha]; omega) (by rw [shN_b h2 h5, hb]; omega)
  rw [own1_get (by omega), show B + (i - B + 1) = i + 1 by omega, hn]; rfl
end
end Go.Proofs.YtaeladkcmpdkhaaGreatDoor
