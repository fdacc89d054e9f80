/-
  Texts of mine in build order. No conditions of their own.
-/
import Derived.OpenShut
import Derived.Laws.CopyOwn
import Derived.Deep.LoopGhost
import Derived.Test.YtaeladkcmpdkhaaGreatDoorPack3
namespace Go.Proofs.YtaeladkcmpdkhaaGreatDoor
section
open Go.RowKit
theorem infoU32 : (Tryz.prog.info? 85).map (fun i => (i.zero, i.size, i.bytes)) = some (some (.int .u32 0), 1, 4) := by kernel_rfl
def IsWords (w : World) (v : Value) (zs : List Int) : Prop :=
 (v = .slice none 0 0 ∧ zs = []) ∨ ∃ x cap, v = .slice (some x) zs.length cap ∧ zs.length ≤ cap ∧ cap ≤ maxLen ∧ ∀ i, i < zs.length → w.cell? (x.add i) = some (.int .u32 (zs.getD i 0))
def Own (W w : World) (v : Value) (n : Nat) (xs : List Int) : Prop :=
 w.ownsRow W.heap.size 85 1 v n (xs.map (Value.int .u32)) ∧ Below W.heap.size W w
theorem Own.length {W w : World} {v : Value} {n : Nat} {xs : List Int} (h : Own W w v n xs) : xs.length = n := by
 have := h.1.1; simpa using this
theorem Own.words {W w : World} {v : Value} {n : Nat} {xs : List Int} (h : Own W w v n xs) : IsWords w v xs := by
 have hl := h.length
 rcases h.1.2 with ⟨rfl, rfl⟩ | ⟨g, cap, cur, rfl, -, hg, hnc, hcm, -, -⟩
 ·exact .inl ⟨rfl, List.eq_nil_of_length_eq_zero hl⟩
 ·refine .inr ⟨⟨g, 0, none⟩, cap, by rw [hl], by omega, hcm, fun i hi => ?_⟩
  refine h.1.cells (g := g) rfl i _ ?_
  simp [hi]
theorem IsWords.below {w w' : World} {v : Value} {zs : List Int} (h : IsWords w v zs) (hb : Below w.heap.size w w') : IsWords w' v zs := by
 rcases h with h | ⟨x, cap, rfl, h1, h2, hc⟩
 ·exact .inl h
 ·refine .inr ⟨x, cap, rfl, h1, h2, fun i hi => ?_⟩
  have hci := hc i hi
  rw [hb.cell (p := x.add i) (World.block_lt_of_cell? w _ hci)]
  exact hci
theorem IsWords.lit {w : World} {v : Value} {zs : List Int} (h : IsWords w v zs) : ∃ a c, v = .slice a zs.length c := by
 rcases h with ⟨rfl, rfl⟩ | ⟨x, cap, rfl, -⟩
 ·exact ⟨none, 0, rfl⟩
 ·exact ⟨_, _, rfl⟩
theorem Own.lit {W w : World} {v : Value} {n : Nat} {xs : List Int} (h : Own W w v n xs) : ∃ a c, v = .slice a n c := by
 obtain ⟨a, c, e⟩ := h.words.lit
 exact ⟨a, c, by rw [e, h.length]⟩
theorem Own.below {W w : World} {v : Value} {n : Nat} {xs : List Int} (h : Own W w v n xs) : Below W.heap.size W w := h.2
theorem oneCells (ys : List Int) : ∀ u ∈ ys.map (Value.int .u32), u.oneCell' = true := by
 intro u hu
 obtain ⟨y, -, rfl⟩ := List.mem_map.1 hu
 rfl
theorem below_grown {W w w' : World} {v : Value} {n : Nat} {xs : List Int} (h : Own W w v n xs) (hg : w.grownBy w' v.ownBlock) : Below W.heap.size W w' :=
 h.2.grown hg h.2.size (fun k hk => (h.1.lt k hk).1)
theorem wpl_append_words {ops : Array Oper} {rest : List Oper} {o : Oper} {a : Act} {Q : Exit → Act → World → Prop} (s x : Operand)
  (ho : o.op = .call { callee := .builtin .append, args := #[s, x], argTypes := #[43, 43] }) (hgd : Region.wanted o (yielded ops a.tmps) = true)
  (W w : World) (v vx : Value) (n m : Nat) (xs ys : List Int) (hs : a.eval s = v) (hx : a.eval x = vx) (hown : Own W w v n xs) (hsrc : IsWords w vx ys) (hm : ys.length = m) (N : Nat) (hN : n + m = N) (hle : N ≤ 35184372088832)
  (h : ∀ a' c' w', Own W w' (.slice a' N c') N (xs ++ ys) → w.grownBy w' v.ownBlock → wpList Tryz.prog ops Q rest (a.put o.dst (.slice a' N c')) w') : wpList Tryz.prog ops Q (o :: rest) a w := by
 subst hN
 obtain ⟨i, hi, hz, hs1, hby⟩ := info_parts infoU32
 have hmax : n + m ≤ maxLen := by unfold maxLen; omega
 refine wpList_step fun K hK => ?_
 rw [if_pos hgd]
 rcases hsrc with ⟨rfl, rfl⟩ | ⟨ad, c, rfl, -, -, hc⟩
 ·have hrun := run_append_owned_none (P := Tryz.prog) (w := w) W.heap.size 43 o.type 85 i 1 Tryz.underlying43 hi v n _ hown.1
  obtain ⟨a', c', rfl⟩ := hown.lit
  subst hm
  have hK' := hK _ _ (h a' c' w (by simpa using hown) ⟨rfl, rfl, rfl, Nat.le_refl _, fun _ _ _ => rfl⟩)
  unfold Oper.wp
  simp [execOp, ho, resolve, invoke, builtin, hs, hx, hrun, Result.andThen]
  have hK2 : K (a.put o.dst (.slice a' n c')) w := by simpa using hK'
  exact hK2
 ·refine wp_append_own (P := Tryz.prog) w s x 43 ho W.heap.size 85 i (.int .u32 0) 1 4 Tryz.underlying43 hi hz hs1 hby rfl (by decide) v n _ hs hown.1 ad ys.length c (ys.map (Value.int .u32)) hx (by simp) ?_ (oneCells ys) (by omega) (by omega) hown.2.size ?_
  ·intro j u hj
   rw [List.getElem?_map] at hj
   obtain ⟨y, hy, rfl⟩ := Option.map_eq_some_iff.1 hj
   have hlt : j < ys.length := (List.getElem?_eq_some_iff.1 hy).1
   rw [hc j hlt]
   simp [List.getD_eq_getElem?_getD, hy]
  ·intro v' w' h1 h2 _
   subst hm
   have hnew : Own W w' v' (n + ys.length) (xs ++ ys) := ⟨by rw [List.map_append]; exact h1, below_grown hown h2⟩
   obtain ⟨a', c', rfl⟩ := hnew.lit
   exact hK _ _ (h a' c' w' hnew h2)
theorem Own.alloc {W w : World} {v : Value} {n : Nat} {xs : List Int} (h : Own W w v n xs) (o : Obj) : Own W (w.alloc o) v n xs := ⟨h.1.alloc o, h.2.alloc h.2.size o⟩
theorem Own.drew {W w : World} {v : Value} {n : Nat} {xs : List Int} (h : Own W w v n xs) : Own W w.drew v n xs := ⟨h.1, h.2.drew⟩
theorem lit_words (w : World) (xs : List Int) (n : Nat) (hn : xs.length = n) (hm : n ≤ maxLen) :
  IsWords (w.alloc (.cells (xs.map (Value.int .u32)).toArray 85)) (.slice (some ⟨w.heap.size, 0, none⟩) n n) xs := by
 refine .inr ⟨_, n, by rw [hn], by omega, hm, fun i hi => ?_⟩
 rw [Go.WideShapes.add_plain]
 simp [hi]
theorem own_lit (W w : World) (xs : List Int) (n : Nat) (hb : Below W.heap.size W w) (hn : xs.length = n) (hm : n ≤ maxLen) :
  Own W (w.alloc (.cells (xs.map (Value.int .u32)).toArray 85)) (.slice (some ⟨w.heap.size, 0, none⟩) n n) n xs :=
 ⟨by simpa using World.ownsRow_lit (base := W.heap.size) (e := 85) (size := 1) w (xs.map (Value.int .u32)).toArray n hb.size hm (by simp [hn]), hb.alloc hb.size _⟩
end
section
open Go.RowKit
def CameIn (k : IntKind) (w : World) (a : Option Addr) (len cap : Nat) (zs : List Int) : Prop :=
 (a = none ∧ len = 0 ∧ cap = 0 ∧ zs = []) ∨
 ∃ x, a = some x ∧ len ≤ cap ∧ cap ≤ maxLen ∧ zs.length = cap ∧ (∀ i, i < zs.length → w.cell? (x.add i) = some (.int k (zs.getD i 0))) ∧ ∀ n ∈ zs, (Lit.int k n).wf = true
theorem came_reads {k : IntKind} {w : World} {a : Option Addr} {len cap : Nat} {zs : List Int} (h : CameIn k w a len cap zs) :
  Reads k w a len (zs.take len) ∧ len ≤ 9223372036854775807 ∧ len ≤ cap ∧ ∀ n ∈ zs.take len, (Lit.int k n).wf = true := by
 rcases h with ⟨rfl, rfl, rfl, rfl⟩ | ⟨x, rfl, hl, hm, hz, hc, hw⟩
 ·exact ⟨⟨rfl, .inl rfl⟩, by omega, by omega, by simp⟩
 ·refine ⟨⟨by simp; omega, ?_⟩, by unfold maxLen at hm; omega, hl, fun n hn => hw n (List.mem_of_mem_take hn)⟩
  by_cases h0 : len = 0
  ·exact .inl h0
  ·obtain ⟨b, off, rfl, hc'⟩ := Go.ints_at hc (by omega)
   refine .inr ⟨b, off, rfl, fun i hi => ?_⟩
   rw [hc' i (by omega)]
   simp [List.getD_eq_getElem?_getD, hi]
theorem IsWords.reads {w : World} {a : Option Addr} {n c : Nat} {zs : List Int} (h : IsWords w (.slice a n c) zs) : Reads .u32 w a n zs ∧ n ≤ 9223372036854775807 := by
 rcases h with ⟨e, rfl⟩ | ⟨x, cap, e, h1, h2, hc⟩
 ·simp only [Value.slice.injEq] at e
  obtain ⟨rfl, rfl, rfl⟩ := e
  exact ⟨⟨rfl, .inl rfl⟩, by omega⟩
 ·simp only [Value.slice.injEq] at e
  obtain ⟨rfl, rfl, rfl⟩ := e
  refine ⟨⟨rfl, ?_⟩, by unfold maxLen at h2; omega⟩
  by_cases h0 : zs.length = 0
  ·exact .inl h0
  ·obtain ⟨b, off, rfl, hc'⟩ := Go.ints_at hc (by omega)
   exact .inr ⟨b, off, rfl, hc'⟩
theorem limb_low_words (a : Option Addr) (n cap : Nat) (zs : List Int) (w : World) (h : IsWords w (.slice a n cap) zs) :
  Calls Tryz.prog 142 #[.slice a n cap] w fun e w' => e = .returned (.int .i64 (lowN zs n)) ∧ w = w' :=
 limb_low a n cap zs w h.reads.1 h.reads.2
theorem lowN_top (zs : List Int) : ∀ n, lowN zs n = 0 ∨ zs.getD (lowN zs n - 1) 0 ≠ 0
 | 0 => .inl rfl
 | n + 1 => by
  by_cases h : zs.getD n 0 = 0
  ·rw [lowN_zero h]; exact lowN_top zs n
  ·rw [lowN_keep h]; exact .inr (by simpa using h)
end
section
def val : List Int → Nat
 | [] => 0
 | z :: zs => z.toNat + 4294967296 * val zs
def Wd (zs : List Int) : Prop := ∀ z ∈ zs, 0 ≤ z ∧ z < 4294967296
def natOf (n : Nat) : List Int := if h : n = 0 then [] else ((n % 4294967296 : Nat) : Int) :: natOf (n / 4294967296)
def nl (n : Nat) : Nat := (natOf n).length
def nbits (n : Nat) : Nat := if h : n = 0 then 0 else 1 + nbits (n / 2)
theorem natOf_zero : natOf 0 = [] := by rw [natOf]; simp
theorem natOf_pos {n : Nat} (h : n ≠ 0) : natOf n = ((n % 4294967296 : Nat) : Int) :: natOf (n / 4294967296) := by rw [natOf]; simp [h]
theorem val_natOf (n : Nat) : val (natOf n) = n := by
 induction n using Nat.strongRecOn with
 | _ n ih =>
  by_cases h : n = 0
  ·rw [h, natOf_zero]; rfl
  ·rw [natOf_pos h, val, ih (n / 4294967296) (by omega)]; omega
theorem wd_nil : Wd [] := by intro z hz; simp at hz
theorem wd_cons {z : Int} {zs : List Int} (h : Wd (z :: zs)) : 0 ≤ z ∧ z < 4294967296 ∧ Wd zs :=
 ⟨(h z (by simp)).1, (h z (by simp)).2, fun y hy => h y (by simp [hy])⟩
theorem wd_cons' {z : Int} {zs : List Int} (h0 : 0 ≤ z) (h1 : z < 4294967296) (h : Wd zs) : Wd (z :: zs) := by
 intro y hy
 rcases List.mem_cons.1 hy with rfl | hy
 ·exact ⟨h0, h1⟩
 ·exact h y hy
theorem wd_append {a b : List Int} (ha : Wd a) (hb : Wd b) : Wd (a ++ b) := by
 intro z hz
 rcases List.mem_append.1 hz with h | h
 ·exact ha z h
 ·exact hb z h
theorem wd_take {a : List Int} (ha : Wd a) (k : Nat) : Wd (a.take k) := fun z hz => ha z (List.mem_of_mem_take hz)
theorem wd_drop {a : List Int} (ha : Wd a) (k : Nat) : Wd (a.drop k) := fun z hz => ha z (List.mem_of_mem_drop hz)
theorem wd_zeros (k : Nat) : Wd (List.replicate k 0) := fun z hz => by rw [List.eq_of_mem_replicate hz]; omega
theorem wd_set {a : List Int} (ha : Wd a) (k : Nat) {y : Int} (h0 : 0 ≤ y) (h1 : y < 4294967296) : Wd (a.set k y) := by
 intro z hz
 rcases List.mem_or_eq_of_mem_set hz with h | rfl
 ·exact ha z h
 ·exact ⟨h0, h1⟩
theorem wd_one {z : Int} (h0 : 0 ≤ z) (h1 : z < 4294967296) : Wd [z] := wd_cons' h0 h1 wd_nil
theorem wd_getD {a : List Int} (ha : Wd a) (k : Nat) : 0 ≤ a.getD k 0 ∧ a.getD k 0 < 4294967296 := by
 by_cases h : k < a.length
 ·have : a.getD k 0 = a[k] := by simp [List.getD_eq_getElem?_getD, h]
  rw [this]; exact ha _ (List.getElem_mem h)
 ·have : a.getD k 0 = 0 := by simp [List.getD_eq_getElem?_getD, List.getElem?_eq_none (Nat.le_of_not_lt h)]
  rw [this]; omega
theorem wd_natOf (n : Nat) : Wd (natOf n) := by
 induction n using Nat.strongRecOn with
 | _ n ih =>
  by_cases h : n = 0
  ·rw [h, natOf_zero]; exact wd_nil
  ·rw [natOf_pos h]; exact wd_cons' (by omega) (by omega) (ih _ (by omega))
theorem lowN_cons (z : Int) (zs : List Int) : ∀ n, lowN (z :: zs) (n + 1) = if lowN zs n = 0 then (if z = 0 then 0 else 1) else lowN zs n + 1
 | 0 => by simp [lowN]
 | n + 1 => by
  have ih := lowN_cons z zs n
  have e : (z :: zs).getD (n + 1) 0 = zs.getD n 0 := by simp [List.getD_eq_getElem?_getD]
  by_cases h : zs.getD n 0 = 0
  ·rw [lowN_zero (n := n + 1) (by rw [e]; exact h), lowN_zero h, ih]
  ·rw [lowN_keep (n := n + 1) (by rw [e]; exact h), lowN_keep h]; simp
theorem natOf_val (zs : List Int) (h : Wd zs) : natOf (val zs) = zs.take (lowN zs zs.length) := by
 induction zs with
 | nil => simp [val, natOf_zero]
 | cons z zs ih =>
  obtain ⟨h0, h1, hz⟩ := wd_cons h
  have e := ih hz
  have hle := lowN_le zs zs.length
  rw [List.length_cons, lowN_cons]
  by_cases hl : lowN zs zs.length = 0
  ·have hv : val zs = 0 := by rw [← val_natOf (val zs), e, hl]; rfl
   rw [if_pos hl]
   by_cases hz0 : z = 0
   ·rw [if_pos hz0]; simp [val, hv, hz0, natOf_zero]
   ·rw [if_neg hz0]
    have hn : z.toNat ≠ 0 := by omega
    have e1 : val (z :: zs) = z.toNat := by simp [val, hv]
    rw [e1, natOf_pos hn, show z.toNat / 4294967296 = 0 by omega, natOf_zero]
    simp; omega
  ·have hv : val zs ≠ 0 := by
    intro hv
    rw [hv, natOf_zero] at e
    have := congrArg List.length e
    simp [List.length_take] at this
    omega
   rw [if_neg hl]
   have hn : val (z :: zs) ≠ 0 := by simp only [val]; omega
   rw [natOf_pos hn, List.take_succ_cons]
   have e1 : val (z :: zs) % 4294967296 = z.toNat := by simp only [val]; omega
   have e2 : val (z :: zs) / 4294967296 = val zs := by simp only [val]; omega
   rw [e1, e2, e]
   congr 1; omega
theorem nl_val (zs : List Int) (h : Wd zs) : nl (val zs) = lowN zs zs.length := by
 unfold nl; rw [natOf_val zs h, List.length_take]; have := lowN_le zs zs.length; omega
theorem nl_val_le (zs : List Int) (h : Wd zs) : nl (val zs) ≤ zs.length := by rw [nl_val zs h]; exact lowN_le _ _
theorem val_take_low (zs : List Int) (h : Wd zs) : val (zs.take (lowN zs zs.length)) = val zs := by rw [← natOf_val zs h, val_natOf]
theorem natOf_take (zs : List Int) (h : Wd zs) : natOf (val zs) = zs.take (nl (val zs)) := by rw [nl_val zs h]; exact natOf_val zs h
theorem val_lt (zs : List Int) (h : Wd zs) : val zs < 4294967296 ^ zs.length := by
 induction zs with
 | nil => simp [val]
 | cons z zs ih =>
  obtain ⟨h0, h1, hz⟩ := wd_cons h
  have := ih hz
  rw [List.length_cons, Nat.pow_succ, val]
  generalize 4294967296 ^ zs.length = p at this
  omega
theorem nl_zero : nl 0 = 0 := by unfold nl; rw [natOf_zero]; rfl
theorem nl_le : ∀ (k n : Nat), n < 4294967296 ^ k → nl n ≤ k
 | 0, n, h => by rw [Nat.pow_zero] at h; rw [show n = 0 by omega, nl_zero]; omega
 | k + 1, n, h => by
  by_cases h0 : n = 0
  ·rw [h0, nl_zero]; omega
  ·unfold nl
   rw [natOf_pos h0, List.length_cons]
   have : nl (n / 4294967296) ≤ k := nl_le k _ (by rw [Nat.pow_succ] at h; generalize 4294967296 ^ k = p at h ⊢; omega)
   unfold nl at this; omega
theorem lt_nl (n : Nat) : n < 4294967296 ^ nl n := by
 have := val_lt (natOf n) (wd_natOf n)
 rw [val_natOf] at this; exact this
theorem nl_mono {a b : Nat} (h : a ≤ b) : nl a ≤ nl b := nl_le _ _ (Nat.lt_of_le_of_lt h (lt_nl b))
theorem lt_of_nl {a b : Nat} (h : nl a < nl b) : a < b := by
 rcases Nat.lt_or_ge a b with h1 | h1
 ·exact h1
 ·have := nl_mono h1; omega
theorem val_append (a b : List Int) : val (a ++ b) = val a + 4294967296 ^ a.length * val b := by
 induction a with
 | nil => simp [val]
 | cons z a ih =>
  rw [List.cons_append, val, val, ih, List.length_cons, Nat.pow_succ, Nat.mul_comm (4294967296 ^ a.length) 4294967296, Nat.mul_assoc, Nat.mul_add]
  omega
theorem val_snoc (a : List Int) (z : Int) : val (a ++ [z]) = val a + z.toNat * 4294967296 ^ a.length := by
 rw [val_append]; simp [val, Nat.mul_comm]
theorem val_zeros (k : Nat) : val (List.replicate k 0) = 0 := by
 induction k with
 | zero => rfl
 | succ k ih => rw [List.replicate_succ, val, ih]; rfl
theorem val_append_zeros (a : List Int) (k : Nat) : val (a ++ List.replicate k 0) = val a := by rw [val_append, val_zeros]; simp
theorem val_split (a : List Int) (m : Nat) : val a = val (a.take m) + 4294967296 ^ m * val (a.drop m) := by
 by_cases h : m ≤ a.length
 ·have := val_append (a.take m) (a.drop m)
  rw [List.take_append_drop, List.length_take, Nat.min_eq_left h] at this
  exact this
 ·rw [List.take_of_length_le (by omega), List.drop_eq_nil_of_le (by omega)]; simp [val]
theorem val_drop (a : List Int) (m : Nat) : val (a.drop m) = (a.getD m 0).toNat + 4294967296 * val (a.drop (m + 1)) := by
 by_cases h : m < a.length
 ·rw [List.drop_eq_getElem_cons h, val]; simp [List.getD_eq_getElem?_getD, h]
 ·rw [List.drop_eq_nil_of_le (by omega), List.drop_eq_nil_of_le (by omega)]
  simp [val, List.getD_eq_getElem?_getD, List.getElem?_eq_none (Nat.le_of_not_lt h)]
theorem val_take_succ (a : List Int) (k : Nat) : val (a.take (k + 1)) = val (a.take k) + (a.getD k 0).toNat * 4294967296 ^ k := by
 by_cases h : k < a.length
 ·rw [List.take_succ_eq_append_getElem h, val_snoc, List.length_take, Nat.min_eq_left (by omega)]
  simp [List.getD_eq_getElem?_getD, h]
 ·rw [List.take_of_length_le (by omega), List.take_of_length_le (by omega)]
  simp [List.getD_eq_getElem?_getD, List.getElem?_eq_none (Nat.le_of_not_lt h)]
theorem val_set : ∀ (a : List Int) (k : Nat) (y : Int), k < a.length → val (a.set k y) + (a.getD k 0).toNat * 4294967296 ^ k = val a + y.toNat * 4294967296 ^ k
 | [], k, y, h => by simp at h
 | z :: a, 0, y, h => by simp [val]; omega
 | z :: a, k + 1, y, h => by
  have ih := val_set a k y (by simpa using h)
  have e : (z :: a).getD (k + 1) 0 = a.getD k 0 := by simp [List.getD_eq_getElem?_getD]
  rw [List.set_cons_succ, val, val, e, Nat.pow_succ, ← Nat.mul_assoc, ← Nat.mul_assoc]
  generalize (a.getD k 0).toNat * 4294967296 ^ k = p at ih ⊢
  generalize y.toNat * 4294967296 ^ k = q at ih ⊢
  omega
theorem val_take_lt (a : List Int) (h : Wd a) (m : Nat) : val (a.take m) < 4294967296 ^ m := by
 have h1 := val_lt (a.take m) (wd_take h m)
 exact Nat.lt_of_lt_of_le h1 (Nat.pow_le_pow_right (by omega) (by rw [List.length_take]; omega))
theorem val_take_all (a : List Int) (m : Nat) (hm : val a < 4294967296 ^ m) : val (a.take m) = val a := by
 have h1 := val_split a m
 have : val (a.drop m) = 0 := by
  rcases Nat.eq_zero_or_pos (val (a.drop m)) with h | h
  ·exact h
  ·have := Nat.mul_le_mul_left (4294967296 ^ m) h
   omega
 rw [this] at h1; omega
theorem val_decides (a b : List Int) (ha : Wd a) (m : Nat) (hd : val (a.drop (m + 1)) = val (b.drop (m + 1))) (hm : a.getD m 0 < b.getD m 0) : val a < val b := by
 have h1 := val_split a m
 have h2 := val_split b m
 have h3 := val_take_lt a ha m
 have h4 := (wd_getD ha m).1
 rw [val_drop, hd] at h1
 rw [val_drop b m] at h2
 have h5 : (a.getD m 0).toNat + 4294967296 * val (b.drop (m + 1)) + 1 ≤ (b.getD m 0).toNat + 4294967296 * val (b.drop (m + 1)) := by omega
 have h6 := Nat.mul_le_mul_left (4294967296 ^ m) h5
 rw [Nat.mul_add, Nat.mul_one] at h6
 omega
theorem sub_step {p : Nat} {S S' A B x y b c c' : Nat} (hs : S' + x * p = S + y * p) (hi : S + B = A + c * p) (hy : y + b + c = x + 4294967296 * c') :
  S' + (B + b * p) = A + c' * (p * 4294967296) := by
 have e : (y + b + c) * p = (x + 4294967296 * c') * p := by rw [hy]
 rw [Nat.add_mul, Nat.add_mul, Nat.add_mul] at e
 have e2 : c' * (p * 4294967296) = 4294967296 * c' * p := by rw [Nat.mul_comm p, ← Nat.mul_assoc, Nat.mul_comm c']
 rw [e2]; omega
theorem nbits_zero : nbits 0 = 0 := by rw [nbits]; simp
theorem nbits_pos {n : Nat} (h : n ≠ 0) : nbits n = 1 + nbits (n / 2) := by rw [nbits]; simp [h]
theorem nbits_shift : ∀ (k x : Nat), 2 ^ k ≤ x → nbits x = k + nbits (x / 2 ^ k)
 | 0, x, _ => by simp
 | k + 1, x, h => by
  rw [Nat.pow_succ] at h
  have h2 : 2 ^ k ≤ x / 2 := by generalize 2 ^ k = p at h ⊢; omega
  have hp : 0 < 2 ^ k := Nat.pow_pos (by omega)
  rw [nbits_pos (by omega), nbits_shift k (x / 2) h2, Nat.div_div_eq_div_mul, Nat.pow_succ, Nat.mul_comm 2]
  omega
theorem nbits_bitLen (x : Nat) (h : x < 18446744073709551616) : Lib.bitLen x = nbits x := by
 induction x using Nat.strongRecOn with
 | _ x ih =>
  by_cases h0 : x = 0
  ·rw [h0, nbits_zero]; rfl
  ·rw [nbits_pos h0, Lib.bitLen_half x h0 h, ih (x / 2) (by omega) (by omega)]
theorem lt_nbits (n : Nat) : n < 2 ^ nbits n := by
 induction n using Nat.strongRecOn with
 | _ n ih =>
  by_cases h0 : n = 0
  ·rw [h0]; exact Nat.pow_pos (by omega)
  ·have := ih (n / 2) (by omega)
   rw [nbits_pos h0, Nat.pow_add]
   generalize 2 ^ nbits (n / 2) = p at this
   omega
theorem nbits_le : ∀ (k n : Nat), n < 2 ^ k → nbits n ≤ k
 | 0, n, h => by rw [Nat.pow_zero] at h; rw [show n = 0 by omega, nbits_zero]; omega
 | k + 1, n, h => by
  by_cases h0 : n = 0
  ·rw [h0, nbits_zero]; omega
  ·rw [nbits_pos h0]
   have := nbits_le k (n / 2) (by rw [Nat.pow_succ] at h; generalize 2 ^ k = p at h ⊢; omega)
   omega
theorem pow_word (k : Nat) : 4294967296 ^ k = 2 ^ (32 * k) := by rw [Nat.pow_mul]
theorem nbits_top (zs : List Int) (h : Wd zs) (k : Nat) (hk : lowN zs zs.length = k + 1) : nbits (val zs) = 32 * k + nbits (zs.getD k 0).toNat := by
 have hl := lowN_le zs zs.length
 have h0 : val zs = val (zs.take (k + 1)) := by rw [← hk, val_take_low zs h]
 have h1 := val_take_succ zs k
 have h2 := val_take_lt zs h k
 have h3 : zs.getD k 0 ≠ 0 := by
  rcases lowN_top zs zs.length with h | h
  ·omega
  ·rw [hk] at h; simpa using h
 have h4 := (wd_getD h k).1
 have hp : 0 < 4294967296 ^ k := Nat.pow_pos (by omega)
 have h5 : 1 * 4294967296 ^ k ≤ (zs.getD k 0).toNat * 4294967296 ^ k := Nat.mul_le_mul_right _ (by omega)
 have e : val zs / 4294967296 ^ k = (zs.getD k 0).toNat := by
  rw [h0, h1, Nat.add_mul_div_right _ _ hp, Nat.div_eq_of_lt h2]; omega
 rw [nbits_shift (32 * k) (val zs) (by rw [← pow_word]; omega), ← pow_word, e]
theorem nl_pos {A : Nat} (h : 0 < A) : 0 < nl A := by
 rcases Nat.eq_zero_or_pos (nl A) with h0 | h0
 ·have := lt_nl A; rw [h0] at this; omega
 ·exact h0
end
section
open Go.RowKit
theorem IsWords.len {w : World} {a : Option Addr} {n c : Nat} {zs : List Int} (h : IsWords w (.slice a n c) zs) : zs.length = n := h.reads.1.1
theorem IsWords.cap {w : World} {a : Option Addr} {n c : Nat} {zs : List Int} (h : IsWords w (.slice a n c) zs) : n ≤ c ∧ c ≤ 9223372036854775807 := by
 rcases h with ⟨e, rfl⟩ | ⟨x, cap, e, h1, h2, -⟩
 ·simp only [Value.slice.injEq] at e; omega
 ·simp only [Value.slice.injEq] at e; unfold maxLen at h2; omega
theorem IsWords.take {w : World} {a : Option Addr} {n c : Nat} {zs : List Int} (h : IsWords w (.slice a n c) zs) (k : Nat) (hk : k ≤ n) : IsWords w (.slice a k c) (zs.take k) := by
 have hl := h.len
 rcases h with ⟨e, rfl⟩ | ⟨x, cap, e, h1, h2, hc⟩
 ·simp only [Value.slice.injEq] at e
  obtain ⟨rfl, rfl, rfl⟩ := e
  obtain rfl : k = 0 := by omega
  exact .inl ⟨rfl, rfl⟩
 ·simp only [Value.slice.injEq] at e
  obtain ⟨rfl, rfl, rfl⟩ := e
  have e2 : (zs.take k).length = k := by rw [List.length_take]; omega
  refine .inr ⟨x, c, by rw [e2], by omega, h2, fun i hi => ?_⟩
  rw [e2] at hi
  rw [hc i (by omega)]
  simp [List.getD_eq_getElem?_getD, hi]
theorem Own.take {W w : World} {a : Option Addr} {n c : Nat} {xs : List Int} (h : Own W w (.slice a n c) n xs) (k : Nat) (hk : k ≤ n) : Own W w (.slice a k c) k (xs.take k) := by
 have hl := h.length
 refine ⟨⟨?_, ?_⟩, h.2⟩
 ·simp [List.length_take]; omega
 ·rcases h.1.2 with ⟨e, rfl⟩ | ⟨g, cap, cur, e, hb, hg, hnc, hcm, hcs, ht⟩
  ·simp only [Value.slice.injEq] at e
   obtain ⟨rfl, -, rfl⟩ := e
   obtain rfl : k = 0 := by omega
   exact .inl ⟨rfl, rfl⟩
  ·simp only [Value.slice.injEq] at e
   obtain ⟨rfl, -, rfl⟩ := e
   refine .inr ⟨g, c, cur, rfl, hb, hg, by omega, hcm, hcs, ?_⟩
   rw [Nat.mul_one] at ht ⊢
   rw [List.map_take, ← ht, List.take_take, Nat.min_eq_left hk]
theorem nat_right (a : Option Addr) (n c : Nat) (zs : List Int) (w : World) (h : IsWords w (.slice a n c) zs) (L : Nat) (hL : lowN zs n = L) :
  Calls Tryz.prog 114 #[.slice a n c] w fun e w' => e = .returned (.slice a L c) ∧ w = w' := by
 have hle : L ≤ n := by rw [← hL]; exact lowN_le _ _
 have hcap := h.cap
 have C := limb_low_words a n c zs w h
 rw [hL] at C
 have h1 : (0 : Int) ≤ L := by omega
 have h2 : (L : Int) ≤ c := by omega
 have hs : a = none → L = 0 ∧ c = 0 := by
  rintro rfl
  rcases h with ⟨e, rfl⟩ | ⟨x, cap, e, -⟩
  ·simp only [Value.slice.injEq] at e; omega
  ·simp at e
 clear h hL
 rcases a with _ | x
 ·obtain ⟨rfl, rfl⟩ := hs rfl
  go_enter Tryz.func114, Tryz.ntmps114
  go_wp2_with (go_at_call 142; with_reducible refine Calls.mono C ?_; rintro e w1 ⟨rfl, rfl⟩)
  go_ret
  exact ⟨rfl, rfl⟩
 ·clear hs
  go_enter Tryz.func114, Tryz.ntmps114
  go_wp2_with (go_at_call 142; with_reducible refine Calls.mono C ?_; rintro e w1 ⟨rfl, rfl⟩)
  go_ret
  exact ⟨rfl, rfl⟩
theorem nat_word (a : Option Addr) (n c : Nat) (zs : List Int) (w : World) (h : IsWords w (.slice a n c) zs) (k : Nat) (hk : k ≤ 9223372036854775807) (z : Int) (hz : zs.getD k 0 = z) :
  Calls Tryz.prog 244 #[.slice a n c, .int .i64 k] w fun e w' => e = .returned (.int .u32 z) ∧ w = w' := by
 obtain ⟨⟨hl, hr⟩, hn⟩ := h.reads
 by_cases hlt : k < n
 ·rcases hr with h0 | ⟨b, off, rfl, hc⟩
  ·omega
  ·have hck := hc k hlt
   rw [hz] at hck
   clear hc hz h
   go_enter Tryz.func244, Tryz.ntmps244
   go_wp2
   go_ret
   exact ⟨rfl, rfl⟩
 ·have : z = 0 := by rw [← hz]; simp [List.getD_eq_getElem?_getD, List.getElem?_eq_none (by omega : zs.length ≤ k)]
  subst this
  clear h hr hz
  go_enter Tryz.func244, Tryz.ntmps244
  go_wp2
  go_ret
  exact ⟨rfl, rfl⟩
theorem ret_bool {a b : Bool} (h : a = b) : Ending.returned (.bool a) = .returned (.bool b) := by rw [h]
theorem nat_Right (a : Option Addr) (n c : Nat) (zs : List Int) (w : World) (h : IsWords w (.slice a n c) zs) (r : Bool) (hr : decide (lowN zs n = n) = r) :
  Calls Tryz.prog 183 #[.slice a n c] w fun e w' => e = .returned (.bool r) ∧ w = w' := by
 have C := limb_low_words a n c zs w h
 have hle := lowN_le zs n
 have hn := h.reads.2
 clear h
 generalize lowN zs n = L at C hle hr
 subst hr
 go_enter Tryz.func183, Tryz.ntmps183
 go_wp2_with (go_at_call 142; with_reducible refine Calls.mono C ?_; rintro e w1 ⟨rfl, rfl⟩)
 go_ret
 exact ⟨ret_bool (by rw [Bool.eq_iff_iff]; simp; omega), rfl⟩
def sgn (a b : Int) : Int := if a < b then -1 else if b < a then 1 else 0
theorem sgn_lt {a b : Int} (h : a < b) : sgn a b = -1 := by unfold sgn; rw [if_pos h]
theorem sgn_gt {a b : Int} (h : b < a) : sgn a b = 1 := by unfold sgn; rw [if_neg (by omega), if_pos h]
theorem sgn_eq {a b : Int} (h : a = b) : sgn a b = 0 := by unfold sgn; rw [if_neg (by omega), if_neg (by omega)]
theorem nan_int (a : Int) (w : World) : Calls Tryz.prog 143 #[.int .i64 a] w fun e w' => e = .returned (.bool false) ∧ w = w' := by
 go_enter Tryz.func143, Tryz.ntmps143
 go_wp2
 go_ret
 exact ⟨by simp, rfl⟩
theorem nan_u32 (a : Int) (w : World) : Calls Tryz.prog 144 #[.int .u32 a] w fun e w' => e = .returned (.bool false) ∧ w = w' := by
 go_enter Tryz.func144, Tryz.ntmps144
 go_wp2
 go_ret
 exact ⟨by simp, rfl⟩
theorem compare_int (a b : Int) (w : World) : Calls Tryz.prog 115 #[.int .i64 a, .int .i64 b] w fun e w' => e = .returned (.int .i64 (sgn a b)) ∧ w = w' := by
 rcases Int.lt_trichotomy a b with h | h | h
 ·go_enter Tryz.func115, Tryz.ntmps115
  go_wp2_with (go_at_call 143; refine (nan_int _ _).mono ?_; rintro e w1 ⟨rfl, rfl⟩)
  go_ret
  exact ⟨ret_int (sgn_lt h).symm, rfl⟩
 ·subst h
  go_enter Tryz.func115, Tryz.ntmps115
  go_wp2_with (go_at_call 143; refine (nan_int _ _).mono ?_; rintro e w1 ⟨rfl, rfl⟩)
  go_ret
  exact ⟨ret_int (sgn_eq rfl).symm, rfl⟩
 ·have h' : ¬ a < b := by omega
  go_enter Tryz.func115, Tryz.ntmps115
  go_wp2_with (go_at_call 143; refine (nan_int _ _).mono ?_; rintro e w1 ⟨rfl, rfl⟩)
  go_ret
  exact ⟨ret_int (sgn_gt h).symm, rfl⟩
theorem compare_u32 (a b : Int) (w : World) : Calls Tryz.prog 116 #[.int .u32 a, .int .u32 b] w fun e w' => e = .returned (.int .i64 (sgn a b)) ∧ w = w' := by
 rcases Int.lt_trichotomy a b with h | h | h
 ·go_enter Tryz.func116, Tryz.ntmps116
  go_wp2_with (go_at_call 144; refine (nan_u32 _ _).mono ?_; rintro e w1 ⟨rfl, rfl⟩)
  go_ret
  exact ⟨ret_int (sgn_lt h).symm, rfl⟩
 ·subst h
  go_enter Tryz.func116, Tryz.ntmps116
  go_wp2_with (go_at_call 144; refine (nan_u32 _ _).mono ?_; rintro e w1 ⟨rfl, rfl⟩)
  go_ret
  exact ⟨ret_int (sgn_eq rfl).symm, rfl⟩
 ·have h' : ¬ a < b := by omega
  go_enter Tryz.func116, Tryz.ntmps116
  go_wp2_with (go_at_call 144; refine (nan_u32 _ _).mono ?_; rintro e w1 ⟨rfl, rfl⟩)
  go_ret
  exact ⟨ret_int (sgn_gt h).symm, rfl⟩
end
section
open Go.RowKit
theorem Own.more {W w w' : World} {v : Value} {n : Nat} {xs : List Int} (h : Own W w v n xs) (hb : Below w.heap.size w w') : Own W w' v n xs := by
 refine ⟨⟨h.1.1, ?_⟩, h.2.trans (hb.mono h.2.size)⟩
 rcases h.1.2 with h0 | ⟨g, cap, cur, e, h1, hg, h2⟩
 ·exact .inl h0
 ·refine .inr ⟨g, cap, cur, e, h1, ?_, h2⟩
  rw [hb.block g (Array.getElem?_eq_some_iff.1 hg).1]; exact hg
theorem Own.outer {V W w : World} {v : Value} {n : Nat} {xs : List Int} (h : Own W w v n xs) (hb : Below V.heap.size V W) : Own V w v n xs := by
 refine ⟨⟨h.1.1, ?_⟩, below_more hb h.2⟩
 rcases h.1.2 with h0 | ⟨g, cap, cur, e, h1, h2⟩
 ·exact .inl h0
 ·exact .inr ⟨g, cap, cur, e, Nat.le_trans hb.size h1, h2⟩
theorem Own.nil {W w : World} (h : Below W.heap.size W w) : Own W w (.slice none 0 0) 0 [] := ⟨World.ownsRow_nil _ _ _ _, h⟩
theorem Own.cell {W w : World} {g n c : Nat} {xs : List Int} (h : Own W w (.slice (some ⟨g, 0, none⟩) n c) n xs) (k : Nat) (hk : k < n) :
  w.cell? ⟨g, k, none⟩ = some (.int .u32 (xs.getD k 0)) ∧ w.frozen? ⟨g, k, none⟩ = false ∧ W.heap.size ≤ g ∧ g < w.heap.size := by
 have hl := h.length
 rcases h.1.2 with ⟨e, -⟩ | ⟨g', cap, cur, e, h1, hg, h2, h3, h4, h5⟩
 ·simp at e
 ·simp only [Value.slice.injEq, Option.some.injEq, Addr.mk.injEq] at e
  obtain ⟨⟨rfl, -⟩, -, rfl⟩ := e
  have hc := h.1.cells (g := g) rfl k (.int .u32 (xs.getD k 0)) (by simp [List.getD_eq_getElem?_getD, show k < xs.length by omega])
  rw [Go.WideShapes.add_plain, Nat.zero_add] at hc
  refine ⟨hc, ?_, h1, (Array.getElem?_eq_some_iff.1 hg).1⟩
  simp [World.frozen?, hg]
theorem Own.at0 {W w : World} {a : Option Addr} {n c : Nat} {xs : List Int} (h : Own W w (.slice a n c) n xs) (hn : 0 < n) : ∃ g, a = some ⟨g, 0, none⟩ := by
 rcases h.1.2 with ⟨e, -⟩ | ⟨g, cap, cur, e, -⟩
 ·simp only [Value.slice.injEq] at e; omega
 ·simp only [Value.slice.injEq] at e; exact ⟨g, e.1⟩
theorem Own.set {W w : World} {g n c : Nat} {xs : List Int} (h : Own W w (.slice (some ⟨g, 0, none⟩) n c) n xs) (k : Nat) (y : Int) :
  Own W (w.setCell ⟨g, k, none⟩ (.int .u32 y)) (.slice (some ⟨g, 0, none⟩) n c) n (xs.set k y) := by
 have hl := h.length
 rcases h.1.2 with ⟨e, -⟩ | ⟨g', cap, cur, e, h1, hg, h2, h3, h4, h5⟩
 ·simp at e
 ·simp only [Value.slice.injEq, Option.some.injEq, Addr.mk.injEq] at e
  obtain ⟨⟨rfl, -⟩, -, rfl⟩ := e
  refine ⟨⟨by simp; omega, .inr ⟨g, c, cur.setIfInBounds k (.int .u32 y), rfl, h1, ?_, h2, h3, by simpa using h4, ?_⟩⟩, h.2.setCell h1 _⟩
  ·have hlt := (Array.getElem?_eq_some_iff.1 hg).1
   have hv := (Array.getElem?_eq_some_iff.1 hg).2
   simp only [World.setCell]
   rw [Array.getElem?_eq_getElem (by simpa using hlt), Array.getElem_modify]
   simp [hv]
  ·rw [Array.toList_setIfInBounds, List.take_set, h5, List.map_set]
theorem wpl_make_words {ops : Array Oper} {rest : List Oper} {o : Oper} {a : Act} {Q : Exit → Act → World → Prop} (l : Operand)
  (ho : o.op = .makeSlice 43 l l) (hgd : o.guard = none) (W w : World) (n : Nat) (N : Int) (hl : a.eval l = .int .i64 N) (hN : N = n) (hle : n ≤ 35184372088832) (hb : Below W.heap.size W w)
  (h : ∀ g w', W.heap.size ≤ g → Own W w' (.slice (some ⟨g, 0, none⟩) n n) n (List.replicate n 0) → wpList Tryz.prog ops Q rest (a.put o.dst (.slice (some ⟨g, 0, none⟩) n n)) w') : wpList Tryz.prog ops Q (o :: rest) a w := by
 obtain ⟨i, hi, hz, hs1, hby⟩ := info_parts infoU32
 refine wpList_make_full w hgd l l 43 ho W.heap.size 85 i (.int .u32 0) 1 Tryz.underlying43 hi hz hs1 .i64 .i64 N N n hl hl hN hN (by rw [hby]; omega) (by unfold maxLen; omega) hb.size ?_
 intro w' h1 h2
 refine h _ w' hb.size ⟨?_, hb.grown h2 hb.size (fun k e => by cases e)⟩
 have e : (madeCells (Value.int .u32 0).cells (n * 1)).toList = (List.replicate n (0 : Int)).map (Value.int .u32) := by
  apply List.ext_getElem?
  intro j
  by_cases hj : j < n
  ·simp [madeCells, Value.cells, hj, Nat.mod_one]
  ·simp [madeCells, Value.cells, hj]
 rw [← e]; exact h1
theorem wpl_copy_words {ops : Array Oper} {rest : List Oper} {o : Oper} {a : Act} {Q : Exit → Act → World → Prop} (d s : Operand)
  (ho : o.op = .call { callee := .builtin .copy, args := #[d, s], argTypes := #[43, 43] }) (hgd : o.guard = none)
  (W w : World) (g n c m : Nat) (vs : Value) (xs ys : List Int) (hown : Own W w (.slice (some ⟨g, 0, none⟩) n c) n xs) (hsrc : IsWords w vs ys) (hd : a.eval d = .slice (some ⟨g, 0, none⟩) n c) (hs : a.eval s = vs) (hm : ys.length = m) (hle : m ≤ n)
  (h : ∀ w', Own W w' (.slice (some ⟨g, 0, none⟩) n c) n (ys ++ xs.drop m) → wpList Tryz.prog ops Q rest (a.put o.dst (.int .i64 m)) w') : wpList Tryz.prog ops Q (o :: rest) a w := by
 obtain ⟨i, hi, hz, hs1, hby⟩ := info_parts infoU32
 have hl := hown.length
 rcases hown.1.2 with ⟨e, -⟩ | ⟨g', cap, cur, e, h1, hg, h2, h3, h4, h5⟩
 ·simp at e
 simp only [Value.slice.injEq, Option.some.injEq, Addr.mk.injEq] at e
 obtain ⟨⟨rfl, -⟩, -, rfl⟩ := e
 obtain ⟨sp, sc, rfl⟩ := hsrc.lit
 subst hm
 have hmin : Nat.min ys.length n = ys.length := Nat.min_eq_left hle
 refine wpList_copy_splice hgd d s 43 43 ho 85 Tryz.underlying43 (by rw [hi]; simp [hs1]) _ sp n c ys.length sc hd hs g 0 cur.toList 85 (by simpa using hg) (ys.map (Value.int .u32)) (by rw [List.length_map, hmin]) ?_ (by simp; omega) (oneCells ys) W.heap.size W hown.2 h1 ?_
 ·intro hpos
  refine ⟨rfl, ?_⟩
  rcases hsrc with ⟨e, rfl⟩ | ⟨x, cap, e, -, -, hc⟩
  ·simp at hpos
  ·simp only [Value.slice.injEq] at e
   obtain ⟨rfl, -, -⟩ := e
   refine ⟨x, rfl, fun j v hj => ?_⟩
   rw [List.getElem?_map] at hj
   obtain ⟨y, hy, rfl⟩ := Option.map_eq_some_iff.1 hj
   rw [hc j (List.getElem?_eq_some_iff.1 hy).1]
   simp [List.getD_eq_getElem?_getD, hy]
 ·intro w' hw' hb'
  have hw := hw'.out
  have e : (Value.int .i64 ys.length) = goInt (ys.map (Value.int .u32)).length := by simp [goInt]
  rw [← e]
  refine h w' ⟨⟨by simp; omega, .inr ⟨g, c, _, rfl, h1, hw, h2, h3, ?_, ?_⟩⟩, hb'⟩
  ·simp [splice]; omega
  ·rw [Nat.mul_one] at h5 ⊢
   simp only [splice, List.take_zero, List.nil_append, Nat.zero_add, List.length_map]
   rw [List.map_append, List.map_drop, ← h5]
   rw [List.take_append, List.length_map, List.take_of_length_le (by simp; omega), List.drop_take]
end
section
open Go.RowKit
def OwnA (W : World) (B : Nat) (w : World) (v : Value) (n : Nat) (xs : List Int) : Prop := w.ownsRow B 85 1 v n (xs.map (Value.int .u32)) ∧ Below W.heap.size W w
theorem Own.above {W V w : World} {v : Value} {n : Nat} {xs : List Int} (h : Own V w v n xs) (hb : Below W.heap.size W V) : OwnA W V.heap.size w v n xs := ⟨h.1, below_more hb h.2⟩
theorem OwnA.set {W w : World} {B : Nat} {v : Value} {n : Nat} {xs : List Int} (h : OwnA W B w v n xs) {k : Nat} (h1 : W.heap.size ≤ k) (h2 : k < B) (i : Nat) (x : Value) : OwnA W B (w.setCell ⟨k, i, none⟩ x) v n xs := by
 refine ⟨⟨h.1.1, ?_⟩, h.2.setCell h1 _⟩
 rcases h.1.2 with h0 | ⟨g, cap, cur, e, h3, hg, h4⟩
 ·exact .inl h0
 ·refine .inr ⟨g, cap, cur, e, h3, ?_, h4⟩
  rw [Below.heap_setCell w ⟨k, i, none⟩ x g (by simp; omega)]; exact hg
theorem OwnA.own {W w : World} {B : Nat} {v : Value} {n : Nat} {xs : List Int} (h : OwnA W B w v n xs) (hB : W.heap.size ≤ B) : Own W w v n xs := by
 refine ⟨⟨h.1.1, ?_⟩, h.2⟩
 rcases h.1.2 with h0 | ⟨g, cap, cur, e, h1, h2⟩
 ·exact .inl h0
 ·exact .inr ⟨g, cap, cur, e, Nat.le_trans hB h1, h2⟩
end
section
open Go.RowKit
def tcA (t : Tok) : Array Value := #[.int .i64 t.1, .string t.2.1, .int .i64 t.2.2.1, .int .i64 t.2.2.2]
def tcs : List Tok → List Value
 | [] => []
 | t :: l => (tcA t).toList ++ tcs l
theorem tcs_length (l : List Tok) : (tcs l).length = l.length * 4 := by
 induction l with
 | nil => rfl
 | cons t l ih => simp [tcs, tcA, ih]; omega
theorem tcs_append (l m : List Tok) : tcs (l ++ m) = tcs l ++ tcs m := by
 induction l with
 | nil => rfl
 | cons t l ih => simp [tcs, ih]
theorem infoTok : (Tryz.prog.info? 110).map (fun i => (i.zero, i.size, i.bytes)) = some (some (.agg #[.int .i64 0, .string ⟨#[]⟩, .int .i64 0, .int .i64 0]), 4, 40) := by kernel_rfl
def OwnT (W w : World) (v : Value) (n : Nat) (l : List Tok) : Prop := w.ownsRow W.heap.size 110 4 v n (tcs l) ∧ Below W.heap.size W w
theorem OwnT.length {W w : World} {v : Value} {n : Nat} {l : List Tok} (h : OwnT W w v n l) : l.length = n := by
 have := h.1.1; rw [tcs_length] at this; omega
theorem OwnT.below {W w : World} {v : Value} {n : Nat} {l : List Tok} (h : OwnT W w v n l) : Below W.heap.size W w := h.2
theorem OwnT.nil {W w : World} (h : Below W.heap.size W w) : OwnT W w (.slice none 0 0) 0 [] := ⟨World.ownsRow_nil _ _ _ _, h⟩
theorem OwnT.more {W w w' : World} {v : Value} {n : Nat} {l : List Tok} (h : OwnT W w v n l) (hb : Below w.heap.size w w') : OwnT W w' v n l := by
 refine ⟨⟨h.1.1, ?_⟩, below_more h.2 hb⟩
 rcases h.1.2 with h0 | ⟨g, cap, cur, e, h1, hg, h2⟩
 ·exact .inl h0
 ·refine .inr ⟨g, cap, cur, e, h1, ?_, h2⟩
  rw [hb.block g (Array.getElem?_eq_some_iff.1 hg).1]; exact hg
theorem OwnT.alloc {W w : World} {v : Value} {n : Nat} {l : List Tok} (h : OwnT W w v n l) (o : Obj) : OwnT W (w.alloc o) v n l := h.more ((Below.refl _ _).alloc (Nat.le_refl _) _)
theorem OwnT.lit {W w : World} {v : Value} {n : Nat} {l : List Tok} (h : OwnT W w v n l) : ∃ a c, v = .slice a n c := by
 rcases h.1.2 with ⟨rfl, rfl⟩ | ⟨g, cap, cur, rfl, -⟩
 ·exact ⟨none, 0, rfl⟩
 ·exact ⟨_, _, rfl⟩
theorem OwnT.box {W w : World} {v : Value} {n : Nat} {l : List Tok} (h : OwnT W w v n l) {k : Nat} {cs : Array Value} {T : TypeId} (B : BoxC w k cs T) (hT : T ≠ 110) (hk : W.heap.size ≤ k) (i : Nat) (x : Value) : OwnT W (w.setCell ⟨k, i, none⟩ x) v n l := by
 refine ⟨⟨h.1.1, ?_⟩, h.2.setCell (p := ⟨k, i, none⟩) hk _⟩
 rcases h.1.2 with h0 | ⟨g, cap, cur, e, h3, hg, h4⟩
 ·exact .inl h0
 ·refine .inr ⟨g, cap, cur, e, h3, ?_, h4⟩
  have hne : g ≠ k := by
   intro e1
   subst e1
   unfold BoxC at B
   rw [B] at hg
   simp at hg
   exact hT hg.2
  rw [Below.heap_setCell w ⟨k, i, none⟩ x g (by simpa using hne)]; exact hg
theorem BoxC.grown {w w' : World} {k : Nat} {cs : Array Value} {T : TypeId} {row : Option Nat} (h : BoxC w k cs T) (hg : w.grownBy w' row) (hne : row ≠ some k) : BoxC w' k cs T := by
 have := hg.block k h.lt (Ne.symm hne)
 unfold BoxC at h ⊢
 rw [this]; exact h
end
section
open Go.RowKit Go.Lib
theorem nameF_step {s : ByteArray} {i : Nat} (h : i < s.size) : nameF s (s.size + 1) i = if (kindI (nextR s i) ≠ 1 ∧ kindI (nextR s i) ≠ 2) ∨ (kindI (nextR s i) = 2 ∧ i = 0) then false else nameF s (s.size + 1) (i + nextN s i) := by
 have hn := next_size h
 show (if i < s.size then _ else _) = _
 rw [if_pos h, nameF_more s s.size (i + nextN s i) (by omega) (s.size + 1) (by omega)]
theorem nameF_end {s : ByteArray} {i : Nat} (h : ¬ i < s.size) : nameF s (s.size + 1) i = true := by
 show (if i < s.size then _ else _) = _
 rw [if_neg h]
end
section
open Go.RowKit Go.Lib
def AnsL (W : World) (p : Int × Int) (e : Ending) (w' : World) : Prop := e = .returned (.agg #[.int .i64 p.1, .int .i64 p.2]) ∧ Below W.heap.size W w'
end
section
open Go.RowKit Go.Lib
theorem wrap_smalls {x : Int} (h0 : 0 ≤ x) (h1 : x < 10000000) : wrap64 x = x := by unfold wrap64; omega
end
section
open Go.RowKit Go.Lib
def AnsX (W : World) (p : List Tok × (Int × Int) × Int) (e : Ending) (w' : World) : Prop :=
 ∃ a c, e = .returned (.tuple #[.slice a p.1.length c, .agg #[.int .i64 p.2.1.1, .int .i64 p.2.1.2], .int .i64 p.2.2]) ∧ OwnT W w' (.slice a p.1.length c) p.1.length p.1
theorem ansX_no {W w' : World} {l c E : Int} (h : Below W.heap.size W w') : AnsX W ([], (l, c), E) (.returned (.tuple #[.slice none 0 0, .agg #[.int .i64 l, .int .i64 c], .int .i64 E])) w' := ⟨none, 0, rfl, OwnT.nil h⟩
theorem place_ne_tok : (34 : TypeId) ≠ 110 := by decide
theorem OwnT.apart {W w : World} {v : Value} {n : Nat} {l : List Tok} (h : OwnT W w v n l) {k : Nat} {cs : Array Value} {T : TypeId} (B : BoxC w k cs T) (hT : T ≠ 110) : v.ownBlock ≠ some k := by
 rcases h.1.2 with ⟨rfl, -⟩ | ⟨g, cap, cur, rfl, h3, hg, h4⟩
 ·exact fun e => by cases e
 ·intro e
  have e1 : g = k := by simpa [Value.ownBlock] using e
  subst e1
  unfold BoxC at B
  rw [B] at hg
  simp at hg
  exact hT hg.2
end
section
open Go.RowKit Go.Lib
def IsToks (w : World) (a : Option Addr) (n : Nat) (l : List Tok) : Prop :=
 l.length = n ∧ (l = [] ∨ ∃ g, a = some ⟨g, 0, none⟩ ∧ ∀ i (h : i < l.length), w.cell? ⟨g, i * 4, none⟩ = some (.int .i64 l[i].1) ∧ w.cell? ⟨g, i * 4 + 1, none⟩ = some (.string l[i].2.1) ∧ w.cell? ⟨g, i * 4 + 2, none⟩ = some (.int .i64 l[i].2.2.1) ∧ w.cell? ⟨g, i * 4 + 3, none⟩ = some (.int .i64 l[i].2.2.2))
theorem tok_cells {w : World} {a : Option Addr} {l : List Tok} (h : ∃ g, a = some ⟨g, 0, none⟩ ∧ ∀ i (h : i < l.length), w.cell? ⟨g, i * 4, none⟩ = some (.int .i64 l[i].1) ∧ w.cell? ⟨g, i * 4 + 1, none⟩ = some (.string l[i].2.1) ∧ w.cell? ⟨g, i * 4 + 2, none⟩ = some (.int .i64 l[i].2.2.1) ∧ w.cell? ⟨g, i * 4 + 3, none⟩ = some (.int .i64 l[i].2.2.2)) (i : Nat) (hi : i < l.length) :
  ∃ g, a = some ⟨g, 0, none⟩ ∧ w.cell? ⟨g, i * 4, none⟩ = some (.int .i64 l[i].1) ∧ w.cell? ⟨g, i * 4 + 1, none⟩ = some (.string l[i].2.1) ∧ w.cell? ⟨g, i * 4 + 2, none⟩ = some (.int .i64 l[i].2.2.1) ∧ w.cell? ⟨g, i * 4 + 3, none⟩ = some (.int .i64 l[i].2.2.2) := by
 obtain ⟨g, e, hc⟩ := h
 exact ⟨g, e, hc i hi⟩
theorem tcs_get (l : List Tok) : ∀ i (h : i < l.length) j, j < 4 → (tcs l)[i * 4 + j]? = (tcA l[i])[j]? := by
 induction l with
 | nil => intro i h; exact absurd h (by simp)
 | cons t l ih =>
  intro i h j hj
  cases i with
  | zero =>
   rw [Nat.zero_mul, Nat.zero_add]
   show ((tcA t).toList ++ tcs l)[j]? = _
   rw [List.getElem?_append_left (by simpa [tcA] using hj)]
   simp
  | succ i =>
   show ((tcA t).toList ++ tcs l)[(i + 1) * 4 + j]? = _
   rw [List.getElem?_append_right (by simp [tcA]; omega)]
   have := ih i (by simpa using h) j hj
   rw [show (i + 1) * 4 + j - (tcA t).toList.length = i * 4 + j by simp [tcA]; omega, this]
   rfl
theorem OwnT.toks {W w : World} {a : Option Addr} {n c : Nat} {l : List Tok} (h : OwnT W w (.slice a n c) n l) : IsToks w a n l := by
 refine ⟨h.length, ?_⟩
 have hl := h.length
 rcases h.1.2 with ⟨e, h0⟩ | ⟨g, cap, cur, e, -, hg, -, -, -, ht⟩
 ·left; exact List.eq_nil_of_length_eq_zero (by omega)
 ·right
  simp only [Value.slice.injEq] at e
  refine ⟨g, e.1, fun i hi => ?_⟩
  have hc : ∀ j, j < 4 → w.cell? ⟨g, i * 4 + j, none⟩ = (tcA l[i])[j]? := fun j hj => by
   have h1 := tcs_get l i hi j hj
   have h2 : cur[i * 4 + j]? = (tcs l)[i * 4 + j]? := by
    rw [← ht, List.getElem?_take, if_pos (by omega)]
    simp
   simp only [World.cell?, hg]
   rw [← h1, ← h2]
   rfl
  exact ⟨hc 0 (by omega), hc 1 (by omega), hc 2 (by omega), hc 3 (by omega)⟩
end
end Go.Proofs.YtaeladkcmpdkhaaGreatDoor
