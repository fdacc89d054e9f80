/-
  Texts of mine put together in build order, as far as TreeRight need them: TreeUses, TreeOnce, TreeCnt. No conditions of their own.
-/
import Derived.WalkKit
import Derived.ProofKit
import Derived.Lib.AppendZerosOnto
import Derived.Lib.DecodeN
import Derived.Test.YtbcfplaalepnbaaGreatDoorPack1
import Derived.Test.YtbcfplaalepnbaaGreatDoorPack3
namespace Go.Proofs.YtbcfplaalepnbaaGreatDoor
open Go.Lib
def usesN (n : Nd) (k : Nat) : Nat := if n.kind < 2 then 0 else (if n.a = (k : Int) then 1 else 0) + (if n.kind ≤ 5 ∧ n.b = (k : Int) then 1 else 0)
def useAt (l : List Nd) (k p : Nat) : Nat := match l[p]? with
  | some n => usesN n k
  | none => 0
def usesR (l : List Nd) (k b : Nat) : Nat → Nat
  | 0 => 0
  | c + 1 => usesR l k b c + useAt l k (b + c)
theorem usesR_add (l : List Nd) (k b c : Nat) : ∀ d, usesR l k b (c + d) = usesR l k b c + usesR l k (b + c) d := by
  intro d
  induction d with
  | zero => rfl
  | succ d ih =>
    show usesR l k b (c + d) + useAt l k (b + (c + d)) = usesR l k b c + (usesR l k (b + c) d + useAt l k (b + c + d))
    rw [ih, Nat.add_assoc, show b + (c + d) = b + c + d by omega]
theorem usesR_one {l : List Nd} {k b : Nat} {n : Nd} (h : l[b]? = some n) : usesR l k b 1 = usesN n k := by
  show 0 + useAt l k (b + 0) = _
  unfold useAt
  rw [Nat.add_zero, h, Nat.zero_add]
theorem usesN_leaf {n : Nd} (k : Nat) (h : n.kind = 0 ∨ n.kind = 1) : usesN n k = 0 := by
  unfold usesN; rw [if_pos (by omega)]
theorem usesN_unary {n : Nd} {i : Nat} (k : Nat) (h : n.kind = 6 ∨ n.kind = 7) (ha : n.a = (i : Int)) : usesN n k = if i = k then 1 else 0 := by
  unfold usesN
  rw [if_neg (by omega), ha, if_neg (show ¬ (n.kind ≤ 5 ∧ n.b = (k : Int)) by omega), Nat.add_zero]
  by_cases e : i = k
  · rw [if_pos (by omega), if_pos e]
  · rw [if_neg (by omega), if_neg e]
theorem usesN_binary {n : Nd} {i j : Nat} (k : Nat) (h2 : 2 ≤ n.kind) (h5 : n.kind ≤ 5) (ha : n.a = (j : Int)) (hb : n.b = (i : Int)) : usesN n k = (if j = k then 1 else 0) + (if i = k then 1 else 0) := by
  unfold usesN
  rw [if_neg (by omega), ha, hb]
  by_cases e : j = k
  · rw [if_pos (show (j : Int) = (k : Int) by omega), if_pos e]
    by_cases e2 : i = k
    · rw [if_pos ⟨h5, by omega⟩, if_pos e2]
    · rw [if_neg (fun h => e2 (by omega)), if_neg e2]
  · rw [if_neg (show ¬ (j : Int) = (k : Int) by omega), if_neg e]
    by_cases e2 : i = k
    · rw [if_pos ⟨h5, by omega⟩, if_pos e2]
    · rw [if_neg (fun h => e2 (by omega)), if_neg e2]
theorem usesR_seg {l : List Nd} {b i : Nat} (h : Seg l b i) (k : Nat) : usesR l k b (i + 1 - b) = if b ≤ k ∧ k < i then 1 else 0 := by
  refine (h (fun b i => Seg l b i ∧ usesR l k b (i + 1 - b) = if b ≤ k ∧ k < i then 1 else 0) ?_ ?_ ?_).2
  · intro i n hn hk
    refine ⟨Seg.leaf hn hk, ?_⟩
    rw [show i + 1 - i = 1 by omega, usesR_one hn, if_neg (by omega), usesN_leaf k hk]
  · intro b i n ⟨hs, ih⟩ hn hk ha
    refine ⟨hs.one hn hk ha, ?_⟩
    have hle := hs.le
    rw [show i + 1 + 1 - b = (i + 1 - b) + 1 by omega, usesR_add, ih, show b + (i + 1 - b) = i + 1 by omega, usesR_one hn, usesN_unary k hk ha]
    repeat' split
    all_goals omega
  · intro b j i n ⟨hs, ih⟩ ⟨ht, ih2⟩ hn h2 h5 ha hb
    refine ⟨hs.two ht hn h2 h5 ha hb, ?_⟩
    have hle := hs.le
    have hle2 := ht.le
    rw [show i + 1 + 1 - b = (j + 1 - b) + ((i + 1 - (j + 1)) + 1) by omega, usesR_add, ih, show b + (j + 1 - b) = j + 1 by omega, usesR_add, ih2, show j + 1 + (i + 1 - (j + 1)) = i + 1 by omega, usesR_one hn, usesN_binary k h2 h5 ha hb]
    repeat' split
    all_goals omega
end Go.Proofs.YtbcfplaalepnbaaGreatDoor
namespace Go.Proofs.YtbcfplaalepnbaaGreatDoor
open Go.Lib
def rootsN (lets : List (ByteArray × Int)) (k : Nat) : Nat := match lets with
  | [] => 0
  | x :: m => (if x.2 = (k : Int) then 1 else 0) + rootsN m k
theorem LetsEnd.once {l : List Nd} (k : Nat) : ∀ {m : List (ByteArray × Int)} {b e : Nat}, LetsEnd l b m e → usesR l k b (e - b) + rootsN m k = if b ≤ k ∧ k < e then 1 else 0 := by
  intro m
  induction m with
  | nil =>
    intro b e h
    obtain rfl : b = e := h
    rw [Nat.sub_self, if_neg (by omega)]; rfl
  | cons x m ih =>
    rintro b e ⟨i, hx, -, hs, h⟩
    have h1 := ih h
    have h2 := usesR_seg hs k
    have hle := hs.le
    have hle2 := h.le
    rw [show e - b = (i + 1 - b) + (e - (i + 1)) by omega, usesR_add, h2, show b + (i + 1 - b) = i + 1 by omega]
    show _ + _ + ((if x.2 = (k : Int) then 1 else 0) + rootsN m k) = _
    rw [hx]
    have e1 : (if (i : Int) = (k : Int) then 1 else 0) = (if i = k then 1 else 0) := by
      by_cases e : i = k
      · rw [if_pos e, if_pos (by omega)]
      · rw [if_neg e, if_neg (by omega)]
    rw [e1]
    generalize usesR l k (i + 1) (e - (i + 1)) = U at *
    generalize rootsN m k = R at *
    by_cases c1 : b ≤ k ∧ k < i
    · rw [if_pos c1, if_neg (by omega), if_pos (by omega)]
      rw [if_neg (by omega)] at h1
      omega
    · rw [if_neg c1]
      by_cases c2 : i = k
      · rw [if_pos c2, if_pos (by omega)]
        rw [if_neg (by omega)] at h1
        omega
      · rw [if_neg c2]
        by_cases c3 : i + 1 ≤ k ∧ k < e
        · rw [if_pos c3] at h1
          rw [if_pos (by omega)]; omega
        · rw [if_neg c3] at h1
          rw [if_neg (by omega)]; omega
end Go.Proofs.YtbcfplaalepnbaaGreatDoor
namespace Go.Proofs.YtbcfplaalepnbaaGreatDoor
open Go.Lib
def cntL (l : List Nd) (n t : Nat) : List Int := (List.range n).map fun k => ((usesR l k 0 t : Nat) : Int)
def rtL (l : List Nd) (ls : List (ByteArray × Int)) (n t : Nat) : List Int := (List.range n).map fun k => ((usesR l k 0 n + rootsN (ls.take t) k : Nat) : Int)
def inc (xs : List Int) (k : Nat) : List Int := xs.set k (xs.getD k 0 + 1)
theorem range_get {f : Nat → Int} {n k : Nat} : ((List.range n).map f)[k]? = if k < n then some (f k) else none := by
  rw [List.getElem?_map]
  split
  · rename_i h; rw [List.getElem?_range h]; rfl
  · rename_i h; rw [List.getElem?_eq_none (by rw [List.length_range]; omega)]; rfl
theorem inc_range {f g : Nat → Int} {n k : Nat} (hk : k < n) (h : ∀ j, j < n → g j = f j + if k = j then 1 else 0) : (List.range n).map g = inc ((List.range n).map f) k := by
  have hd : ((List.range n).map f).getD k 0 = f k := by rw [List.getD_eq_getElem?_getD, range_get, if_pos hk]; rfl
  unfold inc
  rw [hd]
  apply List.ext_getElem?
  intro j
  rw [range_get, List.getElem?_set, List.length_map, List.length_range]
  by_cases hj : j < n
  · rw [if_pos hj, h j hj]
    by_cases e : k = j
    · subst e; rw [if_pos rfl, if_pos rfl, if_pos hk]
    · rw [if_neg e, if_neg e, range_get, if_pos hj, Int.add_zero]
  · rw [if_neg hj, if_neg (by omega), range_get, if_neg hj]
theorem cls_zero (l : List Nd) (n : Nat) : cntL l n 0 = List.replicate n 0 := by
  apply List.ext_getElem?
  intro j
  unfold cntL
  rw [range_get, List.getElem?_replicate]
  rfl
theorem uses_step {l : List Nd} {t : Nat} {m : Nd} (hm : l[t]? = some m) (k : Nat) : usesR l k 0 (t + 1) = usesR l k 0 t + usesN m k := by
  rw [usesR_add, Nat.zero_add, usesR_one hm]
theorem usesN_le (m : Nd) (k : Nat) : usesN m k ≤ 2 := by
  unfold usesN
  split
  · omega
  · split <;> split <;> omega
theorem usesR_le (l : List Nd) (k : Nat) : ∀ t, t ≤ l.length → usesR l k 0 t ≤ 2 * t := by
  intro t
  induction t with
  | zero => intro _; exact Nat.le_refl _
  | succ t ih =>
    intro h
    have hm := List.getElem?_eq_getElem (show t < l.length by omega)
    rw [uses_step hm]
    have := ih (by omega)
    have := usesN_le l[t] k
    omega
theorem cls_leaf {l : List Nd} {n t : Nat} {m : Nd} (hm : l[t]? = some m) (hk : m.kind < 2) : cntL l n (t + 1) = cntL l n t := by
  unfold cntL
  apply List.map_congr_left
  intro k _
  rw [uses_step hm]
  unfold usesN
  rw [if_pos hk, Nat.add_zero]
theorem cls_one {l : List Nd} {n t a : Nat} {m : Nd} (hm : l[t]? = some m) (hk : 5 < m.kind) (ha : m.a = (a : Int)) (hn : a < n) : cntL l n (t + 1) = inc (cntL l n t) a := by
  refine inc_range hn (fun j _ => ?_)
  rw [uses_step hm]
  unfold usesN
  rw [if_neg (by omega), ha]
  by_cases e : a = j
  · subst e; rw [if_pos rfl, if_pos rfl, if_neg (by omega)]; omega
  · rw [if_neg (by omega), if_neg e, if_neg (by omega)]; omega
theorem cls_two {l : List Nd} {n t a b : Nat} {m : Nd} (hm : l[t]? = some m) (hk : 2 ≤ m.kind) (hk5 : m.kind ≤ 5) (ha : m.a = (a : Int)) (hb : m.b = (b : Int)) (hn : a < n) (hn' : b < n) : cntL l n (t + 1) = inc (inc (cntL l n t) a) b := by
  have h1 : (List.range n).map (fun j => ((usesR l j 0 t : Nat) : Int) + if a = j then 1 else 0) = inc (cntL l n t) a := inc_range hn (fun j _ => rfl)
  rw [← h1]
  refine inc_range hn' (fun j _ => ?_)
  rw [uses_step hm]
  unfold usesN
  rw [if_neg (by omega), ha, hb]
  by_cases e : a = j <;> by_cases e' : b = j
  · subst e; subst e'; rw [if_pos rfl, if_pos rfl, if_pos ⟨hk5, rfl⟩]; omega
  · subst e; rw [if_pos rfl, if_pos rfl, if_neg e', if_neg (by omega)]; omega
  · subst e'; rw [if_neg (by omega), if_neg e, if_pos rfl, if_pos ⟨hk5, rfl⟩]; omega
  · rw [if_neg (by omega), if_neg e, if_neg e', if_neg (by omega)]; omega
theorem cls_get {l : List Nd} {n t k : Nat} (hk : k < n) (ht : t ≤ l.length) : ∃ x : Int, (cntL l n t)[k]? = some x ∧ (cntL l n t).getD k 0 = x ∧ 0 ≤ x ∧ x ≤ 2 * (t : Int) := by
  have e : (cntL l n t)[k]? = some ((usesR l k 0 t : Nat) : Int) := by unfold cntL; rw [range_get, if_pos hk]
  refine ⟨_, e, by rw [List.getD_eq_getElem?_getD, e]; rfl, by omega, ?_⟩
  have := usesR_le l k t ht
  omega
theorem inc_get {xs : List Int} {k j : Nat} {x : Int} (hx : xs[j]? = some x) : ∃ y : Int, (inc xs k)[j]? = some y ∧ (inc xs k).getD j 0 = y ∧ x ≤ y ∧ y ≤ x + 1 := by
  have hj := (List.getElem?_eq_some_iff.1 hx).1
  have hd : xs.getD j 0 = x := by rw [List.getD_eq_getElem?_getD, hx]; rfl
  have e : (inc xs k)[j]? = some (if k = j then x + 1 else x) := by
    unfold inc
    rw [List.getElem?_set]
    by_cases e : k = j
    · subst e; rw [if_pos rfl, if_pos hj, if_pos rfl, hd]
    · rw [if_neg e, if_neg e, hx]
  refine ⟨_, e, by rw [List.getD_eq_getElem?_getD, e]; rfl, ?_, ?_⟩
  · split <;> omega
  · split <;> omega
theorem roots_snoc (k : Nat) : ∀ (ls : List (ByteArray × Int)) (x : ByteArray × Int), rootsN (ls ++ [x]) k = rootsN ls k + if x.2 = (k : Int) then 1 else 0 := by
  intro ls
  induction ls with
  | nil => intro x; show (if x.2 = (k : Int) then 1 else 0) + 0 = 0 + _; omega
  | cons y ls ih =>
    intro x
    show (if y.2 = (k : Int) then 1 else 0) + rootsN (ls ++ [x]) k = ((if y.2 = (k : Int) then 1 else 0) + rootsN ls k) + _
    rw [ih]; omega
theorem roots_le (k : Nat) : ∀ (ls : List (ByteArray × Int)), rootsN ls k ≤ ls.length := by
  intro ls
  induction ls with
  | nil => exact Nat.le_refl _
  | cons y ls ih =>
    show (if y.2 = (k : Int) then 1 else 0) + rootsN ls k ≤ ls.length + 1
    split <;> omega
theorem rt_zero (l : List Nd) (ls : List (ByteArray × Int)) (n : Nat) : rtL l ls n 0 = cntL l n n := by
  unfold rtL cntL
  apply List.map_congr_left
  intro k _
  rw [List.take_zero]; rfl
theorem rt_step {l : List Nd} {ls : List (ByteArray × Int)} {n t r : Nat} {x : ByteArray × Int} (hx : ls[t]? = some x) (hr : x.2 = (r : Int)) (hn : r < n) : rtL l ls n (t + 1) = inc (rtL l ls n t) r := by
  refine inc_range hn (fun j _ => ?_)
  rw [List.take_add_one, hx, Option.toList_some, roots_snoc, hr]
  by_cases e : r = j
  · subst e; rw [if_pos rfl, if_pos rfl]; omega
  · rw [if_neg e, if_neg (by omega)]; omega
theorem rt_get {l : List Nd} {ls : List (ByteArray × Int)} {n t k : Nat} (hk : k < n) (hn : n ≤ l.length) : ∃ x : Int, (rtL l ls n t)[k]? = some x ∧ (rtL l ls n t).getD k 0 = x ∧ 0 ≤ x ∧ x ≤ 2 * (n : Int) + ls.length := by
  have e : (rtL l ls n t)[k]? = some ((usesR l k 0 n + rootsN (ls.take t) k : Nat) : Int) := by unfold rtL; rw [range_get, if_pos hk]
  refine ⟨_, e, by rw [List.getD_eq_getElem?_getD, e]; rfl, by omega, ?_⟩
  have h1 := usesR_le l k n hn
  have h2 := roots_le k (ls.take t)
  have h3 : (ls.take t).length ≤ ls.length := by rw [List.length_take]; omega
  omega
theorem rt_one {l : List Nd} {ls : List (ByteArray × Int)} (h : LetsEnd l 0 ls l.length) {k : Nat} (hk : k < l.length) : (rtL l ls l.length ls.length)[k]? = some 1 := by
  have h1 := h.once k
  rw [if_pos (by omega), Nat.sub_zero] at h1
  unfold rtL
  rw [range_get, if_pos hk, List.take_length, h1]; rfl
end Go.Proofs.YtbcfplaalepnbaaGreatDoor
