/-
  Texts of mine in build order. No conditions of their own.
-/
import Derived.Test.YtaeladkcmpdkhaaGreatDoorPack9
set_option maxHeartbeats 40000000
namespace Go.Proofs.YtaeladkcmpdkhaaGreatDoor
section
open Go.RowKit Go.Lib
def numT (x : ByteArray) : Bool × Nat × Nat := parT x.data.toList
theorem toList_byte (b : UInt8) : (⟨#[b]⟩ : ByteArray).toList = [b] := by rw [ByteArray.toList_eq]
theorem num_zero {W w : World} (hb : Below W.heap.size W w) (k a b x : Int) (y : ByteArray) : NumW W w (rawOf ⟨k, a, b, x, y, (false, 0, 0)⟩, .slice none 0 0, .slice none 0 0) := by
 have e : Own W w (.slice none 0 0) (natOf 0).length (natOf 0) := by rw [natOf_zero]; exact Own.nil hb
 exact ⟨e, e⟩
theorem cnt_all {L : List Tok} {r : Rd} {n : Nat} (h : cnt L r ≤ n) : r.all.length ≤ n := by unfold cnt at h; omega
section
variable {W w : World} {R : Nat} {la : Option Addr} {lc : Nat} {i l o : Value} {L : List Tok} {r : Rd}
end
end
section
open Go.RowKit
theorem Own.box {W w : World} {v : Value} {n : Nat} {xs : List Int} (h : Own W w v n xs) {k : Nat} {cs : Array Value} {T : TypeId} (B : BoxC w k cs T) (hT : T ≠ 85) (hk : W.heap.size ≤ k) (i : Nat) (x : Value) : Own W (w.setCell ⟨k, i, none⟩ x) v n xs := by
 refine ⟨⟨h.1.1, ?_⟩, h.2.setCell (p := ⟨k, i, none⟩) hk _⟩
 rcases h.1.2 with h0 | ⟨g, cap, cur, e, h3, hg, h4⟩
 ·exact .inl h0
 ·refine .inr ⟨g, cap, cur, e, h3, ?_, h4⟩
  have hne : g ≠ k := by
   intro e1
   subst e1
   unfold BoxC at B
   rw [B] at hg
   simp at hg
   exact hT hg.2
  rw [Below.heap_setCell w ⟨k, i, none⟩ x g (by simpa using hne)]; exact hg
theorem Own.box3 {W w : World} {v : Value} {n : Nat} {xs : List Int} (h : Own W w v n xs) {k : Nat} {x' y' z' : Value} {T : TypeId} (B : BoxC w k #[x', y', z'] T) (hT : T ≠ 85) (hk : W.heap.size ≤ k) (x y z : Value) : Own W (((w.setCell ⟨k, 0, none⟩ x).setCell ⟨k, 1, none⟩ y).setCell ⟨k, 2, none⟩ z) v n xs :=
 ((h.box B hT hk 0 x).box (B.set 0 x) hT hk 1 y).box ((B.set 0 x).set 1 y) hT hk 2 z
theorem rat_ne_u32 : (45 : TypeId) ≠ 85 := by decide
end
section
open Go.RowKit Go.Lib
theorem leaf_name (num : ByteArray → Bool × Nat × Nat) (L : List Tok) (r : Rd) (h : r.bad = true ∨ L[r.pos]? = none ∨ ∃ t, L[r.pos]? = some t ∧ t.1 ≠ 1) : r.leaf num L = (r.nameT L).2.node ⟨0, 0, 0, 0, (r.nameT L).1, (false, 0, 0)⟩ := by
 unfold Rd.leaf
 by_cases hb : r.bad = true
 ·rw [if_pos hb]
 ·rw [if_neg hb]
  rcases h with h | h | ⟨t, h, h1⟩
  ·exact absurd h hb
  ·rw [h]
  ·rw [h]
   dsimp only
   rw [if_neg h1]
theorem leaf_num (num : ByteArray → Bool × Nat × Nat) (L : List Tok) (r : Rd) {t : Tok} (hb : r.bad = false) (h : L[r.pos]? = some t) (h1 : t.1 = 1) : r.leaf num L = r.skip.node ⟨1, 0, 0, 0, noText, num t.2.1⟩ := by
 unfold Rd.leaf
 rw [hb, if_neg (by simp), h]
 dsimp only
 rw [if_pos h1]
end
section
open Go.RowKit Go.Lib
def encS (x : ByteArray) : List Value := [.string x]
theorem infoStr : (Tryz.prog.info? 9).map (fun i => (i.zero, i.size, i.bytes)) = some (some (.string ⟨#[]⟩), 1, 16) := by kernel_rfl
section
variable {W w w' : World} {R : Nat} {la : Option Addr} {lc : Nat} {i l o : Value} {L : List Tok} {r : Rd}
end
theorem Keep.grown_new {X : TypeId → Prop} {u w w' : World} (h : Keep X u w) {B : Nat} {T : TypeId} {k : Nat} {v : Value} {n : Nat} {cs : List Value} (q : w.ownsRow B T k v n cs) (hu : u.heap.size ≤ B) (hg : w.grownBy w' v.ownBlock) : Keep X u w' := by
 refine ⟨Nat.le_trans h.1 hg.size, fun j ds Z f e hZ => ?_⟩
 have e2 := h.2 j ds Z f e hZ
 have hj : j < u.heap.size := (Array.getElem?_eq_some_iff.1 e).1
 have hne : some j ≠ v.ownBlock := by
  intro e1
  have := (q.lt j e1.symm).1
  omega
 rw [hg.block j (Array.getElem?_eq_some_iff.1 e2).1 hne]; exact e2
theorem Keep.grown_type {X : TypeId → Prop} {w w' : World} {B : Nat} {T : TypeId} {k : Nat} {v : Value} {n : Nat} {cs : List Value} (q : w.ownsRow B T k v n cs) (hX : X T) (hg : w.grownBy w' v.ownBlock) : Keep X w w' := by
 refine ⟨hg.size, fun j ds U f e hU => ?_⟩
 have hne : some j ≠ v.ownBlock := by
  intro e1
  rcases q.2 with ⟨rfl, -⟩ | ⟨b, cap, cur, rfl, h3, hb, h4⟩
  ·exact absurd e1 (by simp [Value.ownBlock])
  ·have e2 : j = b := by simpa [Value.ownBlock] using e1
   subst e2
   rw [e] at hb
   simp only [Option.some.injEq, Obj.cells.injEq] at hb
   exact hU (hb.2.1 ▸ hX)
 rw [hg.block j (Array.getElem?_eq_some_iff.1 e).1 hne]; exact e
theorem ownsRow_below {w w' : World} {B : Nat} {T : TypeId} {k : Nat} {v : Value} {n : Nat} {cs : List Value} (h : w.ownsRow B T k v n cs) (hb : Below w.heap.size w w') : w'.ownsRow B T k v n cs := ownsRow_keep h (Keep.of (fun _ => False) hb) (fun e => e)
theorem wpl_append_b {P : Program} {ops : Array Oper} {rest : List Oper} {o : Oper} {a : Act} {Q : Exit → Act → World → Prop} {t e : TypeId} {z : Value} {k bytes : Nat} (hP : P.underlying t = some (.slice e)) (hI : (P.info? e).map (fun i => (i.zero, i.size, i.bytes)) = some (some z, k, bytes)) (hzs : z.cells.size = k) (hk : 0 < k) (s x : Operand)
  (ho : o.op = .call { callee := .builtin .append, args := #[s, x], argTypes := #[t, t] }) (hgd : o.guard = none)
  (w : World) (B : Nat) (hB : B ≤ w.heap.size) (v : Value) (n : Nat) (cs : List Value) (g : Nat) (ds : List Value) (hs : a.eval s = v) (hx : a.eval x = .slice (some ⟨g, 0, none⟩) 1 1) (hown : w.ownsRow B e k v n cs) (hsrc : IsC k w (some ⟨g, 0, none⟩) 1 ds) (h1 : ∀ u ∈ ds, u.oneCell' = true) (hle : n + 1 ≤ maxLen) (hby : (n + 1) * bytes ≤ 140737488355328)
  (h : ∀ a' c' w', w'.ownsRow B e k (.slice a' (n + 1) c') (n + 1) (cs ++ ds) → w.grownBy w' v.ownBlock → wpList P ops Q rest (a.put o.dst (.slice a' (n + 1) c')) w') : wpList P ops Q (o :: rest) a w := by
 obtain ⟨i, hi, hz, hs1, hb1⟩ := info_parts hI
 have hcells : ∀ j u, ds[j]? = some u → w.cell? ((⟨g, 0, none⟩ : Addr).add j) = some u := by
  intro j u hj
  rcases hsrc.2 with h0 | ⟨y, e, hc⟩
  ·omega
  ·obtain rfl := Option.some.inj e
   exact hc j u hj
 refine wpList_append_own w hgd s x t ho B e i _ k bytes hP hi hz hs1 hb1 hzs hk v n _ hs hown ⟨g, 0, none⟩ 1 1 ds hx hsrc.1 hcells h1 hle hby hB ?_
 intro v' w' h2 h3 _
 rcases h2.2 with ⟨rfl, e2⟩ | ⟨b, cap, cur, rfl, -⟩
 ·omega
 ·exact h _ _ w' h2 h3
section
variable {W w w' : World} {R : Nat} {la : Option Addr} {lc : Nat} {i l o : Value} {L : List Tok} {r : Rd}
def TS (T : TypeId) : Prop := T = 9
end
end
section
open Go.RowKit Go.Lib
def encL (x : ByteArray × Int) : List Value := [.string x.1, .int .i64 x.2]
theorem encL_length (x : ByteArray × Int) : (encL x).length = 2 := rfl
theorem infoLet : (Tryz.prog.info? 52).map (fun i => (i.zero, i.size, i.bytes)) = some (some (.agg #[.string ⟨#[]⟩, .int .i64 0]), 2, 24) := by kernel_rfl
def TL (T : TypeId) : Prop := T = 52
section
variable {W w w' : World} {R : Nat} {la : Option Addr} {lc : Nat} {i l o : Value} {L : List Tok} {r : Rd}
theorem cnt_let (L : List Tok) (r : Rd) : cnt L (oneLet numT L r).2 ≤ cnt L r + 1 := by
 unfold oneLet
 have h1 := cnt_name L r
 have h2 := cnt_want L (r.nameT L).2 2 [61]
 have h3 := cnt_exprI numT L 0 0 ((r.nameT L).2.want L 2 [61])
 rw [show extraN 0 = 1 from rfl] at h3
 have h4 := cnt_want L (exprI numT L 0 0 ((r.nameT L).2.want L 2 [61])).2 2 [59]
 show cnt L ((exprI numT L 0 0 ((r.nameT L).2.want L 2 [61])).2.want L 2 [59]) ≤ _
 omega
end
end
section
open Go.Lib
theorem LetsEnd.le {l : List Nd} : ∀ {m : List (ByteArray × Int)} {b e : Nat}, LetsEnd l b m e → b ≤ e := by
 intro m
 induction m with
 | nil => intro b e h; exact Nat.le_of_eq h
 | cons x m ih =>
  rintro b e ⟨i, -, -, hs, h⟩
  have := ih h
  have := hs.le
  omega
theorem LetsEnd.parts {l : List Nd} : ∀ {m : List (ByteArray × Int)} {b e : Nat}, LetsEnd l b m e → ∀ p n, b ≤ p → p < e → l[p]? = some n → 2 ≤ n.kind → (b : Int) ≤ n.a ∧ n.a < p ∧ (n.kind ≤ 5 → (b : Int) ≤ n.b ∧ n.b < p) := by
 intro m
 induction m with
 | nil => intro b e h p n h1 h2; have : b = e := h; omega
 | cons x m ih =>
  rintro b e ⟨i, -, -, hs, h⟩ p n h1 h2 hn hk
  have hle := hs.le
  by_cases hp : p ≤ i
  ·exact seg_parts hs p n h1 hp hn hk
  ·obtain ⟨q1, q2, q3⟩ := ih h p n (by omega) h2 hn hk
   exact ⟨by omega, q2, fun h5 => by have := q3 h5; omega⟩
theorem LetsEnd.roots {l : List Nd} : ∀ {m : List (ByteArray × Int)} {b e : Nat}, LetsEnd l b m e → ∀ x ∈ m, (b : Int) ≤ x.2 ∧ x.2 < e := by
 intro m
 induction m with
 | nil => intro b e _ x hx; exact absurd hx (by simp)
 | cons y m ih =>
  rintro b e ⟨i, hy, -, hs, h⟩ x hx
  have hle := hs.le
  have hle2 := h.le
  rcases List.mem_cons.1 hx with rfl | hx
  ·rw [hy]; omega
  ·have := ih h x hx; omega
end
section
open Go.Lib
def Behind (l : List Nd) : Prop := ∀ (p : Nat) (n : Nd), l[p]? = some n → 2 ≤ n.kind → 0 ≤ n.a ∧ n.a < (p : Int) ∧ (n.kind ≤ 5 → 0 ≤ n.b ∧ n.b < (p : Int))
theorem LetsEnd.behind {l : List Nd} {m : List (ByteArray × Int)} (h : LetsEnd l 0 m l.length) : Behind l := fun p n hn hk => by
 have hp := (List.getElem?_eq_some_iff.1 hn).1
 exact h.parts p n (Nat.zero_le _) hp hn hk
theorem tall_more {l : List Nd} (h : Behind l) : ∀ (f i : Nat), i + 1 ≤ f → ∀ g, i + 1 ≤ g → tallF l f i = tallF l g i := by
 intro f
 induction f with
 | zero => intro i hf; omega
 | succ f ih =>
  intro i hf g hg
  cases g with
  | zero => omega
  | succ g =>
   unfold tallF
   rw [Int.toNat_natCast]
   cases hn : l[i]? with
   | none => rfl
   | some n =>
    dsimp only
    by_cases h1 : n.kind ≤ 1
    ·rw [if_pos h1, if_pos h1]
    rw [if_neg h1, if_neg h1]
    obtain ⟨a0, a1, hb⟩ := h i n hn (by omega)
    obtain ⟨a, ha⟩ : ∃ a : Nat, n.a = (a : Int) := ⟨n.a.toNat, by omega⟩
    rw [ha, ih a (by omega) g (by omega)]
    by_cases h5 : n.kind ≤ 5
    ·rw [if_pos h5, if_pos h5]
     obtain ⟨b0, b1⟩ := hb h5
     obtain ⟨b, hb⟩ : ∃ b : Nat, n.b = (b : Int) := ⟨n.b.toNat, by omega⟩
     rw [hb, ih b (by omega) g (by omega)]
    ·rw [if_neg h5, if_neg h5]
theorem tall_step {l : List Nd} (h : Behind l) {i : Nat} {n : Nd} (hn : l[i]? = some n) : tallI l i = if n.kind ≤ 1 then 1 else if n.kind ≤ 5 then 1 + max (tallI l n.a.toNat) (tallI l n.b.toNat) else 1 + tallI l n.a.toNat := by
 unfold tallI
 conv => lhs; unfold tallF
 rw [Int.toNat_natCast, hn]
 dsimp only
 by_cases h1 : n.kind ≤ 1
 ·rw [if_pos h1, if_pos h1]
 rw [if_neg h1, if_neg h1]
 obtain ⟨a0, a1, hb⟩ := h i n hn (by omega)
 have ea : n.a = (n.a.toNat : Int) := by omega
 by_cases h5 : n.kind ≤ 5
 ·rw [if_pos h5, if_pos h5]
  obtain ⟨b0, b1⟩ := hb h5
  have eb : n.b = (n.b.toNat : Int) := by omega
  generalize n.a.toNat = a at *
  generalize n.b.toNat = b at *
  rw [ea, eb, tall_more h i a (by omega) (a + 1) (by omega), tall_more h i b (by omega) (b + 1) (by omega)]
 ·rw [if_neg h5, if_neg h5]
  generalize n.a.toNat = a at *
  rw [ea, tall_more h i a (by omega) (a + 1) (by omega)]
theorem tall_range {l : List Nd} (h : Behind l) : ∀ (k i : Nat), i ≤ k → i < l.length → 1 ≤ tallI l i ∧ tallI l i ≤ (i : Int) + 1 := by
 intro k
 induction k with
 | zero =>
  intro i hi hl
  obtain rfl : i = 0 := by omega
  obtain ⟨n, hn⟩ : ∃ n, l[0]? = some n := ⟨_, List.getElem?_eq_getElem hl⟩
  rw [tall_step h hn]
  by_cases h1 : n.kind ≤ 1
  ·rw [if_pos h1]; omega
  ·have := h 0 n hn (by omega); omega
 | succ k ih =>
  intro i hi hl
  obtain ⟨n, hn⟩ : ∃ n, l[i]? = some n := ⟨_, List.getElem?_eq_getElem hl⟩
  rw [tall_step h hn]
  by_cases h1 : n.kind ≤ 1
  ·rw [if_pos h1]; omega
  rw [if_neg h1]
  obtain ⟨a0, a1, hb⟩ := h i n hn (by omega)
  have q1 := ih n.a.toNat (by omega) (by omega)
  by_cases h5 : n.kind ≤ 5
  ·rw [if_pos h5]
   have := hb h5
   have q2 := ih n.b.toNat (by omega) (by omega)
   omega
  ·rw [if_neg h5]; omega
end
section
open Go.RowKit Go.Lib
def Nw.nd (x : Nw) : Nd := ⟨x.kind, x.a, x.b, x.exp, x.name, (x.neg, val x.xs, val x.ys)⟩
theorem nd_raw (n : Nd) : (rawOf n).nd = n := by
 unfold rawOf Nw.nd
 dsimp only
 rw [val_natOf, val_natOf]
def IsN (w : World) (a : Option Addr) (n : Nat) (ms : List Mn) : Prop := ms.length = n ∧ (n = 0 ∨ ∃ g o, a = some ⟨g, o, none⟩ ∧ ∀ i m, ms[i]? = some m → ∀ j u, (encM m)[j]? = some u → w.cell? ⟨g, o + i * 8 + j, none⟩ = some u)
theorem IsN.below {w w' : World} {a : Option Addr} {n : Nat} {ms : List Mn} (h : IsN w a n ms) (hb : Below w.heap.size w w') : IsN w' a n ms := by
 refine ⟨h.1, ?_⟩
 rcases h.2 with h0 | ⟨g, o, e, hc⟩
 ·exact .inl h0
 ·refine .inr ⟨g, o, e, fun i m hm j u hj => ?_⟩
  have := hc i m hm j u hj
  rw [hb.cell (p := ⟨g, o + i * 8 + j, none⟩) (World.block_lt_of_cell? w _ this)]; exact this
theorem OwnC.isn {T : TypeId} {W w : World} {a : Option Addr} {n c : Nat} {ms : List Mn} (h : w.ownsRow W.heap.size T 8 (.slice a n c) n (flat encM ms)) : IsN w a n ms := by
 have hl : ms.length = n := by
  have := h.1
  rw [flat_length encM_length] at this
  omega
 refine ⟨hl, ?_⟩
 rcases h.2 with ⟨-, h0⟩ | ⟨g, cap, cur, e, -, hg, -, -, -, ht⟩
 ·exact .inl h0
 ·right
  simp only [Value.slice.injEq] at e
  refine ⟨g, 0, e.1, fun i m hm j u hj => ?_⟩
  have hjk : j < 8 := by rw [← encM_length m]; exact (List.getElem?_eq_some_iff.1 hj).1
  have hi : i < ms.length := (List.getElem?_eq_some_iff.1 hm).1
  have hf := flat_get encM_length ms i m hm j hjk
  rw [hj] at hf
  have hlt : i * 8 + j < n * 8 := by omega
  rw [← ht, List.getElem?_take, if_pos hlt] at hf
  rw [Nat.zero_add]
  simp only [World.cell?, hg]
  rw [← hf]
  simp
theorem IsN.node {w : World} {a : Option Addr} {n : Nat} {ms : List Mn} (h : IsN w a n ms) {i : Nat} {m : Mn} (hm : ms[i]? = some m) : ∃ g o, a = some ⟨g, o, none⟩ ∧ w.cell? ⟨g, o + i * 8, none⟩ = some (.int .i64 m.1.kind) ∧ w.cell? ⟨g, o + i * 8 + 1, none⟩ = some (.int .i64 m.1.a) ∧ w.cell? ⟨g, o + i * 8 + 2, none⟩ = some (.int .i64 m.1.b) ∧ w.cell? ⟨g, o + i * 8 + 3, none⟩ = some (.int .i64 m.1.exp) ∧
  w.cell? ⟨g, o + i * 8 + 4, none⟩ = some (.string m.1.name) ∧ w.cell? ⟨g, o + i * 8 + 5, none⟩ = some (.bool m.1.neg) ∧ w.cell? ⟨g, o + i * 8 + 6, none⟩ = some m.2.1 ∧ w.cell? ⟨g, o + i * 8 + 7, none⟩ = some m.2.2 := by
 rcases h.2 with h0 | ⟨g, o, e, hc⟩
 ·have := (List.getElem?_eq_some_iff.1 hm).1
  have := h.1
  omega
 ·exact ⟨g, o, e, hc i m hm 0 _ rfl, hc i m hm 1 _ rfl, hc i m hm 2 _ rfl, hc i m hm 3 _ rfl, hc i m hm 4 _ rfl, hc i m hm 5 _ rfl, hc i m hm 6 _ rfl, hc i m hm 7 _ rfl⟩
end
section
open Go.RowKit Go.Lib
theorem infoInt : (Tryz.prog.info? 3).map (fun i => (i.zero, i.size, i.bytes)) = some (some (.int .i64 0), 1, 8) := by kernel_rfl
def hts (l : List Nd) (n : Nat) : List Int := (List.range n).map fun i => tallI l i
theorem hts_length (l : List Nd) (n : Nat) : (hts l n).length = n := by unfold hts; simp
theorem hts_get (l : List Nd) {n i : Nat} (h : i < n) : (hts l n)[i]? = some (tallI l i) := by unfold hts; simp [h]
end
section
open Go.RowKit Go.Lib
def lngB (l : List Nd) (i t o : Nat) : Bool := decide (400 < l.length) || decide (40 < i) || decide (40 < t) || decide (40 < o) || (List.range l.length).any fun k => decide (60 < tallI l k)
end
section
open Go.RowKit Go.Lib
def ptsI (k a b : Int) : List Int := if k = 0 ∨ k = 1 then [] else if k = 6 ∨ k = 7 then [a] else [a, b]
theorem OwnC.set1 {T : TypeId} {W w : World} {g n c : Nat} {cs : List Value} (h : OwnC T 1 W w (.slice (some ⟨g, 0, none⟩) n c) n cs) (k : Nat) (y : Value) :
  OwnC T 1 W (w.setCell ⟨g, k, none⟩ y) (.slice (some ⟨g, 0, none⟩) n c) n (cs.set k y) := by
 have hl := h.length
 rcases h.1.2 with ⟨e, -⟩ | ⟨g', cap, cur, e, h1, hg, h2, h3, h4, h5⟩
 ·simp at e
 ·simp only [Value.slice.injEq, Option.some.injEq, Addr.mk.injEq] at e
  obtain ⟨⟨rfl, -⟩, -, rfl⟩ := e
  refine ⟨⟨by simp; omega, .inr ⟨g, c, cur.setIfInBounds k y, rfl, h1, ?_, h2, h3, by simpa using h4, ?_⟩⟩, h.2.setCell h1 _⟩
  ·have hlt := (Array.getElem?_eq_some_iff.1 hg).1
   have hv := (Array.getElem?_eq_some_iff.1 hg).2
   simp only [World.setCell]
   rw [Array.getElem?_eq_getElem (by simpa using hlt), Array.getElem_modify]
   simp [hv]
  ·rw [Array.toList_setIfInBounds, List.take_set, h5]
theorem OwnC.at1 {T : TypeId} {W w : World} {g n c : Nat} {cs : List Value} (h : OwnC T 1 W w (.slice (some ⟨g, 0, none⟩) n c) n cs) {k : Nat} {y : Value} (hk : cs[k]? = some y) : w.cell? ⟨g, k, none⟩ = some y ∧ w.frozen? ⟨g, k, none⟩ = false ∧ W.heap.size ≤ g ∧ g < w.heap.size := by
 rcases h.1.2 with ⟨e, -⟩ | ⟨g', cap, cur, e, h1, hg, h2, h3, h4, h5⟩
 ·simp at e
 ·simp only [Value.slice.injEq, Option.some.injEq, Addr.mk.injEq] at e
  obtain ⟨⟨rfl, -⟩, -, rfl⟩ := e
  have hB : BoxC w g cur T := hg
  refine ⟨?_, (hB.cell k).2, h1, hB.lt⟩
  rw [(hB.cell k).1]
  rw [← h5] at hk
  rw [List.getElem?_take] at hk
  split at hk
  ·rw [← hk, Array.getElem?_toList]
  ·exact absurd hk (by simp)
theorem wpl_make_ints {ops : Array Oper} {rest : List Oper} {o : Oper} {a : Act} {Q : Exit → Act → World → Prop} (l : Operand)
  (ho : o.op = .makeSlice 40 l l) (hgd : o.guard = none) (W w : World) (n : Nat) (N : Int) (hl : a.eval l = .int .i64 N) (hN : N = n) (hle : n ≤ 1000000) (hb : Below W.heap.size W w)
  (h : ∀ g w', W.heap.size ≤ g → w.heap.size ≤ g → OwnC 3 1 W w' (.slice (some ⟨g, 0, none⟩) n n) n ((List.replicate n 0).map (Value.int .i64)) → Below w.heap.size w w' → wpList Tryz.prog ops Q rest (a.put o.dst (.slice (some ⟨g, 0, none⟩) n n)) w') : wpList Tryz.prog ops Q (o :: rest) a w := by
 obtain ⟨i, hi, hz, hs1, hby⟩ := info_parts infoInt
 refine wpList_make_full w hgd l l 40 ho W.heap.size 3 i (.int .i64 0) 1 Tryz.underlying40 hi hz hs1 .i64 .i64 N N n hl hl hN hN (by rw [hby]; omega) (by unfold maxLen; omega) hb.size ?_
 intro w' h1 h2
 refine h _ w' hb.size (Nat.le_refl _) ⟨?_, hb.grown h2 hb.size (fun k e => by cases e)⟩ ((Below.refl _ w).grown h2 (Nat.le_refl _) (fun k e => by cases e))
 have e : (madeCells (Value.int .i64 0).cells (n * 1)).toList = (List.replicate n (0 : Int)).map (Value.int .i64) := by
  apply List.ext_getElem?
  intro j
  by_cases hj : j < n
  ·simp [madeCells, Value.cells, hj, Nat.mod_one]
  ·simp [madeCells, Value.cells, hj]
 rw [← e]; exact h1
def IsP (B : Nat) (w : World) (pa : Option Addr) (P : List Int) : Prop := P = [] ∨ ∃ b, pa = some ⟨b, 0, none⟩ ∧ B ≤ b ∧ b < w.heap.size ∧ ∀ (j : Nat) (x : Int), P[j]? = some x → w.cell? ⟨b, j, none⟩ = some (.int .i64 x)
theorem tree_parts (k a b x : Int) (nm : ByteArray) (ng : Bool) (ua : Option Addr) (un uc : Nat) (va : Option Addr) (vn vc : Nat) (w : World) :
  Calls Tryz.prog 91 #[.agg #[.int .i64 k, .int .i64 a, .int .i64 b, .int .i64 x, .string nm, .bool ng, .slice ua un uc, .slice va vn vc]] w fun e w' => ∃ pa c, e = .returned (.slice pa (ptsI k a b).length c) ∧ IsP w.heap.size w' pa (ptsI k a b) ∧ Below w.heap.size w w' := by
 obtain ⟨B1, bV, hs⟩ := boxes1 w #[.int .i64 k, .int .i64 a, .int .i64 b, .int .i64 x, .string nm, .bool ng, .slice ua un uc, .slice va vn vc] 47
 have z0 := (B1.cell 0).1
 have z1 := (B1.cell 1).1
 have z2 := (B1.cell 2).1
 unfold ptsI
 by_cases h0 : k = 0
 ·subst h0
  rw [if_pos (.inl rfl)]
  clear B1
  go_enter Tryz.func91, Tryz.ntmps91
  go_wp2
  go_ret
  exact ⟨none, 0, rfl, .inl rfl, bV⟩
 by_cases h1 : k = 1
 ·subst h1
  rw [if_pos (.inr rfl)]
  clear B1
  go_enter Tryz.func91, Tryz.ntmps91
  go_wp2
  go_ret
  exact ⟨none, 0, rfl, .inl rfl, bV⟩
 rw [if_neg (by omega)]
 have e0 : (k == 0) = false := by rw [beq_eq_false_iff_ne]; exact h0
 have e1 : (k == 1) = false := by rw [beq_eq_false_iff_ne]; exact h1
 by_cases h6 : k = 6
 ·subst h6
  rw [if_pos (.inl rfl)]
  have HI : Hid (∀ (V : World) (M : Nat) (y : Int), V.heap.size = M → w.heap.size ≤ M → IsP w.heap.size (V.alloc (.cells #[.int .i64 y] 3)) (some ⟨M, 0, none⟩) [y]) := fun V M y h h2 => by
   subst h
   have B := BoxC.new V #[.int .i64 y] 3
   refine .inr ⟨_, rfl, h2, B.lt, fun j x hj => ?_⟩
   rcases (show j = 0 ∨ 1 ≤ j by omega) with rfl | q
   ·simp at hj; subst hj; exact (B.cell 0).1
   ·rw [List.getElem?_eq_none (by simpa using q)] at hj; exact absurd hj (by simp)
  have HB : Hid (Below w.heap.size w _) := bV
  clear B1 bV
  go_enter Tryz.func91, Tryz.ntmps91
  go_wp2
  go_ret
  exact ⟨_, 1, rfl, HI.out _ _ a (by simp) (by omega), HB.out.alloc HB.out.size _⟩
 by_cases h7 : k = 7
 ·subst h7
  rw [if_pos (.inr rfl)]
  have HI : Hid (∀ (V : World) (M : Nat) (y : Int), V.heap.size = M → w.heap.size ≤ M → IsP w.heap.size (V.alloc (.cells #[.int .i64 y] 3)) (some ⟨M, 0, none⟩) [y]) := fun V M y h h2 => by
   subst h
   have B := BoxC.new V #[.int .i64 y] 3
   refine .inr ⟨_, rfl, h2, B.lt, fun j x hj => ?_⟩
   rcases (show j = 0 ∨ 1 ≤ j by omega) with rfl | q
   ·simp at hj; subst hj; exact (B.cell 0).1
   ·rw [List.getElem?_eq_none (by simpa using q)] at hj; exact absurd hj (by simp)
  have HB : Hid (Below w.heap.size w _) := bV
  clear B1 bV
  go_enter Tryz.func91, Tryz.ntmps91
  go_wp2
  go_ret
  exact ⟨_, 1, rfl, HI.out _ _ a (by simp) (by omega), HB.out.alloc HB.out.size _⟩
 rw [if_neg (by omega)]
 have e6 : (k == 6) = false := by rw [beq_eq_false_iff_ne]; exact h6
 have e7 : (k == 7) = false := by rw [beq_eq_false_iff_ne]; exact h7
 have HI : Hid (∀ (V : World) (M : Nat) (y z : Int), V.heap.size = M → w.heap.size ≤ M → IsP w.heap.size (V.alloc (.cells #[.int .i64 y, .int .i64 z] 3)) (some ⟨M, 0, none⟩) [y, z]) := fun V M y z hM h2 => by
  subst hM
  have B := BoxC.new V #[.int .i64 y, .int .i64 z] 3
  refine .inr ⟨_, rfl, h2, B.lt, fun j x hj => ?_⟩
  rcases (show j = 0 ∨ j = 1 ∨ 2 ≤ j by omega) with rfl | rfl | q
  ·simp at hj; subst hj; exact (B.cell 0).1
  ·simp at hj; subst hj; exact (B.cell 1).1
  ·rw [List.getElem?_eq_none (by simpa using q)] at hj; exact absurd hj (by simp)
 have HB : Hid (Below w.heap.size w _) := bV
 clear B1 bV h0 h1 h6 h7
 go_enter Tryz.func91, Tryz.ntmps91
 go_wp2
 go_ret
 exact ⟨_, 2, rfl, HI.out _ _ a b (by simp) (by omega), HB.out.alloc HB.out.size _⟩
theorem tree_few (il ic tl tc ol oc n c : Nat) (ia ta oa a : Option Addr) (r : Bool) (hr : (decide (n ≤ 400) && decide (il ≤ 40) && decide (tl ≤ 40) && decide (ol ≤ 40)) = r) (w : World) :
  Calls Tryz.prog 33 #[.agg #[.slice ia il ic, .slice ta tl tc, .slice oa ol oc, .slice a n c]] w fun e w' => e = .returned (.bool r) ∧ Below w.heap.size w w' := by
 obtain ⟨B1, bV, hs⟩ := boxes1 w #[.slice ia il ic, .slice ta tl tc, .slice oa ol oc, .slice a n c] 26
 have z0 := (B1.cell 0).1
 have z1 := (B1.cell 1).1
 have z2 := (B1.cell 2).1
 have z3 := (B1.cell 3).1
 clear B1 hs
 by_cases h1 : n ≤ 400
 ·have k1 : (n : Int) ≤ 400 := by omega
  rw [decide_eq_true h1, Bool.true_and] at hr
  have hr' : decide ((max (max il tl) ol : Nat) ≤ 40) = r := by
   rw [← hr]
   by_cases q : il ≤ 40 ∧ tl ≤ 40 ∧ ol ≤ 40
   ·rw [decide_eq_true q.1, decide_eq_true q.2.1, decide_eq_true q.2.2, decide_eq_true (by omega)]; rfl
   ·rw [decide_eq_false (by omega)]
    symm
    rw [Bool.and_eq_false_iff, Bool.and_eq_false_iff, decide_eq_false_iff_not, decide_eq_false_iff_not, decide_eq_false_iff_not]
    omega
  clear hr
  rcases Nat.lt_or_ge il tl with p1 | p1
  ·have q1 : (il : Int) < tl := by omega
   rcases Nat.lt_or_ge tl ol with p2 | p2
   ·have q2 : ¬ (ol : Int) ≤ tl := by omega
    have q3 : (tl : Int) < ol := by omega
    have e : decide ((ol : Int) ≤ 40) = r := by rw [← hr']; exact decide_eq_decide.2 (by omega)
    have p2' : ¬ ol ≤ tl := by omega
    clear hr' h1
    go_enter Tryz.func33, Tryz.ntmps33
    go_wp2
    go_ret
    exact ⟨by rw [← e]; rfl, bV⟩
   ·have q2 : (ol : Int) ≤ tl := by omega
    have q3 : ¬ (tl : Int) < ol := by omega
    have e : decide ((tl : Int) ≤ 40) = r := by rw [← hr']; exact decide_eq_decide.2 (by omega)
    clear hr' h1
    go_enter Tryz.func33, Tryz.ntmps33
    go_wp2
    go_ret
    exact ⟨by rw [← e]; rfl, bV⟩
  ·have q1 : ¬ (il : Int) < tl := by omega
   have p1' : ¬ il < tl := by omega
   rcases Nat.lt_or_ge il ol with p2 | p2
   ·have q2 : ¬ (ol : Int) ≤ il := by omega
    have q3 : (il : Int) < ol := by omega
    have e : decide ((ol : Int) ≤ 40) = r := by rw [← hr']; exact decide_eq_decide.2 (by omega)
    have p2' : ¬ ol ≤ il := by omega
    clear hr' h1
    go_enter Tryz.func33, Tryz.ntmps33
    go_wp2
    go_ret
    exact ⟨by rw [← e]; rfl, bV⟩
   ·have q2 : (ol : Int) ≤ il := by omega
    have q3 : ¬ (il : Int) < ol := by omega
    have e : decide ((il : Int) ≤ 40) = r := by rw [← hr']; exact decide_eq_decide.2 (by omega)
    clear hr' h1
    go_enter Tryz.func33, Tryz.ntmps33
    go_wp2
    go_ret
    exact ⟨by rw [← e]; rfl, bV⟩
 ·have k1 : ¬ (n : Int) ≤ 400 := by omega
  rw [decide_eq_false h1] at hr
  simp only [Bool.false_and] at hr
  subst hr
  clear h1
  go_enter Tryz.func33, Tryz.ntmps33
  go_wp2
  go_ret
  exact ⟨rfl, bV⟩
end
section
open Go.RowKit Go.Lib
def mxI (l : List Nd) (P : List Int) : Int := P.foldl (fun x p => max x (tallI l p.toNat)) 0
theorem mxI_snoc (l : List Nd) (P : List Int) (p : Int) : mxI l (P ++ [p]) = max (mxI l P) (tallI l p.toNat) := by unfold mxI; rw [List.foldl_append]; rfl
theorem mxI_low (l : List Nd) {N : Int} : ∀ (P : List Int) (x : Int), 0 ≤ x → x ≤ N → (∀ p ∈ P, tallI l p.toNat ≤ N) → 0 ≤ P.foldl (fun x p => max x (tallI l p.toNat)) x ∧ P.foldl (fun x p => max x (tallI l p.toNat)) x ≤ N := by
 intro P
 induction P with
 | nil => intro x h0 h1 _; exact ⟨h0, h1⟩
 | cons p P ih =>
  intro x h0 h1 h
  have hp := h p (List.mem_cons_self ..)
  exact ih (max x (tallI l p.toNat)) (by omega) (by omega) (fun q hq => h q (List.mem_cons_of_mem _ hq))
theorem tall_pts {l : List Nd} (h : Behind l) {i : Nat} {n : Nd} (hn : l[i]? = some n) (h0 : 0 ≤ n.kind) (h7 : n.kind ≤ 7) : tallI l i = mxI l (ptsI n.kind n.a n.b) + 1 ∧ ∀ p ∈ ptsI n.kind n.a n.b, 0 ≤ p ∧ p < (i : Int) := by
 have hi := (List.getElem?_eq_some_iff.1 hn).1
 have hb := h i n hn
 rw [tall_step h hn]
 unfold ptsI
 by_cases k1 : n.kind ≤ 1
 ·rw [if_pos k1, if_pos (show n.kind = 0 ∨ n.kind = 1 by omega)]
  exact ⟨rfl, fun p hp => absurd hp (by simp)⟩
 ·rw [if_neg k1, if_neg (show ¬ (n.kind = 0 ∨ n.kind = 1) by omega)]
  obtain ⟨b1, b2, b3⟩ := hb (by omega)
  have ta := tall_range h l.length n.a.toNat (by omega) (by omega)
  by_cases k5 : n.kind ≤ 5
  ·rw [if_pos k5, if_neg (show ¬ (n.kind = 6 ∨ n.kind = 7) by omega)]
   obtain ⟨b4, b5⟩ := b3 k5
   have tb := tall_range h l.length n.b.toNat (by omega) (by omega)
   refine ⟨?_, fun p hp => ?_⟩
   ·show _ = max (max 0 (tallI l n.a.toNat)) (tallI l n.b.toNat) + 1
    omega
   ·simp at hp
    rcases hp with rfl | rfl
    ·exact ⟨b1, b2⟩
    ·exact ⟨b4, b5⟩
  ·rw [if_neg k5, if_pos (show n.kind = 6 ∨ n.kind = 7 by omega)]
   refine ⟨?_, fun p hp => ?_⟩
   ·show _ = max 0 (tallI l n.a.toNat) + 1
    omega
   ·simp at hp
    subst hp
    exact ⟨b1, b2⟩
theorem IsP.set {B g : Nat} {w : World} {pa : Option Addr} {P : List Int} (h : IsP B w pa P) (hg : g < B) (i : Nat) (y : Value) : IsP B (w.setCell ⟨g, i, none⟩ y) pa P := by
 rcases h with q | ⟨b, q1, q2, q3, q4⟩
 ·exact .inl q
 ·refine .inr ⟨b, q1, q2, by simpa using q3, fun j x hj => ?_⟩
  rw [World.cell?_setCell_other w]
  ·exact q4 j x hj
  ·intro e
   injection e with e1 e2 e3
   omega
theorem IsP.drew {B : Nat} {w : World} {pa : Option Addr} {P : List Int} (h : IsP B w pa P) : IsP B w.drew pa P := h
theorem mxI_take (l : List Nd) {P : List Int} {k : Nat} {p : Int} (hp : P[k]? = some p) : mxI l (P.take (k + 1)) = max (mxI l (P.take k)) (tallI l p.toNat) := by
 rw [List.take_add_one, hp, ← mxI_snoc]
 rfl
theorem pts_len (k a b : Int) : (ptsI k a b).length ≤ 2 := by
 unfold ptsI
 split
 ·simp
 ·split <;> simp
theorem tree_heights {w : World} {a : Option Addr} {n c : Nat} {ms : List Mn} (h : IsN w a n ms) (hn : n ≤ 100000) (hB : Behind (ms.map fun m => m.1.nd)) (hK : ∀ m ∈ ms, 0 ≤ m.1.kind ∧ m.1.kind ≤ 7) (hV : ∀ m ∈ ms, (∃ x y z, m.2.1 = .slice x y z) ∧ ∃ x y z, m.2.2 = .slice x y z) :
  Calls Tryz.prog 64 #[.slice a n c] w fun e w' => ∃ g, e = .returned (.slice (some ⟨g, 0, none⟩) n n) ∧ OwnC 3 1 w w' (.slice (some ⟨g, 0, none⟩) n n) n ((hts (ms.map fun m => m.1.nd) n).map (Value.int .i64)) := by
 have HH : Hid (IsN w a n ms ∧ n ≤ 100000 ∧ Behind (ms.map fun m => m.1.nd) ∧ (∀ m ∈ ms, 0 ≤ m.1.kind ∧ m.1.kind ≤ 7) ∧ (∀ m ∈ ms, (∃ x y z, m.2.1 = .slice x y z) ∧ ∃ x y z, m.2.2 = .slice x y z) ∧ Below w.heap.size w w) := ⟨h, hn, hB, hK, hV, Below.refl _ _⟩
 obtain ⟨l, hl⟩ : ∃ l, (ms.map fun m => m.1.nd) = l := ⟨_, rfl⟩
 rw [hl]
 have HL : Hid ((ms.map fun m => m.1.nd) = l) := hl
 have hN0 : ¬ (n : Int) < 0 := by omega
 have hN1 : n ≤ 1000000 := by omega
 clear h hn hB hK hV hl
 go_enter Tryz.func64, Tryz.ntmps64
 go_wp2_with (refine wpl_make_ints (.tmp 9) rfl rfl w _ n n rfl rfl hN1 HH.out.2.2.2.2.2 ?_; intro g0 w1 hg0 hg1 o1 bb1)
 go_loopg [13] n (fun g s13 v => ∃ (t : Nat) (xs : List Int), s13 = .int .i64 t ∧ t + g = n ∧ OwnC 3 1 w v (.slice (some ⟨g0, 0, none⟩) n n) n (xs.map (Value.int .i64)) ∧ xs.length = n ∧ (∀ j, j < t → xs[j]? = some (tallI l j)) ∧ (∀ j, t ≤ j → j < n → xs[j]? = some 0))
 case atStart => exact ⟨0, List.replicate n 0, rfl, by omega, o1, by simp, fun j hj => absurd hj (by omega), fun j _ hj => by simp [hj]⟩
 case round =>
  obtain ⟨t, xs, rfl, hg, o, hx, hlo, hhi⟩ := hrel
  have hn := HH.out.2.1
  clear o1 bb1 hg1
  rcases Nat.lt_or_ge t n with ht | ht
  ·have k1 : (t : Int) < n := by omega
   obtain ⟨m, hm⟩ : ∃ m, ms[t]? = some m := ⟨_, List.getElem?_eq_getElem (by have := HH.out.1.1; omega)⟩
   obtain ⟨⟨ux, uy, uz, hu⟩, vx, vy, vz, hv⟩ := HH.out.2.2.2.2.1 m (List.mem_of_getElem? hm)
   obtain ⟨gm, om, rfl, n0, n1, n2, n3, n4, n5, n6, n7⟩ := (HH.out.1.below o.below).node hm
   have hgm : gm < wr.heap.size := World.block_lt_of_cell? wr _ n0
   rw [hu] at n6
   rw [hv] at n7
   have hlt : l[t]? = some m.1.nd := by rw [← HL.out, List.getElem?_map, hm]; rfl
   have hkk := HH.out.2.2.2.1 m (List.mem_of_getElem? hm)
   obtain ⟨e1, e2⟩ := tall_pts (HL.out ▸ HH.out.2.2.1) hlt hkk.1 hkk.2
   have PT := fun (v : World) => tree_parts m.1.kind m.1.a m.1.b m.1.exp m.1.name m.1.neg ux uy uz vx vy vz v
   have e3 := fun (P : List Int) (hP : ∀ p ∈ P, 0 ≤ p ∧ p < (t : Int)) => mxI_low l (N := 200000) P 0 (by omega) (by omega) (fun p hp => by
    have := (tall_range (HL.out ▸ HH.out.2.2.1) l.length p.toNat (by have := hP p hp; have := (List.getElem?_eq_some_iff.1 hlt).1; omega) (by have := hP p hp; have := (List.getElem?_eq_some_iff.1 hlt).1; omega)).2
    have := hP p hp
    omega)
   change tallI l t = mxI l (ptsI m.1.kind m.1.a m.1.b) + 1 at e1
   change ∀ p ∈ ptsI m.1.kind m.1.a m.1.b, 0 ≤ p ∧ p < (t : Int) at e2
   have hP2 := pts_len m.1.kind m.1.a m.1.b
   generalize ptsI m.1.kind m.1.a m.1.b = P at *
   generalize m.1.kind = d0 at *
   generalize m.1.a = d1 at *
   generalize m.1.b = d2 at *
   generalize m.1.exp = d3 at *
   generalize m.1.name = d4 at *
   generalize m.1.neg = d5 at *
   have HQ : Hid (OwnC 3 1 w wr (.slice (some ⟨g0, 0, none⟩) n n) n (xs.map (Value.int .i64)) ∧ xs.length = n ∧ (∀ j, j < t → xs[j]? = some (tallI l j)) ∧ (∀ j, t ≤ j → j < n → xs[j]? = some 0) ∧ t + gk = n ∧ t < n ∧ tallI l t = mxI l P + 1 ∧ (∀ p ∈ P, 0 ≤ p ∧ p < (t : Int)) ∧ n ≤ 100000 ∧ (0 ≤ mxI l P ∧ mxI l P ≤ 200000)) := ⟨o, hx, hlo, hhi, hg, ht, e1, e2, hn, e3 P e2⟩
   have bw := o.below
   have h00 := (o.at1 (k := 0) (y := .int .i64 (xs.getD 0 0)) (by rw [List.getElem?_map]; cases xs with | nil => simp at hx; omega | cons x r => rfl)).2.2.2
   clear o hx hlo hhi hg ht e1 e2 e3 hm hu hv hlt hkk hn
   go_wp2_with (go_at_call 91; (with_reducible refine Calls.mono (PT _) ?_); rintro e v2 ⟨pa, pc, rfl, hp, b2⟩)
   have bB := ((Below.refl wr.heap.size wr).alloc (Nat.le_refl _) (.cells #[.int .i64 d0, .int .i64 d1, .int .i64 d2, .int .i64 d3, .string d4, .bool d5, .slice ux uy uz, .slice vx vy vz] 47))
   have b3 := below_more bB b2
   have o2 := HQ.out.1.more b3
   have hp' : IsP (g0 + 1) v2 pa P := by
    rcases hp with q | ⟨b, q1, q2, q3, q4⟩
    ·exact .inl q
    ·exact .inr ⟨b, q1, by have : wr.heap.size ≤ _ := bB.size; omega, q3, q4⟩
   have HP2 : Hid (P.length ≤ 2) := hP2
   clear hp n0 n1 n2 n3 n4 n5 n6 n7 PT hP2
   go_loopg [21] P.length (fun g s21 v => ∃ k : Nat, s21 = .int .i64 k ∧ k + g = P.length ∧ OwnC 3 1 w v (.slice (some ⟨g0, 0, none⟩) n n) n ((xs.set t (mxI l (P.take k))).map (Value.int .i64)) ∧ IsP (g0 + 1) v pa P)
   case atStart =>
    refine ⟨0, rfl, by omega, ?_, hp'⟩
    have : xs.set t (mxI l (P.take 0)) = xs := by
     apply List.ext_getElem?
     intro j
     rw [List.getElem?_set]
     split
     ·rename_i q
      subst q
      rw [HQ.out.2.2.2.1 t (Nat.le_refl _) HQ.out.2.2.2.2.2.1, if_pos (by have := HQ.out.2.1; have := HQ.out.2.2.2.2.2.1; omega)]
      rfl
     ·rfl
    rw [this]
    exact o2
   case round =>
    obtain ⟨k, rfl, hk, o, hP⟩ := hrel
    have hg01 : g0 < wr.heap.size := (o.at1 (k := 0) (y := ((xs.set t (mxI l (P.take k))).map (Value.int .i64)).getD 0 .nilIface) (by
     have : 0 < ((xs.set t (mxI l (P.take k))).map (Value.int .i64)).length := by rw [List.length_map, List.length_set]; have := HQ.out.2.1; have := HQ.out.2.2.2.2.2.1; omega
     rw [List.getD_eq_getElem?_getD, List.getElem?_eq_getElem this]; rfl)).2.2.2
    have hlen := HQ.out.2.1
    have htn := HQ.out.2.2.2.2.2.1
    have hn := HQ.out.2.2.2.2.2.2.2.2.1
    have hm1 := HQ.out.2.2.2.2.2.2.2.2.2
    have ct := (o.at1 (k := t) (y := .int .i64 (mxI l (P.take k))) (by rw [List.getElem?_map, List.getElem?_set_self (by omega)]; rfl))
    obtain ⟨ct, cf, -, -⟩ := ct
    rcases Nat.lt_or_ge k P.length with hkl | hkl
    ·have k2 : (k : Int) < P.length := by omega
     obtain ⟨b, rfl, q2, q3, q4⟩ := hP.resolve_left (fun e => by rw [e] at hkl; simp at hkl)
     obtain ⟨p, hp⟩ : ∃ p, P[k]? = some p := ⟨_, List.getElem?_eq_getElem hkl⟩
     have cb := q4 k p hp
     obtain ⟨p0, p1⟩ := HQ.out.2.2.2.2.2.2.2.1 p (List.mem_of_getElem? hp)
     have hmx := mxI_take l hp
     obtain ⟨q, rfl⟩ := Int.eq_ofNat_of_zero_le p0
     have hqt : q < t := by omega
     have cq := (o.at1 (k := q) (y := .int .i64 (tallI l q)) (by rw [List.getElem?_map, List.getElem?_set_ne (by omega), HQ.out.2.2.1 q hqt]; rfl)).1
     rw [show ((q : Int)).toNat = q from rfl] at hmx
     have q5 : (q : Int) < n := by omega
     have q6 : q < n := by omega
     have q7 : (t : Int) < n := by omega
     have HO : Hid (OwnC 3 1 w wr (.slice (some ⟨g0, 0, none⟩) n n) n ((xs.set t (mxI l (P.take k))).map (Value.int .i64)) ∧ IsP (g0 + 1) wr (some ⟨b, 0, none⟩) P ∧ k + gk = P.length ∧ k < P.length ∧ mxI l (P.take (k + 1)) = max (mxI l (P.take k)) (tallI l q)) := ⟨o, hP, hk, hkl, hmx⟩
     have hPl : P.length ≤ 2 := HP2.out
     have w1 : wrap64 ((k : Int) + 1) = (k : Int) + 1 := wrap_smalls (by omega) (by omega)
     generalize mxI l (P.take k) = M at *
     generalize tallI l q = T at *
     clear o hP hk hkl hmx q4 hp p0 p1 hqt hlen htn hn hm1 hPl b2 bB b3 o2 hp'
     have hqw : g0 < wr.heap.size := hg01
     have SO : ∀ v, Below wr.heap.size wr v → (v.cell? ⟨g0, t, none⟩ = some (.int .i64 M) ∧ v.cell? ⟨g0, q, none⟩ = some (.int .i64 T)) := fun v hb => ⟨by rw [hb.cell (p := ⟨g0, t, none⟩) hqw]; exact ct, by rw [hb.cell (p := ⟨g0, q, none⟩) hqw]; exact cq⟩
     have bs := (Below.refl wr.heap.size wr).drew
     rcases Int.lt_or_le M T with mt | mt
     ·have mx : max M T = T := by omega
      have mt' : ¬ T ≤ M := by omega
      go_wp2
      go_region_law (fail)
      all_goals
       obtain ⟨o, hP, hk, hkl, hmx⟩ := HO.out
       have f1 : k + 1 + (P.length - (k + 1)) = P.length ∧ P.length - (k + 1) < gk ∧ g0 < g0 + 1 := by clear w1 ct cq cb mx hmx; omega
       go_wp2
       go_roundg (P.length - (k + 1))
       case measure => exact f1.2.1
       case rel =>
        refine ⟨k + 1, by first | rfl | (rw [w1]; rfl), f1.1, ?_, (hP.drew).set f1.2.2 _ _⟩
        rw [hmx, mx]
        have := (o.drew).set1 t (.int .i64 T)
        rw [← List.map_set, List.set_set] at this
        exact this
     ·have mx : max M T = M := by omega
      have mt' : ¬ M < T := by omega
      go_wp2
      go_region_law (fail)
      all_goals
       obtain ⟨o, hP, hk, hkl, hmx⟩ := HO.out
       have f1 : k + 1 + (P.length - (k + 1)) = P.length ∧ P.length - (k + 1) < gk ∧ g0 < g0 + 1 := by clear w1 ct cq cb mx hmx; omega
       go_wp2
       go_roundg (P.length - (k + 1))
       case measure => exact f1.2.1
       case rel =>
        refine ⟨k + 1, by first | rfl | (rw [w1]; rfl), f1.1, ?_, (hP.drew).set f1.2.2 _ _⟩
        rw [hmx, mx]
        have := (o.drew).set1 t (.int .i64 M)
        rw [← List.map_set, List.set_set] at this
        exact this
    ·have k2 : ¬ (k : Int) < P.length := by omega
     obtain rfl : k = P.length := by omega
     rw [List.take_length] at o ct
     have w1 : wrap64 (mxI l P + 1) = mxI l P + 1 := wrap_smalls (by omega) (by omega)
     have w2 : wrap64 ((t : Int) + 1) = (t : Int) + 1 := wrap_smalls (by omega) (by omega)
     have q7 : (t : Int) < n := by omega
     have HO : Hid (OwnC 3 1 w wr (.slice (some ⟨g0, 0, none⟩) n n) n ((xs.set t (mxI l P)).map (Value.int .i64))) := o
     generalize mxI l P = M at *
     clear o hP hk hkl hlen hn hm1 b2 bB b3 o2 hp'
     go_wp2
     obtain ⟨-, hx, hlo, hhi, hg, ht, e1, -, -, -⟩ := HQ.out
     have HF : OwnC 3 1 w (wr.setCell ⟨g0, t, none⟩ (.int .i64 (M + 1))) (.slice (some ⟨g0, 0, none⟩) n n) n ((xs.set t (M + 1)).map (Value.int .i64)) ∧ (xs.set t (M + 1)).length = n ∧ (∀ j, j < t + 1 → (xs.set t (M + 1))[j]? = some (tallI l j)) ∧ (∀ j, t + 1 ≤ j → j < n → (xs.set t (M + 1))[j]? = some 0) ∧ t + 1 + (n - (t + 1)) = n ∧ n - (t + 1) < n - t := by
      clear w1 w2 k2 q7 ct cf
      refine ⟨?_, by rw [List.length_set]; exact hx, fun j hj => ?_, fun j hj hjn => ?_, by omega, by omega⟩
      ·have := HO.out.set1 t (.int .i64 (M + 1))
       rw [← List.map_set, List.set_set] at this
       exact this
      ·rcases (show j < t ∨ j = t by omega) with q | rfl
       ·rw [List.getElem?_set_ne (by omega)]; exact hlo j q
       ·rw [List.getElem?_set_self (by omega), e1]
      ·rw [List.getElem?_set_ne (by omega)]; exact hhi j (by omega) hjn
     obtain ⟨f1, f2, f3, f4, f5, f6⟩ := HF
     clear hlo hhi e1 w1
     go_roundg (n - (t + 1))
     case measure => clear w2; omega
     case rel => exact ⟨t + 1, xs.set t (M + 1), by first | rfl | (rw [w2]; rfl), f5, f1, f2, f3, f4⟩
  ·obtain rfl : t = n := by omega
   have k1 : ¬ (t : Int) < (t : Int) := by omega
   have he : xs = hts l t := by
    apply List.ext_getElem?
    intro j
    rcases Nat.lt_or_ge j t with q | q
    ·rw [hlo j q, hts_get l q]
    ·rw [List.getElem?_eq_none (by omega), List.getElem?_eq_none (by rw [hts_length]; exact q)]
   subst he
   have HO : Hid _ := o
   clear hg hlo hhi o hx hn HH HL ht hN0 hN1
   go_wp2
   go_ret
   exact ⟨g0, rfl, HO.out⟩
end
end Go.Proofs.YtaeladkcmpdkhaaGreatDoor
