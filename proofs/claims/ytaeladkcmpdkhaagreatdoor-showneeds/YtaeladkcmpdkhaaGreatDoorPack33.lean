/-
  Texts of mine in build order. No conditions of their own.
-/
import Derived.Test.YtaeladkcmpdkhaaGreatDoorPack32
namespace Go.Proofs.YtaeladkcmpdkhaaGreatDoor
section
open Go.Lib
def notM (y : Int × ByteArray) (c : UInt8) : Prop := (decide (y.1 = 2) && (y.2.data.toList == [c])) = false
def Fol (least : Nat) (y : Int × ByteArray) : Prop := (least ≤ 3 → notM y 94) ∧ (least = 1 → notM y 42 ∧ notM y 47)
def levs (least : Nat) : Prop := least = 1 ∨ least = 2 ∨ least = 3 ∨ least = 5
def afterR (r : Rd) (n : Nat) (ns : List Nd) : Rd := ⟨r.pos + n, false, r.all ++ ns⟩
def lastR (r : Rd) (ns : List Nd) : Int := (r.all.length : Int) + ns.length - 1
def LevR (num : ByteArray → Bool × Nat × Nat) (L : List Tok) (least : Nat) (r : Rd) (n : Nat) (ns : List Nd) : Prop :=
 if least = 1 then exprI num L 0 0 r = exprI num L 1 (lastR r ns) (afterR r n ns)
 else if least = 2 then exprI num L 2 0 r = exprI num L 3 (lastR r ns) (afterR r n ns)
 else if least = 3 then Reads1 num L 4 r n ns
 else Reads1 num L 6 r n ns
theorem reads_lev2 {num : ByteArray → Bool × Nat × Nat} {L : List Tok} {r : Rd} {n : Nat} {ns : List Nd} (h : Reads1 num L 4 r n ns) : LevR num L 2 r n ns := by
 unfold Reads1 at h
 unfold LevR
 rw [if_neg (by decide), if_pos rfl, expr_product, h]; rfl
theorem lev2_lev1 {num : ByteArray → Bool × Nat × Nat} {L : List Tok} {r : Rd} {n : Nat} {ns : List Nd} {y : Int × ByteArray} (h : LevR num L 2 r n ns) (hy : TokAt L (r.pos + n) y) (h1 : notM y 42) (h2 : notM y 47) : LevR num L 1 r n ns := by
 unfold LevR at h ⊢
 rw [if_neg (by decide), if_pos rfl] at h
 rw [if_pos rfl, expr_sum, h, stop_product (r := afterR r n ns) rfl hy h1 h2]
theorem lev_down {num : ByteArray → Bool × Nat × Nat} {L : List Tok} {r : Rd} {n : Nat} {ns : List Nd} {p q : Nat} {x y : Int × ByteArray} (h : LevR num L p r n ns) (hp : levs p) (hq : levs q) (hqp : q ≤ p) (hb : r.bad = false) (hx : TokAt L r.pos x) (hx2 : p = 5 → notM x 45) (hy : TokAt L (r.pos + n) y) (hy2 : Fol q y) : LevR num L q r n ns := by
 have d1 : q = 1 → LevR num L 2 r n ns → LevR num L q r n ns := fun e k => by subst e; exact lev2_lev1 k hy (hy2.2 rfl).1 (hy2.2 rfl).2
 have d3 : Reads1 num L 4 r n ns → q ≤ 3 → LevR num L q r n ns := by
  intro k hq3
  rcases hq with e | e | e | e
  ·exact d1 e (reads_lev2 k)
  ·subst e; exact reads_lev2 k
  ·subst e; exact k
  ·omega
 rcases hp with e | e | e | e
 ·obtain rfl : q = 1 := by rcases hq with e2 | e2 | e2 | e2 <;> omega
  subst e; exact h
 ·subst e
  rcases hq with e | e | e | e
  ·exact d1 e h
  ·subst e; exact h
  ·omega
  ·omega
 ·subst e
  exact d3 h hqp
 ·subst e
  rcases hq with e | e | e | e
  ·exact d3 (fac_of h hb hx (hx2 rfl) hy (hy2.1 (by omega))) (by omega)
  ·exact d3 (fac_of h hb hx (hx2 rfl) hy (hy2.1 (by omega))) (by omega)
  ·exact d3 (fac_of h hb hx (hx2 rfl) hy (hy2.1 (by omega))) (by omega)
  ·subst e; exact h
theorem lev1_sum {num : ByteArray → Bool × Nat × Nat} {L : List Tok} {r : Rd} {n : Nat} {ns : List Nd} {y : Int × ByteArray} (h : LevR num L 1 r n ns) (hy : TokAt L (r.pos + n) y) (h1 : notM y 43) (h2 : notM y 45) : Reads1 num L 0 r n ns := by
 unfold LevR at h
 rw [if_pos rfl] at h
 unfold Reads1
 rw [h, stop_sum (r := afterR r n ns) rfl hy h1 h2]; rfl
theorem sum_step {num : ByteArray → Bool × Nat × Nat} {L : List Tok} {r : Rd} {k1 k2 : Nat} {ns1 ns2 : List Nd} {K : Int} {y : Int × ByteArray} (hK : K = 2 ∨ K = 3) (h1 : LevR num L 1 r k1 ns1) (ho : TokAt L (r.pos + k1) (2, opB K)) (h2 : LevR num L 2 ⟨r.pos + k1 + 1, false, r.all ++ ns1⟩ k2 ns2) (hy : TokAt L (r.pos + k1 + 1 + k2) y) (hy2 : Fol 1 y) :
  LevR num L 1 r (k1 + 1 + k2) (ns1 ++ ns2 ++ [⟨K, (r.all.length : Int) + ns1.length - 1, (r.all.length : Int) + ns1.length + ns2.length - 1, 0, noText, (false, 0, 0)⟩]) := by
 unfold LevR at h1 h2 ⊢
 rw [if_pos rfl] at h1 ⊢
 rw [if_neg (by decide), if_pos rfl] at h2
 have i1 := Rd.is_tokAt (r := afterR r k1 ns1) ho rfl 2 [43]
 have i2 := Rd.is_tokAt (r := afterR r k1 ns1) ho rfl 2 [45]
 have hk : (if Rd.is L (afterR r k1 ns1) 2 [45] = true then (3 : Int) else 2) = K := by
  rw [i2]
  rcases hK with rfl | rfl
  ·rfl
  ·rfl
 rw [h1, expr_more_sum, if_pos (by rw [i1, i2]; rcases hK with rfl | rfl <;> rfl), hk]
 have e2 : exprI num L 2 0 (afterR r k1 ns1).skip = (((r.all ++ ns1).length : Int) + ns2.length - 1, ⟨r.pos + k1 + 1 + k2, false, r.all ++ ns1 ++ ns2⟩) := by
  show exprI num L 2 0 ⟨r.pos + k1 + 1, false, r.all ++ ns1⟩ = _
  rw [h2, stop_product (r := afterR ⟨r.pos + k1 + 1, false, r.all ++ ns1⟩ k2 ns2) rfl hy (hy2.2 rfl).1 (hy2.2 rfl).2]; rfl
 rw [e2]
 unfold Rd.node
 dsimp only
 have e1 : ((r.all ++ ns1).length : Int) + ns2.length - 1 = (r.all.length : Int) + ns1.length + ns2.length - 1 := by rw [List.length_append]; omega
 rw [e1]
 congr 1
 ·unfold lastR
  simp only [List.length_append, List.length_singleton]; omega
 ·unfold afterR
  rw [show r.pos + k1 + 1 + k2 = r.pos + (k1 + 1 + k2) by omega]
  simp only [List.append_assoc]; rfl
theorem prod_step {num : ByteArray → Bool × Nat × Nat} {L : List Tok} {r : Rd} {k1 k2 : Nat} {ns1 ns2 : List Nd} {K : Int} (hK : K = 4 ∨ K = 5) (h1 : LevR num L 2 r k1 ns1) (ho : TokAt L (r.pos + k1) (2, opB K)) (h2 : Reads1 num L 4 ⟨r.pos + k1 + 1, false, r.all ++ ns1⟩ k2 ns2) :
  LevR num L 2 r (k1 + 1 + k2) (ns1 ++ ns2 ++ [⟨K, (r.all.length : Int) + ns1.length - 1, (r.all.length : Int) + ns1.length + ns2.length - 1, 0, noText, (false, 0, 0)⟩]) := by
 unfold LevR at h1 ⊢
 rw [if_neg (by decide), if_pos rfl] at h1 ⊢
 unfold Reads1 at h2
 have i1 := Rd.is_tokAt (r := afterR r k1 ns1) ho rfl 2 [42]
 have i2 := Rd.is_tokAt (r := afterR r k1 ns1) ho rfl 2 [47]
 have hk : (if Rd.is L (afterR r k1 ns1) 2 [47] = true then (5 : Int) else 4) = K := by
  rw [i2]
  rcases hK with rfl | rfl
  ·rfl
  ·rfl
 rw [h1, expr_more_product, if_pos (by rw [i1, i2]; rcases hK with rfl | rfl <;> rfl), hk]
 have e2 : exprI num L 4 0 (afterR r k1 ns1).skip = (((r.all ++ ns1).length : Int) + ns2.length - 1, ⟨r.pos + k1 + 1 + k2, false, r.all ++ ns1 ++ ns2⟩) := h2
 rw [e2]
 unfold Rd.node
 dsimp only
 have e1 : ((r.all ++ ns1).length : Int) + ns2.length - 1 = (r.all.length : Int) + ns1.length + ns2.length - 1 := by rw [List.length_append]; omega
 rw [e1]
 congr 1
 ·unfold lastR
  simp only [List.length_append, List.length_singleton]; omega
 ·unfold afterR
  rw [show r.pos + k1 + 1 + k2 = r.pos + (k1 + 1 + k2) by omega]
  simp only [List.append_assoc]; rfl
def ownLev (k : Int) : Nat := if bindK k = 4 then 3 else bindK k
theorem ownLev_levs (k : Int) : levs (ownLev k) := by
 have := bindK_range k
 unfold ownLev levs
 split <;> omega
theorem toksP_wrap (b : Bool) (x : List (Int × ByteArray)) : toksP (wrapP b x) = wrapP b (toksP x) := by
 unfold wrapP
 split
 ·rw [toksP_cons (by decide), toksP_app]; rfl
 ·rfl
theorem part_of_body {num : ByteArray → Bool × Nat × Nat} {L : List Tok} {r : Rd} {B : List (Int × ByteArray)} {ns : List Nd} {k : Int} {least : Nat} {y : Int × ByteArray} (hb : r.bad = false) (hl : levs least) (hp : Pre L r.pos (wrapP (decide (bindK k < least)) B)) (hB : 1 ≤ B.length) (h5 : bindK k = 5 → ∀ x ts, B = x :: ts → notM x 45)
  (hy : TokAt L (r.pos + (wrapP (decide (bindK k < least)) B).length) y) (hy2 : Fol least y)
  (H : ∀ (q : Rd) (z : Int × ByteArray), q.bad = false → q.all = r.all → Pre L q.pos B → TokAt L (q.pos + B.length) z → Fol (ownLev k) z → LevR num L (ownLev k) q B.length ns) :
  LevR num L least r (wrapP (decide (bindK k < least)) B).length ns := by
 have hr := bindK_range k
 have hlv := ownLev_levs k
 have ho : ownLev k = 4 ∨ (ownLev k ≤ bindK k ∧ (bindK k = 5 ↔ ownLev k = 5)) := by unfold ownLev; split <;> omega
 obtain ⟨x, ts, hx⟩ : ∃ x ts, B = x :: ts := by cases B with | nil => exact absurd hB (by simp) | cons x ts => exact ⟨x, ts, rfl⟩
 by_cases hw : bindK k < least
 ·have e : wrapP (decide (bindK k < least)) B = (2, ⟨#[40]⟩) :: (B ++ [(2, ⟨#[41]⟩)]) := by unfold wrapP; rw [if_pos (by simpa using hw)]
  rw [e] at hp hy ⊢
  obtain ⟨t1, p1⟩ := hp.head
  obtain ⟨p2, p3⟩ := p1.app
  obtain ⟨t3, -⟩ := p3.head
  have hz : ∀ q, Fol q (2, ⟨#[41]⟩) := fun q => ⟨fun _ => rfl, fun _ => ⟨rfl, rfl⟩⟩
  have K := H r.skip (2, ⟨#[41]⟩) hb rfl p2 t3 (hz _)
  have px := p2
  rw [hx] at px
  have K1 := lev_down K hlv (.inl rfl) (by rcases hlv with e | e | e | e <;> omega) hb px.head.1 (fun e5 => h5 (by unfold ownLev at e5; split at e5 <;> omega) x ts hx) t3 (hz 1)
  have K6 := atom_of hb t1 (lev1_sum K1 t3 rfl rfl) t3
  have el : ((2, ⟨#[40]⟩) :: (B ++ [((2 : Int), (⟨#[41]⟩ : ByteArray))])).length = B.length + 2 := by simp
  rw [el] at hy ⊢
  exact lev_down (p := 5) K6 (.inr (.inr (.inr rfl))) hl (by rcases hl with e | e | e | e <;> omega) hb t1 (fun _ => rfl) hy hy2
 ·have e : wrapP (decide (bindK k < least)) B = B := by unfold wrapP; rw [if_neg (by simpa using hw)]
  rw [e] at hp hy ⊢
  have hql : least ≤ ownLev k := by
   unfold ownLev
   split
   ·rcases hl with e | e | e | e <;> omega
   ·omega
  have hF : Fol (ownLev k) y := ⟨fun q => hy2.1 (by omega), fun q => hy2.2 (by rcases hl with e | e | e | e <;> omega)⟩
  have K := H r y hb rfl hp hy hF
  have px := hp
  rw [hx] at px
  exact lev_down K hlv hl hql hb px.head.1 (fun e5 => h5 (by unfold ownLev at e5; split at e5 <;> omega) x ts hx) hy hy2
theorem part_first {pr : Bool × Nat × Nat → ByteArray} {ex : Nat → ByteArray} {l : List Nd} {i : Nat} {n : Nd} (h : l[i]? = some n) (hk : 0 ≤ n.kind ∧ n.kind ≤ 7) (f : Nat) : ∃ x ts, toksP (partP pr ex l (f + 1) i 5) = x :: ts ∧ notM x 45 := by
 rw [partP_step h, toksP_wrap]
 by_cases hb : bindK n.kind < 5
 ·unfold wrapP
  rw [if_pos (by simpa using hb)]
  exact ⟨_, _, rfl, rfl⟩
 ·unfold wrapP
  rw [if_neg (by simpa using hb)]
  have : n.kind = 0 ∨ n.kind = 1 := by
   unfold bindK at hb
   repeat' split at hb
   all_goals omega
  unfold bodyP
  rcases this with e | e
  ·rw [if_pos e]; exact ⟨_, _, rfl, rfl⟩
  ·rw [if_neg (by omega), if_pos e]; exact ⟨_, _, rfl, rfl⟩
theorem part_some {pr : Bool × Nat × Nat → ByteArray} {ex : Nat → ByteArray} {l : List Nd} {i : Nat} {n : Nd} (h : l[i]? = some n) (f : Nat) {least : Nat} : 1 ≤ (toksP (partP pr ex l (f + 1) i least)).length := by
 rw [partP_step h, toksP_wrap]
 unfold wrapP
 split
 ·rw [List.length_cons]; omega
 ·unfold bodyP
  by_cases k0 : n.kind = 0
  ·rw [if_pos k0]; exact Nat.le_refl _
  rw [if_neg k0]
  by_cases k1 : n.kind = 1
  ·rw [if_pos k1]; exact Nat.le_refl _
  rw [if_neg k1]
  by_cases k6 : n.kind = 6
  ·rw [if_pos k6, toksP_cons (by decide), List.length_cons]; omega
  rw [if_neg k6]
  by_cases k7 : n.kind = 7
  ·rw [if_pos k7, toksP_app, toksP_cons (by decide), List.length_append, List.length_cons]; omega
  rw [if_neg k7, toksP_app, show spP = (3, ⟨#[32]⟩) from rfl, toksP_blank, toksP_cons (by decide), List.length_append, List.length_cons]; omega
end
section
open Go.Lib
theorem FieldsP.kinds {num : ByteArray → Bool × Nat × Nat} {pr : Bool × Nat × Nat → ByteArray} {ex : Nat → ByteArray} {n : Nd} (h : FieldsP num pr ex n) : 0 ≤ n.kind ∧ n.kind ≤ 7 := by
 rcases h with ⟨q, -⟩ | ⟨q, -⟩ | ⟨q, q', -⟩ | ⟨q, -⟩ | ⟨q, -⟩ <;> omega
theorem LevR.five {num : ByteArray → Bool × Nat × Nat} {L : List Tok} {r : Rd} {n : Nat} {ns : List Nd} (h : LevR num L 5 r n ns) : Reads1 num L 6 r n ns := h
theorem LevR.three {num : ByteArray → Bool × Nat × Nat} {L : List Tok} {r : Rd} {n : Nat} {ns : List Nd} (h : LevR num L 3 r n ns) : Reads1 num L 4 r n ns := h
theorem LevR.of_three {num : ByteArray → Bool × Nat × Nat} {L : List Tok} {r : Rd} {n : Nat} {ns : List Nd} (h : Reads1 num L 4 r n ns) : LevR num L 3 r n ns := h
theorem not_op {K : Int} (hK : K = 2 ∨ K = 3 ∨ K = 4 ∨ K = 5) : notM (2, opB K) 94 ∧ (K = 2 ∨ K = 3 → notM (2, opB K) 42 ∧ notM (2, opB K) 47) := by
 rcases hK with rfl | rfl | rfl | rfl
 ·exact ⟨rfl, fun _ => ⟨rfl, rfl⟩⟩
 ·exact ⟨rfl, fun _ => ⟨rfl, rfl⟩⟩
 ·exact ⟨rfl, fun h => by omega⟩
 ·exact ⟨rfl, fun h => by omega⟩
theorem part_read {num : ByteArray → Bool × Nat × Nat} {pr : Bool × Nat × Nat → ByteArray} {ex : Nat → ByteArray} {l : List Nd} (HF : ∀ n ∈ l, FieldsP num pr ex n) {b i : Nat} (h : Seg l b i) : ∀ f, i + 1 ≤ f → ∀ least, levs least → ∀ (L : List Tok) (r : Rd) (y : Int × ByteArray), r.bad = false → Pre L r.pos (toksP (partP pr ex l f i least)) → TokAt L (r.pos + (toksP (partP pr ex l f i least)).length) y → Fol least y →
  LevR num L least r (toksP (partP pr ex l f i least)).length ((slN l b i).map (shN ((r.all.length : Int) - b))) := by
 refine (h (fun b i => Seg l b i ∧ ∀ f, i + 1 ≤ f → ∀ least, levs least → ∀ (L : List Tok) (r : Rd) (y : Int × ByteArray), r.bad = false → Pre L r.pos (toksP (partP pr ex l f i least)) → TokAt L (r.pos + (toksP (partP pr ex l f i least)).length) y → Fol least y → LevR num L least r (toksP (partP pr ex l f i least)).length ((slN l b i).map (shN ((r.all.length : Int) - b)))) ?_ ?_ ?_).2
 ·intro i n hn hk
  refine ⟨Seg.leaf hn hk, fun f hf least hl L r y hb hp hy hy2 => ?_⟩
  cases f with
  | zero => omega
  | succ f =>
   rw [partP_step hn, toksP_wrap] at hp hy ⊢
   have eB : toksP (bodyP pr ex l f n) = exactF pr ex l (i + 1) i := by
    unfold bodyP exactF
    rw [hn]
    dsimp only
    rcases hk with e | e
    ·rw [if_pos e, if_pos e]; rfl
    ·have k0 : ¬ n.kind = 0 := by omega
     rw [if_neg k0, if_pos e, if_neg k0, if_pos e]; rfl
   have hbk : bindK n.kind = 5 := by rcases hk with e | e <;> rw [e] <;> rfl
   obtain ⟨fx, fts, hfx, hfx2⟩ := exact_first (pr := pr) (ex := ex) (f := i) hn
   rw [eB] at hp hy ⊢
   refine part_of_body hb hl hp (by rw [hfx]; simp) (fun _ x ts e => by rw [hfx] at e; cases e; exact hfx2) hy hy2 ?_
   rintro ⟨qp, qb, qa⟩ z hqb hqa hp hz hF
   obtain rfl : qb = false := hqb
   obtain rfl : qa = r.all := hqa
   have ho : ownLev n.kind = 5 := by unfold ownLev; rw [hbk]; rfl
   rw [ho]
   exact exact_read HF (Seg.leaf hn hk) (i + 1) (Nat.le_refl _) L ⟨qp, false, r.all⟩ rfl hp
 ·intro b i n ⟨hs, ih⟩ hn hk ha
  refine ⟨hs.one hn hk ha, fun f hf least hl L r y hb hp hy hy2 => ?_⟩
  have hle := hs.le
  cases f with
  | zero => omega
  | succ f =>
   have hfp := HF n (List.mem_of_getElem? hn)
   obtain ⟨n0, hn0⟩ : ∃ n0, l[i]? = some n0 := ⟨_, List.getElem?_eq_getElem hle.2⟩
   have hk0 := (HF n0 (List.mem_of_getElem? hn0)).kinds
   have hlen := slN_length (l := l) (b := b) hle.2
   have hsl : slN l b (i + 1) = slN l b i ++ [n] := by rw [slN_app (j := i) (by omega) (by have := (List.getElem?_eq_some_iff.1 hn).1; omega), slN_one hn]
   obtain ⟨f', rfl⟩ : ∃ f', f = f' + 1 := ⟨f - 1, by omega⟩
   have hN : n.a.toNat = i := by rw [ha]; exact Int.toNat_natCast i
   rw [partP_step hn, toksP_wrap] at hp hy ⊢
   rw [hsl, List.map_append, List.map_singleton]
   rcases hk with hk | hk
   ·have eB : toksP (bodyP pr ex l (f' + 1) n) = (2, ⟨#[45]⟩) :: toksP (partP pr ex l (f' + 1) i 3) := by
     unfold bodyP
     rw [if_neg (by omega), if_neg (by omega), if_pos hk, toksP_cons (by decide), hN]
    rw [eB] at hp hy ⊢
    refine part_of_body hb hl hp (by simp) (fun e => by rw [hk] at e; exact absurd e (by decide)) hy hy2 ?_
    rintro ⟨qp, qb, qa⟩ z hqb hqa hp hz hF
    obtain rfl : qb = false := hqb
    obtain rfl : qa = r.all := hqa
    have ho : ownLev n.kind = 3 := by rw [hk]; rfl
    rw [ho] at hF ⊢
    obtain ⟨h1, hp1⟩ := hp.head
    have hz' : TokAt L ((⟨qp, false, r.all⟩ : Rd).skip.pos + (toksP (partP pr ex l (f' + 1) i 3)).length) z := by
     show TokAt L (qp + 1 + _) z
     rw [show qp + 1 + (toksP (partP pr ex l (f' + 1) i 3)).length = qp + ((toksP (partP pr ex l (f' + 1) i 3)).length + 1) by omega]
     exact hz
    have R := (ih (f' + 1) (by omega) 3 (.inr (.inr (.inl rfl))) L (⟨qp, false, r.all⟩ : Rd).skip z rfl hp1 hz' hF).three
    have R5 := neg_of (r := ⟨qp, false, r.all⟩) rfl h1 R
    have hsh : shN ((r.all.length : Int) - b) n = ⟨6, (r.all.length : Int) + ((slN l b i).map (shN ((r.all.length : Int) - b))).length - 1, 0, 0, noText, (false, 0, 0)⟩ := by
     have q := hfp.neg hk
     rw [q]
     unfold shN
     rw [if_neg (by simp), if_neg (by simp), List.length_map, hlen, ha]
     congr 1
     omega
    rw [hsh]
    exact LevR.of_three R5
   ·obtain ⟨qe, q⟩ := hfp.pow hk
    have eB : toksP (bodyP pr ex l (f' + 1) n) = toksP (partP pr ex l (f' + 1) i 5) ++ ((2, ⟨#[94]⟩) :: ((if n.exp < 0 then [((2 : Int), (⟨#[45]⟩ : ByteArray))] else []) ++ [(1, ex n.exp.natAbs)])) := by
     unfold bodyP
     rw [if_neg (by omega), if_neg (by omega), if_neg (by omega), if_pos hk, toksP_app, toksP_cons (by decide), toksP_app, hN]
     split <;> rfl
    rw [eB] at hp hy ⊢
    have hpos := part_some (pr := pr) (ex := ex) hn0 f' (least := 5)
    refine part_of_body hb hl hp (by rw [List.length_append]; omega) (fun e => by rw [hk] at e; exact absurd e (by decide)) hy hy2 ?_
    rintro ⟨qp, qb, qa⟩ z hqb hqa hp hz hF
    obtain rfl : qb = false := hqb
    obtain rfl : qa = r.all := hqa
    have ho : ownLev n.kind = 3 := by rw [hk]; rfl
    rw [ho] at hF ⊢
    obtain ⟨hp3, hp4⟩ := hp.app
    obtain ⟨h5, hp5⟩ := hp4.head
    have R := (ih (f' + 1) (by omega) 5 (.inr (.inr (.inr rfl))) L (⟨qp, false, r.all⟩ : Rd) _ rfl hp3 h5 ⟨fun e => by omega, fun e => by omega⟩).five
    obtain ⟨fx, fts, hfx, hfx2⟩ := part_first (pr := pr) (ex := ex) hn0 hk0 f'
    rw [hfx] at hp3
    obtain ⟨h6, -⟩ := hp3.head
    have hp6 := hp5.app
    have key : n.exp < 0 ∧ TokAt L (qp + (toksP (partP pr ex l (f' + 1) i 5)).length + 1) (2, ⟨#[45]⟩) ∧ TokAt L (qp + (toksP (partP pr ex l (f' + 1) i 5)).length + 2) (1, ex n.exp.natAbs) ∨ 0 ≤ n.exp ∧ TokAt L (qp + (toksP (partP pr ex l (f' + 1) i 5)).length + 1) (1, ex n.exp.natAbs) := by
     by_cases e0 : n.exp < 0
     ·rw [if_pos e0] at hp6
      exact .inl ⟨e0, hp6.1.head.1, hp6.2.head.1⟩
     ·rw [if_neg e0] at hp6
      exact .inr ⟨by omega, hp6.2.head.1⟩
    have R5 := pow_of (r := ⟨qp, false, r.all⟩) R rfl h6 hfx2 h5 key qe
    have hsh : shN ((r.all.length : Int) - b) n = ⟨7, (r.all.length : Int) + ((slN l b i).map (shN ((r.all.length : Int) - b))).length - 1, 0, n.exp, noText, (false, 0, 0)⟩ := by
     conv => lhs; rw [q]
     unfold shN
     rw [if_neg (by simp), if_neg (by simp), List.length_map, hlen, ha]
     congr 1
     omega
    rw [hsh]
    have el : (toksP (partP pr ex l (f' + 1) i 5) ++ ((2, ⟨#[94]⟩) :: ((if n.exp < 0 then [((2 : Int), (⟨#[45]⟩ : ByteArray))] else []) ++ [((1 : Int), ex n.exp.natAbs)]))).length = (toksP (partP pr ex l (f' + 1) i 5)).length + (if n.exp < 0 then 3 else 2) := by
     by_cases e0 : n.exp < 0
     ·rw [if_pos e0, if_pos e0]; simp
     ·rw [if_neg e0, if_neg e0]; simp
    rw [el]
    exact LevR.of_three R5
 ·intro b j i n ⟨hs, ih⟩ ⟨ht, ih2⟩ hn h2 h5 ha hb'
  refine ⟨hs.two ht hn h2 h5 ha hb', fun f hf least hl L r y hb hp hy hy2 => ?_⟩
  have hle := hs.le
  have hle2 := ht.le
  cases f with
  | zero => omega
  | succ f =>
   have hfp := HF n (List.mem_of_getElem? hn)
   obtain ⟨n0, hn0⟩ : ∃ n0, l[j]? = some n0 := ⟨_, List.getElem?_eq_getElem hle.2⟩
   have hlen := slN_length (l := l) (b := b) hle.2
   have hlen2 := slN_length (l := l) (b := j + 1) hle2.2
   have hsl : slN l b (i + 1) = slN l b j ++ slN l (j + 1) i ++ [n] := by rw [slN_app (j := i) (by omega) (by omega), slN_one hn, slN_app (j := j) (by omega) (by omega)]
   obtain ⟨f', rfl⟩ : ∃ f', f = f' + 1 := ⟨f - 1, by omega⟩
   have hN : n.a.toNat = j := by rw [ha]; exact Int.toNat_natCast j
   have hM : n.b.toNat = i := by rw [hb']; exact Int.toNat_natCast i
   have hk4 : n.kind = 2 ∨ n.kind = 3 ∨ n.kind = 4 ∨ n.kind = 5 := by omega
   have hbk : bindK n.kind = if n.kind = 2 ∨ n.kind = 3 then 1 else 2 := by rcases hk4 with e | e | e | e <;> rw [e] <;> rfl
   rw [partP_step hn, toksP_wrap] at hp hy ⊢
   rw [hsl, List.map_append, List.map_append, List.map_singleton]
   have eB : toksP (bodyP pr ex l (f' + 1) n) = toksP (partP pr ex l (f' + 1) j (bindK n.kind)) ++ ((2, opB n.kind) :: toksP (partP pr ex l (f' + 1) i (bindK n.kind + 1))) := by
    unfold bodyP
    rw [if_neg (by omega), if_neg (by omega), if_neg (by omega), if_neg (by omega), toksP_app, show spP = (3, ⟨#[32]⟩) from rfl, toksP_blank, toksP_cons (by decide), toksP_blank, hN, hM]
   rw [eB] at hp hy ⊢
   have hpos := part_some (pr := pr) (ex := ex) hn0 f' (least := bindK n.kind)
   refine part_of_body hb hl hp (by rw [List.length_append]; omega) (fun e => by rw [hbk] at e; split at e <;> omega) hy hy2 ?_
   rintro ⟨qp, qb, qa⟩ z hqb hqa hp hz hF
   obtain rfl : qb = false := hqb
   obtain rfl : qa = r.all := hqa
   have ho : ownLev n.kind = bindK n.kind := by unfold ownLev; rw [if_neg (by rw [hbk]; split <;> omega)]
   rw [ho] at hF ⊢
   have q := hfp.two h2 h5
   have hsh : shN ((r.all.length : Int) - b) n = ⟨n.kind, (r.all.length : Int) + ((slN l b j).map (shN ((r.all.length : Int) - b))).length - 1, (r.all.length : Int) + ((slN l b j).map (shN ((r.all.length : Int) - b))).length + ((slN l (j + 1) i).map (shN ((r.all.length : Int) - b))).length - 1, 0, noText, (false, 0, 0)⟩ := by
    conv => lhs; rw [q]
    unfold shN
    dsimp only
    rw [if_neg (by omega), if_pos h5, List.length_map, List.length_map, hlen, hlen2, ha, hb']
    congr 1
    ·omega
    ·omega
   rw [hsh]
   obtain ⟨hp2, hp3⟩ := hp.app
   obtain ⟨t2, hp4⟩ := hp3.head
   obtain ⟨hop, hop2⟩ := not_op hk4
   have el : (toksP (partP pr ex l (f' + 1) j (bindK n.kind)) ++ ((2, opB n.kind) :: toksP (partP pr ex l (f' + 1) i (bindK n.kind + 1)))).length = (toksP (partP pr ex l (f' + 1) j (bindK n.kind))).length + 1 + (toksP (partP pr ex l (f' + 1) i (bindK n.kind + 1))).length := by
    simp only [List.length_cons, List.length_append]; omega
   rw [el] at hz ⊢
   have hz' : TokAt L (qp + (toksP (partP pr ex l (f' + 1) j (bindK n.kind))).length + 1 + (toksP (partP pr ex l (f' + 1) i (bindK n.kind + 1))).length) z := by
    rw [Nat.add_assoc qp, Nat.add_assoc qp]; exact hz
   have R1 := ih (f' + 1) (by omega) (bindK n.kind) (by rw [hbk]; split <;> first | exact .inl rfl | exact .inr (.inl rfl)) L ⟨qp, false, r.all⟩ _ rfl hp2 t2 ⟨fun _ => hop, fun e => hop2 (by rw [hbk] at e; split at e <;> first | assumption | omega)⟩
   have R2 := ih2 (f' + 1) (by omega) (bindK n.kind + 1) (by rw [hbk]; split <;> first | exact .inr (.inl rfl) | exact .inr (.inr (.inl rfl))) L ⟨qp + (toksP (partP pr ex l (f' + 1) j (bindK n.kind))).length + 1, false, r.all ++ (slN l b j).map (shN ((r.all.length : Int) - b))⟩ z rfl hp4 hz' ⟨fun _ => hF.1 (by rw [hbk]; split <;> omega), fun e => by rw [hbk] at e; split at e <;> omega⟩
   have ed : (((r.all ++ (slN l b j).map (shN ((r.all.length : Int) - b))).length : Nat) : Int) - ((j + 1 : Nat) : Int) = (r.all.length : Int) - b := by
    rw [List.length_append, List.length_map, hlen]
    omega
   rw [ed] at R2
   rcases (by omega : (n.kind = 2 ∨ n.kind = 3) ∨ (n.kind = 4 ∨ n.kind = 5)) with hK | hK
   ·have hb1 : bindK n.kind = 1 := by rw [hbk, if_pos hK]
    rw [hb1] at R1 R2 hF t2 hz' ⊢
    exact sum_step hK R1 t2 R2 hz' hF
   ·have hb2 : bindK n.kind = 2 := by rw [hbk, if_neg (by omega)]
    rw [hb2] at R1 R2 hF t2 hz' ⊢
    exact prod_step hK R1 t2 R2.three
theorem whole_read {num : ByteArray → Bool × Nat × Nat} {pr : Bool × Nat × Nat → ByteArray} {ex : Nat → ByteArray} {l : List Nd} (HF : ∀ n ∈ l, FieldsP num pr ex n) {b i : Nat} (h : Seg l b i) {L : List Tok} {r : Rd} (hb : r.bad = false) (hp : Pre L r.pos (toksP (partP pr ex l (i + 1) i 1) ++ [(2, ⟨#[59]⟩)])) : Reads1 num L 0 r (toksP (partP pr ex l (i + 1) i 1)).length ((slN l b i).map (shN ((r.all.length : Int) - b))) := by
 obtain ⟨p1, p2⟩ := hp.app
 obtain ⟨t, -⟩ := p2.head
 exact lev1_sum (part_read HF h (i + 1) (Nat.le_refl _) 1 (.inl rfl) L r _ hb p1 t ⟨fun _ => rfl, fun _ => ⟨rfl, rfl⟩⟩) t rfl rfl
end
section
open Go.Lib
def commaT : List ByteArray → List (Int × ByteArray)
 | [] => [(2, ⟨#[59]⟩)]
 | x :: l => (2, ⟨#[44]⟩) :: (0, x) :: commaT l
theorem commaT_length (l : List ByteArray) : (commaT l).length = 2 * l.length + 1 := by
 induction l with
 | nil => rfl
 | cons x l ih => show (commaT l).length + 1 + 1 = _; rw [ih, List.length_cons]; omega
theorem name_tok {L : List Tok} {r : Rd} {x : ByteArray} (hb : r.bad = false) (h : TokAt L r.pos (0, x)) (hn : nameB x = true) : r.nameT L = (x, r.skip) := by
 obtain ⟨t, e1, e2, e3⟩ := h.tok
 unfold Rd.nameT
 rw [if_neg (by rw [hb]; simp), e1]
 dsimp only
 rw [e2, e3, if_pos ⟨rfl, hn⟩]
theorem want_tok {L : List Tok} {r : Rd} {x : Int × ByteArray} (hb : r.bad = false) (h : TokAt L r.pos x) (y : List UInt8) (hy : x.2.data.toList = y) : r.want L x.1 y = r.skip := by
 unfold Rd.want
 rw [if_pos (by rw [Rd.is_tokAt h hb, hy]; simp)]
theorem more_read {L : List Tok} : ∀ (l : List ByteArray) (f : Nat) (out : List ByteArray) (r : Rd), r.bad = false → Pre L r.pos (commaT l) → (∀ x ∈ l, nameB x = true) → l.length + 1 ≤ f → moreN L f out r = (out ++ l, ⟨r.pos + 2 * l.length, false, r.all⟩) := by
 intro l
 induction l with
 | nil =>
  intro f out r hb hp _ hf
  obtain ⟨h1, -⟩ := hp.head
  cases f with
  | zero => omega
  | succ f =>
   unfold moreN
   rw [if_neg (by rw [Rd.is_tokAt h1 hb]; simp), List.append_nil]
   show (out, r) = (out, (⟨r.pos, false, r.all⟩ : Rd))
   rw [← hb]
 | cons x l ih =>
  intro f out r hb hp hn hf
  rw [List.length_cons] at hf
  obtain ⟨h1, hp1⟩ := hp.head
  obtain ⟨h2, hp2⟩ := hp1.head
  cases f with
  | zero => omega
  | succ f =>
   unfold moreN
   rw [if_pos (by rw [Rd.is_tokAt h1 hb]; rfl), name_tok (r := r.skip) hb h2 (hn x (List.mem_cons_self ..))]
   dsimp only
   rw [ih f (out ++ [x]) r.skip.skip hb hp2 (fun y hy => hn y (List.mem_cons_of_mem _ hy)) (by omega), List.append_assoc, List.singleton_append]
   show (_, (⟨r.pos + 1 + 1 + 2 * l.length, false, r.all⟩ : Rd)) = _
   rw [List.length_cons, show r.pos + 1 + 1 + 2 * l.length = r.pos + 2 * (l.length + 1) by omega]
theorem Pre.room {L : List Tok} {p : Nat} {ts : List (Int × ByteArray)} (h : Pre L p ts) : ts.length ≤ L.length := by
 obtain ⟨rest, e⟩ := h
 have := congrArg List.length e
 rw [List.length_drop, ktx_length, List.length_append] at this
 omega
theorem names_read {L : List Tok} {x : ByteArray} {l : List ByteArray} {r : Rd} (hb : r.bad = false) (hp : Pre L r.pos ((0, x) :: commaT l)) (hn : ∀ y ∈ x :: l, nameB y = true) : namesI L r = (x :: l, ⟨r.pos + (2 * l.length + 2), false, r.all⟩) := by
 obtain ⟨h1, hp1⟩ := hp.head
 have hroom := hp1.room
 rw [commaT_length] at hroom
 unfold namesI
 rw [name_tok hb h1 (hn x (List.mem_cons_self ..))]
 dsimp only
 rw [more_read l (L.length + 1) [x] r.skip hb hp1 (fun y hy => hn y (List.mem_cons_of_mem _ hy)) (by omega)]
 dsimp only
 have hl : TokAt L (r.pos + 1 + 2 * l.length) (2, ⟨#[59]⟩) := by
  clear hn hroom h1 hp hb
  generalize r.pos + 1 = p at *
  have key : ∀ (l : List ByteArray) (p : Nat), Pre L p (commaT l) → TokAt L (p + 2 * l.length) (2, ⟨#[59]⟩) := by
   intro l
   induction l with
   | nil => intro p h; exact h.head.1
   | cons y l ih =>
    intro p h
    have := ih (p + 1 + 1) h.head.2.head.2
    rw [List.length_cons, show p + 2 * (l.length + 1) = p + 1 + 1 + 2 * l.length by omega]
    exact this
  exact key l p hp1
 have := want_tok (r := ⟨r.skip.pos + 2 * l.length, false, r.skip.all⟩) rfl hl [59] rfl
 dsimp only at this
 rw [this]
 show (x :: l, (⟨r.pos + 1 + 2 * l.length + 1, false, r.all⟩ : Rd)) = _
 rw [show r.pos + 1 + 2 * l.length + 1 = r.pos + (2 * l.length + 2) by omega]
end
section
open Go.Lib
def listT (key : ByteArray) : List ByteArray → List (Int × ByteArray)
 | [] => []
 | x :: l => (0, key) :: (0, x) :: commaT l
theorem listT_length {key x : ByteArray} {l : List ByteArray} : (listT key (x :: l)).length = 2 * l.length + 3 := by
 show (commaT l).length + 1 + 1 = _
 rw [commaT_length]
end
end Go.Proofs.YtaeladkcmpdkhaaGreatDoor
