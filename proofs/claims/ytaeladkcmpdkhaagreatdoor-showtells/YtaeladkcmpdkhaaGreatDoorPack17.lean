/-
  Texts of mine in build order. No conditions of their own.
-/
import Derived.Lib.Strings
import Derived.Lib.BufferWrite
import Derived.Lib.UnsafeStr
import Derived.Laws.MakeOwn
import Derived.Test.YtaeladkcmpdkhaaGreatDoorPack16
set_option maxHeartbeats 8000000
namespace Go.Proofs.YtaeladkcmpdkhaaGreatDoor
section
open Go.Lib
structure Makes (num : ByteArray → Bool × Nat × Nat) (L : List Tok) (Q : Nd → Prop) : Prop where
 ref : ∀ x, nameB x = true → Q ⟨0, 0, 0, 0, x, (false, 0, 0)⟩
 const : ∀ t ∈ L, t.1 = 1 → Q ⟨1, 0, 0, 0, noText, num t.2.1⟩
 two : ∀ k a b, 2 ≤ k → k ≤ 5 → Q ⟨k, a, b, 0, noText, (false, 0, 0)⟩
 neg : ∀ a, Q ⟨6, a, 0, 0, noText, (false, 0, 0)⟩
 pow : ∀ a fac, ∀ t ∈ L, t.1 = 1 → 0 ≤ expI t.2.1 → (fac = 1 ∨ fac = -1) → Q ⟨7, a, 0, fac * expI t.2.1, noText, (false, 0, 0)⟩
theorem node_all {Q : Nd → Prop} {r : Rd} {n : Nd} (h : ∀ x ∈ r.all, Q x) (hn : Q n) : ∀ x ∈ (r.node n).2.all, Q x := by
 intro x hx
 rcases List.mem_append.1 (show x ∈ r.all ++ [n] from hx) with hx | hx
 ·exact h x hx
 ·obtain rfl := List.mem_singleton.1 hx; exact hn
theorem powE_fields {num : ByteArray → Bool × Nat × Nat} {L : List Tok} {Q : Nd → Prop} (M : Makes num L Q) {r : Rd} {a fac : Int} (hf : fac = 1 ∨ fac = -1) (h : ∀ x ∈ r.all, Q x) : ∀ x ∈ (r.powE L a fac).2.all, Q x := by
 unfold Rd.powE
 split
 ·exact h
 ·split
  ·exact h
  ·rename_i t ht
   split
   ·exact h
   ·rename_i h1
    split
    ·exact h
    ·rename_i h2
     exact node_all (r := r.skip) h (M.pow a fac t (List.mem_of_getElem? ht) (Decidable.not_not.1 h1) (by omega) hf)
theorem powT_fields {num : ByteArray → Bool × Nat × Nat} {L : List Tok} {Q : Nd → Prop} (M : Makes num L Q) {r : Rd} {a : Int} (h : ∀ x ∈ r.all, Q x) : ∀ x ∈ (r.powT L a).2.all, Q x := by
 unfold Rd.powT
 split
 ·split
  ·exact powE_fields M (r := r.skip.skip) (.inr rfl) h
  ·exact powE_fields M (r := r.skip) (.inl rfl) h
 ·exact h
theorem leaf_fields {num : ByteArray → Bool × Nat × Nat} {L : List Tok} {Q : Nd → Prop} (M : Makes num L Q) {r : Rd} (h : ∀ x ∈ r.all, Q x) (hb : (r.leaf num L).2.bad = false) : ∀ x ∈ (r.leaf num L).2.all, Q x := by
 have nm : (r.nameT L).2.bad = false → ∀ x ∈ ((r.nameT L).2.node ⟨0, 0, 0, 0, (r.nameT L).1, (false, 0, 0)⟩).2.all, Q x := fun hn => node_all (by rw [name_all]; exact h) (M.ref _ (name_good hn).1)
 unfold Rd.leaf at hb ⊢
 by_cases h0 : r.bad = true
 ·rw [if_pos h0] at hb ⊢
  exact nm hb
 ·rw [if_neg h0] at hb ⊢
  split at hb
  ·rename_i t ht
   split at hb
   ·rename_i h1
    rw [if_pos h1]
    exact node_all (r := r.skip) h (M.const t (List.mem_of_getElem? ht) h1)
   ·rename_i h1
    rw [if_neg h1]
    exact nm hb
  ·exact nm hb
theorem expr_fields {num : ByteArray → Bool × Nat × Nat} {L : List Tok} {Q : Nd → Prop} (M : Makes num L Q) : ∀ (f m : Nat) (a : Int) (r : Rd), (∀ x ∈ r.all, Q x) → (exprF num L f m a r).2.bad = false → ∀ x ∈ (exprF num L f m a r).2.all, Q x := by
 intro f
 induction f with
 | zero => intro m a r h _; exact h
 | succ f ih =>
  intro m a r h hb
  match m with
  | 0 =>
   unfold exprF at hb ⊢
   exact ih _ _ _ (ih _ _ _ h (Rd.good_of (on_expr num L f _ _ _) hb)) hb
  | 1 =>
   unfold exprF at hb ⊢
   split at hb
   ·rename_i h1
    rw [if_pos h1]
    have g := Rd.good_of (on_expr num L f _ _ _) hb
    exact ih _ _ _ (node_all (ih 2 0 r.skip h g) (M.two _ _ _ (by split <;> omega) (by split <;> omega))) hb
   ·rename_i h1
    rw [if_neg h1]; exact h
  | 2 =>
   unfold exprF at hb ⊢
   exact ih _ _ _ (ih _ _ _ h (Rd.good_of (on_expr num L f _ _ _) hb)) hb
  | 3 =>
   unfold exprF at hb ⊢
   split at hb
   ·rename_i h1
    rw [if_pos h1]
    have g := Rd.good_of (on_expr num L f _ _ _) hb
    exact ih _ _ _ (node_all (ih 4 0 r.skip h g) (M.two _ _ _ (by split <;> omega) (by split <;> omega))) hb
   ·rename_i h1
    rw [if_neg h1]; exact h
  | 4 =>
   unfold exprF at hb ⊢
   split at hb
   ·rename_i h1
    rw [if_pos h1]
    exact node_all (ih 4 0 r.skip h hb) (M.neg _)
   ·rename_i h1
    rw [if_neg h1]; exact ih _ _ _ h hb
  | 5 =>
   unfold exprF at hb ⊢
   exact powT_fields M (ih _ _ _ h (Rd.good_of (Rd.on_powT _ _ _) hb))
  | m + 6 =>
   unfold exprF at hb ⊢
   split at hb
   ·rename_i h1
    rw [if_pos h1]
    dsimp only at hb ⊢
    rw [want_all]
    exact ih 0 0 r.skip h (Rd.good_of (Rd.on_want _ _ _ _) hb)
   ·rename_i h1
    rw [if_neg h1]; exact leaf_fields M h hb
theorem let_fields {num : ByteArray → Bool × Nat × Nat} {L : List Tok} {Q : Nd → Prop} (M : Makes num L Q) {r : Rd} (h : ∀ x ∈ r.all, Q x) (hb : (oneLet num L r).2.bad = false) : ∀ x ∈ (oneLet num L r).2.all, Q x := by
 unfold oneLet at hb ⊢
 dsimp only at hb ⊢
 rw [want_all]
 exact expr_fields M _ 0 0 _ (by rw [want_all, name_all]; exact h) (Rd.good_of (Rd.on_want _ _ _ _) hb)
theorem lets_fields {num : ByteArray → Bool × Nat × Nat} {L : List Tok} {Q : Nd → Prop} (M : Makes num L Q) : ∀ (f : Nat) (out : List (ByteArray × Int)) (r : Rd), (∀ x ∈ r.all, Q x) → (letsF num L f out r).2.bad = false → ∀ x ∈ (letsF num L f out r).2.all, Q x := by
 intro f
 induction f with
 | zero => intro out r h _; exact h
 | succ f ih =>
  intro out r h hb
  unfold letsF at hb ⊢
  split at hb
  ·rename_i h1
   rw [if_pos h1]
   exact ih _ _ (let_fields M (r := r.skip) h (Rd.good_of (on_lets num L f _ _) hb)) hb
  ·rename_i h1
   rw [if_neg h1]; exact h
theorem prog_fields {num : ByteArray → Bool × Nat × Nat} {L : List Tok} {Q : Nd → Prop} (M : Makes num L Q) (h : (progI num L).2.bad = false) : ∀ x ∈ (progI num L).1.all, Q x := by
 have h1 : (outsI num L).2.bad = false := by
  unfold progI at h
  dsimp only at h
  split at h
  ·exact absurd h (by simp [Rd.wrong])
  ·exact h
 have o2 := on_names L ((letsI num L).2.want L 0 [111, 117, 116])
 have h3 := Rd.good_of (Rd.on_want L _ _ _) (Rd.good_of o2.1 h1)
 show ∀ x ∈ (outsI num L).2.all, Q x
 have ha : (outsI num L).2.all = (letsI num L).2.all := by
  show (namesI L ((letsI num L).2.want L 0 [111, 117, 116])).2.all = _
  rw [o2.2, want_all]
 rw [ha]
 refine lets_fields M _ _ _ (fun x hx => ?_) h3
 have hi : (insI L).2.all = [] := by
  show (namesI L (startR.want L 0 [105, 110])).2.all = _
  rw [(on_names L _).2, want_all]; rfl
 rw [hi] at hx
 exact absurd hx (by simp)
end
section
open Go.RowKit Go.Lib
def parseI (s : ByteArray) : Pg × (Int × Int) × Int :=
  if (lexI s).2.2 ≠ 0 then (noPg, (lexI s).2.1, (lexI s).2.2)
  else if (progI numT (lexI s).1).2.bad = true then
    (match (lexI s).1[(progI numT (lexI s).1).2.pos]? with
     | some t => (noPg, (t.2.2.1, t.2.2.2), 5)
     | none => (noPg, placeI s s.size, 5))
  else if lngB (progI numT (lexI s).1).1.all (progI numT (lexI s).1).1.ins.length (progI numT (lexI s).1).1.lets.length (progI numT (lexI s).1).1.outs.length = true then (noPg, (1, 1), 4)
  else ((progI numT (lexI s).1).1, (0, 0), 0)
def IsPg (w : World) (i l o a : Value) (p : Pg) : Prop := ∃ ia ic ta tc oa oc aa ac ms, i = .slice ia p.ins.length ic ∧ l = .slice ta p.lets.length tc ∧ o = .slice oa p.outs.length oc ∧ a = .slice aa p.all.length ac ∧
 IsC 1 w ia p.ins.length (flat encS p.ins) ∧ IsC 2 w ta p.lets.length (flat encL p.lets) ∧ IsC 1 w oa p.outs.length (flat encS p.outs) ∧ IsN w aa p.all.length ms ∧ ms.map (·.1) = p.all.map rawOf ∧ (∀ m ∈ ms, (∃ x y, m.2.1 = .slice x m.1.xs.length y ∧ IsWords w m.2.1 m.1.xs) ∧ ∃ x y, m.2.2 = .slice x m.1.ys.length y ∧ IsWords w m.2.2 m.1.ys) ∧ p.all.length ≤ ac ∧ p.ins.length ≤ ic ∧ p.outs.length ≤ oc
theorem isPg_no (w : World) : IsPg w (.slice none 0 0) (.slice none 0 0) (.slice none 0 0) (.slice none 0 0) noPg :=
 ⟨none, 0, none, 0, none, 0, none, 0, [], rfl, rfl, rfl, rfl, IsC.nil 1 w none, IsC.nil 2 w none, IsC.nil 1 w none, ⟨rfl, .inl rfl⟩, rfl, fun m hm => absurd hm (by simp), Nat.le_refl 0, Nat.le_refl 0, Nat.le_refl 0⟩
def AnsPG (W : World) (q : Pg × (Int × Int) × Int) (e : Ending) (w' : World) : Prop :=
 ∃ i l o a, e = .returned (.tuple #[.agg #[i, l, o, a], .agg #[.int .i64 q.2.1.1, .int .i64 q.2.1.2], .int .i64 q.2.2]) ∧ IsPg w' i l o a q.1 ∧ Below W.heap.size W w'
theorem ansPG_no {W w' : World} {l c E : Int} (h : Below W.heap.size W w') : AnsPG W (noPg, (l, c), E) (.returned (.tuple #[.agg #[.slice none 0 0, .slice none 0 0, .slice none 0 0, .slice none 0 0], .agg #[.int .i64 l, .int .i64 c], .int .i64 E])) w' := ⟨_, _, _, _, rfl, isPg_no w', h⟩
theorem pg_store {w V : World} {A : Nat} {i0 i1 i2 i3 j0 j1 : Value} {P Q : TypeId} (D1 : BoxC V A #[i0, i1, i2, i3] P) (D2 : BoxC V (A + 1) #[j0, j1] Q) (hA : w.heap.size ≤ A) (hb : Below w.heap.size w V) (x0 x1 x2 x3 y0 y1 : Value) :
  ∃ F, (((((V.setCell ⟨A, 0, none⟩ x0).setCell ⟨A, 1, none⟩ x1).setCell ⟨A, 2, none⟩ x2).setCell ⟨A, 3, none⟩ x3).setCell ⟨A + 1, 0, none⟩ y0).setCell ⟨A + 1, 1, none⟩ y1 = F ∧ F.cell? ⟨A, 0, none⟩ = some x0 ∧ F.cell? ⟨A, 1, none⟩ = some x1 ∧ F.cell? ⟨A, 2, none⟩ = some x2 ∧ F.cell? ⟨A, 3, none⟩ = some x3 ∧ F.cell? ⟨A + 1, 0, none⟩ = some y0 ∧ F.cell? ⟨A + 1, 1, none⟩ = some y1 ∧ Below w.heap.size w F ∧ Keep (fun T => T = P ∨ T = Q) V F := by
 have E1 : BoxC ((((V.setCell ⟨A, 0, none⟩ x0).setCell ⟨A, 1, none⟩ x1).setCell ⟨A, 2, none⟩ x2).setCell ⟨A, 3, none⟩ x3) A #[x0, x1, x2, x3] P := (((D1.set 0 x0).set 1 x1).set 2 x2).set 3 x3
 have E2 : BoxC ((((V.setCell ⟨A, 0, none⟩ x0).setCell ⟨A, 1, none⟩ x1).setCell ⟨A, 2, none⟩ x2).setCell ⟨A, 3, none⟩ x3) (A + 1) #[j0, j1] Q := (((D2.other (by omega) x0).other (by omega) x1).other (by omega) x2).other (by omega) x3
 have k1 := ((((Keep.refl (fun T => T = P ∨ T = Q) V).set D1 (.inl rfl) 0 x0).set (D1.set 0 x0) (.inl rfl) 1 x1).set ((D1.set 0 x0).set 1 x1) (.inl rfl) 2 x2).set (((D1.set 0 x0).set 1 x1).set 2 x2) (.inl rfl) 3 x3
 have k2 := (k1.set E2 (.inr rfl) 0 y0).set (E2.set 0 y0) (.inr rfl) 1 y1
 have bb := (((((hb.setCell (p := ⟨A, 0, none⟩) hA x0).setCell (p := ⟨A, 1, none⟩) hA x1).setCell (p := ⟨A, 2, none⟩) hA x2).setCell (p := ⟨A, 3, none⟩) hA x3).setCell (p := ⟨A + 1, 0, none⟩) (Nat.le_succ_of_le hA) y0).setCell (p := ⟨A + 1, 1, none⟩) (Nat.le_succ_of_le hA) y1
 have G1 := (E1.other (g := A + 1) (i := 0) (by omega) y0).other (g := A + 1) (i := 1) (by omega) y1
 have G2 := (E2.set 0 y0).set 1 y1
 exact ⟨_, rfl, (G1.cell 0).1, (G1.cell 1).1, (G1.cell 2).1, (G1.cell 3).1, (G2.cell 0).1, (G2.cell 1).1, bb, k2⟩
theorem cnt_lets (L : List Tok) : ∀ (f : Nat) (ls : List (ByteArray × Int)) (q : Rd), cnt L (letsF numT L f ls q).2 ≤ cnt L q := by
 intro f
 induction f with
 | zero => intro ls q; exact Nat.le_refl _
 | succ f ih =>
  intro ls q
  unfold letsF
  split
  ·rename_i h
   have h1 := cnt_let L q.skip
   have h2 := cnt_skip (q.is_in h).2
   have h3 := ih (ls ++ [(oneLet numT L q.skip).1]) (oneLet numT L q.skip).2
   omega
  ·exact Nat.le_refl _
theorem prog_all (L : List Tok) : (progI numT L).2.all = (progI numT L).1.all ∧ (progI numT L).1.all.length ≤ 2 * L.length := by
 refine ⟨?_, ?_⟩
 ·unfold progI
  dsimp only
  split <;> rfl
 ·show (outsI numT L).2.all.length ≤ _
  have h1 := (on_names L ((letsI numT L).2.want L 0 [111, 117, 116])).2
  rw [show (outsI numT L).2.all = (letsI numT L).2.all from h1.trans (want_all _ _ _ _)]
  have h2 := cnt_all (n := 2 * L.length) (L := L) (r := (letsI numT L).2) (by
   refine Nat.le_trans (cnt_lets L _ _ _) ?_
   have e1 := (on_names L (startR.want L 0 [105, 110])).2
   rw [want_all] at e1
   show (insI L).2.all.length + 2 * (L.length - (insI L).2.pos) ≤ _
   rw [show (insI L).2.all = startR.all from e1]
   show 0 + _ ≤ _
   omega)
  exact h2
theorem nd_map {ms : List Mn} {l : List Nd} (h : ms.map (·.1) = l.map rawOf) : (ms.map fun m => m.1.nd) = l := by
 have e : (ms.map fun m => m.1.nd) = (ms.map (·.1)).map Nw.nd := by rw [List.map_map]; rfl
 rw [e, h, List.map_map]
 have : (Nw.nd ∘ rawOf) = id := by funext n; exact nd_raw n
 rw [this, List.map_id]
theorem Own.sl {W w : World} {v : Value} {n : Nat} {xs : List Int} (h : Own W w v n xs) : ∃ x y z, v = .slice x y z := by
 obtain ⟨a, c, rfl⟩ := h.lit
 exact ⟨_, _, _, rfl⟩
end
section
open Go.RowKit
theorem decOf_head (n : Nat) : (decOf n).head? ≠ some 45 := by
 intro h
 have hm : (45 : UInt8) ∈ decOf n := List.mem_of_mem_head? h
 have := digS_decOf n 45 hm
 have e : (45 : UInt8).toNat = 45 := rfl
 omega
theorem strip_decI (x : Int) : stripI (decI x) = decOf x.natAbs ∧ minusI (decI x) = decide (x < 0) := by
 by_cases h : x < 0
 ·rw [show decI x = 45 :: decOf x.natAbs from if_pos h, decide_eq_true h]; exact ⟨rfl, rfl⟩
 ·rw [show decI x = decOf x.natAbs from if_neg h, decide_eq_false h]
  exact ⟨if_neg (decOf_head _), decide_eq_false (decOf_head _)⟩
theorem znum_decI (x : Int) (h : (decOf x.natAbs).length ≤ 1000) : znum (decI x) = x ∧ zerr (decI x) = 0 := by
 unfold znum zerr
 obtain ⟨h1, h2⟩ := strip_decI x
 rw [h1, h2, pnum_ok h (num_decOf _), valD_decOf, perr_ok h (num_decOf _), iv_self]
 exact ⟨rfl, rfl⟩
end
section
theorem decI_no (z : Int) : ∀ c ∈ decI z, c ≠ 124 := by
 have h : ∀ c ∈ decOf z.natAbs, c ≠ 124 := fun c hc e => by
  have := digS_decOf z.natAbs c hc
  rw [e] at this
  exact absurd this.2 (by decide)
 unfold decI
 split
 ·intro c hc
  rcases List.mem_cons.1 hc with e | e
  ·rw [e]; decide
  ·exact h c e
 ·exact h
theorem front_app {l m : List UInt8} (h : ∀ c ∈ l, c ≠ 124) : frontR (l ++ 124 :: m) = l ∧ restR (l ++ 124 :: m) = 124 :: m := by
 induction l with
 | nil => exact ⟨by unfold frontR; rw [List.nil_append, List.takeWhile_cons_of_neg (by decide)], by unfold restR; rw [List.nil_append, List.dropWhile_cons_of_neg (by decide)]⟩
 | cons c l ih =>
  have hc := h c (by simp)
  obtain ⟨i1, i2⟩ := ih (fun d hd => h d (by simp [hd]))
  unfold frontR restR at *
  rw [List.cons_append, List.takeWhile_cons_of_pos (by simpa using hc), List.dropWhile_cons_of_pos (by simpa using hc), i1, i2]
  exact ⟨rfl, rfl⟩
theorem front_all {l : List UInt8} (h : ∀ c ∈ l, c ≠ 124) : frontR l = l ∧ restR l = [] := by
 induction l with
 | nil => exact ⟨rfl, rfl⟩
 | cons c l ih =>
  have hc := h c (by simp)
  obtain ⟨i1, i2⟩ := ih (fun d hd => h d (by simp [hd]))
  unfold frontR restR at *
  rw [List.takeWhile_cons_of_pos (by simpa using hc), List.dropWhile_cons_of_pos (by simpa using hc), i1, i2]
  exact ⟨rfl, rfl⟩
theorem par_decR {q : Rat} {k : Nat} (h : RS k q) (hk : 1 ≤ k) (hk2 : k ≤ 100) : parT (decR q) = tri q ∧ parE (decR q) = 0 := by
 have l1 := decOf_words h.1 hk
 have l2 := decOf_words h.2 hk
 obtain ⟨z1, z2⟩ := znum_decI q.num (by omega)
 unfold decR
 by_cases hd : q.den = 1
 ·rw [if_pos hd]
  obtain ⟨f1, f2⟩ := front_all (decI_no q.num)
  have e : parE (decI q.num) = 0 := by unfold parE; rw [f1, z2, f2]; rfl
  refine ⟨?_, e⟩
  unfold parT parQ
  rw [if_pos e, f1, f2, z1]
  show tri ((q.num : Int) : Rat) = tri q
  have : ((q.num : Int) : Rat) = q := Rat.ext rfl (by rw [Rat.den_intCast, hd])
  rw [this]
 ·rw [if_neg hd]
  obtain ⟨f1, f2⟩ := front_app (m := decOf q.den) (decI_no q.num)
  have p1 : pnum (decOf q.den) = q.den := (pnum_ok (by omega) (num_decOf _)).trans (valD_decOf _)
  have p2 : perr (decOf q.den) = 0 := perr_ok (by omega) (num_decOf _)
  have hp := q.den_pos
  have e : parE (decI q.num ++ 124 :: decOf q.den) = 0 := by
   unfold parE; rw [f1, z2, f2]
   show (if (0 : Int) ≠ 0 then (0 : Int) else if perr (decOf q.den) ≠ 0 then perr (decOf q.den) else if pnum (decOf q.den) = 0 then 3 else 0) = 0
   rw [p2, p1, if_neg (by omega), if_neg (by omega), if_neg (by omega)]
  refine ⟨?_, e⟩
  unfold parT parQ
  rw [if_pos e, f1, f2, z1]
  show tri (mkRat q.num (pnum (decOf q.den))) = tri q
  rw [p1, Rat.mkRat_self]
end
section
open Go.RowKit Go.Lib
def ks (K : List Int) : Array Value := (K.map fun k => Value.int .i64 k).toArray
theorem ks_get {v : World} {g : Nat} {K : List Int} (h : BoxC v g (ks K) 3) {t : Nat} (ht : t < K.length) : v.cell? ⟨g, t, none⟩ = some (.int .i64 K[t]) := by
 rw [(h.cell t).1]
 unfold ks
 simp [ht]
theorem lib_index (g : Nat) (K : List Int) (w : World) (hB : BoxC w g (ks K) 3) (hl : K.length ≤ 10) (x : Int) :
  Calls Tryz.prog 157 #[.slice (some ⟨g, 0, none⟩) K.length K.length, .int .i64 x] w fun e w' => ∃ r : Int, e = .returned (.int .i64 r) ∧ (x ∈ K ∧ 0 ≤ r ∨ x ∉ K ∧ r = -1) ∧ w = w' := by
 have HB : Hid (BoxC w g (ks K) 3 ∧ K.length ≤ 10) := ⟨hB, hl⟩
 clear hB hl
 go_enter Tryz.func157, Tryz.ntmps157
 go_wp2
 go_loopg [8] K.length (fun q s8 v => ∃ t : Nat, s8 = .int .i64 t ∧ t + q = K.length ∧ (∀ j (h : j < K.length), j < t → K[j] ≠ x) ∧ w = v)
 case atStart => exact ⟨0, rfl, by omega, fun j _ h => absurd h (by omega), rfl⟩
 case round =>
  obtain ⟨t, rfl, hq, hN, rfl⟩ := hrel
  obtain ⟨hB, hl⟩ := HB.out
  rcases Nat.lt_or_ge t K.length with h | h
  ·have h1 : (t : Int) < K.length := by omega
   have hc := ks_get hB h
   by_cases h2 : K[t] = x
   ·have e2 : (x == K[t]) = true := by rw [beq_iff_eq]; exact h2.symm
    have HM : Hid (x ∈ K) := by show _; rw [← h2]; exact List.getElem_mem h
    generalize K[t] = y at *
    clear hN hB HB hl hq h2
    go_wp2
    go_ret
    exact ⟨_, rfl, .inl ⟨HM.out, by omega⟩, rfl⟩
   ·have e2 : (x == K[t]) = false := by rw [beq_eq_false_iff_ne]; exact fun e => h2 e.symm
    have HN : Hid (∀ j (h : j < K.length), j < t + 1 → K[j] ≠ x) := by
     intro j hj hjt
     rcases Nat.lt_or_ge j t with h3 | h3
     ·exact hN j hj h3
     ·obtain rfl : j = t := by omega
      exact h2
    have q1 : 0 ≤ (t : Int) + 1 := by omega
    have q2 : (t : Int) + 1 < 10000000 := by omega
    have HG : Hid (t + gk = K.length ∧ t < K.length) := ⟨hq, h⟩
    generalize K[t] = y at *
    clear hN hB hl hq h2
    have W1 : Hid (wrap64 ((t : Int) + 1) = (t : Int) + 1) := wrap_smalls q1 q2
    clear q1 q2
    go_wp2
    have hG := HG.out
    go_roundg (K.length - (t + 1))
    case measure => omega
    case rel => exact ⟨t + 1, by rw [W1.out]; go_num, by omega, HN.out, rfl⟩
  ·have h1 : ¬ (t : Int) < K.length := by omega
   have HM : Hid (x ∉ K) := by
    intro hm
    obtain ⟨j, hj, e⟩ := List.getElem_of_mem hm
    exact hN j hj (by omega) e
   clear hN hB HB hl hq
   go_wp2
   go_ret
   exact ⟨_, rfl, .inr ⟨HM.out, rfl⟩, rfl⟩
theorem lib_contains (g : Nat) (K : List Int) (w : World) (hB : BoxC w g (ks K) 3) (hl : K.length ≤ 10) (x : Int) :
  Calls Tryz.prog 125 #[.slice (some ⟨g, 0, none⟩) K.length K.length, .int .i64 x] w fun e w' => e = .returned (.bool (decide (x ∈ K))) ∧ w = w' := by
 have I := lib_index g K w hB hl x
 generalize K.length = n at *
 by_cases hx : x ∈ K
 ·have I2 : Calls Tryz.prog 157 #[.slice (some ⟨g, 0, none⟩) n n, .int .i64 x] w fun e w' => ∃ r : Int, e = .returned (.int .i64 r) ∧ 0 ≤ r ∧ w = w' := by
   refine I.mono ?_
   rintro e w' ⟨r, h1, h2, h3⟩
   exact ⟨r, h1, by rcases h2 with h2 | h2; exact h2.2; exact absurd hx h2.1, h3⟩
  rw [decide_eq_true hx]
  clear I hB hl hx
  go_enter Tryz.func125, Tryz.ntmps125
  go_wp2_with (go_at_call 157; (with_reducible refine Calls.mono I2 ?_); rintro e v1 ⟨r, rfl, hr, rfl⟩)
  go_ret
  exact ⟨rfl, rfl⟩
 ·have I2 : Calls Tryz.prog 157 #[.slice (some ⟨g, 0, none⟩) n n, .int .i64 x] w fun e w' => e = .returned (.int .i64 (-1)) ∧ w = w' := by
   refine I.mono ?_
   rintro e w' ⟨r, h1, h2, h3⟩
   rcases h2 with h2 | h2
   ·exact absurd h2.1 hx
   ·exact ⟨by rw [h1, h2.2], h3⟩
  rw [decide_eq_false hx]
  clear I hB hl hx
  go_enter Tryz.func125, Tryz.ntmps125
  go_wp2_with (go_at_call 157; (with_reducible refine Calls.mono I2 ?_); rintro e v1 ⟨rfl, rfl⟩)
  go_ret
  exact ⟨rfl, rfl⟩
/-- Where runes of these kinds end. -/
theorem lex_span (s : ByteArray) (hs : s.size ≤ 1000000) (g : Nat) (K : List Int) (w : World) (hB : BoxC w g (ks K) 3) (hl : K.length ≤ 10) (n : Nat) (hn : K.length = n) :
  Calls Tryz.prog 95 #[.string s, .slice (some ⟨g, 0, none⟩) n n] w fun e w' => e = .returned (.int .i64 (spanE K s 0)) ∧ Below w.heap.size w w' := by
 subst hn
 have HB : Hid (BoxC w g (ks K) 3 ∧ K.length ≤ 10 ∧ s.size ≤ 1000000) := ⟨hB, hl, hs⟩
 generalize hE : spanE K s 0 = E
 have HE : Hid (spanE K s 0 = E) := hE
 clear hB hl hs hE
 go_enter Tryz.func95, Tryz.ntmps95
 go_wp2
 go_loopg [] s.size (fun q v => ∃ i : Nat, i + q = s.size ∧ v.heap[w.heap.size]? = some (.stringIter s i) ∧ Below w.heap.size w v ∧ spanE K s i = E)
 case atStart => exact ⟨0, by omega, iter_new w s, below_iter w s 0, HE.out⟩
 case round =>
  obtain ⟨i, hq, hit, bw, hF⟩ := hrel
  clear HE
  obtain ⟨hB, hl, hs⟩ := HB.out
  rcases Nat.lt_or_ge i s.size with hi | hi
  ·have hnx : ∀ ty, (Instr.next (.pointer (some ⟨w.heap.size, 0, none⟩)) true ty).run Tryz.prog wr = .ok (.tuple #[.bool true, .int .i64 i, .int .i32 (nextR s i)]) (wr.iterAt w.heap.size s (i + nextN s i)) := fun ty => run_next_any_at wr w.heap.size s i ty hit hi
   have hi2 := iterAt_heap wr w.heap.size s i (i + nextN s i) hit
   have bw2 := below_iterAt bw (Nat.le_refl _) s (i + nextN s i)
   have hz := next_size hi
   have C := lib_contains g K _ (hB.more bw2) hl (kindI (nextR s i))
   have KD := fun v => sign_kind (nextR s i) _ rfl v
   have e1 : kindAt s i = kindI (nextR s i) := by unfold kindAt; rw [if_pos hi]
   have e2 : stepAt s i = nextN s i := by unfold stepAt; rw [if_pos hi]
   by_cases hm : kindI (nextR s i) ∈ K
   ·have HF : Hid (spanE K s (i + nextN s i) = E) := by
     have := spanE_step (K := K) hi (by rw [e1]; exact hm)
     rw [e2] at this
     exact this.symm.trans hF
    rw [decide_eq_true hm] at C
    have HG : Hid (i + gk = s.size ∧ 1 ≤ nextN s i ∧ i + nextN s i ≤ s.size) := ⟨hq, hz.1, hz.2.2⟩
    generalize kindI (nextR s i) = k at *
    generalize nextR s i = R at *
    generalize nextN s i = M at *
    generalize wr.iterAt w.heap.size s (i + M) = wi at *
    clear hB hl hs hq hit bw hF hz hi e1 e2 hm
    go_wp2_with (first
     | (go_at_call 90; (with_reducible refine Calls.mono (KD _) ?_); rintro e v1 ⟨rfl, rfl⟩)
     | (go_at_call 125; (with_reducible refine Calls.mono C ?_); rintro e v2 ⟨rfl, rfl⟩))
    have hG := HG.out
    go_roundg (s.size - (i + M))
    case measure => omega
    case rel => exact ⟨i + M, by omega, hi2, bw2, HF.out⟩
   ·have hE2 := spanE_here (K := K) (s := s) (i := i) (fun e => hm (by rw [← e1]; exact e.2))
    rw [hE2] at hF
    subst hF
    rw [decide_eq_false hm] at C
    generalize kindI (nextR s i) = k at *
    generalize nextR s i = R at *
    generalize nextN s i = M at *
    generalize wr.iterAt w.heap.size s (i + M) = wi at *
    clear hB hl hs hq hit bw hz hi e1 e2 hm hE2
    go_wp2_with (first
     | (go_at_call 90; (with_reducible refine Calls.mono (KD _) ?_); rintro e v1 ⟨rfl, rfl⟩)
     | (go_at_call 125; (with_reducible refine Calls.mono C ?_); rintro e v2 ⟨rfl, rfl⟩))
    go_ret
    exact ⟨rfl, bw2⟩
  ·have hnx : ∀ ty, (Instr.next (.pointer (some ⟨w.heap.size, 0, none⟩)) true ty).run Tryz.prog wr = .ok (.tuple #[.bool false]) wr := fun ty => run_next_end_at wr w.heap.size s i ty hit (by omega)
   rw [spanE_here (fun e => by omega)] at hF
   obtain rfl : i = s.size := by omega
   subst hF
   clear hB hl hs hq hit hi
   go_wp2
   go_ret
   exact ⟨rfl, bw⟩
theorem lex_span1 (s : ByteArray) (hs : s.size ≤ 1000000) (g : Nat) (k : Int) (w : World) (hB : BoxC w g #[.int .i64 k] 3) :
  Calls Tryz.prog 95 #[.string s, .slice (some ⟨g, 0, none⟩) 1 1] w fun e w' => e = .returned (.int .i64 (spanE [k] s 0)) ∧ Below w.heap.size w w' := lex_span s hs g [k] w hB (by simp) 1 rfl
theorem lex_span2 (s : ByteArray) (hs : s.size ≤ 1000000) (g : Nat) (k l : Int) (w : World) (hB : BoxC w g #[.int .i64 k, .int .i64 l] 3) :
  Calls Tryz.prog 95 #[.string s, .slice (some ⟨g, 0, none⟩) 2 2] w fun e w' => e = .returned (.int .i64 (spanE [k, l] s 0)) ∧ Below w.heap.size w w' := lex_span s hs g [k, l] w hB (by simp) 2 rfl
end
section
open Go.RowKit Go.Lib
theorem stroke_first {x : ByteArray} (h : 0 < x.size) : ((x.extract 0 1).toList == [124]) = decide (bt x 0 = 124) := by
 have hz : (x.extract 0 1).size = 1 := by rw [ByteArray.size_extract]; omega
 have hf := front x (e := 1) (by omega)
 have h0 := hf.same 0 (by omega)
 rw [← h0]
 generalize x.extract 0 1 = y at *
 rw [ByteArray.toList_eq]
 obtain ⟨⟨l⟩⟩ := y
 have hl : l.length = 1 := hz
 obtain ⟨b, rfl⟩ := List.length_eq_one_iff.1 hl
 rw [Bool.eq_iff_iff, beq_iff_eq, decide_eq_true_eq]
 show [b] = [124] ↔ b.toNat = 124
 constructor
 ·intro e; rw [List.cons.inj e |>.1]; rfl
 ·intro e; rw [show b = 124 from UInt8.toNat_inj.1 e]
/-- What is behind the stroke, if a text begins with one. -/
theorem cut_stroke {s u : ByteArray} (hs : s.size ≤ 1000000) {g : Bool} (h : (s.size = 0 ∧ g = false ∧ u = s) ∨ (0 < s.size ∧ g = true ∧ ((s.extract 0 1).toList == [124]) = true ∧ s.extract 1 s.size = u) ∨ (0 < s.size ∧ g = false ∧ ((s.extract 0 1).toList == [124]) = false ∧ u = s)) (w : World) :
  Calls Tryz.prog 158 #[.string s, .string ⟨#[124]⟩] w fun e w' => e = .returned (.tuple #[.string u, .bool g]) ∧ w = w' := by
 have H : ∀ (q : Bool), ((s.size = 0 ∧ q = false) ∨ (0 < s.size ∧ ((s.extract 0 1).toList == [124]) = q)) → Calls Tryz.prog 200 #[.string s, .string ⟨#[124]⟩] w fun e w' => e = .returned (.bool q) ∧ w = w' := by
  clear h
  intro q h
  rcases h with ⟨h0, rfl⟩ | ⟨h0, hq⟩
  case' inl => have h1 : ¬ (1 : Int) ≤ s.size := by omega
  case' inr => have h1 : (1 : Int) ≤ s.size := by omega
  all_goals
   go_enter Tryz.func200, Tryz.ntmps200
   go_wp2
   go_ret
   exact ⟨rfl, rfl⟩
 have H2 : Calls Tryz.prog 185 #[.string s, .string ⟨#[124]⟩] w fun e w' => e = .returned (.tuple #[.string u, .bool g]) ∧ w = w' := by
  rcases h with ⟨h0, rfl, rfl⟩ | ⟨h0, rfl, hq, hu⟩ | ⟨h0, rfl, hq, rfl⟩
  case' inl => have H1 := H false (.inl ⟨h0, rfl⟩)
  case' inr.inl =>
   have H1 := H true (.inr ⟨h0, hq⟩)
   have h1 : (1 : Int) ≤ s.size := by omega
  case' inr.inr => have H1 := H false (.inr ⟨h0, hq⟩)
  all_goals
   clear H
   go_enter Tryz.func185, Tryz.ntmps185
   go_wp2_with (go_at_call 200; (with_reducible refine Calls.mono H1 ?_); rintro e w1 ⟨rfl, rfl⟩)
   go_ret2
   exact ⟨rfl, rfl⟩
 clear H h
 go_enter Tryz.func158, Tryz.ntmps158
 go_wp2_with (go_at_call 185; (with_reducible refine Calls.mono H2 ?_); rintro e w1 ⟨rfl, rfl⟩)
 go_ret2
 exact ⟨rfl, rfl⟩
theorem lex_plain (x : ByteArray) (hx : x.size ≤ 1000000) (r : Bool) (hr : plainB x = r) (w : World) :
  Calls Tryz.prog 159 #[.string x] w fun e w' => e = .returned (.bool r) ∧ w = w' := by
 unfold plainB at hr
 by_cases h1 : (x.toList == [48]) = true
 ·obtain rfl : r = true := by rw [← hr, h1]; rfl
  clear hr
  go_enter Tryz.func159, Tryz.ntmps159
  go_wp2
  go_ret
  exact ⟨rfl, rfl⟩
 ·have h1' : (x.toList == [48]) = false := by rw [Bool.eq_false_iff]; exact h1
  rw [h1', Bool.false_or] at hr
  by_cases h0 : x.size = 0
  ·have e0 : (x.toList == []) = true := by rw [size_zero h0, ByteArray.toList_eq]; rfl
   obtain rfl : r = false := by rw [← hr, decide_eq_false (fun e => e h0)]; rfl
   clear hr h1 h0
   go_enter Tryz.func159, Tryz.ntmps159
   go_wp2
   go_ret
   exact ⟨rfl, rfl⟩
  ·have e0 : (x.toList == []) = false := text_full (by omega)
   have k0 : 0 < x.size := by omega
   have k1 : (0 : Int) < x.size := by omega
   have e2 : ((x[0].toNat : Int) != 48) = r := by
    rw [← hr, decide_eq_true h0, Bool.true_and, bt_get k0, Bool.eq_iff_iff, bne_iff_ne, decide_eq_true_eq]
    omega
   clear hr h1 h0 hx
   go_enter Tryz.func159, Tryz.ntmps159
   go_wp2
   go_ret
   exact ⟨rfl, rfl⟩
end
section
open Go.RowKit Go.Lib
theorem text_empty {x : ByteArray} (h : x.size = 0) : (x.toList == []) = true := by rw [size_zero h, ByteArray.toList_eq]; rfl
theorem lex_size (a b : ByteArray) (ha : a.size ≤ 1000000) (hb : b.size ≤ 1000000) (r : Nat) (hr : (if b.size = 0 then a.size else a.size + 1 + b.size) = r) (w : World) :
  Calls Tryz.prog 130 #[.agg #[.string a, .string b]] w fun e w' => e = .returned (.int .i64 r) ∧ Below w.heap.size w w' := by
 obtain ⟨b1, bV, hV⟩ := boxes1 w #[.string a, .string b] 154
 obtain ⟨x0, x1, -, -⟩ := b1.cells2
 by_cases h : b.size = 0
 ·rw [if_pos h] at hr
  subst hr
  have e0 := text_empty h
  clear h ha hb
  go_enter Tryz.func130, Tryz.ntmps130
  go_wp2
  go_ret
  exact ⟨rfl, bV⟩
 ·rw [if_neg h] at hr
  have e0 : (b.toList == []) = false := text_full (by omega)
  have HR : Hid (((a.size : Int) + 1 + b.size) = r) := by show ((a.size : Int) + 1 + b.size) = r; omega
  have W1 : wrap64 ((a.size : Int) + 1) = (a.size : Int) + 1 := wrap_smalls (by omega) (by omega)
  have W2 : wrap64 ((a.size : Int) + 1 + b.size) = (a.size : Int) + 1 + b.size := wrap_smalls (by omega) (by omega)
  clear h ha hb hr
  go_enter Tryz.func130, Tryz.ntmps130
  go_wp2
  go_ret
  exact ⟨by rw [← HR.out]; simp only [W1, W2]; rfl, bV⟩
theorem lex_long (a b : ByteArray) (r : Bool) (hr : longB a b = r) (w : World) :
  Calls Tryz.prog 128 #[.agg #[.string a, .string b]] w fun e w' => e = .returned (.bool r) ∧ Below w.heap.size w w' := by
 obtain ⟨b1, bV, hV⟩ := boxes1 w #[.string a, .string b] 154
 obtain ⟨x0, x1, -, -⟩ := b1.cells2
 unfold longB at hr
 by_cases h : 40 < a.size
 ·have k : 40 < (a.size : Int) := by omega
  obtain rfl : r = true := by rw [← hr, decide_eq_true h]; rfl
  clear h hr
  go_enter Tryz.func128, Tryz.ntmps128
  go_wp2
  go_ret
  exact ⟨rfl, bV⟩
 ·have k : ¬ 40 < (a.size : Int) := by omega
  rw [decide_eq_false h, Bool.false_or] at hr
  by_cases h2 : 40 < b.size
  ·have k2 : 40 < (b.size : Int) := by omega
   obtain rfl : r = true := by rw [← hr, decide_eq_true h2]
   clear h h2 hr
   go_enter Tryz.func128, Tryz.ntmps128
   go_wp2
   go_ret
   exact ⟨rfl, bV⟩
  ·have k2 : ¬ 40 < (b.size : Int) := by omega
   obtain rfl : r = false := by rw [← hr, decide_eq_false h2]
   clear h h2 hr
   go_enter Tryz.func128, Tryz.ntmps128
   go_wp2
   go_ret
   exact ⟨rfl, bV⟩
theorem lex_may (a b : ByteArray) (ha : a.size ≤ 1000000) (hb : b.size ≤ 1000000) (r : Bool) (hr : mayB a b = r) (w : World) :
  Calls Tryz.prog 129 #[.agg #[.string a, .string b]] w fun e w' => e = .returned (.bool r) ∧ Below w.heap.size w w' := by
 obtain ⟨b1, bV, hV⟩ := boxes1 w #[.string a, .string b] 154
 obtain ⟨x0, x1, -, -⟩ := b1.cells2
 have LG := fun v => lex_long a b _ rfl v
 have PA := fun v => lex_plain a ha _ rfl v
 have PB := fun v => lex_plain b hb _ rfl v
 unfold mayB at hr
 generalize longB a b = l at *
 generalize plainB a = p at *
 generalize plainB b = q at *
 cases l with
 | true =>
  obtain rfl : r = false := by rw [← hr]; rfl
  clear hr PA PB ha hb
  go_enter Tryz.func129, Tryz.ntmps129
  go_wp2_with (go_at_call 128; (with_reducible refine Calls.mono (LG _) ?_); rintro e v1 ⟨rfl, d1⟩)
  go_ret
  exact ⟨rfl, below_more bV d1⟩
 | false =>
  cases p with
  | false =>
   obtain rfl : r = false := by rw [← hr]; rfl
   clear hr PB ha hb
   go_enter Tryz.func129, Tryz.ntmps129
   go_wp2_with (first
    | (go_at_call 128; (with_reducible refine Calls.mono (LG _) ?_); rintro e v1 ⟨rfl, d1⟩; obtain ⟨x0, x1, -, -⟩ := (b1.more d1).cells2)
    | (go_at_call 159; (with_reducible refine Calls.mono (PA _) ?_); rintro e v2 ⟨rfl, rfl⟩))
   go_ret
   exact ⟨rfl, below_more bV d1⟩
  | true =>
   by_cases h : b.size = 0
   ·obtain rfl : r = true := by rw [← hr, decide_eq_true h]; rfl
    have e0 := text_empty h
    clear hr PB ha hb h
    go_enter Tryz.func129, Tryz.ntmps129
    go_wp2_with (first
     | (go_at_call 128; (with_reducible refine Calls.mono (LG _) ?_); rintro e v1 ⟨rfl, d1⟩; obtain ⟨x0, x1, -, -⟩ := (b1.more d1).cells2)
     | (go_at_call 159; (with_reducible refine Calls.mono (PA _) ?_); rintro e v2 ⟨rfl, rfl⟩))
    go_ret
    exact ⟨rfl, below_more bV d1⟩
   ·have e0 : (b.toList == []) = false := text_full (by omega)
    rw [decide_eq_false h] at hr
    simp only [Bool.not_false, Bool.true_and, Bool.false_or] at hr
    generalize hg : (b.toList == [48]) = g at *
    have hne : (b.toList != [48]) = !g := by rw [← hg]; rfl
    cases q <;> cases g
    all_goals
     simp only [Bool.not_false, Bool.not_true, Bool.true_and, Bool.false_and] at hr hne
     subst hr
     clear ha hb h
     go_enter Tryz.func129, Tryz.ntmps129
     go_wp2_with (first
      | (go_at_call 128; (with_reducible refine Calls.mono (LG _) ?_); rintro e v1 ⟨rfl, d1⟩; obtain ⟨x0, x1, -, -⟩ := (b1.more d1).cells2)
      | (go_at_call 159; (with_reducible refine Calls.mono (PA _) ?_); rintro e v2 ⟨rfl, rfl⟩)
      | (go_at_call 159; (with_reducible refine Calls.mono (PB _) ?_); rintro e v3 ⟨rfl, rfl⟩))
     go_ret
     exact ⟨by simp, below_more bV d1⟩
end
section
open Go.RowKit Go.Lib
theorem below_text {t : ByteArray} (h : digEnd t 0 + 1 ≤ t.size) : (t.extract (digEnd t 0 + 1) t.size).extract 0 (digEnd (t.extract (digEnd t 0 + 1) t.size) 0) = t.extract (digEnd t 0 + 1) (digEnd t (digEnd t 0 + 1)) := by
 have hsh := shifted_rest t h
 have h1 := hsh.digits _ 0 (Nat.le_refl _)
 rw [Nat.add_zero] at h1
 rw [h1, ← hsh.extract 0 (digEnd (t.extract (digEnd t 0 + 1) t.size) 0), Nat.add_zero]
theorem lex_numeral (t : ByteArray) (ht : t.size ≤ 1000000) (w : World) :
  Calls Tryz.prog 127 #[.string t] w fun e w' => e = .returned (.agg #[.string (above t), .string (below t)]) ∧ Below w.heap.size w w' := by
 obtain ⟨b1, b2, bV, hV⟩ := boxes2 w #[.string ⟨#[]⟩, .string ⟨#[]⟩] #[.int .i64 2] 154 3
 have S1 := lex_span1 t ht _ 2 _ b2
 rw [spanE_digits] at S1
 have hD := (digEnd_range t 0).2 (Nat.zero_le _)
 have hz : (t.extract 0 (digEnd t 0)).size = digEnd t 0 := by rw [ByteArray.size_extract]; omega
 have hzr : (t.extract (digEnd t 0) t.size).size = t.size - digEnd t 0 := by rw [ByteArray.size_extract]; omega
 have hb0 := ext_bt t (digEnd t 0) hD 0
 rw [Nat.add_zero] at hb0
 have ha : above t = t.extract 0 (digEnd t 0) := rfl
 rw [ha]
 clear ha
 unfold below
 by_cases hc : digEnd t 0 < t.size ∧ bt t (digEnd t 0) = 124
 ·rw [if_pos hc, ← below_text (by omega)]
  have hu : (t.extract (digEnd t 0) t.size).extract 1 (t.extract (digEnd t 0) t.size).size = t.extract (digEnd t 0 + 1) t.size := extract_more _ _
  have CU := fun v => cut_stroke (s := t.extract (digEnd t 0) t.size) (u := t.extract (digEnd t 0 + 1) t.size) (by omega) (g := true) (.inr (.inl ⟨by omega, rfl, by rw [stroke_first (by omega), decide_eq_true (by rw [hb0]; exact hc.2)], hu⟩)) v
  have hy : (t.extract (digEnd t 0 + 1) t.size).size ≤ 1000000 := by rw [ByteArray.size_extract]; omega
  have hE := (digEnd_range (t.extract (digEnd t 0 + 1) t.size) 0).2 (Nat.zero_le _)
  have S2 := fun (v : World) (cs : Array Value) => lex_span1 (t.extract (digEnd t 0 + 1) t.size) hy _ 2 _ (boxes2 v cs #[.int .i64 2] 154 3).2.1
  rw [spanE_digits] at S2
  have k1 : (digEnd t 0 : Int) ≤ t.size := by omega
  have k2 : (digEnd (t.extract (digEnd t 0 + 1) t.size) 0 : Int) ≤ (t.extract (digEnd t 0 + 1) t.size).size := by omega
  generalize t.extract (digEnd t 0 + 1) t.size = y at *
  generalize digEnd y 0 = E at *
  generalize digEnd t 0 = D at *
  clear ht hD hzr hb0 hc hu hy hE
  go_enter Tryz.func127, Tryz.ntmps127
  go_wp2_with (first
   | (go_at_call 95; (with_reducible refine Calls.mono S1 ?_); rintro e w1 ⟨rfl, d1⟩; have N := boxes2 w1 #[.string (t.extract 0 D), .string ⟨#[]⟩] #[.int .i64 2] 154 3)
   | (go_at_call 158; (with_reducible refine Calls.mono (CU _) ?_); rintro e w0 ⟨rfl, rfl⟩)
   | (go_at_call 95; (with_reducible refine Calls.mono (S2 _ _) ?_); rintro e w2 ⟨rfl, d2⟩; obtain ⟨n0, n1, n2, n3⟩ := (N.1.more d2).cells2; obtain ⟨r0, r1, r2, r3⟩ := (((b1.more d1).more N.2.2.1).more d2).cells2; have hq : w.heap.size < w1.heap.size := Nat.lt_of_lt_of_le (Nat.lt_of_succ_lt hV) d1.size))
  exact bodyPost_ret (v := .agg #[.string (t.extract 0 D), .string (y.extract 0 E)]) (by simp [results, Tryz.results127, go_sem, r0, r1]) rfl ⟨rfl, (((below_more (below_more (below_more bV d1) N.2.2.1) d2).setCell (p := ⟨w1.heap.size, 1, none⟩) (Nat.le_of_lt hq) _).setCell (p := ⟨w.heap.size, 0, none⟩) (Nat.le_refl _) _).setCell (p := ⟨w.heap.size, 1, none⟩) (Nat.le_refl _) _⟩
 ·rw [if_neg hc]
  have CU := fun v => cut_stroke (s := t.extract (digEnd t 0) t.size) (u := t.extract (digEnd t 0) t.size) (by omega) (g := false) (by
   by_cases h0 : digEnd t 0 < t.size
   ·exact .inr (.inr ⟨by omega, rfl, by rw [stroke_first (by omega), decide_eq_false (by rw [hb0]; exact fun e => hc ⟨h0, e⟩)], rfl⟩)
   ·exact .inl ⟨by omega, rfl, rfl⟩) v
  have k1 : (digEnd t 0 : Int) ≤ t.size := by omega
  generalize digEnd t 0 = D at *
  clear ht hD hzr hb0 hc
  go_enter Tryz.func127, Tryz.ntmps127
  go_wp2_with (first
   | (go_at_call 95; (with_reducible refine Calls.mono S1 ?_); rintro e w1 ⟨rfl, d1⟩; have N := boxes1 w1 #[.string (t.extract 0 D), .string ⟨#[]⟩] 154; obtain ⟨n0, n1, n2, n3⟩ := N.1.cells2; obtain ⟨r0, r1, r2, r3⟩ := (b1.more d1).cells2; have hq : w.heap.size < w1.heap.size := Nat.lt_of_lt_of_le (Nat.lt_of_succ_lt hV) d1.size)
   | (go_at_call 158; (with_reducible refine Calls.mono (CU _) ?_); rintro e w0 ⟨rfl, rfl⟩))
  have bb := ((below_more bV d1).setCell (p := ⟨w.heap.size, 0, none⟩) (Nat.le_refl _) (.string (t.extract 0 D))).setCell (p := ⟨w.heap.size, 1, none⟩) (Nat.le_refl _) (.string ⟨#[]⟩)
  obtain ⟨z0, z1, -, -⟩ := ((((b1.more d1).set 0 (.string (t.extract 0 D))).set 1 (.string ⟨#[]⟩)).alloc (.cells #[.string (t.extract 0 D), .string ⟨#[]⟩] 154)).cells2
  exact bodyPost_ret (v := .agg #[.string (t.extract 0 D), .string ⟨#[]⟩]) (by simp [results, Tryz.results127, go_sem, z0, z1]) rfl ⟨rfl, bb.alloc bb.size _⟩
theorem above_le (t : ByteArray) : (above t).size ≤ t.size := by
 rw [above_size]; exact (digEnd_range t 0).2 (Nat.zero_le _)
theorem below_le (t : ByteArray) : (below t).size ≤ t.size := by
 have h1 := digEnd_range t (digEnd t 0 + 1)
 rw [below_size]
 split
 ·have := h1.2 (by omega)
  omega
 ·omega
end
section
open Go.RowKit Go.Lib
theorem lex_infoU8 : (Tryz.prog.info? 5).map (fun i => (i.zero, i.size, i.bytes)) = some (some (.int .u8 0), 1, 1) := by kernel_rfl
set_option maxRecDepth 100000 in
theorem lib_clone0 (s : ByteArray) (w : World) (hlim : s.size ≤ 1000000) :
  Calls Tryz.prog 61 #[.string s] w fun e w' => e = .returned (.string s) ∧ Below w.heap.size w w' := by
 by_cases h0 : s.size = 0
 ·obtain rfl := size_zero h0
  go_enter Tryz.func61, Tryz.ntmps61
  go_wp2
  go_ret
  exact ⟨rfl, Below.refl _ _⟩
 ·obtain ⟨i0, hi, hz0, hz1, hz2⟩ := info_parts lex_infoU8
  have hinfo : (Tryz.prog.info? 5).map (·.size) = some 1 := by rw [hi]; simp [hz1]
  have hco : Tryz.prog.cellsOf 5 = 1 := by simp [Program.cellsOf, hi, hz1]
  obtain ⟨M, hM⟩ : ∃ M, M = madeCells (Value.int .u8 0).cells (((s.size : Nat) : Int).toNat * i0.size) := ⟨_, rfl⟩
  have hMs : M.size = s.size := by rw [hM, size_madeCells, hz1]; simp
  have hmk : ∀ W : World, (Instr.makeSlice 89 (.int .i64 (s.size : Int)) (.int .i64 (s.size : Int))).run Tryz.prog W = .ok (.slice (some ⟨W.heap.size, 0, none⟩) s.size s.size) (W.alloc (.cells M 5)) := fun W => by
   have h := run_make (P := Tryz.prog) W 89 5 i0 (.int .u8 0) Tryz.underlying89 hi hz0 .i64 .i64 (s.size : Int) (s.size : Int) (by omega) (by omega) (by rw [hz2]; omega) (by omega)
   rw [← hM] at h
   simpa using h
  clear hM
  have hcp := Lib.run_copy_row_string (P := Tryz.prog) (w.alloc (.cells M 5)) 89 9 3 5 w.heap.size 0 s.size s.size s M 5 Tryz.underlying89 hinfo (heap_alloc_new w _) (Nat.le_refl _) (by omega)
  obtain ⟨Y, hY⟩ : ∃ Y, Y = (M.toList.take 0 ++ Lib.byteCells s.data.toList ++ M.toList.drop (0 + s.size)).toArray := ⟨_, rfl⟩
  rw [← hY] at hcp
  have hYl : Y.toList = Lib.byteCells s.data.toList := by
   rw [hY, List.toList_toArray, List.take_zero, List.nil_append, List.drop_of_length_le (by rw [Array.length_toList]; omega), List.append_nil]
  have hYs : Y.size = s.size := by rw [← Array.length_toList, hYl, Lib.byteCells_length, ← Lib.size_eq]
  have hgY : ((w.alloc (.cells M 5)).setRow w.heap.size Y).heap[w.heap.size]? = some (.cells Y 5 (0, 0)) := setRow_heap _ _ M _ 5 (0, 0) (heap_alloc_new w _)
  have hne : s.data.toList ≠ [] := fun e => h0 (by rw [Lib.size_eq, e]; rfl)
  have hUS := Lib.run_unsafeString_row (P := Tryz.prog) ((w.alloc (.cells M 5)).setRow w.heap.size Y) 119 3 9 5 Tryz.underlying119 hco w.heap.size Y.size (by unfold World.shape?; rw [hgY]) s.data.toList hne (by rw [← Lib.size_eq]; omega) (by rw [← Lib.size_eq]; omega)
   (fun j x hx => Lib.cells_of_row hgY Y.size j _ (by rw [List.take_of_length_le (by rw [Array.length_toList]; exact Nat.le_refl _), hYl]; simp [Lib.byteCells, hx]))
  rw [← Lib.size_eq] at hUS
  clear hY
  go_enter Tryz.func61, Tryz.ntmps61
  go_wp2
  go_ret
  have hb1 : Below w.heap.size w (w.alloc (.cells M 5)) := (Below.refl _ w).alloc (Nat.le_refl _) _
  have hb2 : Below w.heap.size (w.alloc (.cells M 5)) ((w.alloc (.cells M 5)).setRow w.heap.size Y) := ⟨rfl, rfl, rfl, by simp, fun k hk => setRow_other _ _ _ _ (by omega)⟩
  exact ⟨rfl, Lib.below_freeze (hb1.trans hb2) (p := ⟨w.heap.size, 0, none⟩) (Nat.le_refl _) _⟩
theorem lib_clone (s : ByteArray) (hlim : s.size ≤ 1000000) (w : World) :
  Calls Tryz.prog 32 #[.string s] w fun e w' => e = .returned (.string s) ∧ Below w.heap.size w w' := by
 have C := fun v => lib_clone0 s v hlim
 clear hlim
 go_enter Tryz.func32, Tryz.ntmps32
 go_wp2_with (go_at_call 61; (with_reducible refine Calls.mono (C _) ?_); rintro e w1 ⟨rfl, d1⟩)
 go_ret
 exact ⟨rfl, d1⟩
end
end Go.Proofs.YtaeladkcmpdkhaaGreatDoor
