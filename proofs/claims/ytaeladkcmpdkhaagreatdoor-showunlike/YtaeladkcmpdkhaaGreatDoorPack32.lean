/-
  Texts of mine in build order. No conditions of their own.
-/
import Derived.Test.YtaeladkcmpdkhaaGreatDoorPack3
set_option maxHeartbeats 8000000
namespace Go.Proofs.YtaeladkcmpdkhaaGreatDoor
section
open Go.Lib
theorem bt_append_left (s t : ByteArray) {i : Nat} (h : i < s.size) : bt (s ++ t) i = bt s i := by
 unfold bt
 congr 1
 have h' : i < s.data.size := h
 rw [bt_data, bt_data, ByteArray.data_append, getElem!_pos _ _ (by rw [Array.size_append]; omega), getElem!_pos s.data i h', Array.getElem_append_left h']
end
section
open Go.Lib
def ktx (l : List Tok) : List (Int × ByteArray) := l.map fun t => (t.1, t.2.1)
theorem ktx_length (l : List Tok) : (ktx l).length = l.length := List.length_map _
end
section
open Go.Lib
set_option maxRecDepth 100000 in
/-- A line's end behind a text is no part of a rune. -/
theorem decodeN_line {n n' b0 b1 b2 b3 b1' b2' b3' : Nat} (hn : 1 ≤ n) (h0 : n < n') (h1 : 1 < n → b1' = b1) (h2 : 2 < n → b2' = b2) (h3 : 3 < n → b3' = b3) (e1 : n = 1 → b1' < 128) (e2 : n = 2 → b2' < 128) (e3 : n = 3 → b3' < 128) : decodeN n' b0 b1' b2' b3' = decodeN n b0 b1 b2 b3 := by
 rcases (by omega : n = 1 ∨ n = 2 ∨ n = 3 ∨ 3 < n) with rfl | rfl | rfl | h
 ·have e := e1 rfl
  clear h1 h2 h3 e1 e2 e3
  unfold decodeN
  repeat' split
  all_goals first | rfl | (exfalso; omega)
 ·obtain rfl := h1 (by omega)
  have e := e2 rfl
  clear h1 h2 h3 e1 e2 e3
  unfold decodeN
  repeat' split
  all_goals first | rfl | (exfalso; omega)
 ·obtain rfl := h1 (by omega)
  obtain rfl := h2 (by omega)
  have e := e3 rfl
  clear h1 h2 h3 e1 e2 e3
  unfold decodeN
  repeat' split
  all_goals first | rfl | (exfalso; omega)
 ·obtain rfl := h1 (by omega)
  obtain rfl := h2 (by omega)
  obtain rfl := h3 (by omega)
  unfold decodeN
  simp only [show 1 < n' from by omega, show 2 < n' from by omega, show 3 < n' from by omega, show 1 < n from by omega, show 2 < n from by omega, h]
end
section
open Go.Lib
theorem shifted_app (p t : ByteArray) : Shifted (p ++ t) t p.size := ⟨ByteArray.size_append, fun j => bt_append_right p t j⟩
end
section
open Go.Lib
structure Ended (u s : ByteArray) : Prop where
 size : s.size < u.size
 same : ∀ i, i < s.size → bt u i = bt s i
 low : bt u s.size < 128
 stop : kindAt u s.size ≠ 1 ∧ kindAt u s.size ≠ 2
 stroke : bt u s.size ≠ 124
theorem Ended.decode {u s : ByteArray} (h : Ended u s) {i : Nat} (hi : i < s.size) : Utf8.decode u i = Utf8.decode s i := by
 have hs := h.size
 rw [decode_bt, decode_bt, h.same i hi]
 refine decodeN_line (by omega) (by omega) (fun _ => h.same _ (by omega)) (fun _ => h.same _ (by omega)) (fun _ => h.same _ (by omega)) (fun e => ?_) (fun e => ?_) (fun e => ?_)
 ·rw [show i + 1 = s.size by omega]; exact h.low
 ·rw [show i + 2 = s.size by omega]; exact h.low
 ·rw [show i + 3 = s.size by omega]; exact h.low
theorem Ended.kind {u s : ByteArray} (h : Ended u s) {i : Nat} (hi : i < s.size) : kindAt u i = kindAt s i ∧ stepAt u i = stepAt s i := by
 have hs := h.size
 unfold kindAt stepAt nextR nextN
 rw [if_pos hi, if_pos hi, if_pos (show i < u.size by omega), if_pos (show i < u.size by omega), h.decode hi]
 exact ⟨rfl, rfl⟩
theorem Ended.digits {u s : ByteArray} (h : Ended u s) : ∀ k i, i ≤ s.size → s.size - i ≤ k → digEnd u i = digEnd s i := by
 intro k
 induction k with
 | zero =>
  intro i hi hk
  obtain rfl : i = s.size := by omega
  rw [digEnd_here h.stop.2, digEnd_here (by rw [kindAt_size]; decide)]
 | succ k ih =>
  intro i hi hk
  rcases Nat.lt_or_ge i s.size with hlt | hge
  ·have hk1 := (h.kind hlt).1
   by_cases h2 : kindAt s i = 2
   ·rw [digEnd_step h2, digEnd_step (by rw [hk1]; exact h2)]
    exact ih _ (by omega) (by omega)
   ·rw [digEnd_here h2, digEnd_here (by rw [hk1]; exact h2)]
  ·obtain rfl : i = s.size := by omega
   rw [digEnd_here h.stop.2, digEnd_here (by rw [kindAt_size]; decide)]
theorem Ended.word {u s : ByteArray} (h : Ended u s) : ∀ k i, i ≤ s.size → s.size - i ≤ k → wordEnd u i = wordEnd s i := by
 have hst : ¬ (kindAt u s.size = 1 ∨ kindAt u s.size = 2) := fun e => e.elim h.stop.1 h.stop.2
 intro k
 induction k with
 | zero =>
  intro i hi hk
  obtain rfl : i = s.size := by omega
  rw [wordEnd_here hst, wordEnd_here (by rw [kindAt_size]; decide)]
 | succ k ih =>
  intro i hi hk
  rcases Nat.lt_or_ge i s.size with hlt | hge
  ·obtain ⟨hk1, hk2⟩ := h.kind hlt
   have hz := stepAt_size hlt
   by_cases h2 : kindAt s i = 1 ∨ kindAt s i = 2
   ·rw [wordEnd_step h2, wordEnd_step (by rw [hk1]; exact h2), hk2]
    exact ih _ (by omega) (by omega)
   ·rw [wordEnd_here h2, wordEnd_here (by rw [hk1]; exact h2)]
  ·obtain rfl : i = s.size := by omega
   rw [wordEnd_here hst, wordEnd_here (by rw [kindAt_size]; decide)]
theorem Ended.number {u s : ByteArray} (h : Ended u s) {i : Nat} (hi : i ≤ s.size) : numEnd u i = numEnd s i := by
 have hs := h.size
 have hd := h.digits _ i hi (Nat.le_refl _)
 have hr := (digEnd_range s i).2 hi
 unfold numEnd
 rw [hd]
 generalize digEnd s i = E at *
 rcases Nat.lt_or_ge E s.size with hlt | hge
 ·rw [h.same E hlt, h.digits _ (E + 1) (by omega) (Nat.le_refl _)]
  have e : (E < u.size) = (E < s.size) := propext ⟨fun _ => hlt, fun _ => by omega⟩
  simp only [e]
 ·obtain rfl : E = s.size := by omega
  rw [if_neg (fun e => h.stroke e.2.1), if_neg (fun e => by omega)]
theorem Ended.token {u s : ByteArray} (h : Ended u s) {i : Nat} (hi : i < s.size) : tokenI u i = tokenI s i := by
 have hs := h.size
 have hx : ∀ e, e ≤ s.size → u.extract i e = s.extract i e := fun e he => extract_same (by omega) h.same he
 obtain ⟨k1, k2⟩ := h.kind hi
 have hw := (wordEnd_range s i).2 (by omega)
 have hn := (numEnd_range (s := s) (i := i) (by omega)).2
 have hz := stepAt_size hi
 unfold tokenI
 rw [k1, k2, h.word _ i (by omega) (Nat.le_refl _), h.number (by omega), hx _ hw, hx _ hn, hx _ hz.2.1]
theorem one_bt (c : UInt8) (t : ByteArray) : bt (⟨#[c]⟩ ++ t) 0 = c.toNat := by
 rw [bt_append_left _ _ (show 0 < (⟨#[c]⟩ : ByteArray).size from by show 0 < 1; decide)]; rfl
theorem one_kind {c : UInt8} (t : ByteArray) (h : c.toNat < 128) : kindAt (⟨#[c]⟩ ++ t) 0 = kindI (c.toNat : Int) ∧ stepAt (⟨#[c]⟩ ++ t) 0 = 1 := by
 have hz : 0 < (⟨#[c]⟩ ++ t : ByteArray).size := by
  rw [ByteArray.size_append]
  show 0 < 1 + t.size
  omega
 have hb := next_byte (s := ⟨#[c]⟩ ++ t) (i := 0) (by rw [one_bt]; exact h)
 rw [one_bt] at hb
 unfold kindAt stepAt
 rw [if_pos hz, if_pos hz, hb.1, hb.2]
 exact ⟨rfl, rfl⟩
theorem markB.low {c : UInt8} (h : markB c) : c.toNat < 128 ∧ kindI (c.toNat : Int) = 4 ∧ c.toNat ≠ 124 := by
 rcases h with rfl | rfl | rfl | rfl | rfl | rfl | rfl | rfl | rfl | rfl <;> decide
theorem mark_token {c : UInt8} (h : markB c) (t : ByteArray) : tokenI (⟨#[c]⟩ ++ t) 0 = (2, ⟨#[c]⟩, 1, 0) := by
 obtain ⟨h1, h2, -⟩ := h.low
 obtain ⟨k1, k2⟩ := one_kind t h1
 have hx : (⟨#[c]⟩ ++ t : ByteArray).extract 0 1 = ⟨#[c]⟩ := ByteArray.extract_append_eq_left rfl
 unfold tokenI
 rw [k1, k2, h2, if_neg (by decide), if_neg (by decide), if_pos rfl, Nat.zero_add, hx]
def okP (t : Int × ByteArray) : Prop := (t.1 = 3 ∧ blankP t.2) ∨ (t.1 = 2 ∧ ∃ c, markB c ∧ t.2 = ⟨#[c]⟩) ∨ ((t.1 = 0 ∨ t.1 = 1) ∧ RightT t.1 t.2)
def AdjP : List (Int × ByteArray) → Prop
 | [] => True
 | t :: l => okP t ∧ ((t.1 = 0 ∨ t.1 = 1) → stops l) ∧ AdjP l
def toksP (l : List (Int × ByteArray)) : List (Int × ByteArray) := l.filter (fun t => decide (t.1 ≠ 3))
theorem toksP_app (l m : List (Int × ByteArray)) : toksP (l ++ m) = toksP l ++ toksP m := List.filter_append ..
theorem toksP_blank (x : ByteArray) (l : List (Int × ByteArray)) : toksP ((3, x) :: l) = toksP l := rfl
theorem toksP_cons {k : Int} (hk : k ≠ 3) (x : ByteArray) (l : List (Int × ByteArray)) : toksP ((k, x) :: l) = (k, x) :: toksP l := by
 unfold toksP
 rw [List.filter_cons, if_pos (by simpa using hk)]
theorem toksP_length (l : List (Int × ByteArray)) : (toksP l).length ≤ l.length := List.length_filter_le ..
theorem stops_ended {x : ByteArray} {l : List (Int × ByteArray)} (h : stops l) : Ended (x ++ joinP l) x := by
 cases l with
 | nil => exact h.elim
 | cons t l =>
  have key : ∀ c : UInt8, c.toNat < 128 → kindI (c.toNat : Int) ≠ 1 → kindI (c.toNat : Int) ≠ 2 → c.toNat ≠ 124 → Ended (x ++ (⟨#[c]⟩ ++ joinP l)) x := by
   intro c h1 h2 h3 h4
   obtain ⟨k1, -⟩ := one_kind (joinP l) h1
   have S := shifted_app x (⟨#[c]⟩ ++ joinP l)
   have hk := (S.kind 0).1
   rw [Nat.add_zero, k1] at hk
   have hb := bt_append_right x (⟨#[c]⟩ ++ joinP l) 0
   rw [Nat.add_zero, one_bt] at hb
   refine ⟨?_, fun i hi => bt_append_left x _ hi, by rw [hb]; exact h1, ?_, by rw [hb]; exact h4⟩
   ·rw [ByteArray.size_append, ByteArray.size_append]
    show x.size < x.size + (1 + (joinP l).size)
    omega
   ·rw [hk]; exact ⟨h2, h3⟩
  show Ended (x ++ (t.2 ++ joinP l)) x
  rcases h with ⟨-, e | e⟩ | ⟨-, c, hc, e⟩
  ·rw [e]; exact key 32 (by decide) (by decide) (by decide) (by decide)
  ·rw [e]; exact key 10 (by decide) (by decide) (by decide) (by decide)
  ·rw [e]
   obtain ⟨h1, h2, h3⟩ := hc.low
   exact key c h1 (by rw [h2]; decide) (by rw [h2]; decide) h3
theorem lex_pieces : ∀ (l : List (Int × ByteArray)) (p : ByteArray) (out : List Tok), AdjP l → out.length + (toksP l).length ≤ 4000 →
  ∃ r, lexF (p ++ joinP l) ((p ++ joinP l).size + 1) p.size out = (out ++ r, (0, 0), 0) ∧ ktx r = toksP l := by
 intro l
 induction l with
 | nil =>
  intro p out _ _
  refine ⟨[], ?_, rfl⟩
  rw [lexF_end (by rw [ByteArray.size_append]; show ¬ p.size < p.size + 0; omega), List.append_nil]
 | cons t l ih =>
  rintro p out ⟨ht, hs, hr⟩ hl
  obtain ⟨k, x⟩ := t
  have S := shifted_app p (x ++ joinP l)
  have ea : p ++ (x ++ joinP l) = (p ++ x) ++ joinP l := by rw [ByteArray.append_assoc]
  have hz := S.size
  show ∃ r, lexF (p ++ (x ++ joinP l)) ((p ++ (x ++ joinP l)).size + 1) p.size out = _ ∧ _
  have hk0 := (S.kind 0).1
  rw [Nat.add_zero] at hk0
  rcases ht with ⟨h3, hx⟩ | ht
  ·obtain rfl : k = 3 := h3
   have hx1 : x.size = 1 ∧ kindAt (x ++ joinP l) 0 = 3 := by
    rcases hx with e | e
    ·obtain rfl : x = ⟨#[32]⟩ := e
     exact ⟨rfl, (one_kind (joinP l) (c := 32) (by decide)).1⟩
    ·obtain rfl : x = ⟨#[10]⟩ := e
     exact ⟨rfl, (one_kind (joinP l) (c := 10) (by decide)).1⟩
   rw [toksP_blank] at hl ⊢
   obtain ⟨r, q1, q2⟩ := ih (p ++ x) out hr hl
   have hz2 : (p ++ x).size = p.size + 1 := by rw [ByteArray.size_append, hx1.1]
   rw [ByteArray.size_append] at hz
   have hzx : (x ++ joinP l).size = 1 + (joinP l).size := by rw [ByteArray.size_append, hx1.1]
   rw [lexF_step (by rw [ByteArray.size_append]; omega), if_pos (hk0.trans hx1.2)]
   rw [← ea, hz2] at q1
   exact ⟨r, q1, q2⟩
  ·have hk3 : k ≠ 3 := by
    rcases ht with ⟨e, -⟩ | ⟨e | e, -⟩
    ·have : k = 2 := e; omega
    ·have : k = 0 := e; omega
    ·have : k = 1 := e; omega
   rw [toksP_cons hk3, List.length_cons] at hl
   rw [toksP_cons hk3]
   have hT0 : 0 < x.size ∧ tokenI (x ++ joinP l) 0 = (k, x, x.size, 0) := by
    rcases ht with ⟨e, c, hc, e2⟩ | ⟨e, h0, h1⟩
    ·obtain rfl : k = 2 := e
     obtain rfl : x = ⟨#[c]⟩ := e2
     exact ⟨by show 0 < 1; decide, mark_token hc _⟩
    ·exact ⟨h0, ((stops_ended (hs e)).token h0).trans h1⟩
   have hT := S.token 0
   rw [Nat.add_zero, hT0.2] at hT
   dsimp only at hT
   have hkt := tokenI_kind (s := p ++ (x ++ joinP l)) (i := p.size) (by rw [hT])
   have hzx : (x ++ joinP l).size = x.size + (joinP l).size := ByteArray.size_append
   have hz1 := hT0.1
   obtain ⟨r, h1, h2⟩ := ih (p ++ x) (out ++ [(k, x, (placeI (p ++ (x ++ joinP l)) p.size).1, (placeI (p ++ (x ++ joinP l)) p.size).2)]) hr (by rw [List.length_append, List.length_singleton]; omega)
   rw [lexF_step (by rw [ByteArray.size_append]; omega), if_neg hkt.2, if_neg (by omega), hT, if_neg (by simp)]
   dsimp only
   have es : (p ++ x).size = p.size + x.size := ByteArray.size_append
   rw [es, ← ea] at h1
   rw [h1]
   exact ⟨_, by rw [List.append_assoc], by rw [List.singleton_append]; show _ :: ktx r = _; rw [h2]⟩
theorem lexI_pieces {l : List (Int × ByteArray)} (h : AdjP l) (hl : (toksP l).length ≤ 4000) (hz : (joinP l).size ≤ 60000) : ∃ r, lexI (joinP l) = (r, (0, 0), 0) ∧ ktx r = toksP l := by
 obtain ⟨r, h1, h2⟩ := lex_pieces l ⟨#[]⟩ [] h (by rw [List.length_nil]; omega)
 have e : (⟨#[]⟩ : ByteArray) ++ joinP l = joinP l := ByteArray.empty_append
 rw [e] at h1
 refine ⟨r, ?_, h2⟩
 unfold lexI
 rw [if_neg (by omega)]
 exact h1
end
section
open Go.Lib
def TokAt (L : List Tok) (p : Nat) (x : Int × ByteArray) : Prop := (ktx L)[p]? = some x
def Pre (L : List Tok) (p : Nat) (ts : List (Int × ByteArray)) : Prop := ∃ rest, (ktx L).drop p = ts ++ rest
theorem Pre.head {L : List Tok} {p : Nat} {x : Int × ByteArray} {ts : List (Int × ByteArray)} (h : Pre L p (x :: ts)) : TokAt L p x ∧ Pre L (p + 1) ts := by
 obtain ⟨rest, e⟩ := h
 refine ⟨?_, rest, ?_⟩
 ·unfold TokAt
  have := congrArg (fun l => l[0]?) e
  simpa [List.getElem?_drop] using this
 ·rw [← List.drop_drop, e]; rfl
theorem Pre.app {L : List Tok} {p : Nat} {ts us : List (Int × ByteArray)} (h : Pre L p (ts ++ us)) : Pre L p ts ∧ Pre L (p + ts.length) us := by
 obtain ⟨rest, e⟩ := h
 refine ⟨⟨us ++ rest, by rw [e, List.append_assoc]⟩, rest, ?_⟩
 rw [← List.drop_drop, e, List.append_assoc, List.drop_left]
theorem TokAt.tok {L : List Tok} {p : Nat} {x : Int × ByteArray} (h : TokAt L p x) : ∃ t, L[p]? = some t ∧ t.1 = x.1 ∧ t.2.1 = x.2 := by
 unfold TokAt ktx at h
 rw [List.getElem?_map] at h
 cases hl : L[p]? with
 | none => rw [hl] at h; exact absurd h (by simp)
 | some t =>
  rw [hl] at h
  have e := Option.some.inj h
  exact ⟨t, rfl, by rw [← e], by rw [← e]⟩
theorem Rd.is_tokAt {L : List Tok} {r : Rd} {x : Int × ByteArray} (h : TokAt L r.pos x) (hb : r.bad = false) (k : Int) (y : List UInt8) : r.is L k y = (decide (x.1 = k) && (x.2.data.toList == y)) := by
 obtain ⟨t, e1, e2, e3⟩ := h.tok
 unfold Rd.is
 rw [hb, e1]
 dsimp only
 rw [e2, e3, ByteArray.toList_eq]; rfl
def exactF (pr : Bool × Nat × Nat → ByteArray) (ex : Nat → ByteArray) (l : List Nd) : Nat → Nat → List (Int × ByteArray)
 | 0, _ => []
 | f + 1, i => match l[i]? with
  | none => []
  | some n => if n.kind = 0 then [(0, n.name)]
   else if n.kind = 1 then [(1, pr n.num)]
   else if n.kind = 6 then (2, ⟨#[40]⟩) :: (2, ⟨#[45]⟩) :: (exactF pr ex l f n.a.toNat ++ [(2, ⟨#[41]⟩)])
   else if n.kind = 7 then (2, ⟨#[40]⟩) :: (exactF pr ex l f n.a.toNat ++ ((2, ⟨#[94]⟩) :: ((if n.exp < 0 then [(2, ⟨#[45]⟩)] else []) ++ [(1, ex n.exp.natAbs), (2, ⟨#[41]⟩)])))
   else (2, ⟨#[40]⟩) :: (exactF pr ex l f n.a.toNat ++ ((2, opB n.kind) :: (exactF pr ex l f n.b.toNat ++ [(2, ⟨#[41]⟩)])))
def FieldsP (num : ByteArray → Bool × Nat × Nat) (pr : Bool × Nat × Nat → ByteArray) (ex : Nat → ByteArray) (n : Nd) : Prop :=
 (n.kind = 0 ∧ nameB n.name = true ∧ n = ⟨0, 0, 0, 0, n.name, (false, 0, 0)⟩) ∨ (n.kind = 1 ∧ num (pr n.num) = n.num ∧ n = ⟨1, 0, 0, 0, noText, n.num⟩) ∨
 (2 ≤ n.kind ∧ n.kind ≤ 5 ∧ n = ⟨n.kind, n.a, n.b, 0, noText, (false, 0, 0)⟩) ∨ (n.kind = 6 ∧ n = ⟨6, n.a, 0, 0, noText, (false, 0, 0)⟩) ∨
 (n.kind = 7 ∧ expI (ex n.exp.natAbs) = n.exp.natAbs ∧ n = ⟨7, n.a, 0, n.exp, noText, (false, 0, 0)⟩)
def shN (d : Int) (n : Nd) : Nd := if n.kind < 2 then n else if n.kind ≤ 5 then ⟨n.kind, n.a + d, n.b + d, n.exp, n.name, n.num⟩ else ⟨n.kind, n.a + d, n.b, n.exp, n.name, n.num⟩
def slN (l : List Nd) (b i : Nat) : List Nd := (l.drop b).take (i + 1 - b)
theorem slN_one {l : List Nd} {i : Nat} {n : Nd} (h : l[i]? = some n) : slN l i i = [n] := by
 unfold slN
 obtain ⟨h1, h2⟩ := List.getElem?_eq_some_iff.1 h
 rw [List.drop_eq_getElem_cons h1, show i + 1 - i = 1 by omega, h2]; rfl
theorem slN_app {l : List Nd} {b j i : Nat} (h1 : b ≤ j + 1) (h2 : j ≤ i) : slN l b i = slN l b j ++ slN l (j + 1) i := by
 unfold slN
 rw [show i + 1 - b = (j + 1 - b) + (i + 1 - (j + 1)) by omega, List.take_add, List.drop_drop, show b + (j + 1 - b) = j + 1 by omega]
theorem slN_length {l : List Nd} {b i : Nat} (h : i < l.length) : (slN l b i).length = i + 1 - b := by
 unfold slN; rw [List.length_take, List.length_drop]; omega
def Reads1 (num : ByteArray → Bool × Nat × Nat) (L : List Tok) (m : Nat) (r : Rd) (k : Nat) (ns : List Nd) : Prop := exprI num L m 0 r = ((r.all.length : Int) + ns.length - 1, ⟨r.pos + k, false, r.all ++ ns⟩)
theorem fac_of {num : ByteArray → Bool × Nat × Nat} {L : List Tok} {r : Rd} {k : Nat} {ns : List Nd} {x y : Int × ByteArray} (h : Reads1 num L 6 r k ns) (hb : r.bad = false) (hx : TokAt L r.pos x) (hx2 : (decide (x.1 = 2) && (x.2.data.toList == [45])) = false) (hy : TokAt L (r.pos + k) y) (hy2 : (decide (y.1 = 2) && (y.2.data.toList == [94])) = false) : Reads1 num L 4 r k ns := by
 unfold Reads1 at h ⊢
 rw [expr_factor, if_neg (by rw [Rd.is_tokAt hx hb, hx2]; simp), expr_power, h]
 unfold Rd.powT
 dsimp only
 rw [if_neg (by rw [Rd.is_tokAt (r := ⟨r.pos + k, false, r.all ++ ns⟩) hy rfl, hy2]; simp)]
theorem stop_product {num : ByteArray → Bool × Nat × Nat} {L : List Tok} {r : Rd} {a : Int} {y : Int × ByteArray} (hb : r.bad = false) (hy : TokAt L r.pos y) (h1 : (decide (y.1 = 2) && (y.2.data.toList == [42])) = false) (h2 : (decide (y.1 = 2) && (y.2.data.toList == [47])) = false) : exprI num L 3 a r = (a, r) := by
 rw [expr_more_product, if_neg (by rw [Rd.is_tokAt hy hb, Rd.is_tokAt hy hb, h1, h2]; simp)]
theorem stop_sum {num : ByteArray → Bool × Nat × Nat} {L : List Tok} {r : Rd} {a : Int} {y : Int × ByteArray} (hb : r.bad = false) (hy : TokAt L r.pos y) (h1 : (decide (y.1 = 2) && (y.2.data.toList == [43])) = false) (h2 : (decide (y.1 = 2) && (y.2.data.toList == [45])) = false) : exprI num L 1 a r = (a, r) := by
 rw [expr_more_sum, if_neg (by rw [Rd.is_tokAt hy hb, Rd.is_tokAt hy hb, h1, h2]; simp)]
theorem prod_of {num : ByteArray → Bool × Nat × Nat} {L : List Tok} {r : Rd} {k : Nat} {ns : List Nd} {y : Int × ByteArray} (h : Reads1 num L 4 r k ns) (hy : TokAt L (r.pos + k) y) (h1 : (decide (y.1 = 2) && (y.2.data.toList == [42])) = false) (h2 : (decide (y.1 = 2) && (y.2.data.toList == [47])) = false) : Reads1 num L 2 r k ns := by
 unfold Reads1 at h ⊢
 rw [expr_product, h]
 exact stop_product (r := ⟨r.pos + k, false, r.all ++ ns⟩) rfl hy h1 h2
theorem sum_of {num : ByteArray → Bool × Nat × Nat} {L : List Tok} {r : Rd} {k : Nat} {ns : List Nd} {y : Int × ByteArray} (h : Reads1 num L 2 r k ns) (hy : TokAt L (r.pos + k) y) (h1 : (decide (y.1 = 2) && (y.2.data.toList == [43])) = false) (h2 : (decide (y.1 = 2) && (y.2.data.toList == [45])) = false) : Reads1 num L 0 r k ns := by
 unfold Reads1 at h ⊢
 rw [expr_sum, h]
 exact stop_sum (r := ⟨r.pos + k, false, r.all ++ ns⟩) rfl hy h1 h2
theorem atom_of {num : ByteArray → Bool × Nat × Nat} {L : List Tok} {r : Rd} {k : Nat} {ns : List Nd} (hb : r.bad = false) (hl : TokAt L r.pos (2, ⟨#[40]⟩)) (h : Reads1 num L 0 r.skip k ns) (hy : TokAt L (r.pos + 1 + k) (2, ⟨#[41]⟩)) : Reads1 num L 6 r (k + 2) ns := by
 unfold Reads1 at h ⊢
 rw [expr_atom, if_pos (by rw [Rd.is_tokAt hl hb]; rfl), h]
 dsimp only
 unfold Rd.want
 rw [if_pos (by rw [Rd.is_tokAt (r := ⟨r.skip.pos + k, false, r.skip.all ++ ns⟩) hy rfl]; rfl)]
 show (_, (⟨r.pos + 1 + k + 1, false, r.all ++ ns⟩ : Rd)) = _
 rw [show r.pos + 1 + k + 1 = r.pos + (k + 2) by omega]; rfl
theorem exact_first {pr : Bool × Nat × Nat → ByteArray} {ex : Nat → ByteArray} {l : List Nd} {f i : Nat} {n : Nd} (h : l[i]? = some n) : ∃ x ts, exactF pr ex l (f + 1) i = x :: ts ∧ (decide (x.1 = 2) && (x.2.data.toList == [45])) = false := by
 unfold exactF
 rw [h]
 dsimp only
 split
 ·exact ⟨_, _, rfl, rfl⟩
 ·split
  ·exact ⟨_, _, rfl, rfl⟩
  ·split
   ·exact ⟨_, _, rfl, rfl⟩
   ·split
    ·exact ⟨_, _, rfl, rfl⟩
    ·exact ⟨_, _, rfl, rfl⟩
theorem neg_of {num : ByteArray → Bool × Nat × Nat} {L : List Tok} {r : Rd} {k : Nat} {ns : List Nd} (hb : r.bad = false) (hl : TokAt L r.pos (2, ⟨#[45]⟩)) (h : Reads1 num L 4 r.skip k ns) : Reads1 num L 4 r (k + 1) (ns ++ [⟨6, (r.all.length : Int) + ns.length - 1, 0, 0, noText, (false, 0, 0)⟩]) := by
 unfold Reads1 at h ⊢
 rw [expr_factor, if_pos (by rw [Rd.is_tokAt hl hb]; rfl), h]
 unfold Rd.node
 refine Prod.ext ?_ ?_
 ·show (((r.all ++ ns).length : Nat) : Int) = _
  rw [List.length_append, List.length_append, List.length_singleton]; omega
 ·show (⟨r.pos + 1 + k, false, (r.all ++ ns) ++ [_]⟩ : Rd) = _
  rw [List.append_assoc, show r.pos + 1 + k = r.pos + (k + 1) by omega]; rfl
theorem pow_of {num : ByteArray → Bool × Nat × Nat} {L : List Tok} {r : Rd} {k : Nat} {ns : List Nd} {x : Int × ByteArray} {E : Int} {t : ByteArray} (h : Reads1 num L 6 r k ns) (hb : r.bad = false) (hx : TokAt L r.pos x) (hx2 : (decide (x.1 = 2) && (x.2.data.toList == [45])) = false) (hc : TokAt L (r.pos + k) (2, ⟨#[94]⟩))
  (hE : E < 0 ∧ TokAt L (r.pos + k + 1) (2, ⟨#[45]⟩) ∧ TokAt L (r.pos + k + 2) (1, t) ∨ 0 ≤ E ∧ TokAt L (r.pos + k + 1) (1, t)) (ht : expI t = E.natAbs) :
  Reads1 num L 4 r (k + (if E < 0 then 3 else 2)) (ns ++ [⟨7, (r.all.length : Int) + ns.length - 1, 0, E, noText, (false, 0, 0)⟩]) := by
 unfold Reads1 at h ⊢
 rw [expr_factor, if_neg (by rw [Rd.is_tokAt hx hb, hx2]; simp), expr_power, h]
 unfold Rd.powT
 dsimp only
 rw [if_pos (by rw [Rd.is_tokAt (r := ⟨r.pos + k, false, r.all ++ ns⟩) hc rfl]; rfl)]
 have fin : ∀ p : Nat, (((⟨p, false, r.all ++ ns⟩ : Rd).skip.node ⟨7, (r.all.length : Int) + ns.length - 1, 0, E, noText, (false, 0, 0)⟩)) = ((r.all.length : Int) + (ns ++ [(⟨7, (r.all.length : Int) + ns.length - 1, 0, E, noText, (false, 0, 0)⟩ : Nd)]).length - 1, ⟨p + 1, false, r.all ++ (ns ++ [⟨7, (r.all.length : Int) + ns.length - 1, 0, E, noText, (false, 0, 0)⟩])⟩) := by
  intro p
  refine Prod.ext ?_ ?_
  ·show (((r.all ++ ns).length : Nat) : Int) = _
   rw [List.length_append, List.length_append, List.length_singleton]; omega
  ·show (⟨p + 1, false, (r.all ++ ns) ++ [_]⟩ : Rd) = _
   rw [List.append_assoc]
 rcases hE with ⟨e0, h1, h2⟩ | ⟨e0, h1⟩
 ·obtain ⟨u, q1, q2, q3⟩ := h2.tok
  rw [if_pos (by rw [Rd.is_tokAt (r := (⟨r.pos + k, false, r.all ++ ns⟩ : Rd).skip) h1 rfl]; rfl)]
  unfold Rd.powE
  rw [if_neg (by simp [Rd.skip])]
  show (match L[r.pos + k + 1 + 1]? with | none => _ | some t => _) = _
  rw [show r.pos + k + 1 + 1 = r.pos + k + 2 by omega, q1]
  dsimp only
  rw [q2, q3, if_neg (by simp), ht, if_neg (by omega), show (-1 : Int) * (E.natAbs : Int) = E by omega, if_pos e0]
  have := fin (r.pos + k + 2)
  rw [show r.pos + k + 2 + 1 = r.pos + (k + 3) by omega] at this
  exact this
 ·obtain ⟨u, q1, q2, q3⟩ := h1.tok
  rw [if_neg (by rw [Rd.is_tokAt (r := (⟨r.pos + k, false, r.all ++ ns⟩ : Rd).skip) h1 rfl]; simp)]
  unfold Rd.powE
  rw [if_neg (by simp [Rd.skip])]
  show (match L[r.pos + k + 1]? with | none => _ | some t => _) = _
  rw [q1]
  dsimp only
  rw [q2, q3, if_neg (by simp), ht, if_neg (by omega), show (1 : Int) * (E.natAbs : Int) = E by omega, if_neg (by omega)]
  have := fin (r.pos + k + 1)
  rw [show r.pos + k + 1 + 1 = r.pos + (k + 2) by omega] at this
  exact this
theorem sum2_of {num : ByteArray → Bool × Nat × Nat} {L : List Tok} {r : Rd} {k1 k2 : Nat} {ns1 ns2 : List Nd} {K : Int} (hK : K = 2 ∨ K = 3) (h1 : Reads1 num L 2 r k1 ns1) (ho : TokAt L (r.pos + k1) (2, opB K)) (h2 : Reads1 num L 2 ⟨r.pos + k1 + 1, false, r.all ++ ns1⟩ k2 ns2) (hy : TokAt L (r.pos + k1 + 1 + k2) (2, ⟨#[41]⟩)) :
  Reads1 num L 0 r (k1 + 1 + k2) (ns1 ++ ns2 ++ [⟨K, (r.all.length : Int) + ns1.length - 1, (r.all.length : Int) + ns1.length + ns2.length - 1, 0, noText, (false, 0, 0)⟩]) := by
 unfold Reads1 at h1 h2 ⊢
 have i1 := Rd.is_tokAt (r := ⟨r.pos + k1, false, r.all ++ ns1⟩) ho rfl 2 [43]
 have i2 := Rd.is_tokAt (r := ⟨r.pos + k1, false, r.all ++ ns1⟩) ho rfl 2 [45]
 have hk : (if Rd.is L ⟨r.pos + k1, false, r.all ++ ns1⟩ 2 [45] = true then (3 : Int) else 2) = K := by
  rw [i2]
  rcases hK with rfl | rfl
  ·rfl
  ·rfl
 rw [expr_sum, h1, expr_more_sum, if_pos (by rw [i1, i2]; rcases hK with rfl | rfl <;> rfl), hk]
 show exprI num L 1 ((exprI num L 2 0 ⟨r.pos + k1 + 1, false, r.all ++ ns1⟩).2.node ⟨K, _, (exprI num L 2 0 ⟨r.pos + k1 + 1, false, r.all ++ ns1⟩).1, 0, noText, (false, 0, 0)⟩).1 ((exprI num L 2 0 ⟨r.pos + k1 + 1, false, r.all ++ ns1⟩).2.node ⟨K, _, (exprI num L 2 0 ⟨r.pos + k1 + 1, false, r.all ++ ns1⟩).1, 0, noText, (false, 0, 0)⟩).2 = _
 rw [h2]
 unfold Rd.node
 dsimp only
 rw [stop_sum (r := ⟨r.pos + k1 + 1 + k2, false, r.all ++ ns1 ++ ns2 ++ [_]⟩) rfl hy rfl rfl]
 have e1 : ((r.all ++ ns1).length : Int) + ns2.length - 1 = (r.all.length : Int) + ns1.length + ns2.length - 1 := by rw [List.length_append]; omega
 rw [e1]
 refine Prod.ext ?_ ?_
 ·show (((r.all ++ ns1 ++ ns2).length : Nat) : Int) = _
  simp only [List.length_append, List.length_singleton]; omega
 ·show (⟨r.pos + k1 + 1 + k2, false, _⟩ : Rd) = ⟨r.pos + (k1 + 1 + k2), false, _⟩
  rw [show r.pos + k1 + 1 + k2 = r.pos + (k1 + 1 + k2) by omega]
  simp only [List.append_assoc]
theorem prod2_of {num : ByteArray → Bool × Nat × Nat} {L : List Tok} {r : Rd} {k1 k2 : Nat} {ns1 ns2 : List Nd} {K : Int} (hK : K = 4 ∨ K = 5) (h1 : Reads1 num L 4 r k1 ns1) (ho : TokAt L (r.pos + k1) (2, opB K)) (h2 : Reads1 num L 4 ⟨r.pos + k1 + 1, false, r.all ++ ns1⟩ k2 ns2) (hy : TokAt L (r.pos + k1 + 1 + k2) (2, ⟨#[41]⟩)) :
  Reads1 num L 2 r (k1 + 1 + k2) (ns1 ++ ns2 ++ [⟨K, (r.all.length : Int) + ns1.length - 1, (r.all.length : Int) + ns1.length + ns2.length - 1, 0, noText, (false, 0, 0)⟩]) := by
 unfold Reads1 at h1 h2 ⊢
 have i1 := Rd.is_tokAt (r := ⟨r.pos + k1, false, r.all ++ ns1⟩) ho rfl 2 [42]
 have i2 := Rd.is_tokAt (r := ⟨r.pos + k1, false, r.all ++ ns1⟩) ho rfl 2 [47]
 have hk : (if Rd.is L ⟨r.pos + k1, false, r.all ++ ns1⟩ 2 [47] = true then (5 : Int) else 4) = K := by
  rw [i2]
  rcases hK with rfl | rfl
  ·rfl
  ·rfl
 rw [expr_product, h1, expr_more_product, if_pos (by rw [i1, i2]; rcases hK with rfl | rfl <;> rfl), hk]
 show exprI num L 3 ((exprI num L 4 0 ⟨r.pos + k1 + 1, false, r.all ++ ns1⟩).2.node ⟨K, _, (exprI num L 4 0 ⟨r.pos + k1 + 1, false, r.all ++ ns1⟩).1, 0, noText, (false, 0, 0)⟩).1 ((exprI num L 4 0 ⟨r.pos + k1 + 1, false, r.all ++ ns1⟩).2.node ⟨K, _, (exprI num L 4 0 ⟨r.pos + k1 + 1, false, r.all ++ ns1⟩).1, 0, noText, (false, 0, 0)⟩).2 = _
 rw [h2]
 unfold Rd.node
 dsimp only
 rw [stop_product (r := ⟨r.pos + k1 + 1 + k2, false, r.all ++ ns1 ++ ns2 ++ [_]⟩) rfl hy rfl rfl]
 have e1 : ((r.all ++ ns1).length : Int) + ns2.length - 1 = (r.all.length : Int) + ns1.length + ns2.length - 1 := by rw [List.length_append]; omega
 rw [e1]
 refine Prod.ext ?_ ?_
 ·show (((r.all ++ ns1 ++ ns2).length : Nat) : Int) = _
  simp only [List.length_append, List.length_singleton]; omega
 ·show (⟨r.pos + k1 + 1 + k2, false, _⟩ : Rd) = ⟨r.pos + (k1 + 1 + k2), false, _⟩
  rw [show r.pos + k1 + 1 + k2 = r.pos + (k1 + 1 + k2) by omega]
  simp only [List.append_assoc]
end
section
open Go.Lib
theorem shN_leaf {d : Int} {n : Nd} (h : n.kind = 0 ∨ n.kind = 1) : shN d n = n := by unfold shN; rw [if_pos (by omega)]
theorem FieldsP.ref {num : ByteArray → Bool × Nat × Nat} {pr : Bool × Nat × Nat → ByteArray} {ex : Nat → ByteArray} {n : Nd} (h : FieldsP num pr ex n) (hk : n.kind = 0) : nameB n.name = true ∧ n = ⟨0, 0, 0, 0, n.name, (false, 0, 0)⟩ := by
 rcases h with ⟨-, h⟩ | ⟨q, -⟩ | ⟨q, -⟩ | ⟨q, -⟩ | ⟨q, -⟩
 ·exact h
 all_goals omega
theorem FieldsP.const {num : ByteArray → Bool × Nat × Nat} {pr : Bool × Nat × Nat → ByteArray} {ex : Nat → ByteArray} {n : Nd} (h : FieldsP num pr ex n) (hk : n.kind = 1) : num (pr n.num) = n.num ∧ n = ⟨1, 0, 0, 0, noText, n.num⟩ := by
 rcases h with ⟨q, -⟩ | ⟨-, h⟩ | ⟨q, -⟩ | ⟨q, -⟩ | ⟨q, -⟩
 ·omega
 ·exact h
 all_goals omega
theorem FieldsP.two {num : ByteArray → Bool × Nat × Nat} {pr : Bool × Nat × Nat → ByteArray} {ex : Nat → ByteArray} {n : Nd} (h : FieldsP num pr ex n) (h2 : 2 ≤ n.kind) (h5 : n.kind ≤ 5) : n = ⟨n.kind, n.a, n.b, 0, noText, (false, 0, 0)⟩ := by
 rcases h with ⟨q, -⟩ | ⟨q, -⟩ | ⟨-, -, h⟩ | ⟨q, -⟩ | ⟨q, -⟩
 ·omega
 ·omega
 ·exact h
 all_goals omega
theorem FieldsP.neg {num : ByteArray → Bool × Nat × Nat} {pr : Bool × Nat × Nat → ByteArray} {ex : Nat → ByteArray} {n : Nd} (h : FieldsP num pr ex n) (hk : n.kind = 6) : n = ⟨6, n.a, 0, 0, noText, (false, 0, 0)⟩ := by
 rcases h with ⟨q, -⟩ | ⟨q, -⟩ | ⟨q, q', -⟩ | ⟨-, h⟩ | ⟨q, -⟩
 ·omega
 ·omega
 ·omega
 ·exact h
 ·omega
theorem FieldsP.pow {num : ByteArray → Bool × Nat × Nat} {pr : Bool × Nat × Nat → ByteArray} {ex : Nat → ByteArray} {n : Nd} (h : FieldsP num pr ex n) (hk : n.kind = 7) : expI (ex n.exp.natAbs) = n.exp.natAbs ∧ n = ⟨7, n.a, 0, n.exp, noText, (false, 0, 0)⟩ := by
 rcases h with ⟨q, -⟩ | ⟨q, -⟩ | ⟨q, q', -⟩ | ⟨q, -⟩ | ⟨-, h⟩
 ·omega
 ·omega
 ·omega
 ·omega
 ·exact h
theorem exact_read {num : ByteArray → Bool × Nat × Nat} {pr : Bool × Nat × Nat → ByteArray} {ex : Nat → ByteArray} {l : List Nd} (HF : ∀ n ∈ l, FieldsP num pr ex n) {b i : Nat} (h : Seg l b i) : ∀ f, i + 1 ≤ f → ∀ (L : List Tok) (r : Rd), r.bad = false → Pre L r.pos (exactF pr ex l f i) →
  Reads1 num L 6 r (exactF pr ex l f i).length ((slN l b i).map (shN ((r.all.length : Int) - b))) := by
 refine (h (fun b i => Seg l b i ∧ ∀ f, i + 1 ≤ f → ∀ (L : List Tok) (r : Rd), r.bad = false → Pre L r.pos (exactF pr ex l f i) → Reads1 num L 6 r (exactF pr ex l f i).length ((slN l b i).map (shN ((r.all.length : Int) - b)))) ?_ ?_ ?_).2
 ·intro i n hn hk
  refine ⟨Seg.leaf hn hk, fun f hf L r hb hp => ?_⟩
  cases f with
  | zero => omega
  | succ f =>
   have hfp := HF n (List.mem_of_getElem? hn)
   unfold exactF at hp ⊢
   rw [hn] at hp ⊢
   dsimp only at hp ⊢
   rw [slN_one hn, List.map_singleton, shN_leaf hk]
   unfold Reads1
   rcases hk with hk | hk
   ·rw [if_pos hk] at hp ⊢
    obtain ⟨ht, -⟩ := hp.head
    obtain ⟨u, e1, e2, e3⟩ := ht.tok
    obtain ⟨q2, q3⟩ := hfp.ref hk
    ·rw [expr_atom, if_neg (by rw [Rd.is_tokAt ht hb]; simp)]
     have hnm : r.nameT L = (n.name, r.skip) := by
      unfold Rd.nameT
      rw [if_neg (by rw [hb]; simp), e1]
      dsimp only
      rw [e2, e3, if_pos ⟨rfl, q2⟩]
     unfold Rd.leaf
     rw [if_neg (by rw [hb]; simp), e1]
     dsimp only
     rw [e2, if_neg (by simp), hnm]
     refine Prod.ext ?_ ?_
     ·show ((r.all.length : Nat) : Int) = _; rw [List.length_singleton]; omega
     ·show (⟨r.pos + 1, r.bad, r.all ++ [(⟨0, 0, 0, 0, n.name, (false, 0, 0)⟩ : Nd)]⟩ : Rd) = _
      rw [← q3, hb]; rfl
   ·rw [if_neg (by omega), if_pos hk] at hp ⊢
    obtain ⟨ht, -⟩ := hp.head
    obtain ⟨u, e1, e2, e3⟩ := ht.tok
    obtain ⟨q2, q3⟩ := hfp.const hk
    ·rw [expr_atom, if_neg (by rw [Rd.is_tokAt ht hb]; simp)]
     unfold Rd.leaf
     rw [if_neg (by rw [hb]; simp), e1]
     dsimp only
     rw [e2, if_pos rfl, e3, q2]
     refine Prod.ext ?_ ?_
     ·show ((r.all.length : Nat) : Int) = _; rw [List.length_singleton]; omega
     ·show (⟨r.pos + 1, r.bad, r.all ++ [(⟨1, 0, 0, 0, noText, n.num⟩ : Nd)]⟩ : Rd) = _
      rw [← q3, hb]; rfl
 ·intro b i n ⟨hs, ih⟩ hn hk ha
  refine ⟨hs.one hn hk ha, fun f hf L r hb hp => ?_⟩
  have hle := hs.le
  have hlt : i + 1 < l.length := (List.getElem?_eq_some_iff.1 hn).1
  cases f with
  | zero => omega
  | succ f =>
   have hfp := HF n (List.mem_of_getElem? hn)
   obtain ⟨n0, hn0⟩ : ∃ n0, l[i]? = some n0 := ⟨_, List.getElem?_eq_getElem hle.2⟩
   have hlen := slN_length (l := l) (b := b) hle.2
   have hsl : slN l b (i + 1) = slN l b i ++ [n] := by rw [slN_app (j := i) (by omega) (by omega), slN_one hn]
   unfold exactF at hp ⊢
   rw [hn] at hp ⊢
   dsimp only at hp ⊢
   rw [hsl, List.map_append, List.map_singleton]
   have hN : n.a.toNat = i := by rw [ha]; exact Int.toNat_natCast i
   rw [hN] at hp ⊢
   obtain ⟨f', rfl⟩ : ∃ f', f = f' + 1 := ⟨f - 1, by omega⟩
   obtain ⟨fx, fts, hfx, hfx2⟩ := exact_first (pr := pr) (ex := ex) (f := f') hn0
   rcases hk with hk | hk
   ·have hsh : shN ((r.all.length : Int) - b) n = ⟨6, (r.all.length : Int) + ((slN l b i).map (shN ((r.all.length : Int) - b))).length - 1, 0, 0, noText, (false, 0, 0)⟩ := by
     have q := hfp.neg hk
     rw [q]
     unfold shN
     rw [if_neg (by simp), if_neg (by simp), List.length_map, hlen, ha]
     congr 1
     omega
    rw [hsh]
    rw [if_neg (by omega), if_neg (by omega), if_pos hk] at hp ⊢
    obtain ⟨h1, hp1⟩ := hp.head
    obtain ⟨h2, hp2⟩ := hp1.head
    obtain ⟨hp3, hp4⟩ := hp2.app
    obtain ⟨h5, -⟩ := hp4.head
    have R := ih (f' + 1) (by omega) L r.skip.skip hb hp3
    rw [hfx] at hp3
    obtain ⟨h6, -⟩ := hp3.head
    have R4 := fac_of (r := r.skip.skip) R hb h6 hfx2 h5 rfl
    have R5 := neg_of (r := r.skip) hb h2 R4
    have h5' : TokAt L (r.skip.pos + ((exactF pr ex l (f' + 1) i).length + 1)) (2, ⟨#[41]⟩) := by
     show TokAt L (r.pos + 1 + ((exactF pr ex l (f' + 1) i).length + 1)) (2, ⟨#[41]⟩)
     rw [show r.pos + 1 + ((exactF pr ex l (f' + 1) i).length + 1) = r.pos + 1 + 1 + (exactF pr ex l (f' + 1) i).length by omega]; exact h5
    have R6 := atom_of hb h1 (sum_of (prod_of R5 h5' rfl rfl) h5' rfl rfl) h5'
    have el : ((2, ⟨#[40]⟩) :: (2, ⟨#[45]⟩) :: (exactF pr ex l (f' + 1) i ++ [((2 : Int), (⟨#[41]⟩ : ByteArray))])).length = (exactF pr ex l (f' + 1) i).length + 1 + 2 := by simp
    rw [el]
    exact R6
   ·obtain ⟨qe, q⟩ := hfp.pow hk
    have hsh : shN ((r.all.length : Int) - b) n = ⟨7, (r.all.length : Int) + ((slN l b i).map (shN ((r.all.length : Int) - b))).length - 1, 0, n.exp, noText, (false, 0, 0)⟩ := by
     conv => lhs; rw [q]
     unfold shN
     rw [if_neg (by simp), if_neg (by simp), List.length_map, hlen, ha]
     congr 1
     omega
    rw [hsh]
    rw [if_neg (by omega), if_neg (by omega), if_neg (by omega), if_pos hk] at hp ⊢
    obtain ⟨h1, hp1⟩ := hp.head
    obtain ⟨hp3, hp4⟩ := hp1.app
    obtain ⟨h5, hp5⟩ := hp4.head
    have R := ih (f' + 1) (by omega) L r.skip hb hp3
    rw [hfx] at hp3
    obtain ⟨h6, -⟩ := hp3.head
    have hp6 := hp5.app
    have key : n.exp < 0 ∧ TokAt L (r.skip.pos + (exactF pr ex l (f' + 1) i).length + 1) (2, ⟨#[45]⟩) ∧ TokAt L (r.skip.pos + (exactF pr ex l (f' + 1) i).length + 2) (1, ex n.exp.natAbs) ∨ 0 ≤ n.exp ∧ TokAt L (r.skip.pos + (exactF pr ex l (f' + 1) i).length + 1) (1, ex n.exp.natAbs) := by
     by_cases e0 : n.exp < 0
     ·rw [if_pos e0] at hp6
      exact .inl ⟨e0, hp6.1.head.1, hp6.2.head.1⟩
     ·rw [if_neg e0] at hp6
      exact .inr ⟨by omega, hp6.2.head.1⟩
    have R5 := pow_of (r := r.skip) R hb h6 hfx2 h5 key qe
    have h7 : TokAt L (r.skip.pos + ((exactF pr ex l (f' + 1) i).length + (if n.exp < 0 then 3 else 2))) (2, ⟨#[41]⟩) := by
     by_cases e0 : n.exp < 0
     ·rw [if_pos e0] at hp6 ⊢
      exact hp6.2.head.2.head.1
     ·rw [if_neg e0] at hp6 ⊢
      exact hp6.2.head.2.head.1
    have R6 := atom_of hb h1 (sum_of (prod_of R5 h7 rfl rfl) h7 rfl rfl) h7
    have el : ((2, ⟨#[40]⟩) :: (exactF pr ex l (f' + 1) i ++ ((2, ⟨#[94]⟩) :: ((if n.exp < 0 then [((2 : Int), (⟨#[45]⟩ : ByteArray))] else []) ++ [((1 : Int), ex n.exp.natAbs), ((2 : Int), (⟨#[41]⟩ : ByteArray))])))).length = (exactF pr ex l (f' + 1) i).length + (if n.exp < 0 then 3 else 2) + 2 := by
     by_cases e0 : n.exp < 0
     ·rw [if_pos e0, if_pos e0]; simp
     ·rw [if_neg e0, if_neg e0]; simp
    rw [el]
    exact R6
 ·intro b j i n ⟨hs, ih⟩ ⟨ht, ih2⟩ hn h2 h5 ha hb'
  refine ⟨hs.two ht hn h2 h5 ha hb', fun f hf L r hb hp => ?_⟩
  have hle := hs.le
  have hle2 := ht.le
  cases f with
  | zero => omega
  | succ f =>
   have hfp := HF n (List.mem_of_getElem? hn)
   obtain ⟨n0, hn0⟩ : ∃ n0, l[j]? = some n0 := ⟨_, List.getElem?_eq_getElem hle.2⟩
   obtain ⟨n1, hn1⟩ : ∃ n1, l[i]? = some n1 := ⟨_, List.getElem?_eq_getElem hle2.2⟩
   have hlen := slN_length (l := l) (b := b) hle.2
   have hlen2 := slN_length (l := l) (b := j + 1) hle2.2
   have hsl : slN l b (i + 1) = slN l b j ++ slN l (j + 1) i ++ [n] := by rw [slN_app (j := i) (by omega) (by omega), slN_one hn, slN_app (j := j) (by omega) (by omega)]
   unfold exactF at hp ⊢
   rw [hn] at hp ⊢
   dsimp only at hp ⊢
   rw [hsl, List.map_append, List.map_append, List.map_singleton]
   have hN : n.a.toNat = j := by rw [ha]; exact Int.toNat_natCast j
   have hM : n.b.toNat = i := by rw [hb']; exact Int.toNat_natCast i
   rw [hN, hM] at hp ⊢
   obtain ⟨f', rfl⟩ : ∃ f', f = f' + 1 := ⟨f - 1, by omega⟩
   obtain ⟨fx, fts, hfx, hfx2⟩ := exact_first (pr := pr) (ex := ex) (f := f') hn0
   obtain ⟨fy, fus, hfy, hfy2⟩ := exact_first (pr := pr) (ex := ex) (f := f') hn1
   have q := hfp.two h2 h5
   have hsh : shN ((r.all.length : Int) - b) n = ⟨n.kind, (r.all.length : Int) + ((slN l b j).map (shN ((r.all.length : Int) - b))).length - 1, (r.all.length : Int) + ((slN l b j).map (shN ((r.all.length : Int) - b))).length + ((slN l (j + 1) i).map (shN ((r.all.length : Int) - b))).length - 1, 0, noText, (false, 0, 0)⟩ := by
    conv => lhs; rw [q]
    unfold shN
    dsimp only
    rw [if_neg (by omega), if_pos h5, List.length_map, List.length_map, hlen, hlen2, ha, hb']
    congr 1
    ·omega
    ·omega
   rw [hsh]
   rw [if_neg (by omega), if_neg (by omega), if_neg (by omega), if_neg (by omega)] at hp ⊢
   obtain ⟨t1, hp1⟩ := hp.head
   obtain ⟨hp2, hp3⟩ := hp1.app
   obtain ⟨t2, hp4⟩ := hp3.head
   obtain ⟨hp5, hp6⟩ := hp4.app
   obtain ⟨t3, -⟩ := hp6.head
   have R1 := ih (f' + 1) (by omega) L r.skip hb hp2
   have R2 := ih2 (f' + 1) (by omega) L ⟨r.skip.pos + (exactF pr ex l (f' + 1) j).length + 1, false, r.skip.all ++ (slN l b j).map (shN ((r.skip.all.length : Int) - b))⟩ rfl hp5
   have ed : (((r.skip.all ++ (slN l b j).map (shN ((r.skip.all.length : Int) - b))).length : Nat) : Int) - ((j + 1 : Nat) : Int) = (r.all.length : Int) - b := by
    rw [List.length_append, List.length_map, hlen]
    show ((r.all.length + (j + 1 - b) : Nat) : Int) - _ = _
    omega
   rw [ed] at R2
   rw [hfx] at hp2
   rw [hfy] at hp5
   have F2 := fac_of (r := ⟨r.skip.pos + (exactF pr ex l (f' + 1) j).length + 1, false, r.skip.all ++ (slN l b j).map (shN ((r.skip.all.length : Int) - b))⟩) R2 rfl hp5.head.1 hfy2 t3 rfl
   have el : ((2, ⟨#[40]⟩) :: (exactF pr ex l (f' + 1) j ++ ((2, opB n.kind) :: (exactF pr ex l (f' + 1) i ++ [((2 : Int), (⟨#[41]⟩ : ByteArray))])))).length = (exactF pr ex l (f' + 1) j).length + 1 + (exactF pr ex l (f' + 1) i).length + 2 := by
    simp only [List.length_cons, List.length_append, List.length_nil]; omega
   rw [el]
   have t3' : TokAt L (r.skip.pos + ((exactF pr ex l (f' + 1) j).length + 1 + (exactF pr ex l (f' + 1) i).length)) (2, ⟨#[41]⟩) := by
    rw [← Nat.add_assoc, ← Nat.add_assoc]; exact t3
   rcases (by omega : (n.kind = 2 ∨ n.kind = 3) ∨ (n.kind = 4 ∨ n.kind = 5)) with hK | hK
   ·have F1 := fac_of (r := r.skip) R1 hb hp2.head.1 hfx2 t2 (by rcases hK with e | e <;> rw [e] <;> rfl)
    have P1 := prod_of F1 t2 (by rcases hK with e | e <;> rw [e] <;> rfl) (by rcases hK with e | e <;> rw [e] <;> rfl)
    have P2 := prod_of F2 t3 rfl rfl
    exact atom_of hb t1 (sum2_of hK P1 t2 P2 t3) t3'
   ·have F1 := fac_of (r := r.skip) R1 hb hp2.head.1 hfx2 t2 (by rcases hK with e | e <;> rw [e] <;> rfl)
    exact atom_of hb t1 (sum_of (prod2_of hK F1 t2 F2 t3) t3' rfl rfl) t3'
end
end Go.Proofs.YtaeladkcmpdkhaaGreatDoor
