/-
  Texts of mine in build order. No conditions of their own.
-/
import Derived.Test.YtaeladkcmpdkhaaGreatDoorPack17
set_option maxHeartbeats 20000000
namespace Go.Proofs.YtaeladkcmpdkhaaGreatDoor
section
open Go.RowKit Go.Lib
def RdL (W w : World) (t : ByteArray) (L C : Int) (l : List Tok) : Prop :=
 ∃ a c, BoxC w W.heap.size #[.int .i64 0, .int .i64 0] 34 ∧ BoxC w (W.heap.size + 1) #[.string t, .int .i64 L, .int .i64 C, .slice a l.length c] 103 ∧ OwnT W w (.slice a l.length c) l.length l
theorem RdL.more {W w w' : World} {t : ByteArray} {L C : Int} {l : List Tok} (h : RdL W w t L C l) (hb : Below w.heap.size w w') : RdL W w' t L C l := by
 obtain ⟨a, c, h1, h2, h3⟩ := h
 exact ⟨a, c, h1.more hb, h2.more hb, h3.more hb⟩
theorem RdL.below {W w : World} {t : ByteArray} {L C : Int} {l : List Tok} (h : RdL W w t L C l) : Below W.heap.size W w := by
 obtain ⟨a, c, h1, h2, h3⟩ := h
 exact h3.below
theorem reader_ne_tok : (103 : TypeId) ≠ 110 := by decide
theorem RdL.rest {W w : World} {t : ByteArray} {L C : Int} {l : List Tok} (h : RdL W w t L C l) (u : ByteArray) : RdL W (w.setCell ⟨W.heap.size + 1, 0, none⟩ (.string u)) u L C l := by
 obtain ⟨a, c, h1, h2, h3⟩ := h
 exact ⟨a, c, h1.other (by omega) _, h2.set 0 (.string u), h3.box h2 reader_ne_tok (by omega) _ _⟩
theorem RdL.line {W w : World} {t : ByteArray} {L C : Int} {l : List Tok} (h : RdL W w t L C l) (x : Int) : RdL W (w.setCell ⟨W.heap.size + 1, 1, none⟩ (.int .i64 x)) t x C l := by
 obtain ⟨a, c, h1, h2, h3⟩ := h
 exact ⟨a, c, h1.other (by omega) _, h2.set 1 (.int .i64 x), h3.box h2 reader_ne_tok (by omega) _ _⟩
theorem RdL.col {W w : World} {t : ByteArray} {L C : Int} {l : List Tok} (h : RdL W w t L C l) (x : Int) : RdL W (w.setCell ⟨W.heap.size + 1, 2, none⟩ (.int .i64 x)) t L x l := by
 obtain ⟨a, c, h1, h2, h3⟩ := h
 exact ⟨a, c, h1.other (by omega) _, h2.set 2 (.int .i64 x), h3.box h2 reader_ne_tok (by omega) _ _⟩
theorem RdL.alloc {W w : World} {t : ByteArray} {L C : Int} {l : List Tok} (h : RdL W w t L C l) (o : Obj) : RdL W (w.alloc o) t L C l := h.more ((Below.refl _ _).alloc (Nat.le_refl _) _)
theorem RdL.drew {W w : World} {t : ByteArray} {L C : Int} {l : List Tok} (h : RdL W w t L C l) : RdL W w.drew t L C l := by
 obtain ⟨a, c, h1, h2, h3⟩ := h
 exact ⟨a, c, h1.drew, h2.drew, h3.more (Below.refl _ _).drew⟩
theorem RdL.cells {W w : World} {t : ByteArray} {L C : Int} {l : List Tok} (h : RdL W w t L C l) :
  w.cell? ⟨W.heap.size + 1, 0, none⟩ = some (.string t) ∧ w.cell? ⟨W.heap.size + 1, 1, none⟩ = some (.int .i64 L) ∧ w.cell? ⟨W.heap.size + 1, 2, none⟩ = some (.int .i64 C) ∧
  w.frozen? ⟨W.heap.size + 1, 0, none⟩ = false ∧ w.frozen? ⟨W.heap.size + 1, 1, none⟩ = false ∧ w.frozen? ⟨W.heap.size + 1, 2, none⟩ = false ∧ w.frozen? ⟨W.heap.size + 1, 3, none⟩ = false ∧ W.heap.size + 1 < w.heap.size := by
 obtain ⟨a, c, h1, h2, h3⟩ := h
 exact ⟨(h2.cell 0).1, (h2.cell 1).1, (h2.cell 2).1, (h2.cell 0).2, (h2.cell 1).2, (h2.cell 2).2, (h2.cell 3).2, h2.lt⟩
theorem lex_pass {W w : World} {t : ByteArray} {L C : Int} {l : List Tok} (h : RdL W w t L C l) (ht : t.size ≤ 1000000) (hL : 1 ≤ L ∧ L ≤ 1000001) (hC : 1 ≤ C ∧ C ≤ 1000001) (n : Nat) {p c : Int} (hr : Reach t n p c) :
  Calls Tryz.prog 94 #[.pointer (some ⟨W.heap.size + 1, 0, none⟩), .int .i64 n] w fun e w' => e = .returned (.tuple #[]) ∧ RdL W w' (t.extract n t.size) (L + (p - 1)) (if p = 1 then C + (c - 1) else c) l := by
 obtain ⟨hn, p0, p1, c0, c1⟩ := hr.range
 have PL := fun v => sign_place (t.extract 0 n) n v (by rw [ByteArray.size_extract]; omega) (by omega) (by omega)
 rw [reach_alone hr] at PL
 unfold AnsL at PL
 obtain ⟨x0, x1, x2, y0, y1, y2, -, hk⟩ := h.cells
 have k1 : (n : Int) ≤ t.size := by omega
 have HR : Hid (RdL W w t L C l) := h
 clear hr h
 by_cases h1 : p = 1
 ·subst h1
  rw [if_pos rfl, show L + ((1 : Int) - 1) = L by omega]
  have w1 : IntKind.i64.wrap (c - 1) = c - 1 := by rw [IntKind.wrap_i64]; omega
  have w2 : IntKind.i64.wrap (C + (c - 1)) = C + (c - 1) := by rw [IntKind.wrap_i64]; omega
  clear hn p0 p1 c0 c1 hL hC ht
  go_enter Tryz.func94, Tryz.ntmps94
  go_wp2_with (first
   | (go_at_call 70; (with_reducible refine Calls.mono (PL _) ?_); rintro e v1 ⟨rfl, d1⟩; have N := boxes1 v1 #[.int .i64 1, .int .i64 c] 34; obtain ⟨n0, n1, n2, n3⟩ := N.1.cells2; have hq : W.heap.size + 1 < v1.heap.size := Nat.lt_of_lt_of_le hk d1.size; obtain ⟨x0, x1, x2, y0, y1, y2, -, -⟩ := (HR.out.more d1).cells))
  go_region
  all_goals go_wp2
  go_end0
  exact ⟨rfl, ((((HR.out.more d1).col _).rest _).alloc _).drew⟩
 ·have e1 : ((p : Int) == 1) = false := by rw [beq_eq_false_iff_ne]; exact h1
  rw [if_neg h1, show L + (p - 1) = L + p - 1 by omega]
  have w1 : IntKind.i64.wrap (L + p) = L + p := by rw [IntKind.wrap_i64]; omega
  have w2 : IntKind.i64.wrap (L + p - 1) = L + p - 1 := by rw [IntKind.wrap_i64]; omega
  clear hn p0 p1 c0 c1 hL hC ht h1
  go_enter Tryz.func94, Tryz.ntmps94
  go_wp2_with (first
   | (go_at_call 70; (with_reducible refine Calls.mono (PL _) ?_); rintro e v1 ⟨rfl, d1⟩; have N := boxes1 v1 #[.int .i64 p, .int .i64 c] 34; obtain ⟨n0, n1, n2, n3⟩ := N.1.cells2; have hq : W.heap.size + 1 < v1.heap.size := Nat.lt_of_lt_of_le hk d1.size; obtain ⟨x0, x1, x2, y0, y1, y2, -, -⟩ := (HR.out.more d1).cells))
  go_region
  all_goals go_wp2
  go_end0
  exact ⟨rfl, (((((HR.out.more d1).line _).col _).rest _).alloc _).drew⟩
end
section
open Go.RowKit Go.Lib
theorem Shifted.span {K : List Int} {u t : ByteArray} {k : Nat} (h : Shifted u t k) : ∀ m i, t.size - i ≤ m → spanE K u (k + i) = k + spanE K t i := by
 have hz := h.size
 intro m
 induction m with
 | zero =>
  intro i hm
  rw [spanE_here (fun e => by omega), spanE_here (fun e => by omega)]
 | succ m ih =>
  intro i hm
  by_cases h2 : i < t.size ∧ kindAt t i ∈ K
  ·have hs := stepAt_size h2.1
   rw [spanE_step h2.1 h2.2, spanE_step (s := u) (i := k + i) (by omega) (by rw [(h.kind i).1]; exact h2.2), (h.kind i).2, Nat.add_assoc]
   exact ih _ (by omega)
  ·rw [spanE_here h2, spanE_here (fun e => h2 ⟨by omega, by rw [← (h.kind i).1]; exact e.2⟩)]
theorem lex_skip {W w : World} {s : ByteArray} {i : Nat} {L C : Int} {l : List Tok} (h : RdL W w (s.extract i s.size) L C l) (hs : s.size ≤ 1000000) (hr : Reach s i L C) :
  Calls Tryz.prog 65 #[.pointer (some ⟨W.heap.size + 1, 0, none⟩)] w fun e w' => e = .returned (.tuple #[]) ∧ ∃ L' C', RdL W w' (s.extract (spanE [3] s i) s.size) L' C' l ∧ Reach s (spanE [3] s i) L' C' := by
 have hg := hr.range
 have hsh := shifted_rest s hg.1
 have hz : (s.extract i s.size).size = s.size - i := by rw [ByteArray.size_extract]; omega
 obtain ⟨p, c, hp⟩ := Reach.span (K := [3]) (by decide) _ 0 1 1 (Nat.le_refl _) (Reach.zero (s.extract i s.size))
 have hon := hr.on hsh hp
 have he := hsh.span (K := [3]) _ 0 (Nat.le_refl _)
 rw [Nat.add_zero] at he
 rw [he, ← extract_more]
 have PS := fun v (q : RdL W v (s.extract i s.size) L C l) => lex_pass q (by omega) (by omega) (by omega) _ hp
 have S1 := lex_span1 (s.extract i s.size) (by omega) _ 3 _ (boxes1 w #[.int .i64 3] 3).1
 have R1 := h.more (boxes1 w #[.int .i64 3] 3).2.1
 obtain ⟨x0, x1, x2, y0, y1, y2, -, hk⟩ := h.cells
 generalize spanE [3] (s.extract i s.size) 0 = n at *
 have HO : Hid (Reach s (i + n) (L + (p - 1)) (if p = 1 then C + (c - 1) else c)) := hon
 generalize s.extract i s.size = t at *
 clear hg hsh hz hp hon he hr hs
 go_enter Tryz.func65, Tryz.ntmps65
 go_wp2_with (first
  | (go_at_call 95; (with_reducible refine Calls.mono S1 ?_); rintro e w1 ⟨rfl, d1⟩)
  | (go_at_call 94; (with_reducible refine Calls.mono (PS _ (R1.more d1)) ?_); rintro e w2 ⟨rfl, r2⟩))
 go_end0
 exact ⟨rfl, _, _, r2, HO.out⟩
theorem stp_append_tok {ops : Array Oper} {o : Oper} {a : Act} {K : Act → World → Prop} {Q : Exit → Act → World → Prop} {E : Prop} (s x : Operand)
  (ho : o.op = .call { callee := .builtin .append, args := #[s, x], argTypes := #[64, 64] }) (hgd : Region.wanted o (yielded ops a.tmps) = true)
  (W w : World) (v : Value) (n : Nat) (l : List Tok) (t : Tok) (g : Nat) (hs : a.eval s = v) (hx : a.eval x = .slice (some ⟨g, 0, none⟩) 1 1) (hown : OwnT W w v n l) (hsrc : BoxC w g (tcA t) 110) (hle : n ≤ 1000000)
  (h : ∀ a' c' w', OwnT W w' (.slice a' (n + 1) c') (n + 1) (l ++ [t]) → w.grownBy w' v.ownBlock → K (a.put o.dst (.slice a' (n + 1) c')) w') : if Region.wanted o (yielded ops a.tmps) = true then Oper.wp Tryz.prog o a w K Q else E := by
 obtain ⟨i, hi, hz, hs1, hby⟩ := info_parts infoTok
 have hmax : n + 1 ≤ maxLen := by unfold maxLen; omega
 rw [if_pos hgd]
 refine wp_append_own (P := Tryz.prog) w s x 64 ho W.heap.size 110 i _ 4 40 Tryz.underlying64 hi hz hs1 hby rfl (by decide) v n _ hs hown.1 ⟨g, 0, none⟩ 1 1 (tcA t).toList hx rfl ?_ ?_ hmax (by omega) hown.2.size ?_
 ·intro j u hj
  rw [Go.WideShapes.add_plain, Nat.zero_add, (hsrc.cell j).1]
  simpa using hj
 ·intro u hu
  simp [tcA] at hu
  rcases hu with rfl | rfl | rfl | rfl <;> rfl
 ·intro v' w' h1 h2 _
  have hnew : OwnT W w' v' (n + 1) (l ++ [t]) := ⟨by rw [tcs_append]; simpa [tcs] using h1, hown.2.grown h2 hown.2.size (fun k hk => (hown.1.lt k hk).1)⟩
  obtain ⟨a', c', rfl⟩ := hnew.lit
  exact h a' c' w' hnew h2
end
section
open Go.RowKit Go.Lib
theorem rd_new {W w : World} {t : ByteArray} {L C : Int} {l : List Tok} {x : Tok} {v0 : Value} {a' : Option Addr} {c' : Nat}
  (h1 : BoxC w W.heap.size #[.int .i64 0, .int .i64 0] 34) (h2 : BoxC w (W.heap.size + 1) #[.string t, .int .i64 L, .int .i64 C, v0] 103) (h3 : OwnT W w (.slice a' (l.length + 1) c') (l.length + 1) (l ++ [x])) :
  RdL W (w.setCell ⟨W.heap.size + 1, 3, none⟩ (.slice a' (l.length + 1) c')) t L C (l ++ [x]) := by
 have e : (l ++ [x]).length = l.length + 1 := by simp
 refine ⟨a', c', h1.other (by omega) _, ?_, ?_⟩
 ·rw [e]; exact h2.set 3 (.slice a' (l.length + 1) c')
 ·rw [e]; exact h3.box h2 reader_ne_tok (by omega) _ _
theorem lex_take {W w : World} {t : ByteArray} {L C : Int} {l : List Tok} (h : RdL W w t L C l) (ht : t.size ≤ 1000000) (hL : 1 ≤ L ∧ L ≤ 1000001) (hC : 1 ≤ C ∧ C ≤ 1000001) (hl : l.length ≤ 4000) (n : Nat) (k : Int) {p c : Int} (hr : Reach t n p c) :
  Calls Tryz.prog 126 #[.pointer (some ⟨W.heap.size + 1, 0, none⟩), .int .i64 k, .int .i64 n] w fun e w' => e = .returned (.tuple #[]) ∧ RdL W w' (t.extract n t.size) (L + (p - 1)) (if p = 1 then C + (c - 1) else c) (l ++ [(k, t.extract 0 n, L, C)]) := by
 have hn := hr.range.1
 have k1 : (n : Int) ≤ t.size := by omega
 have CL := fun v => lib_clone (t.extract 0 n) (by rw [ByteArray.size_extract]; omega) v
 have PS := fun v (q : RdL W v t L C (l ++ [(k, t.extract 0 n, L, C)])) => lex_pass q ht hL hC n hr
 obtain ⟨a, d, B1, B2, o⟩ := h
 have B2' := B2.lt
 have x0 := (B2.cell 0).1
 have x1 := (B2.cell 1).1
 have x2 := (B2.cell 2).1
 have x3 := (B2.cell 3).1
 have HX : Hid (OwnT W w (.slice a l.length d) l.length l ∧ l.length ≤ 4000) := ⟨o, hl⟩
 have HA : Hid ((Value.slice a l.length d).ownBlock ≠ some (W.heap.size + 1) ∧ (Value.slice a l.length d).ownBlock ≠ some W.heap.size) := ⟨o.apart B2 reader_ne_tok, o.apart B1 place_ne_tok⟩
 generalize L + (p - 1) = L' at *
 generalize (if p = 1 then C + (c - 1) else c) = C' at *
 generalize hN : l.length = N at *
 clear hr hn ht hL hC o hl
 go_enter Tryz.func126, Tryz.ntmps126
 go_wp2
 go_region_law (first
  | (go_simp; go_at_call 32; (with_reducible refine Calls.mono (CL _) ?_); rintro e w1 ⟨rfl, d1⟩; have B3 := BoxC.new w1 (tcA (k, t.extract 0 n, L, C)) 110; have hq : W.heap.size + 1 < w1.heap.size := Nat.lt_of_lt_of_le B2' d1.size; have C2 := B2.drew.more d1; have x0 := (C2.cell 0).1; have x1 := (C2.cell 1).1; have x2 := (C2.cell 2).1; have x3 := (C2.cell 3).1; have oo := fun z => ((HX.out.1.more (Below.refl _ _).drew).more d1).alloc z)
  | (refine stp_append_tok (.tmp 10) (.tmp 24) rfl rfl W _ _ N l (k, t.extract 0 n, L, C) w1.heap.size rfl rfl (oo _) B3 (by have := HX.out.2; omega) ?_; intro a3 c3 w3 o3 g3; have D2 := (C2.alloc _).grown g3 HA.out.1; have y3 := (D2.cell 3).2; have x3' := (D2.cell 3).1))
 all_goals
  subst hN
  have D1 := ((B1.drew.more d1).alloc _).grown g3 HA.out.2
  have RN := rd_new D1 D2 o3
  have P1 := PS _ RN
  clear B1 B2 C2 D1 D2 B3 o3 RN PS CL oo x0 x1 x2 x3 x3' y3 HX HA g3 d1
  go_wp2_with (go_at_call 94; (with_reducible refine Calls.mono P1 ?_); rintro e w5 ⟨rfl, r5⟩)
  go_end0
  exact ⟨rfl, r5⟩
end
section
open Go.RowKit Go.Lib
def AnsRL (W : World) (t : ByteArray) (L C : Int) (l : List Tok) (e : Ending) (w' : World) : Prop :=
 e = .returned (.int .i64 (tokenI t 0).2.2.2) ∧ ((tokenI t 0).2.2.2 = 0 → ∃ p c, Reach t (tokenI t 0).2.2.1 p c ∧ RdL W w' (t.extract (tokenI t 0).2.2.1 t.size) (L + (p - 1)) (if p = 1 then C + (c - 1) else c) (l ++ [((tokenI t 0).1, (tokenI t 0).2.1, L, C)])) ∧ ((tokenI t 0).2.2.2 ≠ 0 → RdL W w' t L C l)
theorem ansR_no {W w' : World} {t : ByteArray} {L C : Int} {l : List Tok} {k : Int} {x : ByteArray} {n : Nat} {er : Int} (h : tokenI t 0 = (k, x, n, er)) (he : er ≠ 0) (hr : RdL W w' t L C l) : AnsRL W t L C l (.returned (.int .i64 er)) w' := by
 unfold AnsRL
 rw [h]
 exact ⟨rfl, fun e => absurd e he, fun _ => hr⟩
theorem ansR_yes {W w' : World} {t : ByteArray} {L C : Int} {l : List Tok} {k : Int} {x : ByteArray} {n : Nat} (h : tokenI t 0 = (k, x, n, 0)) {p c : Int} (hp : Reach t n p c) (hr : RdL W w' (t.extract n t.size) (L + (p - 1)) (if p = 1 then C + (c - 1) else c) (l ++ [(k, x, L, C)])) : AnsRL W t L C l (.returned (.int .i64 0)) w' := by
 unfold AnsRL
 rw [h]
 exact ⟨rfl, fun _ => ⟨p, c, hp, hr⟩, fun e => absurd rfl e⟩
section
variable {W w : World} {t : ByteArray} {L C : Int} {l : List Tok}
theorem lex_word (h : RdL W w t L C l) (ht : t.size ≤ 1000000) (hL : 1 ≤ L ∧ L ≤ 1000001) (hC : 1 ≤ C ∧ C ≤ 1000001) (hl : l.length ≤ 4000) (hk : kindAt t 0 = 1) :
  Calls Tryz.prog 97 #[.pointer (some ⟨W.heap.size + 1, 0, none⟩)] w (AnsRL W t L C l) := by
 have TK : tokenI t 0 = if 0 + 40 < wordEnd t 0 then (0, ⟨#[]⟩, wordEnd t 0, 4) else (0, t.extract 0 (wordEnd t 0), wordEnd t 0, 0) := by unfold tokenI; rw [if_pos hk]
 obtain ⟨p, c, hp⟩ := Reach.word _ 0 1 1 (Nat.le_refl _) (Reach.zero t)
 have TA := fun v (q : RdL W v t L C l) => lex_take q ht hL hC hl _ 0 hp
 have S2 := lex_span2 t ht _ 1 2 _ (boxes1 w #[.int .i64 1, .int .i64 2] 3).1
 rw [spanE_word] at S2
 have R1 := h.more (boxes1 w #[.int .i64 1, .int .i64 2] 3).2.1
 obtain ⟨x0, x1, x2, y0, y1, y2, -, hk2⟩ := h.cells
 generalize wordEnd t 0 = n at *
 by_cases h4 : 0 + 40 < n
 ·rw [if_pos h4] at TK
  have HT : Hid (tokenI t 0 = (0, ⟨#[]⟩, n, 4)) := TK
  have k4 : 40 < (n : Int) := by omega
  clear TK TA hp h hk hl hL hC ht h4
  go_enter Tryz.func97, Tryz.ntmps97
  go_wp2_with (go_at_call 95; (with_reducible refine Calls.mono S2 ?_); rintro e w1 ⟨rfl, d1⟩)
  go_ret
  exact ansR_no HT.out (by decide) (R1.more d1)
 ·rw [if_neg h4] at TK
  have HT : Hid (tokenI t 0 = (0, t.extract 0 n, n, 0)) := TK
  have HP : Hid (Reach t n p c) := hp
  have k4 : ¬ 40 < (n : Int) := by omega
  clear TK hp h hk hl hL hC ht h4
  go_enter Tryz.func97, Tryz.ntmps97
  go_wp2_with (first
   | (go_at_call 95; (with_reducible refine Calls.mono S2 ?_); rintro e w1 ⟨rfl, d1⟩)
   | (go_at_call 126; (with_reducible refine Calls.mono (TA _ (R1.more d1)) ?_); rintro e w2 ⟨rfl, r2⟩))
  go_ret
  exact ansR_yes HT.out HP.out r2
theorem lex_number (h : RdL W w t L C l) (ht : t.size ≤ 1000000) (hL : 1 ≤ L ∧ L ≤ 1000001) (hC : 1 ≤ C ∧ C ≤ 1000001) (hl : l.length ≤ 4000) (hk : kindAt t 0 = 2) :
  Calls Tryz.prog 98 #[.pointer (some ⟨W.heap.size + 1, 0, none⟩)] w (AnsRL W t L C l) := by
 have TK := token_number hk
 obtain ⟨p, c, hp⟩ := (Reach.zero t).number
 have TA := fun v (q : RdL W v t L C l) => lex_take q ht hL hC hl _ 1 hp
 have NO := fun v => lex_numeral t ht v
 have ha := above_le t
 have hb := below_le t
 have SZ := fun v => lex_size (above t) (below t) (by omega) (by omega) (numEnd t 0) (numEnd_size t).symm v
 have MY := fun v => lex_may (above t) (below t) (by omega) (by omega) _ rfl v
 have LG := fun v => lex_long (above t) (below t) _ rfl v
 obtain ⟨x0, x1, x2, y0, y1, y2, -, hk2⟩ := h.cells
 have HH : Hid (RdL W w t L C l ∧ Reach t (numEnd t 0) p c) := ⟨h, hp⟩
 generalize longB (above t) (below t) = g at *
 generalize mayB (above t) (below t) = m at *
 generalize numEnd t 0 = n at *
 generalize above t = a at *
 generalize below t = b at *
 clear h hp hk hl hL hC ht ha hb
 cases g with
 | true =>
  rw [if_pos rfl] at TK
  have HT : Hid (tokenI t 0 = (0, ⟨#[]⟩, n, 4)) := TK
  clear TK TA SZ MY
  go_enter Tryz.func98, Tryz.ntmps98
  go_wp2_with (first
   | (go_at_call 127; (with_reducible refine Calls.mono (NO _) ?_); rintro e w1 ⟨rfl, d1⟩; have N := boxes1 w1 #[.string a, .string b] 154; obtain ⟨n0, n1, n2, n3⟩ := N.1.cells2)
   | (go_at_call 128; (with_reducible refine Calls.mono (LG _) ?_); rintro e w2 ⟨rfl, d2⟩))
  go_ret
  exact ansR_no HT.out (by decide) (((HH.out.1.more d1).more N.2.1).more d2)
 | false =>
  rw [if_neg (by decide)] at TK
  cases m with
  | false =>
   rw [if_neg (by decide)] at TK
   have HT : Hid (tokenI t 0 = (0, ⟨#[]⟩, n, 5)) := TK
   clear TK TA SZ
   go_enter Tryz.func98, Tryz.ntmps98
   go_wp2_with (first
    | (go_at_call 127; (with_reducible refine Calls.mono (NO _) ?_); rintro e w1 ⟨rfl, d1⟩; have N := boxes1 w1 #[.string a, .string b] 154; obtain ⟨n0, n1, n2, n3⟩ := N.1.cells2)
    | (go_at_call 128; (with_reducible refine Calls.mono (LG _) ?_); rintro e w2 ⟨rfl, d2⟩; obtain ⟨n0, n1, n2, n3⟩ := (N.1.more d2).cells2)
    | (go_at_call 129; (with_reducible refine Calls.mono (MY _) ?_); rintro e w3 ⟨rfl, d3⟩))
   go_ret
   exact ansR_no HT.out (by decide) ((((HH.out.1.more d1).more N.2.1).more d2).more d3)
  | true =>
   rw [if_pos rfl] at TK
   have HT : Hid (tokenI t 0 = (1, t.extract 0 n, n, 0)) := TK
   clear TK
   go_enter Tryz.func98, Tryz.ntmps98
   go_wp2_with (first
    | (go_at_call 127; (with_reducible refine Calls.mono (NO _) ?_); rintro e w1 ⟨rfl, d1⟩; have N := boxes1 w1 #[.string a, .string b] 154; obtain ⟨n0, n1, n2, n3⟩ := N.1.cells2)
    | (go_at_call 128; (with_reducible refine Calls.mono (LG _) ?_); rintro e w2 ⟨rfl, d2⟩; obtain ⟨n0, n1, n2, n3⟩ := (N.1.more d2).cells2)
    | (go_at_call 129; (with_reducible refine Calls.mono (MY _) ?_); rintro e w3 ⟨rfl, d3⟩; obtain ⟨n0, n1, n2, n3⟩ := ((N.1.more d2).more d3).cells2)
    | (go_at_call 130; (with_reducible refine Calls.mono (SZ _) ?_); rintro e w4 ⟨rfl, d4⟩)
    | (go_at_call 126; (with_reducible refine Calls.mono (TA _ (((((HH.out.1.more d1).more N.2.1).more d2).more d3).more d4)) ?_); rintro e w5 ⟨rfl, r5⟩))
   go_ret
   exact ansR_yes HT.out HH.out.2 r5
theorem lex_mark (h : RdL W w t L C l) (ht : t.size ≤ 1000000) (hL : 1 ≤ L ∧ L ≤ 1000001) (hC : 1 ≤ C ∧ C ≤ 1000001) (hl : l.length ≤ 4000) (hk : kindAt t 0 = 4) :
  Calls Tryz.prog 99 #[.pointer (some ⟨W.heap.size + 1, 0, none⟩)] w (AnsRL W t L C l) := by
 have h0 := kindAt_in (s := t) (i := 0) (by omega)
 have TK : tokenI t 0 = (2, t.extract 0 (0 + stepAt t 0), 0 + stepAt t 0, 0) := by unfold tokenI; rw [if_neg (by omega), if_neg (by omega), if_pos hk]
 obtain ⟨p, c, hp⟩ := (Reach.zero t).step (by omega)
 have TA := fun v (q : RdL W v t L C l) => lex_take q ht hL hC hl _ 2 hp
 have NX : ∀ v, Calls Tryz.prog 96 #[.string t, .int .i64 0] v fun e w' => e = .returned (.tuple #[.int .i32 (nextR t 0), .int .i64 (stepAt t 0)]) ∧ Below v.heap.size v w' := fun v => by
  have := sign_next t 0 v ht h0
  unfold stepAt
  rw [if_pos h0]; exact this
 rw [Nat.zero_add] at TK hp TA
 obtain ⟨x0, x1, x2, y0, y1, y2, -, hk2⟩ := h.cells
 have HH : Hid (RdL W w t L C l ∧ Reach t (stepAt t 0) p c ∧ tokenI t 0 = (2, t.extract 0 (stepAt t 0), stepAt t 0, 0)) := ⟨h, hp, TK⟩
 generalize stepAt t 0 = n at *
 generalize nextR t 0 = R at *
 clear h hp TK hk hl hL hC ht h0
 go_enter Tryz.func99, Tryz.ntmps99
 go_wp2_with (first
  | (go_at_call 96; (with_reducible refine Calls.mono (NX _) ?_); rintro e w1 ⟨rfl, d1⟩)
  | (go_at_call 126; (with_reducible refine Calls.mono (TA _ (HH.out.1.more d1)) ?_); rintro e w5 ⟨rfl, r5⟩))
 go_ret
 exact ansR_yes HH.out.2.2 HH.out.2.1 r5
theorem lex_nothing (h : RdL W w t L C l) (hk : kindAt t 0 ≠ 1 ∧ kindAt t 0 ≠ 2 ∧ kindAt t 0 ≠ 4) :
  Calls Tryz.prog 100 #[.pointer (some ⟨W.heap.size + 1, 0, none⟩)] w (AnsRL W t L C l) := by
 have TK : tokenI t 0 = (0, ⟨#[]⟩, 0, 5) := by unfold tokenI; rw [if_neg hk.1, if_neg hk.2.1, if_neg hk.2.2]
 have HH : Hid (RdL W w t L C l ∧ tokenI t 0 = (0, ⟨#[]⟩, 0, 5)) := ⟨h, TK⟩
 clear h TK hk
 go_enter Tryz.func100, Tryz.ntmps100
 go_wp2
 go_ret
 exact ansR_no HH.out.2 (by decide) HH.out.1
/-- Which of these is to be called. -/
theorem lex_next (h : RdL W w t L C l) (ht : t.size ≤ 1000000) (h0 : 0 < t.size) (N : Nat) (hN : kindAt t 0 = 1 ∧ N = 97 ∨ kindAt t 0 = 2 ∧ N = 98 ∨ kindAt t 0 = 4 ∧ N = 99 ∨ (kindAt t 0 ≠ 1 ∧ kindAt t 0 ≠ 2 ∧ kindAt t 0 ≠ 4) ∧ N = 100) :
  Calls Tryz.prog 66 #[.pointer (some ⟨W.heap.size + 1, 0, none⟩)] w fun e w' => e = .returned (.func (.func N) #[.pointer (some ⟨W.heap.size + 1, 0, none⟩)] #[]) ∧ RdL W w' t L C l := by
 have NX : ∀ v, Calls Tryz.prog 96 #[.string t, .int .i64 0] v fun e w' => e = .returned (.tuple #[.int .i32 (nextR t 0), .int .i64 (nextN t 0)]) ∧ Below v.heap.size v w' := fun v => sign_next t 0 v ht h0
 have e1 : kindAt t 0 = kindI (nextR t 0) := by unfold kindAt; rw [if_pos h0]
 have KD := fun v => sign_kind (nextR t 0) _ rfl v
 rw [← e1] at KD
 obtain ⟨x0, x1, x2, y0, y1, y2, -, hk2⟩ := h.cells
 have HH : Hid (RdL W w t L C l) := h
 have hmf : ∀ (fn : Fn) (first cap : Array Value) (v : World), (Instr.makeFunc fn first cap).run Tryz.prog v = .ok (.func fn first cap) v := fun _ _ _ _ => rfl
 generalize kindAt t 0 = k at *
 generalize nextR t 0 = R at *
 generalize nextN t 0 = M at *
 clear h ht h0 e1
 rcases hN with ⟨rfl, rfl⟩ | ⟨rfl, rfl⟩ | ⟨rfl, rfl⟩ | ⟨⟨q1, q2, q4⟩, rfl⟩
 case' inr.inr.inr =>
  have f1 : (k == 1) = false := by rw [beq_eq_false_iff_ne]; exact q1
  have f2 : (k == 2) = false := by rw [beq_eq_false_iff_ne]; exact q2
  have f4 : (k == 4) = false := by rw [beq_eq_false_iff_ne]; exact q4
  clear q1 q2 q4
 all_goals
  go_enter Tryz.func66, Tryz.ntmps66
  go_wp2_with (first
   | (go_at_call 96; (with_reducible refine Calls.mono (NX _) ?_); rintro e w1 ⟨rfl, d1⟩)
   | (go_at_call 90; (with_reducible refine Calls.mono (KD _) ?_); rintro e w2 ⟨rfl, rfl⟩))
  go_ret
  exact ⟨rfl, HH.out.more d1⟩
end
end
section
open Go.RowKit Go.Lib
theorem RdL.reach {W w : World} {t : ByteArray} {L C : Int} {l : List Tok} (h : RdL W w t L C l) : ∃ a c, BoxC w W.heap.size #[.int .i64 0, .int .i64 0] 34 ∧ BoxC w (W.heap.size + 1) #[.string t, .int .i64 L, .int .i64 C, .slice a l.length c] 103 ∧ OwnT W w (.slice a l.length c) l.length l := h
theorem stay_no {W w : World} {t : ByteArray} {L C : Int} {l : List Tok} (h : RdL W w t L C l) (x y : Value) : Below W.heap.size W ((w.setCell ⟨W.heap.size, 0, none⟩ x).setCell ⟨W.heap.size, 1, none⟩ y) :=
 (h.below.setCell (p := ⟨W.heap.size, 0, none⟩) (Nat.le_refl _) x).setCell (p := ⟨W.heap.size, 1, none⟩) (Nat.le_refl _) y
set_option maxRecDepth 100000 in
theorem lex_Lex (s : ByteArray) (hs : s.size ≤ 1000000) (w : World) : Calls Tryz.prog 37 #[.string s] w (AnsX w (lexI s)) := by
 obtain ⟨b1, b2, bV, hV⟩ := boxes2 w #[.int .i64 0, .int .i64 0] #[.string s, .int .i64 1, .int .i64 1, .slice none 0 0] 34 103
 have x0 := (b1.cell 0).2
 have x1 := (b1.cell 1).2
 have z0 := (b2.cell 0).1
 have z1 := (b2.cell 1).1
 have z2 := (b2.cell 2).1
 unfold lexI
 by_cases h6 : 60000 < s.size
 ·rw [if_pos h6]
  have k6 : 60000 < (s.size : Int) := by omega
  clear hs h6
  go_enter Tryz.func37, Tryz.ntmps37
  go_wp2
  go_region
  all_goals go_wp2
  obtain ⟨q1, q2, qV, -⟩ := boxes2 w #[.int .i64 1, .int .i64 1] #[.string s, .int .i64 1, .int .i64 1, .slice none 0 0] 34 103
  obtain ⟨y0, y1, -, -⟩ := q1.drew.cells2
  exact bodyPost_ret (v := .tuple #[.slice none 0 0, .agg #[.int .i64 1, .int .i64 1], .int .i64 4]) (by simp [results, Tryz.results37, go_sem, y0, y1]) rfl (ansX_no qV.drew)
 rw [if_neg h6]
 have k6 : ¬ 60000 < (s.size : Int) := by omega
 have hs6 : s.size ≤ 60000 := Nat.not_lt.1 h6
 clear x0 x1 z0 z1 z2
 have R0 : RdL w ((w.alloc (.cells #[.int .i64 0, .int .i64 0] 34)).alloc (.cells #[.string s, .int .i64 1, .int .i64 1, .slice none 0 0] 103)) (s.extract 0 s.size) 1 1 [] := by
  rw [extract_all]
  exact ⟨none, 0, b1, b2, OwnT.nil bV⟩
 have SK := fun v i L C l (q : RdL w v (s.extract i s.size) L C l) (r : Reach s i L C) => lex_skip q hs r
 have S0 := SK _ 0 1 1 [] R0 (Reach.zero s)
 have HS : Hid (s.size ≤ 60000) := hs6
 have HP : Hid (lexF s (s.size + 1) 0 [] = lexF s (s.size + 1) (spanE [3] s 0) []) := lexF_blanks s [] _ 0 (Nat.le_refl _)
 have HK : Hid (kindAt s (spanE [3] s 0) ≠ 3) := blanks_end s _ 0 (Nat.le_refl _)
 have HG : Hid (spanE [3] s 0 ≤ s.size) := (spanE_range [3] s 0).2 (Nat.zero_le _)
 generalize lexF s (s.size + 1) 0 [] = P at *
 generalize spanE [3] s 0 = E0 at *
 clear h6 hs6 b1 b2 bV hV
 go_enter Tryz.func37, Tryz.ntmps37
 go_wp2_with (go_at_call 65; (with_reducible refine Calls.mono S0 ?_); rintro e V ⟨rfl, L0, C0, r0, c0⟩)
 go_loopg [] (s.size - E0) (fun g v => ∃ (i : Nat) (L C : Int) (l : List Tok), i + g = s.size ∧ kindAt s i ≠ 3 ∧ l.length ≤ 4000 ∧ RdL w v (s.extract i s.size) L C l ∧ Reach s i L C ∧ lexF s (s.size + 1) i l = P)
 case atStart => exact ⟨E0, L0, C0, [], by have := HG.out; omega, HK.out, by simp, r0, c0, HP.out.symm⟩
 case round =>
  obtain ⟨i, L, C, l, hg, hk, hl, hR, hr, hF⟩ := hrel
  clear HP HK HG r0 c0 S0 R0
  have hi0 := hr.range.1
  have hz : (s.extract i s.size).size = s.size - i := by rw [ByteArray.size_extract]; omega
  have sh := shifted_rest s hi0
  have hS := HS.out
  obtain ⟨a, c, B1, B2, o⟩ := hR.reach
  have z0 := (B2.cell 0).1
  have z1 := (B2.cell 1).1
  have z2 := (B2.cell 2).1
  have z3 := (B2.cell 3).1
  have x0 := (B1.cell 0).2
  have x1 := (B1.cell 1).2
  have x2 := (B1.cell 0).1
  have x3 := (B1.cell 1).1
  rcases Nat.lt_or_ge i s.size with hi | hi
  ·have e0 : ((s.extract i s.size).toList == []) = false := text_full (by omega)
   have hT := lexF_step (out := l) hi
   rw [hF, if_neg hk] at hT
   have hpl := hr.here hi
   by_cases h4 : 4000 ≤ l.length
   ·rw [if_pos h4, hpl] at hT
    have HT : Hid (P = ([], (L, C), 4)) := hT
    have e4 : ((l.length : Int) == 4000) = true := by rw [beq_iff_eq]; omega
    have HR : Hid (RdL w wr (s.extract i s.size) L C l) := hR
    have hq : w.heap.size < wr.heap.size := B1.lt
    generalize s.extract i s.size = t at *
    generalize l.length = n at *
    clear hF hT hpl h4 hg hk hl hR hr hi0 hz sh hS B1 B2 o hi SK hs
    go_wp2
    go_region
    all_goals go_wp2
    have HT2 := HT.out
    subst HT2
    obtain ⟨a', c', B1', B2', o'⟩ := HR.out.reach
    obtain ⟨y0, y1, -, -⟩ := ((B1'.set 0 (.int .i64 L)).set 1 (.int .i64 C)).drew.cells2
    exact bodyPost_ret (v := .tuple #[.slice none 0 0, .agg #[.int .i64 L, .int .i64 C], .int .i64 4]) (by simp [results, Tryz.results37, go_sem, y0, y1]) rfl (ansX_no (stay_no HR.out _ _).drew)
   ·rw [if_neg h4] at hT
    have e4 : ((l.length : Int) == 4000) = false := by rw [beq_eq_false_iff_ne]; omega
    have hkt := (sh.kind 0).1
    have htk := sh.token 0
    rw [Nat.add_zero] at hkt htk
    have hL := hr.range
    have hl3 : l.length ≤ 4000 := hl
    have hrd : ∃ N, (N = 97 ∨ N = 98 ∨ N = 99 ∨ N = 100) ∧ (∀ v, RdL w v (s.extract i s.size) L C l → Calls Tryz.prog 66 #[.pointer (some ⟨w.heap.size + 1, 0, none⟩)] v fun e w' => e = .returned (.func (.func N) #[.pointer (some ⟨w.heap.size + 1, 0, none⟩)] #[]) ∧ RdL w w' (s.extract i s.size) L C l) ∧
      (∀ v, RdL w v (s.extract i s.size) L C l → Calls Tryz.prog N #[.pointer (some ⟨w.heap.size + 1, 0, none⟩)] v (AnsRL w (s.extract i s.size) L C l)) := by
     by_cases q1 : kindAt (s.extract i s.size) 0 = 1
     ·exact ⟨_, .inl rfl, fun v q => lex_next q (by omega) (by omega) _ (.inl ⟨q1, rfl⟩), fun v q => lex_word q (by omega) (by omega) (by omega) hl3 q1⟩
     by_cases q2 : kindAt (s.extract i s.size) 0 = 2
     ·exact ⟨_, .inr (.inl rfl), fun v q => lex_next q (by omega) (by omega) _ (.inr (.inl ⟨q2, rfl⟩)), fun v q => lex_number q (by omega) (by omega) (by omega) hl3 q2⟩
     by_cases q4 : kindAt (s.extract i s.size) 0 = 4
     ·exact ⟨_, .inr (.inr (.inl rfl)), fun v q => lex_next q (by omega) (by omega) _ (.inr (.inr (.inl ⟨q4, rfl⟩))), fun v q => lex_mark q (by omega) (by omega) (by omega) hl3 q4⟩
     ·exact ⟨_, .inr (.inr (.inr rfl)), fun v q => lex_next q (by omega) (by omega) _ (.inr (.inr (.inr ⟨⟨q1, q2, q4⟩, rfl⟩))), fun v q => lex_nothing q ⟨q1, q2, q4⟩⟩
    obtain ⟨N, hN, NX, RD⟩ := hrd
    have hend := tokenI_end hi
    rw [htk] at hT hend
    dsimp only at hT hend
    by_cases her : (tokenI (s.extract i s.size) 0).2.2.2 = 0
    ·rw [if_neg (fun e => e her), hpl] at hT
     obtain ⟨q1, q2⟩ := hend her
     have RD2 : ∀ v, RdL w v (s.extract i s.size) L C l → Calls Tryz.prog N #[.pointer (some ⟨w.heap.size + 1, 0, none⟩)] v fun e w' => e = .returned (.int .i64 0) ∧ ∃ L' C', RdL w w' (s.extract (i + (tokenI (s.extract i s.size) 0).2.2.1) s.size) L' C' (l ++ [((tokenI (s.extract i s.size) 0).1, (tokenI (s.extract i s.size) 0).2.1, L, C)]) ∧ Reach s (i + (tokenI (s.extract i s.size) 0).2.2.1) L' C' := by
      intro v q
      refine (RD v q).mono ?_
      rintro e w' ⟨h1, h2, -⟩
      obtain ⟨p', c', h3, h5⟩ := h2 her
      rw [her] at h1
      rw [extract_more] at h5
      exact ⟨h1, _, _, h5, hr.on sh h3⟩
     generalize (tokenI (s.extract i s.size) 0).2.2.1 = E at *
     generalize (tokenI (s.extract i s.size) 0).1 = k0 at *
     generalize (tokenI (s.extract i s.size) 0).2.1 = u at *
     rw [lexF_blanks s _ _ (i + E) (Nat.le_refl _)] at hT
     have HT : Hid (P = lexF s (s.size + 1) (spanE [3] s (i + E)) (l ++ [(k0, u, L, C)])) := hT
     have hr2 := spanE_range [3] s (i + E)
     have HI : Hid (kindAt s (spanE [3] s (i + E)) ≠ 3 ∧ i < spanE [3] s (i + E) ∧ spanE [3] s (i + E) ≤ s.size ∧ i + gk = s.size ∧ l.length < 4000) := ⟨blanks_end s _ (i + E) (Nat.le_refl _), by omega, hr2.2 (by omega), hg, by omega⟩
     have HR : Hid (RdL w wr (s.extract i s.size) L C l) := hR
     have SK2 := fun v L' C' (q : RdL w v (s.extract (i + E) s.size) L' C' (l ++ [(k0, u, L, C)])) (r : Reach s (i + E) L' C') => SK v (i + E) L' C' _ q r
     generalize spanE [3] s (i + E) = I at *
     generalize s.extract i s.size = t at *
     generalize hn : l.length = n at *
     have HN : Hid (l.length = n) := hn
     clear hF hT hpl h4 hg hk hl hl3 hR hr hi0 hz sh hS B1 B2 o hi SK hs hend hr2 q1 q2 RD hL hkt htk her hn x0 x1 x2 x3
     rcases hN with rfl | rfl | rfl | rfl
     all_goals
      go_wp2_with (first
       | (go_at_call 66; (with_reducible refine Calls.mono (NX _ HR.out) ?_); rintro e w1 ⟨rfl, r1⟩)
       | (go_at_call 97; (with_reducible refine Calls.mono (RD2 _ r1) ?_); rintro e w2 ⟨rfl, L1, C1, r2, g2⟩)
       | (go_at_call 98; (with_reducible refine Calls.mono (RD2 _ r1) ?_); rintro e w2 ⟨rfl, L1, C1, r2, g2⟩)
       | (go_at_call 99; (with_reducible refine Calls.mono (RD2 _ r1) ?_); rintro e w2 ⟨rfl, L1, C1, r2, g2⟩)
       | (go_at_call 100; (with_reducible refine Calls.mono (RD2 _ r1) ?_); rintro e w2 ⟨rfl, L1, C1, r2, g2⟩)
       | (go_at_call 65; (with_reducible refine Calls.mono (SK2 _ _ _ r2 g2) ?_); rintro e w3 ⟨rfl, L2, C2, r3, g3⟩))
      obtain ⟨j1, j2, j3, j4, j5⟩ := HI.out
      go_roundg (s.size - I)
      case measure => omega
      case rel => exact ⟨I, L2, C2, _, by omega, j1, by rw [List.length_append, HN.out]; exact j5, r3, g3, HT.out.symm⟩
    ·rw [if_pos her, hpl] at hT
     have HT : Hid (P = ([], (L, C), (tokenI (s.extract i s.size) 0).2.2.2)) := hT
     have RD2 : ∀ v, RdL w v (s.extract i s.size) L C l → Calls Tryz.prog N #[.pointer (some ⟨w.heap.size + 1, 0, none⟩)] v fun e w' => e = .returned (.int .i64 (tokenI (s.extract i s.size) 0).2.2.2) ∧ RdL w w' (s.extract i s.size) L C l := by
      intro v q
      refine (RD v q).mono ?_
      rintro e w' ⟨h1, -, h2⟩
      exact ⟨h1, h2 her⟩
     generalize (tokenI (s.extract i s.size) 0).2.2.2 = er at *
     have e5 : (er != 0) = true := by rw [bne_iff_ne]; exact her
     have HR : Hid (RdL w wr (s.extract i s.size) L C l) := hR
     generalize s.extract i s.size = t at *
     generalize hn : l.length = n at *
     clear hF hT hpl h4 hg hk hl hl3 hR hr hi0 hz sh hS B1 B2 o hi SK hs hend RD hL hkt htk her hn x0 x1 x2 x3
     rcases hN with rfl | rfl | rfl | rfl
     all_goals
      go_wp2_with (first
       | (go_at_call 66; (with_reducible refine Calls.mono (NX _ HR.out) ?_); rintro e w1 ⟨rfl, r1⟩)
       | (go_at_call 97; (with_reducible refine Calls.mono (RD2 _ r1) ?_); rintro e w2 ⟨rfl, r2⟩)
       | (go_at_call 98; (with_reducible refine Calls.mono (RD2 _ r1) ?_); rintro e w2 ⟨rfl, r2⟩)
       | (go_at_call 99; (with_reducible refine Calls.mono (RD2 _ r1) ?_); rintro e w2 ⟨rfl, r2⟩)
       | (go_at_call 100; (with_reducible refine Calls.mono (RD2 _ r1) ?_); rintro e w2 ⟨rfl, r2⟩))
      obtain ⟨a2, c2, D1, D2, o2⟩ := r2.reach
      have z0 := (D2.cell 0).1
      have z1 := (D2.cell 1).1
      have z2 := (D2.cell 2).1
      have x0 := (D1.cell 0).2
      have x1 := (D1.cell 1).2
      have x2 := (D1.cell 0).1
      have x3 := (D1.cell 1).1
      have hq : w.heap.size < w2.heap.size := D1.lt
      go_region
      all_goals go_wp2
      have HT2 := HT.out
      subst HT2
      obtain ⟨y0, y1, -, -⟩ := ((D1.set 0 (.int .i64 L)).set 1 (.int .i64 C)).drew.cells2
      exact bodyPost_ret (v := .tuple #[.slice none 0 0, .agg #[.int .i64 L, .int .i64 C], .int .i64 er]) (by simp [results, Tryz.results37, go_sem, y0, y1]) rfl (ansX_no (stay_no r2 _ _).drew)
  ·have e0 : ((s.extract i s.size).toList == []) = true := text_empty (by omega)
   rw [lexF_end (out := l) (Nat.not_lt.2 hi)] at hF
   subst hF
   have HO : Hid (OwnT w wr (.slice a l.length c) l.length l ∧ BoxC wr w.heap.size #[.int .i64 0, .int .i64 0] 34) := ⟨o, B1⟩
   generalize s.extract i s.size = t at *
   generalize hn : l.length = n at *
   clear hg hk hl hR hr hi0 hz sh hS B1 B2 o hi SK hs
   go_wp2
   subst hn
   obtain ⟨o', B1'⟩ := HO.out
   obtain ⟨y0, y1, -, -⟩ := ((B1'.set 0 (.int .i64 0)).set 1 (.int .i64 0)).cells2
   exact bodyPost_ret (v := .tuple #[.slice a l.length c, .agg #[.int .i64 0, .int .i64 0], .int .i64 0]) (by simp [results, Tryz.results37, go_sem, y0, y1]) rfl ⟨a, c, rfl, (o'.box B1' place_ne_tok (Nat.le_refl _) 0 _).box (B1'.set 0 _) place_ne_tok (Nat.le_refl _) 1 _⟩
end
section
open Go.Lib
def isO (t : Int × ByteArray) : Bool := decide (t.1 = 2) && (t.2.data.toList == [40])
def cntP (l : List (Int × ByteArray)) : Nat := l.countP isO
section
variable (pr : Bool × Nat × Nat → ByteArray) (ex : Nat → ByteArray)
def OP (l : List Nd) (i least : Nat) : Nat := cntP (partP pr ex l (i + 1) i least)
end
variable {pr : Bool × Nat × Nat → ByteArray} {ex : Nat → ByteArray}
end
section
open Go.Lib
variable {pr : Bool × Nat × Nat → ByteArray} {ex : Nat → ByteArray}
def OL (pr : Bool × Nat × Nat → ByteArray) (ex : Nat → ByteArray) (l : List Nd) : List (ByteArray × Int) → Nat
 | [] => 0
 | x :: m => OP pr ex l x.2.toNat 1 + OL pr ex l m
end
end Go.Proofs.YtaeladkcmpdkhaaGreatDoor
