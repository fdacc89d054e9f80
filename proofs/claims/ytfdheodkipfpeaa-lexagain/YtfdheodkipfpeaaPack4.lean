/-
  Texts of mine put together in build order: SignOkL, LexRefF, LexWalksD, LexLawD, LexMany, LexWalksB, LexLawB, LexLawC. Each says at its head what it proves. No conditions of its own.
-/
import Derived.Test.YtfdheodkipfpeaaPack2
import Derived.Test.YtfdheodkipfpeaaPack3
import Derived.Laws.IdiomStrings
/-
  Package sign keeps its contracts, in a seat that has some of its functions only.
-/
namespace Go.Proofs.Ytfdheodkipfpeaa
open Go.RowKit Go.Lib

theorem sign_okl : SignOk where
  kind := fun r w _ _ k hk => (sign_kind r k hk w).mono fun _ _ h => ⟨h.1, h.2 ▸ Below.refl _ _⟩
  next := fun s i w hs hi => sign_next s i w hs hi
  next_no := fun s j w _ _ _ h => (sign_next_no s j h w).mono fun _ _ h => ⟨h.1, h.2 ▸ Below.refl _ _⟩
  place := fun s j w hs h0 h1 => sign_place s j w hs h0 h1
end Go.Proofs.Ytfdheodkipfpeaa
/-
  Contract of the document's own Texts (package talwegref10): two lists of tokens, held against each other but for their places; memory that was there stays.
-/
namespace Go.Proofs.Ytfdheodkipfpeaa
open Go.RowKit Go.Lib

set_option maxHeartbeats 8000000 in
theorem ref_ltexts {w : World} {a : Option Addr} {n c : Nat} {l : List Tok} {b : Option Addr} {m d : Nat} {l' : List Tok} (h : IsToks w a n l) (h' : IsToks w b m l') (r : Bool) (hr : decide (ktx l = ktx l') = r) (hn : n ≤ 1000000) :
    Calls Try.prog 15 #[.slice a n c, .slice b m d] w fun e w' => e = .returned (.bool r) ∧ Below w.heap.size w w' := by
  by_cases hnm : n = m
  case neg =>
    have e1 : ((n : Int) != m) = true := by rw [bne_iff_ne]; omega
    obtain rfl : r = false := by rw [← hr]; exact decide_eq_false (fun e => hnm (by rw [← h.1, ← h'.1, ← ktx_length l, ← ktx_length l', e]))
    clear h h' hr hn hnm
    go_enter Try.func15, Try.ntmps15
    go_wp2
    go_ret
    exact ⟨rfl, Below.refl _ _⟩
  case pos =>
  subst hnm
  have HH : Hid (IsToks w a n l ∧ IsToks w b n l' ∧ decide (ktx l = ktx l') = r ∧ n ≤ 1000000) := ⟨h, h', hr, hn⟩
  clear h h' hr hn
  go_enter Try.func15, Try.ntmps15
  go_wp2
  go_loopg [5] n (fun g s5 v => ∃ i : Nat, s5 = .int .i64 i ∧ i + g = n ∧ (ktx l).take i = (ktx l').take i ∧ Below w.heap.size w v)
  case atStart => exact ⟨0, rfl, by omega, rfl, Below.refl _ _⟩
  case round =>
    obtain ⟨i, rfl, hg, ht, bw⟩ := hrel
    rcases Nat.lt_or_ge i n with hi | hi
    · have hi' : (i : Int) < n := by omega
      have i0 : 0 ≤ (i : Int) := by omega
      obtain ⟨t1, t2, t3, t4⟩ := HH.out
      have hl1 := t1.1
      have hl2 := t2.1
      obtain ⟨g1, rfl, c1⟩ := (t1.below bw).2.resolve_left (fun e => by rw [e] at hl1; simp at hl1; omega)
      obtain ⟨g2, rfl, c2⟩ := (t2.below bw).2.resolve_left (fun e => by rw [e] at hl2; simp at hl2; omega)
      obtain ⟨x0, x1, x2, x3⟩ := c1 i (by omega)
      obtain ⟨y0, y1, y2, y3⟩ := c2 i (by omega)
      have hq1 : i < l.length := by omega
      have hq2 : i < l'.length := by omega
      have hx : l[i]? = some l[i] := List.getElem?_eq_getElem hq1
      have hy : l'[i]? = some l'[i] := List.getElem?_eq_getElem hq2
      generalize l[i] = x at *
      generalize l'[i] = y at *
      have HX : Hid (l[i]? = some x ∧ l'[i]? = some y ∧ (ktx l).take i = (ktx l').take i ∧ i + gk = n ∧ i < n ∧ Below w.heap.size w wr) := ⟨hx, hy, ht, hg, hi, bw⟩
      have w1 : wrap64 ((i : Int) + 1) = (i : Int) + 1 := wrap_smalls (by omega) (by omega)
      clear c1 c2 t1 t2 t3 t4 hx hy hq1 hq2 ht hg hi bw hl1 hl2
      obtain ⟨k1, s1, L1, C1⟩ := x
      obtain ⟨k2, s2, L2, C2⟩ := y
      dsimp only at x0 x1 x2 x3 y0 y1 y2 y3
      by_cases hxy : k1 = k2 ∧ s1 = s2
      · obtain ⟨rfl, rfl⟩ := hxy
        go_wp2
        go_quiet (fail)
        go_wp2
        obtain ⟨p1, p2, p3, p4, p5, p6⟩ := HX.out
        go_roundg (n - (i + 1))
        case measure => clear w1; omega
        case rel => exact ⟨i + 1, by rw [w1]; go_num, by clear w1; omega, by rw [List.take_add_one, List.take_add_one, ktx_get p1, ktx_get p2, p3], below_drewN p6 _⟩
      · obtain rfl : r = false := by
          rw [← HH.out.2.2.1]
          refine decide_eq_false (fun e => hxy ?_)
          have h1 := ktx_get HX.out.1
          rw [e, ktx_get HX.out.2.1] at h1
          have h2 := Option.some.inj h1
          exact ⟨(Prod.mk.inj h2).1.symm, (Prod.mk.inj h2).2.symm⟩
        rcases (by
          by_cases f1 : k1 = k2
          · exact .inr ⟨f1, fun f2 => hxy ⟨f1, by rw [ByteArray.toList_eq, ByteArray.toList_eq, Array.toList_inj] at f2; exact ByteArray.ext f2⟩⟩
          · exact .inl f1 : k1 ≠ k2 ∨ (k1 = k2 ∧ s1.toList ≠ s2.toList)) with f | ⟨rfl, f⟩
        case' inl => have e1 : (k1 != k2) = true := by rw [bne_iff_ne]; exact f
        case' inr => have e1 : (s1.toList == s2.toList) = false := by rw [beq_eq_false_iff_ne]; exact f
        clear w1
        all_goals
          clear hxy f
          go_wp2
          go_quiet (fail)
          go_wp2
          go_ret
          exact ⟨rfl, below_drewN HX.out.2.2.2.2.2 _⟩
    · have hi' : ¬ (i : Int) < n := by omega
      obtain rfl : i = n := by omega
      have hr : r = true := by
        obtain ⟨t1, t2, t3, -⟩ := HH.out
        rw [← t3]
        refine decide_eq_true ?_
        have e1 := t1.1
        have e2 := t2.1
        rw [List.take_of_length_le (by rw [ktx_length]; omega), List.take_of_length_le (by rw [ktx_length]; omega)] at ht
        exact ht
      subst hr
      clear hg hi ht
      go_wp2
      go_ret
      exact ⟨rfl, bw⟩
end Go.Proofs.Ytfdheodkipfpeaa
/-
  The walk of the statement LexAgain, for whatever packages lex and sign keep their contracts: it returns true; memory that was there stays.
-/
namespace Go.Proofs.Ytfdheodkipfpeaa
open Go.RowKit Go.Lib

theorem Stand.step {s : ByteArray} {at_ : Nat} {l : List Tok} {i : Nat} {t : Tok} (h : Stand s at_ (l.drop i)) (ht : l[i]? = some t) : ∃ j, at_ ≤ j ∧ j < s.size ∧ Reach s j t.2.2.1 t.2.2.2 ∧ j + t.2.1.size ≤ s.size ∧ s.extract j (j + t.2.1.size) = t.2.1 ∧ Stand s (j + t.2.1.size) (l.drop (i + 1)) := by
  obtain ⟨hi, e⟩ := List.getElem?_eq_some_iff.1 ht
  rw [List.drop_eq_getElem_cons hi, e] at h
  obtain ⟨j, h1, h2, h3, h4, -, h6, h7⟩ := h
  exact ⟨j, h1, h2, h3, h4, h6, h7⟩
theorem join_step {l : List Tok} {i : Nat} {t : Tok} (ht : l[i]? = some t) : joinB (ktx (l.take (i + 1))) = joinB (ktx (l.take i)) ++ t.2.1 ++ ⟨#[32]⟩ := by
  rw [List.take_add_one, ht]
  show joinB (ktx (l.take i ++ [t])) = _
  unfold ktx
  rw [List.map_append]
  exact joinB_snoc _ _

set_option maxRecDepth 100000 in
set_option maxHeartbeats 8000000 in
theorem walk_LexAgain (K : LexOk) (S : SignOk) (AW : ∀ v, Calls Try.prog 8 #[] v fun e w' => e = .returned (.bool true) ∧ Below v.heap.size v w') (s : ByteArray) (w : World) (_hs : s.size ≤ maxLen) :
    Calls Try.prog 5 #[.string s] w fun e w' => e = .returned (.bool true) ∧ Below w.heap.size w w' := by
  by_cases h2 : 200 < s.size
  · have k2 : 200 < (s.size : Int) := by omega
    clear _hs K S
    go_enter Try.func5, Try.ntmps5
    go_wp2_with (go_at_call 8; (with_reducible refine Calls.mono (AW _) ?_); rintro e w1 ⟨rfl, b1⟩)
    go_ret
    exact ⟨rfl, b1⟩
  have k2 : ¬ 200 < (s.size : Int) := by omega
  have c1 := fun v => K.lex s v (by omega)
  have hlen := lexI_count (s := s) (by omega)
  obtain ⟨hz, hE2, hk2⟩ := lex_again (s := s) (by omega)
  have hr := lexI_right s
  have c2 := fun v => K.lex (joinB (ktx (lexI s).1)) v (by omega)
  have hlen2 := congrArg List.length hk2
  rw [ktx_length, ktx_length] at hlen2
  have PL := fun (i : Nat) (hi : i < s.size) v => S.place s i v (by omega) (by omega) (by omega)
  unfold AnsL at PL
  unfold AnsY at c1 c2
  -- an error leaves no tokens
  have hst : (lexI s).2.2 = 0 ∧ Stand s 0 (lexI s).1 ∨ (lexI s).2.2 ≠ 0 ∧ (lexI s).1 = [] := by
    by_cases h : (lexI s).2.2 = 0
    · exact .inl ⟨h, lexI_stand (by omega) h⟩
    · exact .inr ⟨h, lexI_err h⟩
  generalize hJ : joinB (ktx (lexI s).1) = J at *
  generalize lexI s = P at *
  generalize lexI J = P2 at *
  obtain ⟨l, ⟨L, C⟩, E⟩ := P
  obtain ⟨m, ⟨L2, C2⟩, E2⟩ := P2
  dsimp only at c1 c2 hlen hlen2 hE2 hk2 hst hr hJ
  subst hE2
  rw [hlen2] at c2
  have S1 := fun v a c b d (p : IsToks v a l.length l) (q : IsToks v b l.length m) => ref_ltexts (c := c) (d := d) p q true (decide_eq_true hk2.symm) (by omega)
  have hst0 : Stand s 0 l := by
    rcases hst with ⟨-, h⟩ | ⟨-, h⟩
    · exact h
    · rw [h]; trivial
  have HR : Hid (s.size ≤ 200 ∧ l.length ≤ 200 ∧ Stand s 0 l ∧ joinB (ktx l) = J ∧ J.size ≤ 40200 ∧ ∀ t ∈ l, t.2.1.size ≤ s.size) := ⟨by omega, hlen, hst0, hJ, hz, fun t ht => (hr t ht).2⟩
  have HE : E = 0 ∨ (E == 0) = false ∧ l.length = 0 := by
    rcases hst with ⟨h, -⟩ | ⟨h, h3⟩
    · exact .inl h
    · exact .inr ⟨by rw [beq_eq_false_iff_ne]; exact h, by rw [h3]; rfl⟩
  clear _hs K S hst hst0 hJ hz hr hk2 hlen hlen2 h2
  go_enter Try.func5, Try.ntmps5
  go_wp2_with (first
    | (go_at_call 8; (with_reducible refine Calls.mono (AW _) ?_); rintro e w1 ⟨rfl, b1⟩)
    | (go_at_call 9; (with_reducible refine Calls.mono (c1 _) ?_); rintro e w2 ⟨a1, d1, rfl, t1, b2⟩; replace b1 := below_more b1 b2))
  have bV := b1.alloc b1.size (.cells #[.int .i64 L, .int .i64 C] 25)
  have T := t1.below ((Below.refl _ w2).alloc (Nat.le_refl _) (.cells #[.int .i64 L, .int .i64 C] 25))
  clear b1 b2 t1 c1
  generalize w2.alloc (.cells #[.int .i64 L, .int .i64 C] 25) = V at *
  go_loopg [7, 8, 9] l.length (fun h s7 s8 s9 v => ∃ (i p : Nat), s7 = .string (joinB (ktx (l.take i))) ∧ s8 = .int .i64 p ∧ s9 = .int .i64 i ∧ i + h = l.length ∧ p ≤ s.size ∧ Stand s p (l.drop i) ∧ Below V.heap.size V v)
  case atStart => exact ⟨0, 0, rfl, rfl, rfl, by omega, Nat.zero_le _, HR.out.2.2.1, Below.refl _ _⟩
  case round =>
    obtain ⟨i, p, rfl, rfl, rfl, hg, hp, hS, bw⟩ := hrel
    rcases Nat.lt_or_ge i l.length with hi | hi
    · have hi' : (i : Int) < l.length := by omega
      have i0 : 0 ≤ (i : Int) := by omega
      obtain ⟨t, ht⟩ : ∃ t, l[i]? = some t := ⟨_, List.getElem?_eq_getElem hi⟩
      obtain ⟨j, q1, q2, q3, q4, q5, q6⟩ := hS.step ht
      have hxs := HR.out.2.2.2.2.2 t (List.mem_of_getElem? ht)
      have hjn := join_step ht
      have hA : (joinB (ktx (l.take i))).size ≤ 40200 := by
        have h1 := joinB_size (m := 200) (ktx (l.take i)) (by
          intro u hu
          unfold ktx at hu
          obtain ⟨y, hy, rfl⟩ := List.mem_map.1 hu
          exact Nat.le_trans (HR.out.2.2.2.2.2 y (List.mem_of_mem_take hy)) HR.out.1)
        rw [ktx_length, List.length_take] at h1
        have := HR.out
        refine Nat.le_trans h1 ?_
        have h3 : min i l.length ≤ 200 := by omega
        exact Nat.le_trans (Nat.mul_le_mul_right 201 h3) (by omega)
      obtain ⟨g, rfl, -⟩ := T.get ht
      obtain ⟨K1, x, L1, C1⟩ := t
      dsimp only at q3 q4 q5 q6 hxs hjn
      have C0 : ∀ v, Below V.heap.size V v → v.cell? ⟨g, i * 4 + 1, none⟩ = some (.string x) ∧ v.cell? ⟨g, i * 4 + 2, none⟩ = some (.int .i64 L1) ∧ v.cell? ⟨g, i * 4 + 3, none⟩ = some (.int .i64 C1) := fun v hb => by
        obtain ⟨g', eg, -, z1, z2, z3⟩ := (T.below hb).get ht
        obtain rfl : g = g' := by simpa using eg
        exact ⟨z1, z2, z3⟩
      have HY : Hid (joinB (ktx (l.take (i + 1))) = joinB (ktx (l.take i)) ++ x ++ ⟨#[32]⟩ ∧ p ≤ j ∧ j < s.size ∧ Reach s j L1 C1 ∧ j + x.size ≤ s.size ∧ s.extract j (j + x.size) = x ∧ Stand s (j + x.size) (l.drop (i + 1)) ∧ i + gk = l.length ∧ i < l.length ∧ s.size ≤ 200 ∧ l.length ≤ 200) := ⟨hjn, q1, q2, q3, q4, q5, q6, hg, hi, HR.out.1, HR.out.2.1⟩
      have hx' : ¬ 200 < (x.size : Int) := by have := HR.out.1; omega
      have hA' : ¬ 40200 < ((joinB (ktx (l.take i))).size : Int) := by omega
      have z0 := (C0 _ bw).1
      clear q1 q2 q3 q4 q5 q6 hjn hxs hA hS hp hg hi ht HR HE T c2 S1 AW
      generalize joinB (ktx (l.take i)) = A at *
      go_wp2
      clear z0
      go_loopg [8] (j - p) (fun h s8 v => ∃ q : Nat, s8 = .int .i64 q ∧ q + h = j ∧ Below V.heap.size V v)
      case atStart => exact ⟨p, rfl, by have := HY.out.2.1; omega, bw⟩
      case round =>
        clear bw
        obtain ⟨q, rfl, hq, bw⟩ := hrel
        have hqs : q < s.size := by have := HY.out; omega
        have hq' : (q : Int) < s.size := by omega
        have q0 : 0 ≤ (q : Int) := by omega
        have p1 := fun v => PL q hqs v
        have SO : ∀ v, Below wr.heap.size wr v → v.cell? ⟨g, i * 4 + 2, none⟩ = some (.int .i64 L1) ∧ v.cell? ⟨g, i * 4 + 3, none⟩ = some (.int .i64 C1) := fun v hb => ⟨(C0 v (below_more bw hb)).2.1, (C0 v (below_more bw hb)).2.2⟩
        have bs : Below wr.heap.size wr wr.drew := (Below.refl _ _).drew
        have HB : Hid (Below V.heap.size V wr) := bw
        cases gk with
        | succ h =>
          obtain ⟨P1, P2, hP, hne⟩ : ∃ P1 P2, placeI s q = (P1, P2) ∧ (P1 < L1 ∨ P1 = L1 ∧ P2 < C1) := ⟨_, _, rfl, HY.out.2.2.2.1.ahead q q0 (by omega)⟩
          rw [hP] at p1
          dsimp only at p1
          have v0 : 0 ≤ (q : Int) + 1 := by omega
          have v1 : (q : Int) + 1 < 1000000 := by have := HY.out; omega
          have HX : Hid (q + (h + 1) = j) := hq
          clear PL hq bw hqs hP C0 k2
          have w1 : wrap64 ((q : Int) + 1) = (q : Int) + 1 := wrap_small v0 v1
          clear v0 v1
          rcases hne with hne | ⟨he, hne⟩
          case' inl => have e1 : (P1 == L1) = false := by rw [beq_eq_false_iff_ne]; clear w1; omega
          case' inr =>
            obtain rfl := he.symm
            have e1 : (P2 == C1) = false := by rw [beq_eq_false_iff_ne]; clear w1; omega
          all_goals
            clear hne
            go_wp2
            go_region_held3 (fun v => v.cell? ⟨g, i * 4 + 2, none⟩ = some (.int .i64 L1) ∧ v.cell? ⟨g, i * 4 + 3, none⟩ = some (.int .i64 C1))
              (with_reducible exact SO _ bs)
              (first
              | (go_at_call 14; (with_reducible refine Calls.mono (p1 _) ?_); rintro e w4 ⟨rfl, b4⟩; replace bs := below_more bs b4))
            go_wp2
            have hx2 := HX.out
            go_roundg h
            case measure => clear w1; omega
            case rel => exact ⟨q + 1, by go_num, by clear w1; omega, below_more HB.out bs⟩
        | zero =>
          obtain rfl : q = j := by omega
          rw [HY.out.2.2.2.1.here hqs] at p1
          dsimp only at p1
          have hxs := HY.out.2.2.2.2.1
          have ex := HY.out.2.2.2.2.2.1
          have v1 : ¬ (s.size : Int) - q < x.size := by omega
          have v2 : 0 ≤ (s.size : Int) - q := by omega
          have v3 : (s.size : Int) - q < 1000000 := by have := HY.out; omega
          have v4 : 0 ≤ (q : Int) + x.size := by omega
          have v5 : (q : Int) + x.size < 1000000 := by have := HY.out; omega
          have v6 : (q : Int) ≤ (q : Int) + x.size := by omega
          have v7 : (q : Int) + x.size ≤ s.size := by omega
          have v8 : 0 ≤ (i : Int) + 1 := by omega
          have v9 : (i : Int) + 1 < 1000000 := by have := HY.out; omega
          clear PL hq bw hxs k2
          have w1 : wrap64 ((s.size : Int) - q) = (s.size : Int) - q := wrap_small v2 v3
          have w2' : wrap64 ((q : Int) + x.size) = (q : Int) + x.size := wrap_small v4 v5
          have w3 : IntKind.i64.wrap ((q : Int) + x.size) = (q : Int) + x.size := wrap_i64t v4 v5
          have w4 : wrap64 ((i : Int) + 1) = (i : Int) + 1 := wrap_small v8 v9
          clear v2 v3 v5 v8 v9 hqs
          go_wp2
          go_region_held3 (fun v => v.cell? ⟨g, i * 4 + 2, none⟩ = some (.int .i64 L1) ∧ v.cell? ⟨g, i * 4 + 3, none⟩ = some (.int .i64 C1))
            (with_reducible exact SO _ bs)
            (first
            | (go_at_call 14; (with_reducible refine Calls.mono (p1 _) ?_); rintro e w5 ⟨rfl, b4⟩; replace bs := below_more bs b4))
          have z0 := (C0 _ (below_more HB.out bs)).1
          clear SO p1 C0
          go_wp2
          go_quiet (fail)
          go_wp2
          obtain ⟨y1, y2, y3, y4, y5, y6, y7, y8, y9, -⟩ := HY.out
          go_roundg (l.length - (i + 1))
          case measure => clear w1 w2' w3 w4; omega
          case rel => exact ⟨i + 1, q + x.size, by rw [y1], by go_num, by go_num, by clear w1 w2' w3 w4; omega, y5, y7, below_drewN (below_more HB.out bs) _⟩
    · have hi' : ¬ (i : Int) < l.length := by omega
      obtain rfl : i = l.length := by omega
      have eJ : joinB (ktx (l.take l.length)) = J := by rw [List.take_length]; exact HR.out.2.2.2.1
      rw [eJ]
      have T3 := T.below bw
      have bW := below_more bV bw
      clear hg hi hS PL AW HR eJ hp T
      rcases HE with rfl | ⟨hE, hl0⟩
      case' inr =>
        obtain rfl : l = [] := List.eq_nil_of_length_eq_zero hl0
        simp only [List.length_nil] at *
      all_goals
        go_wp2_with (first
          | (go_at_call 9; (with_reducible refine Calls.mono (c2 _) ?_); rintro e w5 ⟨a5, d5, rfl, t5, b5⟩; have bs := b5; have b6 := fun o => bs.alloc bs.size o; have t6 := fun o => t5.below ((Below.refl _ w5).alloc (Nat.le_refl _) o); have T6 := fun o => T3.below (b6 o))
          | (go_at_call 15; (with_reducible refine Calls.mono (S1 _ _ _ _ _ (T6 _) (t6 _)) ?_); rintro e w6 ⟨rfl, b7⟩))
        go_ret
        exact ⟨rfl, below_more bW (below_more (b6 _) b7)⟩
end Go.Proofs.Ytfdheodkipfpeaa
/-
  The statement LexAgain, out of package lex's contracts. Memory that was there stays.
-/
namespace Go.Proofs.Ytfdheodkipfpeaa
open Go.RowKit

theorem law_LexAgain (s : ByteArray) (w : World) (_hs : s.size ≤ maxLen) :
    Calls Try.prog 5 #[.string s] w fun e w' => e = .returned (.bool true) ∧ Below w.heap.size w w' := walk_LexAgain lex_ok sign_okl (lex_awake lex_ok) s w _hs
end Go.Proofs.Ytfdheodkipfpeaa
/-
  Laws of no function: a text of many marks has as many tokens as it may have, and no more. No conditions of the program.
-/
namespace Go.Proofs.Ytfdheodkipfpeaa
open Go.Lib

/-- s begins with n marks '+'. -/
structure Plus (s : ByteArray) (n : Nat) : Prop where
  size : n ≤ s.size
  all : ∀ j, j < n → bt s j = 43
theorem Plus.next {s : ByteArray} {n : Nat} (h : Plus s n) {j : Nat} (hj : j < n) : nextR s j = 43 ∧ nextN s j = 1 := by
  have := h.all j hj
  have e := next_byte (s := s) (i := j) (by omega)
  exact ⟨by omega, e.2⟩
theorem Plus.kind {s : ByteArray} {n : Nat} (h : Plus s n) {j : Nat} (hj : j < n) : kindAt s j = 4 ∧ stepAt s j = 1 := by
  have hs := h.size
  unfold kindAt stepAt
  rw [if_pos (by omega), if_pos (by omega), (h.next hj).1, (h.next hj).2]
  exact ⟨by decide, rfl⟩
theorem Plus.token {s : ByteArray} {n : Nat} (h : Plus s n) {j : Nat} (hj : j < n) : (tokenI s j).2.2.1 = j + 1 ∧ (tokenI s j).2.2.2 = 0 := by
  obtain ⟨k1, k2⟩ := h.kind hj
  unfold tokenI
  rw [if_neg (by rw [k1]; decide), if_neg (by rw [k1]; decide), if_pos k1, k2]
  exact ⟨rfl, rfl⟩
theorem Plus.at {s : ByteArray} {n : Nat} (h : Plus s n) : ∀ j, j ≤ n → At s j 1 ((j : Int) + 1) := by
  have hs := h.size
  intro j
  induction j with
  | zero => intro _; exact At.zero s
  | succ j ih =>
    intro hj
    have := (ih (by omega)).next (by omega)
    rw [(h.next (by omega)).1, (h.next (by omega)).2, if_neg (by decide), if_neg (by decide)] at this
    exact this
theorem Plus.place {s : ByteArray} {n : Nat} (h : Plus s n) {j : Nat} (hj : j < n) : placeI s j = (1, (j : Int) + 1) := by
  have hs := h.size
  have hn := (h.next hj).2
  exact (h.at j (by omega)).here (Int.le_refl _) (by rw [hn]; omega) (by omega)
theorem Plus.run {s : ByteArray} {n : Nat} (h : Plus s n) {n' : Nat} (h1 : n' ≤ n) (h2 : n' ≤ 4000) : ∀ k j out, out.length = j → j ≤ n' → n' - j ≤ k → ∃ out', out'.length = n' ∧ lexF s (s.size + 1) j out = lexF s (s.size + 1) n' out' := by
  have hs := h.size
  intro k
  induction k with
  | zero =>
    intro j out ho hj hk
    obtain rfl : j = n' := by omega
    exact ⟨out, ho, rfl⟩
  | succ k ih =>
    intro j out ho hj hk
    rcases Nat.lt_or_ge j n' with hlt | hge
    · rw [lexF_step (by omega), if_neg (by rw [(h.kind (by omega)).1]; decide), if_neg (by omega), if_neg (fun e => e (h.token (by omega)).2), (h.token (by omega)).1]
      exact ih _ _ (by simp [ho]) (by omega) (by omega)
    · obtain rfl : j = n' := by omega
      exact ⟨out, ho, rfl⟩
/-- Too many. -/
theorem plus_long {s : ByteArray} {n : Nat} (h : Plus s n) (hn : 4000 < n) (hs : s.size ≤ 60000) : lexI s = ([], (1, 4001), 4) := by
  have hz := h.size
  rw [lexI_short hs]
  obtain ⟨out, ho, e⟩ := h.run (n' := 4000) (by omega) (by omega) 4000 0 [] rfl (by omega) (by omega)
  rw [e, lexF_step (by omega), if_neg (by rw [(h.kind (by omega)).1]; decide), if_pos (by omega), h.place hn]
  rfl
/-- As many as there may be. -/
theorem plus_all {s : ByteArray} {n : Nat} (h : Plus s n) (hn : n ≤ 4000) (hz : s.size = n) : ∃ out, out.length = n ∧ lexI s = (out, (0, 0), 0) := by
  rw [lexI_short (by omega)]
  obtain ⟨out, ho, e⟩ := h.run (n' := n) (by omega) hn n 0 [] rfl (by omega) (by omega)
  exact ⟨out, ho, by rw [e, lexF_end (by omega)]⟩
/-- Something behind them that is no token. -/
theorem plus_odd {s : ByteArray} {n : Nat} (h : Plus s n) (hn : n ≤ 4000) (hz : s.size = n + 2) (h1 : bt s n = 32) (h2 : bt s (n + 1) = 35) : lexI s = ([], (1, (n : Int) + 2), if n = 4000 then 4 else 5) := by
  rw [lexI_short (by omega)]
  obtain ⟨out, ho, e⟩ := h.run (n' := n) (by omega) hn n 0 [] rfl (by omega) (by omega)
  have n1 := next_byte (s := s) (i := n) (by omega)
  have n2 := next_byte (s := s) (i := n + 1) (by omega)
  have k1 : kindAt s n = 3 := by unfold kindAt; rw [if_pos (by omega), n1.1, h1]; decide
  have k2 : kindAt s (n + 1) = 0 := by unfold kindAt; rw [if_pos (by omega), n2.1, h2]; decide
  have a1 := (h.at n (Nat.le_refl _)).next (by omega)
  rw [n1.1, n1.2, h1, if_neg (by decide), if_neg (by decide)] at a1
  have p1 : placeI s ((n + 1 : Nat) : Int) = (1, (n : Int) + 1 + 1) := a1.here (Int.le_refl _) (by rw [n2.2]; omega) (by omega)
  have t1 : tokenI s (n + 1) = (0, ⟨#[]⟩, n + 1, 5) := by
    unfold tokenI; rw [if_neg (by rw [k2]; decide), if_neg (by rw [k2]; decide), if_neg (by rw [k2]; decide)]
  rw [e, lexF_step (by omega), if_pos k1, lexF_step (by omega), if_neg (by rw [k2]; decide), p1, t1, ho, show (n : Int) + 1 + 1 = (n : Int) + 2 by omega]
  by_cases h4 : n = 4000
  · rw [if_pos (by omega), if_pos h4]
  · rw [if_neg (by omega), if_pos (by simp), if_neg h4]
end Go.Proofs.Ytfdheodkipfpeaa
/-
  The walk of the statement LexLong, for whatever package lex keeps its contracts: it returns true; memory that was there stays.
-/
namespace Go.Proofs.Ytfdheodkipfpeaa
open Go.RowKit Go.Lib

theorem infoB8 : (Try.prog.info? 5).map (fun i => (i.zero, i.size, i.bytes)) = some (some (.int .u8 0), 1, 1) := by kernel_rfl
/-- i times 43, then 0s. -/
def pl (n i : Nat) : Array Value := (List.replicate i (Value.int .u8 43) ++ List.replicate (n - i) (Value.int .u8 0)).toArray
theorem pl_set {n i : Nat} (h : i < n) : (pl n i).setIfInBounds i (.int .u8 43) = pl n (i + 1) := by
  unfold pl
  obtain ⟨k, hk⟩ : ∃ k, n - i = k + 1 := ⟨n - i - 1, by omega⟩
  rw [hk, show n - (i + 1) = k by omega, List.replicate_succ, List.replicate_succ']
  rw [List.setIfInBounds_toArray, List.set_append_right _ _ (by simp)]
  simp
theorem pl_get {n i : Nat} (h : i < n) : (pl n i)[i]? = some (.int .u8 0) := by
  unfold pl
  obtain ⟨k, hk⟩ : ∃ k, n - i = k + 1 := ⟨n - i - 1, by omega⟩
  rw [hk, List.replicate_succ]
  simp
/-- make([]byte, n). -/
theorem wpl_make_b8 {ops : Array Oper} {rest : List Oper} {o : Oper} {a : Act} {Q : Exit → Act → World → Prop} (l : Operand)
    (ho : o.op = .makeSlice 35 l l) (hgd : o.guard = none) (W w : World) (n : Nat) (N : Int) (hl : a.eval l = .int .i64 N) (hN : N = n) (hle : n ≤ 1000000) (hb : Below W.heap.size W w)
    (h : ∀ g w', W.heap.size ≤ g → BoxC w' g (pl n 0) 5 → Below W.heap.size W w' → wpList Try.prog ops Q rest (a.put o.dst (.slice (some ⟨g, 0, none⟩) n n)) w') : wpList Try.prog ops Q (o :: rest) a w := by
  obtain ⟨i, hi, hz, hs1, hby⟩ := info_parts infoB8
  refine wpList_make_full w hgd l l 35 ho W.heap.size 5 i (.int .u8 0) 1 Try.underlying35 hi hz hs1 .i64 .i64 N N n hl hl hN hN (by rw [hby]; omega) (by unfold maxLen; omega) hb.size ?_
  intro w' h1 h2
  have e : (madeCells (Value.int .u8 0).cells (n * 1)).toList = List.replicate n (Value.int .u8 0) := by
    apply List.ext_getElem?
    intro j
    by_cases hj : j < n
    · simp [madeCells, Value.cells, hj, Nat.mod_one]
    · simp [madeCells, Value.cells, hj]
  rw [e] at h1
  refine h _ w' hb.size ?_ (hb.grown h2 hb.size (fun k e => by cases e))
  rcases h1.2 with ⟨e0, -⟩ | ⟨g', cap, cur, e0, hg0, hg, hc1, hc2, hc3, hc4⟩
  · simp at e0
  · simp only [Value.slice.injEq, Option.some.injEq, Addr.mk.injEq] at e0
    obtain ⟨⟨rfl, -⟩, -, rfl⟩ := e0
    unfold BoxC
    rw [hg]
    have : cur = pl n 0 := by
      unfold pl
      rw [List.replicate_zero, List.nil_append, Nat.sub_zero, ← hc4]
      rw [List.take_of_length_le (by simp; omega)]
    rw [this]

theorem plus_rep (n : Nat) (r : ByteArray) : Plus (⟨(List.replicate n (43 : UInt8)).toArray⟩ ++ r) n := by
  have hz : (⟨(List.replicate n (43 : UInt8)).toArray⟩ : ByteArray).size = n := by show (List.replicate n (43 : UInt8)).toArray.size = n; simp
  refine ⟨by rw [ByteArray.size_append, hz]; omega, fun j hj => ?_⟩
  rw [bt_append_left _ _ (by omega), bt_get (by omega)]
  show ((List.replicate n (43 : UInt8)).toArray[j]'(by simpa using hj)).toNat = 43
  simp
theorem pl_bytes {w : World} {g n : Nat} (B : BoxC w g (pl n n) 5) : Sem.run Try.prog (convert 35 9 (.slice (some ⟨g, 0, none⟩) n n)) w = .ok (.string ⟨(List.replicate n (43 : UInt8)).toArray⟩) w := by
  have h := run_convert_bytes_back (P := Try.prog) w 35 9 5 ⟨g, 0, none⟩ n (List.replicate n (43 : UInt8)) Try.underlying35 Try.underlying5 Try.underlying9 (fun j hj => by
    rw [Go.WideShapes.add_plain, Nat.zero_add, (B.cell j).1]
    have hj' : j < n := by simpa using hj
    unfold pl
    simp [hj'])
  rw [List.length_replicate] at h
  exact h

set_option maxRecDepth 100000 in
set_option maxHeartbeats 8000000 in
theorem walk_LexLong (K : LexOk) (AW : ∀ v, Calls Try.prog 8 #[] v fun e w' => e = .returned (.bool true) ∧ Below v.heap.size v w') (m : Int) (odd : Bool) (w : World) (h0 : (Lit.int .u8 m).wf = true) :
    Calls Try.prog 6 #[.int .u8 m, .bool odd] w fun e w' => e = .returned (.bool true) ∧ Below w.heap.size w w' := by
  obtain ⟨m0, m1⟩ : 0 ≤ m ∧ m < 256 := by simp [Lit.wf, IntKind.min, IntKind.max, IntKind.signed, IntKind.bits] at h0; omega
  obtain ⟨t, ht, t1⟩ : ∃ t : Nat, m % 10 = (t : Int) ∧ t < 10 := ⟨(m % 10).toNat, by omega, by omega⟩
  have hm : Int.tmod m 10 = (t : Int) := by rw [Int.tmod_eq_emod_of_nonneg m0]; exact ht
  obtain ⟨n, hn⟩ : ∃ n : Nat, n = 3995 + t := ⟨_, rfl⟩
  have q1 : (3995 : Int) + t = n := by omega
  have wt : wrap64 (t : Int) = t := wrap_smalls (by omega) (by omega)
  have wn : wrap64 (n : Int) = n := wrap_smalls (by omega) (by omega)
  have HN : Hid (n = 3995 + t ∧ t < 10) := ⟨hn, t1⟩
  have HL : Hid (n ≤ 1000000) := (by clear wt wn; omega : n ≤ 1000000)
  have HW : Hid (wrap64 (n : Int) = n) := wn
  clear h0 hn m0 m1 ht t1
  go_enter Try.func6, Try.ntmps6
  go_wp2_with (first
    | (go_at_call 8; (with_reducible refine Calls.mono (AW _) ?_); rintro e u0 ⟨rfl, b0⟩)
    | (at_make; refine wpl_make_b8 (.tmp 18) rfl rfl w _ n (wrap64 (n : Int)) rfl wn HL.out b0 ?_; intro g w1 hg B1 b1))
  clear AW hm q1 wt wn
  go_loopg [8] n (fun k s8 v => ∃ i : Nat, s8 = .int .i64 i ∧ i + k = n ∧ BoxC v g (pl n i) 5 ∧ Below w.heap.size w v)
  case atStart => exact ⟨0, rfl, by omega, B1, b1⟩
  case round =>
    obtain ⟨i, rfl, hi, B, bv⟩ := hrel
    clear B1 b1 b0
    rcases Nat.lt_or_ge i n with hlt | hge
    · have hlt' : (i : Int) < wrap64 (n : Int) := by rw [HW.out]; omega
      have i0 : 0 ≤ (i : Int) := by omega
      have x0 : wr.cell? ⟨g, i, none⟩ = some (.int .u8 0) := by rw [(B.cell i).1, pl_get hlt]
      have x1 : wr.frozen? ⟨g, i, none⟩ = false := (B.cell i).2
      have HX : Hid (i + gk = n ∧ i < n ∧ BoxC wr g (pl n i) 5 ∧ Below w.heap.size w wr ∧ w.heap.size ≤ g) := ⟨hi, hlt, B, bv, hg⟩
      have hNN := HN.out
      have q2 : 0 ≤ (i : Int) + 1 := by clear hlt'; omega
      have q3 : (i : Int) + 1 < 10000000 := by clear hlt'; omega
      have w1 : wrap64 ((i : Int) + 1) = (i : Int) + 1 := wrap_smalls q2 q3
      have hin' : (i : Int) < n := by clear hlt' w1; omega
      clear hNN q2
      clear hi hlt B bv q3
      go_wp2
      obtain ⟨p1, p2, p3, p4, p5⟩ := HX.out
      clear hlt'
      go_roundg (n - (i + 1))
      case measure => clear w1; omega
      case rel => exact ⟨i + 1, by rw [w1]; go_num, by clear w1; omega, by rw [← pl_set p2]; exact p3.set i _, p4.setCell (p := ⟨g, i, none⟩) p5 _⟩
    · have hlt' : ¬ (i : Int) < wrap64 (n : Int) := by rw [HW.out]; omega
      have hin : i = n := by clear hlt'; omega
      rw [hin] at B
      have CV := pl_bytes B
      obtain ⟨hn1, hn2⟩ := HN.out
      have hW := HW.out
      have hP0 := plus_rep n ⟨#[]⟩
      have hP1 := plus_rep n ⟨#[32, 35]⟩
      have hz0 : (⟨(List.replicate n (43 : UInt8)).toArray⟩ : ByteArray).size = n := by show (List.replicate n (43 : UInt8)).toArray.size = n; simp
      rw [show (⟨(List.replicate n (43 : UInt8)).toArray⟩ ++ ⟨#[]⟩ : ByteArray) = ⟨(List.replicate n (43 : UInt8)).toArray⟩ from by rw [ByteArray.mk_append_mk]; simp] at hP0
      have hz1 : (⟨(List.replicate n (43 : UInt8)).toArray⟩ ++ ⟨#[32, 35]⟩ : ByteArray).size = n + 2 := by rw [ByteArray.size_append, hz0]; rfl
      have hb0 : bt (⟨(List.replicate n (43 : UInt8)).toArray⟩ ++ ⟨#[32, 35]⟩) n = 32 := by
        have := bt_append_right ⟨(List.replicate n (43 : UInt8)).toArray⟩ ⟨#[32, 35]⟩ 0
        rw [hz0, Nat.add_zero] at this
        rw [this]; rfl
      have hb1 : bt (⟨(List.replicate n (43 : UInt8)).toArray⟩ ++ ⟨#[32, 35]⟩) (n + 1) = 35 := by
        have := bt_append_right ⟨(List.replicate n (43 : UInt8)).toArray⟩ ⟨#[32, 35]⟩ 1
        rw [hz0] at this
        rw [this]; rfl
      have C0 := fun v => K.lex ⟨(List.replicate n (43 : UInt8)).toArray⟩ v (by clear hlt' hW; omega)
      have C1 := fun v => K.lex (⟨(List.replicate n (43 : UInt8)).toArray⟩ ++ ⟨#[32, 35]⟩) v (by clear hlt' hW; omega)
      unfold AnsY at C0 C1
      have hsz0 : ((⟨(List.replicate n (43 : UInt8)).toArray⟩ : ByteArray).size : Int) = n := by rw [hz0]
      generalize hG0 : (⟨(List.replicate n (43 : UInt8)).toArray⟩ : ByteArray) = S0 at *
      have k60 : ¬ 60000 < (S0.size : Int) := by clear hlt' hW; omega
      have w2 : wrap64 ((n : Int) + 2) = (n : Int) + 2 := wrap_smalls (by clear hlt' hW; omega) (by clear hlt' hW; omega)
      generalize hNW : wrap64 (n : Int) = N at *
      subst hW
      rcases Nat.lt_or_ge 4000 n with h4 | h4
      · rw [plus_long hP0 h4 (by clear w2 hlt' hNW; omega)] at C0
        rw [plus_long hP1 h4 (by clear w2 hlt' hNW; omega)] at C1
        have k4 : 4000 < (n : Int) := by clear w2 hlt' hNW; omega
        clear hP0 hP1 hz0 hz1 hb0 hb1 hn1 hn2 hi hge hin h4 hG0 hsz0 hNW HW HN HL
        cases odd
        all_goals
          go_wp2_with (first
            | (go_at_call 9; (with_reducible refine Calls.mono (C0 _) ?_); rintro e w3 ⟨a3, c3, rfl, -, b3⟩)
            | (go_at_call 9; (with_reducible refine Calls.mono (C1 _) ?_); rintro e w3 ⟨a3, c3, rfl, -, b3⟩))
          go_ret
          exact ⟨by simp, (below_more bv b3).alloc (below_more bv b3).size _⟩
      · obtain ⟨out, ho, e0⟩ := plus_all hP0 h4 hz0
        rw [e0] at C0
        dsimp only at C0
        rw [ho] at C0
        rw [plus_odd hP1 h4 hz1 hb0 hb1] at C1
        have k4 : ¬ 4000 < (n : Int) := by clear w2 hlt' hNW; omega
        cases odd
        · clear hP0 hP1 hz0 hz1 hb0 hb1 hn1 hn2 hi hge hin h4 hG0 hsz0 hNW HW HN HL C1 e0 ho
          go_wp2_with (go_at_call 9; (with_reducible refine Calls.mono (C0 _) ?_); rintro e w3 ⟨a3, c3, rfl, -, b3⟩)
          go_ret
          exact ⟨by simp, (below_more bv b3).alloc (below_more bv b3).size _⟩
        · by_cases h5 : n = 4000
          · rw [if_pos h5] at C1
            have e5 : ((n : Int) == 4000) = true := by rw [beq_iff_eq]; clear w2 hlt' hNW; omega
            clear hP0 hP1 hz0 hz1 hb0 hb1 hn1 hn2 hi hge hin h4 hG0 hsz0 hNW HW HN HL C0 e0 ho h5
            go_wp2_with (go_at_call 9; (with_reducible refine Calls.mono (C1 _) ?_); rintro e w3 ⟨a3, c3, rfl, -, b3⟩)
            go_ret
            exact ⟨by simp, (below_more bv b3).alloc (below_more bv b3).size _⟩
          · rw [if_neg h5] at C1
            have e5 : ((n : Int) == 4000) = false := by rw [beq_eq_false_iff_ne]; clear w2 hlt' hNW; omega
            clear hP0 hP1 hz0 hz1 hb0 hb1 hn1 hn2 hi hge hin h4 hG0 hsz0 hNW HW HN HL C0 e0 ho h5
            go_wp2_with (go_at_call 9; (with_reducible refine Calls.mono (C1 _) ?_); rintro e w3 ⟨a3, c3, rfl, -, b3⟩)
            go_ret
            exact ⟨by simp, (below_more bv b3).alloc (below_more bv b3).size _⟩
end Go.Proofs.Ytfdheodkipfpeaa
/-
  The statement LexLong, out of package lex's contracts. Memory that was there stays.
-/
namespace Go.Proofs.Ytfdheodkipfpeaa
open Go.RowKit

theorem law_LexLong (m : Int) (odd : Bool) (w : World) (h0 : (Lit.int .u8 m).wf = true) :
    Calls Try.prog 6 #[.int .u8 m, .bool odd] w fun e w' => e = .returned (.bool true) ∧ Below w.heap.size w w' := walk_LexLong lex_ok (lex_awake lex_ok) m odd w h0
end Go.Proofs.Ytfdheodkipfpeaa
/-
  The statement LexFront, out of package lex's contracts. Memory that was there stays.
-/
namespace Go.Proofs.Ytfdheodkipfpeaa
open Go.RowKit

theorem law_LexFront (s : ByteArray) (k : Int) (w : World) (_hs : s.size ≤ maxLen) (h0 : (Lit.int .u8 k).wf = true) :
    Calls Try.prog 7 #[.string s, .int .u8 k] w fun e w' => e = .returned (.bool true) ∧ Below w.heap.size w w' := walk_LexFront lex_ok sign_okl (lex_awake lex_ok) s k w _hs h0
end Go.Proofs.Ytfdheodkipfpeaa
