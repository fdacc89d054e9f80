/-
  Texts of mine in build order. No conditions of their own.
-/
import Derived.Lib.Bytealg
import Derived.Test.YtaeladkcmpdkhaaGreatDoorPack15
set_option maxHeartbeats 8000000
namespace Go.Proofs.YtaeladkcmpdkhaaGreatDoor
section
open Go.RowKit
theorem index_stroke (l : List UInt8) : Go.Lib.indexByte l 124 = if strokeAt l < l.length then (strokeAt l : Int) else -1 := by
 induction l with
 | nil => rfl
 | cons c l ih =>
  unfold Go.Lib.indexByte
  rw [stroke_cons, ih, List.length_cons]
  by_cases h : c = 124
  ·subst h; simp
  ·have h' : (c == 124) = false := by simpa using h
   simp only [h', if_neg h, Bool.false_eq_true, if_false]
   by_cases hl : strokeAt l < l.length
   ·have : (((strokeAt l : Nat) : Int) == -1) = false := by simp
    simp only [if_pos hl, this, Bool.false_eq_true, if_false]
    rw [if_pos (by omega)]; omega
   ·simp only [if_neg hl]
    rw [if_neg (by omega : ¬ strokeAt l + 1 < l.length + 1)]; rfl
set_option maxRecDepth 100000 in
theorem index_byte (s : ByteArray) (w : World) (c : Int) (hc : c = 124) : Calls Tryz.prog 229 #[.string s, .int .u8 c] w fun e w' => e = .returned (.int .i64 (Go.Lib.indexByte s.data.toList 124)) ∧ w = w' := by
 subst hc
 have R := fun v => Go.Lib.run_indexByteString (P := Tryz.prog) s 124 v
 rw [show (124 : Int).toNat.toUInt8 = 124 from rfl] at R
 generalize Go.Lib.indexByte s.data.toList 124 = I at *
 go_enter Tryz.func229, Tryz.ntmps229
 go_wp2
 rw [run_callFunc_extern Tryz.func237 (by kernel_rfl) (by kernel_rfl) (by kernel_rfl) (e := Extern.BytealgIndexByte.indexByte) (by kernel_rfl), R]
 simp only [Result.andThen]
 rw [Oper.upon_value]
 go_wp2
 go_ret
 exact ⟨rfl, rfl⟩
set_option maxRecDepth 100000 in
theorem index_at (s : ByteArray) (w : World) (I : Int) (hI : Go.Lib.indexByte s.data.toList 124 = I) :
  Calls Tryz.prog 230 #[.string s, .string ⟨#[124]⟩] w fun e w' => e = .returned (.int .i64 I) ∧ w = w' := by
 have B := fun v c hc => index_byte s v c hc
 have h0 : ([124] == s.toList) = true ∧ I = 0 ∨ ([124] == s.toList) = false := by
  cases h : ([124] == s.toList)
  ·exact .inr rfl
  ·refine .inl ⟨rfl, ?_⟩
   have e : s.data.toList = [124] := by rw [← ByteArray.toList_eq]; exact (beq_iff_eq.1 h).symm
   rw [← hI, e]; rfl
 rw [hI] at B
 clear hI
 rcases h0 with ⟨h0, rfl⟩ | h0
 all_goals
  go_enter Tryz.func230, Tryz.ntmps230
  go_wp2_with (go_at_call 229; (with_reducible refine Calls.mono (B _ _ (by decide)) ?_); rintro e w1 ⟨rfl, rfl⟩)
  go_ret
  exact ⟨rfl, rfl⟩
theorem cut_no (s : ByteArray) (w : World) (h : ¬ strokeAt s.data.toList < s.size) : Calls Tryz.prog 201 #[.string s, .string ⟨#[124]⟩] w fun e w' => e = .returned (.tuple #[.string s, .string ⟨#[]⟩, .bool false]) ∧ Below w.heap.size w w' := by
 have X := fun v => index_at s v (-1) (by rw [index_stroke, if_neg (by simpa using h)])
 have C : ∀ v, Calls Tryz.prog 219 #[.string s, .string ⟨#[124]⟩] v fun e w' => e = .returned (.tuple #[.string s, .string ⟨#[]⟩, .bool false]) ∧ Below v.heap.size v w' := by
  intro v
  go_enter Tryz.func219, Tryz.ntmps219
  go_wp2_with (go_at_call 230; (with_reducible refine Calls.mono (X _) ?_); rintro e w1 ⟨rfl, rfl⟩)
  go_ret3
  exact ⟨rfl, Below.refl _ _⟩
 go_enter Tryz.func201, Tryz.ntmps201
 go_wp2_with (go_at_call 219; (with_reducible refine Calls.mono (C _) ?_); rintro e w1 ⟨rfl, d1⟩)
 go_ret3
 exact ⟨rfl, d1⟩
theorem cut_yes (s : ByteArray) (hs : s.size ≤ maxLen) (w : World) (A : Nat) (hA : strokeAt s.data.toList = A) (h : A < s.size) : Calls Tryz.prog 201 #[.string s, .string ⟨#[124]⟩] w fun e w' => e = .returned (.tuple #[.string (s.extract 0 A), .string (s.extract (A + 1) s.size), .bool true]) ∧ Below w.heap.size w w' := by
 have X := fun v => index_at s v (A : Int) (by rw [index_stroke, hA, if_pos (by simpa using h)])
 have C : ∀ v, Calls Tryz.prog 219 #[.string s, .string ⟨#[124]⟩] v fun e w' => e = .returned (.tuple #[.string (s.extract 0 A), .string (s.extract (A + 1) s.size), .bool true]) ∧ Below v.heap.size v w' := by
  intro v
  unfold maxLen at hs
  have c1 : (0 : Int) ≤ (A : Int) := by omega
  have c2 : (A : Int) ≤ (s.size : Int) := by omega
  have c3 : (0 : Int) ≤ (A : Int) + 1 := by omega
  have c4 : (A : Int) + 1 ≤ (s.size : Int) := by omega
  have c5 : IntKind.i64.wrap ((A : Int) + 1) = (A : Int) + 1 := by rw [IntKind.wrap_i64]; omega
  clear hA h hs
  go_enter Tryz.func219, Tryz.ntmps219
  go_wp2_with (go_at_call 230; (with_reducible refine Calls.mono (X _) ?_); rintro e w1 ⟨rfl, rfl⟩)
  go_quiet (fail)
  go_wp2
  go_ret3
  exact ⟨rfl, below_drewN (Below.refl _ _) _⟩
 clear hA h hs X
 go_enter Tryz.func201, Tryz.ntmps201
 go_wp2_with (go_at_call 219; (with_reducible refine Calls.mono (C _) ?_); rintro e w1 ⟨rfl, d1⟩)
 go_ret3
 exact ⟨rfl, d1⟩
theorem cut_parts (s : ByteArray) (hs : s.size ≤ maxLen) : ∃ (f u : ByteArray) (ct : Bool), (∀ v, Calls Tryz.prog 201 #[.string s, .string ⟨#[124]⟩] v fun e w' => e = .returned (.tuple #[.string f, .string u, .bool ct]) ∧ Below v.heap.size v w') ∧ f.data.toList = frontR s.data.toList ∧ f.size ≤ maxLen ∧ u.size ≤ maxLen ∧ (ct = false ∧ restR s.data.toList = [] ∨ ct = true ∧ ∃ c, restR s.data.toList = c :: u.data.toList) := by
 have hsz : s.data.toList.length = s.size := by simp
 have hle := stroke_le s.data.toList
 rw [hsz] at hle
 by_cases h : strokeAt s.data.toList < s.size
 ·refine ⟨_, _, true, fun v => cut_yes s hs v _ rfl h, ?_, ?_, ?_, .inr ⟨rfl, s[strokeAt s.data.toList], ?_⟩⟩
  ·rw [extract_front, front_take]
  ·rw [ByteArray.size_extract]; omega
  ·rw [ByteArray.size_extract]; omega
  ·rw [rest_drop, extract_rest]; exact drop_byte s _ h
 ·refine ⟨_, _, false, fun v => cut_no s v h, ?_, hs, Nat.zero_le _, .inl ⟨rfl, ?_⟩⟩
  ·rw [front_take, List.take_of_length_le (by omega)]
  ·rw [rest_drop, List.drop_of_length_le (by omega)]
theorem rat_parse (s : ByteArray) (w : World) (hs : s.size ≤ maxLen) : Calls Tryz.prog 188 #[.string s] w (AnsTE w (parT s.data.toList) (parE s.data.toList)) := by
 obtain ⟨f, u, ct, CU, hf, lf, lu, hc⟩ := cut_parts s hs
 have P1 := fun v => whole_parse f v lf
 have P2 := fun v => deci_parse u v lu
 rw [hf] at P1
 have lz : nl (znum (frontR s.data.toList)).natAbs ≤ 1001 := by unfold znum; rw [iv_abs]; exact pnum_words _
 have lu2 : nl (pnum u.data.toList) ≤ 1001 := pnum_words _
 unfold AnsIP at P1
 unfold AnsP at P2
 obtain ⟨b1, bV, hs⟩ := boxes1 w #[.bool false, .slice none 0 0, .slice none 0 0] 45
 by_cases hz : zerr (frontR s.data.toList) = 0
 case neg =>
  obtain ⟨e1, e2⟩ := par_err hz
  rw [e1, e2]
  have hz2 : (zerr (frontR s.data.toList) == 0) = false := by simpa using hz
  generalize zerr (frontR s.data.toList) = E1 at *
  generalize znum (frontR s.data.toList) = Z at *
  generalize decide (Z < 0) = gZ at *
  generalize Z.natAbs = NZ at *
  clear hf lf lu hc lz lu2 e1 e2 hz P2
  go_enter Tryz.func188, Tryz.ntmps188
  go_wp2_with (first
   | (go_at_call 201; (with_reducible refine Calls.mono (CU _) ?_); rintro e w0 ⟨rfl, d0⟩)
   | (go_at_call 202; (with_reducible refine Calls.mono (P1 _) ?_); rintro e w1 ⟨a1, c1, rfl, o1⟩; have d1 := below_more d0 o1.below; obtain ⟨y0, y1, y2, g0, g1, g2⟩ := (b1.more d1).cells3; have R := fun o => ((b1.more d1).alloc o).cells3; have u0 := fun o => (R o).1; have u1 := fun o => (R o).2.1; have u2 := fun o => (R o).2.2.1; have v0 := fun o => (R o).2.2.2.1; have v1 := fun o => (R o).2.2.2.2.1; have v2 := fun o => (R o).2.2.2.2.2; clear R))
  have bw := below_more bV d1
  have q := fun x y z o => (((b1.more d1).alloc o).set3 x y z).cells3
  have q0 := fun x y z o => (q x y z o).1
  have q1 := fun x y z o => (q x y z o).2.1
  have q2 := fun x y z o => (q x y z o).2.2.1
  exact bodyPost_ret (v := .tuple #[.agg #[.bool false, .slice none 0 0, .slice none 0 0], .int .i64 E1]) (by simp [results, Tryz.results188, go_sem, q0, q1, q2]) rfl (ansTE_no (below_set3 (bw.alloc bw.size _) (by omega) _ _ _))
 rw [hz] at P1
 rcases hc with ⟨rfl, hr⟩ | ⟨rfl, c, hr⟩
 ·obtain ⟨e1, e2⟩ := par_none hz hr
  rw [e1, e2]
  have O := fun v => whole_of 1 v (by omega) (by omega)
  unfold AnsI at O
  rw [show decide ((1 : Int) < 0) = false from rfl, show (1 : Int).natAbs = 1 from rfl] at O
  have l1 : nl 1 ≤ 1 := nl_le 1 1 (by omega)
  have MK := fun v a1 c1 a2 c2 (p : IsWords v (.slice a1 (nl (znum (frontR s.data.toList)).natAbs) c1) (natOf (znum (frontR s.data.toList)).natAbs)) (p' : IsWords v (.slice a2 (nl 1) c2) (natOf 1)) => rat_make (s := decide (znum (frontR s.data.toList) < 0)) (t := false) p (wd_natOf _) p' (wd_natOf _) (by omega) (by omega)
  simp only [val_natOf] at MK
  generalize mkT (decide (znum (frontR s.data.toList) < 0)) (znum (frontR s.data.toList)).natAbs false 1 = tt at *
  generalize mkE 1 = EE at *
  obtain ⟨t0, tN, tD⟩ := tt
  unfold AnsTE at MK
  dsimp only at MK
  generalize znum (frontR s.data.toList) = Z at *
  generalize decide (Z < 0) = gZ at *
  generalize Z.natAbs = NZ at *
  generalize nl 1 = one at *
  clear hf lf lu lz lu2 e1 e2 hz P2 hr l1
  go_enter Tryz.func188, Tryz.ntmps188
  go_wp2_with (first
   | (go_at_call 201; (with_reducible refine Calls.mono (CU _) ?_); rintro e w0 ⟨rfl, d0⟩)
   | (go_at_call 202; (with_reducible refine Calls.mono (P1 _) ?_); rintro e w1 ⟨a1, c1, rfl, o1⟩))
  have d1 := below_more d0 o1.below
  have BN := BoxC.new w1 #[.bool gZ, .slice a1 (nl NZ) c1] 83
  have BR := (b1.more d1).alloc (.cells #[.bool gZ, .slice a1 (nl NZ) c1] 83)
  have o4 := (o1.outer (below_more bV d0)).alloc (.cells #[.bool gZ, .slice a1 (nl NZ) c1] 83)
  have hk3 : w.heap.size < w1.heap.size := (b1.more d1).lt
  clear o1 d0 d1 b1 bV hs CU P1
  generalize w1.heap.size = k3 at *
  generalize w1.alloc (.cells #[.bool gZ, .slice a1 (nl NZ) c1] 83) = V at *
  have SO := fun v (hb : Below V.heap.size V v) => (show v.cell? ⟨k3, 0, none⟩ = some (.bool gZ) ∧ v.cell? ⟨k3, 1, none⟩ = some (.slice a1 (nl NZ) c1) from ⟨(BN.more hb).cells2.1, (BN.more hb).cells2.2.1⟩)
  have SR := fun v (hb : Below V.heap.size V v) x0 x1 x2 => (show (((v.setCell ⟨w.heap.size, 0, none⟩ x0).setCell ⟨w.heap.size, 1, none⟩ x1).setCell ⟨w.heap.size, 2, none⟩ x2).cell? ⟨k3, 0, none⟩ = some (.bool gZ) ∧ (((v.setCell ⟨w.heap.size, 0, none⟩ x0).setCell ⟨w.heap.size, 1, none⟩ x1).setCell ⟨w.heap.size, 2, none⟩ x2).cell? ⟨k3, 1, none⟩ = some (.slice a1 (nl NZ) c1) from ⟨(((((BN.more hb).other (by omega) _).other (by omega) _).other (by omega) _)).cells2.1, (((((BN.more hb).other (by omega) _).other (by omega) _).other (by omega) _)).cells2.2.1⟩)
  have bs : Below V.heap.size V V.drew := (Below.refl _ _).drew
  clear BN
  go_region_held3 (fun v => v.cell? ⟨k3, 0, none⟩ = some (.bool gZ) ∧ v.cell? ⟨k3, 1, none⟩ = some (.slice a1 (nl NZ) c1))
   (first | with_reducible exact SO _ bs | with_reducible exact SR _ bs _ _ _)
   (first
   | (go_at_call 204; (with_reducible refine Calls.mono (O _) ?_); rintro e w2 ⟨a2, c2, rfl, o2⟩; replace bs := below_more bs o2.below)
   | (go_at_call 203; (with_reducible refine Calls.mono (MK _ _ _ _ _ (o4.more bs).words o2.words) ?_); rintro e w9 ⟨a8, c8, a9, c9, rfl, o8, o9⟩; have d9 := o8.below; replace o8 := o8.outer (below_more o4.below bs); replace o9 := o9.outer (below_more o4.below bs); replace bs := below_more bs d9; obtain ⟨y0, y1, y2, g0, g1, g2⟩ := (BR.more bs).cells3))
  all_goals
   go_wp2
   exact bodyPost_ret (v := .tuple #[.agg #[.bool t0, .slice a8 (nl tN) c8, .slice a9 (nl tD) c9], .int .i64 EE]) (by simp [results, Tryz.results188, go_sem, y0, y1, y2]) rfl (ansTE_mk (o8.box3 (BR.more bs) rat_ne_u32 (by omega) _ _ _) (o9.box3 (BR.more bs) rat_ne_u32 (by omega) _ _ _))
 ·by_cases hp : perr u.data.toList = 0
  case neg =>
   obtain ⟨e1, e2⟩ := par_rest hz hr hp
   rw [e1, e2]
   have hp2 : (perr u.data.toList == 0) = false := by simpa using hp
   generalize perr u.data.toList = E1 at *
   generalize pnum u.data.toList = NP at *
   generalize znum (frontR s.data.toList) = Z at *
   generalize decide (Z < 0) = gZ at *
   generalize Z.natAbs = NZ at *
   clear hf lf lu lz lu2 e1 e2 hz hp hr
   go_enter Tryz.func188, Tryz.ntmps188
   go_wp2_with (first
    | (go_at_call 201; (with_reducible refine Calls.mono (CU _) ?_); rintro e w0 ⟨rfl, d0⟩)
    | (go_at_call 202; (with_reducible refine Calls.mono (P1 _) ?_); rintro e w1 ⟨a1, c1, rfl, o1⟩; have d1 := below_more d0 o1.below; have bw := fun o => (below_more bV d1).alloc (below_more bV d1).size o; have BW := fun o => (b1.more d1).alloc o)
    | (go_at_call 205; (with_reducible refine Calls.mono (P2 _) ?_); rintro e w2 ⟨a2, c2, rfl, o2⟩; have d2 := o2.below; obtain ⟨y0, y1, y2, g0, g1, g2⟩ := ((BW _).more d2).cells3))
   exact bodyPost_ret (v := .tuple #[.agg #[.bool false, .slice none 0 0, .slice none 0 0], .int .i64 E1]) (by simp [results, Tryz.results188, go_sem, y0, y1, y2]) rfl (ansTE_no (below_set3 (below_more (bw _) d2) (by omega) _ _ _))
  obtain ⟨e1, e2⟩ := par_both hz hr hp
  rw [e1, e2]
  rw [hp] at P2
  have MK := fun v a1 c1 a2 c2 (p : IsWords v (.slice a1 (nl (znum (frontR s.data.toList)).natAbs) c1) (natOf (znum (frontR s.data.toList)).natAbs)) (p' : IsWords v (.slice a2 (nl (pnum u.data.toList)) c2) (natOf (pnum u.data.toList))) => rat_make (s := decide (znum (frontR s.data.toList) < 0)) (t := false) p (wd_natOf _) p' (wd_natOf _) (by omega) (by omega)
  simp only [val_natOf] at MK
  generalize mkT (decide (znum (frontR s.data.toList) < 0)) (znum (frontR s.data.toList)).natAbs false (pnum u.data.toList) = tt at *
  generalize mkE (pnum u.data.toList) = EE at *
  obtain ⟨t0, tN, tD⟩ := tt
  unfold AnsTE at MK
  dsimp only at MK
  generalize pnum u.data.toList = NP at *
  generalize znum (frontR s.data.toList) = Z at *
  generalize decide (Z < 0) = gZ at *
  generalize Z.natAbs = NZ at *
  clear hf lf lu lz lu2 e1 e2 hz hp hr
  go_enter Tryz.func188, Tryz.ntmps188
  go_wp2_with (first
   | (go_at_call 201; (with_reducible refine Calls.mono (CU _) ?_); rintro e w0 ⟨rfl, d0⟩)
   | (go_at_call 202; (with_reducible refine Calls.mono (P1 _) ?_); rintro e w1 ⟨a1, c1, rfl, o1⟩; have d1 := below_more d0 o1.below; have o3 := o1.outer (below_more bV d0); have bw := fun o => (below_more bV d1).alloc (below_more bV d1).size o; have BW := fun o => (b1.more d1).alloc o; have BN := BoxC.new w1 #[.bool gZ, .slice a1 (nl NZ) c1] 83)
   | (go_at_call 205; (with_reducible refine Calls.mono (P2 _) ?_); rintro e w2 ⟨a2, c2, rfl, o2⟩; have d2 := o2.below; obtain ⟨x0, x1, -, -⟩ := (BN.more d2).cells2)
   | (go_at_call 203; (with_reducible refine Calls.mono (MK _ _ _ _ _ ((o3.alloc _).more d2).words o2.words) ?_); rintro e w9 ⟨a8, c8, a9, c9, rfl, o8, o9⟩; have d9 := o8.below; replace o8 := o8.outer (below_more (bw _) d2); replace o9 := o9.outer (below_more (bw _) d2); have BR := ((BW _).more d2).more d9; obtain ⟨y0, y1, y2, g0, g1, g2⟩ := BR.cells3))
  exact bodyPost_ret (v := .tuple #[.agg #[.bool t0, .slice a8 (nl tN) c8, .slice a9 (nl tD) c9], .int .i64 EE]) (by simp [results, Tryz.results188, go_sem, y0, y1, y2]) rfl (ansTE_mk (o8.box3 (BR) rat_ne_u32 (by omega) _ _ _) (o9.box3 (BR) rat_ne_u32 (by omega) _ _ _))
end
section
open Go.RowKit Go.Lib
theorem place_zero (s : ByteArray) : placeI s 0 = (1, 1) := by
 rcases Nat.eq_zero_or_pos s.size with h | h
 ·have := At.last (s := s) (by rw [h]; exact At.zero s) (at_ := 0) (by omega)
  exact this
 ·have hn := next_size h
  exact (At.zero s).here (by omega) (by omega) h
theorem BoxC.iterAt {v : World} {k g : Nat} {cs : Array Value} {T : TypeId} (h : BoxC v k cs T) (s : ByteArray) (pos : Nat) (hk : k ≠ g) : BoxC (v.iterAt g s pos) k cs T := (iterAt_other v g k s pos hk).trans h
theorem iter_set {v : World} {k g i : Nat} {s : ByteArray} {pos : Nat} (h : v.heap[k]? = some (.stringIter s pos)) (hk : k ≠ g) (x : Value) : (v.setCell ⟨g, i, none⟩ x).heap[k]? = some (.stringIter s pos) := by
 rw [Below.heap_setCell v ⟨g, i, none⟩ x k (by simpa using hk)]; exact h
end
section
open Go.RowKit Go.Lib
theorem placeF_above (s : ByteArray) {j : Int} (h : (s.size : Int) ≤ j) : ∀ f i l c, placeF s j f i l c = placeF s s.size f i l c := by
 intro f
 induction f with
 | zero => intro i l c; rfl
 | succ f ih =>
  intro i l c
  unfold placeF
  by_cases hi : i < s.size
  ·have := next_size hi
   rw [if_pos hi, if_pos hi, if_neg (show ¬ j < (i : Int) + nextN s i by omega), if_neg (show ¬ (s.size : Int) < (i : Int) + nextN s i by omega), ih]
  ·rw [if_neg hi, if_neg hi]
theorem sign_place (s : ByteArray) (j : Int) (w : World) (hs : s.size ≤ 1000000) (hj0 : -9223372036854775808 ≤ j) (hj1 : j < 9223372036854775808) :
  Calls Tryz.prog 70 #[.string s, .int .i64 j] w (AnsL w (placeI s j)) := by
 obtain ⟨a, ha, hp, hc⟩ : ∃ a : Nat, a ≤ s.size ∧ placeI s j = placeI s a ∧ ((j < 0 ∧ a = 0) ∨ (¬ j < 0 ∧ ¬ (s.size : Int) < j ∧ j = a) ∨ (¬ j < 0 ∧ (s.size : Int) < j ∧ a = s.size)) := by
  rcases (by omega : j < 0 ∨ (0 ≤ j ∧ j ≤ s.size) ∨ (0 ≤ j ∧ (s.size : Int) < j)) with h | ⟨h0, h⟩ | ⟨h0, h⟩
  ·exact ⟨0, Nat.zero_le _, (place_low s h).trans (place_zero s).symm, .inl ⟨h, rfl⟩⟩
  ·obtain ⟨a, rfl⟩ := Int.eq_ofNat_of_zero_le h0
   exact ⟨a, by omega, rfl, .inr (.inl ⟨by omega, by omega, rfl⟩)⟩
  ·exact ⟨s.size, Nat.le_refl _, placeF_above s (Int.le_of_lt h) _ _ _ _, .inr (.inr ⟨by omega, h, rfl⟩)⟩
 rw [hp]
 clear hp hj0 hj1
 generalize hP : placeI s a = P
 have HP : Hid (placeI s a = P ∧ a ≤ s.size ∧ s.size ≤ 1000000) := ⟨hP, ha, hs⟩
 clear hP ha hs
 obtain ⟨B1, B2, B3, bV, hb⟩ := boxes3 w #[.int .i64 0, .int .i64 0] #[.int .i64 0, .int .i64 0] #[.int .i64 1, .int .i64 1] 34 34 34
 have hV : (((w.alloc (.cells #[.int .i64 0, .int .i64 0] 34)).alloc (.cells #[.int .i64 0, .int .i64 0] 34)).alloc (.cells #[.int .i64 1, .int .i64 1] 34)).heap.size = w.heap.size + 1 + 1 + 1 := by simp [World.size_alloc]
 clear hb
 rcases hc with ⟨c1, c2⟩ | ⟨c1, c2, rfl⟩ | ⟨c1, c2, c3⟩
 ·go_enter Tryz.func70, Tryz.ntmps70
  go_wp2
  generalize ((w.alloc (.cells #[.int .i64 0, .int .i64 0] 34)).alloc (.cells #[.int .i64 0, .int .i64 0] 34)).alloc (.cells #[.int .i64 1, .int .i64 1] 34) = V at *
  have hit0 := iter_new V s
  have bI := below_more bV (below_iter V s 0)
  have BI1 := B1.more (below_iter V s 0)
  have BI2 := B2.more (below_iter V s 0)
  have BI3 := B3.more (below_iter V s 0)
  rw [hV] at hit0
  clear B1 B2 B3 bV hV
  go_loopg [7] s.size (fun g _ v => ∃ (pos : Nat) (l c l0 c0 : Int), pos + g = s.size ∧ v.heap[w.heap.size + 1 + 1 + 1]? = some (.stringIter s pos) ∧ BoxC v w.heap.size #[.int .i64 0, .int .i64 0] 34 ∧ BoxC v (w.heap.size + 1) #[.int .i64 l0, .int .i64 c0] 34 ∧ BoxC v (w.heap.size + 1 + 1) #[.int .i64 l, .int .i64 c] 34 ∧ Below w.heap.size w v ∧ At s pos l c ∧ 1 ≤ l ∧ l ≤ pos + 1 ∧ 1 ≤ c ∧ c ≤ pos + 1 ∧ (pos ≤ a ∨ (l0, c0) = P))
  case atStart => exact ⟨0, 1, 1, 0, 0, by omega, hit0, BI1, BI2, BI3, bI, At.zero s, by omega, by omega, by omega, by omega, .inl (Nat.zero_le _)⟩
  case round =>
   obtain ⟨pos, l, c, l0, c0, hg, hit, X1, X2, X3, bw, hA, hl1, hl2, hc1, hc2, hp⟩ := hrel
   clear hit0 BI1 BI2 BI3 bI
   obtain ⟨h1, h2, h3⟩ := HP.out
   rcases Nat.lt_or_ge pos s.size with hs | hs
   ·have hnx : ∀ ty, (Instr.next (.pointer (some ⟨w.heap.size + 1 + 1 + 1, 0, none⟩)) true ty).run Tryz.prog wr = .ok (.tuple #[.bool true, .int .i64 pos, .int .i32 (nextR s pos)]) (wr.iterAt (w.heap.size + 1 + 1 + 1) s (pos + nextN s pos)) := fun ty => run_next_any_at wr (w.heap.size + 1 + 1 + 1) s pos ty hit hs
    have hi2 := iterAt_heap wr (w.heap.size + 1 + 1 + 1) s pos (pos + nextN s pos) hit
    have bw2 := below_iterAt bw (show w.heap.size ≤ w.heap.size + 1 + 1 + 1 by omega) s (pos + nextN s pos)
    have Y1 := X1.iterAt (g := w.heap.size + 1 + 1 + 1) s (pos + nextN s pos) (by omega)
    have Y2 := X2.iterAt (g := w.heap.size + 1 + 1 + 1) s (pos + nextN s pos) (by omega)
    have Y3 := X3.iterAt (g := w.heap.size + 1 + 1 + 1) s (pos + nextN s pos) (by omega)
    have hz := next_size hs
    by_cases hpa : a < pos
    ·have hpa' : 0 < (pos : Int) := by omega
     have hlc : (l0, c0) = P := by rcases hp with hp | hp; omega; exact hp
     subst hlc
     obtain ⟨x0, x1, x2, x3⟩ := Y1.cells2
     obtain ⟨y0, y1, y2, y3⟩ := Y2.cells2
     generalize wr.iterAt (w.heap.size + 1 + 1 + 1) s (pos + nextN s pos) = wi at *
     clear hit X1 X2 X3 bw hA hp hpa Y1 Y2 Y3 hi2 hz h1 h2 h3 c1 c2
     go_wp2
     exact bodyPost_ret (v := .agg #[.int .i64 l0, .int .i64 c0]) (by simp [results, Tryz.results70, go_sem, x0, x1]) rfl ⟨rfl, (bw2.setCell (p := ⟨w.heap.size, 0, none⟩) (Nat.le_refl _) _).setCell (p := ⟨w.heap.size, 1, none⟩) (Nat.le_refl _) _⟩
    ·have hpa' : ¬ 0 < (pos : Int) := by omega
     have HA : Hid (At s (pos + nextN s pos) (if nextR s pos = 10 then l + 1 else l) (if nextR s pos = 10 then 1 else c + 1)) := hA.next hs
     have HE : Hid (pos + nextN s pos ≤ a ∨ (l, c) = P) := by
      rcases Nat.lt_or_ge a (pos + nextN s pos) with q | q
      ·exact .inr ((hA.here (at_ := (a : Int)) (by omega) (by omega) hs).symm.trans h1)
      ·exact .inl q
     have HB : Hid (pos + gk = s.size ∧ pos + nextN s pos ≤ s.size ∧ 1 ≤ nextN s pos ∧ nextN s pos ≤ 4 ∧ 1 ≤ l ∧ l ≤ pos + 1 ∧ 1 ≤ c ∧ c ≤ pos + 1) := ⟨hg, hz.2.2, hz.1, hz.2.1, hl1, hl2, hc1, hc2⟩
     have CB := fun v => sign_behind l c (nextR s pos) (by omega) (by omega) (by omega) (by omega) v
     generalize wr.iterAt (w.heap.size + 1 + 1 + 1) s (pos + nextN s pos) = wi at *
     generalize nextR s pos = R at *
     generalize nextN s pos = M at *
     clear hit X1 X2 X3 bw hA hp hpa hz h1 h2 h3 hl1 hl2 hc1 hc2 hg c1 c2
     unfold AnsL at CB
     obtain ⟨p0, p1, p2, p3⟩ := Y3.drew.cells2
     obtain ⟨q0, q1, q2, q3⟩ := Y2.drew.cells2
     by_cases h10 : R = 10
     ·have HA2 : Hid (At s (pos + M) (l + 1) (1)) := by have := HA.out; rw [if_pos h10, if_pos h10] at this; exact this
      rw [if_pos h10, if_pos h10] at CB
      dsimp only at CB
      clear HA h10
      go_wp2
      go_region_with (go_at_call 105; (with_reducible refine Calls.mono (CB _) ?_); rintro e w4' ⟨rfl, b4⟩; obtain ⟨p0, p1, p2, p3⟩ := (Y3.drew.more b4).cells2; obtain ⟨q0, q1, q2, q3⟩ := (Y2.drew.more b4).cells2)
      all_goals
       go_wp2
       have hB := HB.out
       have m1 : w.heap.size ≤ w.heap.size + 1 := by omega
       have m2 : w.heap.size ≤ w.heap.size + 1 + 1 := by omega
       go_roundg (s.size - (pos + M))
       case measure => omega
       case rel => exact ⟨pos + M, l + 1, 1, l, c, by omega, iter_set (iter_set (iter_set (iter_set (iter_more (show wi.drew.heap[w.heap.size + 1 + 1 + 1]? = _ from hi2) b4) (by omega) _) (by omega) _) (by omega) _) (by omega) _, (((((Y1.drew.more b4).other (by omega) _).other (by omega) _).other (by omega) _).other (by omega) _), (((((Y2.drew.more b4).set 0 (.int .i64 l)).set 1 (.int .i64 c)).other (by omega) _).other (by omega) _), (((((Y3.drew.more b4).other (by omega) _).other (by omega) _).set 0 (.int .i64 (l + 1))).set 1 (.int .i64 (1))), (((((below_more bw2.drew b4).setCell (p := ⟨w.heap.size + 1, 0, none⟩) m1 _).setCell (p := ⟨w.heap.size + 1, 1, none⟩) m1 _).setCell (p := ⟨w.heap.size + 1 + 1, 0, none⟩) m2 _).setCell (p := ⟨w.heap.size + 1 + 1, 1, none⟩) m2 _), HA2.out, by omega, by omega, by omega, by omega, HE.out⟩
     ·have HA2 : Hid (At s (pos + M) (l) (c + 1)) := by have := HA.out; rw [if_neg h10, if_neg h10] at this; exact this
      rw [if_neg h10, if_neg h10] at CB
      dsimp only at CB
      clear HA h10
      go_wp2
      go_region_with (go_at_call 105; (with_reducible refine Calls.mono (CB _) ?_); rintro e w4' ⟨rfl, b4⟩; obtain ⟨p0, p1, p2, p3⟩ := (Y3.drew.more b4).cells2; obtain ⟨q0, q1, q2, q3⟩ := (Y2.drew.more b4).cells2)
      all_goals
       go_wp2
       have hB := HB.out
       have m1 : w.heap.size ≤ w.heap.size + 1 := by omega
       have m2 : w.heap.size ≤ w.heap.size + 1 + 1 := by omega
       go_roundg (s.size - (pos + M))
       case measure => omega
       case rel => exact ⟨pos + M, l, c + 1, l, c, by omega, iter_set (iter_set (iter_set (iter_set (iter_more (show wi.drew.heap[w.heap.size + 1 + 1 + 1]? = _ from hi2) b4) (by omega) _) (by omega) _) (by omega) _) (by omega) _, (((((Y1.drew.more b4).other (by omega) _).other (by omega) _).other (by omega) _).other (by omega) _), (((((Y2.drew.more b4).set 0 (.int .i64 l)).set 1 (.int .i64 c)).other (by omega) _).other (by omega) _), (((((Y3.drew.more b4).other (by omega) _).other (by omega) _).set 0 (.int .i64 (l))).set 1 (.int .i64 (c + 1))), (((((below_more bw2.drew b4).setCell (p := ⟨w.heap.size + 1, 0, none⟩) m1 _).setCell (p := ⟨w.heap.size + 1, 1, none⟩) m1 _).setCell (p := ⟨w.heap.size + 1 + 1, 0, none⟩) m2 _).setCell (p := ⟨w.heap.size + 1 + 1, 1, none⟩) m2 _), HA2.out, by omega, by omega, by omega, by omega, HE.out⟩
   ·have hnx : ∀ ty, (Instr.next (.pointer (some ⟨w.heap.size + 1 + 1 + 1, 0, none⟩)) true ty).run Tryz.prog wr = .ok (.tuple #[.bool false]) wr := fun ty => run_next_end_at wr (w.heap.size + 1 + 1 + 1) s pos ty hit (by omega)
    obtain rfl : pos = s.size := by omega
    obtain ⟨x0, x1, x2, x3⟩ := X1.cells2
    obtain ⟨y0, y1, y2, y3⟩ := X2.cells2
    obtain ⟨z0, z1, z2, z3⟩ := X3.cells2
    by_cases hpa : a = s.size
    ·have e : (0 == (s.size : Int)) = true := by rw [beq_iff_eq]; omega
     have hlc : (l, c) = P := by rw [← h1, hpa]; exact (hA.last (Int.le_refl _)).symm
     subst hlc
     clear hit X1 X2 X3 hA hp hpa h1 h2 h3 hg hs hl1 hl2 hc1 hc2 c1 c2
     go_wp2
     exact bodyPost_ret (v := .agg #[.int .i64 l, .int .i64 c]) (by simp [results, Tryz.results70, go_sem, x0, x1]) rfl ⟨rfl, (bw.setCell (p := ⟨w.heap.size, 0, none⟩) (Nat.le_refl _) _).setCell (p := ⟨w.heap.size, 1, none⟩) (Nat.le_refl _) _⟩
    ·have e : (0 == (s.size : Int)) = false := by rw [beq_eq_false_iff_ne]; omega
     have hlc : (l0, c0) = P := by rcases hp with hp | hp; omega; exact hp
     subst hlc
     clear hit X1 X2 X3 hA hp hpa h1 h2 h3 hg hs hl1 hl2 hc1 hc2 c1 c2
     go_wp2
     exact bodyPost_ret (v := .agg #[.int .i64 l0, .int .i64 c0]) (by simp [results, Tryz.results70, go_sem, x0, x1]) rfl ⟨rfl, (bw.setCell (p := ⟨w.heap.size, 0, none⟩) (Nat.le_refl _) _).setCell (p := ⟨w.heap.size, 1, none⟩) (Nat.le_refl _) _⟩
 ·go_enter Tryz.func70, Tryz.ntmps70
  go_wp2
  generalize ((w.alloc (.cells #[.int .i64 0, .int .i64 0] 34)).alloc (.cells #[.int .i64 0, .int .i64 0] 34)).alloc (.cells #[.int .i64 1, .int .i64 1] 34) = V at *
  have hit0 := iter_new V s
  have bI := below_more bV (below_iter V s 0)
  have BI1 := B1.more (below_iter V s 0)
  have BI2 := B2.more (below_iter V s 0)
  have BI3 := B3.more (below_iter V s 0)
  rw [hV] at hit0
  clear B1 B2 B3 bV hV
  go_loopg [7] s.size (fun g _ v => ∃ (pos : Nat) (l c l0 c0 : Int), pos + g = s.size ∧ v.heap[w.heap.size + 1 + 1 + 1]? = some (.stringIter s pos) ∧ BoxC v w.heap.size #[.int .i64 0, .int .i64 0] 34 ∧ BoxC v (w.heap.size + 1) #[.int .i64 l0, .int .i64 c0] 34 ∧ BoxC v (w.heap.size + 1 + 1) #[.int .i64 l, .int .i64 c] 34 ∧ Below w.heap.size w v ∧ At s pos l c ∧ 1 ≤ l ∧ l ≤ pos + 1 ∧ 1 ≤ c ∧ c ≤ pos + 1 ∧ (pos ≤ a ∨ (l0, c0) = P))
  case atStart => exact ⟨0, 1, 1, 0, 0, by omega, hit0, BI1, BI2, BI3, bI, At.zero s, by omega, by omega, by omega, by omega, .inl (Nat.zero_le _)⟩
  case round =>
   obtain ⟨pos, l, c, l0, c0, hg, hit, X1, X2, X3, bw, hA, hl1, hl2, hc1, hc2, hp⟩ := hrel
   clear hit0 BI1 BI2 BI3 bI
   obtain ⟨h1, h2, h3⟩ := HP.out
   rcases Nat.lt_or_ge pos s.size with hs | hs
   ·have hnx : ∀ ty, (Instr.next (.pointer (some ⟨w.heap.size + 1 + 1 + 1, 0, none⟩)) true ty).run Tryz.prog wr = .ok (.tuple #[.bool true, .int .i64 pos, .int .i32 (nextR s pos)]) (wr.iterAt (w.heap.size + 1 + 1 + 1) s (pos + nextN s pos)) := fun ty => run_next_any_at wr (w.heap.size + 1 + 1 + 1) s pos ty hit hs
    have hi2 := iterAt_heap wr (w.heap.size + 1 + 1 + 1) s pos (pos + nextN s pos) hit
    have bw2 := below_iterAt bw (show w.heap.size ≤ w.heap.size + 1 + 1 + 1 by omega) s (pos + nextN s pos)
    have Y1 := X1.iterAt (g := w.heap.size + 1 + 1 + 1) s (pos + nextN s pos) (by omega)
    have Y2 := X2.iterAt (g := w.heap.size + 1 + 1 + 1) s (pos + nextN s pos) (by omega)
    have Y3 := X3.iterAt (g := w.heap.size + 1 + 1 + 1) s (pos + nextN s pos) (by omega)
    have hz := next_size hs
    by_cases hpa : a < pos
    ·have hpa' : (a : Int) < (pos : Int) := by omega
     have hlc : (l0, c0) = P := by rcases hp with hp | hp; omega; exact hp
     subst hlc
     obtain ⟨x0, x1, x2, x3⟩ := Y1.cells2
     obtain ⟨y0, y1, y2, y3⟩ := Y2.cells2
     generalize wr.iterAt (w.heap.size + 1 + 1 + 1) s (pos + nextN s pos) = wi at *
     clear hit X1 X2 X3 bw hA hp hpa Y1 Y2 Y3 hi2 hz h1 h2 h3 c1 c2
     go_wp2
     exact bodyPost_ret (v := .agg #[.int .i64 l0, .int .i64 c0]) (by simp [results, Tryz.results70, go_sem, x0, x1]) rfl ⟨rfl, (bw2.setCell (p := ⟨w.heap.size, 0, none⟩) (Nat.le_refl _) _).setCell (p := ⟨w.heap.size, 1, none⟩) (Nat.le_refl _) _⟩
    ·have hpa' : ¬ (a : Int) < (pos : Int) := by omega
     have HA : Hid (At s (pos + nextN s pos) (if nextR s pos = 10 then l + 1 else l) (if nextR s pos = 10 then 1 else c + 1)) := hA.next hs
     have HE : Hid (pos + nextN s pos ≤ a ∨ (l, c) = P) := by
      rcases Nat.lt_or_ge a (pos + nextN s pos) with q | q
      ·exact .inr ((hA.here (at_ := (a : Int)) (by omega) (by omega) hs).symm.trans h1)
      ·exact .inl q
     have HB : Hid (pos + gk = s.size ∧ pos + nextN s pos ≤ s.size ∧ 1 ≤ nextN s pos ∧ nextN s pos ≤ 4 ∧ 1 ≤ l ∧ l ≤ pos + 1 ∧ 1 ≤ c ∧ c ≤ pos + 1) := ⟨hg, hz.2.2, hz.1, hz.2.1, hl1, hl2, hc1, hc2⟩
     have CB := fun v => sign_behind l c (nextR s pos) (by omega) (by omega) (by omega) (by omega) v
     generalize wr.iterAt (w.heap.size + 1 + 1 + 1) s (pos + nextN s pos) = wi at *
     generalize nextR s pos = R at *
     generalize nextN s pos = M at *
     clear hit X1 X2 X3 bw hA hp hpa hz h1 h2 h3 hl1 hl2 hc1 hc2 hg c1 c2
     unfold AnsL at CB
     obtain ⟨p0, p1, p2, p3⟩ := Y3.drew.cells2
     obtain ⟨q0, q1, q2, q3⟩ := Y2.drew.cells2
     by_cases h10 : R = 10
     ·have HA2 : Hid (At s (pos + M) (l + 1) (1)) := by have := HA.out; rw [if_pos h10, if_pos h10] at this; exact this
      rw [if_pos h10, if_pos h10] at CB
      dsimp only at CB
      clear HA h10
      go_wp2
      go_region_with (go_at_call 105; (with_reducible refine Calls.mono (CB _) ?_); rintro e w4' ⟨rfl, b4⟩; obtain ⟨p0, p1, p2, p3⟩ := (Y3.drew.more b4).cells2; obtain ⟨q0, q1, q2, q3⟩ := (Y2.drew.more b4).cells2)
      all_goals
       go_wp2
       have hB := HB.out
       have m1 : w.heap.size ≤ w.heap.size + 1 := by omega
       have m2 : w.heap.size ≤ w.heap.size + 1 + 1 := by omega
       go_roundg (s.size - (pos + M))
       case measure => omega
       case rel => exact ⟨pos + M, l + 1, 1, l, c, by omega, iter_set (iter_set (iter_set (iter_set (iter_more (show wi.drew.heap[w.heap.size + 1 + 1 + 1]? = _ from hi2) b4) (by omega) _) (by omega) _) (by omega) _) (by omega) _, (((((Y1.drew.more b4).other (by omega) _).other (by omega) _).other (by omega) _).other (by omega) _), (((((Y2.drew.more b4).set 0 (.int .i64 l)).set 1 (.int .i64 c)).other (by omega) _).other (by omega) _), (((((Y3.drew.more b4).other (by omega) _).other (by omega) _).set 0 (.int .i64 (l + 1))).set 1 (.int .i64 (1))), (((((below_more bw2.drew b4).setCell (p := ⟨w.heap.size + 1, 0, none⟩) m1 _).setCell (p := ⟨w.heap.size + 1, 1, none⟩) m1 _).setCell (p := ⟨w.heap.size + 1 + 1, 0, none⟩) m2 _).setCell (p := ⟨w.heap.size + 1 + 1, 1, none⟩) m2 _), HA2.out, by omega, by omega, by omega, by omega, HE.out⟩
     ·have HA2 : Hid (At s (pos + M) (l) (c + 1)) := by have := HA.out; rw [if_neg h10, if_neg h10] at this; exact this
      rw [if_neg h10, if_neg h10] at CB
      dsimp only at CB
      clear HA h10
      go_wp2
      go_region_with (go_at_call 105; (with_reducible refine Calls.mono (CB _) ?_); rintro e w4' ⟨rfl, b4⟩; obtain ⟨p0, p1, p2, p3⟩ := (Y3.drew.more b4).cells2; obtain ⟨q0, q1, q2, q3⟩ := (Y2.drew.more b4).cells2)
      all_goals
       go_wp2
       have hB := HB.out
       have m1 : w.heap.size ≤ w.heap.size + 1 := by omega
       have m2 : w.heap.size ≤ w.heap.size + 1 + 1 := by omega
       go_roundg (s.size - (pos + M))
       case measure => omega
       case rel => exact ⟨pos + M, l, c + 1, l, c, by omega, iter_set (iter_set (iter_set (iter_set (iter_more (show wi.drew.heap[w.heap.size + 1 + 1 + 1]? = _ from hi2) b4) (by omega) _) (by omega) _) (by omega) _) (by omega) _, (((((Y1.drew.more b4).other (by omega) _).other (by omega) _).other (by omega) _).other (by omega) _), (((((Y2.drew.more b4).set 0 (.int .i64 l)).set 1 (.int .i64 c)).other (by omega) _).other (by omega) _), (((((Y3.drew.more b4).other (by omega) _).other (by omega) _).set 0 (.int .i64 (l))).set 1 (.int .i64 (c + 1))), (((((below_more bw2.drew b4).setCell (p := ⟨w.heap.size + 1, 0, none⟩) m1 _).setCell (p := ⟨w.heap.size + 1, 1, none⟩) m1 _).setCell (p := ⟨w.heap.size + 1 + 1, 0, none⟩) m2 _).setCell (p := ⟨w.heap.size + 1 + 1, 1, none⟩) m2 _), HA2.out, by omega, by omega, by omega, by omega, HE.out⟩
   ·have hnx : ∀ ty, (Instr.next (.pointer (some ⟨w.heap.size + 1 + 1 + 1, 0, none⟩)) true ty).run Tryz.prog wr = .ok (.tuple #[.bool false]) wr := fun ty => run_next_end_at wr (w.heap.size + 1 + 1 + 1) s pos ty hit (by omega)
    obtain rfl : pos = s.size := by omega
    obtain ⟨x0, x1, x2, x3⟩ := X1.cells2
    obtain ⟨y0, y1, y2, y3⟩ := X2.cells2
    obtain ⟨z0, z1, z2, z3⟩ := X3.cells2
    by_cases hpa : a = s.size
    ·have e : ((a : Int) == (s.size : Int)) = true := by rw [beq_iff_eq]; omega
     have hlc : (l, c) = P := by rw [← h1, hpa]; exact (hA.last (Int.le_refl _)).symm
     subst hlc
     clear hit X1 X2 X3 hA hp hpa h1 h2 h3 hg hs hl1 hl2 hc1 hc2 c1 c2
     go_wp2
     exact bodyPost_ret (v := .agg #[.int .i64 l, .int .i64 c]) (by simp [results, Tryz.results70, go_sem, x0, x1]) rfl ⟨rfl, (bw.setCell (p := ⟨w.heap.size, 0, none⟩) (Nat.le_refl _) _).setCell (p := ⟨w.heap.size, 1, none⟩) (Nat.le_refl _) _⟩
    ·have e : ((a : Int) == (s.size : Int)) = false := by rw [beq_eq_false_iff_ne]; omega
     have hlc : (l0, c0) = P := by rcases hp with hp | hp; omega; exact hp
     subst hlc
     clear hit X1 X2 X3 hA hp hpa h1 h2 h3 hg hs hl1 hl2 hc1 hc2 c1 c2
     go_wp2
     exact bodyPost_ret (v := .agg #[.int .i64 l0, .int .i64 c0]) (by simp [results, Tryz.results70, go_sem, x0, x1]) rfl ⟨rfl, (bw.setCell (p := ⟨w.heap.size, 0, none⟩) (Nat.le_refl _) _).setCell (p := ⟨w.heap.size, 1, none⟩) (Nat.le_refl _) _⟩
 ·go_enter Tryz.func70, Tryz.ntmps70
  go_wp2
  generalize ((w.alloc (.cells #[.int .i64 0, .int .i64 0] 34)).alloc (.cells #[.int .i64 0, .int .i64 0] 34)).alloc (.cells #[.int .i64 1, .int .i64 1] 34) = V at *
  have hit0 := iter_new V s
  have bI := below_more bV (below_iter V s 0)
  have BI1 := B1.more (below_iter V s 0)
  have BI2 := B2.more (below_iter V s 0)
  have BI3 := B3.more (below_iter V s 0)
  rw [hV] at hit0
  clear B1 B2 B3 bV hV
  go_loopg [7] s.size (fun g _ v => ∃ (pos : Nat) (l c l0 c0 : Int), pos + g = s.size ∧ v.heap[w.heap.size + 1 + 1 + 1]? = some (.stringIter s pos) ∧ BoxC v w.heap.size #[.int .i64 0, .int .i64 0] 34 ∧ BoxC v (w.heap.size + 1) #[.int .i64 l0, .int .i64 c0] 34 ∧ BoxC v (w.heap.size + 1 + 1) #[.int .i64 l, .int .i64 c] 34 ∧ Below w.heap.size w v ∧ At s pos l c ∧ 1 ≤ l ∧ l ≤ pos + 1 ∧ 1 ≤ c ∧ c ≤ pos + 1 ∧ (pos ≤ a ∨ (l0, c0) = P))
  case atStart => exact ⟨0, 1, 1, 0, 0, by omega, hit0, BI1, BI2, BI3, bI, At.zero s, by omega, by omega, by omega, by omega, .inl (Nat.zero_le _)⟩
  case round =>
   obtain ⟨pos, l, c, l0, c0, hg, hit, X1, X2, X3, bw, hA, hl1, hl2, hc1, hc2, hp⟩ := hrel
   clear hit0 BI1 BI2 BI3 bI
   obtain ⟨h1, h2, h3⟩ := HP.out
   rcases Nat.lt_or_ge pos s.size with hs | hs
   ·have hnx : ∀ ty, (Instr.next (.pointer (some ⟨w.heap.size + 1 + 1 + 1, 0, none⟩)) true ty).run Tryz.prog wr = .ok (.tuple #[.bool true, .int .i64 pos, .int .i32 (nextR s pos)]) (wr.iterAt (w.heap.size + 1 + 1 + 1) s (pos + nextN s pos)) := fun ty => run_next_any_at wr (w.heap.size + 1 + 1 + 1) s pos ty hit hs
    have hi2 := iterAt_heap wr (w.heap.size + 1 + 1 + 1) s pos (pos + nextN s pos) hit
    have bw2 := below_iterAt bw (show w.heap.size ≤ w.heap.size + 1 + 1 + 1 by omega) s (pos + nextN s pos)
    have Y1 := X1.iterAt (g := w.heap.size + 1 + 1 + 1) s (pos + nextN s pos) (by omega)
    have Y2 := X2.iterAt (g := w.heap.size + 1 + 1 + 1) s (pos + nextN s pos) (by omega)
    have Y3 := X3.iterAt (g := w.heap.size + 1 + 1 + 1) s (pos + nextN s pos) (by omega)
    have hz := next_size hs
    by_cases hpa : a < pos
    ·exact absurd hpa (by omega)
    ·have hpa' : ¬ (s.size : Int) < (pos : Int) := by omega
     have HA : Hid (At s (pos + nextN s pos) (if nextR s pos = 10 then l + 1 else l) (if nextR s pos = 10 then 1 else c + 1)) := hA.next hs
     have HE : Hid (pos + nextN s pos ≤ a ∨ (l, c) = P) := by
      rcases Nat.lt_or_ge a (pos + nextN s pos) with q | q
      ·exact .inr ((hA.here (at_ := (a : Int)) (by omega) (by omega) hs).symm.trans h1)
      ·exact .inl q
     have HB : Hid (pos + gk = s.size ∧ pos + nextN s pos ≤ s.size ∧ 1 ≤ nextN s pos ∧ nextN s pos ≤ 4 ∧ 1 ≤ l ∧ l ≤ pos + 1 ∧ 1 ≤ c ∧ c ≤ pos + 1) := ⟨hg, hz.2.2, hz.1, hz.2.1, hl1, hl2, hc1, hc2⟩
     have CB := fun v => sign_behind l c (nextR s pos) (by omega) (by omega) (by omega) (by omega) v
     generalize wr.iterAt (w.heap.size + 1 + 1 + 1) s (pos + nextN s pos) = wi at *
     generalize nextR s pos = R at *
     generalize nextN s pos = M at *
     clear hit X1 X2 X3 bw hA hp hpa hz h1 h2 h3 hl1 hl2 hc1 hc2 hg c1 c2
     unfold AnsL at CB
     obtain ⟨p0, p1, p2, p3⟩ := Y3.drew.cells2
     obtain ⟨q0, q1, q2, q3⟩ := Y2.drew.cells2
     by_cases h10 : R = 10
     ·have HA2 : Hid (At s (pos + M) (l + 1) (1)) := by have := HA.out; rw [if_pos h10, if_pos h10] at this; exact this
      rw [if_pos h10, if_pos h10] at CB
      dsimp only at CB
      clear HA h10
      go_wp2
      go_region_with (go_at_call 105; (with_reducible refine Calls.mono (CB _) ?_); rintro e w4' ⟨rfl, b4⟩; obtain ⟨p0, p1, p2, p3⟩ := (Y3.drew.more b4).cells2; obtain ⟨q0, q1, q2, q3⟩ := (Y2.drew.more b4).cells2)
      all_goals
       go_wp2
       have hB := HB.out
       have m1 : w.heap.size ≤ w.heap.size + 1 := by omega
       have m2 : w.heap.size ≤ w.heap.size + 1 + 1 := by omega
       go_roundg (s.size - (pos + M))
       case measure => omega
       case rel => exact ⟨pos + M, l + 1, 1, l, c, by omega, iter_set (iter_set (iter_set (iter_set (iter_more (show wi.drew.heap[w.heap.size + 1 + 1 + 1]? = _ from hi2) b4) (by omega) _) (by omega) _) (by omega) _) (by omega) _, (((((Y1.drew.more b4).other (by omega) _).other (by omega) _).other (by omega) _).other (by omega) _), (((((Y2.drew.more b4).set 0 (.int .i64 l)).set 1 (.int .i64 c)).other (by omega) _).other (by omega) _), (((((Y3.drew.more b4).other (by omega) _).other (by omega) _).set 0 (.int .i64 (l + 1))).set 1 (.int .i64 (1))), (((((below_more bw2.drew b4).setCell (p := ⟨w.heap.size + 1, 0, none⟩) m1 _).setCell (p := ⟨w.heap.size + 1, 1, none⟩) m1 _).setCell (p := ⟨w.heap.size + 1 + 1, 0, none⟩) m2 _).setCell (p := ⟨w.heap.size + 1 + 1, 1, none⟩) m2 _), HA2.out, by omega, by omega, by omega, by omega, HE.out⟩
     ·have HA2 : Hid (At s (pos + M) (l) (c + 1)) := by have := HA.out; rw [if_neg h10, if_neg h10] at this; exact this
      rw [if_neg h10, if_neg h10] at CB
      dsimp only at CB
      clear HA h10
      go_wp2
      go_region_with (go_at_call 105; (with_reducible refine Calls.mono (CB _) ?_); rintro e w4' ⟨rfl, b4⟩; obtain ⟨p0, p1, p2, p3⟩ := (Y3.drew.more b4).cells2; obtain ⟨q0, q1, q2, q3⟩ := (Y2.drew.more b4).cells2)
      all_goals
       go_wp2
       have hB := HB.out
       have m1 : w.heap.size ≤ w.heap.size + 1 := by omega
       have m2 : w.heap.size ≤ w.heap.size + 1 + 1 := by omega
       go_roundg (s.size - (pos + M))
       case measure => omega
       case rel => exact ⟨pos + M, l, c + 1, l, c, by omega, iter_set (iter_set (iter_set (iter_set (iter_more (show wi.drew.heap[w.heap.size + 1 + 1 + 1]? = _ from hi2) b4) (by omega) _) (by omega) _) (by omega) _) (by omega) _, (((((Y1.drew.more b4).other (by omega) _).other (by omega) _).other (by omega) _).other (by omega) _), (((((Y2.drew.more b4).set 0 (.int .i64 l)).set 1 (.int .i64 c)).other (by omega) _).other (by omega) _), (((((Y3.drew.more b4).other (by omega) _).other (by omega) _).set 0 (.int .i64 (l))).set 1 (.int .i64 (c + 1))), (((((below_more bw2.drew b4).setCell (p := ⟨w.heap.size + 1, 0, none⟩) m1 _).setCell (p := ⟨w.heap.size + 1, 1, none⟩) m1 _).setCell (p := ⟨w.heap.size + 1 + 1, 0, none⟩) m2 _).setCell (p := ⟨w.heap.size + 1 + 1, 1, none⟩) m2 _), HA2.out, by omega, by omega, by omega, by omega, HE.out⟩
   ·have hnx : ∀ ty, (Instr.next (.pointer (some ⟨w.heap.size + 1 + 1 + 1, 0, none⟩)) true ty).run Tryz.prog wr = .ok (.tuple #[.bool false]) wr := fun ty => run_next_end_at wr (w.heap.size + 1 + 1 + 1) s pos ty hit (by omega)
    obtain rfl : pos = s.size := by omega
    obtain ⟨x0, x1, x2, x3⟩ := X1.cells2
    obtain ⟨y0, y1, y2, y3⟩ := X2.cells2
    obtain ⟨z0, z1, z2, z3⟩ := X3.cells2
    by_cases hpa : a = s.size
    ·have e : ((s.size : Int) == (s.size : Int)) = true := by rw [beq_iff_eq]
     have hlc : (l, c) = P := by rw [← h1, hpa]; exact (hA.last (Int.le_refl _)).symm
     subst hlc
     clear hit X1 X2 X3 hA hp hpa h1 h2 h3 hg hs hl1 hl2 hc1 hc2 c1 c2
     go_wp2
     exact bodyPost_ret (v := .agg #[.int .i64 l, .int .i64 c]) (by simp [results, Tryz.results70, go_sem, x0, x1]) rfl ⟨rfl, (bw.setCell (p := ⟨w.heap.size, 0, none⟩) (Nat.le_refl _) _).setCell (p := ⟨w.heap.size, 1, none⟩) (Nat.le_refl _) _⟩
    ·exact absurd c3 hpa
end
end Go.Proofs.YtaeladkcmpdkhaaGreatDoor
