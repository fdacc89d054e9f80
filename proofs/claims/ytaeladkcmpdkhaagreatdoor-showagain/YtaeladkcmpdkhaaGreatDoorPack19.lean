/-
  Texts of mine in build order. No conditions of their own.
-/
import Derived.Shelf.Strconv.AtoiAll
import Derived.Shelf.Strconv.ErrVarAll
import Derived.Test.YtaeladkcmpdkhaaGreatDoorProg
import Derived.Test.YtaeladkcmpdkhaaGreatDoorPack16
set_option maxHeartbeats 8000000
namespace Go.Proofs.YtaeladkcmpdkhaaGreatDoor
section
open Go.Shelf
def seat_laysC172_ren : Go.Shelf.Ren := ⟨fun | 172 => 222 | 244 => 231 | 245 => 232 | 247 => 239 | 279 => 240 | 280 => 241 | 281 => 242 | 282 => 243 | 287 => 246 | 316 => 61 | 171 => 59 | 205 => 247 | 321 => 248 | 322 => 249 | 243 => 88 | 246 => 121 | 283 => 151 | 284 => 152 | 285 => 153 | 286 => 154 | 129 => 178 | 317 => 177 | 318 => 179 | 319 => 180 | 320 => 181 | 337 => 198 | 338 => 199 | n => n, fun | 9 => 9 | 3 => 3 | 75 => 94 | 76 => 95 | 4 => 4 | 5 => 5 | 167 => 257 | 37 => 89 | 0 => 0 | 85 => 258 | 2 => 2 | 168 => 260 | 53 => 87 | 175 => 264 | 46 => 144 | 210 => 267 | 127 => 119 | 145 => 272 | 143 => 270 | 21 => 21 | 171 => 177 | 173 => 180 | 212 => 203 | 51 => 85 | 20 => 20 | 213 => 204 | 232 => 241 | 233 => 242 | 80 => 97 | n => n, fun | 15 => 6 | 16 => 7 | 17 => 1 | 18 => 4 | 19 => 5 | n => n⟩
theorem seat_laysC172 : Go.Proofs.LaysC.n172 Tryz.prog seat_laysC172_ren := {
 mixed := by kernel_rfl
 f129 := Tryz.func178.trans (congrArg some (by kernel_rfl))
 f171 := Tryz.func59.trans (congrArg some (by kernel_rfl))
 f172 := Tryz.func222.trans (congrArg some (by kernel_rfl))
 f205 := Tryz.func247.trans (congrArg some (by kernel_rfl))
 f243 := Tryz.func88.trans (congrArg some (by kernel_rfl))
 f244 := Tryz.func231.trans (congrArg some (by kernel_rfl))
 f245 := Tryz.func232.trans (congrArg some (by kernel_rfl))
 f246 := Tryz.func121.trans (congrArg some (by kernel_rfl))
 f247 := Tryz.func239.trans (congrArg some (by kernel_rfl))
 f279 := Tryz.func240.trans (congrArg some (by kernel_rfl))
 f280 := Tryz.func241.trans (congrArg some (by kernel_rfl))
 f281 := Tryz.func242.trans (congrArg some (by kernel_rfl))
 f282 := Tryz.func243.trans (congrArg some (by kernel_rfl))
 f283 := Tryz.func151.trans (congrArg some (by kernel_rfl))
 f284 := Tryz.func152.trans (congrArg some (by kernel_rfl))
 f285 := Tryz.func153.trans (congrArg some (by kernel_rfl))
 f286 := Tryz.func154.trans (congrArg some (by kernel_rfl))
 f287 := Tryz.func246.trans (congrArg some (by kernel_rfl))
 f316 := Tryz.func61.trans (congrArg some (by kernel_rfl))
 f317 := Tryz.func177.trans (congrArg some (by kernel_rfl))
 f318 := Tryz.func179.trans (congrArg some (by kernel_rfl))
 f319 := Tryz.func180.trans (congrArg some (by kernel_rfl))
 f320 := Tryz.func181.trans (congrArg some (by kernel_rfl))
 f321 := Tryz.func248.trans (congrArg some (by kernel_rfl))
 f322 := Tryz.func249.trans (congrArg some (by kernel_rfl))
 f337 := Tryz.func198.trans (congrArg some (by kernel_rfl))
 f338 := Tryz.func199.trans (congrArg some (by kernel_rfl))
 t0 := Tryz.underlying0
 a0 := Tryz.isAgg0
 z0 := Tryz.sizeOf0
 v0 := Tryz.zeroValue0
 t2 := Tryz.underlying2
 a2 := Tryz.isAgg2
 z2 := Tryz.sizeOf2
 v2 := Tryz.zeroValue2
 t3 := Tryz.underlying3
 a3 := Tryz.isAgg3
 z3 := Tryz.sizeOf3
 v3 := Tryz.zeroValue3
 t4 := Tryz.underlying4
 a4 := Tryz.isAgg4
 z4 := Tryz.sizeOf4
 v4 := Tryz.zeroValue4
 t5 := Tryz.underlying5
 a5 := Tryz.isAgg5
 z5 := Tryz.sizeOf5
 v5 := Tryz.zeroValue5
 t9 := Tryz.underlying9
 a9 := Tryz.isAgg9
 z9 := Tryz.sizeOf9
 v9 := Tryz.zeroValue9
 t20 := Tryz.underlying20
 a20 := Tryz.isAgg20
 z20 := Tryz.sizeOf20
 v20 := Tryz.zeroValue20
 t21 := Tryz.underlying21
 a21 := Tryz.isAgg21
 z21 := Tryz.sizeOf21
 v21 := Tryz.zeroValue21
 t37 := Tryz.underlying89
 a37 := Tryz.isAgg89
 z37 := Tryz.sizeOf89
 v37 := Tryz.zeroValue89
 t46 := Tryz.underlying144
 a46 := Tryz.isAgg144
 z46 := Tryz.sizeOf144
 v46 := Tryz.zeroValue144
 t51 := Tryz.underlying85
 a51 := Tryz.isAgg85
 z51 := Tryz.sizeOf85
 v51 := Tryz.zeroValue85
 t53 := Tryz.underlying87
 a53 := Tryz.isAgg87
 z53 := Tryz.sizeOf87
 v53 := Tryz.zeroValue87
 t75 := Tryz.underlying94
 a75 := Tryz.isAgg94
 z75 := Tryz.sizeOf94
 v75 := Tryz.zeroValue94
 t76 := Tryz.underlying95
 a76 := Tryz.isAgg95
 z76 := Tryz.sizeOf95
 v76 := Tryz.zeroValue95
 t85 := Tryz.underlying258
 a85 := Tryz.isAgg258
 z85 := Tryz.sizeOf258
 v85 := Tryz.zeroValue258
 t127 := Tryz.underlying119
 a127 := Tryz.isAgg119
 z127 := Tryz.sizeOf119
 v127 := Tryz.zeroValue119
 t143 := Tryz.underlying270
 a143 := Tryz.isAgg270
 z143 := Tryz.sizeOf270
 v143 := Tryz.zeroValue270
 t145 := Tryz.underlying272
 a145 := Tryz.isAgg272
 z145 := Tryz.sizeOf272
 v145 := Tryz.zeroValue272
 t167 := Tryz.underlying257
 a167 := Tryz.isAgg257
 z167 := Tryz.sizeOf257
 v167 := Tryz.zeroValue257
 t168 := Tryz.underlying260
 a168 := Tryz.isAgg260
 z168 := Tryz.sizeOf260
 v168 := Tryz.zeroValue260
 t171 := Tryz.underlying177
 a171 := Tryz.isAgg177
 z171 := Tryz.sizeOf177
 v171 := Tryz.zeroValue177
 t173 := Tryz.underlying180
 a173 := Tryz.isAgg180
 z173 := Tryz.sizeOf180
 v173 := Tryz.zeroValue180
 t175 := Tryz.underlying264
 a175 := Tryz.isAgg264
 z175 := Tryz.sizeOf264
 v175 := Tryz.zeroValue264
 t210 := Tryz.underlying267
 a210 := Tryz.isAgg267
 z210 := Tryz.sizeOf267
 v210 := Tryz.zeroValue267
 t212 := Tryz.underlying203
 a212 := Tryz.isAgg203
 z212 := Tryz.sizeOf203
 v212 := Tryz.zeroValue203
 t213 := Tryz.underlying204
 a213 := Tryz.isAgg204
 z213 := Tryz.sizeOf204
 t232 := Tryz.underlying241
 a232 := Tryz.isAgg241
 z232 := Tryz.sizeOf241
 v232 := Tryz.zeroValue241
 t233 := Tryz.underlying242
 a233 := Tryz.isAgg242
 z233 := Tryz.sizeOf242
 v233 := Tryz.zeroValue242
 g15 := by kernel_rfl
 g16 := by kernel_rfl
 g17 := by kernel_rfl
 g18 := by kernel_rfl
 g19 := by kernel_rfl
 t80 := Tryz.underlying97
 a80 := Tryz.isAgg97
 z80 := Tryz.sizeOf97
 v80 := Tryz.zeroValue97
 i0 := by kernel_rfl
 i2 := by kernel_rfl
 i3 := by kernel_rfl
 i4 := by kernel_rfl
 i5 := by kernel_rfl
 i9 := by kernel_rfl
 i20 := by kernel_rfl
 i21 := by kernel_rfl
 i37 := by kernel_rfl
 i46 := by kernel_rfl
 i51 := by kernel_rfl
 i53 := by kernel_rfl
 i75 := by kernel_rfl
 i76 := by kernel_rfl
 i80 := by kernel_rfl
 i85 := by kernel_rfl
 i127 := by kernel_rfl
 i143 := by kernel_rfl
 i145 := by kernel_rfl
 i167 := by kernel_rfl
 i168 := by kernel_rfl
 i171 := by kernel_rfl
 i173 := by kernel_rfl
 i175 := by kernel_rfl
 i210 := by kernel_rfl
 i212 := by kernel_rfl
 i232 := by kernel_rfl
 i233 := by kernel_rfl
 m15 := by kernel_rfl
 m16 := by kernel_rfl
 m17 := by kernel_rfl
 m18 := by kernel_rfl
 m19 := by kernel_rfl
 c0 := by kernel_rfl
 c2 := by kernel_rfl
 c3 := by kernel_rfl
 c4 := by kernel_rfl
 c5 := by kernel_rfl
 c9 := by kernel_rfl
 c20 := by kernel_rfl
 c21 := by kernel_rfl
 c37 := by kernel_rfl
 c46 := by kernel_rfl
 c51 := by kernel_rfl
 c53 := by kernel_rfl
 c75 := by kernel_rfl
 c76 := by kernel_rfl
 c80 := by kernel_rfl
 c85 := by kernel_rfl
 c127 := by kernel_rfl
 c143 := by kernel_rfl
 c145 := by kernel_rfl
 c167 := by kernel_rfl
 c168 := by kernel_rfl
 c171 := by kernel_rfl
 c173 := by kernel_rfl
 c175 := by kernel_rfl
 c210 := by kernel_rfl
 c212 := by kernel_rfl
 c213 := by kernel_rfl
 c232 := by kernel_rfl
 c233 := by kernel_rfl }
open Go.RowKit in
theorem seat_strconv_Atoi_ok (s : ByteArray) (hmax : s.size ≤ 9223372036854775806) (v : Int) (h : Lib.atoiAll s.data.toList = .ok v) (w : World) :
  Calls Tryz.prog 222 #[.string s] w fun e w' => e = .returned (.tuple #[.int .i64 v, .nilIface]) ∧ (w' = w ∨ ∃ t, w' = Lib.bytesWorld w 5 t) := Any.strconv_Atoi_ok seat_laysC172 s hmax v h w
open Go.RowKit in
open Go.RowKit in
def ErrV (w : World) : Prop := (∃ t v T d, w.heap[6]? = some (.cells #[.iface t v] T d)) ∧ (∃ t v T d, w.heap[7]? = some (.cells #[.iface t v] T d))
open Go.RowKit in
theorem ErrV.below {W w : World} (h : ErrV W) (hb : Below W.heap.size W w) : ErrV w := by
 obtain ⟨⟨t, v, T, d, h1⟩, ⟨u, x, U, f, h2⟩⟩ := h
 exact ⟨⟨t, v, T, d, by rw [hb.block _ (Array.getElem?_eq_some_iff.1 h1).1]; exact h1⟩, ⟨u, x, U, f, by rw [hb.block _ (Array.getElem?_eq_some_iff.1 h2).1]; exact h2⟩⟩
open Go.RowKit in
theorem var_block {P : Program} {w : World} {n : String} {g : Nat} {cs : Array Value} {T : TypeId} {d : Nat × Nat} (hg : P.globalNamed n = some g) (h : w.heap[g]? = some (.cells cs T d)) : w.var? P n = some cs := by
 unfold World.var?
 rw [hg]
 show (match w.heap[g]? with | some (.cells cs _ _) => some cs | _ => none) = some cs
 rw [h]
open Go.RowKit in
theorem str_atoi_ok (s : ByteArray) (hs : s.size ≤ 1000000) (n : Int) (h : Lib.atoiAll s.data.toList = .ok n) (w : World) :
  Calls Tryz.prog 222 #[.string s] w fun e w' => e = .returned (.tuple #[.int .i64 n, .nilIface]) ∧ Below w.heap.size w w' := by
 refine (seat_strconv_Atoi_ok s (by omega) n h w).mono ?_
 rintro e w' ⟨rfl, hw⟩
 refine ⟨rfl, ?_⟩
 rcases hw with rfl | ⟨t, rfl⟩
 ·exact Below.refl _ _
 ·exact Lib.bytesWorld_below _ _ _
open Go.RowKit in
theorem str_atoi_err (s : ByteArray) (hs : s.size ≤ 1000000) (h : ∀ n, Lib.atoiAll s.data.toList ≠ .ok n) (w : World) (he : ErrV w) :
  Calls Tryz.prog 222 #[.string s] w fun e w' => ∃ (n : Int) (N : Nat), e = .returned (.tuple #[.int .i64 n, .iface 260 (.pointer (some ⟨N, 0, none⟩))]) ∧ Below w.heap.size w w' := by
 obtain ⟨⟨t, v, T, d, h1⟩, ⟨u, x, U, f, h2⟩⟩ := he
 cases hp : Lib.atoiAll s.data.toList
 case ok n => exact absurd hp (h n)
 case range =>
  refine (Any.strconv_Atoi_range_var seat_laysC172 s (by omega) hp u x w (var_block seat_laysC172.m16 h2)).mono ?_
  rintro e w' ⟨N, rfl, -, -, hb⟩
  exact ⟨_, N, rfl, hb⟩
 all_goals
  refine (Any.strconv_Atoi_syntax_var seat_laysC172 s (by omega) hp t v w (var_block seat_laysC172.m15 h1)).mono ?_
  rintro e w' ⟨N, rfl, -, -, hb⟩
  exact ⟨_, N, rfl, hb⟩
end
section
open Go.RowKit Go.Lib
structure Toks (L : List Tok) : Prop where
 len : L.length ≤ 4000
 right : ∀ t ∈ L, RightT t.1 t.2.1 ∧ t.2.1.size ≤ 1000000
theorem nextT_some {L : List Tok} {p : Nat} {t : Tok} (h : L[p]? = some t) : nextT L p = t := by unfold nextT; rw [h]; rfl
theorem nextT_none {L : List Tok} {p : Nat} (h : L[p]? = none) : nextT L p = (0, noText, 0, 0) := by unfold nextT; rw [h]; rfl
theorem noText_list : noText.toList = [] := by rw [ByteArray.toList_eq]; rfl
theorem Toks.size {L : List Tok} (h : Toks L) (p : Nat) : (nextT L p).2.1.size ≤ 1000000 := by
 cases e : L[p]? with
 | none => rw [nextT_none e]; show 0 ≤ _; omega
 | some t => rw [nextT_some e]; exact (h.right t (List.mem_of_getElem? e)).2
theorem tok_is {L : List Tok} {r : Rd} (hb : r.bad = false) {k : Int} {x : List UInt8} (hx : x ≠ []) (hk : ∀ t ∈ L, t.2.1.toList = x → t.1 = k) : r.is L k x = ((nextT L r.pos).2.1.toList == x) := by
 unfold Rd.is
 rw [hb]
 cases e : L[r.pos]? with
 | none =>
  rw [nextT_none e, noText_list]
  simp only [Bool.not_false, Bool.true_and]
  symm
  rw [beq_eq_false_iff_ne]
  exact fun q => hx q.symm
 | some t =>
  rw [nextT_some e]
  simp only [Bool.not_false, Bool.true_and]
  by_cases q : t.2.1.toList = x
  ·rw [decide_eq_true (hk t (List.mem_of_getElem? e) q), Bool.true_and]
  ·have : (t.2.1.toList == x) = false := by rw [beq_eq_false_iff_ne]; exact q
   rw [this, Bool.and_false]
theorem Toks.mark {L : List Tok} (h : Toks L) {r : Rd} (hb : r.bad = false) {c : UInt8} (hc : kindI c.toNat = 4) : r.is L 2 [c] = ((nextT L r.pos).2.1.toList == [c]) :=
 tok_is hb (by simp) fun t ht hx => mark_kind (h.right t ht).1 hx hc
theorem Toks.word {L : List Tok} (h : Toks L) {r : Rd} (hb : r.bad = false) {c : UInt8} {x : List UInt8} (hc : c.toNat < 128 ∧ kindI c.toNat = 1) : r.is L 0 (c :: x) = ((nextT L r.pos).2.1.toList == c :: x) :=
 tok_is hb (by simp) fun t ht hx => low_kind (h.right t ht).1 hx hc
theorem Toks.exp {L : List Tok} (h : Toks L) (p : Nat) : (expA (nextT L p).2.1 = none ∧ (L[p]? = none ∨ ∃ t, L[p]? = some t ∧ (t.1 ≠ 1 ∨ expI t.2.1 < 0))) ∨ (∃ t, L[p]? = some t ∧ t.1 = 1 ∧ 0 ≤ expI t.2.1 ∧ expI t.2.1 ≤ 20 ∧ expA (nextT L p).2.1 = some (expI t.2.1)) := by
 cases e : L[p]? with
 | none => left; rw [nextT_none e]; exact ⟨expA_nil rfl, .inl rfl⟩
 | some t =>
  rw [nextT_some e]
  have hr := (h.right t (List.mem_of_getElem? e)).1
  by_cases h1 : t.1 = 1
  ·rw [h1] at hr
   rw [expA_number hr]
   by_cases h0 : 0 ≤ expI t.2.1
   ·rw [if_pos h0]
    refine .inr ⟨t, rfl, h1, h0, ?_, rfl⟩
    have := expA_number hr
    rw [if_pos h0] at this
    unfold expA at this
    split at this
    ·split at this
     ·rename_i q; injection this with this; omega
     ·exact absurd this (by simp)
    ·exact absurd this (by simp)
   ·rw [if_neg h0]
    exact .inl ⟨rfl, .inr ⟨t, rfl, .inr (by omega)⟩⟩
  ·exact .inl ⟨expA_word hr h1, .inr ⟨t, rfl, .inl h1⟩⟩
def btw (x : List UInt8) : Option (Int × Bool) := if x = [43] then some (2, false) else if x = [45] then some (3, false) else if x = [42] then some (4, true) else if x = [47] then some (5, true) else none
def btwV (o : Option (Int × Bool)) : Value := match o with
 | some (k, c) => .tuple #[.agg #[.int .i64 k, .int .i64 (binds c)], .bool true]
 | none => .tuple #[.agg #[.int .i64 0, .int .i64 0], .bool false]
theorem q_between (y : ByteArray) (w : World) : Calls Tryz.prog 162 #[.string y] w fun e w' => e = .returned (btwV (btw y.toList)) ∧ Below w.heap.size w w' := by
 have NB : ∀ (a0 a1 : Int), Hid (BoxC (w.alloc (.cells #[.int .i64 a0, .int .i64 a1] 186)) w.heap.size #[.int .i64 a0, .int .i64 a1] 186 ∧ Below w.heap.size w (w.alloc (.cells #[.int .i64 a0, .int .i64 a1] 186))) := fun a0 a1 => ⟨(boxes1 w _ _).1, (boxes1 w _ _).2.1⟩
 unfold btw
 by_cases e1 : y.toList = [43]
 ·have f1 : (y.toList == [43]) = true := by rw [e1]; rfl
  rw [if_pos e1]
  show Calls Tryz.prog _ _ w fun e w' => e = .returned (.tuple #[.agg #[.int .i64 2, .int .i64 0], .bool true]) ∧ _
  clear e1
  go_enter Tryz.func162, Tryz.ntmps162
  go_wp2
  obtain ⟨b1, b2⟩ := (NB 2 0).out
  have c0 := (b1.cell 0).1
  have c1 := (b1.cell 1).1
  exact bodyPost_ret (v := .tuple #[.agg #[.int .i64 2, .int .i64 0], .bool true]) (by simp [results, Tryz.results162, go_sem, c0, c1]) rfl ⟨rfl, b2⟩
 rw [if_neg e1]
 have f1 : (y.toList == [43]) = false := by rw [beq_eq_false_iff_ne]; exact e1
 by_cases e2 : y.toList = [45]
 ·have f2 : (y.toList == [45]) = true := by rw [e2]; rfl
  rw [if_pos e2]
  show Calls Tryz.prog _ _ w fun e w' => e = .returned (.tuple #[.agg #[.int .i64 3, .int .i64 0], .bool true]) ∧ _
  clear e1 e2
  go_enter Tryz.func162, Tryz.ntmps162
  go_wp2
  obtain ⟨b1, b2⟩ := (NB 3 0).out
  have c0 := (b1.cell 0).1
  have c1 := (b1.cell 1).1
  exact bodyPost_ret (v := .tuple #[.agg #[.int .i64 3, .int .i64 0], .bool true]) (by simp [results, Tryz.results162, go_sem, c0, c1]) rfl ⟨rfl, b2⟩
 rw [if_neg e2]
 have f2 : (y.toList == [45]) = false := by rw [beq_eq_false_iff_ne]; exact e2
 by_cases e3 : y.toList = [42]
 ·have f3 : (y.toList == [42]) = true := by rw [e3]; rfl
  rw [if_pos e3]
  show Calls Tryz.prog _ _ w fun e w' => e = .returned (.tuple #[.agg #[.int .i64 4, .int .i64 1], .bool true]) ∧ _
  clear e1 e2 e3
  go_enter Tryz.func162, Tryz.ntmps162
  go_wp2
  obtain ⟨b1, b2⟩ := (NB 4 1).out
  have c0 := (b1.cell 0).1
  have c1 := (b1.cell 1).1
  exact bodyPost_ret (v := .tuple #[.agg #[.int .i64 4, .int .i64 1], .bool true]) (by simp [results, Tryz.results162, go_sem, c0, c1]) rfl ⟨rfl, b2⟩
 rw [if_neg e3]
 have f3 : (y.toList == [42]) = false := by rw [beq_eq_false_iff_ne]; exact e3
 by_cases e4 : y.toList = [47]
 ·have f4 : (y.toList == [47]) = true := by rw [e4]; rfl
  rw [if_pos e4]
  show Calls Tryz.prog _ _ w fun e w' => e = .returned (.tuple #[.agg #[.int .i64 5, .int .i64 1], .bool true]) ∧ _
  clear e1 e2 e3 e4
  go_enter Tryz.func162, Tryz.ntmps162
  go_wp2
  obtain ⟨b1, b2⟩ := (NB 5 1).out
  have c0 := (b1.cell 0).1
  have c1 := (b1.cell 1).1
  exact bodyPost_ret (v := .tuple #[.agg #[.int .i64 5, .int .i64 1], .bool true]) (by simp [results, Tryz.results162, go_sem, c0, c1]) rfl ⟨rfl, b2⟩
 rw [if_neg e4]
 have f4 : (y.toList == [47]) = false := by rw [beq_eq_false_iff_ne]; exact e4
 show Calls Tryz.prog _ _ w fun e w' => e = .returned (.tuple #[.agg #[.int .i64 0, .int .i64 0], .bool false]) ∧ _
 clear e1 e2 e3 e4
 go_enter Tryz.func162, Tryz.ntmps162
 go_wp2
 obtain ⟨b1, b2⟩ := (NB 0 0).out
 have c0 := (b1.cell 0).1
 have c1 := (b1.cell 1).1
 exact bodyPost_ret (v := .tuple #[.agg #[.int .i64 0, .int .i64 0], .bool false]) (by simp [results, Tryz.results162, go_sem, c0, c1]) rfl ⟨rfl, b2⟩
theorem fld_text (a0 : Int) (a1 : ByteArray) (a2 a3 : Int) (v : World) : Sem.run Tryz.prog (Instr.field 110 (.agg #[.int .i64 a0, .string a1, .int .i64 a2, .int .i64 a3]) 1) v = .ok (.string a1) v := by kernel_rfl
section
variable {W w : World} {R : Nat} {ta : Option Addr} {tc : Nat} {i l o : Value} {L : List Tok} {p : Nat} {all : List Nd} {S : List It}
theorem q_name (h : Tq W w R ta tc i l o L p all S) (hL : Toks L) (b : Bool) (hb : nameB (nextT L p).2.1 = b) :
  Calls Tryz.prog 103 #[.pointer (some ⟨R, 0, none⟩)] w fun e w' => e = .returned (.tuple #[.string (if b = true then (nextT L p).2.1 else ⟨#[]⟩), .bool b]) ∧ Tq W w' R ta tc i l o L (if b = true then p + 1 else p) all S ∧ Keep TY w w' := by
 have NX := q_next h
 have FD := fld_text
 have hh : Hid (Tq W w R ta tc i l o L p all S) := h
 have SN := fun v => sign_name (nextT L p).2.1 v (hL.size p) b hb
 cases b with
 | false =>
  generalize (nextT L p).1 = y0 at *
  generalize (nextT L p).2.1 = y1 at *
  generalize (nextT L p).2.2.1 = y2 at *
  generalize (nextT L p).2.2.2 = y3 at *
  clear h hb hL
  go_enter Tryz.func103, Tryz.ntmps103
  go_wp2_with (first
   | (go_at_call 101; (with_reducible refine Calls.mono NX ?_); rintro e w1 ⟨rfl, d1⟩)
   | (go_at_call 62; (with_reducible refine Calls.mono (SN _) ?_); rintro e w2 ⟨rfl, d2⟩))
  go_ret2
  exact ⟨rfl, (hh.out.more d1).more d2, (Keep.of TY d1).more d2⟩
 | true =>
  have hp : p < L.length := by
   rcases Nat.lt_or_ge p L.length with q | q
   ·exact q
   ·rw [nextT_none (List.getElem?_eq_none q)] at hb
    exact absurd hb (by unfold nameB; rw [decide_eq_false (show ¬ (1 ≤ noText.size ∧ noText.size ≤ 40) from fun q => absurd q.1 (by show ¬ 1 ≤ 0; omega))]; simp)
  have SK := fun (v : World) (d : Below w.heap.size w v) => q_skip (h.more d) hp
  generalize (nextT L p).1 = y0 at *
  generalize (nextT L p).2.1 = y1 at *
  generalize (nextT L p).2.2.1 = y2 at *
  generalize (nextT L p).2.2.2 = y3 at *
  clear h hb hL hp
  go_enter Tryz.func103, Tryz.ntmps103
  go_wp2_with (first
   | (go_at_call 101; (with_reducible refine Calls.mono NX ?_); rintro e w1 ⟨rfl, d1⟩)
   | (go_at_call 62; (with_reducible refine Calls.mono (SN _) ?_); rintro e w2 ⟨rfl, d2⟩; have d3 := below_more d1 d2)
   | (go_at_call 102; (with_reducible refine Calls.mono (SK _ d3) ?_); rintro e w3 ⟨rfl, T3, K3⟩))
  go_ret2
  exact ⟨rfl, T3, (Keep.of TY d3).trans K3⟩
def expV (m : Bool) : Option Int → Int
 | some n => if m = true then -n else n
 | none => 0
theorem q_exponent (h : Tq W w R ta tc i l o L p all S) (hL : Toks L) (he : ErrV W) (m : Bool) (hm : ((nextT L p).2.1.toList == [45]) = m) (p1 : Nat) (hp1 : (if m = true then p + 1 else p) = p1) (x : Option Int) (hx : expA (nextT L p1).2.1 = x) :
  Calls Tryz.prog 206 #[.pointer (some ⟨R, 0, none⟩)] w fun e w' => e = .returned (.tuple #[.int .i64 (expV m x), .bool x.isSome]) ∧ Tq W w' R ta tc i l o L (if x.isSome = true then p1 + 1 else p1) all S ∧ Keep TY w w' := by
 have PS := q_pass h ⟨#[45]⟩ (by rw [toList_byte]; simp) m (by rw [toList_byte]; exact hm)
 rw [hp1] at PS
 have FD := fld_text
 have NX := fun (v : World) (T : Tq W v R ta tc i l o L p1 all S) => q_next T
 have EX := hL.exp p1
 by_cases hA : ∃ n, atoiAll (nextT L p1).2.1.data.toList = .ok n
 ·obtain ⟨n, hA⟩ := hA
  have AT := fun (v : World) => str_atoi_ok (nextT L p1).2.1 (hL.size p1) n hA v
  unfold expA at hx
  rw [hA] at hx
  dsimp only at hx
  by_cases h20 : n ≤ 20
  ·rw [if_pos h20] at hx
   subst hx
   have hk : 0 ≤ n ∧ p1 < L.length := by
    rcases EX with ⟨q, -⟩ | ⟨t, q1, q2, q3, q4, q5⟩
    ·unfold expA at q; rw [hA] at q; dsimp only at q; rw [if_pos h20] at q; exact absurd q (by simp)
    ·unfold expA at q5; rw [hA] at q5; dsimp only at q5; rw [if_pos h20] at q5
     injection q5 with q5
     exact ⟨by omega, (List.getElem?_eq_some_iff.1 q1).1⟩
   have SK := fun (v : World) (T : Tq W v R ta tc i l o L p1 all S) => q_skip T hk.2
   have k20 : ¬ (20 : Int) < n := by omega
   have wn : wrap64 (-n) = -n := by unfold wrap64; omega
   show Calls Tryz.prog _ _ w fun e w' => e = .returned (.tuple #[.int .i64 (if m = true then -n else n), .bool true]) ∧ Tq W w' R ta tc i l o L (p1 + 1) all S ∧ Keep TY w w'
   generalize (nextT L p1).1 = y0 at *
   generalize (nextT L p1).2.1 = y1 at *
   generalize (nextT L p1).2.2.1 = y2 at *
   generalize (nextT L p1).2.2.2 = y3 at *
   clear h hm hp1 hL he EX hk hA h20
   cases m with
   | false =>
    go_enter Tryz.func206, Tryz.ntmps206
    go_wp2_with (first
     | (go_at_call 67; (with_reducible refine Calls.mono PS ?_); rintro e w1 ⟨rfl, T1, K1⟩)
     | (go_at_call 101; (with_reducible refine Calls.mono (NX _ T1) ?_); rintro e w2 ⟨rfl, d2⟩; have T2 := T1.more d2)
     | (go_at_call 222; (with_reducible refine Calls.mono (AT _) ?_); rintro e w3 ⟨rfl, d3⟩; have T3 := T2.more d3)
     | (go_at_call 102; (with_reducible refine Calls.mono (SK _ T3) ?_); rintro e w4 ⟨rfl, T4, K4⟩))
    go_ret2
    exact ⟨rfl, T4, ((K1.more d2).more d3).trans K4⟩
   | true =>
    go_enter Tryz.func206, Tryz.ntmps206
    go_wp2_with (first
     | (go_at_call 67; (with_reducible refine Calls.mono PS ?_); rintro e w1 ⟨rfl, T1, K1⟩)
     | (go_at_call 101; (with_reducible refine Calls.mono (NX _ T1) ?_); rintro e w2 ⟨rfl, d2⟩; have T2 := T1.more d2)
     | (go_at_call 222; (with_reducible refine Calls.mono (AT _) ?_); rintro e w3 ⟨rfl, d3⟩; have T3 := T2.more d3)
     | (go_at_call 102; (with_reducible refine Calls.mono (SK _ T3) ?_); rintro e w4 ⟨rfl, T4, K4⟩))
    go_ret2
    exact ⟨rfl, T4, ((K1.more d2).more d3).trans K4⟩
  ·rw [if_neg h20] at hx
   subst hx
   have k20 : (20 : Int) < n := by omega
   show Calls Tryz.prog _ _ w fun e w' => e = .returned (.tuple #[.int .i64 0, .bool false]) ∧ Tq W w' R ta tc i l o L p1 all S ∧ Keep TY w w'
   generalize (nextT L p1).1 = y0 at *
   generalize (nextT L p1).2.1 = y1 at *
   generalize (nextT L p1).2.2.1 = y2 at *
   generalize (nextT L p1).2.2.2 = y3 at *
   clear h hm hp1 hL he EX hA h20
   go_enter Tryz.func206, Tryz.ntmps206
   go_wp2_with (first
    | (go_at_call 67; (with_reducible refine Calls.mono PS ?_); rintro e w1 ⟨rfl, T1, K1⟩)
    | (go_at_call 101; (with_reducible refine Calls.mono (NX _ T1) ?_); rintro e w2 ⟨rfl, d2⟩; have T2 := T1.more d2)
    | (go_at_call 222; (with_reducible refine Calls.mono (AT _) ?_); rintro e w3 ⟨rfl, d3⟩; have T3 := T2.more d3))
   go_ret2
   exact ⟨rfl, T3, ((K1.more d2).more d3)⟩
 ·have hA' : ∀ n, atoiAll (nextT L p1).2.1.data.toList ≠ .ok n := fun n q => hA ⟨n, q⟩
  have AT := fun (v : World) (hv : Below W.heap.size W v) => str_atoi_err (nextT L p1).2.1 (hL.size p1) hA' v (he.below hv)
  rw [expA_none hA'] at hx
  subst hx
  show Calls Tryz.prog _ _ w fun e w' => e = .returned (.tuple #[.int .i64 0, .bool false]) ∧ Tq W w' R ta tc i l o L p1 all S ∧ Keep TY w w'
  generalize (nextT L p1).1 = y0 at *
  generalize (nextT L p1).2.1 = y1 at *
  generalize (nextT L p1).2.2.1 = y2 at *
  generalize (nextT L p1).2.2.2 = y3 at *
  clear h hm hp1 hL he EX hA hA'
  go_enter Tryz.func206, Tryz.ntmps206
  go_wp2_with (first
   | (go_at_call 67; (with_reducible refine Calls.mono PS ?_); rintro e w1 ⟨rfl, T1, K1⟩)
   | (go_at_call 101; (with_reducible refine Calls.mono (NX _ T1) ?_); rintro e w2 ⟨rfl, d2⟩; have T2 := T1.more d2)
   | (go_at_call 222; (with_reducible refine Calls.mono (AT _ T2.below) ?_); rintro e w3 ⟨n, N, rfl, d3⟩; have T3 := T2.more d3))
  go_ret2
  exact ⟨rfl, T3, ((K1.more d2).more d3)⟩
end
end
section
open Go.RowKit Go.Lib
theorem pow_no {L : List Tok} (hL : Toks L) {p : Nat} {all : List Nd} {a : Int} (h : ((nextT L p).2.1.toList == [94]) = false) : (⟨p, false, all⟩ : Rd).powT L a = (a, ⟨p, false, all⟩) := by
 unfold Rd.powT
 rw [hL.mark rfl (c := 94) (by decide), if_neg (by rw [h]; simp)]
theorem pow_yes {L : List Tok} (hL : Toks L) {p : Nat} {all : List Nd} {a : Int} (h : ((nextT L p).2.1.toList == [94]) = true) {m : Bool} (hm : ((nextT L (p + 1)).2.1.toList == [45]) = m) {p1 : Nat} (hp : (if m = true then p + 1 + 1 else p + 1) = p1) :
  (⟨p, false, all⟩ : Rd).powT L a = (⟨p1, false, all⟩ : Rd).powE L a (if m = true then -1 else 1) := by
 unfold Rd.powT
 rw [hL.mark rfl (c := 94) (by decide), if_pos h]
 have e : (⟨p, false, all⟩ : Rd).skip.is L 2 [45] = m := by
  rw [hL.mark (r := (⟨p, false, all⟩ : Rd).skip) rfl (c := 45) (by decide)]; exact hm
 rw [e]
 cases m with
 | false => rw [if_neg (by simp), if_neg (by simp)]; subst hp; rfl
 | true => rw [if_pos rfl, if_pos rfl]; subst hp; rfl
theorem powE_none {L : List Tok} (hL : Toks L) {p : Nat} {all : List Nd} {a f : Int} (h : expA (nextT L p).2.1 = none) : (⟨p, false, all⟩ : Rd).powE L a f = (a, ⟨p, true, all⟩) := by
 unfold Rd.powE
 rw [if_neg (by simp)]
 rcases hL.exp p with ⟨-, q | ⟨t, q, q1⟩⟩ | ⟨t, q1, q2, q3, q4, q5⟩
 ·show (match L[p]? with | none => _ | some t => _) = _
  rw [q]; rfl
 ·show (match L[p]? with | none => _ | some t => _) = _
  rw [q]
  dsimp only
  by_cases h1 : t.1 ≠ 1
  ·rw [if_pos h1]; rfl
  ·rw [if_neg h1, if_pos (q1.resolve_left h1)]; rfl
 ·rw [q5] at h; exact absurd h (by simp)
theorem powE_some {L : List Tok} (hL : Toks L) {p : Nat} {all : List Nd} {a f n : Int} (h : expA (nextT L p).2.1 = some n) : (⟨p, false, all⟩ : Rd).powE L a f = ((all.length : Int), ⟨p + 1, false, all ++ [⟨7, a, 0, f * n, noText, (false, 0, 0)⟩]⟩) := by
 unfold Rd.powE
 rw [if_neg (by simp)]
 rcases hL.exp p with ⟨q, -⟩ | ⟨t, q1, q2, q3, q4, q5⟩
 ·rw [q] at h; exact absurd h (by simp)
 ·show (match L[p]? with | none => _ | some t => _) = _
  rw [q1]
  dsimp only
  rw [q5] at h
  injection h with h
  rw [if_neg (by omega), if_neg (by omega), h]
  rfl
section
variable {W w : World} {R : Nat} {ta : Option Addr} {tc : Nat} {i l o : Value} {L : List Tok} {p : Nat} {all : List Nd} {S : List It}
def AftP (W w : World) (R : Nat) (ta : Option Addr) (tc : Nat) (i l o : Value) (L : List Tok) (S : List It) (Z : Int × Rd) (e : Ending) (w' : World) : Prop :=
 e = .returned (.bool (!Z.2.bad)) ∧ (∃ al S', Tq W w' R ta tc i l o L Z.2.pos al S' ∧ (Z.2.bad = false → al = Z.2.all ∧ S' = S ++ [.nd Z.1])) ∧ Keep TY w w'
theorem q_power (h : Tq W w R ta tc i l o L p all S) (hL : Toks L) (he : ErrV W) (a : Int) (hl : all.length + S.length ≤ 50000) :
  Calls Tryz.prog 189 #[.pointer (some ⟨R, 0, none⟩), .int .i64 a] w (AftP W w R ta tc i l o L S ((⟨p, false, all⟩ : Rd).powT L a)) := by
 cases hb : ((nextT L p).2.1.toList == [94]) with
 | false =>
  rw [pow_no hL hb]
  unfold AftP
  have PS := q_pass h ⟨#[94]⟩ (by rw [toList_byte]; simp) false (by rw [toList_byte]; exact hb)
  have PU := fun (v : World) (T : Tq W v R ta tc i l o L p all S) => q_push T (.nd a) (by omega)
  unfold itV at PU
  dsimp only at PU
  rw [if_neg (by simp)] at PS
  clear h hb hL he hl
  go_enter Tryz.func189, Tryz.ntmps189
  go_wp2_with (first
   | (go_at_call 67; (with_reducible refine Calls.mono PS ?_); rintro e w1 ⟨rfl, T1, K1⟩)
   | (go_at_call 163; (with_reducible refine Calls.mono (PU _ T1) ?_); rintro e w2 ⟨rfl, T2, K2⟩))
  go_ret
  exact ⟨rfl, ⟨all, _, T2, fun _ => ⟨rfl, rfl⟩⟩, K1.trans K2⟩
 | true =>
  obtain ⟨m, hm⟩ : ∃ m, ((nextT L (p + 1)).2.1.toList == [45]) = m := ⟨_, rfl⟩
  obtain ⟨p1, hp1⟩ : ∃ p1, (if m = true then p + 1 + 1 else p + 1) = p1 := ⟨_, rfl⟩
  rw [pow_yes hL hb hm hp1]
  have PS := q_pass h ⟨#[94]⟩ (by rw [toList_byte]; simp) true (by rw [toList_byte]; exact hb)
  rw [if_pos rfl] at PS
  cases hx : expA (nextT L p1).2.1 with
  | none =>
   rw [powE_none hL hx]
   unfold AftP
   have EX := fun (v : World) (T : Tq W v R ta tc i l o L (p + 1) all S) => q_exponent T hL he m hm p1 hp1 none hx
   unfold expV at EX
   dsimp only [Option.isSome] at EX
   simp only [Bool.false_eq_true, if_false] at EX
   clear h hb hL he hl hm hp1 hx
   go_enter Tryz.func189, Tryz.ntmps189
   go_wp2_with (first
    | (go_at_call 67; (with_reducible refine Calls.mono PS ?_); rintro e w1 ⟨rfl, T1, K1⟩)
    | (go_at_call 206; (with_reducible refine Calls.mono (EX _ T1) ?_); rintro e w2 ⟨rfl, T2, K2⟩))
   go_ret
   exact ⟨rfl, ⟨all, S, T2, fun q => absurd q (by simp)⟩, K1.trans K2⟩
  | some n =>
   rw [powE_some hL hx]
   unfold AftP
   have EX := fun (v : World) (T : Tq W v R ta tc i l o L (p + 1) all S) => q_exponent T hL he m hm p1 hp1 (some n) hx
   unfold expV at EX
   dsimp only [Option.isSome] at EX
   simp only [if_true] at EX
   have ef : (if m = true then (-1 : Int) else 1) * n = if m = true then -n else n := by cases m <;> simp
   rw [ef]
   generalize (if m = true then -n else n) = k at *
   have AD := fun (v : World) (T : Tq W v R ta tc i l o L (p1 + 1) all S) => q_add T ⟨7, a, 0, k, ⟨#[]⟩, (false, 0, 0)⟩ none 0 0 none 0 0 (num_zeroY T.below 7 a 0 k _) (by omega)
   dsimp only at AD
   have PU := fun (v : World) (T : Tq W v R ta tc i l o L (p1 + 1) (all ++ [⟨7, a, 0, k, ⟨#[]⟩, (false, 0, 0)⟩]) S) => q_push T (.nd all.length) (by omega)
   unfold itV at PU
   dsimp only at PU
   generalize hN : all.length = N at *
   clear h hb hL he hl hm hp1 hx ef
   go_enter Tryz.func189, Tryz.ntmps189
   go_wp2_with (first
    | (go_at_call 67; (with_reducible refine Calls.mono PS ?_); rintro e w1 ⟨rfl, T1, K1⟩)
    | (go_at_call 206; (with_reducible refine Calls.mono (EX _ T1) ?_); rintro e w2 ⟨rfl, T2, K2⟩)
    | (go_at_call 190; (with_reducible refine Calls.mono (AD _ T2) ?_); rintro e w3 ⟨rfl, T3, K3⟩)
    | (go_at_call 163; (with_reducible refine Calls.mono (PU _ T3) ?_); rintro e w4 ⟨rfl, T4, K4⟩))
   go_ret
   exact ⟨rfl, ⟨_, _, T4, fun _ => ⟨rfl, rfl⟩⟩, ((K1.trans K2).trans K3).trans K4⟩
theorem AftP.from {Z : Int × Rd} {v : World} {e : Ending} {w' : World} (K : Keep TY w v) (h : AftP W v R ta tc i l o L S Z e w') : AftP W w R ta tc i l o L S Z e w' := ⟨h.1, h.2.1, K.trans h.2.2⟩
theorem bad_pow (L : List Tok) (p : Nat) (all : List Nd) (a : Int) : (⟨p, true, all⟩ : Rd).powT L a = (a, ⟨p, true, all⟩) := by
 unfold Rd.powT
 rw [if_neg]
 unfold Rd.is
 simp
theorem q_shut {S0 : List It} (h : Tq W w R ta tc i l o L p all (S0 ++ [.br])) (hL : Toks L) (he : ErrV W) (a : Int) (hl : all.length + S0.length ≤ 50000) :
  Calls Tryz.prog 165 #[.pointer (some ⟨R, 0, none⟩), .int .i64 a] w (AftP W w R ta tc i l o L S0 (shutE L (a, ⟨p, false, all⟩))) := by
 unfold shutE
 dsimp only
 cases hb : ((nextT L p).2.1.toList == [41]) with
 | false =>
  have e : (⟨p, false, all⟩ : Rd).want L 2 [41] = ⟨p, true, all⟩ := by
   unfold Rd.want
   rw [hL.mark rfl (c := 41) (by decide), if_neg (by rw [hb]; simp)]; rfl
  rw [e, bad_pow]
  unfold AftP
  have PS := q_pass h ⟨#[41]⟩ (by rw [toList_byte]; simp) false (by rw [toList_byte]; exact hb)
  rw [if_neg (by simp)] at PS
  clear h hb hL he hl e
  go_enter Tryz.func165, Tryz.ntmps165
  go_wp2_with (go_at_call 67; (with_reducible refine Calls.mono PS ?_); rintro e w1 ⟨rfl, T1, K1⟩)
  go_ret
  exact ⟨rfl, ⟨_, _, T1, fun q => absurd q (by simp)⟩, K1⟩
 | true =>
  have e : (⟨p, false, all⟩ : Rd).want L 2 [41] = ⟨p + 1, false, all⟩ := by
   unfold Rd.want
   rw [hL.mark rfl (c := 41) (by decide), if_pos hb]; rfl
  rw [e]
  have PS := q_pass h ⟨#[41]⟩ (by rw [toList_byte]; simp) true (by rw [toList_byte]; exact hb)
  rw [if_pos rfl] at PS
  have DR := fun (v : World) (T : Tq W v R ta tc i l o L (p + 1) all (S0 ++ [.br])) => q_drop T (by omega)
  have PW := fun (v : World) (T : Tq W v R ta tc i l o L (p + 1) all S0) => q_power T hL he a hl
  generalize (⟨p + 1, false, all⟩ : Rd).powT L a = Z at *
  clear h hb hL he hl e
  go_enter Tryz.func165, Tryz.ntmps165
  go_wp2_with (first
   | (go_at_call 67; (with_reducible refine Calls.mono PS ?_); rintro e w1 ⟨rfl, T1, K1⟩)
   | (go_at_call 187; (with_reducible refine Calls.mono (DR _ T1) ?_); rintro e w2 ⟨rfl, T2, K2⟩)
   | (go_at_call 189; (with_reducible refine Calls.mono (PW _ T2) ?_); rintro e w3 ⟨rfl, T3, K3⟩))
  go_ret
  exact AftP.from (K1.trans K2) ⟨rfl, T3, K3⟩
theorem q_begin_neg (h : Tq W w R ta tc i l o L p all S) (hl : all.length + S.length ≤ 50000) (hb : ((nextT L p).2.1.toList == [45]) = true) :
  Calls Tryz.prog 161 #[.pointer (some ⟨R, 0, none⟩)] w fun e w' => e = .returned (.bool true) ∧ Tq W w' R ta tc i l o L (p + 1) all (S ++ [.wt 6 2]) ∧ Keep TY w w' := by
 have NX := q_next h
 have PS := fun (v : World) (T : Tq W v R ta tc i l o L p all S) => q_pass T ⟨#[45]⟩ (by rw [toList_byte]; simp) true (by rw [toList_byte]; exact hb)
 simp only [if_true] at PS
 have PU := fun (v : World) (T : Tq W v R ta tc i l o L (p + 1) all S) => q_push T (.wt 6 2) (by omega)
 unfold itV at PU
 dsimp only at PU
 have HH : Hid (Tq W w R ta tc i l o L p all S) := h
 generalize (nextT L p).1 = y0 at *
 generalize (nextT L p).2.1 = y1 at *
 generalize (nextT L p).2.2.1 = y2 at *
 generalize (nextT L p).2.2.2 = y3 at *
 clear h hb hl
 go_enter Tryz.func161, Tryz.ntmps161
 go_wp2_with (first
  | (go_at_call 101; (with_reducible refine Calls.mono NX ?_); rintro e w1 ⟨rfl, d1⟩; have T1 := fun z => HH.out.more (d1.alloc d1.size z); have K1 := fun z => Keep.of TY (d1.alloc d1.size z))
  | (go_at_call 67; (with_reducible refine Calls.mono (PS _ (T1 _)) ?_); rintro e w2 ⟨rfl, T2, K2⟩)
  | (go_at_call 163; (with_reducible refine Calls.mono (PU _ T2) ?_); rintro e w3 ⟨rfl, T3, K3⟩))
 go_ret
 exact ⟨rfl, T3, ((K1 _).trans K2).trans K3⟩
theorem q_begin_brk (h : Tq W w R ta tc i l o L p all S) (hl : all.length + S.length ≤ 50000) (hb0 : ((nextT L p).2.1.toList == [45]) = false) (hb : ((nextT L p).2.1.toList == [40]) = true) :
  Calls Tryz.prog 161 #[.pointer (some ⟨R, 0, none⟩)] w fun e w' => e = .returned (.bool true) ∧ Tq W w' R ta tc i l o L (p + 1) all (S ++ [.br]) ∧ Keep TY w w' := by
 have NX := q_next h
 have PS := fun (v : World) (T : Tq W v R ta tc i l o L p all S) => q_pass T ⟨#[45]⟩ (by rw [toList_byte]; simp) false (by rw [toList_byte]; exact hb0)
 have PS2 := fun (v : World) (T : Tq W v R ta tc i l o L p all S) => q_pass T ⟨#[40]⟩ (by rw [toList_byte]; simp) true (by rw [toList_byte]; exact hb)
 simp only [if_true, Bool.false_eq_true, if_false] at PS PS2
 have PU := fun (v : World) (T : Tq W v R ta tc i l o L (p + 1) all S) => q_push T .br (by omega)
 unfold itV at PU
 dsimp only at PU
 have HH : Hid (Tq W w R ta tc i l o L p all S) := h
 generalize (nextT L p).1 = y0 at *
 generalize (nextT L p).2.1 = y1 at *
 generalize (nextT L p).2.2.1 = y2 at *
 generalize (nextT L p).2.2.2 = y3 at *
 clear h hb hb0 hl
 go_enter Tryz.func161, Tryz.ntmps161
 go_wp2_with (first
  | (go_at_call 101; (with_reducible refine Calls.mono NX ?_); rintro e w1 ⟨rfl, d1⟩; have T1 := fun z => HH.out.more (d1.alloc d1.size z); have K1 := fun z => Keep.of TY (d1.alloc d1.size z))
  | (go_at_call 67; (with_reducible refine Calls.mono (PS _ (T1 _)) ?_); rintro e w2 ⟨rfl, T2, K2⟩)
  | (go_at_call 67; (with_reducible refine Calls.mono (PS2 _ T2) ?_); rintro e w3 ⟨rfl, T3, K3⟩)
  | (go_at_call 163; (with_reducible refine Calls.mono (PU _ T3) ?_); rintro e w4 ⟨rfl, T4, K4⟩))
 go_ret
 exact ⟨rfl, T4, (((K1 _).trans K2).trans K3).trans K4⟩
end
end
end Go.Proofs.YtaeladkcmpdkhaaGreatDoor
