/-
  Texts of mine put together in build order, as far as TreeParses, TreeRight need them: Atoi, TreeQE, TreeQF, TreeQG, TreeQH, TreeQI, TreeQJ, TreeQK, TreeQL, TreeQM, TreeQP. No conditions of their own.
-/
import Derived.Shelf.Strconv.AtoiAll
import Derived.Shelf.Strconv.ErrVarAll
import Derived.Test.YtbcfplaalepnbaaGreatDoorProg
import Derived.WalkKit
import Derived.ProofKit
import Derived.Lib.AppendZerosOnto
import Derived.Laws.AppendOwn
import Derived.Laws.AppendOwnNone
import Derived.Test.YtbcfplaalepnbaaGreatDoorRows
import Derived.WalkLawsBesides
import Derived.Deep.QuietTactic
import Derived.BigQuiet
import Derived.Outline
import Derived.Lib.BitFns
import Derived.OpenShut
import Derived.Laws.CopyOwn
import Derived.Lib.DecodeN
import Derived.Deep.LoopGhost
import Derived.Deep.RegionLaw
import Derived.Deep.DrawnRows
import Derived.Deep.RegionWith
import Derived.Deep.RegionHeld3
import Derived.Laws.IdiomStrings
import Derived.Laws.Bits64b
import Derived.RangeFuncNested
import Derived.RangeFuncBound
import Derived.RangeFuncCalls
import Derived.RangeFuncLeaves
import Derived.Shelf.Abstract
import Derived.Shelf.RegionOpen
import Derived.OwnWalkIn
import Derived.TacticsInMore
import Derived.LoopNIn
import Derived.LoopIn
import Derived.Sort.LoopGhostIn
import Derived.Lib.AtoiAll
import Derived.Lib.OthersKept
import Derived.Laws.EntriesVeiled
import Derived.Deep.DeepCutAuto
import Derived.Lib.Bytealg
import Derived.Test.YtbcfplaalepnbaaGreatDoorPack1
import Derived.Test.YtbcfplaalepnbaaGreatDoorPack2
import Derived.Test.YtbcfplaalepnbaaGreatDoorPack3
import Derived.Test.YtbcfplaalepnbaaGreatDoorPack4
import Derived.Test.YtbcfplaalepnbaaGreatDoorPack5
namespace Go.Proofs.YtbcfplaalepnbaaGreatDoor
open Go.Shelf
def seat_laysC172_ren : Go.Shelf.Ren := ⟨fun | 172 => 176 | 244 => 194 | 245 => 195 | 247 => 215 | 279 => 216 | 280 => 217 | 281 => 218 | 282 => 219 | 287 => 234 | 316 => 144 | 171 => 236 | 205 => 235 | 321 => 245 | 322 => 246 | 243 => 247 | 246 => 253 | 283 => 254 | 284 => 255 | 285 => 256 | 286 => 257 | 129 => 259 | 317 => 258 | 318 => 260 | 319 => 261 | 320 => 262 | 337 => 263 | 338 => 264 | n => n, fun | 9 => 9 | 3 => 3 | 75 => 188 | 76 => 189 | 4 => 4 | 5 => 5 | 167 => 222 | 37 => 129 | 0 => 0 | 85 => 223 | 2 => 2 | 168 => 225 | 53 => 111 | 175 => 242 | 46 => 201 | 210 => 245 | 127 => 171 | 145 => 257 | 143 => 255 | 21 => 21 | 171 => 264 | 173 => 267 | 212 => 270 | 51 => 84 | 20 => 20 | 213 => 271 | 232 => 273 | 233 => 274 | 80 => 99 | n => n, fun | 15 => 1 | 16 => 2 | 17 => 5 | 18 => 6 | 19 => 7 | n => n⟩
theorem seat_laysC172 : Go.Proofs.LaysC.n172 Tryz.prog seat_laysC172_ren := {
  mixed := by kernel_rfl
  f129 := Tryz.func259.trans (congrArg some (by kernel_rfl))
  f171 := Tryz.func236.trans (congrArg some (by kernel_rfl))
  f172 := Tryz.func176.trans (congrArg some (by kernel_rfl))
  f205 := Tryz.func235.trans (congrArg some (by kernel_rfl))
  f243 := Tryz.func247.trans (congrArg some (by kernel_rfl))
  f244 := Tryz.func194.trans (congrArg some (by kernel_rfl))
  f245 := Tryz.func195.trans (congrArg some (by kernel_rfl))
  f246 := Tryz.func253.trans (congrArg some (by kernel_rfl))
  f247 := Tryz.func215.trans (congrArg some (by kernel_rfl))
  f279 := Tryz.func216.trans (congrArg some (by kernel_rfl))
  f280 := Tryz.func217.trans (congrArg some (by kernel_rfl))
  f281 := Tryz.func218.trans (congrArg some (by kernel_rfl))
  f282 := Tryz.func219.trans (congrArg some (by kernel_rfl))
  f283 := Tryz.func254.trans (congrArg some (by kernel_rfl))
  f284 := Tryz.func255.trans (congrArg some (by kernel_rfl))
  f285 := Tryz.func256.trans (congrArg some (by kernel_rfl))
  f286 := Tryz.func257.trans (congrArg some (by kernel_rfl))
  f287 := Tryz.func234.trans (congrArg some (by kernel_rfl))
  f316 := Tryz.func144.trans (congrArg some (by kernel_rfl))
  f317 := Tryz.func258.trans (congrArg some (by kernel_rfl))
  f318 := Tryz.func260.trans (congrArg some (by kernel_rfl))
  f319 := Tryz.func261.trans (congrArg some (by kernel_rfl))
  f320 := Tryz.func262.trans (congrArg some (by kernel_rfl))
  f321 := Tryz.func245.trans (congrArg some (by kernel_rfl))
  f322 := Tryz.func246.trans (congrArg some (by kernel_rfl))
  f337 := Tryz.func263.trans (congrArg some (by kernel_rfl))
  f338 := Tryz.func264.trans (congrArg some (by kernel_rfl))
  t0 := Tryz.underlying0
  a0 := Tryz.isAgg0
  z0 := Tryz.sizeOf0
  v0 := Tryz.zeroValue0
  t2 := Tryz.underlying2
  a2 := Tryz.isAgg2
  z2 := Tryz.sizeOf2
  v2 := Tryz.zeroValue2
  t3 := Tryz.underlying3
  a3 := Tryz.isAgg3
  z3 := Tryz.sizeOf3
  v3 := Tryz.zeroValue3
  t4 := Tryz.underlying4
  a4 := Tryz.isAgg4
  z4 := Tryz.sizeOf4
  v4 := Tryz.zeroValue4
  t5 := Tryz.underlying5
  a5 := Tryz.isAgg5
  z5 := Tryz.sizeOf5
  v5 := Tryz.zeroValue5
  t9 := Tryz.underlying9
  a9 := Tryz.isAgg9
  z9 := Tryz.sizeOf9
  v9 := Tryz.zeroValue9
  t20 := Tryz.underlying20
  a20 := Tryz.isAgg20
  z20 := Tryz.sizeOf20
  v20 := Tryz.zeroValue20
  t21 := Tryz.underlying21
  a21 := Tryz.isAgg21
  z21 := Tryz.sizeOf21
  v21 := Tryz.zeroValue21
  t37 := Tryz.underlying129
  a37 := Tryz.isAgg129
  z37 := Tryz.sizeOf129
  v37 := Tryz.zeroValue129
  t46 := Tryz.underlying201
  a46 := Tryz.isAgg201
  z46 := Tryz.sizeOf201
  v46 := Tryz.zeroValue201
  t51 := Tryz.underlying84
  a51 := Tryz.isAgg84
  z51 := Tryz.sizeOf84
  v51 := Tryz.zeroValue84
  t53 := Tryz.underlying111
  a53 := Tryz.isAgg111
  z53 := Tryz.sizeOf111
  v53 := Tryz.zeroValue111
  t75 := Tryz.underlying188
  a75 := Tryz.isAgg188
  z75 := Tryz.sizeOf188
  v75 := Tryz.zeroValue188
  t76 := Tryz.underlying189
  a76 := Tryz.isAgg189
  z76 := Tryz.sizeOf189
  v76 := Tryz.zeroValue189
  t85 := Tryz.underlying223
  a85 := Tryz.isAgg223
  z85 := Tryz.sizeOf223
  v85 := Tryz.zeroValue223
  t127 := Tryz.underlying171
  a127 := Tryz.isAgg171
  z127 := Tryz.sizeOf171
  v127 := Tryz.zeroValue171
  t143 := Tryz.underlying255
  a143 := Tryz.isAgg255
  z143 := Tryz.sizeOf255
  v143 := Tryz.zeroValue255
  t145 := Tryz.underlying257
  a145 := Tryz.isAgg257
  z145 := Tryz.sizeOf257
  v145 := Tryz.zeroValue257
  t167 := Tryz.underlying222
  a167 := Tryz.isAgg222
  z167 := Tryz.sizeOf222
  v167 := Tryz.zeroValue222
  t168 := Tryz.underlying225
  a168 := Tryz.isAgg225
  z168 := Tryz.sizeOf225
  v168 := Tryz.zeroValue225
  t171 := Tryz.underlying264
  a171 := Tryz.isAgg264
  z171 := Tryz.sizeOf264
  v171 := Tryz.zeroValue264
  t173 := Tryz.underlying267
  a173 := Tryz.isAgg267
  z173 := Tryz.sizeOf267
  v173 := Tryz.zeroValue267
  t175 := Tryz.underlying242
  a175 := Tryz.isAgg242
  z175 := Tryz.sizeOf242
  v175 := Tryz.zeroValue242
  t210 := Tryz.underlying245
  a210 := Tryz.isAgg245
  z210 := Tryz.sizeOf245
  v210 := Tryz.zeroValue245
  t212 := Tryz.underlying270
  a212 := Tryz.isAgg270
  z212 := Tryz.sizeOf270
  v212 := Tryz.zeroValue270
  t213 := Tryz.underlying271
  a213 := Tryz.isAgg271
  z213 := Tryz.sizeOf271
  t232 := Tryz.underlying273
  a232 := Tryz.isAgg273
  z232 := Tryz.sizeOf273
  v232 := Tryz.zeroValue273
  t233 := Tryz.underlying274
  a233 := Tryz.isAgg274
  z233 := Tryz.sizeOf274
  v233 := Tryz.zeroValue274
  g15 := by kernel_rfl
  g16 := by kernel_rfl
  g17 := by kernel_rfl
  g18 := by kernel_rfl
  g19 := by kernel_rfl
  t80 := Tryz.underlying99
  a80 := Tryz.isAgg99
  z80 := Tryz.sizeOf99
  v80 := Tryz.zeroValue99
  i0 := by kernel_rfl
  i2 := by kernel_rfl
  i3 := by kernel_rfl
  i4 := by kernel_rfl
  i5 := by kernel_rfl
  i9 := by kernel_rfl
  i20 := by kernel_rfl
  i21 := by kernel_rfl
  i37 := by kernel_rfl
  i46 := by kernel_rfl
  i51 := by kernel_rfl
  i53 := by kernel_rfl
  i75 := by kernel_rfl
  i76 := by kernel_rfl
  i80 := by kernel_rfl
  i85 := by kernel_rfl
  i127 := by kernel_rfl
  i143 := by kernel_rfl
  i145 := by kernel_rfl
  i167 := by kernel_rfl
  i168 := by kernel_rfl
  i171 := by kernel_rfl
  i173 := by kernel_rfl
  i175 := by kernel_rfl
  i210 := by kernel_rfl
  i212 := by kernel_rfl
  i232 := by kernel_rfl
  i233 := by kernel_rfl
  m15 := by kernel_rfl
  m16 := by kernel_rfl
  m17 := by kernel_rfl
  m18 := by kernel_rfl
  m19 := by kernel_rfl
  c0 := by kernel_rfl
  c2 := by kernel_rfl
  c3 := by kernel_rfl
  c4 := by kernel_rfl
  c5 := by kernel_rfl
  c9 := by kernel_rfl
  c20 := by kernel_rfl
  c21 := by kernel_rfl
  c37 := by kernel_rfl
  c46 := by kernel_rfl
  c51 := by kernel_rfl
  c53 := by kernel_rfl
  c75 := by kernel_rfl
  c76 := by kernel_rfl
  c80 := by kernel_rfl
  c85 := by kernel_rfl
  c127 := by kernel_rfl
  c143 := by kernel_rfl
  c145 := by kernel_rfl
  c167 := by kernel_rfl
  c168 := by kernel_rfl
  c171 := by kernel_rfl
  c173 := by kernel_rfl
  c175 := by kernel_rfl
  c210 := by kernel_rfl
  c212 := by kernel_rfl
  c213 := by kernel_rfl
  c232 := by kernel_rfl
  c233 := by kernel_rfl }
open Go.RowKit in
theorem seat_strconv_Atoi_ok (s : ByteArray) (hmax : s.size ≤ 9223372036854775806) (v : Int) (h : Lib.atoiAll s.data.toList = .ok v) (w : World) :
    Calls Tryz.prog 176 #[.string s] w fun e w' => e = .returned (.tuple #[.int .i64 v, .nilIface]) ∧ (w' = w ∨ ∃ t, w' = Lib.bytesWorld w 5 t) := Any.strconv_Atoi_ok seat_laysC172 s hmax v h w
open Go.RowKit in
theorem seat_strconv_Atoi_range (s : ByteArray) (hlim : s.size ≤ 281474976710656) (h : Lib.atoiAll s.data.toList = .range) (ev : Value) (w : World) (hv : w.cell? ⟨2, 0, none⟩ = some ev) (hev : ev = .nilIface ∨ ∃ te pe, ev = .iface te pe) :
    Calls Tryz.prog 176 #[.string s] w fun e w' => ∃ N, e = .returned (.tuple #[.int .i64 (Lib.atoiSat s.data.toList), .iface 225 (.pointer (some ⟨N, 0, none⟩))]) ∧ w.heap.size ≤ N ∧ w'.heap[N]? = some (.cells #[.string ⟨#[65, 116, 111, 105]⟩, .string s, ev] 245 (0, 0)) ∧ Below w.heap.size w w' := Any.strconv_Atoi_range seat_laysC172 s hlim h ev w hv hev
open Go.RowKit in
def ErrV (w : World) : Prop := (∃ t v T d, w.heap[1]? = some (.cells #[.iface t v] T d)) ∧ (∃ t v T d, w.heap[2]? = some (.cells #[.iface t v] T d))
open Go.RowKit in
theorem ErrV.below {W w : World} (h : ErrV W) (hb : Below W.heap.size W w) : ErrV w := by
  obtain ⟨⟨t, v, T, d, h1⟩, ⟨u, x, U, f, h2⟩⟩ := h
  exact ⟨⟨t, v, T, d, by rw [hb.block _ (Array.getElem?_eq_some_iff.1 h1).1]; exact h1⟩, ⟨u, x, U, f, by rw [hb.block _ (Array.getElem?_eq_some_iff.1 h2).1]; exact h2⟩⟩
open Go.RowKit in
theorem var_block {P : Program} {w : World} {n : String} {g : Nat} {cs : Array Value} {T : TypeId} {d : Nat × Nat} (hg : P.globalNamed n = some g) (h : w.heap[g]? = some (.cells cs T d)) : w.var? P n = some cs := by
  unfold World.var?
  rw [hg]
  show (match w.heap[g]? with | some (.cells cs _ _) => some cs | _ => none) = some cs
  rw [h]
open Go.RowKit in
theorem str_atoi_ok (s : ByteArray) (hs : s.size ≤ 1000000) (n : Int) (h : Lib.atoiAll s.data.toList = .ok n) (w : World) :
    Calls Tryz.prog 176 #[.string s] w fun e w' => e = .returned (.tuple #[.int .i64 n, .nilIface]) ∧ Below w.heap.size w w' := by
  refine (seat_strconv_Atoi_ok s (by omega) n h w).mono ?_
  rintro e w' ⟨rfl, hw⟩
  refine ⟨rfl, ?_⟩
  rcases hw with rfl | ⟨t, rfl⟩
  · exact Below.refl _ _
  · exact Lib.bytesWorld_below _ _ _
open Go.RowKit in
theorem str_atoi_err (s : ByteArray) (hs : s.size ≤ 1000000) (h : ∀ n, Lib.atoiAll s.data.toList ≠ .ok n) (w : World) (he : ErrV w) :
    Calls Tryz.prog 176 #[.string s] w fun e w' => ∃ (n : Int) (N : Nat), e = .returned (.tuple #[.int .i64 n, .iface 225 (.pointer (some ⟨N, 0, none⟩))]) ∧ Below w.heap.size w w' := by
  obtain ⟨⟨t, v, T, d, h1⟩, ⟨u, x, U, f, h2⟩⟩ := he
  cases hp : Lib.atoiAll s.data.toList
  case ok n => exact absurd hp (h n)
  case range =>
    refine (Any.strconv_Atoi_range_var seat_laysC172 s (by omega) hp u x w (var_block seat_laysC172.m16 h2)).mono ?_
    rintro e w' ⟨N, rfl, -, -, hb⟩
    exact ⟨_, N, rfl, hb⟩
  all_goals
    refine (Any.strconv_Atoi_syntax_var seat_laysC172 s (by omega) hp t v w (var_block seat_laysC172.m15 h1)).mono ?_
    rintro e w' ⟨N, rfl, -, -, hb⟩
    exact ⟨_, N, rfl, hb⟩
end Go.Proofs.YtbcfplaalepnbaaGreatDoor
namespace Go.Proofs.YtbcfplaalepnbaaGreatDoor
open Go.RowKit Go.Lib
structure Toks (L : List Tok) : Prop where
  len : L.length ≤ 4000
  right : ∀ t ∈ L, RightT t.1 t.2.1 ∧ t.2.1.size ≤ 1000000
theorem nextT_some {L : List Tok} {p : Nat} {t : Tok} (h : L[p]? = some t) : nextT L p = t := by unfold nextT; rw [h]; rfl
theorem nextT_none {L : List Tok} {p : Nat} (h : L[p]? = none) : nextT L p = (0, noText, 0, 0) := by unfold nextT; rw [h]; rfl
theorem noText_list : noText.toList = [] := by rw [ByteArray.toList_eq]; rfl
theorem Toks.size {L : List Tok} (h : Toks L) (p : Nat) : (nextT L p).2.1.size ≤ 1000000 := by
  cases e : L[p]? with
  | none => rw [nextT_none e]; show 0 ≤ _; omega
  | some t => rw [nextT_some e]; exact (h.right t (List.mem_of_getElem? e)).2
theorem tok_is {L : List Tok} {r : Rd} (hb : r.bad = false) {k : Int} {x : List UInt8} (hx : x ≠ []) (hk : ∀ t ∈ L, t.2.1.toList = x → t.1 = k) : r.is L k x = ((nextT L r.pos).2.1.toList == x) := by
  unfold Rd.is
  rw [hb]
  cases e : L[r.pos]? with
  | none =>
    rw [nextT_none e, noText_list]
    simp only [Bool.not_false, Bool.true_and]
    symm
    rw [beq_eq_false_iff_ne]
    exact fun q => hx q.symm
  | some t =>
    rw [nextT_some e]
    simp only [Bool.not_false, Bool.true_and]
    by_cases q : t.2.1.toList = x
    · rw [decide_eq_true (hk t (List.mem_of_getElem? e) q), Bool.true_and]
    · have : (t.2.1.toList == x) = false := by rw [beq_eq_false_iff_ne]; exact q
      rw [this, Bool.and_false]
theorem Toks.mark {L : List Tok} (h : Toks L) {r : Rd} (hb : r.bad = false) {c : UInt8} (hc : kindI c.toNat = 4) : r.is L 2 [c] = ((nextT L r.pos).2.1.toList == [c]) :=
  tok_is hb (by simp) fun t ht hx => mark_kind (h.right t ht).1 hx hc
theorem Toks.word {L : List Tok} (h : Toks L) {r : Rd} (hb : r.bad = false) {c : UInt8} {x : List UInt8} (hc : c.toNat < 128 ∧ kindI c.toNat = 1) : r.is L 0 (c :: x) = ((nextT L r.pos).2.1.toList == c :: x) :=
  tok_is hb (by simp) fun t ht hx => low_kind (h.right t ht).1 hx hc
theorem Toks.exp {L : List Tok} (h : Toks L) (p : Nat) : (expA (nextT L p).2.1 = none ∧ (L[p]? = none ∨ ∃ t, L[p]? = some t ∧ (t.1 ≠ 1 ∨ expI t.2.1 < 0))) ∨ (∃ t, L[p]? = some t ∧ t.1 = 1 ∧ 0 ≤ expI t.2.1 ∧ expI t.2.1 ≤ 20 ∧ expA (nextT L p).2.1 = some (expI t.2.1)) := by
  cases e : L[p]? with
  | none => left; rw [nextT_none e]; exact ⟨expA_nil rfl, .inl rfl⟩
  | some t =>
    rw [nextT_some e]
    have hr := (h.right t (List.mem_of_getElem? e)).1
    by_cases h1 : t.1 = 1
    · rw [h1] at hr
      rw [expA_number hr]
      by_cases h0 : 0 ≤ expI t.2.1
      · rw [if_pos h0]
        refine .inr ⟨t, rfl, h1, h0, ?_, rfl⟩
        have := expA_number hr
        rw [if_pos h0] at this
        unfold expA at this
        split at this
        · split at this
          · rename_i q; injection this with this; omega
          · exact absurd this (by simp)
        · exact absurd this (by simp)
      · rw [if_neg h0]
        exact .inl ⟨rfl, .inr ⟨t, rfl, .inr (by omega)⟩⟩
    · exact .inl ⟨expA_word hr h1, .inr ⟨t, rfl, .inl h1⟩⟩
def btw (x : List UInt8) : Option (Int × Bool) := if x = [43] then some (2, false) else if x = [45] then some (3, false) else if x = [42] then some (4, true) else if x = [47] then some (5, true) else none
def btwV (o : Option (Int × Bool)) : Value := match o with
  | some (k, c) => .tuple #[.agg #[.int .i64 k, .int .i64 (binds c)], .bool true]
  | none => .tuple #[.agg #[.int .i64 0, .int .i64 0], .bool false]
set_option maxHeartbeats 4000000 in
theorem q_between (y : ByteArray) (w : World) : Calls Tryz.prog 135 #[.string y] w fun e w' => e = .returned (btwV (btw y.toList)) ∧ Below w.heap.size w w' := by
  have NB : ∀ (a0 a1 : Int), Hid (BoxC (w.alloc (.cells #[.int .i64 a0, .int .i64 a1] 156)) w.heap.size #[.int .i64 a0, .int .i64 a1] 156 ∧ Below w.heap.size w (w.alloc (.cells #[.int .i64 a0, .int .i64 a1] 156))) := fun a0 a1 => ⟨(boxes1 w _ _).1, (boxes1 w _ _).2.1⟩
  unfold btw
  by_cases e1 : y.toList = [43]
  · have f1 : (y.toList == [43]) = true := by rw [e1]; rfl
    rw [if_pos e1]
    show Calls Tryz.prog _ _ w fun e w' => e = .returned (.tuple #[.agg #[.int .i64 2, .int .i64 0], .bool true]) ∧ _
    clear e1
    go_enter Tryz.func135, Tryz.ntmps135
    go_wp2
    obtain ⟨b1, b2⟩ := (NB 2 0).out
    have c0 := (b1.cell 0).1
    have c1 := (b1.cell 1).1
    exact bodyPost_ret (v := .tuple #[.agg #[.int .i64 2, .int .i64 0], .bool true]) (by simp [results, Tryz.results135, go_sem, c0, c1]) rfl ⟨rfl, b2⟩
  rw [if_neg e1]
  have f1 : (y.toList == [43]) = false := by rw [beq_eq_false_iff_ne]; exact e1
  by_cases e2 : y.toList = [45]
  · have f2 : (y.toList == [45]) = true := by rw [e2]; rfl
    rw [if_pos e2]
    show Calls Tryz.prog _ _ w fun e w' => e = .returned (.tuple #[.agg #[.int .i64 3, .int .i64 0], .bool true]) ∧ _
    clear e1 e2
    go_enter Tryz.func135, Tryz.ntmps135
    go_wp2
    obtain ⟨b1, b2⟩ := (NB 3 0).out
    have c0 := (b1.cell 0).1
    have c1 := (b1.cell 1).1
    exact bodyPost_ret (v := .tuple #[.agg #[.int .i64 3, .int .i64 0], .bool true]) (by simp [results, Tryz.results135, go_sem, c0, c1]) rfl ⟨rfl, b2⟩
  rw [if_neg e2]
  have f2 : (y.toList == [45]) = false := by rw [beq_eq_false_iff_ne]; exact e2
  by_cases e3 : y.toList = [42]
  · have f3 : (y.toList == [42]) = true := by rw [e3]; rfl
    rw [if_pos e3]
    show Calls Tryz.prog _ _ w fun e w' => e = .returned (.tuple #[.agg #[.int .i64 4, .int .i64 1], .bool true]) ∧ _
    clear e1 e2 e3
    go_enter Tryz.func135, Tryz.ntmps135
    go_wp2
    obtain ⟨b1, b2⟩ := (NB 4 1).out
    have c0 := (b1.cell 0).1
    have c1 := (b1.cell 1).1
    exact bodyPost_ret (v := .tuple #[.agg #[.int .i64 4, .int .i64 1], .bool true]) (by simp [results, Tryz.results135, go_sem, c0, c1]) rfl ⟨rfl, b2⟩
  rw [if_neg e3]
  have f3 : (y.toList == [42]) = false := by rw [beq_eq_false_iff_ne]; exact e3
  by_cases e4 : y.toList = [47]
  · have f4 : (y.toList == [47]) = true := by rw [e4]; rfl
    rw [if_pos e4]
    show Calls Tryz.prog _ _ w fun e w' => e = .returned (.tuple #[.agg #[.int .i64 5, .int .i64 1], .bool true]) ∧ _
    clear e1 e2 e3 e4
    go_enter Tryz.func135, Tryz.ntmps135
    go_wp2
    obtain ⟨b1, b2⟩ := (NB 5 1).out
    have c0 := (b1.cell 0).1
    have c1 := (b1.cell 1).1
    exact bodyPost_ret (v := .tuple #[.agg #[.int .i64 5, .int .i64 1], .bool true]) (by simp [results, Tryz.results135, go_sem, c0, c1]) rfl ⟨rfl, b2⟩
  rw [if_neg e4]
  have f4 : (y.toList == [47]) = false := by rw [beq_eq_false_iff_ne]; exact e4
  show Calls Tryz.prog _ _ w fun e w' => e = .returned (.tuple #[.agg #[.int .i64 0, .int .i64 0], .bool false]) ∧ _
  clear e1 e2 e3 e4
  go_enter Tryz.func135, Tryz.ntmps135
  go_wp2
  obtain ⟨b1, b2⟩ := (NB 0 0).out
  have c0 := (b1.cell 0).1
  have c1 := (b1.cell 1).1
  exact bodyPost_ret (v := .tuple #[.agg #[.int .i64 0, .int .i64 0], .bool false]) (by simp [results, Tryz.results135, go_sem, c0, c1]) rfl ⟨rfl, b2⟩
theorem fld_text (a0 : Int) (a1 : ByteArray) (a2 a3 : Int) (v : World) : Sem.run Tryz.prog (Instr.field 66 (.agg #[.int .i64 a0, .string a1, .int .i64 a2, .int .i64 a3]) 1) v = .ok (.string a1) v := by kernel_rfl
section
variable {W w : World} {R : Nat} {ta : Option Addr} {tc : Nat} {i l o : Value} {L : List Tok} {p : Nat} {all : List Nd} {S : List It}
set_option maxHeartbeats 4000000 in
theorem q_name (h : Tq W w R ta tc i l o L p all S) (hL : Toks L) (b : Bool) (hb : nameB (nextT L p).2.1 = b) :
    Calls Tryz.prog 85 #[.pointer (some ⟨R, 0, none⟩)] w fun e w' => e = .returned (.tuple #[.string (if b = true then (nextT L p).2.1 else ⟨#[]⟩), .bool b]) ∧ Tq W w' R ta tc i l o L (if b = true then p + 1 else p) all S ∧ Keep TY w w' := by
  have NX := q_next h
  have FD := fld_text
  have hh : Hid (Tq W w R ta tc i l o L p all S) := h
  have SN := fun v => sign_name (nextT L p).2.1 v (hL.size p) b hb
  cases b with
  | false =>
    generalize (nextT L p).1 = y0 at *
    generalize (nextT L p).2.1 = y1 at *
    generalize (nextT L p).2.2.1 = y2 at *
    generalize (nextT L p).2.2.2 = y3 at *
    clear h hb hL
    go_enter Tryz.func85, Tryz.ntmps85
    go_wp2_with (first
      | (go_at_call 83; (with_reducible refine Calls.mono NX ?_); rintro e w1 ⟨rfl, d1⟩)
      | (go_at_call 69; (with_reducible refine Calls.mono (SN _) ?_); rintro e w2 ⟨rfl, d2⟩))
    go_ret2
    exact ⟨rfl, (hh.out.more d1).more d2, (Keep.of TY d1).more d2⟩
  | true =>
    have hp : p < L.length := by
      rcases Nat.lt_or_ge p L.length with q | q
      · exact q
      · rw [nextT_none (List.getElem?_eq_none q)] at hb
        exact absurd hb (by unfold nameB; rw [decide_eq_false (show ¬ (1 ≤ noText.size ∧ noText.size ≤ 40) from fun q => absurd q.1 (by show ¬ 1 ≤ 0; omega))]; simp)
    have SK := fun (v : World) (d : Below w.heap.size w v) => q_skip (h.more d) hp
    generalize (nextT L p).1 = y0 at *
    generalize (nextT L p).2.1 = y1 at *
    generalize (nextT L p).2.2.1 = y2 at *
    generalize (nextT L p).2.2.2 = y3 at *
    clear h hb hL hp
    go_enter Tryz.func85, Tryz.ntmps85
    go_wp2_with (first
      | (go_at_call 83; (with_reducible refine Calls.mono NX ?_); rintro e w1 ⟨rfl, d1⟩)
      | (go_at_call 69; (with_reducible refine Calls.mono (SN _) ?_); rintro e w2 ⟨rfl, d2⟩; have d3 := below_more d1 d2)
      | (go_at_call 84; (with_reducible refine Calls.mono (SK _ d3) ?_); rintro e w3 ⟨rfl, T3, K3⟩))
    go_ret2
    exact ⟨rfl, T3, (Keep.of TY d3).trans K3⟩
def expV (m : Bool) : Option Int → Int
  | some n => if m = true then -n else n
  | none => 0
set_option maxHeartbeats 8000000 in
theorem q_exponent (h : Tq W w R ta tc i l o L p all S) (hL : Toks L) (he : ErrV W) (m : Bool) (hm : ((nextT L p).2.1.toList == [45]) = m) (p1 : Nat) (hp1 : (if m = true then p + 1 else p) = p1) (x : Option Int) (hx : expA (nextT L p1).2.1 = x) :
    Calls Tryz.prog 162 #[.pointer (some ⟨R, 0, none⟩)] w fun e w' => e = .returned (.tuple #[.int .i64 (expV m x), .bool x.isSome]) ∧ Tq W w' R ta tc i l o L (if x.isSome = true then p1 + 1 else p1) all S ∧ Keep TY w w' := by
  have PS := q_pass h ⟨#[45]⟩ (by rw [toList_byte]; simp) m (by rw [toList_byte]; exact hm)
  rw [hp1] at PS
  have FD := fld_text
  have NX := fun (v : World) (T : Tq W v R ta tc i l o L p1 all S) => q_next T
  have EX := hL.exp p1
  by_cases hA : ∃ n, atoiAll (nextT L p1).2.1.data.toList = .ok n
  · obtain ⟨n, hA⟩ := hA
    have AT := fun (v : World) => str_atoi_ok (nextT L p1).2.1 (hL.size p1) n hA v
    unfold expA at hx
    rw [hA] at hx
    dsimp only at hx
    by_cases h20 : n ≤ 20
    · rw [if_pos h20] at hx
      subst hx
      have hk : 0 ≤ n ∧ p1 < L.length := by
        rcases EX with ⟨q, -⟩ | ⟨t, q1, q2, q3, q4, q5⟩
        · unfold expA at q; rw [hA] at q; dsimp only at q; rw [if_pos h20] at q; exact absurd q (by simp)
        · unfold expA at q5; rw [hA] at q5; dsimp only at q5; rw [if_pos h20] at q5
          injection q5 with q5
          exact ⟨by omega, (List.getElem?_eq_some_iff.1 q1).1⟩
      have SK := fun (v : World) (T : Tq W v R ta tc i l o L p1 all S) => q_skip T hk.2
      have k20 : ¬ (20 : Int) < n := by omega
      have wn : wrap64 (-n) = -n := by unfold wrap64; omega
      show Calls Tryz.prog _ _ w fun e w' => e = .returned (.tuple #[.int .i64 (if m = true then -n else n), .bool true]) ∧ Tq W w' R ta tc i l o L (p1 + 1) all S ∧ Keep TY w w'
      generalize (nextT L p1).1 = y0 at *
      generalize (nextT L p1).2.1 = y1 at *
      generalize (nextT L p1).2.2.1 = y2 at *
      generalize (nextT L p1).2.2.2 = y3 at *
      clear h hm hp1 hL he EX hk hA h20
      cases m with
      | false =>
        go_enter Tryz.func162, Tryz.ntmps162
        go_wp2_with (first
          | (go_at_call 53; (with_reducible refine Calls.mono PS ?_); rintro e w1 ⟨rfl, T1, K1⟩)
          | (go_at_call 83; (with_reducible refine Calls.mono (NX _ T1) ?_); rintro e w2 ⟨rfl, d2⟩; have T2 := T1.more d2)
          | (go_at_call 176; (with_reducible refine Calls.mono (AT _) ?_); rintro e w3 ⟨rfl, d3⟩; have T3 := T2.more d3)
          | (go_at_call 84; (with_reducible refine Calls.mono (SK _ T3) ?_); rintro e w4 ⟨rfl, T4, K4⟩))
        go_ret2
        exact ⟨rfl, T4, ((K1.more d2).more d3).trans K4⟩
      | true =>
        go_enter Tryz.func162, Tryz.ntmps162
        go_wp2_with (first
          | (go_at_call 53; (with_reducible refine Calls.mono PS ?_); rintro e w1 ⟨rfl, T1, K1⟩)
          | (go_at_call 83; (with_reducible refine Calls.mono (NX _ T1) ?_); rintro e w2 ⟨rfl, d2⟩; have T2 := T1.more d2)
          | (go_at_call 176; (with_reducible refine Calls.mono (AT _) ?_); rintro e w3 ⟨rfl, d3⟩; have T3 := T2.more d3)
          | (go_at_call 84; (with_reducible refine Calls.mono (SK _ T3) ?_); rintro e w4 ⟨rfl, T4, K4⟩))
        go_ret2
        exact ⟨rfl, T4, ((K1.more d2).more d3).trans K4⟩
    · rw [if_neg h20] at hx
      subst hx
      have k20 : (20 : Int) < n := by omega
      show Calls Tryz.prog _ _ w fun e w' => e = .returned (.tuple #[.int .i64 0, .bool false]) ∧ Tq W w' R ta tc i l o L p1 all S ∧ Keep TY w w'
      generalize (nextT L p1).1 = y0 at *
      generalize (nextT L p1).2.1 = y1 at *
      generalize (nextT L p1).2.2.1 = y2 at *
      generalize (nextT L p1).2.2.2 = y3 at *
      clear h hm hp1 hL he EX hA h20
      go_enter Tryz.func162, Tryz.ntmps162
      go_wp2_with (first
        | (go_at_call 53; (with_reducible refine Calls.mono PS ?_); rintro e w1 ⟨rfl, T1, K1⟩)
        | (go_at_call 83; (with_reducible refine Calls.mono (NX _ T1) ?_); rintro e w2 ⟨rfl, d2⟩; have T2 := T1.more d2)
        | (go_at_call 176; (with_reducible refine Calls.mono (AT _) ?_); rintro e w3 ⟨rfl, d3⟩; have T3 := T2.more d3))
      go_ret2
      exact ⟨rfl, T3, ((K1.more d2).more d3)⟩
  · have hA' : ∀ n, atoiAll (nextT L p1).2.1.data.toList ≠ .ok n := fun n q => hA ⟨n, q⟩
    have AT := fun (v : World) (hv : Below W.heap.size W v) => str_atoi_err (nextT L p1).2.1 (hL.size p1) hA' v (he.below hv)
    rw [expA_none hA'] at hx
    subst hx
    show Calls Tryz.prog _ _ w fun e w' => e = .returned (.tuple #[.int .i64 0, .bool false]) ∧ Tq W w' R ta tc i l o L p1 all S ∧ Keep TY w w'
    generalize (nextT L p1).1 = y0 at *
    generalize (nextT L p1).2.1 = y1 at *
    generalize (nextT L p1).2.2.1 = y2 at *
    generalize (nextT L p1).2.2.2 = y3 at *
    clear h hm hp1 hL he EX hA hA'
    go_enter Tryz.func162, Tryz.ntmps162
    go_wp2_with (first
      | (go_at_call 53; (with_reducible refine Calls.mono PS ?_); rintro e w1 ⟨rfl, T1, K1⟩)
      | (go_at_call 83; (with_reducible refine Calls.mono (NX _ T1) ?_); rintro e w2 ⟨rfl, d2⟩; have T2 := T1.more d2)
      | (go_at_call 176; (with_reducible refine Calls.mono (AT _ T2.below) ?_); rintro e w3 ⟨n, N, rfl, d3⟩; have T3 := T2.more d3))
    go_ret2
    exact ⟨rfl, T3, ((K1.more d2).more d3)⟩
end
end Go.Proofs.YtbcfplaalepnbaaGreatDoor
namespace Go.Proofs.YtbcfplaalepnbaaGreatDoor
open Go.RowKit Go.Lib
theorem pow_no {L : List Tok} (hL : Toks L) {p : Nat} {all : List Nd} {a : Int} (h : ((nextT L p).2.1.toList == [94]) = false) : (⟨p, false, all⟩ : Rd).powT L a = (a, ⟨p, false, all⟩) := by
  unfold Rd.powT
  rw [hL.mark rfl (c := 94) (by decide), if_neg (by rw [h]; simp)]
theorem pow_yes {L : List Tok} (hL : Toks L) {p : Nat} {all : List Nd} {a : Int} (h : ((nextT L p).2.1.toList == [94]) = true) {m : Bool} (hm : ((nextT L (p + 1)).2.1.toList == [45]) = m) {p1 : Nat} (hp : (if m = true then p + 1 + 1 else p + 1) = p1) :
    (⟨p, false, all⟩ : Rd).powT L a = (⟨p1, false, all⟩ : Rd).powE L a (if m = true then -1 else 1) := by
  unfold Rd.powT
  rw [hL.mark rfl (c := 94) (by decide), if_pos h]
  have e : (⟨p, false, all⟩ : Rd).skip.is L 2 [45] = m := by
    rw [hL.mark (r := (⟨p, false, all⟩ : Rd).skip) rfl (c := 45) (by decide)]; exact hm
  rw [e]
  cases m with
  | false => rw [if_neg (by simp), if_neg (by simp)]; subst hp; rfl
  | true => rw [if_pos rfl, if_pos rfl]; subst hp; rfl
theorem powE_none {L : List Tok} (hL : Toks L) {p : Nat} {all : List Nd} {a f : Int} (h : expA (nextT L p).2.1 = none) : (⟨p, false, all⟩ : Rd).powE L a f = (a, ⟨p, true, all⟩) := by
  unfold Rd.powE
  rw [if_neg (by simp)]
  rcases hL.exp p with ⟨-, q | ⟨t, q, q1⟩⟩ | ⟨t, q1, q2, q3, q4, q5⟩
  · show (match L[p]? with | none => _ | some t => _) = _
    rw [q]; rfl
  · show (match L[p]? with | none => _ | some t => _) = _
    rw [q]
    dsimp only
    by_cases h1 : t.1 ≠ 1
    · rw [if_pos h1]; rfl
    · rw [if_neg h1, if_pos (q1.resolve_left h1)]; rfl
  · rw [q5] at h; exact absurd h (by simp)
theorem powE_some {L : List Tok} (hL : Toks L) {p : Nat} {all : List Nd} {a f n : Int} (h : expA (nextT L p).2.1 = some n) : (⟨p, false, all⟩ : Rd).powE L a f = ((all.length : Int), ⟨p + 1, false, all ++ [⟨7, a, 0, f * n, noText, (false, 0, 0)⟩]⟩) := by
  unfold Rd.powE
  rw [if_neg (by simp)]
  rcases hL.exp p with ⟨q, -⟩ | ⟨t, q1, q2, q3, q4, q5⟩
  · rw [q] at h; exact absurd h (by simp)
  · show (match L[p]? with | none => _ | some t => _) = _
    rw [q1]
    dsimp only
    rw [q5] at h
    injection h with h
    rw [if_neg (by omega), if_neg (by omega), h]
    rfl
section
variable {W w : World} {R : Nat} {ta : Option Addr} {tc : Nat} {i l o : Value} {L : List Tok} {p : Nat} {all : List Nd} {S : List It}
def AftP (W w : World) (R : Nat) (ta : Option Addr) (tc : Nat) (i l o : Value) (L : List Tok) (S : List It) (Z : Int × Rd) (e : Ending) (w' : World) : Prop :=
  e = .returned (.bool (!Z.2.bad)) ∧ (∃ al S', Tq W w' R ta tc i l o L Z.2.pos al S' ∧ (Z.2.bad = false → al = Z.2.all ∧ S' = S ++ [.nd Z.1])) ∧ Keep TY w w'
set_option maxHeartbeats 8000000 in
theorem q_power (h : Tq W w R ta tc i l o L p all S) (hL : Toks L) (he : ErrV W) (a : Int) (hl : all.length + S.length ≤ 50000) :
    Calls Tryz.prog 149 #[.pointer (some ⟨R, 0, none⟩), .int .i64 a] w (AftP W w R ta tc i l o L S ((⟨p, false, all⟩ : Rd).powT L a)) := by
  cases hb : ((nextT L p).2.1.toList == [94]) with
  | false =>
    rw [pow_no hL hb]
    unfold AftP
    have PS := q_pass h ⟨#[94]⟩ (by rw [toList_byte]; simp) false (by rw [toList_byte]; exact hb)
    have PU := fun (v : World) (T : Tq W v R ta tc i l o L p all S) => q_push T (.nd a) (by omega)
    unfold itV at PU
    dsimp only at PU
    rw [if_neg (by simp)] at PS
    clear h hb hL he hl
    go_enter Tryz.func149, Tryz.ntmps149
    go_wp2_with (first
      | (go_at_call 53; (with_reducible refine Calls.mono PS ?_); rintro e w1 ⟨rfl, T1, K1⟩)
      | (go_at_call 136; (with_reducible refine Calls.mono (PU _ T1) ?_); rintro e w2 ⟨rfl, T2, K2⟩))
    go_ret
    exact ⟨rfl, ⟨all, _, T2, fun _ => ⟨rfl, rfl⟩⟩, K1.trans K2⟩
  | true =>
    obtain ⟨m, hm⟩ : ∃ m, ((nextT L (p + 1)).2.1.toList == [45]) = m := ⟨_, rfl⟩
    obtain ⟨p1, hp1⟩ : ∃ p1, (if m = true then p + 1 + 1 else p + 1) = p1 := ⟨_, rfl⟩
    rw [pow_yes hL hb hm hp1]
    have PS := q_pass h ⟨#[94]⟩ (by rw [toList_byte]; simp) true (by rw [toList_byte]; exact hb)
    rw [if_pos rfl] at PS
    cases hx : expA (nextT L p1).2.1 with
    | none =>
      rw [powE_none hL hx]
      unfold AftP
      have EX := fun (v : World) (T : Tq W v R ta tc i l o L (p + 1) all S) => q_exponent T hL he m hm p1 hp1 none hx
      unfold expV at EX
      dsimp only [Option.isSome] at EX
      simp only [Bool.false_eq_true, if_false] at EX
      clear h hb hL he hl hm hp1 hx
      go_enter Tryz.func149, Tryz.ntmps149
      go_wp2_with (first
        | (go_at_call 53; (with_reducible refine Calls.mono PS ?_); rintro e w1 ⟨rfl, T1, K1⟩)
        | (go_at_call 162; (with_reducible refine Calls.mono (EX _ T1) ?_); rintro e w2 ⟨rfl, T2, K2⟩))
      go_ret
      exact ⟨rfl, ⟨all, S, T2, fun q => absurd q (by simp)⟩, K1.trans K2⟩
    | some n =>
      rw [powE_some hL hx]
      unfold AftP
      have EX := fun (v : World) (T : Tq W v R ta tc i l o L (p + 1) all S) => q_exponent T hL he m hm p1 hp1 (some n) hx
      unfold expV at EX
      dsimp only [Option.isSome] at EX
      simp only [if_true] at EX
      have ef : (if m = true then (-1 : Int) else 1) * n = if m = true then -n else n := by cases m <;> simp
      rw [ef]
      generalize (if m = true then -n else n) = k at *
      have AD := fun (v : World) (T : Tq W v R ta tc i l o L (p1 + 1) all S) => q_add T ⟨7, a, 0, k, ⟨#[]⟩, (false, 0, 0)⟩ none 0 0 none 0 0 (num_zeroY T.below 7 a 0 k _) (by omega)
      dsimp only at AD
      have PU := fun (v : World) (T : Tq W v R ta tc i l o L (p1 + 1) (all ++ [⟨7, a, 0, k, ⟨#[]⟩, (false, 0, 0)⟩]) S) => q_push T (.nd all.length) (by omega)
      unfold itV at PU
      dsimp only at PU
      generalize hN : all.length = N at *
      clear h hb hL he hl hm hp1 hx ef
      go_enter Tryz.func149, Tryz.ntmps149
      go_wp2_with (first
        | (go_at_call 53; (with_reducible refine Calls.mono PS ?_); rintro e w1 ⟨rfl, T1, K1⟩)
        | (go_at_call 162; (with_reducible refine Calls.mono (EX _ T1) ?_); rintro e w2 ⟨rfl, T2, K2⟩)
        | (go_at_call 150; (with_reducible refine Calls.mono (AD _ T2) ?_); rintro e w3 ⟨rfl, T3, K3⟩)
        | (go_at_call 136; (with_reducible refine Calls.mono (PU _ T3) ?_); rintro e w4 ⟨rfl, T4, K4⟩))
      go_ret
      exact ⟨rfl, ⟨_, _, T4, fun _ => ⟨rfl, rfl⟩⟩, ((K1.trans K2).trans K3).trans K4⟩
theorem AftP.from {Z : Int × Rd} {v : World} {e : Ending} {w' : World} (K : Keep TY w v) (h : AftP W v R ta tc i l o L S Z e w') : AftP W w R ta tc i l o L S Z e w' := ⟨h.1, h.2.1, K.trans h.2.2⟩
theorem bad_pow (L : List Tok) (p : Nat) (all : List Nd) (a : Int) : (⟨p, true, all⟩ : Rd).powT L a = (a, ⟨p, true, all⟩) := by
  unfold Rd.powT
  rw [if_neg]
  unfold Rd.is
  simp
set_option maxHeartbeats 8000000 in
theorem q_shut {S0 : List It} (h : Tq W w R ta tc i l o L p all (S0 ++ [.br])) (hL : Toks L) (he : ErrV W) (a : Int) (hl : all.length + S0.length ≤ 50000) :
    Calls Tryz.prog 138 #[.pointer (some ⟨R, 0, none⟩), .int .i64 a] w (AftP W w R ta tc i l o L S0 (shutE L (a, ⟨p, false, all⟩))) := by
  unfold shutE
  dsimp only
  cases hb : ((nextT L p).2.1.toList == [41]) with
  | false =>
    have e : (⟨p, false, all⟩ : Rd).want L 2 [41] = ⟨p, true, all⟩ := by
      unfold Rd.want
      rw [hL.mark rfl (c := 41) (by decide), if_neg (by rw [hb]; simp)]; rfl
    rw [e, bad_pow]
    unfold AftP
    have PS := q_pass h ⟨#[41]⟩ (by rw [toList_byte]; simp) false (by rw [toList_byte]; exact hb)
    rw [if_neg (by simp)] at PS
    clear h hb hL he hl e
    go_enter Tryz.func138, Tryz.ntmps138
    go_wp2_with (go_at_call 53; (with_reducible refine Calls.mono PS ?_); rintro e w1 ⟨rfl, T1, K1⟩)
    go_ret
    exact ⟨rfl, ⟨_, _, T1, fun q => absurd q (by simp)⟩, K1⟩
  | true =>
    have e : (⟨p, false, all⟩ : Rd).want L 2 [41] = ⟨p + 1, false, all⟩ := by
      unfold Rd.want
      rw [hL.mark rfl (c := 41) (by decide), if_pos hb]; rfl
    rw [e]
    have PS := q_pass h ⟨#[41]⟩ (by rw [toList_byte]; simp) true (by rw [toList_byte]; exact hb)
    rw [if_pos rfl] at PS
    have DR := fun (v : World) (T : Tq W v R ta tc i l o L (p + 1) all (S0 ++ [.br])) => q_drop T (by omega)
    have PW := fun (v : World) (T : Tq W v R ta tc i l o L (p + 1) all S0) => q_power T hL he a hl
    generalize (⟨p + 1, false, all⟩ : Rd).powT L a = Z at *
    clear h hb hL he hl e
    go_enter Tryz.func138, Tryz.ntmps138
    go_wp2_with (first
      | (go_at_call 53; (with_reducible refine Calls.mono PS ?_); rintro e w1 ⟨rfl, T1, K1⟩)
      | (go_at_call 147; (with_reducible refine Calls.mono (DR _ T1) ?_); rintro e w2 ⟨rfl, T2, K2⟩)
      | (go_at_call 149; (with_reducible refine Calls.mono (PW _ T2) ?_); rintro e w3 ⟨rfl, T3, K3⟩))
    go_ret
    exact AftP.from (K1.trans K2) ⟨rfl, T3, K3⟩
set_option maxHeartbeats 8000000 in
theorem q_begin_neg (h : Tq W w R ta tc i l o L p all S) (hl : all.length + S.length ≤ 50000) (hb : ((nextT L p).2.1.toList == [45]) = true) :
    Calls Tryz.prog 134 #[.pointer (some ⟨R, 0, none⟩)] w fun e w' => e = .returned (.bool true) ∧ Tq W w' R ta tc i l o L (p + 1) all (S ++ [.wt 6 2]) ∧ Keep TY w w' := by
  have NX := q_next h
  have PS := fun (v : World) (T : Tq W v R ta tc i l o L p all S) => q_pass T ⟨#[45]⟩ (by rw [toList_byte]; simp) true (by rw [toList_byte]; exact hb)
  simp only [if_true] at PS
  have PU := fun (v : World) (T : Tq W v R ta tc i l o L (p + 1) all S) => q_push T (.wt 6 2) (by omega)
  unfold itV at PU
  dsimp only at PU
  have HH : Hid (Tq W w R ta tc i l o L p all S) := h
  generalize (nextT L p).1 = y0 at *
  generalize (nextT L p).2.1 = y1 at *
  generalize (nextT L p).2.2.1 = y2 at *
  generalize (nextT L p).2.2.2 = y3 at *
  clear h hb hl
  go_enter Tryz.func134, Tryz.ntmps134
  go_wp2_with (first
    | (go_at_call 83; (with_reducible refine Calls.mono NX ?_); rintro e w1 ⟨rfl, d1⟩; have T1 := fun z => HH.out.more (d1.alloc d1.size z); have K1 := fun z => Keep.of TY (d1.alloc d1.size z))
    | (go_at_call 53; (with_reducible refine Calls.mono (PS _ (T1 _)) ?_); rintro e w2 ⟨rfl, T2, K2⟩)
    | (go_at_call 136; (with_reducible refine Calls.mono (PU _ T2) ?_); rintro e w3 ⟨rfl, T3, K3⟩))
  go_ret
  exact ⟨rfl, T3, ((K1 _).trans K2).trans K3⟩
set_option maxHeartbeats 8000000 in
theorem q_begin_brk (h : Tq W w R ta tc i l o L p all S) (hl : all.length + S.length ≤ 50000) (hb0 : ((nextT L p).2.1.toList == [45]) = false) (hb : ((nextT L p).2.1.toList == [40]) = true) :
    Calls Tryz.prog 134 #[.pointer (some ⟨R, 0, none⟩)] w fun e w' => e = .returned (.bool true) ∧ Tq W w' R ta tc i l o L (p + 1) all (S ++ [.br]) ∧ Keep TY w w' := by
  have NX := q_next h
  have PS := fun (v : World) (T : Tq W v R ta tc i l o L p all S) => q_pass T ⟨#[45]⟩ (by rw [toList_byte]; simp) false (by rw [toList_byte]; exact hb0)
  have PS2 := fun (v : World) (T : Tq W v R ta tc i l o L p all S) => q_pass T ⟨#[40]⟩ (by rw [toList_byte]; simp) true (by rw [toList_byte]; exact hb)
  simp only [if_true, Bool.false_eq_true, if_false] at PS PS2
  have PU := fun (v : World) (T : Tq W v R ta tc i l o L (p + 1) all S) => q_push T .br (by omega)
  unfold itV at PU
  dsimp only at PU
  have HH : Hid (Tq W w R ta tc i l o L p all S) := h
  generalize (nextT L p).1 = y0 at *
  generalize (nextT L p).2.1 = y1 at *
  generalize (nextT L p).2.2.1 = y2 at *
  generalize (nextT L p).2.2.2 = y3 at *
  clear h hb hb0 hl
  go_enter Tryz.func134, Tryz.ntmps134
  go_wp2_with (first
    | (go_at_call 83; (with_reducible refine Calls.mono NX ?_); rintro e w1 ⟨rfl, d1⟩; have T1 := fun z => HH.out.more (d1.alloc d1.size z); have K1 := fun z => Keep.of TY (d1.alloc d1.size z))
    | (go_at_call 53; (with_reducible refine Calls.mono (PS _ (T1 _)) ?_); rintro e w2 ⟨rfl, T2, K2⟩)
    | (go_at_call 53; (with_reducible refine Calls.mono (PS2 _ T2) ?_); rintro e w3 ⟨rfl, T3, K3⟩)
    | (go_at_call 136; (with_reducible refine Calls.mono (PU _ T3) ?_); rintro e w4 ⟨rfl, T4, K4⟩))
  go_ret
  exact ⟨rfl, T4, (((K1 _).trans K2).trans K3).trans K4⟩
end
end Go.Proofs.YtbcfplaalepnbaaGreatDoor
namespace Go.Proofs.YtbcfplaalepnbaaGreatDoor
open Go.RowKit Go.Lib
theorem name_yes {L : List Tok} (hL : Toks L) {p : Nat} {all : List Nd} (h : nameB (nextT L p).2.1 = true) : (⟨p, false, all⟩ : Rd).nameT L = ((nextT L p).2.1, ⟨p + 1, false, all⟩) ∧ ∃ t, L[p]? = some t ∧ t.1 = 0 := by
  cases e : L[p]? with
  | none =>
    rw [nextT_none e] at h
    exact absurd h (by unfold nameB; rw [decide_eq_false (show ¬ (1 ≤ noText.size ∧ noText.size ≤ 40) from fun q => absurd q.1 (by show ¬ 1 ≤ 0; omega))]; simp)
  | some t =>
    rw [nextT_some e] at h ⊢
    have hk := name_kind (hL.right t (List.mem_of_getElem? e)).1 h
    refine ⟨?_, t, rfl, hk⟩
    unfold Rd.nameT
    rw [if_neg (by simp)]
    show (match L[p]? with | none => _ | some t => _) = _
    rw [e]
    dsimp only
    rw [if_pos ⟨hk, h⟩]
    rfl
theorem name_no {L : List Tok} {p : Nat} {all : List Nd} (h : nameB (nextT L p).2.1 = false) : (⟨p, false, all⟩ : Rd).nameT L = (noText, ⟨p, true, all⟩) := by
  unfold Rd.nameT
  rw [if_neg (by simp)]
  dsimp only
  cases e : L[p]? with
  | none => rfl
  | some t =>
    rw [nextT_some e] at h
    dsimp only
    rw [if_neg (fun q => by rw [q.2] at h; exact absurd h (by simp))]
    rfl
theorem next_kind {L : List Tok} {p : Nat} : (nextT L p).1 = 1 ↔ ∃ t, L[p]? = some t ∧ t.1 = 1 := by
  cases e : L[p]? with
  | none => rw [nextT_none e]; simp
  | some t => rw [nextT_some e]; simp
section
variable {W w : World} {R : Nat} {ta : Option Addr} {tc : Nat} {i l o : Value} {L : List Tok} {p : Nat} {all : List Nd} {S : List It}
set_option maxHeartbeats 16000000 in
theorem q_begin_num (h : Tq W w R ta tc i l o L p all S) (hL : Toks L) (he : ErrV W) (hl : all.length + S.length ≤ 40000) (hb0 : ((nextT L p).2.1.toList == [45]) = false) (hb1 : ((nextT L p).2.1.toList == [40]) = false) (hk : (nextT L p).1 = 1) :
    Calls Tryz.prog 134 #[.pointer (some ⟨R, 0, none⟩)] w (AftP W w R ta tc i l o L S (((⟨p, false, all⟩ : Rd).leaf numT L).2.powT L ((⟨p, false, all⟩ : Rd).leaf numT L).1)) := by
  obtain ⟨t, ht, ht1⟩ := next_kind.1 hk
  rw [leaf_num numT L ⟨p, false, all⟩ rfl ht ht1]
  have hp := (List.getElem?_eq_some_iff.1 ht).1
  have NX := q_next h
  have PS := fun (v : World) (T : Tq W v R ta tc i l o L p all S) => q_pass T ⟨#[45]⟩ (by rw [toList_byte]; simp) false (by rw [toList_byte]; exact hb0)
  have PS2 := fun (v : World) (T : Tq W v R ta tc i l o L p all S) => q_pass T ⟨#[40]⟩ (by rw [toList_byte]; simp) false (by rw [toList_byte]; exact hb1)
  simp only [Bool.false_eq_true, if_false] at PS PS2
  have e1 : ((nextT L p).1 == 1) = true := by rw [beq_iff_eq]; exact hk
  rw [nextT_some ht] at NX e1
  have PR := fun (v : World) => rat_parse t.2.1 v (by have := (hL.right t (List.mem_of_getElem? ht)).2; unfold maxLen; omega)
  rw [show parT t.2.1.data.toList = numT t.2.1 from rfl] at PR
  unfold AnsTE at PR
  have SK := fun (v : World) (T : Tq W v R ta tc i l o L p all S) => q_skip T hp
  have AD := fun (v : World) (T : Tq W v R ta tc i l o L (p + 1) all S) ua uc va vc hN => q_add T ⟨1, 0, 0, 0, ⟨#[]⟩, numT t.2.1⟩ ua (nl (numT t.2.1).2.1) uc va (nl (numT t.2.1).2.2) vc hN (by omega)
  dsimp only at AD
  have PW := fun (v : World) (T : Tq W v R ta tc i l o L (p + 1) (all ++ [⟨1, 0, 0, 0, ⟨#[]⟩, numT t.2.1⟩]) S) => q_power T hL he all.length (by rw [List.length_append]; show all.length + 1 + _ ≤ _; omega)
  show Calls Tryz.prog _ _ w (AftP W w R ta tc i l o L S ((⟨p + 1, false, all ++ [⟨1, 0, 0, 0, ⟨#[]⟩, numT t.2.1⟩]⟩ : Rd).powT L all.length))
  generalize (⟨p + 1, false, all ++ [⟨1, 0, 0, 0, ⟨#[]⟩, numT t.2.1⟩]⟩ : Rd).powT L all.length = Z at *
  generalize hN : all.length = N at *
  have HH : Hid (Tq W w R ta tc i l o L p all S) := h
  generalize parE t.2.1.data.toList = E at *
  generalize t.1 = y0 at *
  generalize numT t.2.1 = nm at *
  generalize t.2.1 = y1 at *
  generalize t.2.2.1 = y2 at *
  generalize t.2.2.2 = y3 at *
  clear h hb0 hb1 hL he hl hk ht ht1 hp
  go_enter Tryz.func134, Tryz.ntmps134
  go_wp2_with (first
    | (go_at_call 83; (with_reducible refine Calls.mono NX ?_); rintro e w1 ⟨rfl, d1⟩; have T1 := HH.out.more (d1.alloc d1.size (.cells #[.int .i64 y0, .string y1, .int .i64 y2, .int .i64 y3] 66)); have K1 := Keep.of TY (d1.alloc d1.size (.cells #[.int .i64 y0, .string y1, .int .i64 y2, .int .i64 y3] 66)); have B1 := BoxC.new w1 #[.int .i64 y0, .string y1, .int .i64 y2, .int .i64 y3] 66)
    | (go_at_call 53; (with_reducible refine Calls.mono (PS _ T1) ?_); rintro e w2 ⟨rfl, T2, K2⟩)
    | (go_at_call 53; (with_reducible refine Calls.mono (PS2 _ T2) ?_); rintro e w3 ⟨rfl, T3, K3⟩; have B3 := (B1.keep K2 ty_tok).keep K3 ty_tok; have c30 := (B3.cell 0).1; have c31 := (B3.cell 1).1)
    | (go_at_call 148; (with_reducible refine Calls.mono (PR _) ?_); rintro e w4 ⟨ra, rc, rb, rd, rfl, o1, o2⟩; have T4 := T3.more (o1.below.alloc o1.below.size (.cells #[.bool nm.1, .slice ra (nl nm.2.1) rc, .slice rb (nl nm.2.2) rd] 42)); have B4 := BoxC.new w4 #[.bool nm.1, .slice ra (nl nm.2.1) rc, .slice rb (nl nm.2.2) rd] 42; have p1 := (o1.outer T3.below).alloc (.cells #[.bool nm.1, .slice ra (nl nm.2.1) rc, .slice rb (nl nm.2.2) rd] 42); have p2 := (o2.outer T3.below).alloc (.cells #[.bool nm.1, .slice ra (nl nm.2.1) rc, .slice rb (nl nm.2.2) rd] 42))
    | (go_at_call 84; (with_reducible refine Calls.mono (SK _ T4) ?_); rintro e w5 ⟨rfl, T5, K5⟩; obtain ⟨n0, n1, n2, -, -, -⟩ := (B4.keep K5 (by unfold TY; decide)).cells3; have NW : NumW W w5 (rawOf ⟨1, 0, 0, 0, ⟨#[]⟩, nm⟩, .slice ra (nl nm.2.1) rc, .slice rb (nl nm.2.2) rd) := ⟨OwnC.keep p1 K5 ty_u32 T5.below, OwnC.keep p2 K5 ty_u32 T5.below⟩)
    | (go_at_call 150; (with_reducible refine Calls.mono (AD _ T5 ra rc rb rd NW) ?_); rintro e w6 ⟨rfl, T6, K6⟩)
    | (go_at_call 149; (with_reducible refine Calls.mono (PW _ T6) ?_); rintro e w7 ⟨rfl, T7, K7⟩))
  go_ret
  exact AftP.from (((((K1.trans K2).trans K3).trans (Keep.of TY (o1.below.alloc o1.below.size (.cells #[.bool nm.1, .slice ra (nl nm.2.1) rc, .slice rb (nl nm.2.2) rd] 42)))).trans K5).trans K6) ⟨rfl, T7, K7⟩
set_option maxHeartbeats 16000000 in
theorem q_begin_name (h : Tq W w R ta tc i l o L p all S) (hL : Toks L) (he : ErrV W) (hl : all.length + S.length ≤ 40000) (hb0 : ((nextT L p).2.1.toList == [45]) = false) (hb1 : ((nextT L p).2.1.toList == [40]) = false) (hk : (nextT L p).1 ≠ 1) :
    Calls Tryz.prog 134 #[.pointer (some ⟨R, 0, none⟩)] w (AftP W w R ta tc i l o L S (((⟨p, false, all⟩ : Rd).leaf numT L).2.powT L ((⟨p, false, all⟩ : Rd).leaf numT L).1)) := by
  have hkk : (⟨p, false, all⟩ : Rd).bad = true ∨ L[(⟨p, false, all⟩ : Rd).pos]? = none ∨ ∃ t, L[(⟨p, false, all⟩ : Rd).pos]? = some t ∧ t.1 ≠ 1 := by
    dsimp only
    cases e : L[p]? with
    | none => exact .inr (.inl rfl)
    | some t => exact .inr (.inr ⟨t, rfl, fun q => hk (next_kind.2 ⟨t, e, q⟩)⟩)
  rw [leaf_name numT L ⟨p, false, all⟩ hkk]
  clear hkk
  have NX := q_next h
  have PS := fun (v : World) (T : Tq W v R ta tc i l o L p all S) => q_pass T ⟨#[45]⟩ (by rw [toList_byte]; simp) false (by rw [toList_byte]; exact hb0)
  have PS2 := fun (v : World) (T : Tq W v R ta tc i l o L p all S) => q_pass T ⟨#[40]⟩ (by rw [toList_byte]; simp) false (by rw [toList_byte]; exact hb1)
  simp only [Bool.false_eq_true, if_false] at PS PS2
  have e1 : ((nextT L p).1 == 1) = false := by rw [beq_eq_false_iff_ne]; exact hk
  cases hn : nameB (nextT L p).2.1 with
  | false =>
    rw [name_no hn]
    show Calls Tryz.prog _ _ w (AftP W w R ta tc i l o L S ((⟨p, true, all ++ [⟨0, 0, 0, 0, noText, (false, 0, 0)⟩]⟩ : Rd).powT L all.length))
    rw [bad_pow]
    unfold AftP
    have NM := fun (v : World) (T : Tq W v R ta tc i l o L p all S) => q_name T hL false hn
    simp only [Bool.false_eq_true, if_false] at NM
    have HH : Hid (Tq W w R ta tc i l o L p all S) := h
    generalize (nextT L p).1 = y0 at *
    generalize (nextT L p).2.1 = y1 at *
    generalize (nextT L p).2.2.1 = y2 at *
    generalize (nextT L p).2.2.2 = y3 at *
    clear h hb0 hb1 hL he hl hk hn
    go_enter Tryz.func134, Tryz.ntmps134
    go_wp2_with (first
      | (go_at_call 83; (with_reducible refine Calls.mono NX ?_); rintro e w1 ⟨rfl, d1⟩; have T1 := HH.out.more (d1.alloc d1.size (.cells #[.int .i64 y0, .string y1, .int .i64 y2, .int .i64 y3] 66)); have K1 := Keep.of TY (d1.alloc d1.size (.cells #[.int .i64 y0, .string y1, .int .i64 y2, .int .i64 y3] 66)); have B1 := BoxC.new w1 #[.int .i64 y0, .string y1, .int .i64 y2, .int .i64 y3] 66)
      | (go_at_call 53; (with_reducible refine Calls.mono (PS _ T1) ?_); rintro e w2 ⟨rfl, T2, K2⟩)
      | (go_at_call 53; (with_reducible refine Calls.mono (PS2 _ T2) ?_); rintro e w3 ⟨rfl, T3, K3⟩; have B3 := (B1.keep K2 ty_tok).keep K3 ty_tok; have c30 := (B3.cell 0).1; have c31 := (B3.cell 1).1)
      | (go_at_call 85; (with_reducible refine Calls.mono (NM _ T3) ?_); rintro e w4 ⟨rfl, T4, K4⟩))
    go_ret
    exact ⟨rfl, ⟨_, _, T4, fun q => absurd q (by simp)⟩, ((K1.trans K2).trans K3).trans K4⟩
  | true =>
    rw [(name_yes hL hn).1]
    show Calls Tryz.prog _ _ w (AftP W w R ta tc i l o L S ((⟨p + 1, false, all ++ [⟨0, 0, 0, 0, (nextT L p).2.1, (false, 0, 0)⟩]⟩ : Rd).powT L all.length))
    have NM := fun (v : World) (T : Tq W v R ta tc i l o L p all S) => q_name T hL true hn
    simp only [if_true] at NM
    have AD := fun (v : World) (T : Tq W v R ta tc i l o L (p + 1) all S) => q_add T ⟨0, 0, 0, 0, (nextT L p).2.1, (false, 0, 0)⟩ none 0 0 none 0 0 (num_zeroY T.below 0 0 0 0 _) (by omega)
    dsimp only at AD
    have PW := fun (v : World) (T : Tq W v R ta tc i l o L (p + 1) (all ++ [⟨0, 0, 0, 0, (nextT L p).2.1, (false, 0, 0)⟩]) S) => q_power T hL he all.length (by rw [List.length_append]; show all.length + 1 + _ ≤ _; omega)
    generalize (⟨p + 1, false, all ++ [⟨0, 0, 0, 0, (nextT L p).2.1, (false, 0, 0)⟩]⟩ : Rd).powT L all.length = Z at *
    generalize hN : all.length = N at *
    have HH : Hid (Tq W w R ta tc i l o L p all S) := h
    generalize (nextT L p).1 = y0 at *
    generalize (nextT L p).2.1 = y1 at *
    generalize (nextT L p).2.2.1 = y2 at *
    generalize (nextT L p).2.2.2 = y3 at *
    clear h hb0 hb1 hL he hl hk hn
    go_enter Tryz.func134, Tryz.ntmps134
    go_wp2_with (first
      | (go_at_call 83; (with_reducible refine Calls.mono NX ?_); rintro e w1 ⟨rfl, d1⟩; have T1 := HH.out.more (d1.alloc d1.size (.cells #[.int .i64 y0, .string y1, .int .i64 y2, .int .i64 y3] 66)); have K1 := Keep.of TY (d1.alloc d1.size (.cells #[.int .i64 y0, .string y1, .int .i64 y2, .int .i64 y3] 66)); have B1 := BoxC.new w1 #[.int .i64 y0, .string y1, .int .i64 y2, .int .i64 y3] 66)
      | (go_at_call 53; (with_reducible refine Calls.mono (PS _ T1) ?_); rintro e w2 ⟨rfl, T2, K2⟩)
      | (go_at_call 53; (with_reducible refine Calls.mono (PS2 _ T2) ?_); rintro e w3 ⟨rfl, T3, K3⟩; have B3 := (B1.keep K2 ty_tok).keep K3 ty_tok; have c30 := (B3.cell 0).1; have c31 := (B3.cell 1).1)
      | (go_at_call 85; (with_reducible refine Calls.mono (NM _ T3) ?_); rintro e w4 ⟨rfl, T4, K4⟩)
      | (go_at_call 150; (with_reducible refine Calls.mono (AD _ T4) ?_); rintro e w5 ⟨rfl, T5, K5⟩)
      | (go_at_call 149; (with_reducible refine Calls.mono (PW _ T5) ?_); rintro e w6 ⟨rfl, T6, K6⟩))
    go_ret
    exact AftP.from ((((K1.trans K2).trans K3).trans K4).trans K5) ⟨rfl, T6, K6⟩
theorem q_begin_leaf (h : Tq W w R ta tc i l o L p all S) (hL : Toks L) (he : ErrV W) (hl : all.length + S.length ≤ 40000) (hb0 : ((nextT L p).2.1.toList == [45]) = false) (hb1 : ((nextT L p).2.1.toList == [40]) = false) :
    Calls Tryz.prog 134 #[.pointer (some ⟨R, 0, none⟩)] w (AftP W w R ta tc i l o L S (((⟨p, false, all⟩ : Rd).leaf numT L).2.powT L ((⟨p, false, all⟩ : Rd).leaf numT L).1)) := by
  by_cases hk : (nextT L p).1 = 1
  · exact q_begin_num h hL he hl hb0 hb1 hk
  · exact q_begin_name h hL he hl hb0 hb1 hk
end
end Go.Proofs.YtbcfplaalepnbaaGreatDoor
namespace Go.Proofs.YtbcfplaalepnbaaGreatDoor
open Go.RowKit Go.Lib
theorem setF_at (c : Bool) (p q : Nat) : ∀ (fs : List Fr) (a : Int) (al : List Nd), setF c fs a ⟨q, false, al⟩ = ((setF c fs a ⟨p, false, al⟩).1, (setF c fs a ⟨p, false, al⟩).2.1, ⟨q, false, (setF c fs a ⟨p, false, al⟩).2.2.all⟩) := by
  intro fs
  induction fs with
  | nil => intro a al; rfl
  | cons f fs ih =>
    intro a al
    cases f with
    | inl y =>
      obtain ⟨k, l, c1⟩ := y
      by_cases h : (c && !c1) = true
      · unfold setF; rw [if_pos h, if_pos h]
      · have e : ∀ u : Nat, setF c (.inl (k, l, c1) :: fs) a ⟨u, false, al⟩ = setF c fs al.length ⟨u, false, al ++ [nd2 k l a]⟩ := by
          intro u; conv => lhs; unfold setF
          rw [if_neg h]; rfl
        rw [e, e]
        exact ih al.length (al ++ [nd2 k l a])
    | inr y => cases y with
      | false =>
        exact ih al.length (al ++ [nd1 a])
      | true =>
        rfl
theorem setF_cnt (c : Bool) (p : Nat) : ∀ (fs : List Fr) (a : Int) (al : List Nd), (setF c fs a ⟨p, false, al⟩).2.2.all.length + (stk (setF c fs a ⟨p, false, al⟩).1).length ≤ al.length + (stk fs).length := by
  intro fs
  induction fs with
  | nil => intro a al; exact Nat.le_refl _
  | cons f fs ih =>
    intro a al
    cases f with
    | inl y =>
      obtain ⟨k, l, c1⟩ := y
      by_cases h : (c && !c1) = true
      · unfold setF; rw [if_pos h]; exact Nat.le_refl _
      · have e : setF c (.inl (k, l, c1) :: fs) a ⟨p, false, al⟩ = setF c fs al.length ⟨p, false, al ++ [nd2 k l a]⟩ := by
          conv => lhs; unfold setF
          rw [if_neg h]; rfl
        rw [e]
        have := ih al.length (al ++ [nd2 k l a])
        rw [List.length_append] at this
        have e : (stk (.inl (k, l, c1) :: fs)).length = (stk fs).length + 2 := by simp [stk]
        rw [e]
        refine Nat.le_trans this ?_
        show al.length + 1 + _ ≤ _
        omega
    | inr y => cases y with
      | false =>
        have := ih al.length (al ++ [nd1 a])
        rw [List.length_append] at this
        have e : (stk (.inr false :: fs)).length = (stk fs).length + 1 := by simp [stk]
        rw [e]
        refine Nat.le_trans this ?_
        show al.length + 1 + _ ≤ _
        omega
      | true =>
        exact Nat.le_refl _
theorem pow_cnt {L : List Tok} (hL : Toks L) (p : Nat) (all : List Nd) (a : Int) {Z : Int × Rd} (hZ : (⟨p, false, all⟩ : Rd).powT L a = Z) (hb : Z.2.bad = false) : Z.2.all.length + 2 * (L.length - Z.2.pos) ≤ all.length + 2 * (L.length - p) ∧ p ≤ Z.2.pos := by
  cases h : ((nextT L p).2.1.toList == [94]) with
  | false => rw [pow_no hL h] at hZ; subst hZ; exact ⟨Nat.le_refl _, Nat.le_refl _⟩
  | true =>
    have hp := next_lt (x := ⟨#[94]⟩) (by rw [toList_byte]; exact h) (by rw [toList_byte]; simp)
    rw [pow_yes hL h rfl rfl] at hZ
    generalize hp1 : (if ((nextT L (p + 1)).2.1.toList == [45]) = true then p + 1 + 1 else p + 1) = p1 at hZ
    have h1 : p + 1 ≤ p1 := by subst hp1; split <;> omega
    cases hx : expA (nextT L p1).2.1 with
    | none => rw [powE_none hL hx] at hZ; subst hZ; exact absurd hb (by simp)
    | some n =>
      rw [powE_some hL hx] at hZ
      subst hZ
      refine ⟨?_, by show p ≤ p1 + 1; omega⟩
      show (all ++ [_]).length + 2 * (L.length - (p1 + 1)) ≤ _
      rw [List.length_append]
      show all.length + 1 + _ ≤ _
      omega
theorem leaf_cnt {L : List Tok} (hL : Toks L) (p : Nat) (all : List Nd) {Z : Int × Rd} (hZ : ((⟨p, false, all⟩ : Rd).leaf numT L).2.powT L ((⟨p, false, all⟩ : Rd).leaf numT L).1 = Z) (hb : Z.2.bad = false) : Z.2.all.length + 1 + 2 * (L.length - Z.2.pos) ≤ all.length + 2 * (L.length - p) ∧ p + 1 ≤ Z.2.pos ∧ p < L.length := by
  have key : ∀ (t : Tok) (nd : Nd), L[p]? = some t → (⟨p + 1, false, all ++ [nd]⟩ : Rd).powT L all.length = Z → Z.2.all.length + 1 + 2 * (L.length - Z.2.pos) ≤ all.length + 2 * (L.length - p) ∧ p + 1 ≤ Z.2.pos ∧ p < L.length := by
    intro t nd ht he
    have hp := (List.getElem?_eq_some_iff.1 ht).1
    obtain ⟨h1, h2⟩ := pow_cnt hL (p + 1) (all ++ [nd]) all.length he hb
    rw [List.length_append] at h1
    have : all.length + [nd].length = all.length + 1 := rfl
    omega
  by_cases hk : (nextT L p).1 = 1
  · obtain ⟨t, ht, ht1⟩ := next_kind.1 hk
    rw [leaf_num numT L ⟨p, false, all⟩ rfl ht ht1] at hZ
    exact key t _ ht hZ
  · have hkk : (⟨p, false, all⟩ : Rd).bad = true ∨ L[(⟨p, false, all⟩ : Rd).pos]? = none ∨ ∃ t, L[(⟨p, false, all⟩ : Rd).pos]? = some t ∧ t.1 ≠ 1 := by
      dsimp only
      cases e : L[p]? with
      | none => exact .inr (.inl rfl)
      | some t => exact .inr (.inr ⟨t, rfl, fun q => hk (next_kind.2 ⟨t, e, q⟩)⟩)
    rw [leaf_name numT L ⟨p, false, all⟩ hkk] at hZ
    cases hn : nameB (nextT L p).2.1 with
    | false =>
      rw [name_no hn] at hZ
      rw [show (⟨p, true, all⟩ : Rd).node ⟨0, 0, 0, 0, noText, (false, 0, 0)⟩ = ((all.length : Int), ⟨p, true, all ++ [⟨0, 0, 0, 0, noText, (false, 0, 0)⟩]⟩) from rfl] at hZ
      dsimp only at hZ
      rw [bad_pow] at hZ
      subst hZ
      exact absurd hb (by simp)
    | true =>
      obtain ⟨h1, t, ht, -⟩ := name_yes hL (all := all) hn
      rw [h1] at hZ
      exact key t _ ht hZ
theorem btw_some {x : List UInt8} {k : Int} {c : Bool} (h : btw x = some (k, c)) : (c = true ∧ k = (if (x == [47]) = true then 5 else 4) ∧ ((x == [42]) || (x == [47])) = true) ∨ (c = false ∧ k = (if (x == [45]) = true then 3 else 2) ∧ ((x == [42]) || (x == [47])) = false ∧ ((x == [43]) || (x == [45])) = true) := by
  unfold btw at h
  by_cases e1 : x = [43]
  · subst e1; rw [if_pos rfl] at h; cases h; exact .inr ⟨rfl, by decide, by decide, by decide⟩
  rw [if_neg e1] at h
  by_cases e2 : x = [45]
  · subst e2; rw [if_pos rfl] at h; cases h; exact .inr ⟨rfl, by decide, by decide, by decide⟩
  rw [if_neg e2] at h
  by_cases e3 : x = [42]
  · subst e3; rw [if_pos rfl] at h; cases h; exact .inl ⟨rfl, by decide, by decide⟩
  rw [if_neg e3] at h
  by_cases e4 : x = [47]
  · subst e4; rw [if_pos rfl] at h; cases h; exact .inl ⟨rfl, by decide, by decide⟩
  rw [if_neg e4] at h
  cases h
theorem btw_none {x : List UInt8} (h : btw x = none) : ((x == [42]) || (x == [47])) = false ∧ ((x == [43]) || (x == [45])) = false := by
  unfold btw at h
  by_cases e1 : x = [43]
  · rw [if_pos e1] at h; cases h
  rw [if_neg e1] at h
  by_cases e2 : x = [45]
  · rw [if_pos e2] at h; cases h
  rw [if_neg e2] at h
  by_cases e3 : x = [42]
  · rw [if_pos e3] at h; cases h
  rw [if_neg e3] at h
  by_cases e4 : x = [47]
  · rw [if_pos e4] at h; cases h
  constructor
  · rw [Bool.or_eq_false_iff]; exact ⟨by rw [beq_eq_false_iff_ne]; exact e3, by rw [beq_eq_false_iff_ne]; exact e4⟩
  · rw [Bool.or_eq_false_iff]; exact ⟨by rw [beq_eq_false_iff_ne]; exact e1, by rw [beq_eq_false_iff_ne]; exact e2⟩
theorem aft_sign {L : List Tok} (hL : Toks L) {p : Nat} {fs : List Fr} {a : Int} {al : List Nd} {k : Int} {c : Bool} (hk : FrOk fs) (h : btw (nextT L p).2.1.toList = some (k, c)) :
    aft numT L fs 0 a ⟨p, false, al⟩ = ahd numT L (.bin k (setF c fs a ⟨p + 1, false, al⟩).2.1 c :: (setF c fs a ⟨p + 1, false, al⟩).1) ⟨p + 1, false, (setF c fs a ⟨p + 1, false, al⟩).2.2.all⟩ ∧ FrOk (.bin k (setF c fs a ⟨p + 1, false, al⟩).2.1 c :: (setF c fs a ⟨p + 1, false, al⟩).1) := by
  have m1 : ∀ x : UInt8, kindI x.toNat = 4 → (⟨p, false, al⟩ : Rd).is L 2 [x] = ((nextT L p).2.1.toList == [x]) := fun x hx => hL.mark rfl hx
  obtain ⟨f1, f2, f3, f4⟩ := setF_rd c fs a ⟨p, false, al⟩
  rw [setF_at c p (p + 1)]
  dsimp only
  have er : (setF c fs a ⟨p, false, al⟩).2.2.skip = ⟨p + 1, false, (setF c fs a ⟨p, false, al⟩).2.2.all⟩ := by unfold Rd.skip; rw [f1, f2]
  rcases btw_some h with ⟨rfl, rfl, h3⟩ | ⟨rfl, rfl, h3, h4⟩
  · obtain ⟨g1, g2⟩ := aft_mul numT L a (r := ⟨p, false, al⟩) hk (by rw [m1 42 (by decide), m1 47 (by decide)]; exact h3)
    rw [m1 47 (by decide), er] at g1
    exact ⟨g1, g2, f4 hk⟩
  · obtain ⟨g1, g2⟩ := aft_add numT L a (r := ⟨p, false, al⟩) hk (by rw [m1 42 (by decide), m1 47 (by decide), h3]; simp) (by rw [m1 43 (by decide), m1 45 (by decide)]; exact h4)
    rw [m1 45 (by decide), er] at g1
    exact ⟨g1, g2, f4 hk⟩
theorem aft_none {L : List Tok} (hL : Toks L) {p : Nat} {fs : List Fr} {a : Int} {al : List Nd} (hk : FrOk fs) (h : btw (nextT L p).2.1.toList = none) :
    ((setF false fs a ⟨p, false, al⟩).1 = [] ∧ aft numT L fs 0 a ⟨p, false, al⟩ = (setF false fs a ⟨p, false, al⟩).2) ∨ (∃ gs, (setF false fs a ⟨p, false, al⟩).1 = .brk :: gs ∧ FrOk gs ∧ aft numT L fs 0 a ⟨p, false, al⟩ = aft numT L gs 0 (shutE L (setF false fs a ⟨p, false, al⟩).2).1 (shutE L (setF false fs a ⟨p, false, al⟩).2).2) := by
  have m1 : ∀ x : UInt8, kindI x.toNat = 4 → (⟨p, false, al⟩ : Rd).is L 2 [x] = ((nextT L p).2.1.toList == [x]) := fun x hx => hL.mark rfl hx
  obtain ⟨h1, h2⟩ := btw_none h
  exact aft_end numT L a (r := ⟨p, false, al⟩) hk (by rw [m1 42 (by decide), m1 47 (by decide), h1]; simp) (by rw [m1 43 (by decide), m1 45 (by decide), h2]; simp)
theorem shut_cnt {L : List Tok} (hL : Toks L) (p : Nat) (all : List Nd) (a : Int) {Z : Int × Rd} (hZ : shutE L (a, ⟨p, false, all⟩) = Z) (hb : Z.2.bad = false) : Z.2.all.length + 2 * (L.length - Z.2.pos) + 2 ≤ all.length + 2 * (L.length - p) ∧ p + 1 ≤ Z.2.pos ∧ p < L.length := by
  unfold shutE at hZ
  dsimp only at hZ
  cases h : ((nextT L p).2.1.toList == [41]) with
  | false =>
    have e : (⟨p, false, all⟩ : Rd).want L 2 [41] = ⟨p, true, all⟩ := by
      unfold Rd.want
      rw [hL.mark rfl (c := 41) (by decide), if_neg (by rw [h]; simp)]; rfl
    rw [e, bad_pow] at hZ
    subst hZ
    exact absurd hb (by simp)
  | true =>
    have hp := next_lt (x := ⟨#[41]⟩) (by rw [toList_byte]; exact h) (by rw [toList_byte]; simp)
    have e : (⟨p, false, all⟩ : Rd).want L 2 [41] = ⟨p + 1, false, all⟩ := by
      unfold Rd.want
      rw [hL.mark rfl (c := 41) (by decide), if_pos h]; rfl
    rw [e] at hZ
    obtain ⟨h1, h2⟩ := pow_cnt hL (p + 1) all a hZ hb
    exact ⟨by omega, by omega, hp⟩
theorem rd_eta {r : Rd} (h : r.bad = false) : (⟨r.pos, false, r.all⟩ : Rd) = r := by cases r; simp at h; subst h; rfl
end Go.Proofs.YtbcfplaalepnbaaGreatDoor
namespace Go.Proofs.YtbcfplaalepnbaaGreatDoor
open Go.RowKit Go.Lib
def topL : Option Int → List It
  | some a => [.nd a]
  | none => []
def goal (L : List Tok) (top : Option Int) (fs : List Fr) (r : Rd) : Int × Rd := match top with
  | some a => aft numT L fs 0 a r
  | none => ahd numT L fs r
section
variable {W w : World} {R : Nat} {ta : Option Addr} {tc : Nat} {i l o : Value} {L : List Tok} {p : Nat} {all : List Nd}
def AnsS (W w : World) (R : Nat) (ta : Option Addr) (tc : Nat) (i l o : Value) (L : List Tok) (Z : Int × Rd) (e : Ending) (w' : World) : Prop :=
  e = .returned (.tuple #[.int .i64 (if Z.2.bad = true then 0 else Z.1), .bool (!Z.2.bad)]) ∧ (∃ al S', Tq W w' R ta tc i l o L Z.2.pos al S' ∧ (Z.2.bad = false → al = Z.2.all ∧ S' = [])) ∧ Keep TY w w'
theorem ansS_bad {W w w' : World} {R : Nat} {ta : Option Addr} {tc : Nat} {i l o : Value} {L : List Tok} {Z : Int × Rd} {al : List Nd} {S : List It} {q : Nat} (hb : Z.2.bad = true) (hp : Z.2.pos = q) (T : Tq W w' R ta tc i l o L q al S) (K : Keep TY w w') : AnsS W w R ta tc i l o L Z (.returned (.tuple #[.int .i64 0, .bool false])) w' := by
  unfold AnsS
  rw [hb, hp]
  exact ⟨rfl, ⟨al, S, T, fun q => absurd q (by simp)⟩, K⟩
theorem ansS_good {W w w' : World} {R : Nat} {ta : Option Addr} {tc : Nat} {i l o : Value} {L : List Tok} {a : Int} {al : List Nd} {q : Nat} (T : Tq W w' R ta tc i l o L q al []) (K : Keep TY w w') : AnsS W w R ta tc i l o L (a, ⟨q, false, al⟩) (.returned (.tuple #[.int .i64 a, .bool true])) w' := ⟨rfl, ⟨al, [], T, fun _ => ⟨rfl, rfl⟩⟩, K⟩
theorem Tq.stk {S : List It} (h : Tq W w R ta tc i l o L p all S) : ∃ sa sc, w.cell? ⟨R, 5, none⟩ = some (.slice sa S.length sc) := by
  obtain ⟨la, lc, a, c, sa, sc, hW, B, hN, hS, hT⟩ := h
  exact ⟨sa, sc, (B.cell 5).1⟩
set_option maxHeartbeats 40000000 in
theorem q_sum (h : Tq W w R ta tc i l o L p all []) (hL : Toks L) (he : ErrV W) (hc : all.length + 2 * (L.length - p) ≤ 20000) {Z : Int × Rd} (hZ : exprI numT L 0 0 ⟨p, false, all⟩ = Z) :
    Calls Tryz.prog 115 #[.pointer (some ⟨R, 0, none⟩)] w (AnsS W w R ta tc i l o L Z) := by
  rw [← ahd_nil] at hZ
  have HH : Hid (Tq W w R ta tc i l o L p all [] ∧ Toks L ∧ ErrV W ∧ all.length + 2 * (L.length - p) ≤ 20000 ∧ ahd numT L [] ⟨p, false, all⟩ = Z) := ⟨h, hL, he, hc, hZ⟩
  clear h hL he hc hZ
  go_enter Tryz.func115, Tryz.ntmps115
  go_wp2
  go_loopg [4] (L.length - p + 1) (fun g s4 v => ∃ (fs : List Fr) (top : Option Int) (q : Nat) (al : List Nd), s4 = s4 ∧ Tq W v R ta tc i l o L q al (stk fs ++ topL top) ∧ Keep TY w v ∧ FrOk fs ∧ goal L top fs ⟨q, false, al⟩ = Z ∧ L.length - q + 1 ≤ g ∧ al.length + (stk fs ++ topL top).length + 2 * (L.length - q) ≤ 20000)
  case atStart => exact ⟨[], none, p, all, rfl, HH.out.1, Keep.refl TY w, trivial, HH.out.2.2.2.2, Nat.le_refl _, HH.out.2.2.2.1⟩
  case round =>
    obtain ⟨fs, top, q, al, -, T, K, hk, hG, hg, hn⟩ := hrel
    have hL := HH.out.2.1
    have he := HH.out.2.2.1
    have hn4 := hL.len
    cases top with
    | none =>
      rw [show stk fs ++ topL none = stk fs from List.append_nil _] at T hn
      have TK := q_take_no T (by omega) (stk_last fs)
      cases hb0 : ((nextT L q).2.1.toList == [45]) with
      | true =>
        have hp := next_lt (x := ⟨#[45]⟩) (by rw [toList_byte]; exact hb0) (by rw [toList_byte]; simp)
        have BG := fun (v : World) (d : Below wr.heap.size wr v) => q_begin_neg (T.more d) (by omega) hb0
        have hG' : goal L none (.neg :: fs) ⟨q + 1, false, al⟩ = Z := (ahd_neg numT L fs (r := ⟨q, false, al⟩) (by rw [hL.mark rfl (by decide)]; exact hb0)).symm.trans hG
        have HR : Hid (Keep TY w wr ∧ FrOk (.neg :: fs) ∧ goal L none (.neg :: fs) ⟨q + 1, false, al⟩ = Z ∧ L.length - q + 1 ≤ gk ∧ q < L.length ∧ al.length + (stk fs).length + 2 * (L.length - q) ≤ 20000) := ⟨K, hk, hG', hg, hp, hn⟩
        clear T K hk hG hG' hg hn hL he hn4 HH hp hb0
        go_wp2_with (first
          | (go_at_call 133; (with_reducible refine Calls.mono TK ?_); rintro e w1 ⟨rfl, d1⟩)
          | (go_at_call 134; (with_reducible refine Calls.mono (BG _ d1) ?_); rintro e w2 ⟨rfl, T2, K2⟩))
        obtain ⟨K, hk, hG, hg, hp, hn⟩ := HR.out
        go_roundg (L.length - (q + 1) + 1)
        case measure => omega
        case rel =>
          refine ⟨.neg :: fs, none, q + 1, al, trivial, ?_, (K.more d1).trans K2, hk, hG, Nat.le_refl _, ?_⟩
          · rw [show stk (.neg :: fs) ++ topL none = stk fs ++ [.wt 6 2] from List.append_nil _]; exact T2
          · rw [show stk (.neg :: fs) ++ topL none = stk fs ++ [.wt 6 2] from List.append_nil _, List.length_append]
            show al.length + ((stk fs).length + 1) + _ ≤ _
            omega
      | false =>
        cases hb1 : ((nextT L q).2.1.toList == [40]) with
        | true =>
          have hp := next_lt (x := ⟨#[40]⟩) (by rw [toList_byte]; exact hb1) (by rw [toList_byte]; simp)
          have BG := fun (v : World) (d : Below wr.heap.size wr v) => q_begin_brk (T.more d) (by omega) hb0 hb1
          have hG' : goal L none (.brk :: fs) ⟨q + 1, false, al⟩ = Z := (ahd_brk numT L fs (r := ⟨q, false, al⟩) (by rw [hL.mark rfl (by decide), hb0]; simp) (by rw [hL.mark rfl (by decide)]; exact hb1)).symm.trans hG
          have HR : Hid (Keep TY w wr ∧ FrOk (.brk :: fs) ∧ goal L none (.brk :: fs) ⟨q + 1, false, al⟩ = Z ∧ L.length - q + 1 ≤ gk ∧ q < L.length ∧ al.length + (stk fs).length + 2 * (L.length - q) ≤ 20000) := ⟨K, hk, hG', hg, hp, hn⟩
          clear T K hk hG hG' hg hn hL he hn4 HH hp hb0 hb1
          go_wp2_with (first
            | (go_at_call 133; (with_reducible refine Calls.mono TK ?_); rintro e w1 ⟨rfl, d1⟩)
            | (go_at_call 134; (with_reducible refine Calls.mono (BG _ d1) ?_); rintro e w2 ⟨rfl, T2, K2⟩))
          obtain ⟨K, hk, hG, hg, hp, hn⟩ := HR.out
          go_roundg (L.length - (q + 1) + 1)
          case measure => omega
          case rel =>
            refine ⟨.brk :: fs, none, q + 1, al, trivial, ?_, (K.more d1).trans K2, hk, hG, Nat.le_refl _, ?_⟩
            · rw [show stk (.brk :: fs) ++ topL none = stk fs ++ [.br] from List.append_nil _]; exact T2
            · rw [show stk (.brk :: fs) ++ topL none = stk fs ++ [.br] from List.append_nil _, List.length_append]
              show al.length + ((stk fs).length + 1) + _ ≤ _
              omega
        | false =>
          obtain ⟨Y, hY⟩ : ∃ Y, ((⟨q, false, al⟩ : Rd).leaf numT L).2.powT L ((⟨q, false, al⟩ : Rd).leaf numT L).1 = Y := ⟨_, rfl⟩
          have BG := fun (v : World) (d : Below wr.heap.size wr v) => q_begin_leaf (T.more d) hL he (by omega) hb0 hb1
          rw [hY] at BG
          have hG' : aft numT L fs 0 Y.1 Y.2 = Z := by
            have := ahd_leaf numT L fs (r := ⟨q, false, al⟩) (by rw [hL.mark rfl (by decide), hb0]; simp) (by rw [hL.mark rfl (by decide), hb1]; simp)
            rw [hY] at this
            exact this.symm.trans hG
          unfold AftP at BG
          cases hYb : Y.2.bad with
          | true =>
            rw [hYb] at BG
            have on := (on_aft numT L fs 0 Y.1 Y.2).bad hYb
            rw [hG'] at on
            have HR : Hid (Keep TY w wr ∧ Z.2.bad = true ∧ Z.2.pos = Y.2.pos) := ⟨K, on⟩
            clear T K hk hG hG' hg hn hL he hn4 HH hb0 hb1 hY on
            go_wp2_with (first
              | (go_at_call 133; (with_reducible refine Calls.mono TK ?_); rintro e w1 ⟨rfl, d1⟩)
              | (go_at_call 134; (with_reducible refine Calls.mono (BG _ d1) ?_); rintro e w2 ⟨rfl, ⟨al2, S2, T2, -⟩, K2⟩))
            obtain ⟨K, z1, z2⟩ := HR.out
            go_ret2
            exact ansS_bad z1 z2 T2 ((K.more d1).trans K2)
          | false =>
            rw [hYb] at BG
            obtain ⟨c1, c2, c3⟩ := leaf_cnt hL q al hY hYb
            rw [← rd_eta hYb] at hG'
            have HR : Hid (Keep TY w wr ∧ FrOk fs ∧ goal L (some Y.1) fs ⟨Y.2.pos, false, Y.2.all⟩ = Z ∧ L.length - q + 1 ≤ gk ∧ q + 1 ≤ Y.2.pos ∧ Y.2.all.length + 1 + (stk fs).length + 2 * (L.length - Y.2.pos) ≤ 20000 ∧ q < L.length) := ⟨K, hk, hG', hg, c2, by omega, c3⟩
            clear T K hk hG hG' hg hn hL he hn4 HH hb0 hb1 hY c1 c2 c3
            go_wp2_with (first
              | (go_at_call 133; (with_reducible refine Calls.mono TK ?_); rintro e w1 ⟨rfl, d1⟩)
              | (go_at_call 134; (with_reducible refine Calls.mono (BG _ d1) ?_); rintro e w2 ⟨rfl, ⟨al2, S2, T2, h2⟩, K2⟩; obtain ⟨rfl, rfl⟩ := h2 trivial))
            obtain ⟨K, hk, hG, hg, hp, hn, hq⟩ := HR.out
            go_roundg (L.length - Y.2.pos + 1)
            case measure => omega
            case rel =>
              refine ⟨fs, some Y.1, Y.2.pos, Y.2.all, trivial, T2, (K.more d1).trans K2, hk, hG, Nat.le_refl _, ?_⟩
              rw [List.length_append]
              show Y.2.all.length + ((stk fs).length + 1) + _ ≤ _
              omega
    | some a =>
      have hlen : (stk fs ++ topL (some a)).length = (stk fs).length + 1 := by rw [List.length_append]; rfl
      rw [hlen] at hn
      have TK := q_take_nd (S := stk fs) T (by omega)
      have NX := fun (v : World) (T' : Tq W v R ta tc i l o L q al (stk fs)) => q_next T'
      have FD := fld_text
      have BT := fun (v : World) => q_between (nextT L q).2.1 v
      cases hbt : btw (nextT L q).2.1.toList with
      | some kc =>
        obtain ⟨k, c⟩ := kc
        rw [hbt] at BT
        unfold btwV at BT
        dsimp only at BT
        have hp : q < L.length := by
          rcases Nat.lt_or_ge q L.length with g | g
          · exact g
          · rw [nextT_none (List.getElem?_eq_none g), noText_list] at hbt
            rw [show btw [] = none from rfl] at hbt
            exact absurd hbt (by simp)
        obtain ⟨hA, hkA⟩ := aft_sign hL (a := a) (al := al) hk hbt
        have hA' : ahd numT L (.bin k (setF c fs a ⟨q + 1, false, al⟩).2.1 c :: (setF c fs a ⟨q + 1, false, al⟩).1) ⟨q + 1, false, (setF c fs a ⟨q + 1, false, al⟩).2.2.all⟩ = Z := hA.symm.trans hG
        have hcn := setF_cnt c (q + 1) fs a al
        have SK := fun (v : World) (T' : Tq W v R ta tc i l o L q al (stk fs)) => q_skip T' hp
        have SE := fun (v : World) (T' : Tq W v R ta tc i l o L (q + 1) al (stk fs)) => q_settled T' c a (by omega) rfl
        generalize setF c fs a ⟨q + 1, false, al⟩ = E at *
        obtain ⟨gs, b, r'⟩ := E
        dsimp only at SE hA' hkA hcn
        have PU1 := fun (v : World) (T' : Tq W v R ta tc i l o L (q + 1) r'.all (stk gs)) => q_push T' (.nd b) (by omega)
        have PU2 := fun (v : World) (T' : Tq W v R ta tc i l o L (q + 1) r'.all (stk gs ++ [.nd b])) => q_push T' (.wt k (binds c)) (by simp; omega)
        unfold itV at PU1 PU2
        dsimp only at PU1 PU2
        have HR : Hid (Keep TY w wr ∧ FrOk (.bin k b c :: gs) ∧ ahd numT L (.bin k b c :: gs) ⟨q + 1, false, r'.all⟩ = Z ∧ L.length - q + 1 ≤ gk ∧ q < L.length ∧ r'.all.length + (stk gs).length + 1 + 2 * (L.length - q) ≤ 20000) := ⟨K, hkA, hA', hg, hp, by omega⟩
        generalize (nextT L q).1 = y0 at *
        generalize (nextT L q).2.1 = y1 at *
        generalize (nextT L q).2.2.1 = y2 at *
        generalize (nextT L q).2.2.2 = y3 at *
        clear T K hk hG hA hA' hkA hg hn hL he hn4 HH hlen hp hbt hcn
        go_wp2_with (first
          | (go_at_call 133; (with_reducible refine Calls.mono TK ?_); rintro e w1 ⟨rfl, T1, K1⟩)
          | (go_at_call 83; (with_reducible refine Calls.mono (NX _ T1) ?_); rintro e w2 ⟨rfl, d2⟩)
          | (go_at_call 135; (with_reducible refine Calls.mono (BT _) ?_); rintro e w3 ⟨rfl, d3⟩; have T3 := (T1.more d2).more (d3.alloc d3.size (.cells #[.int .i64 k, .int .i64 (binds c)] 156)); have K3 := (K1.more d2).more (d3.alloc d3.size (.cells #[.int .i64 k, .int .i64 (binds c)] 156)))
          | (go_at_call 84; (with_reducible refine Calls.mono (SK _ T3) ?_); rintro e w4 ⟨rfl, T4, K4⟩; have B4 := (BoxC.new w3 #[.int .i64 k, .int .i64 (binds c)] 156).keep K4 (by unfold TY; decide); obtain ⟨c40, c41, -, -⟩ := B4.cells2)
          | (go_at_call 137; (with_reducible refine Calls.mono (SE _ T4) ?_); rintro e w5 ⟨rfl, T5, K5⟩)
          | (go_at_call 136; (with_reducible refine Calls.mono (PU1 _ T5) ?_); rintro e w6 ⟨rfl, T6, K6⟩; obtain ⟨c60, c61, -, -⟩ := ((B4.keep K5 (by unfold TY; decide)).keep K6 (by unfold TY; decide)).cells2)
          | (go_at_call 136; (with_reducible refine Calls.mono (PU2 _ T6) ?_); rintro e w7 ⟨rfl, T7, K7⟩))
        obtain ⟨K, hk, hG, hg, hp, hn⟩ := HR.out
        go_roundg (L.length - (q + 1) + 1)
        case measure => omega
        case rel =>
          refine ⟨.bin k b c :: gs, none, q + 1, r'.all, trivial, ?_, ((((K.trans K3).trans K4).trans K5).trans K6).trans K7, hk, hG, Nat.le_refl _, ?_⟩
          · rw [show stk (.bin k b c :: gs) ++ topL none = stk gs ++ [.nd b] ++ [.wt k (binds c)] from List.append_nil _]; exact T7
          · rw [show stk (.bin k b c :: gs) ++ topL none = stk gs ++ [.nd b] ++ [.wt k (binds c)] from List.append_nil _, List.length_append, List.length_append]
            show r'.all.length + ((stk gs).length + 1 + 1) + _ ≤ _
            omega
      | none =>
        rw [hbt] at BT
        unfold btwV at BT
        dsimp only at BT
        have hA := aft_none hL (a := a) (al := al) hk hbt
        rw [show aft numT L fs 0 a ⟨q, false, al⟩ = Z from hG] at hA
        have hcn := setF_cnt false q fs a al
        have SE := fun (v : World) (T' : Tq W v R ta tc i l o L q al (stk fs)) => q_settled T' false a (by omega) rfl
        obtain ⟨f1, f2, -, -⟩ := setF_rd false fs a ⟨q, false, al⟩
        generalize setF false fs a ⟨q, false, al⟩ = E at *
        obtain ⟨gs, b, r'⟩ := E
        dsimp only at SE hA hcn f1 f2
        rw [show binds false = 0 from rfl] at SE
        rcases hA with ⟨rfl, hA⟩ | ⟨gs', rfl, hkA, hA⟩
        · have hZ : ((b, ⟨q, false, r'.all⟩) : Int × Rd) = Z := by rw [hA, ← rd_eta f2, f1]
          subst hZ
          have HR : Hid (Keep TY w wr) := K
          have hz : ((stk []).length : Int) = 0 := rfl
          rw [show stk [] = [] from rfl] at SE
          have hz : ((([] : List It).length : Nat) : Int) = 0 := rfl
          generalize (nextT L q).1 = y0 at *
          generalize (nextT L q).2.1 = y1 at *
          generalize (nextT L q).2.2.1 = y2 at *
          generalize (nextT L q).2.2.2 = y3 at *
          clear T K hk hG hA hg hn hL he hn4 HH hlen hbt hcn f1 f2
          go_wp2_with (first
            | (go_at_call 133; (with_reducible refine Calls.mono TK ?_); rintro e w1 ⟨rfl, T1, K1⟩)
            | (go_at_call 83; (with_reducible refine Calls.mono (NX _ T1) ?_); rintro e w2 ⟨rfl, d2⟩)
            | (go_at_call 135; (with_reducible refine Calls.mono (BT _) ?_); rintro e w3 ⟨rfl, d3⟩; have T3 := (T1.more d2).more (d3.alloc d3.size (.cells #[.int .i64 0, .int .i64 0] 156)); have K3 := (K1.more d2).more (d3.alloc d3.size (.cells #[.int .i64 0, .int .i64 0] 156)))
            | (go_at_call 137; (with_reducible refine Calls.mono (SE _ T3) ?_); rintro e w4 ⟨rfl, T4, K4⟩; obtain ⟨sa, sc, x5⟩ := T4.stk))
          go_ret2
          exact ansS_good T4 ((HR.out.trans K3).trans K4)
        · have hbl : (stk (.brk :: gs')).length = (stk gs').length + 1 := by simp [stk]
          have hs : ((stk (.brk :: gs')).length : Int) ≠ 0 := by rw [hbl]; omega
          have hs' : (((stk (.brk :: gs')).length : Int) == 0) = false := by rw [beq_eq_false_iff_ne]; exact hs
          rw [show ((b, r') : Int × Rd) = (b, ⟨q, false, r'.all⟩) from by rw [← f1, rd_eta f2]] at hA
          have SH := fun (v : World) (T' : Tq W v R ta tc i l o L q r'.all (stk (.brk :: gs'))) => q_shut (S0 := stk gs') T' hL he b (by omega)
          obtain ⟨Y, hY⟩ : ∃ Y, shutE L (b, ⟨q, false, r'.all⟩) = Y := ⟨_, rfl⟩
          rw [hY] at SH hA
          unfold AftP at SH
          cases hYb : Y.2.bad with
          | true =>
            rw [hYb] at SH
            have on := (on_aft numT L gs' 0 Y.1 Y.2).bad hYb
            rw [← hA] at on
            have HR : Hid (Keep TY w wr ∧ Z.2.bad = true ∧ Z.2.pos = Y.2.pos) := ⟨K, on⟩
            generalize hSS : stk (.brk :: gs') = SS at *
            generalize (nextT L q).1 = y0 at *
            generalize (nextT L q).2.1 = y1 at *
            generalize (nextT L q).2.2.1 = y2 at *
            generalize (nextT L q).2.2.2 = y3 at *
            clear T K hk hG hA hg hn hL he hn4 HH hlen hbt hcn f1 f2 on hY hbl hkA hSS
            go_wp2_with (first
              | (go_at_call 133; (with_reducible refine Calls.mono TK ?_); rintro e w1 ⟨rfl, T1, K1⟩)
              | (go_at_call 83; (with_reducible refine Calls.mono (NX _ T1) ?_); rintro e w2 ⟨rfl, d2⟩)
              | (go_at_call 135; (with_reducible refine Calls.mono (BT _) ?_); rintro e w3 ⟨rfl, d3⟩; have T3 := (T1.more d2).more (d3.alloc d3.size (.cells #[.int .i64 0, .int .i64 0] 156)); have K3 := (K1.more d2).more (d3.alloc d3.size (.cells #[.int .i64 0, .int .i64 0] 156)))
              | (go_at_call 137; (with_reducible refine Calls.mono (SE _ T3) ?_); rintro e w4 ⟨rfl, T4, K4⟩; obtain ⟨sa, sc, x5⟩ := T4.stk)
              | (go_at_call 138; (with_reducible refine Calls.mono (SH _ T4) ?_); rintro e w5 ⟨rfl, ⟨al2, S2, T5, h2⟩, K5⟩))
            obtain ⟨K, z1, z2⟩ := HR.out
            go_ret2
            exact ansS_bad z1 z2 T5 (((K.trans K3).trans K4).trans K5)
          | false =>
            rw [hYb] at SH
            obtain ⟨c1, c2, c3⟩ := shut_cnt hL q r'.all b hY hYb
            have hA' := hA.symm
            rw [← rd_eta hYb] at hA'
            have HR : Hid (Keep TY w wr ∧ FrOk gs' ∧ goal L (some Y.1) gs' ⟨Y.2.pos, false, Y.2.all⟩ = Z ∧ L.length - q + 1 ≤ gk ∧ q + 1 ≤ Y.2.pos ∧ Y.2.all.length + 1 + (stk gs').length + 2 * (L.length - Y.2.pos) ≤ 20000 ∧ q < L.length) := ⟨K, hkA, hA', hg, c2, by omega, c3⟩
            generalize hSS : stk (.brk :: gs') = SS at *
            generalize (nextT L q).1 = y0 at *
            generalize (nextT L q).2.1 = y1 at *
            generalize (nextT L q).2.2.1 = y2 at *
            generalize (nextT L q).2.2.2 = y3 at *
            clear T K hk hG hA hA' hg hn hL he hn4 HH hlen hbt hcn f1 f2 hY hbl hkA hSS c1 c2 c3
            go_wp2_with (first
              | (go_at_call 133; (with_reducible refine Calls.mono TK ?_); rintro e w1 ⟨rfl, T1, K1⟩)
              | (go_at_call 83; (with_reducible refine Calls.mono (NX _ T1) ?_); rintro e w2 ⟨rfl, d2⟩)
              | (go_at_call 135; (with_reducible refine Calls.mono (BT _) ?_); rintro e w3 ⟨rfl, d3⟩; have T3 := (T1.more d2).more (d3.alloc d3.size (.cells #[.int .i64 0, .int .i64 0] 156)); have K3 := (K1.more d2).more (d3.alloc d3.size (.cells #[.int .i64 0, .int .i64 0] 156)))
              | (go_at_call 137; (with_reducible refine Calls.mono (SE _ T3) ?_); rintro e w4 ⟨rfl, T4, K4⟩; obtain ⟨sa, sc, x5⟩ := T4.stk)
              | (go_at_call 138; (with_reducible refine Calls.mono (SH _ T4) ?_); rintro e w5 ⟨rfl, ⟨al2, S2, T5, h2⟩, K5⟩; obtain ⟨rfl, rfl⟩ := h2 trivial))
            obtain ⟨K, hk, hG, hg, hp, hn, hq⟩ := HR.out
            go_roundg (L.length - Y.2.pos + 1)
            case measure => omega
            case rel =>
              refine ⟨gs', some Y.1, Y.2.pos, Y.2.all, trivial, T5, ((K.trans K3).trans K4).trans K5, hk, hG, Nat.le_refl _, ?_⟩
              rw [List.length_append]
              show Y.2.all.length + ((stk gs').length + 1) + _ ≤ _
              omega
end
end Go.Proofs.YtbcfplaalepnbaaGreatDoor
namespace Go.Proofs.YtbcfplaalepnbaaGreatDoor
open Go.RowKit Go.Lib
def nmG (L : List Tok) (f : Nat) (out : List ByteArray) (r : Rd) : List ByteArray × Rd := ((moreN L f (out ++ [(r.nameT L).1]) (r.nameT L).2).1, (moreN L f (out ++ [(r.nameT L).1]) (r.nameT L).2).2.want L 2 [59])
theorem names_nmG (L : List Tok) (r : Rd) : namesI L r = nmG L (L.length + 1) [] r := rfl
theorem bad_is (L : List Tok) (p : Nat) (al : List Nd) (k : Int) (x : List UInt8) : (⟨p, true, al⟩ : Rd).is L k x = false := by unfold Rd.is; simp
theorem bad_more (L : List Tok) (f : Nat) (out : List ByteArray) (p : Nat) (al : List Nd) : moreN L f out ⟨p, true, al⟩ = (out, ⟨p, true, al⟩) := by
  cases f with
  | zero => rfl
  | succ f => exact if_neg (by rw [bad_is]; simp)
theorem bad_want (L : List Tok) (p : Nat) (al : List Nd) (k : Int) (x : List UInt8) : (⟨p, true, al⟩ : Rd).want L k x = ⟨p, true, al⟩ := by
  unfold Rd.want
  rw [if_neg (by rw [bad_is]; simp)]; rfl
theorem nmG_no {L : List Tok} {f : Nat} {out : List ByteArray} {p : Nat} {al : List Nd} (h : nameB (nextT L p).2.1 = false) : (nmG L f out ⟨p, false, al⟩).2 = ⟨p, true, al⟩ := by
  unfold nmG
  rw [name_no h]
  dsimp only
  rw [bad_more]
  exact bad_want L p al 2 [59]
theorem nmG_more {L : List Tok} (hL : Toks L) {f : Nat} {out : List ByteArray} {p : Nat} {al : List Nd} (h : nameB (nextT L p).2.1 = true) (hc : ((nextT L (p + 1)).2.1.toList == [44]) = true) : nmG L (f + 1) out ⟨p, false, al⟩ = nmG L f (out ++ [(nextT L p).2.1]) ⟨p + 1 + 1, false, al⟩ := by
  have e : ∀ x : ByteArray, moreN L (f + 1) (out ++ [x]) ⟨p + 1, false, al⟩ = moreN L f (out ++ [x] ++ [((⟨p + 1, false, al⟩ : Rd).skip.nameT L).1]) ((⟨p + 1, false, al⟩ : Rd).skip.nameT L).2 := fun x => if_pos (by rw [hL.mark rfl (by decide)]; exact hc)
  unfold nmG
  rw [(name_yes hL h).1]
  dsimp only
  rw [e]
  rfl
theorem nmG_last {L : List Tok} (hL : Toks L) {f : Nat} {out : List ByteArray} {p : Nat} {al : List Nd} (h : nameB (nextT L p).2.1 = true) (hc : ((nextT L (p + 1)).2.1.toList == [44]) = false) : nmG L (f + 1) out ⟨p, false, al⟩ = (out ++ [(nextT L p).2.1], if ((nextT L (p + 1)).2.1.toList == [59]) = true then ⟨p + 1 + 1, false, al⟩ else ⟨p + 1, true, al⟩) := by
  have e : ∀ x : ByteArray, moreN L (f + 1) (out ++ [x]) ⟨p + 1, false, al⟩ = (out ++ [x], ⟨p + 1, false, al⟩) := fun x => if_neg (by rw [hL.mark rfl (by decide)]; show ¬ ((nextT L (p + 1)).2.1.toList == [44]) = true; rw [hc]; simp)
  unfold nmG
  rw [(name_yes hL h).1]
  dsimp only
  rw [e]
  dsimp only
  unfold Rd.want
  rw [hL.mark (r := ⟨p + 1, false, al⟩) rfl (c := 59) (by decide)]
  rfl
section
variable {W w w' : World} {R : Nat} {ta : Option Addr} {tc : Nat} {i l o : Value} {L : List Tok} {p : Nat} {al : List Nd} {S : List It}
theorem Tq.keepU (h : Tq W w R ta tc i l o L p al S) {Y : TypeId → Prop} (k : Keep Y w w') (hb : Below W.heap.size W w') (y1 : ¬ Y 59) (y2 : ¬ Y 44) (y3 : ¬ Y 66) (y4 : ¬ Y 84) (y5 : ¬ Y 20) : Tq W w' R ta tc i l o L p al S := by
  obtain ⟨la, lc, a, c, sa, sc, hW, B, ⟨ms, h1, h2, h3⟩, hS, h6, h7, h8⟩ := h
  exact ⟨la, lc, a, c, sa, sc, hW, B.keep k y1, ⟨ms, h1.keep k y2 hb, h2, fun m hm => ⟨OwnC.keep (h3 m hm).1 k y4 hb, OwnC.keep (h3 m hm).2 k y4 hb⟩⟩, hS.keep k y5 hb, h6, OwnC.keep h7 k y3 hb, h8⟩
theorem Tq.setI (h : Tq W w R ta tc i l o L p al S) (x : Value) : Tq W (w.setCell ⟨R, 1, none⟩ x) R ta tc x l o L p al S ∧ Keep TY w (w.setCell ⟨R, 1, none⟩ x) := by
  obtain ⟨la, lc, a, c, sa, sc, hW, B, hN, hS, hT⟩ := h
  exact ⟨⟨la, lc, a, c, sa, sc, hW, B.set 1 _, hN.box B (by decide) (by decide) hW _ _, hS.box B (by decide) hW _ _, hT.1, hT.2.1.box B (by decide) hW _ _, hT.2.2⟩, (Keep.refl TY w).set B ty_reader 1 _⟩
theorem Tq.setL (h : Tq W w R ta tc i l o L p al S) (x : Value) : Tq W (w.setCell ⟨R, 2, none⟩ x) R ta tc i x o L p al S ∧ Keep TY w (w.setCell ⟨R, 2, none⟩ x) := by
  obtain ⟨la, lc, a, c, sa, sc, hW, B, hN, hS, hT⟩ := h
  exact ⟨⟨la, lc, a, c, sa, sc, hW, B.set 2 _, hN.box B (by decide) (by decide) hW _ _, hS.box B (by decide) hW _ _, hT.1, hT.2.1.box B (by decide) hW _ _, hT.2.2⟩, (Keep.refl TY w).set B ty_reader 2 _⟩
theorem Tq.setO (h : Tq W w R ta tc i l o L p al S) (x : Value) : Tq W (w.setCell ⟨R, 3, none⟩ x) R ta tc i l x L p al S ∧ Keep TY w (w.setCell ⟨R, 3, none⟩ x) := by
  obtain ⟨la, lc, a, c, sa, sc, hW, B, hN, hS, hT⟩ := h
  exact ⟨⟨la, lc, a, c, sa, sc, hW, B.set 3 _, hN.box B (by decide) (by decide) hW _ _, hS.box B (by decide) hW _ _, hT.1, hT.2.1.box B (by decide) hW _ _, hT.2.2⟩, (Keep.refl TY w).set B ty_reader 3 _⟩
theorem Tq.cells (h : Tq W w R ta tc i l o L p al S) : w.cell? ⟨R, 1, none⟩ = some i ∧ w.cell? ⟨R, 2, none⟩ = some l ∧ w.cell? ⟨R, 3, none⟩ = some o ∧ w.frozen? ⟨R, 1, none⟩ = false ∧ w.frozen? ⟨R, 2, none⟩ = false ∧ w.frozen? ⟨R, 3, none⟩ = false ∧ R < w.heap.size := by
  obtain ⟨la, lc, a, c, sa, sc, hW, B, hN, hS, hT⟩ := h
  exact ⟨(B.cell 1).1, (B.cell 2).1, (B.cell 3).1, (B.cell 1).2, (B.cell 2).2, (B.cell 3).2, B.lt⟩
theorem ts_not : ¬ TS 59 ∧ ¬ TS 44 ∧ ¬ TS 66 ∧ ¬ TS 84 ∧ ¬ TS 20 := by unfold TS; decide
def AnsN1 (W w : World) (R : Nat) (ta : Option Addr) (tc : Nat) (l o : Value) (L : List Tok) (al : List Nd) (S : List It) (Z : List ByteArray × Rd) (e : Ending) (w' : World) : Prop :=
  e = .returned (.bool (!Z.2.bad)) ∧ (∃ a n c, Tq W w' R ta tc (.slice a n c) l o L Z.2.pos al S ∧ (Z.2.bad = false → n = Z.1.length ∧ w'.ownsRow w.heap.size 9 1 (.slice a n c) n (flat encS Z.1))) ∧ Keep TY w w'
set_option maxHeartbeats 16000000 in
theorem q_names1 (h : Tq W w R ta tc (.slice none 0 0) l o L p al S) (hL : Toks L) :
    Calls Tryz.prog 54 #[.pointer (some ⟨R, 0, none⟩), .pointer (some ⟨R, 1, none⟩)] w (AnsN1 W w R ta tc l o L al S (namesI L ⟨p, false, al⟩)) := by
  rw [names_nmG]
  obtain ⟨Z, hZ⟩ : ∃ Z, nmG L (L.length + 1) [] ⟨p, false, al⟩ = Z := ⟨_, rfl⟩
  rw [hZ]
  have HH : Hid (Tq W w R ta tc (.slice none 0 0) l o L p al S ∧ Toks L ∧ nmG L (L.length + 1) [] ⟨p, false, al⟩ = Z ∧ w.ownsRow w.heap.size 9 1 (.slice none 0 0) 0 []) := ⟨h, hL, hZ, World.ownsRow_nil _ _ _ _⟩
  have HW : Hid (W.heap.size ≤ w.heap.size) := h.below.size
  clear h hL hZ
  go_enter Tryz.func54, Tryz.ntmps54
  go_wp2
  go_loopg [5] (L.length - p + 1) (fun g s5 v => ∃ (a : Option Addr) (c f q : Nat) (out : List ByteArray), s5 = s5 ∧ Tq W v R ta tc (.slice a out.length c) l o L q al S ∧ v.ownsRow w.heap.size 9 1 (.slice a out.length c) out.length (flat encS out) ∧ Keep TY w v ∧ nmG L f out ⟨q, false, al⟩ = Z ∧ L.length - q < f ∧ L.length - q + 1 ≤ g ∧ out.length + (L.length - q) ≤ 5000)
  case atStart => exact ⟨none, 0, L.length + 1, p, [], rfl, HH.out.1, HH.out.2.2.2, Keep.refl TY w, HH.out.2.2.1, by omega, Nat.le_refl _, by have := HH.out.2.1.len; show 0 + _ ≤ _; omega⟩
  case round =>
    obtain ⟨a, c, f, q, out, -, T, O, K, hZ, hf, hg, hn⟩ := hrel
    have hL := HH.out.2.1
    cases f with
    | zero => omega
    | succ f =>
      cases hb : nameB (nextT L q).2.1 with
      | false =>
        have NM := q_name T hL false hb
        simp only [Bool.false_eq_true, if_false] at NM
        have hz := nmG_no (f := f + 1) (out := out) (al := al) hb
        rw [hZ] at hz
        obtain ⟨Z1, Z2⟩ := Z
        dsimp only at hz
        subst hz
        have HR : Hid (Keep TY w wr) := K
        generalize (nextT L q).2.1 = y1 at *
        clear T O K hZ hf hg hn hL HH hb
        go_wp2_with (go_at_call 85; (with_reducible refine Calls.mono NM ?_); rintro e w1 ⟨rfl, T1, K1⟩)
        go_ret
        exact ⟨rfl, ⟨a, out.length, c, T1, fun q => absurd q (by simp)⟩, HR.out.trans K1⟩
      | true =>
        have NM := q_name T hL true hb
        simp only [if_true] at NM
        have hq := (List.getElem?_eq_some_iff.1 (name_yes hL (all := al) hb).2.choose_spec.1).1
        have m1 : out.length + 1 ≤ maxLen := by unfold maxLen; omega
        have m2 : (out.length + 1) * 16 ≤ 140737488355328 := by omega
        cases hc : ((nextT L (q + 1)).2.1.toList == [44]) with
        | true =>
          have PS := fun (v : World) (x : Value) (T' : Tq W v R ta tc x l o L (q + 1) al S) => q_pass T' ⟨#[44]⟩ (by rw [toList_byte]; simp) true (by rw [toList_byte]; exact hc)
          simp only [if_true] at PS
          have hZ' := (nmG_more hL (f := f) (out := out) (al := al) hb hc).symm.trans hZ
          generalize (nextT L q).2.1 = y1 at *
          have HR : Hid (Keep TY w wr ∧ nmG L f (out ++ [y1]) ⟨q + 1 + 1, false, al⟩ = Z ∧ L.length - q < f + 1 ∧ L.length - q + 1 ≤ gk ∧ out.length + (L.length - q) ≤ 5000 ∧ q < L.length ∧ wr.ownsRow w.heap.size 9 1 (.slice a out.length c) out.length (flat encS out) ∧ Below W.heap.size W wr) := ⟨K, hZ', hf, hg, hn, hq, O, T.below⟩
          have hN' : (out ++ [y1]).length = out.length + 1 := by rw [List.length_append]; rfl
          generalize hN : out.length = N at *
          clear T O K hZ hZ' hf hg hn hL HH hb hc hq
          go_wp2_with (first
            | (go_at_call 85; (with_reducible refine Calls.mono NM ?_); rintro e v1 ⟨rfl, T1, K1⟩; obtain ⟨x1, x2, x3, g1, g2, g3, hR1⟩ := T1.cells; have O1 := fun ob => ownsRow_below (ownsRow_keep HR.out.2.2.2.2.2.2.1 K1 ty_str) ((Below.refl _ v1).alloc (Nat.le_refl _) ob); have hB1 := (HR.out.1.trans K1).1)
            | (at_builtin; refine wpl_append_b (t := 23) (e := 9) Tryz.underlying23 infoStr rfl (by decide) (.tmp 17) (.tmp 19) rfl rfl _ w.heap.size (by simp; omega) _ N (flat encS out) v1.heap.size (encS y1) rfl rfl (O1 _) (BoxC.new v1 #[.string y1] 9).isc (by simp [encS, Value.oneCell']) m1 m2 ?_; intro a6 c6 v6 o6 g6; have hWw : W.heap.size ≤ w.heap.size := HW.out; have b6 : Below W.heap.size W v6 := (T1.below.alloc T1.below.size (.cells #[.string y1] 9)).grown g6 (Nat.le_trans T1.below.size (by simp)) (fun k hk => Nat.le_trans hWw ((O1 (.cells #[.string y1] 9)).lt k hk).1); have T6 := (T1.more ((Below.refl _ v1).alloc (Nat.le_refl _) (.cells #[.string y1] 9))).keepU (Keep.grown_type (X := TS) (O1 (.cells #[.string y1] 9)) rfl g6) b6 ts_not.1 ts_not.2.1 ts_not.2.2.1 ts_not.2.2.2.1 ts_not.2.2.2.2; have K6 := ((HR.out.1.trans K1).alloc (.cells #[.string y1] 9)).grown_new (O1 (.cells #[.string y1] 9)) (Nat.le_refl _) g6; obtain ⟨x61, x62, x63, g61, g62, g63, hR6⟩ := T6.cells; have T7 := T6.setI (.slice a6 (N + 1) c6))
            | (go_at_call 53; (with_reducible refine Calls.mono (PS _ _ T7.1) ?_); rintro e v8 ⟨rfl, T8, K8⟩))
          obtain ⟨K, hZ, hf, hg, hn, hq, -, -⟩ := HR.out
          go_roundg (L.length - (q + 1 + 1) + 1)
          case measure => omega
          case rel => exact ⟨a6, c6, f, q + 1 + 1, out ++ [y1], trivial, by rw [hN']; exact T8, by rw [hN', flat_append, flat_one]; exact ownsRow_keep (ownsRow_keep o6 T7.2 ty_str) K8 ty_str, (K6.trans T7.2).trans K8, hZ, by omega, Nat.le_refl _, by rw [hN']; omega⟩
        | false =>
          have PS := fun (v : World) (x : Value) (T' : Tq W v R ta tc x l o L (q + 1) al S) => q_pass T' ⟨#[44]⟩ (by rw [toList_byte]; simp) false (by rw [toList_byte]; exact hc)
          simp only [Bool.false_eq_true, if_false] at PS
          obtain ⟨b, hsc⟩ : ∃ b, ((nextT L (q + 1)).2.1.toList == [59]) = b := ⟨_, rfl⟩
          have PE := fun (v : World) (x : Value) (T' : Tq W v R ta tc x l o L (q + 1) al S) => q_pass T' ⟨#[59]⟩ (by rw [toList_byte]; simp) b (by rw [toList_byte]; exact hsc)
          have hZ' := (nmG_last hL (f := f) (out := out) (al := al) hb hc).symm.trans hZ
          rw [hsc] at hZ'
          generalize (nextT L q).2.1 = y1 at *
          have HR : Hid (Keep TY w wr ∧ (out ++ [y1], if b = true then (⟨q + 1 + 1, false, al⟩ : Rd) else ⟨q + 1, true, al⟩) = Z ∧ wr.ownsRow w.heap.size 9 1 (.slice a out.length c) out.length (flat encS out) ∧ Below W.heap.size W wr) := ⟨K, hZ', O, T.below⟩
          have hN' : (out ++ [y1]).length = out.length + 1 := by rw [List.length_append]; rfl
          generalize hN : out.length = N at *
          clear T O K hZ hZ' hf hg hn hL HH hb hc hq hsc
          go_wp2_with (first
            | (go_at_call 85; (with_reducible refine Calls.mono NM ?_); rintro e v1 ⟨rfl, T1, K1⟩; obtain ⟨x1, x2, x3, g1, g2, g3, hR1⟩ := T1.cells; have O1 := fun ob => ownsRow_below (ownsRow_keep HR.out.2.2.1 K1 ty_str) ((Below.refl _ v1).alloc (Nat.le_refl _) ob); have hB1 := (HR.out.1.trans K1).1)
            | (at_builtin; refine wpl_append_b (t := 23) (e := 9) Tryz.underlying23 infoStr rfl (by decide) (.tmp 17) (.tmp 19) rfl rfl _ w.heap.size (by simp; omega) _ N (flat encS out) v1.heap.size (encS y1) rfl rfl (O1 _) (BoxC.new v1 #[.string y1] 9).isc (by simp [encS, Value.oneCell']) m1 m2 ?_; intro a6 c6 v6 o6 g6; have hWw : W.heap.size ≤ w.heap.size := HW.out; have b6 : Below W.heap.size W v6 := (T1.below.alloc T1.below.size (.cells #[.string y1] 9)).grown g6 (Nat.le_trans T1.below.size (by simp)) (fun k hk => Nat.le_trans hWw ((O1 (.cells #[.string y1] 9)).lt k hk).1); have T6 := (T1.more ((Below.refl _ v1).alloc (Nat.le_refl _) (.cells #[.string y1] 9))).keepU (Keep.grown_type (X := TS) (O1 (.cells #[.string y1] 9)) rfl g6) b6 ts_not.1 ts_not.2.1 ts_not.2.2.1 ts_not.2.2.2.1 ts_not.2.2.2.2; have K6 := ((HR.out.1.trans K1).alloc (.cells #[.string y1] 9)).grown_new (O1 (.cells #[.string y1] 9)) (Nat.le_refl _) g6; obtain ⟨x61, x62, x63, g61, g62, g63, hR6⟩ := T6.cells; have T7 := T6.setI (.slice a6 (N + 1) c6))
            | (go_at_call 53; (with_reducible refine Calls.mono (PS _ _ T7.1) ?_); rintro e v8 ⟨rfl, T8, K8⟩)
            | (go_at_call 53; (with_reducible refine Calls.mono (PE _ _ T8) ?_); rintro e v9 ⟨rfl, T9, K9⟩))
          go_ret
          obtain ⟨K, rfl, -, -⟩ := HR.out
          cases b with
          | true => exact ⟨rfl, ⟨a6, N + 1, c6, T9, fun _ => ⟨hN'.symm, by rw [flat_append, flat_one]; exact ownsRow_keep (ownsRow_keep (ownsRow_keep o6 T7.2 ty_str) K8 ty_str) K9 ty_str⟩⟩, ((K6.trans T7.2).trans K8).trans K9⟩
          | false => exact ⟨rfl, ⟨a6, N + 1, c6, T9, fun q => absurd q (by simp)⟩, ((K6.trans T7.2).trans K8).trans K9⟩
def AnsN3 (W w : World) (R : Nat) (ta : Option Addr) (tc : Nat) (i l : Value) (L : List Tok) (al : List Nd) (S : List It) (Z : List ByteArray × Rd) (e : Ending) (w' : World) : Prop :=
  e = .returned (.bool (!Z.2.bad)) ∧ (∃ a n c, Tq W w' R ta tc i l (.slice a n c) L Z.2.pos al S ∧ (Z.2.bad = false → n = Z.1.length ∧ w'.ownsRow w.heap.size 9 1 (.slice a n c) n (flat encS Z.1))) ∧ Keep TY w w'
set_option maxHeartbeats 16000000 in
theorem q_names3 (h : Tq W w R ta tc i l (.slice none 0 0) L p al S) (hL : Toks L) :
    Calls Tryz.prog 54 #[.pointer (some ⟨R, 0, none⟩), .pointer (some ⟨R, 3, none⟩)] w (AnsN3 W w R ta tc i l L al S (namesI L ⟨p, false, al⟩)) := by
  rw [names_nmG]
  obtain ⟨Z, hZ⟩ : ∃ Z, nmG L (L.length + 1) [] ⟨p, false, al⟩ = Z := ⟨_, rfl⟩
  rw [hZ]
  have HH : Hid (Tq W w R ta tc i l (.slice none 0 0) L p al S ∧ Toks L ∧ nmG L (L.length + 1) [] ⟨p, false, al⟩ = Z ∧ w.ownsRow w.heap.size 9 1 (.slice none 0 0) 0 []) := ⟨h, hL, hZ, World.ownsRow_nil _ _ _ _⟩
  have HW : Hid (W.heap.size ≤ w.heap.size) := h.below.size
  clear h hL hZ
  go_enter Tryz.func54, Tryz.ntmps54
  go_wp2
  go_loopg [5] (L.length - p + 1) (fun g s5 v => ∃ (a : Option Addr) (c f q : Nat) (out : List ByteArray), s5 = s5 ∧ Tq W v R ta tc i l (.slice a out.length c) L q al S ∧ v.ownsRow w.heap.size 9 1 (.slice a out.length c) out.length (flat encS out) ∧ Keep TY w v ∧ nmG L f out ⟨q, false, al⟩ = Z ∧ L.length - q < f ∧ L.length - q + 1 ≤ g ∧ out.length + (L.length - q) ≤ 5000)
  case atStart => exact ⟨none, 0, L.length + 1, p, [], rfl, HH.out.1, HH.out.2.2.2, Keep.refl TY w, HH.out.2.2.1, by omega, Nat.le_refl _, by have := HH.out.2.1.len; show 0 + _ ≤ _; omega⟩
  case round =>
    obtain ⟨a, c, f, q, out, -, T, O, K, hZ, hf, hg, hn⟩ := hrel
    have hL := HH.out.2.1
    cases f with
    | zero => omega
    | succ f =>
      cases hb : nameB (nextT L q).2.1 with
      | false =>
        have NM := q_name T hL false hb
        simp only [Bool.false_eq_true, if_false] at NM
        have hz := nmG_no (f := f + 1) (out := out) (al := al) hb
        rw [hZ] at hz
        obtain ⟨Z1, Z2⟩ := Z
        dsimp only at hz
        subst hz
        have HR : Hid (Keep TY w wr) := K
        generalize (nextT L q).2.1 = y1 at *
        clear T O K hZ hf hg hn hL HH hb
        go_wp2_with (go_at_call 85; (with_reducible refine Calls.mono NM ?_); rintro e w1 ⟨rfl, T1, K1⟩)
        go_ret
        exact ⟨rfl, ⟨a, out.length, c, T1, fun q => absurd q (by simp)⟩, HR.out.trans K1⟩
      | true =>
        have NM := q_name T hL true hb
        simp only [if_true] at NM
        have hq := (List.getElem?_eq_some_iff.1 (name_yes hL (all := al) hb).2.choose_spec.1).1
        have m1 : out.length + 1 ≤ maxLen := by unfold maxLen; omega
        have m2 : (out.length + 1) * 16 ≤ 140737488355328 := by omega
        cases hc : ((nextT L (q + 1)).2.1.toList == [44]) with
        | true =>
          have PS := fun (v : World) (x : Value) (T' : Tq W v R ta tc i l x L (q + 1) al S) => q_pass T' ⟨#[44]⟩ (by rw [toList_byte]; simp) true (by rw [toList_byte]; exact hc)
          simp only [if_true] at PS
          have hZ' := (nmG_more hL (f := f) (out := out) (al := al) hb hc).symm.trans hZ
          generalize (nextT L q).2.1 = y1 at *
          have HR : Hid (Keep TY w wr ∧ nmG L f (out ++ [y1]) ⟨q + 1 + 1, false, al⟩ = Z ∧ L.length - q < f + 1 ∧ L.length - q + 1 ≤ gk ∧ out.length + (L.length - q) ≤ 5000 ∧ q < L.length ∧ wr.ownsRow w.heap.size 9 1 (.slice a out.length c) out.length (flat encS out) ∧ Below W.heap.size W wr) := ⟨K, hZ', hf, hg, hn, hq, O, T.below⟩
          have hN' : (out ++ [y1]).length = out.length + 1 := by rw [List.length_append]; rfl
          generalize hN : out.length = N at *
          clear T O K hZ hZ' hf hg hn hL HH hb hc hq
          go_wp2_with (first
            | (go_at_call 85; (with_reducible refine Calls.mono NM ?_); rintro e v1 ⟨rfl, T1, K1⟩; obtain ⟨x1, x2, x3, g1, g2, g3, hR1⟩ := T1.cells; have O1 := fun ob => ownsRow_below (ownsRow_keep HR.out.2.2.2.2.2.2.1 K1 ty_str) ((Below.refl _ v1).alloc (Nat.le_refl _) ob); have hB1 := (HR.out.1.trans K1).1)
            | (at_builtin; refine wpl_append_b (t := 23) (e := 9) Tryz.underlying23 infoStr rfl (by decide) (.tmp 17) (.tmp 19) rfl rfl _ w.heap.size (by simp; omega) _ N (flat encS out) v1.heap.size (encS y1) rfl rfl (O1 _) (BoxC.new v1 #[.string y1] 9).isc (by simp [encS, Value.oneCell']) m1 m2 ?_; intro a6 c6 v6 o6 g6; have hWw : W.heap.size ≤ w.heap.size := HW.out; have b6 : Below W.heap.size W v6 := (T1.below.alloc T1.below.size (.cells #[.string y1] 9)).grown g6 (Nat.le_trans T1.below.size (by simp)) (fun k hk => Nat.le_trans hWw ((O1 (.cells #[.string y1] 9)).lt k hk).1); have T6 := (T1.more ((Below.refl _ v1).alloc (Nat.le_refl _) (.cells #[.string y1] 9))).keepU (Keep.grown_type (X := TS) (O1 (.cells #[.string y1] 9)) rfl g6) b6 ts_not.1 ts_not.2.1 ts_not.2.2.1 ts_not.2.2.2.1 ts_not.2.2.2.2; have K6 := ((HR.out.1.trans K1).alloc (.cells #[.string y1] 9)).grown_new (O1 (.cells #[.string y1] 9)) (Nat.le_refl _) g6; obtain ⟨x61, x62, x63, g61, g62, g63, hR6⟩ := T6.cells; have T7 := T6.setO (.slice a6 (N + 1) c6))
            | (go_at_call 53; (with_reducible refine Calls.mono (PS _ _ T7.1) ?_); rintro e v8 ⟨rfl, T8, K8⟩))
          obtain ⟨K, hZ, hf, hg, hn, hq, -, -⟩ := HR.out
          go_roundg (L.length - (q + 1 + 1) + 1)
          case measure => omega
          case rel => exact ⟨a6, c6, f, q + 1 + 1, out ++ [y1], trivial, by rw [hN']; exact T8, by rw [hN', flat_append, flat_one]; exact ownsRow_keep (ownsRow_keep o6 T7.2 ty_str) K8 ty_str, (K6.trans T7.2).trans K8, hZ, by omega, Nat.le_refl _, by rw [hN']; omega⟩
        | false =>
          have PS := fun (v : World) (x : Value) (T' : Tq W v R ta tc i l x L (q + 1) al S) => q_pass T' ⟨#[44]⟩ (by rw [toList_byte]; simp) false (by rw [toList_byte]; exact hc)
          simp only [Bool.false_eq_true, if_false] at PS
          obtain ⟨b, hsc⟩ : ∃ b, ((nextT L (q + 1)).2.1.toList == [59]) = b := ⟨_, rfl⟩
          have PE := fun (v : World) (x : Value) (T' : Tq W v R ta tc i l x L (q + 1) al S) => q_pass T' ⟨#[59]⟩ (by rw [toList_byte]; simp) b (by rw [toList_byte]; exact hsc)
          have hZ' := (nmG_last hL (f := f) (out := out) (al := al) hb hc).symm.trans hZ
          rw [hsc] at hZ'
          generalize (nextT L q).2.1 = y1 at *
          have HR : Hid (Keep TY w wr ∧ (out ++ [y1], if b = true then (⟨q + 1 + 1, false, al⟩ : Rd) else ⟨q + 1, true, al⟩) = Z ∧ wr.ownsRow w.heap.size 9 1 (.slice a out.length c) out.length (flat encS out) ∧ Below W.heap.size W wr) := ⟨K, hZ', O, T.below⟩
          have hN' : (out ++ [y1]).length = out.length + 1 := by rw [List.length_append]; rfl
          generalize hN : out.length = N at *
          clear T O K hZ hZ' hf hg hn hL HH hb hc hq hsc
          go_wp2_with (first
            | (go_at_call 85; (with_reducible refine Calls.mono NM ?_); rintro e v1 ⟨rfl, T1, K1⟩; obtain ⟨x1, x2, x3, g1, g2, g3, hR1⟩ := T1.cells; have O1 := fun ob => ownsRow_below (ownsRow_keep HR.out.2.2.1 K1 ty_str) ((Below.refl _ v1).alloc (Nat.le_refl _) ob); have hB1 := (HR.out.1.trans K1).1)
            | (at_builtin; refine wpl_append_b (t := 23) (e := 9) Tryz.underlying23 infoStr rfl (by decide) (.tmp 17) (.tmp 19) rfl rfl _ w.heap.size (by simp; omega) _ N (flat encS out) v1.heap.size (encS y1) rfl rfl (O1 _) (BoxC.new v1 #[.string y1] 9).isc (by simp [encS, Value.oneCell']) m1 m2 ?_; intro a6 c6 v6 o6 g6; have hWw : W.heap.size ≤ w.heap.size := HW.out; have b6 : Below W.heap.size W v6 := (T1.below.alloc T1.below.size (.cells #[.string y1] 9)).grown g6 (Nat.le_trans T1.below.size (by simp)) (fun k hk => Nat.le_trans hWw ((O1 (.cells #[.string y1] 9)).lt k hk).1); have T6 := (T1.more ((Below.refl _ v1).alloc (Nat.le_refl _) (.cells #[.string y1] 9))).keepU (Keep.grown_type (X := TS) (O1 (.cells #[.string y1] 9)) rfl g6) b6 ts_not.1 ts_not.2.1 ts_not.2.2.1 ts_not.2.2.2.1 ts_not.2.2.2.2; have K6 := ((HR.out.1.trans K1).alloc (.cells #[.string y1] 9)).grown_new (O1 (.cells #[.string y1] 9)) (Nat.le_refl _) g6; obtain ⟨x61, x62, x63, g61, g62, g63, hR6⟩ := T6.cells; have T7 := T6.setO (.slice a6 (N + 1) c6))
            | (go_at_call 53; (with_reducible refine Calls.mono (PS _ _ T7.1) ?_); rintro e v8 ⟨rfl, T8, K8⟩)
            | (go_at_call 53; (with_reducible refine Calls.mono (PE _ _ T8) ?_); rintro e v9 ⟨rfl, T9, K9⟩))
          go_ret
          obtain ⟨K, rfl, -, -⟩ := HR.out
          cases b with
          | true => exact ⟨rfl, ⟨a6, N + 1, c6, T9, fun _ => ⟨hN'.symm, by rw [flat_append, flat_one]; exact ownsRow_keep (ownsRow_keep (ownsRow_keep o6 T7.2 ty_str) K8 ty_str) K9 ty_str⟩⟩, ((K6.trans T7.2).trans K8).trans K9⟩
          | false => exact ⟨rfl, ⟨a6, N + 1, c6, T9, fun q => absurd q (by simp)⟩, ((K6.trans T7.2).trans K8).trans K9⟩
end
end Go.Proofs.YtbcfplaalepnbaaGreatDoor
namespace Go.Proofs.YtbcfplaalepnbaaGreatDoor
open Go.RowKit Go.Lib
def TYL (T : TypeId) : Prop := TY T ∨ T = 46
theorem tyl_str : ¬ TYL 9 := by unfold TYL TY; decide
theorem Keep.tyl {w w' : World} (h : Keep TY w w') : Keep TYL w w' := h.mono fun _ q => .inl q
theorem tl_not : ¬ TL 59 ∧ ¬ TL 44 ∧ ¬ TL 66 ∧ ¬ TL 84 ∧ ¬ TL 20 := by unfold TL; decide
theorem bad_oneLet (L : List Tok) {q : Rd} (r : Rd) (hb : ((r.nameT L).2.want L 2 [61]).bad = true) (hp : ((r.nameT L).2.want L 2 [61]).pos = q.pos) : (oneLet numT L r).2.bad = true ∧ (oneLet numT L r).2.pos = q.pos := by
  unfold oneLet
  dsimp only
  have on := (on_exprI numT L 0 0 ((r.nameT L).2.want L 2 [61])).bad hb
  have on2 := (Rd.on_want L (exprI numT L 0 0 ((r.nameT L).2.want L 2 [61])).2 2 [59]).bad on.1
  exact ⟨on2.1, by rw [on2.2, on.2, hp]⟩
theorem one_noname {L : List Tok} {p : Nat} {al : List Nd} (h : nameB (nextT L p).2.1 = false) : (oneLet numT L ⟨p, false, al⟩).2.bad = true ∧ (oneLet numT L ⟨p, false, al⟩).2.pos = p :=
  bad_oneLet L (q := ⟨p, true, al⟩) _ (by rw [name_no h]; dsimp only; rw [bad_want]) (by rw [name_no h]; dsimp only; rw [bad_want])
theorem want_no {L : List Tok} (hL : Toks L) {p : Nat} {al : List Nd} {c : UInt8} (hc : kindI c.toNat = 4) (h : ((nextT L p).2.1.toList == [c]) = false) : (⟨p, false, al⟩ : Rd).want L 2 [c] = ⟨p, true, al⟩ := by
  unfold Rd.want
  rw [hL.mark rfl hc, if_neg (by rw [h]; simp)]; rfl
theorem want_yes {L : List Tok} (hL : Toks L) {p : Nat} {al : List Nd} {c : UInt8} (hc : kindI c.toNat = 4) (h : ((nextT L p).2.1.toList == [c]) = true) : (⟨p, false, al⟩ : Rd).want L 2 [c] = ⟨p + 1, false, al⟩ := by
  unfold Rd.want
  rw [hL.mark rfl hc, if_pos h]; rfl
theorem one_noeq {L : List Tok} (hL : Toks L) {p : Nat} {al : List Nd} (h : nameB (nextT L p).2.1 = true) (he : ((nextT L (p + 1)).2.1.toList == [61]) = false) : (oneLet numT L ⟨p, false, al⟩).2.bad = true ∧ (oneLet numT L ⟨p, false, al⟩).2.pos = p + 1 :=
  bad_oneLet L (q := ⟨p + 1, true, al⟩) _ (by rw [(name_yes hL h).1]; dsimp only; rw [want_no hL (by decide) he]) (by rw [(name_yes hL h).1]; dsimp only; rw [want_no hL (by decide) he])
theorem one_sum {L : List Tok} (hL : Toks L) {p : Nat} {al : List Nd} (h : nameB (nextT L p).2.1 = true) (he : ((nextT L (p + 1)).2.1.toList == [61]) = true) : oneLet numT L ⟨p, false, al⟩ = (((nextT L p).2.1, (exprI numT L 0 0 ⟨p + 1 + 1, false, al⟩).1), (exprI numT L 0 0 ⟨p + 1 + 1, false, al⟩).2.want L 2 [59]) := by
  unfold oneLet
  rw [(name_yes hL h).1]
  dsimp only
  rw [want_yes hL (by decide) he]
section
variable {W w w' : World} {R : Nat} {ta : Option Addr} {tc : Nat} {i l o : Value} {L : List Tok} {p : Nat} {al : List Nd} {S : List It}
def AnsLet (B : Nat) (W w : World) (R : Nat) (ta : Option Addr) (tc : Nat) (i o : Value) (L : List Tok) (ls : List (ByteArray × Int)) (Z : (ByteArray × Int) × Rd) (e : Ending) (w' : World) : Prop :=
  e = .returned (.bool (!Z.2.bad)) ∧ (∃ a n c al' S', Tq W w' R ta tc i (.slice a n c) o L Z.2.pos al' S' ∧ (Z.2.bad = false → al' = Z.2.all ∧ S' = [] ∧ n = ls.length + 1 ∧ w'.ownsRow B 46 2 (.slice a n c) n (flat encL (ls ++ [Z.1])))) ∧ Keep TYL w w'
theorem ansLet_bad {B : Nat} {ls : List (ByteArray × Int)} {Z : (ByteArray × Int) × Rd} {q n c : Nat} {a : Option Addr} {al' : List Nd} (hb : Z.2.bad = true) (hp : Z.2.pos = q) (T : Tq W w' R ta tc i (.slice a n c) o L q al' S) (K : Keep TYL w w') : AnsLet B W w R ta tc i o L ls Z (.returned (.bool false)) w' := by
  unfold AnsLet
  rw [hb, hp]
  exact ⟨rfl, ⟨a, n, c, al', S, T, fun q => absurd q (by simp)⟩, K⟩
set_option maxHeartbeats 16000000 in
theorem q_let {B : Nat} {a : Option Addr} {c : Nat} {ls : List (ByteArray × Int)} (h : Tq W w R ta tc i (.slice a ls.length c) o L p al []) (hL : Toks L) (he : ErrV W) (hB : W.heap.size ≤ B) (hBw : B ≤ w.heap.size) (O : w.ownsRow B 46 2 (.slice a ls.length c) ls.length (flat encL ls)) (hc : al.length + 2 * (L.length - p) ≤ 20000) (hl : ls.length ≤ 5000) :
    Calls Tryz.prog 86 #[.pointer (some ⟨R, 0, none⟩)] w (AnsLet B W w R ta tc i o L ls (oneLet numT L ⟨p, false, al⟩)) := by
  have HH : Hid (Tq W w R ta tc i (.slice a ls.length c) o L p al [] ∧ w.ownsRow B 46 2 (.slice a ls.length c) ls.length (flat encL ls)) := ⟨h, O⟩
  cases hb : nameB (nextT L p).2.1 with
  | false =>
    have NM := q_name h hL false hb
    simp only [Bool.false_eq_true, if_false] at NM
    obtain ⟨z1, z2⟩ := one_noname (al := al) hb
    have HR : Hid _ := And.intro z1 z2
    generalize (nextT L p).2.1 = y1 at *
    clear h hL he hB O hc hl hb z1 z2
    go_enter Tryz.func86, Tryz.ntmps86
    go_wp2_with (go_at_call 85; (with_reducible refine Calls.mono NM ?_); rintro e w1 ⟨rfl, T1, K1⟩)
    go_ret
    exact ansLet_bad HR.out.1 HR.out.2 T1 K1.tyl
  | true =>
    have NM := q_name h hL true hb
    simp only [if_true] at NM
    cases hq : ((nextT L (p + 1)).2.1.toList == [61]) with
    | false =>
      have PS := fun (v : World) (T' : Tq W v R ta tc i (.slice a ls.length c) o L (p + 1) al []) => q_pass T' ⟨#[61]⟩ (by rw [toList_byte]; simp) false (by rw [toList_byte]; exact hq)
      simp only [Bool.false_eq_true, if_false] at PS
      obtain ⟨z1, z2⟩ := one_noeq hL (al := al) hb hq
      have HR : Hid _ := And.intro z1 z2
      generalize (nextT L p).2.1 = y1 at *
      clear h hL he hB O hc hl hb z1 z2 hq
      go_enter Tryz.func86, Tryz.ntmps86
      go_wp2_with (first
        | (go_at_call 85; (with_reducible refine Calls.mono NM ?_); rintro e w1 ⟨rfl, T1, K1⟩)
        | (go_at_call 53; (with_reducible refine Calls.mono (PS _ T1) ?_); rintro e w2 ⟨rfl, T2, K2⟩))
      go_ret
      exact ansLet_bad HR.out.1 HR.out.2 T2 (K1.trans K2).tyl
    | true =>
      have PS := fun (v : World) (T' : Tq W v R ta tc i (.slice a ls.length c) o L (p + 1) al []) => q_pass T' ⟨#[61]⟩ (by rw [toList_byte]; simp) true (by rw [toList_byte]; exact hq)
      simp only [if_true] at PS
      rw [one_sum hL hb hq]
      obtain ⟨Y, hY⟩ : ∃ Y, exprI numT L 0 0 ⟨p + 1 + 1, false, al⟩ = Y := ⟨_, rfl⟩
      have SM := fun (v : World) (T' : Tq W v R ta tc i (.slice a ls.length c) o L (p + 1 + 1) al []) => q_sum T' hL he (by omega) hY
      rw [hY]
      unfold AnsS at SM
      cases hYb : Y.2.bad with
      | true =>
        have hw : Y.2.want L 2 [59] = Y.2 := by
          obtain ⟨Y1, Y2, Y3, Y4⟩ := Y
          dsimp only at hYb
          subst hYb
          exact bad_want L _ _ _ _
        rw [hw]
        rw [hYb] at SM
        have HR : Hid (Y.2.bad = true) := hYb
        generalize (nextT L p).2.1 = y1 at *
        clear h hL he hB O hc hl hb hq hY hw
        go_enter Tryz.func86, Tryz.ntmps86
        go_wp2_with (first
          | (go_at_call 85; (with_reducible refine Calls.mono NM ?_); rintro e w1 ⟨rfl, T1, K1⟩)
          | (go_at_call 53; (with_reducible refine Calls.mono (PS _ T1) ?_); rintro e w2 ⟨rfl, T2, K2⟩)
          | (go_at_call 115; (with_reducible refine Calls.mono (SM _ T2) ?_); rintro e w3 ⟨rfl, ⟨al3, S3, T3, -⟩, K3⟩))
        go_ret
        exact ansLet_bad HR.out rfl T3 ((K1.trans K2).trans K3).tyl
      | false =>
        rw [hYb] at SM
        obtain ⟨b, hsc⟩ : ∃ b, ((nextT L Y.2.pos).2.1.toList == [59]) = b := ⟨_, rfl⟩
        have PE := fun (v : World) (x : Value) (T' : Tq W v R ta tc i x o L Y.2.pos Y.2.all []) => q_pass T' ⟨#[59]⟩ (by rw [toList_byte]; simp) b (by rw [toList_byte]; exact hsc)
        have hw : Y.2.want L 2 [59] = if b = true then ⟨Y.2.pos + 1, false, Y.2.all⟩ else ⟨Y.2.pos, true, Y.2.all⟩ := by
          rw [← rd_eta hYb]
          dsimp only
          cases b with
          | true => rw [want_yes hL (by decide) hsc]; rfl
          | false => rw [want_no hL (by decide) hsc]; rfl
        generalize Y.2.want L 2 [59] = r2 at *
        have HQ : Hid (r2 = if b = true then ⟨Y.2.pos + 1, false, Y.2.all⟩ else ⟨Y.2.pos, true, Y.2.all⟩) := hw
        have m1 : ls.length + 1 ≤ maxLen := by unfold maxLen; omega
        have m2 : (ls.length + 1) * 24 ≤ 140737488355328 := by omega
        generalize (nextT L p).2.1 = y1 at *
        generalize Y.1 = root at *
        generalize hN : ls.length = N at *
        have HW : Hid (W.heap.size ≤ B ∧ B ≤ w.heap.size) := ⟨hB, hBw⟩
        clear h hL he hB hBw O hc hl hb hq hY hw hsc
        go_enter Tryz.func86, Tryz.ntmps86
        go_wp2_with (first
          | (go_at_call 85; (with_reducible refine Calls.mono NM ?_); rintro e w1 ⟨rfl, T1, K1⟩)
          | (go_at_call 53; (with_reducible refine Calls.mono (PS _ T1) ?_); rintro e w2 ⟨rfl, T2, K2⟩)
          | (go_at_call 115; (with_reducible refine Calls.mono (SM _ T2) ?_); rintro e w3 ⟨rfl, ⟨al3, S3, T3, h3⟩, K3⟩; obtain ⟨rfl, rfl⟩ := h3 trivial; obtain ⟨x1, x2, x3, g1, g2, g3, hR1⟩ := T3.cells; have KA := (K1.trans K2).trans K3; have O3 := fun ob => ownsRow_below (ownsRow_keep HH.out.2 KA ty_let) ((Below.refl _ w3).alloc (Nat.le_refl _) ob); have hB3 : B ≤ w3.heap.size := Nat.le_trans HW.out.2 KA.1)
          | (at_builtin; refine wpl_append_b (t := 24) (e := 46) Tryz.underlying24 infoLet rfl (by decide) (.tmp 30) (.tmp 34) rfl rfl _ B (by simp; omega) _ N (flat encL ls) w3.heap.size (encL (y1, root)) rfl rfl (O3 _) (BoxC.new w3 #[.string y1, .int .i64 root] 46).isc (by simp [encL, Value.oneCell']) m1 m2 ?_; intro a6 c6 v6 o6 g6; have b6 : Below W.heap.size W v6 := (T3.below.alloc T3.below.size (.cells #[.string y1, .int .i64 root] 46)).grown g6 (Nat.le_trans T3.below.size (by simp)) (fun k hk => Nat.le_trans HW.out.1 ((O3 (.cells #[.string y1, .int .i64 root] 46)).lt k hk).1); have T6 := (T3.more ((Below.refl _ w3).alloc (Nat.le_refl _) (.cells #[.string y1, .int .i64 root] 46))).keepU (Keep.grown_type (X := TL) (O3 (.cells #[.string y1, .int .i64 root] 46)) rfl g6) b6 tl_not.1 tl_not.2.1 tl_not.2.2.1 tl_not.2.2.2.1 tl_not.2.2.2.2; have K6 : Keep TYL w v6 := ((KA.alloc (.cells #[.string y1, .int .i64 root] 46)).tyl).trans (Keep.grown_type (O3 (.cells #[.string y1, .int .i64 root] 46)) (.inr rfl) g6); obtain ⟨x61, x62, x63, g61, g62, g63, hR6⟩ := T6.cells; have T7 := T6.setL (.slice a6 (N + 1) c6))
          | (go_at_call 53; (with_reducible refine Calls.mono (PE _ _ T7.1) ?_); rintro e v8 ⟨rfl, T8, K8⟩))
        go_ret
        obtain rfl := HQ.out
        cases b with
        | true => exact ⟨rfl, ⟨a6, N + 1, c6, Y.2.all, [], T8, fun _ => ⟨rfl, rfl, by rw [hN], by rw [flat_append, flat_one]; exact ownsRow_keep (ownsRow_keep o6 T7.2 ty_let) K8 ty_let⟩⟩, (K6.trans T7.2.tyl).trans K8.tyl⟩
        | false => exact ⟨rfl, ⟨a6, N + 1, c6, Y.2.all, [], T8, fun q => absurd q (by simp)⟩, (K6.trans T7.2.tyl).trans K8.tyl⟩
end
end Go.Proofs.YtbcfplaalepnbaaGreatDoor
namespace Go.Proofs.YtbcfplaalepnbaaGreatDoor
open Go.RowKit Go.Lib
theorem lets_no {L : List Tok} (hL : Toks L) {f p : Nat} {al : List Nd} {ls : List (ByteArray × Int)} (h : ((nextT L p).2.1.toList == [108, 101, 116]) = false) : letsF numT L (f + 1) ls ⟨p, false, al⟩ = (ls, ⟨p, false, al⟩) :=
  if_neg (by rw [hL.word rfl (by decide)]; show ¬ ((nextT L p).2.1.toList == [108, 101, 116]) = true; rw [h]; simp)
theorem lets_yes {L : List Tok} (hL : Toks L) {f p : Nat} {al : List Nd} {ls : List (ByteArray × Int)} (h : ((nextT L p).2.1.toList == [108, 101, 116]) = true) : letsF numT L (f + 1) ls ⟨p, false, al⟩ = letsF numT L f (ls ++ [(oneLet numT L ⟨p + 1, false, al⟩).1]) (oneLet numT L ⟨p + 1, false, al⟩).2 :=
  if_pos (by rw [hL.word rfl (by decide)]; exact h)
theorem lets_bad (L : List Tok) (f : Nat) (ls : List (ByteArray × Int)) {r : Rd} (h : r.bad = true) : letsF numT L f ls r = (ls, r) := by
  obtain ⟨p, b, al⟩ := r
  dsimp only at h
  subst h
  cases f with
  | zero => rfl
  | succ f => exact if_neg (by rw [bad_is]; simp)
section
variable {W w w' : World} {R : Nat} {ta : Option Addr} {tc : Nat} {i l o : Value} {L : List Tok} {p : Nat} {al : List Nd} {S : List It}
def AnsLets (W w : World) (R : Nat) (ta : Option Addr) (tc : Nat) (i o : Value) (L : List Tok) (Z : List (ByteArray × Int) × Rd) (e : Ending) (w' : World) : Prop :=
  e = .returned (.bool (!Z.2.bad)) ∧ (∃ a n c al' S', Tq W w' R ta tc i (.slice a n c) o L Z.2.pos al' S' ∧ (Z.2.bad = false → al' = Z.2.all ∧ S' = [] ∧ n = Z.1.length ∧ w'.ownsRow w.heap.size 46 2 (.slice a n c) n (flat encL Z.1))) ∧ Keep TYL w w'
theorem ansLets_bad {Z : List (ByteArray × Int) × Rd} {q n c : Nat} {a : Option Addr} {al' : List Nd} (hb : Z.2.bad = true) (hp : Z.2.pos = q) (T : Tq W w' R ta tc i (.slice a n c) o L q al' S) (K : Keep TYL w w') : AnsLets W w R ta tc i o L Z (.returned (.bool false)) w' := by
  unfold AnsLets
  rw [hb, hp]
  exact ⟨rfl, ⟨a, n, c, al', S, T, fun q => absurd q (by simp)⟩, K⟩
set_option maxHeartbeats 16000000 in
theorem q_lets (h : Tq W w R ta tc i (.slice none 0 0) o L p al []) (hL : Toks L) (he : ErrV W) (hc : al.length + 2 * (L.length - p) ≤ 20000) :
    Calls Tryz.prog 55 #[.pointer (some ⟨R, 0, none⟩)] w (AnsLets W w R ta tc i o L (letsF numT L (L.length + 1) [] ⟨p, false, al⟩)) := by
  obtain ⟨Z, hZ⟩ : ∃ Z, letsF numT L (L.length + 1) [] ⟨p, false, al⟩ = Z := ⟨_, rfl⟩
  rw [hZ]
  have HH : Hid (Tq W w R ta tc i (.slice none 0 0) o L p al [] ∧ Toks L ∧ letsF numT L (L.length + 1) [] ⟨p, false, al⟩ = Z ∧ w.ownsRow w.heap.size 46 2 (.slice none 0 0) 0 [] ∧ al.length + 2 * (L.length - p) ≤ 20000 ∧ ErrV W) := ⟨h, hL, hZ, World.ownsRow_nil _ _ _ _, hc, he⟩
  have HW : Hid (W.heap.size ≤ w.heap.size) := h.below.size
  clear h hL hZ hc he
  go_enter Tryz.func55, Tryz.ntmps55
  go_wp2
  go_loopg [3] (L.length - p + 1) (fun g s3 v => ∃ (a : Option Addr) (c f q : Nat) (ls : List (ByteArray × Int)) (al : List Nd), s3 = s3 ∧ Tq W v R ta tc i (.slice a ls.length c) o L q al [] ∧ v.ownsRow w.heap.size 46 2 (.slice a ls.length c) ls.length (flat encL ls) ∧ Keep TYL w v ∧ letsF numT L f ls ⟨q, false, al⟩ = Z ∧ L.length - q < f ∧ L.length - q + 1 ≤ g ∧ ls.length + (L.length - q) ≤ 5000 ∧ al.length + 2 * (L.length - q) ≤ 20000)
  case atStart => exact ⟨none, 0, L.length + 1, p, [], al, rfl, HH.out.1, HH.out.2.2.2.1, Keep.refl TYL w, HH.out.2.2.1, by omega, Nat.le_refl _, by have := HH.out.2.1.len; show 0 + _ ≤ _; omega, HH.out.2.2.2.2.1⟩
  case round =>
    obtain ⟨a, c, f, q, ls, al, -, T, O, K, hZ, hf, hg, hn, hc⟩ := hrel
    have hL := HH.out.2.1
    have he := HH.out.2.2.2.2.2
    cases f with
    | zero => omega
    | succ f =>
      cases hb : ((nextT L q).2.1.toList == [108, 101, 116]) with
      | false =>
        have ex : (⟨#[108, 101, 116]⟩ : ByteArray).toList = [108, 101, 116] := by rw [ByteArray.toList_eq]
        have PS := q_pass T ⟨#[108, 101, 116]⟩ (by rw [ex]; simp) false (by rw [ex]; exact hb)
        simp only [Bool.false_eq_true, if_false] at PS
        rw [lets_no hL hb] at hZ
        subst hZ
        have HR : Hid (Keep TYL w wr ∧ wr.ownsRow w.heap.size 46 2 (.slice a ls.length c) ls.length (flat encL ls)) := ⟨K, O⟩
        clear T O K hf hg hn hL HH hb hc he
        go_wp2_with (go_at_call 53; (with_reducible refine Calls.mono PS ?_); rintro e w1 ⟨rfl, T1, K1⟩)
        go_ret
        exact ⟨rfl, ⟨a, ls.length, c, al, [], T1, fun _ => ⟨rfl, rfl, rfl, ownsRow_keep HR.out.2 K1 ty_let⟩⟩, HR.out.1.trans K1.tyl⟩
      | true =>
        have ex : (⟨#[108, 101, 116]⟩ : ByteArray).toList = [108, 101, 116] := by rw [ByteArray.toList_eq]
        have hp := next_lt (x := ⟨#[108, 101, 116]⟩) (by rw [ex]; exact hb) (by rw [ex]; simp)
        have PS := q_pass T ⟨#[108, 101, 116]⟩ (by rw [ex]; simp) true (by rw [ex]; exact hb)
        simp only [if_true] at PS
        rw [lets_yes hL hb] at hZ
        have O2 := fun (v : World) (k : Keep TY wr v) => ownsRow_keep O k ty_let
        have LT := fun (v : World) (T' : Tq W v R ta tc i (.slice a ls.length c) o L (q + 1) al []) (k : Keep TY wr v) => q_let T' hL he HW.out (Nat.le_trans K.1 k.1) (O2 v k) (by omega) (by omega)
        have on := (Rd.on_want L (exprI numT L 0 0 (((⟨q + 1, false, al⟩ : Rd).nameT L).2.want L 2 [61])).2 2 [59]).pos
        have on2 := (on_exprI numT L 0 0 (((⟨q + 1, false, al⟩ : Rd).nameT L).2.want L 2 [61])).pos
        have on3 := (Rd.on_want L ((⟨q + 1, false, al⟩ : Rd).nameT L).2 2 [61]).pos
        have on4 := (Rd.on_name L (⟨q + 1, false, al⟩ : Rd)).pos
        have on5 : q + 1 ≤ (oneLet numT L ⟨q + 1, false, al⟩).2.pos := Nat.le_trans (Nat.le_trans (Nat.le_trans on4 on3) on2) on
        have cn := cnt_let L ⟨q + 1, false, al⟩
        unfold cnt at cn
        dsimp only at cn
        clear on on2 on3 on4
        generalize oneLet numT L ⟨q + 1, false, al⟩ = Y at *
        unfold AnsLet at LT
        cases hYb : Y.2.bad with
        | true =>
          rw [lets_bad L f _ hYb] at hZ
          subst hZ
          rw [hYb] at LT
          have HR : Hid (Keep TYL w wr ∧ Y.2.bad = true) := ⟨K, hYb⟩
          clear T O K hf hg hn hL HH hb hc he O2 hp cn on5
          go_wp2_with (first
            | (go_at_call 53; (with_reducible refine Calls.mono PS ?_); rintro e w1 ⟨rfl, T1, K1⟩)
            | (go_at_call 86; (with_reducible refine Calls.mono (LT _ T1 K1) ?_); rintro e w2 ⟨rfl, ⟨a2, n2, c2, al2, S2, T2, -⟩, K2⟩))
          go_ret
          exact ansLets_bad HR.out.2 rfl T2 ((HR.out.1.trans K1.tyl).trans K2)
        | false =>
          rw [hYb] at LT
          rw [← rd_eta hYb] at hZ
          have HR : Hid (Keep TYL w wr ∧ letsF numT L f (ls ++ [Y.1]) ⟨Y.2.pos, false, Y.2.all⟩ = Z ∧ L.length - q < f + 1 ∧ L.length - q + 1 ≤ gk ∧ ls.length + (L.length - q) ≤ 5000 ∧ q < L.length ∧ q + 1 ≤ Y.2.pos ∧ Y.2.all.length + 2 * (L.length - Y.2.pos) ≤ 20000) := ⟨K, hZ, hf, hg, hn, hp, on5, by omega⟩
          have hN' : (ls ++ [Y.1]).length = ls.length + 1 := by rw [List.length_append]; rfl
          generalize hN : ls.length = N at *
          clear T O K hZ hf hg hn hL HH hb hc he O2 hp cn on5
          go_wp2_with (first
            | (go_at_call 53; (with_reducible refine Calls.mono PS ?_); rintro e w1 ⟨rfl, T1, K1⟩)
            | (go_at_call 86; (with_reducible refine Calls.mono (LT _ T1 K1) ?_); rintro e w2 ⟨rfl, ⟨a2, n2, c2, al2, S2, T2, h2⟩, K2⟩; obtain ⟨rfl, rfl, rfl, o2⟩ := h2 trivial))
          obtain ⟨K, hZ, hf, hg, hn, hp, on5, hc⟩ := HR.out
          go_roundg (L.length - Y.2.pos + 1)
          case measure => omega
          case rel => exact ⟨a2, c2, f, Y.2.pos, ls ++ [Y.1], Y.2.all, trivial, by rw [hN']; exact T2, by rw [hN']; exact o2, (K.trans K1.tyl).trans K2, hZ, by omega, Nat.le_refl _, by rw [hN']; omega, hc⟩
end
end Go.Proofs.YtbcfplaalepnbaaGreatDoor
namespace Go.Proofs.YtbcfplaalepnbaaGreatDoor
open Go.RowKit Go.Lib
def st0 (L : List Tok) : Rd := startR.want L 0 [105, 110]
def st1 (L : List Tok) : Rd := (namesI L (st0 L)).2
def st2 (L : List Tok) : Rd := (letsF numT L (L.length + 1) [] (st1 L)).2
def st3 (L : List Tok) : Rd := (st2 L).want L 0 [111, 117, 116]
def st4 (L : List Tok) : Rd := (namesI L (st3 L)).2
theorem prog_rd (L : List Tok) : (progI numT L).2 = if (st4 L).pos < L.length then (st4 L).wrong else st4 L := rfl
theorem st_bad4 {L : List Tok} (h : (st4 L).bad = true) : (progI numT L).2.bad = true ∧ (progI numT L).2.pos = (st4 L).pos := by
  rw [prog_rd]
  split
  · exact ⟨rfl, rfl⟩
  · exact ⟨h, rfl⟩
theorem st_bad3 {L : List Tok} (h : (st3 L).bad = true) : (progI numT L).2.bad = true ∧ (progI numT L).2.pos = (st3 L).pos := by
  have on := (on_names L (st3 L)).1.bad h
  have := st_bad4 (L := L) on.1
  exact ⟨this.1, this.2.trans on.2⟩
theorem st_bad2 {L : List Tok} (h : (st2 L).bad = true) : (progI numT L).2.bad = true ∧ (progI numT L).2.pos = (st2 L).pos := by
  have on := (Rd.on_want L (st2 L) 0 [111, 117, 116]).bad h
  have := st_bad3 (L := L) on.1
  exact ⟨this.1, this.2.trans on.2⟩
theorem st_bad1 {L : List Tok} (h : (st1 L).bad = true) : (progI numT L).2.bad = true ∧ (progI numT L).2.pos = (st1 L).pos := by
  have on := (on_lets numT L (L.length + 1) [] (st1 L)).bad h
  have := st_bad2 (L := L) on.1
  exact ⟨this.1, this.2.trans on.2⟩
theorem st_bad0 {L : List Tok} (h : (st0 L).bad = true) : (progI numT L).2.bad = true ∧ (progI numT L).2.pos = (st0 L).pos := by
  have on := (on_names L (st0 L)).1.bad h
  have := st_bad1 (L := L) on.1
  exact ⟨this.1, this.2.trans on.2⟩
theorem wantw_no {L : List Tok} (hL : Toks L) {p : Nat} {al : List Nd} {c : UInt8} {x : List UInt8} (hc : c.toNat < 128 ∧ kindI c.toNat = 1) (h : ((nextT L p).2.1.toList == c :: x) = false) : (⟨p, false, al⟩ : Rd).want L 0 (c :: x) = ⟨p, true, al⟩ := by
  unfold Rd.want
  rw [hL.word rfl hc, if_neg (by rw [h]; simp)]; rfl
theorem wantw_yes {L : List Tok} (hL : Toks L) {p : Nat} {al : List Nd} {c : UInt8} {x : List UInt8} (hc : c.toNat < 128 ∧ kindI c.toNat = 1) (h : ((nextT L p).2.1.toList == c :: x) = true) : (⟨p, false, al⟩ : Rd).want L 0 (c :: x) = ⟨p + 1, false, al⟩ := by
  unfold Rd.want
  rw [hL.word rfl hc, if_pos h]; rfl
theorem ownsRow_low {w : World} {B C : Nat} {T : TypeId} {k : Nat} {v : Value} {n : Nat} {cs : List Value} (h : w.ownsRow B T k v n cs) (hC : C ≤ B) : w.ownsRow C T k v n cs := by
  refine ⟨h.1, ?_⟩
  rcases h.2 with q | ⟨g, cap, cur, hv, hb, r⟩
  · exact .inl q
  · exact .inr ⟨g, cap, cur, hv, Nat.le_trans hC hb, r⟩
section
variable {W w w' : World} {R : Nat} {ta : Option Addr} {tc : Nat} {L : List Tok}
def AnsPr (W w : World) (R : Nat) (ta : Option Addr) (tc : Nat) (L : List Tok) (Z : Pg × Rd) (e : Ending) (w' : World) : Prop :=
  e = .returned (.bool (!Z.2.bad)) ∧ (∃ ia il ic la ll lc oa ol oc al S, Tq W w' R ta tc (.slice ia il ic) (.slice la ll lc) (.slice oa ol oc) L Z.2.pos al S ∧
    (Z.2.bad = false → al = Z.1.all ∧ il = Z.1.ins.length ∧ ll = Z.1.lets.length ∧ ol = Z.1.outs.length ∧ w'.ownsRow w.heap.size 9 1 (.slice ia il ic) il (flat encS Z.1.ins) ∧ w'.ownsRow w.heap.size 46 2 (.slice la ll lc) ll (flat encL Z.1.lets) ∧ w'.ownsRow w.heap.size 9 1 (.slice oa ol oc) ol (flat encS Z.1.outs))) ∧ Keep TYL w w'
theorem ansPr_bad {ia la oa : Option Addr} {il ic ll lc ol oc q : Nat} {al : List Nd} {S : List It} {Z : Pg × Rd} (hb : Z.2.bad = true) (hp : Z.2.pos = q) (T : Tq W w' R ta tc (.slice ia il ic) (.slice la ll lc) (.slice oa ol oc) L q al S) (K : Keep TYL w w') : AnsPr W w R ta tc L Z (.returned (.bool false)) w' := by
  unfold AnsPr
  rw [hb, hp]
  exact ⟨rfl, ⟨ia, il, ic, la, ll, lc, oa, ol, oc, al, S, T, fun q => absurd q (by simp)⟩, K⟩
theorem Tq.leftV {i l o : Value} {p : Nat} {al : List Nd} {S : List It} (h : Tq W w R ta tc i l o L p al S) : ∃ la lc, w.cell? ⟨R, 0, none⟩ = some (.slice la (L.length - p) lc) := by
  obtain ⟨la, lc, a, c, sa, sc, hW, B, hN, hS, hT⟩ := h
  exact ⟨la, lc, (B.cell 0).1⟩
set_option maxHeartbeats 16000000 in
theorem q_program (h : Tq W w R ta tc (.slice none 0 0) (.slice none 0 0) (.slice none 0 0) L 0 [] []) (hL : Toks L) (he : ErrV W) :
    Calls Tryz.prog 26 #[.pointer (some ⟨R, 0, none⟩)] w (AnsPr W w R ta tc L (progI numT L)) := by
  have hn4 := hL.len
  have ein : (⟨#[105, 110]⟩ : ByteArray).toList = [105, 110] := by rw [ByteArray.toList_eq]
  have eou : (⟨#[111, 117, 116]⟩ : ByteArray).toList = [111, 117, 116] := by rw [ByteArray.toList_eq]
  have hZ0 := prog_rd L
  cases hi : ((nextT L 0).2.1.toList == [105, 110]) with
  | false =>
    have P0 := q_pass h ⟨#[105, 110]⟩ (by rw [ein]; simp) false (by rw [ein]; exact hi)
    simp only [Bool.false_eq_true, if_false] at P0
    have z0 : st0 L = ⟨0, true, []⟩ := wantw_no hL (by decide) hi
    obtain ⟨z1, z2⟩ := st_bad0 (L := L) (by rw [z0])
    rw [z0] at z2
    have HR : Hid _ := And.intro z1 z2
    generalize progI numT L = Z at *
    clear h hL he hi z0 z1 z2 hZ0 ein eou hn4
    go_enter Tryz.func26, Tryz.ntmps26
    go_wp2_with (first
      | (go_at_call 53; (with_reducible refine Calls.mono P0 ?_); rintro e w1 ⟨rfl, T1, K1⟩))
    go_ret
    exact ansPr_bad HR.out.1 HR.out.2 T1 K1.tyl
  | true =>
    have P0 := q_pass h ⟨#[105, 110]⟩ (by rw [ein]; simp) true (by rw [ein]; exact hi)
    simp only [if_true] at P0
    have z0 : st0 L = ⟨1, false, []⟩ := wantw_yes hL (by decide) hi
    have N1 := fun (v : World) (T' : Tq W v R ta tc (.slice none 0 0) (.slice none 0 0) (.slice none 0 0) L 1 [] []) => q_names1 T' hL
    have e1 : st1 L = (namesI L ⟨1, false, []⟩).2 := by unfold st1; rw [z0]
    have ei : (progI numT L).1.ins = (namesI L ⟨1, false, []⟩).1 := by show (namesI L (st0 L)).1 = _; rw [z0]
    have a1 : (namesI L ⟨1, false, []⟩).2.all = [] := (on_names L ⟨1, false, []⟩).2
    generalize namesI L ⟨1, false, []⟩ = Y1 at *
    unfold AnsN1 at N1
    cases hb1 : Y1.2.bad with
    | true =>
      rw [hb1] at N1
      obtain ⟨z1, z2⟩ := st_bad1 (L := L) (by rw [e1]; exact hb1)
      rw [e1] at z2
      have HR : Hid _ := And.intro z1 z2
      generalize progI numT L = Z at *
      clear h hL he hi z0 z1 z2 hZ0 ein eou hn4 a1 ei e1 hb1
      go_enter Tryz.func26, Tryz.ntmps26
      go_wp2_with (first
        | (go_at_call 53; (with_reducible refine Calls.mono P0 ?_); rintro e w1 ⟨rfl, T1, K1⟩)
        | (go_at_call 54; (with_reducible refine Calls.mono (N1 _ T1) ?_); rintro e w2 ⟨rfl, ⟨ia, il, ic, T2, -⟩, K2⟩))
      go_ret
      exact ansPr_bad HR.out.1 HR.out.2 T2 ((K1.trans K2).tyl)
    | false =>
      rw [hb1] at N1
      have y1 : Y1.2 = ⟨Y1.2.pos, false, []⟩ := by rw [← a1, rd_eta hb1]
      have LT := fun (v : World) (x : Value) (T' : Tq W v R ta tc x (.slice none 0 0) (.slice none 0 0) L Y1.2.pos [] []) => q_lets T' hL he (by show 0 + _ ≤ _; omega)
      have e2 : st2 L = (letsF numT L (L.length + 1) [] ⟨Y1.2.pos, false, []⟩).2 := by unfold st2; rw [e1, ← y1]
      have el : (progI numT L).1.lets = (letsF numT L (L.length + 1) [] ⟨Y1.2.pos, false, []⟩).1 := by show (letsF numT L (L.length + 1) [] (st1 L)).1 = _; rw [e1, ← y1]
      generalize letsF numT L (L.length + 1) [] ⟨Y1.2.pos, false, []⟩ = Y2 at *
      unfold AnsLets at LT
      cases hb2 : Y2.2.bad with
      | true =>
        rw [hb2] at LT
        obtain ⟨z1, z2⟩ := st_bad2 (L := L) (by rw [e2]; exact hb2)
        rw [e2] at z2
        have HR : Hid _ := And.intro z1 z2
        generalize progI numT L = Z at *
        clear h hL he hi z0 z1 z2 hZ0 ein eou hn4 a1 ei e1 hb1 e2 el hb2 y1
        go_enter Tryz.func26, Tryz.ntmps26
        go_wp2_with (first
          | (go_at_call 53; (with_reducible refine Calls.mono P0 ?_); rintro e w1 ⟨rfl, T1, K1⟩)
          | (go_at_call 54; (with_reducible refine Calls.mono (N1 _ T1) ?_); rintro e w2 ⟨rfl, ⟨ia, il, ic, T2, h2⟩, K2⟩; obtain ⟨rfl, o2⟩ := h2 trivial)
          | (go_at_call 55; (with_reducible refine Calls.mono (LT _ _ T2) ?_); rintro e w3 ⟨rfl, ⟨la, ll, lc, al3, S3, T3, -⟩, K3⟩))
        go_ret
        exact ansPr_bad HR.out.1 HR.out.2 T3 ((K1.trans K2).tyl.trans K3)
      | false =>
        rw [hb2] at LT
        have y2 := rd_eta hb2
        cases ho : ((nextT L Y2.2.pos).2.1.toList == [111, 117, 116]) with
        | false =>
          have PO := fun (v : World) (x y : Value) (T' : Tq W v R ta tc x y (.slice none 0 0) L Y2.2.pos Y2.2.all []) => q_pass T' ⟨#[111, 117, 116]⟩ (by rw [eou]; simp) false (by rw [eou]; exact ho)
          simp only [Bool.false_eq_true, if_false] at PO
          have z3 : st3 L = ⟨Y2.2.pos, true, Y2.2.all⟩ := by unfold st3; rw [e2, ← y2]; exact wantw_no hL (by decide) ho
          obtain ⟨z1, z2⟩ := st_bad3 (L := L) (by rw [z3])
          rw [z3] at z2
          have HR : Hid _ := And.intro z1 z2
          generalize progI numT L = Z at *
          clear h hL he hi z0 z1 z2 hZ0 ein eou hn4 a1 ei e1 hb1 e2 el hb2 y1 y2 z3 ho
          go_enter Tryz.func26, Tryz.ntmps26
          go_wp2_with (first
            | (go_at_call 53; (with_reducible refine Calls.mono P0 ?_); rintro e w1 ⟨rfl, T1, K1⟩)
            | (go_at_call 54; (with_reducible refine Calls.mono (N1 _ T1) ?_); rintro e w2 ⟨rfl, ⟨ia, il, ic, T2, h2⟩, K2⟩; obtain ⟨rfl, o2⟩ := h2 trivial)
            | (go_at_call 55; (with_reducible refine Calls.mono (LT _ _ T2) ?_); rintro e w3 ⟨rfl, ⟨la, ll, lc, al3, S3, T3, h3⟩, K3⟩; obtain ⟨rfl, rfl, rfl, o3⟩ := h3 trivial)
            | (go_at_call 53; (with_reducible refine Calls.mono (PO _ _ _ T3) ?_); rintro e w4 ⟨rfl, T4, K4⟩))
          go_ret
          exact ansPr_bad HR.out.1 HR.out.2 T4 (((K1.trans K2).tyl.trans K3).trans K4.tyl)
        | true =>
          have PO := fun (v : World) (x y : Value) (T' : Tq W v R ta tc x y (.slice none 0 0) L Y2.2.pos Y2.2.all []) => q_pass T' ⟨#[111, 117, 116]⟩ (by rw [eou]; simp) true (by rw [eou]; exact ho)
          simp only [if_true] at PO
          have z3 : st3 L = ⟨Y2.2.pos + 1, false, Y2.2.all⟩ := by unfold st3; rw [e2, ← y2]; exact wantw_yes hL (by decide) ho
          have N3 := fun (v : World) (x y : Value) (T' : Tq W v R ta tc x y (.slice none 0 0) L (Y2.2.pos + 1) Y2.2.all []) => q_names3 T' hL
          have e4 : st4 L = (namesI L ⟨Y2.2.pos + 1, false, Y2.2.all⟩).2 := by unfold st4; rw [z3]
          have eo : (progI numT L).1.outs = (namesI L ⟨Y2.2.pos + 1, false, Y2.2.all⟩).1 := by show (namesI L (st3 L)).1 = _; rw [z3]
          have ea : (progI numT L).1.all = Y2.2.all := by show (namesI L (st3 L)).2.all = _; rw [z3]; exact (on_names L ⟨Y2.2.pos + 1, false, Y2.2.all⟩).2
          generalize namesI L ⟨Y2.2.pos + 1, false, Y2.2.all⟩ = Y4 at *
          unfold AnsN3 at N3
          cases hb4 : Y4.2.bad with
          | true =>
            rw [hb4] at N3
            obtain ⟨z1, z2⟩ := st_bad4 (L := L) (by rw [e4]; exact hb4)
            rw [e4] at z2
            have HR : Hid _ := And.intro z1 z2
            generalize progI numT L = Z at *
            clear h hL he hi z0 z1 z2 hZ0 ein eou hn4 a1 ei e1 hb1 e2 el hb2 y1 y2 z3 ho e4 eo ea hb4
            go_enter Tryz.func26, Tryz.ntmps26
            go_wp2_with (first
              | (go_at_call 53; (with_reducible refine Calls.mono P0 ?_); rintro e w1 ⟨rfl, T1, K1⟩)
              | (go_at_call 54; (with_reducible refine Calls.mono (N1 _ T1) ?_); rintro e w2 ⟨rfl, ⟨ia, il, ic, T2, h2⟩, K2⟩; obtain ⟨rfl, o2⟩ := h2 trivial)
              | (go_at_call 55; (with_reducible refine Calls.mono (LT _ _ T2) ?_); rintro e w3 ⟨rfl, ⟨la, ll, lc, al3, S3, T3, h3⟩, K3⟩; obtain ⟨rfl, rfl, rfl, o3⟩ := h3 trivial)
              | (go_at_call 53; (with_reducible refine Calls.mono (PO _ _ _ T3) ?_); rintro e w4 ⟨rfl, T4, K4⟩)
              | (go_at_call 54; (with_reducible refine Calls.mono (N3 _ _ _ T4) ?_); rintro e w5 ⟨rfl, ⟨oa, ol, oc, T5, -⟩, K5⟩))
            go_ret
            exact ansPr_bad HR.out.1 HR.out.2 T5 ((((K1.trans K2).tyl.trans K3).trans K4.tyl).trans K5.tyl)
          | false =>
            rw [hb4] at N3
            rw [e4] at hZ0
            by_cases hlt : Y4.2.pos < L.length
            · rw [if_pos hlt] at hZ0
              have k0 : (((L.length - Y4.2.pos : Nat) : Int) == 0) = false := by rw [beq_eq_false_iff_ne]; omega
              have HR : Hid ((progI numT L).2.bad = true ∧ (progI numT L).2.pos = Y4.2.pos) := by rw [hZ0]; exact ⟨rfl, rfl⟩
              generalize progI numT L = Z at *
              generalize hM : L.length - Y4.2.pos = M at *
              clear h hL he hi z0 hZ0 ein eou hn4 a1 ei e1 hb1 e2 el hb2 y1 y2 z3 ho e4 eo ea hb4 hlt
              go_enter Tryz.func26, Tryz.ntmps26
              go_wp2_with (first
                | (go_at_call 53; (with_reducible refine Calls.mono P0 ?_); rintro e w1 ⟨rfl, T1, K1⟩)
                | (go_at_call 54; (with_reducible refine Calls.mono (N1 _ T1) ?_); rintro e w2 ⟨rfl, ⟨ia, il, ic, T2, h2⟩, K2⟩; obtain ⟨rfl, o2⟩ := h2 trivial)
                | (go_at_call 55; (with_reducible refine Calls.mono (LT _ _ T2) ?_); rintro e w3 ⟨rfl, ⟨la, ll, lc, al3, S3, T3, h3⟩, K3⟩; obtain ⟨rfl, rfl, rfl, o3⟩ := h3 trivial)
                | (go_at_call 53; (with_reducible refine Calls.mono (PO _ _ _ T3) ?_); rintro e w4 ⟨rfl, T4, K4⟩)
                | (go_at_call 54; (with_reducible refine Calls.mono (N3 _ _ _ T4) ?_); rintro e w5 ⟨rfl, ⟨oa, ol, oc, T5, h5⟩, K5⟩; obtain ⟨rfl, o5⟩ := h5 trivial; obtain ⟨xa, xc, x0⟩ := T5.leftV; rw [hM] at x0))
              go_ret
              exact ansPr_bad HR.out.1 HR.out.2 T5 ((((K1.trans K2).tyl.trans K3).trans K4.tyl).trans K5.tyl)
            · rw [if_neg hlt] at hZ0
              have k0 : ((L.length - Y4.2.pos : Nat) : Int) = 0 := by omega
              have HR : Hid ((progI numT L).2.bad = false ∧ (progI numT L).2.pos = Y4.2.pos ∧ (progI numT L).1.all = Y2.2.all ∧ (progI numT L).1.ins = Y1.1 ∧ (progI numT L).1.lets = Y2.1 ∧ (progI numT L).1.outs = Y4.1) := by rw [hZ0]; exact ⟨hb4, rfl, ea, ei, el, eo⟩
              generalize progI numT L = Z at *
              generalize hM : L.length - Y4.2.pos = M at *
              clear h hL he hi z0 hZ0 ein eou hn4 a1 ei e1 hb1 e2 el hb2 y1 y2 z3 ho e4 eo ea hb4 hlt
              go_enter Tryz.func26, Tryz.ntmps26
              go_wp2_with (first
                | (go_at_call 53; (with_reducible refine Calls.mono P0 ?_); rintro e w1 ⟨rfl, T1, K1⟩)
                | (go_at_call 54; (with_reducible refine Calls.mono (N1 _ T1) ?_); rintro e w2 ⟨rfl, ⟨ia, il, ic, T2, h2⟩, K2⟩; obtain ⟨rfl, o2⟩ := h2 trivial)
                | (go_at_call 55; (with_reducible refine Calls.mono (LT _ _ T2) ?_); rintro e w3 ⟨rfl, ⟨la, ll, lc, al3, S3, T3, h3⟩, K3⟩; obtain ⟨rfl, rfl, rfl, o3⟩ := h3 trivial)
                | (go_at_call 53; (with_reducible refine Calls.mono (PO _ _ _ T3) ?_); rintro e w4 ⟨rfl, T4, K4⟩)
                | (go_at_call 54; (with_reducible refine Calls.mono (N3 _ _ _ T4) ?_); rintro e w5 ⟨rfl, ⟨oa, ol, oc, T5, h5⟩, K5⟩; obtain ⟨rfl, o5⟩ := h5 trivial; obtain ⟨xa, xc, x0⟩ := T5.leftV; rw [hM] at x0))
              go_ret
              obtain ⟨z1, z2, z3, z4, z5, z6⟩ := HR.out
              unfold AnsPr
              rw [z1, z2, z3, z4, z5, z6]
              exact ⟨rfl, ⟨ia, _, ic, la, _, lc, oa, _, oc, _, _, T5, fun _ => ⟨rfl, rfl, rfl, rfl, ownsRow_keep (ownsRow_keep (ownsRow_keep (ownsRow_low o2 K1.1) K3 tyl_str) K4 ty_str) K5 ty_str, ownsRow_keep (ownsRow_keep (ownsRow_low o3 (K1.trans K2).1) K4 ty_let) K5 ty_let, ownsRow_low o5 (((K1.trans K2).tyl.trans K3).trans K4.tyl).1⟩⟩, (((K1.trans K2).tyl.trans K3).trans K4.tyl).trans K5.tyl⟩
end
end Go.Proofs.YtbcfplaalepnbaaGreatDoor
namespace Go.Proofs.YtbcfplaalepnbaaGreatDoor
open Go.RowKit Go.Lib
theorem prog_kinds {L : List Tok} (h : (progI numT L).2.bad = false) : ∀ x ∈ (progI numT L).1.all, 0 ≤ x.kind ∧ x.kind ≤ 7 := by
  refine prog_fields (Q := fun x => 0 ≤ x.kind ∧ x.kind ≤ 7) ?_ h
  exact ⟨fun x _ => ⟨by show (0 : Int) ≤ 0; omega, by show (0 : Int) ≤ 7; omega⟩, fun t _ _ => ⟨by show (0 : Int) ≤ 1; omega, by show (1 : Int) ≤ 7; omega⟩, fun k a b h1 h2 => ⟨by show 0 ≤ k; omega, by show k ≤ 7; omega⟩, fun a => ⟨by show (0 : Int) ≤ 6; omega, by show (6 : Int) ≤ 7; omega⟩, fun a fac t _ _ _ _ => ⟨by show (0 : Int) ≤ 7; omega, by show (7 : Int) ≤ 7; omega⟩⟩
set_option maxHeartbeats 8000000 in
theorem tree_low {w : World} {a : Option Addr} {n c : Nat} {ms : List Mn} (h : IsN w a n ms) (hn : n ≤ 100000) (hB : Behind (ms.map fun m => m.1.nd)) (hK : ∀ m ∈ ms, 0 ≤ m.1.kind ∧ m.1.kind ≤ 7) (hV : ∀ m ∈ ms, (∃ x y z, m.2.1 = .slice x y z) ∧ ∃ x y z, m.2.2 = .slice x y z) (r : Bool) (hr : (!(List.range n).any fun k => decide (60 < tallI (ms.map fun m => m.1.nd) k)) = r) :
    Calls Tryz.prog 29 #[.slice a n c] w fun e w' => e = .returned (.bool r) ∧ Below w.heap.size w w' := by
  have HT := tree_heights (c := c) h hn hB hK hV
  generalize (ms.map fun m => m.1.nd) = L at *
  have HR : Hid ((!(List.range n).any fun k => decide (60 < tallI L k)) = r ∧ n ≤ 100000) := ⟨hr, hn⟩
  clear h hn hB hK hV hr
  go_enter Tryz.func29, Tryz.ntmps29
  go_wp2_with (go_at_call 44; (with_reducible refine Calls.mono HT ?_); rintro e w2 ⟨g, rfl, o⟩)
  have CL : Hid (∀ t, t < n → w2.cell? ⟨g, t, none⟩ = some (.int .i64 (tallI L t))) := fun t ht => (o.at1 (by rw [List.getElem?_map, hts_get L ht]; rfl)).1
  have bw : Hid (Below w.heap.size w w2) := o.below
  clear HT o
  go_loopg [8] n (fun g s8 v => ∃ t : Nat, s8 = .int .i64 t ∧ t + g = n ∧ (∀ j, j < t → ¬ 60 < tallI L j) ∧ w2 = v)
  case atStart => exact ⟨0, rfl, by omega, fun j hj => absurd hj (by omega), rfl⟩
  case round =>
    obtain ⟨t, rfl, hg, hN, rfl⟩ := hrel
    have hn := HR.out.2
    rcases Nat.lt_or_ge t n with ht | ht
    · have p1 : (t : Int) < n := by omega
      have cX := CL.out t ht
      have hX : tallI L t = tallI L t := rfl
      by_cases h6 : 60 < tallI L t
      · have hr : r = false := by
          rw [← HR.out.1, Bool.not_eq_false', List.any_eq_true]
          exact ⟨t, List.mem_range.2 ht, by rw [decide_eq_true_eq]; exact h6⟩
        subst hr
        generalize tallI L t = X at *
        clear hg hN hn HR hX
        go_wp2
        go_ret
        exact ⟨rfl, bw.out⟩
      · have w1 : wrap64 ((t : Int) + 1) = (t : Int) + 1 := wrap_smalls (by omega) (by omega)
        have HN : Hid ((∀ j, j < t + 1 → ¬ 60 < tallI L j) ∧ t + 1 + (n - (t + 1)) = n ∧ n - (t + 1) < gk) := ⟨fun j hj => by
          rcases Nat.lt_or_ge j t with q | q
          · exact hN j q
          · obtain rfl : j = t := by omega
            exact h6, by clear w1; omega, by clear w1; omega⟩
        generalize tallI L t = X at *
        clear hg hN hn hX
        go_wp2
        obtain ⟨j1, j2, j3⟩ := HN.out
        go_roundg (n - (t + 1))
        case measure => exact j3
        case rel => exact ⟨t + 1, by first | rfl | (rw [w1]; rfl), j2, j1, rfl⟩
    · have p1 : ¬ (t : Int) < n := by omega
      obtain rfl : t = n := by omega
      have hr : r = true := by
        rw [← HR.out.1, Bool.not_eq_true', List.any_eq_false]
        intro k hk
        rw [decide_eq_true_eq]
        exact hN k (List.mem_range.1 hk)
      subst hr
      clear hg hN hn HR
      go_wp2
      go_ret
      exact ⟨rfl, bw.out⟩
section
variable {W w : World} {R : Nat} {ta : Option Addr} {tc : Nat} {i l o : Value} {L : List Tok} {p : Nat} {al : List Nd} {S : List It}
def plcI (s : ByteArray) (L : List Tok) (p : Nat) : Int × Int := match L[p]? with
  | some t => (t.2.2.1, t.2.2.2)
  | none => placeI s s.size
set_option maxHeartbeats 8000000 in
theorem q_place (h : Tq W w R ta tc i l o L p al S) (s : ByteArray) (hs : s.size ≤ 1000000) :
    Calls Tryz.prog 27 #[.pointer (some ⟨R, 0, none⟩), .string s] w fun e w' => e = .returned (.agg #[.int .i64 (plcI s L p).1, .int .i64 (plcI s L p).2]) ∧ Below w.heap.size w w' := by
  obtain ⟨la, lc, a, c, sa, sc, hW, B, hN, hS, hT⟩ := h
  obtain ⟨b1, bV, hz⟩ := boxes1 w #[.int .i64 0, .int .i64 0] 29
  have x0 := ((B.more bV).cell 0).1
  have hR := (B.more bV).lt
  unfold plcI
  cases ht : L[p]? with
  | none =>
    have hp := List.getElem?_eq_none_iff.1 ht
    have k0 : ((L.length - p : Nat) : Int) = 0 := by omega
    have SP := fun v => sign_place s s.size v hs (by omega) (by omega)
    unfold AnsL at SP
    dsimp only
    generalize placeI s s.size = z at *
    obtain ⟨z0, z1⟩ := z
    dsimp only at SP ⊢
    generalize L.length - p = M at *
    clear hN hS hT B hW ht hp
    go_enter Tryz.func27, Tryz.ntmps27
    go_wp2_with (go_at_call 23; (with_reducible refine Calls.mono (SP _) ?_); rintro e w2 ⟨rfl, d2⟩; have D := b1.more d2; have y0 := (D.cell 0).1; have y1 := (D.cell 1).1; have f0 := (D.cell 0).2; have f1 := (D.cell 1).2)
    have E := (D.set 0 (.int .i64 z0)).set 1 (.int .i64 z1)
    have c0 := (E.cell 0).1
    have c1 := (E.cell 1).1
    exact bodyPost_ret (v := .agg #[.int .i64 z0, .int .i64 z1]) (by simp [results, Tryz.results27, go_sem, c0, c1]) rfl ⟨rfl, ((below_more bV d2).setCell (p := ⟨w.heap.size, 0, none⟩) (Nat.le_refl _) _).setCell (p := ⟨w.heap.size, 1, none⟩) (Nat.le_refl _) _⟩
  | some t =>
    have hp := (List.getElem?_eq_some_iff.1 ht).1
    have k0 : ¬ ((L.length - p : Nat) : Int) = 0 := by omega
    have k2 : 0 < L.length - p := by omega
    have k3 : (0 : Int) < ((L.length - p : Nat) : Int) := by omega
    obtain ⟨g, rfl, t0, t1, t2, t3⟩ := (hT.more bV).tok ht
    have hg : g < w.heap.size := by
      obtain ⟨g', e, s0, -⟩ := hT.tok ht
      have : g = g' := by simpa using e
      subst this
      exact World.block_lt_of_cell? w _ s0
    dsimp only
    have NB : ∀ (a0 a1 : Int), Hid (BoxC (w.alloc (.cells #[.int .i64 a0, .int .i64 a1] 29)) w.heap.size #[.int .i64 a0, .int .i64 a1] 29 ∧ Below w.heap.size w (w.alloc (.cells #[.int .i64 a0, .int .i64 a1] 29))) := fun a0 a1 => ⟨(boxes1 w _ _).1, (boxes1 w _ _).2.1⟩
    generalize t.2.2.1 = y2 at *
    generalize t.2.2.2 = y3 at *
    generalize L.length - p = M at *
    clear hN hS hT B hW ht hp b1
    go_enter Tryz.func27, Tryz.ntmps27
    go_wp2
    obtain ⟨b1, b2⟩ := (NB y2 y3).out
    have c0 := (b1.cell 0).1
    have c1 := (b1.cell 1).1
    exact bodyPost_ret (v := .agg #[.int .i64 y2, .int .i64 y3]) (by simp [results, Tryz.results27, go_sem, c0, c1]) rfl ⟨rfl, b2⟩
end
end Go.Proofs.YtbcfplaalepnbaaGreatDoor
