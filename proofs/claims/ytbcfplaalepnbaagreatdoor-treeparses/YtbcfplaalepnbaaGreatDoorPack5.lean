/-
  Texts of mine put together in build order, as far as TreeParses, TreeRight need them: SignB, Atoi, TreeQE, WholeA, DeciWalks, DeciA, DeciPad, DeciB, BytesW, DeciC, DeciD, RangeMade, DeciE, DeciF, WholeD, RatioA, RatioF, RatioG, RatioH, RatioJ, TreeQF. No conditions of their own.
-/
import Derived.Test.YtbcfplaalepnbaaGreatDoorRows
import Derived.WalkKit
import Derived.ProofKit
import Derived.WalkLawsBesides
import Derived.Deep.QuietTactic
import Derived.BigQuiet
import Derived.Outline
import Derived.Lib.AppendZerosOnto
import Derived.Lib.DecodeN
import Derived.Lib.BitFns
import Derived.OpenShut
import Derived.Laws.CopyOwn
import Derived.Deep.LoopGhost
import Derived.Lib.OthersKept
import Derived.Shelf.Strconv.AtoiAll
import Derived.Test.YtbcfplaalepnbaaGreatDoorProg
import Derived.Laws.AppendOwn
import Derived.Laws.AppendOwnNone
import Derived.Deep.RegionLaw
import Derived.Deep.DrawnRows
import Derived.Deep.RegionWith
import Derived.Deep.RegionHeld3
import Derived.Laws.IdiomStrings
import Derived.Laws.Bits64b
import Derived.RangeFuncNested
import Derived.RangeFuncBound
import Derived.RangeFuncCalls
import Derived.RangeFuncLeaves
import Derived.Shelf.Abstract
import Derived.Shelf.RegionOpen
import Derived.OwnWalkIn
import Derived.TacticsInMore
import Derived.LoopNIn
import Derived.LoopIn
import Derived.Sort.LoopGhostIn
import Derived.Lib.AtoiAll
import Derived.Laws.EntriesVeiled
import Derived.Deep.DeepCutAuto
import Derived.Lib.Bytealg
import Derived.Test.YtbcfplaalepnbaaGreatDoorPack4
namespace Go.Proofs.YtbcfplaalepnbaaGreatDoor
open Go.RowKit Go.Lib
theorem ext_bt (s : ByteArray) (i : Nat) (hi : i ≤ s.size) (j : Nat) : bt (s.extract i s.size) j = bt s (i + j) := by
  have hz : (s.extract i s.size).size = s.size - i := by rw [ByteArray.size_extract]; omega
  by_cases h : i + j < s.size
  · rw [bt_get (by omega), bt_get h, ByteArray.getElem_extract]
  · unfold bt
    have e : s.size = s.data.size := rfl
    have e2 : (s.extract i s.size).size = (s.extract i s.size).data.size := rfl
    rw [bt_data, bt_data, getElem!_neg _ _ (by omega), getElem!_neg _ _ (by omega)]
theorem ext_next (s : ByteArray) (i : Nat) (hi : i ≤ s.size) (j : Nat) : nextR (s.extract i s.size) j = nextR s (i + j) ∧ nextN (s.extract i s.size) j = nextN s (i + j) := by
  have hz : (s.extract i s.size).size = s.size - i := by rw [ByteArray.size_extract]; omega
  have e : Utf8.decode (s.extract i s.size) j = Utf8.decode s (i + j) := by
    rw [decode_bt, decode_bt, ext_bt s i hi, ext_bt s i hi, ext_bt s i hi, ext_bt s i hi, hz, Nat.sub_sub]
    rfl
  unfold nextR nextN
  rw [e]; exact ⟨rfl, rfl⟩
theorem text_full {s : ByteArray} (h : 1 ≤ s.size) : (s.toList == []) = false := by
  rw [beq_eq_false_iff_ne, ByteArray.toList_eq]
  intro e
  have : s.data.toList.length = s.size := by simp
  rw [e] at this
  exact absurd this (by simp only [List.length_nil]; omega)
set_option maxHeartbeats 4000000 in
theorem sign_next (s : ByteArray) (i : Nat) (w : World) (hs : s.size ≤ 1000000) (hi : i < s.size) : Calls Tryz.prog 77 #[.string s, .int .i64 i] w fun e w' => e = .returned (.tuple #[.int .i32 (nextR s i), .int .i64 (nextN s i)]) ∧ Below w.heap.size w w' := by
  have k0 : ¬ (i : Int) < 0 := by omega
  have k1 : ¬ (s.size : Int) ≤ i := by omega
  have k2 : (i : Int) ≤ s.size := by omega
  have hz := next_size hi
  have hT : (s.extract i s.size).size = s.size - i := by rw [ByteArray.size_extract]; omega
  obtain ⟨hR, hN⟩ := ext_next s i (Nat.le_of_lt hi) 0
  rw [Nat.add_zero] at hR hN
  have HH : Hid (nextR (s.extract i s.size) 0 = nextR s i ∧ nextN (s.extract i s.size) 0 = nextN s i ∧ 1 ≤ nextN s i ∧ nextN s i ≤ (s.extract i s.size).size ∧ (s.extract i s.size).size ≤ 1000000) := ⟨hR, hN, hz.1, by omega, by omega⟩
  clear hR hN hz hT hs hi
  generalize nextR s i = R at *
  generalize nextN s i = M at *
  go_enter Tryz.func77, Tryz.ntmps77
  go_wp2
  generalize s.extract i s.size = u at *
  go_loopg [4] u.size (fun g s4 v => ∃ (pos : Nat) (x : Int), s4 = .int .i32 x ∧ pos + g = u.size ∧ v.heap[w.heap.size]? = some (.stringIter u pos) ∧ Below w.heap.size w v ∧ (pos = 0 ∨ pos = M ∧ x = R))
  case atStart => exact ⟨0, 0, rfl, by omega, iter_new w u, below_iter w u 0, .inl rfl⟩
  case round =>
    obtain ⟨pos, x, rfl, hg, hit, bw, hp⟩ := hrel
    obtain ⟨h1, h2, h3, h4, h5⟩ := HH.out
    rcases hp with rfl | ⟨rfl, rfl⟩
    · have hnx : ∀ ty, (Instr.next (.pointer (some ⟨w.heap.size, 0, none⟩)) true ty).run Tryz.prog wr = .ok (.tuple #[.bool true, .int .i64 (0 : Nat), .int .i32 (nextR u 0)]) (wr.iterAt w.heap.size u (0 + nextN u 0)) := fun ty => run_next_any_at wr w.heap.size u 0 ty hit (by omega)
      have hi2 := iterAt_heap wr w.heap.size u 0 (0 + nextN u 0) hit
      have bw2 := below_iterAt bw (Nat.le_refl _) u (0 + nextN u 0)
      rw [h1, h2, Nat.zero_add] at hnx
      rw [h2, Nat.zero_add] at hi2 bw2
      generalize wr.iterAt w.heap.size u M = wi at *
      have HG : Hid (0 + gk = u.size) := hg
      clear hit bw h1 h2 h3 h4 h5 hg
      go_wp2
      have hg := HG.out
      obtain ⟨h1, h2, h3, h4, h5⟩ := HH.out
      go_roundg (u.size - M)
      case measure => omega
      case rel => exact ⟨M, R, rfl, by omega, hi2, bw2, .inr ⟨rfl, rfl⟩⟩
    · rcases Nat.lt_or_ge pos u.size with hp | hp
      · have hnx : ∀ ty, (Instr.next (.pointer (some ⟨w.heap.size, 0, none⟩)) true ty).run Tryz.prog wr = .ok (.tuple #[.bool true, .int .i64 pos, .int .i32 (nextR u pos)]) (wr.iterAt w.heap.size u (pos + nextN u pos)) := fun ty => run_next_any_at wr w.heap.size u pos ty hit hp
        have bw2 := below_iterAt bw (Nat.le_refl _) u (pos + nextN u pos)
        have k3 : 0 < (pos : Int) := by omega
        generalize wr.iterAt w.heap.size u (pos + nextN u pos) = wi at *
        clear hit bw h1 h2 h3 h4 h5 hg hp
        go_wp2
        go_ret2
        exact ⟨rfl, bw2⟩
      · obtain rfl : pos = u.size := by omega
        have hnx : ∀ ty, (Instr.next (.pointer (some ⟨w.heap.size, 0, none⟩)) true ty).run Tryz.prog wr = .ok (.tuple #[.bool false]) wr := fun ty => run_next_end_at wr w.heap.size u u.size ty hit (Nat.lt_irrefl _)
        clear hit h1 h2 h3 h4 h5 hg hp
        go_wp2
        go_ret2
        exact ⟨rfl, bw⟩
set_option maxHeartbeats 8000000 in
theorem sign_name (s : ByteArray) (w : World) (hs : s.size ≤ 1000000) (r : Bool) (hr : nameB s = r) : Calls Tryz.prog 69 #[.string s] w fun e w' => e = .returned (.bool r) ∧ Below w.heap.size w w' := by
  have KY := fun v => sign_key s _ rfl v
  unfold nameB at hr
  rcases (by by_cases h1 : s.size < 1 <;> by_cases h2 : 40 < s.size <;> by_cases h3 : keyB s = true <;> simp [h1, h2, h3] : s.size < 1 ∨ (¬ s.size < 1 ∧ 40 < s.size) ∨ (¬ s.size < 1 ∧ ¬ 40 < s.size ∧ keyB s = true) ∨ (¬ s.size < 1 ∧ ¬ 40 < s.size ∧ keyB s = false)) with h | ⟨h, h2⟩ | ⟨h, h2, h3⟩ | ⟨h, h2, h3⟩
  · have e0 : (s.toList == []) = true := by
      have : s.data.toList = [] := List.eq_nil_of_length_eq_zero ((show s.data.toList.length = s.size by simp).trans (by omega))
      rw [ByteArray.toList_eq, this]; rfl
    obtain rfl : r = false := by rw [← hr, decide_eq_false (by omega)]; rfl
    clear hr hs KY
    go_enter Tryz.func69, Tryz.ntmps69
    go_wp2
    go_ret
    exact ⟨rfl, Below.refl _ _⟩
  · have e0 : (s.toList == []) = false := text_full (by omega)
    obtain rfl : r = false := by rw [← hr, decide_eq_false (by omega)]; rfl
    have k2 : 40 < (s.size : Int) := by omega
    clear hr hs KY
    go_enter Tryz.func69, Tryz.ntmps69
    go_wp2
    go_ret
    exact ⟨rfl, Below.refl _ _⟩
  · have e0 : (s.toList == []) = false := text_full (by omega)
    obtain rfl : r = false := by rw [← hr, h3]; simp
    have k2 : ¬ 40 < (s.size : Int) := by omega
    rw [h3] at KY
    clear hr hs h3
    go_enter Tryz.func69, Tryz.ntmps69
    go_wp2_with (go_at_call 101; (with_reducible refine Calls.mono (KY _) ?_); rintro e v1 ⟨rfl, rfl⟩)
    go_ret
    exact ⟨rfl, Below.refl _ _⟩
  · have e0 : (s.toList == []) = false := text_full (by omega)
    have k2 : ¬ 40 < (s.size : Int) := by omega
    have hF : nameF s (s.size + 1) 0 = r := by rw [← hr, h3, decide_eq_true (by omega : 1 ≤ s.size ∧ s.size ≤ 40)]; rfl
    have HF : Hid (nameF s (s.size + 1) 0 = r) := hF
    rw [h3] at KY
    clear hr h3 hF hs h h2
    go_enter Tryz.func69, Tryz.ntmps69
    go_wp2_with (go_at_call 101; (with_reducible refine Calls.mono (KY _) ?_); rintro e v1 ⟨rfl, rfl⟩)
    go_loopg [2] s.size (fun g s2 v => ∃ i : Nat, s2 = .bool false ∧ i + g = s.size ∧ v.heap[w.heap.size]? = some (.stringIter s i) ∧ Below w.heap.size w v ∧ nameF s (s.size + 1) i = r)
    case atStart => exact ⟨0, rfl, by omega, iter_new w s, below_iter w s 0, HF.out⟩
    case round =>
      obtain ⟨i, rfl, hg, hit, bw, hF⟩ := hrel
      clear HF KY
      have HF : Hid (nameF s (s.size + 1) i = r) := hF
      clear hF
      rcases Nat.lt_or_ge i s.size with hi | hi
      · have hnx : ∀ ty, (Instr.next (.pointer (some ⟨w.heap.size, 0, none⟩)) true ty).run Tryz.prog wr = .ok (.tuple #[.bool true, .int .i64 i, .int .i32 (nextR s i)]) (wr.iterAt w.heap.size s (i + nextN s i)) := fun ty => run_next_any_at wr w.heap.size s i ty hit hi
        have hi2 := iterAt_heap wr w.heap.size s i (i + nextN s i) hit
        have bw2 := below_iterAt bw (Nat.le_refl _) s (i + nextN s i)
        have hz := next_size hi
        have HS : Hid (nameF s (s.size + 1) i = if (kindI (nextR s i) ≠ 1 ∧ kindI (nextR s i) ≠ 2) ∨ (kindI (nextR s i) = 2 ∧ i = 0) then false else nameF s (s.size + 1) (i + nextN s i)) := nameF_step hi
        have K1 := fun v => sign_kind (nextR s i) _ rfl v
        have hk := kindI_range (nextR s i)
        have HZ : Hid (1 ≤ nextN s i ∧ i + nextN s i ≤ s.size) := ⟨hz.1, hz.2.2⟩
        generalize wr.iterAt w.heap.size s (i + nextN s i) = wi at *
        generalize kindI (nextR s i) = k at *
        generalize nextR s i = R at *
        generalize nextN s i = M at *
        clear hz hit bw hi
        rcases (by omega : ((k = 0 ∨ k = 3 ∨ k = 4) ∨ (k = 2 ∧ i = 0)) ∨ (k = 1 ∨ (k = 2 ∧ i ≠ 0))) with hA | hB
        · obtain rfl : r = false := by rw [← HF.out, HS.out, if_pos (by omega)]
          clear hk HS HF
          rcases hA with (rfl | rfl | rfl) | ⟨rfl, h0⟩
          all_goals
            (try (have e0 : ((i : Int) == 0) = true := by (rw [beq_iff_eq]; omega)); clear h0)
            go_wp2_with (go_at_call 78; (with_reducible refine Calls.mono (K1 _) ?_); rintro e v2 ⟨rfl, rfl⟩)
            go_ret
            exact ⟨rfl, bw2⟩
        · have HR : Hid (nameF s (s.size + 1) (i + M) = r) := by show _ = _; rw [← HF.out, HS.out, if_neg (by omega)]
          clear hk HS HF
          rcases hB with rfl | ⟨rfl, h0⟩
          all_goals
            (try (have e0 : ((i : Int) == 0) = false := by (rw [beq_eq_false_iff_ne]; omega)); clear h0)
            go_wp2_with (go_at_call 78; (with_reducible refine Calls.mono (K1 _) ?_); rintro e v2 ⟨rfl, rfl⟩)
            have hZ := HZ.out
            go_roundg (s.size - (i + M))
            case measure => omega
            case rel => exact ⟨i + M, rfl, by omega, hi2, bw2, HR.out⟩
      · have hnx : ∀ ty, (Instr.next (.pointer (some ⟨w.heap.size, 0, none⟩)) true ty).run Tryz.prog wr = .ok (.tuple #[.bool false]) wr := fun ty => run_next_end_at wr w.heap.size s i ty hit (by omega)
        obtain rfl : r = true := by rw [← HF.out, nameF_end (by omega)]
        clear HF hit
        go_wp2
        go_ret
        exact ⟨rfl, bw⟩
end Go.Proofs.YtbcfplaalepnbaaGreatDoor
namespace Go.Proofs.YtbcfplaalepnbaaGreatDoor
open Go.Shelf
def seat_laysC172_ren : Go.Shelf.Ren := ⟨fun | 172 => 176 | 244 => 194 | 245 => 195 | 247 => 215 | 279 => 216 | 280 => 217 | 281 => 218 | 282 => 219 | 287 => 234 | 316 => 144 | 171 => 236 | 205 => 235 | 321 => 245 | 322 => 246 | 243 => 247 | 246 => 253 | 283 => 254 | 284 => 255 | 285 => 256 | 286 => 257 | 129 => 259 | 317 => 258 | 318 => 260 | 319 => 261 | 320 => 262 | 337 => 263 | 338 => 264 | n => n, fun | 9 => 9 | 3 => 3 | 75 => 188 | 76 => 189 | 4 => 4 | 5 => 5 | 167 => 222 | 37 => 129 | 0 => 0 | 85 => 223 | 2 => 2 | 168 => 225 | 53 => 111 | 175 => 242 | 46 => 201 | 210 => 245 | 127 => 171 | 145 => 257 | 143 => 255 | 21 => 21 | 171 => 264 | 173 => 267 | 212 => 270 | 51 => 84 | 20 => 20 | 213 => 271 | 232 => 273 | 233 => 274 | 80 => 99 | n => n, fun | 15 => 1 | 16 => 2 | 17 => 5 | 18 => 6 | 19 => 7 | n => n⟩
theorem seat_laysC172 : Go.Proofs.LaysC.n172 Tryz.prog seat_laysC172_ren := {
  mixed := by kernel_rfl
  f129 := Tryz.func259.trans (congrArg some (by kernel_rfl))
  f171 := Tryz.func236.trans (congrArg some (by kernel_rfl))
  f172 := Tryz.func176.trans (congrArg some (by kernel_rfl))
  f205 := Tryz.func235.trans (congrArg some (by kernel_rfl))
  f243 := Tryz.func247.trans (congrArg some (by kernel_rfl))
  f244 := Tryz.func194.trans (congrArg some (by kernel_rfl))
  f245 := Tryz.func195.trans (congrArg some (by kernel_rfl))
  f246 := Tryz.func253.trans (congrArg some (by kernel_rfl))
  f247 := Tryz.func215.trans (congrArg some (by kernel_rfl))
  f279 := Tryz.func216.trans (congrArg some (by kernel_rfl))
  f280 := Tryz.func217.trans (congrArg some (by kernel_rfl))
  f281 := Tryz.func218.trans (congrArg some (by kernel_rfl))
  f282 := Tryz.func219.trans (congrArg some (by kernel_rfl))
  f283 := Tryz.func254.trans (congrArg some (by kernel_rfl))
  f284 := Tryz.func255.trans (congrArg some (by kernel_rfl))
  f285 := Tryz.func256.trans (congrArg some (by kernel_rfl))
  f286 := Tryz.func257.trans (congrArg some (by kernel_rfl))
  f287 := Tryz.func234.trans (congrArg some (by kernel_rfl))
  f316 := Tryz.func144.trans (congrArg some (by kernel_rfl))
  f317 := Tryz.func258.trans (congrArg some (by kernel_rfl))
  f318 := Tryz.func260.trans (congrArg some (by kernel_rfl))
  f319 := Tryz.func261.trans (congrArg some (by kernel_rfl))
  f320 := Tryz.func262.trans (congrArg some (by kernel_rfl))
  f321 := Tryz.func245.trans (congrArg some (by kernel_rfl))
  f322 := Tryz.func246.trans (congrArg some (by kernel_rfl))
  f337 := Tryz.func263.trans (congrArg some (by kernel_rfl))
  f338 := Tryz.func264.trans (congrArg some (by kernel_rfl))
  t0 := Tryz.underlying0
  a0 := Tryz.isAgg0
  z0 := Tryz.sizeOf0
  v0 := Tryz.zeroValue0
  t2 := Tryz.underlying2
  a2 := Tryz.isAgg2
  z2 := Tryz.sizeOf2
  v2 := Tryz.zeroValue2
  t3 := Tryz.underlying3
  a3 := Tryz.isAgg3
  z3 := Tryz.sizeOf3
  v3 := Tryz.zeroValue3
  t4 := Tryz.underlying4
  a4 := Tryz.isAgg4
  z4 := Tryz.sizeOf4
  v4 := Tryz.zeroValue4
  t5 := Tryz.underlying5
  a5 := Tryz.isAgg5
  z5 := Tryz.sizeOf5
  v5 := Tryz.zeroValue5
  t9 := Tryz.underlying9
  a9 := Tryz.isAgg9
  z9 := Tryz.sizeOf9
  v9 := Tryz.zeroValue9
  t20 := Tryz.underlying20
  a20 := Tryz.isAgg20
  z20 := Tryz.sizeOf20
  v20 := Tryz.zeroValue20
  t21 := Tryz.underlying21
  a21 := Tryz.isAgg21
  z21 := Tryz.sizeOf21
  v21 := Tryz.zeroValue21
  t37 := Tryz.underlying129
  a37 := Tryz.isAgg129
  z37 := Tryz.sizeOf129
  v37 := Tryz.zeroValue129
  t46 := Tryz.underlying201
  a46 := Tryz.isAgg201
  z46 := Tryz.sizeOf201
  v46 := Tryz.zeroValue201
  t51 := Tryz.underlying84
  a51 := Tryz.isAgg84
  z51 := Tryz.sizeOf84
  v51 := Tryz.zeroValue84
  t53 := Tryz.underlying111
  a53 := Tryz.isAgg111
  z53 := Tryz.sizeOf111
  v53 := Tryz.zeroValue111
  t75 := Tryz.underlying188
  a75 := Tryz.isAgg188
  z75 := Tryz.sizeOf188
  v75 := Tryz.zeroValue188
  t76 := Tryz.underlying189
  a76 := Tryz.isAgg189
  z76 := Tryz.sizeOf189
  v76 := Tryz.zeroValue189
  t85 := Tryz.underlying223
  a85 := Tryz.isAgg223
  z85 := Tryz.sizeOf223
  v85 := Tryz.zeroValue223
  t127 := Tryz.underlying171
  a127 := Tryz.isAgg171
  z127 := Tryz.sizeOf171
  v127 := Tryz.zeroValue171
  t143 := Tryz.underlying255
  a143 := Tryz.isAgg255
  z143 := Tryz.sizeOf255
  v143 := Tryz.zeroValue255
  t145 := Tryz.underlying257
  a145 := Tryz.isAgg257
  z145 := Tryz.sizeOf257
  v145 := Tryz.zeroValue257
  t167 := Tryz.underlying222
  a167 := Tryz.isAgg222
  z167 := Tryz.sizeOf222
  v167 := Tryz.zeroValue222
  t168 := Tryz.underlying225
  a168 := Tryz.isAgg225
  z168 := Tryz.sizeOf225
  v168 := Tryz.zeroValue225
  t171 := Tryz.underlying264
  a171 := Tryz.isAgg264
  z171 := Tryz.sizeOf264
  v171 := Tryz.zeroValue264
  t173 := Tryz.underlying267
  a173 := Tryz.isAgg267
  z173 := Tryz.sizeOf267
  v173 := Tryz.zeroValue267
  t175 := Tryz.underlying242
  a175 := Tryz.isAgg242
  z175 := Tryz.sizeOf242
  v175 := Tryz.zeroValue242
  t210 := Tryz.underlying245
  a210 := Tryz.isAgg245
  z210 := Tryz.sizeOf245
  v210 := Tryz.zeroValue245
  t212 := Tryz.underlying270
  a212 := Tryz.isAgg270
  z212 := Tryz.sizeOf270
  v212 := Tryz.zeroValue270
  t213 := Tryz.underlying271
  a213 := Tryz.isAgg271
  z213 := Tryz.sizeOf271
  t232 := Tryz.underlying273
  a232 := Tryz.isAgg273
  z232 := Tryz.sizeOf273
  v232 := Tryz.zeroValue273
  t233 := Tryz.underlying274
  a233 := Tryz.isAgg274
  z233 := Tryz.sizeOf274
  v233 := Tryz.zeroValue274
  g15 := by kernel_rfl
  g16 := by kernel_rfl
  g17 := by kernel_rfl
  g18 := by kernel_rfl
  g19 := by kernel_rfl
  t80 := Tryz.underlying99
  a80 := Tryz.isAgg99
  z80 := Tryz.sizeOf99
  v80 := Tryz.zeroValue99
  i0 := by kernel_rfl
  i2 := by kernel_rfl
  i3 := by kernel_rfl
  i4 := by kernel_rfl
  i5 := by kernel_rfl
  i9 := by kernel_rfl
  i20 := by kernel_rfl
  i21 := by kernel_rfl
  i37 := by kernel_rfl
  i46 := by kernel_rfl
  i51 := by kernel_rfl
  i53 := by kernel_rfl
  i75 := by kernel_rfl
  i76 := by kernel_rfl
  i80 := by kernel_rfl
  i85 := by kernel_rfl
  i127 := by kernel_rfl
  i143 := by kernel_rfl
  i145 := by kernel_rfl
  i167 := by kernel_rfl
  i168 := by kernel_rfl
  i171 := by kernel_rfl
  i173 := by kernel_rfl
  i175 := by kernel_rfl
  i210 := by kernel_rfl
  i212 := by kernel_rfl
  i232 := by kernel_rfl
  i233 := by kernel_rfl
  m15 := by kernel_rfl
  m16 := by kernel_rfl
  m17 := by kernel_rfl
  m18 := by kernel_rfl
  m19 := by kernel_rfl
  c0 := by kernel_rfl
  c2 := by kernel_rfl
  c3 := by kernel_rfl
  c4 := by kernel_rfl
  c5 := by kernel_rfl
  c9 := by kernel_rfl
  c20 := by kernel_rfl
  c21 := by kernel_rfl
  c37 := by kernel_rfl
  c46 := by kernel_rfl
  c51 := by kernel_rfl
  c53 := by kernel_rfl
  c75 := by kernel_rfl
  c76 := by kernel_rfl
  c80 := by kernel_rfl
  c85 := by kernel_rfl
  c127 := by kernel_rfl
  c143 := by kernel_rfl
  c145 := by kernel_rfl
  c167 := by kernel_rfl
  c168 := by kernel_rfl
  c171 := by kernel_rfl
  c173 := by kernel_rfl
  c175 := by kernel_rfl
  c210 := by kernel_rfl
  c212 := by kernel_rfl
  c213 := by kernel_rfl
  c232 := by kernel_rfl
  c233 := by kernel_rfl }
open Go.RowKit in
theorem seat_strconv_Atoi_ok (s : ByteArray) (hmax : s.size ≤ 9223372036854775806) (v : Int) (h : Lib.atoiAll s.data.toList = .ok v) (w : World) :
    Calls Tryz.prog 176 #[.string s] w fun e w' => e = .returned (.tuple #[.int .i64 v, .nilIface]) ∧ (w' = w ∨ ∃ t, w' = Lib.bytesWorld w 5 t) := Any.strconv_Atoi_ok seat_laysC172 s hmax v h w
open Go.RowKit in
theorem seat_strconv_Atoi_syntax (s : ByteArray) (hlim : s.size ≤ 281474976710656) (h : Lib.atoiAll s.data.toList = .«syntax») (ev : Value) (w : World) (hv : w.cell? ⟨1, 0, none⟩ = some ev) (hev : ev = .nilIface ∨ ∃ te pe, ev = .iface te pe) :
    Calls Tryz.prog 176 #[.string s] w fun e w' => ∃ N, e = .returned (.tuple #[.int .i64 (0), .iface 225 (.pointer (some ⟨N, 0, none⟩))]) ∧ w.heap.size ≤ N ∧ w'.heap[N]? = some (.cells #[.string ⟨#[65, 116, 111, 105]⟩, .string s, ev] 245 (0, 0)) ∧ Below w.heap.size w w' := Any.strconv_Atoi_syntax seat_laysC172 s hlim h ev w hv hev
open Go.RowKit in
theorem seat_strconv_Atoi_range (s : ByteArray) (hlim : s.size ≤ 281474976710656) (h : Lib.atoiAll s.data.toList = .range) (ev : Value) (w : World) (hv : w.cell? ⟨2, 0, none⟩ = some ev) (hev : ev = .nilIface ∨ ∃ te pe, ev = .iface te pe) :
    Calls Tryz.prog 176 #[.string s] w fun e w' => ∃ N, e = .returned (.tuple #[.int .i64 (Lib.atoiSat s.data.toList), .iface 225 (.pointer (some ⟨N, 0, none⟩))]) ∧ w.heap.size ≤ N ∧ w'.heap[N]? = some (.cells #[.string ⟨#[65, 116, 111, 105]⟩, .string s, ev] 245 (0, 0)) ∧ Below w.heap.size w w' := Any.strconv_Atoi_range seat_laysC172 s hlim h ev w hv hev
open Go.RowKit in
def ErrV (w : World) : Prop := (∃ t v, w.cell? ⟨1, 0, none⟩ = some (.iface t v)) ∧ (∃ t v, w.cell? ⟨2, 0, none⟩ = some (.iface t v))
open Go.RowKit in
theorem ErrV.below {W w : World} (h : ErrV W) (hb : Below W.heap.size W w) : ErrV w := by
  obtain ⟨⟨t, v, h1⟩, ⟨u, x, h2⟩⟩ := h
  exact ⟨⟨t, v, by rw [hb.cell (World.block_lt_of_cell? W _ h1)]; exact h1⟩, ⟨u, x, by rw [hb.cell (World.block_lt_of_cell? W _ h2)]; exact h2⟩⟩
open Go.RowKit in
theorem str_atoi_ok (s : ByteArray) (hs : s.size ≤ 1000000) (n : Int) (h : Lib.atoiAll s.data.toList = .ok n) (w : World) :
    Calls Tryz.prog 176 #[.string s] w fun e w' => e = .returned (.tuple #[.int .i64 n, .nilIface]) ∧ Below w.heap.size w w' := by
  refine (seat_strconv_Atoi_ok s (by omega) n h w).mono ?_
  rintro e w' ⟨rfl, hw⟩
  refine ⟨rfl, ?_⟩
  rcases hw with rfl | ⟨t, rfl⟩
  · exact Below.refl _ _
  · exact Lib.bytesWorld_below _ _ _
open Go.RowKit in
theorem str_atoi_err (s : ByteArray) (hs : s.size ≤ 1000000) (h : ∀ n, Lib.atoiAll s.data.toList ≠ .ok n) (w : World) (he : ErrV w) :
    Calls Tryz.prog 176 #[.string s] w fun e w' => ∃ (n : Int) (N : Nat), e = .returned (.tuple #[.int .i64 n, .iface 225 (.pointer (some ⟨N, 0, none⟩))]) ∧ Below w.heap.size w w' := by
  obtain ⟨⟨t, v, h1⟩, ⟨u, x, h2⟩⟩ := he
  cases hp : Lib.atoiAll s.data.toList with
  | ok n => exact absurd hp (h n)
  | «syntax» =>
    refine (seat_strconv_Atoi_syntax s (by omega) hp _ w h1 (.inr ⟨_, _, rfl⟩)).mono ?_
    rintro e w' ⟨N, rfl, -, -, hb⟩
    exact ⟨_, N, rfl, hb⟩
  | range =>
    refine (seat_strconv_Atoi_range s (by omega) hp _ w h2 (.inr ⟨_, _, rfl⟩)).mono ?_
    rintro e w' ⟨N, rfl, -, -, hb⟩
    exact ⟨_, N, rfl, hb⟩
end Go.Proofs.YtbcfplaalepnbaaGreatDoor
namespace Go.Proofs.YtbcfplaalepnbaaGreatDoor
open Go.RowKit Go.Lib
structure Toks (L : List Tok) : Prop where
  len : L.length ≤ 4000
  right : ∀ t ∈ L, RightT t.1 t.2.1 ∧ t.2.1.size ≤ 1000000
theorem nextT_some {L : List Tok} {p : Nat} {t : Tok} (h : L[p]? = some t) : nextT L p = t := by unfold nextT; rw [h]; rfl
theorem nextT_none {L : List Tok} {p : Nat} (h : L[p]? = none) : nextT L p = (0, noText, 0, 0) := by unfold nextT; rw [h]; rfl
theorem noText_list : noText.toList = [] := by rw [ByteArray.toList_eq]; rfl
theorem Toks.size {L : List Tok} (h : Toks L) (p : Nat) : (nextT L p).2.1.size ≤ 1000000 := by
  cases e : L[p]? with
  | none => rw [nextT_none e]; show 0 ≤ _; omega
  | some t => rw [nextT_some e]; exact (h.right t (List.mem_of_getElem? e)).2
theorem tok_is {L : List Tok} {r : Rd} (hb : r.bad = false) {k : Int} {x : List UInt8} (hx : x ≠ []) (hk : ∀ t ∈ L, t.2.1.toList = x → t.1 = k) : r.is L k x = ((nextT L r.pos).2.1.toList == x) := by
  unfold Rd.is
  rw [hb]
  cases e : L[r.pos]? with
  | none =>
    rw [nextT_none e, noText_list]
    simp only [Bool.not_false, Bool.true_and]
    symm
    rw [beq_eq_false_iff_ne]
    exact fun q => hx q.symm
  | some t =>
    rw [nextT_some e]
    simp only [Bool.not_false, Bool.true_and]
    by_cases q : t.2.1.toList = x
    · rw [decide_eq_true (hk t (List.mem_of_getElem? e) q), Bool.true_and]
    · have : (t.2.1.toList == x) = false := by rw [beq_eq_false_iff_ne]; exact q
      rw [this, Bool.and_false]
theorem Toks.mark {L : List Tok} (h : Toks L) {r : Rd} (hb : r.bad = false) {c : UInt8} (hc : kindI c.toNat = 4) : r.is L 2 [c] = ((nextT L r.pos).2.1.toList == [c]) :=
  tok_is hb (by simp) fun t ht hx => mark_kind (h.right t ht).1 hx hc
theorem Toks.word {L : List Tok} (h : Toks L) {r : Rd} (hb : r.bad = false) {c : UInt8} {x : List UInt8} (hc : c.toNat < 128 ∧ kindI c.toNat = 1) : r.is L 0 (c :: x) = ((nextT L r.pos).2.1.toList == c :: x) :=
  tok_is hb (by simp) fun t ht hx => low_kind (h.right t ht).1 hx hc
theorem Toks.exp {L : List Tok} (h : Toks L) (p : Nat) : (expA (nextT L p).2.1 = none ∧ (L[p]? = none ∨ ∃ t, L[p]? = some t ∧ (t.1 ≠ 1 ∨ expI t.2.1 < 0))) ∨ (∃ t, L[p]? = some t ∧ t.1 = 1 ∧ 0 ≤ expI t.2.1 ∧ expI t.2.1 ≤ 20 ∧ expA (nextT L p).2.1 = some (expI t.2.1)) := by
  cases e : L[p]? with
  | none => left; rw [nextT_none e]; exact ⟨expA_nil rfl, .inl rfl⟩
  | some t =>
    rw [nextT_some e]
    have hr := (h.right t (List.mem_of_getElem? e)).1
    by_cases h1 : t.1 = 1
    · rw [h1] at hr
      rw [expA_number hr]
      by_cases h0 : 0 ≤ expI t.2.1
      · rw [if_pos h0]
        refine .inr ⟨t, rfl, h1, h0, ?_, rfl⟩
        have := expA_number hr
        rw [if_pos h0] at this
        unfold expA at this
        split at this
        · split at this
          · rename_i q; injection this with this; omega
          · exact absurd this (by simp)
        · exact absurd this (by simp)
      · rw [if_neg h0]
        exact .inl ⟨rfl, .inr ⟨t, rfl, .inr (by omega)⟩⟩
    · exact .inl ⟨expA_word hr h1, .inr ⟨t, rfl, .inl h1⟩⟩
def btw (x : List UInt8) : Option (Int × Bool) := if x = [43] then some (2, false) else if x = [45] then some (3, false) else if x = [42] then some (4, true) else if x = [47] then some (5, true) else none
def btwV (o : Option (Int × Bool)) : Value := match o with
  | some (k, c) => .tuple #[.agg #[.int .i64 k, .int .i64 (binds c)], .bool true]
  | none => .tuple #[.agg #[.int .i64 0, .int .i64 0], .bool false]
set_option maxHeartbeats 4000000 in
theorem q_between (y : ByteArray) (w : World) : Calls Tryz.prog 135 #[.string y] w fun e w' => e = .returned (btwV (btw y.toList)) ∧ Below w.heap.size w w' := by
  have NB : ∀ (a0 a1 : Int), Hid (BoxC (w.alloc (.cells #[.int .i64 a0, .int .i64 a1] 156)) w.heap.size #[.int .i64 a0, .int .i64 a1] 156 ∧ Below w.heap.size w (w.alloc (.cells #[.int .i64 a0, .int .i64 a1] 156))) := fun a0 a1 => ⟨(boxes1 w _ _).1, (boxes1 w _ _).2.1⟩
  unfold btw
  by_cases e1 : y.toList = [43]
  · have f1 : (y.toList == [43]) = true := by rw [e1]; rfl
    rw [if_pos e1]
    show Calls Tryz.prog _ _ w fun e w' => e = .returned (.tuple #[.agg #[.int .i64 2, .int .i64 0], .bool true]) ∧ _
    clear e1
    go_enter Tryz.func135, Tryz.ntmps135
    go_wp2
    obtain ⟨b1, b2⟩ := (NB 2 0).out
    have c0 := (b1.cell 0).1
    have c1 := (b1.cell 1).1
    exact bodyPost_ret (v := .tuple #[.agg #[.int .i64 2, .int .i64 0], .bool true]) (by simp [results, Tryz.results135, go_sem, c0, c1]) rfl ⟨rfl, b2⟩
  rw [if_neg e1]
  have f1 : (y.toList == [43]) = false := by rw [beq_eq_false_iff_ne]; exact e1
  by_cases e2 : y.toList = [45]
  · have f2 : (y.toList == [45]) = true := by rw [e2]; rfl
    rw [if_pos e2]
    show Calls Tryz.prog _ _ w fun e w' => e = .returned (.tuple #[.agg #[.int .i64 3, .int .i64 0], .bool true]) ∧ _
    clear e1 e2
    go_enter Tryz.func135, Tryz.ntmps135
    go_wp2
    obtain ⟨b1, b2⟩ := (NB 3 0).out
    have c0 := (b1.cell 0).1
    have c1 := (b1.cell 1).1
    exact bodyPost_ret (v := .tuple #[.agg #[.int .i64 3, .int .i64 0], .bool true]) (by simp [results, Tryz.results135, go_sem, c0, c1]) rfl ⟨rfl, b2⟩
  rw [if_neg e2]
  have f2 : (y.toList == [45]) = false := by rw [beq_eq_false_iff_ne]; exact e2
  by_cases e3 : y.toList = [42]
  · have f3 : (y.toList == [42]) = true := by rw [e3]; rfl
    rw [if_pos e3]
    show Calls Tryz.prog _ _ w fun e w' => e = .returned (.tuple #[.agg #[.int .i64 4, .int .i64 1], .bool true]) ∧ _
    clear e1 e2 e3
    go_enter Tryz.func135, Tryz.ntmps135
    go_wp2
    obtain ⟨b1, b2⟩ := (NB 4 1).out
    have c0 := (b1.cell 0).1
    have c1 := (b1.cell 1).1
    exact bodyPost_ret (v := .tuple #[.agg #[.int .i64 4, .int .i64 1], .bool true]) (by simp [results, Tryz.results135, go_sem, c0, c1]) rfl ⟨rfl, b2⟩
  rw [if_neg e3]
  have f3 : (y.toList == [42]) = false := by rw [beq_eq_false_iff_ne]; exact e3
  by_cases e4 : y.toList = [47]
  · have f4 : (y.toList == [47]) = true := by rw [e4]; rfl
    rw [if_pos e4]
    show Calls Tryz.prog _ _ w fun e w' => e = .returned (.tuple #[.agg #[.int .i64 5, .int .i64 1], .bool true]) ∧ _
    clear e1 e2 e3 e4
    go_enter Tryz.func135, Tryz.ntmps135
    go_wp2
    obtain ⟨b1, b2⟩ := (NB 5 1).out
    have c0 := (b1.cell 0).1
    have c1 := (b1.cell 1).1
    exact bodyPost_ret (v := .tuple #[.agg #[.int .i64 5, .int .i64 1], .bool true]) (by simp [results, Tryz.results135, go_sem, c0, c1]) rfl ⟨rfl, b2⟩
  rw [if_neg e4]
  have f4 : (y.toList == [47]) = false := by rw [beq_eq_false_iff_ne]; exact e4
  show Calls Tryz.prog _ _ w fun e w' => e = .returned (.tuple #[.agg #[.int .i64 0, .int .i64 0], .bool false]) ∧ _
  clear e1 e2 e3 e4
  go_enter Tryz.func135, Tryz.ntmps135
  go_wp2
  obtain ⟨b1, b2⟩ := (NB 0 0).out
  have c0 := (b1.cell 0).1
  have c1 := (b1.cell 1).1
  exact bodyPost_ret (v := .tuple #[.agg #[.int .i64 0, .int .i64 0], .bool false]) (by simp [results, Tryz.results135, go_sem, c0, c1]) rfl ⟨rfl, b2⟩
theorem fld_text (a0 : Int) (a1 : ByteArray) (a2 a3 : Int) (v : World) : Sem.run Tryz.prog (Instr.field 66 (.agg #[.int .i64 a0, .string a1, .int .i64 a2, .int .i64 a3]) 1) v = .ok (.string a1) v := by kernel_rfl
section
variable {W w : World} {R : Nat} {ta : Option Addr} {tc : Nat} {i l o : Value} {L : List Tok} {p : Nat} {all : List Nd} {S : List It}
set_option maxHeartbeats 4000000 in
theorem q_name (h : Tq W w R ta tc i l o L p all S) (hL : Toks L) (b : Bool) (hb : nameB (nextT L p).2.1 = b) :
    Calls Tryz.prog 85 #[.pointer (some ⟨R, 0, none⟩)] w fun e w' => e = .returned (.tuple #[.string (if b = true then (nextT L p).2.1 else ⟨#[]⟩), .bool b]) ∧ Tq W w' R ta tc i l o L (if b = true then p + 1 else p) all S ∧ Keep TY w w' := by
  have NX := q_next h
  have FD := fld_text
  have hh : Hid (Tq W w R ta tc i l o L p all S) := h
  have SN := fun v => sign_name (nextT L p).2.1 v (hL.size p) b hb
  cases b with
  | false =>
    generalize (nextT L p).1 = y0 at *
    generalize (nextT L p).2.1 = y1 at *
    generalize (nextT L p).2.2.1 = y2 at *
    generalize (nextT L p).2.2.2 = y3 at *
    clear h hb hL
    go_enter Tryz.func85, Tryz.ntmps85
    go_wp2_with (first
      | (go_at_call 83; (with_reducible refine Calls.mono NX ?_); rintro e w1 ⟨rfl, d1⟩)
      | (go_at_call 69; (with_reducible refine Calls.mono (SN _) ?_); rintro e w2 ⟨rfl, d2⟩))
    go_ret2
    exact ⟨rfl, (hh.out.more d1).more d2, (Keep.of TY d1).more d2⟩
  | true =>
    have hp : p < L.length := by
      rcases Nat.lt_or_ge p L.length with q | q
      · exact q
      · rw [nextT_none (List.getElem?_eq_none q)] at hb
        exact absurd hb (by unfold nameB; rw [decide_eq_false (show ¬ (1 ≤ noText.size ∧ noText.size ≤ 40) from fun q => absurd q.1 (by show ¬ 1 ≤ 0; omega))]; simp)
    have SK := fun (v : World) (d : Below w.heap.size w v) => q_skip (h.more d) hp
    generalize (nextT L p).1 = y0 at *
    generalize (nextT L p).2.1 = y1 at *
    generalize (nextT L p).2.2.1 = y2 at *
    generalize (nextT L p).2.2.2 = y3 at *
    clear h hb hL hp
    go_enter Tryz.func85, Tryz.ntmps85
    go_wp2_with (first
      | (go_at_call 83; (with_reducible refine Calls.mono NX ?_); rintro e w1 ⟨rfl, d1⟩)
      | (go_at_call 69; (with_reducible refine Calls.mono (SN _) ?_); rintro e w2 ⟨rfl, d2⟩; have d3 := below_more d1 d2)
      | (go_at_call 84; (with_reducible refine Calls.mono (SK _ d3) ?_); rintro e w3 ⟨rfl, T3, K3⟩))
    go_ret2
    exact ⟨rfl, T3, (Keep.of TY d3).trans K3⟩
def expV (m : Bool) : Option Int → Int
  | some n => if m = true then -n else n
  | none => 0
set_option maxHeartbeats 8000000 in
theorem q_exponent (h : Tq W w R ta tc i l o L p all S) (hL : Toks L) (he : ErrV W) (m : Bool) (hm : ((nextT L p).2.1.toList == [45]) = m) (p1 : Nat) (hp1 : (if m = true then p + 1 else p) = p1) (x : Option Int) (hx : expA (nextT L p1).2.1 = x) :
    Calls Tryz.prog 162 #[.pointer (some ⟨R, 0, none⟩)] w fun e w' => e = .returned (.tuple #[.int .i64 (expV m x), .bool x.isSome]) ∧ Tq W w' R ta tc i l o L (if x.isSome = true then p1 + 1 else p1) all S ∧ Keep TY w w' := by
  have PS := q_pass h ⟨#[45]⟩ (by rw [toList_byte]; simp) m (by rw [toList_byte]; exact hm)
  rw [hp1] at PS
  have FD := fld_text
  have NX := fun (v : World) (T : Tq W v R ta tc i l o L p1 all S) => q_next T
  have EX := hL.exp p1
  by_cases hA : ∃ n, atoiAll (nextT L p1).2.1.data.toList = .ok n
  · obtain ⟨n, hA⟩ := hA
    have AT := fun (v : World) => str_atoi_ok (nextT L p1).2.1 (hL.size p1) n hA v
    unfold expA at hx
    rw [hA] at hx
    dsimp only at hx
    by_cases h20 : n ≤ 20
    · rw [if_pos h20] at hx
      subst hx
      have hk : 0 ≤ n ∧ p1 < L.length := by
        rcases EX with ⟨q, -⟩ | ⟨t, q1, q2, q3, q4, q5⟩
        · unfold expA at q; rw [hA] at q; dsimp only at q; rw [if_pos h20] at q; exact absurd q (by simp)
        · unfold expA at q5; rw [hA] at q5; dsimp only at q5; rw [if_pos h20] at q5
          injection q5 with q5
          exact ⟨by omega, (List.getElem?_eq_some_iff.1 q1).1⟩
      have SK := fun (v : World) (T : Tq W v R ta tc i l o L p1 all S) => q_skip T hk.2
      have k20 : ¬ (20 : Int) < n := by omega
      have wn : wrap64 (-n) = -n := by unfold wrap64; omega
      show Calls Tryz.prog _ _ w fun e w' => e = .returned (.tuple #[.int .i64 (if m = true then -n else n), .bool true]) ∧ Tq W w' R ta tc i l o L (p1 + 1) all S ∧ Keep TY w w'
      generalize (nextT L p1).1 = y0 at *
      generalize (nextT L p1).2.1 = y1 at *
      generalize (nextT L p1).2.2.1 = y2 at *
      generalize (nextT L p1).2.2.2 = y3 at *
      clear h hm hp1 hL he EX hk hA h20
      cases m with
      | false =>
        go_enter Tryz.func162, Tryz.ntmps162
        go_wp2_with (first
          | (go_at_call 53; (with_reducible refine Calls.mono PS ?_); rintro e w1 ⟨rfl, T1, K1⟩)
          | (go_at_call 83; (with_reducible refine Calls.mono (NX _ T1) ?_); rintro e w2 ⟨rfl, d2⟩; have T2 := T1.more d2)
          | (go_at_call 176; (with_reducible refine Calls.mono (AT _) ?_); rintro e w3 ⟨rfl, d3⟩; have T3 := T2.more d3)
          | (go_at_call 84; (with_reducible refine Calls.mono (SK _ T3) ?_); rintro e w4 ⟨rfl, T4, K4⟩))
        go_ret2
        exact ⟨rfl, T4, ((K1.more d2).more d3).trans K4⟩
      | true =>
        go_enter Tryz.func162, Tryz.ntmps162
        go_wp2_with (first
          | (go_at_call 53; (with_reducible refine Calls.mono PS ?_); rintro e w1 ⟨rfl, T1, K1⟩)
          | (go_at_call 83; (with_reducible refine Calls.mono (NX _ T1) ?_); rintro e w2 ⟨rfl, d2⟩; have T2 := T1.more d2)
          | (go_at_call 176; (with_reducible refine Calls.mono (AT _) ?_); rintro e w3 ⟨rfl, d3⟩; have T3 := T2.more d3)
          | (go_at_call 84; (with_reducible refine Calls.mono (SK _ T3) ?_); rintro e w4 ⟨rfl, T4, K4⟩))
        go_ret2
        exact ⟨rfl, T4, ((K1.more d2).more d3).trans K4⟩
    · rw [if_neg h20] at hx
      subst hx
      have k20 : (20 : Int) < n := by omega
      show Calls Tryz.prog _ _ w fun e w' => e = .returned (.tuple #[.int .i64 0, .bool false]) ∧ Tq W w' R ta tc i l o L p1 all S ∧ Keep TY w w'
      generalize (nextT L p1).1 = y0 at *
      generalize (nextT L p1).2.1 = y1 at *
      generalize (nextT L p1).2.2.1 = y2 at *
      generalize (nextT L p1).2.2.2 = y3 at *
      clear h hm hp1 hL he EX hA h20
      go_enter Tryz.func162, Tryz.ntmps162
      go_wp2_with (first
        | (go_at_call 53; (with_reducible refine Calls.mono PS ?_); rintro e w1 ⟨rfl, T1, K1⟩)
        | (go_at_call 83; (with_reducible refine Calls.mono (NX _ T1) ?_); rintro e w2 ⟨rfl, d2⟩; have T2 := T1.more d2)
        | (go_at_call 176; (with_reducible refine Calls.mono (AT _) ?_); rintro e w3 ⟨rfl, d3⟩; have T3 := T2.more d3))
      go_ret2
      exact ⟨rfl, T3, ((K1.more d2).more d3)⟩
  · have hA' : ∀ n, atoiAll (nextT L p1).2.1.data.toList ≠ .ok n := fun n q => hA ⟨n, q⟩
    have AT := fun (v : World) (hv : Below W.heap.size W v) => str_atoi_err (nextT L p1).2.1 (hL.size p1) hA' v (he.below hv)
    rw [expA_none hA'] at hx
    subst hx
    show Calls Tryz.prog _ _ w fun e w' => e = .returned (.tuple #[.int .i64 0, .bool false]) ∧ Tq W w' R ta tc i l o L p1 all S ∧ Keep TY w w'
    generalize (nextT L p1).1 = y0 at *
    generalize (nextT L p1).2.1 = y1 at *
    generalize (nextT L p1).2.2.1 = y2 at *
    generalize (nextT L p1).2.2.2 = y3 at *
    clear h hm hp1 hL he EX hA hA'
    go_enter Tryz.func162, Tryz.ntmps162
    go_wp2_with (first
      | (go_at_call 53; (with_reducible refine Calls.mono PS ?_); rintro e w1 ⟨rfl, T1, K1⟩)
      | (go_at_call 83; (with_reducible refine Calls.mono (NX _ T1) ?_); rintro e w2 ⟨rfl, d2⟩; have T2 := T1.more d2)
      | (go_at_call 176; (with_reducible refine Calls.mono (AT _ T2.below) ?_); rintro e w3 ⟨n, N, rfl, d3⟩; have T3 := T2.more d3))
    go_ret2
    exact ⟨rfl, T3, ((K1.more d2).more d3)⟩
end
end Go.Proofs.YtbcfplaalepnbaaGreatDoor
namespace Go.Proofs.YtbcfplaalepnbaaGreatDoor
open Go.RowKit
theorem sign_nl (s : Bool) (m : Nat) : (s && decide (0 < nl m)) = decide (iv s m < 0) := by
  rw [iv_neg]
  congr 1
  rw [Bool.eq_iff_iff]; simp only [decide_eq_true_eq]
  constructor
  · intro h; rcases Nat.eq_zero_or_pos m with e | e
    · rw [e, nl_zero] at h; omega
    · exact e
  · exact nl_pos
set_option maxHeartbeats 2000000 in
theorem whole_signed (s : Bool) (a : Option Addr) (n c : Nat) (w : World) (r : Bool) (hr : (s && decide (0 < n)) = r) :
    Calls Tryz.prog 170 #[.bool s, .slice a n c] w fun e w' => e = .returned (.agg #[.bool r, .slice a n c]) ∧ Below w.heap.size w w' := by
  cases s
  case' false => obtain ⟨r', HR⟩ : ∃ r' : Bool, Hid (r = false) := ⟨false, by rw [← hr]; exact (rfl : false = false)⟩
  case' true => obtain ⟨r', HR⟩ : ∃ r' : Bool, Hid (r = decide (0 < n)) := ⟨false, by rw [← hr]; exact (rfl : decide (0 < n) = decide (0 < n))⟩
  all_goals
    clear hr
    have q := fun o => (Below.refl _ w).alloc (Nat.le_refl _) o
    go_enter Tryz.func170, Tryz.ntmps170
    go_wp2
    exact bodyPost_ret (v := .agg #[.bool r, .slice a n c]) (by simp [results, Tryz.results170, go_sem, HR.out]) rfl ⟨by rw [HR.out], q _⟩
set_option maxHeartbeats 2000000 in
theorem whole_of (n : Int) (w : World) (h0 : -9223372036854775808 ≤ n) (h1 : n < 9223372036854775808) :
    Calls Tryz.prog 160 #[.int .i64 n] w (AnsI w n) := by
  obtain ⟨b1, bV, hs⟩ := boxes1 w #[.bool false, .slice none 0 0] 82
  have e0 := iv_self n
  have G := fun v a1 c1 => whole_signed (decide (n < 0)) a1 (nl n.natAbs) c1 v _ (by rw [sign_nl (decide (n < 0)) n.natAbs, e0])
  clear e0
  rcases Int.lt_or_le n 0 with h | h
  case' inl =>
    have O := fun v => nat_of (-n) v (by omega) (by omega)
    have e1 : IntKind.u64.wrap n = n + 18446744073709551616 := by simp [IntKind.wrap, IntKind.bits, IntKind.signed]; omega
    have e2 : IntKind.u64.wrap (0 - (n + 18446744073709551616)) = -n := by simp [IntKind.wrap, IntKind.bits, IntKind.signed]; omega
    have e3 : IntKind.u64.wrap (-(n + 18446744073709551616)) = -n := by simp [IntKind.wrap, IntKind.bits, IntKind.signed]; omega
    rw [show (-n).toNat = n.natAbs by omega] at O
    unfold AnsI
    rw [decide_eq_true h] at G ⊢
    obtain ⟨r, hr⟩ : ∃ r : Bool, r = true := ⟨_, rfl⟩
  case' inr =>
    have O := fun v => nat_of n v (by omega) (by omega)
    have e1 : IntKind.u64.wrap n = n := by simp [IntKind.wrap, IntKind.bits, IntKind.signed]; omega
    rw [show n.toNat = n.natAbs by omega] at O
    unfold AnsI
    rw [decide_eq_false (by omega : ¬ n < 0)] at G ⊢
    obtain ⟨r, hr⟩ : ∃ r : Bool, r = false := ⟨_, rfl⟩
  all_goals
    unfold Ans at O
    generalize n.natAbs = N at O G ⊢
    go_enter Tryz.func160, Tryz.ntmps160
    go_wp2_with (first
      | (go_at_call 168; (with_reducible refine Calls.mono (O _) ?_); rintro e w1 ⟨a1, c1, rfl, o1⟩)
      | (go_at_call 170; (with_reducible refine Calls.mono (G _ _ _) ?_); rintro e w2 ⟨rfl, d2⟩; obtain ⟨y0, y1, g0, g1⟩ := ((b1.more o1.below).more d2).cells2))
    have q := fun x y => (((o1.more d2).above bV).set (k := w.heap.size) (by omega) hs 0 x).set (k := w.heap.size) (by omega) hs 1 y
    exact bodyPost_ret (v := .agg #[.bool r, .slice a1 (nl N) c1]) (by simp [results, Tryz.results160, go_sem, y0, y1, hr]) rfl ⟨a1, c1, by rw [hr], (q _ _).own (by omega)⟩
end Go.Proofs.YtbcfplaalepnbaaGreatDoor
namespace Go.Proofs.YtbcfplaalepnbaaGreatDoor
open Go.RowKit
def ParseOk : Prop := ∀ (s : ByteArray) (w : World), s.size ≤ maxLen → Calls Tryz.prog 161 #[.string s] w (AnsP w (pnum s.data.toList) (perr s.data.toList))
def PrintOk : Prop := ∀ {a : Option Addr} {n c : Nat} {zs : List Int} {w : World}, IsWords w (.slice a n c) zs → Wd zs → n ≤ 1000000 → ∀ N : Nat, val zs = N →
    Calls Tryz.prog 164 #[.slice a n c] w fun e w' => e = .returned (.string ⟨(decOf N).toArray⟩) ∧ Below w.heap.size w w'
def DigitsOk : Prop := ∀ {a : Option Addr} {n c : Nat} {zs : List Int} {w : World}, IsWords w (.slice a n c) zs → Wd zs → n ≤ 1000000 → ∀ N : Nat, val zs = N →
    Calls Tryz.prog 153 #[.slice a n c] w fun e w' => e = .returned (.int .i64 ((decOf N).length : Nat)) ∧ Below w.heap.size w w'
end Go.Proofs.YtbcfplaalepnbaaGreatDoor
namespace Go.Proofs.YtbcfplaalepnbaaGreatDoor
open Go.RowKit Go.Lib
theorem take_byte (s : ByteArray) (k : Nat) (h : k < s.size) : s.data.toList.take (k + 1) = s.data.toList.take k ++ [s[k]] := by
  rw [List.take_succ_eq_append_getElem (by simpa using h)]; rfl
theorem below_iterAt' {w wr : World} (hb : Below w.heap.size w wr) (s : ByteArray) (pos : Nat) : Below w.heap.size w (wr.iterAt w.heap.size s pos) := below_iterAt hb (Nat.le_refl w.heap.size) s pos
theorem deci_ways (s : ByteArray) (h : DigS s.data.toList) :
    ((s.toList == [48]) = false ∧ s.toList.isEmpty = true ∧ (Num s.data.toList ↔ False)) ∨ ((s.toList == [48]) = true ∧ (Num s.data.toList ↔ True)) ∨
    ((s.toList == [48]) = false ∧ s.toList.isEmpty = false ∧ ∃ h : 0 < s.size, ((s[0]'h).toNat : Int) = 48 ∧ (Num s.data.toList ↔ False)) ∨
    ((s.toList == [48]) = false ∧ s.toList.isEmpty = false ∧ ∃ h : 0 < s.size, ((s[0]'h).toNat : Int) ≠ 48 ∧ (Num s.data.toList ↔ True)) := by
  have hl : s.data.toList.length = s.size := by simp
  by_cases h0 : 0 < s.size
  · have hd := drop_byte s 0 h0
    rw [List.drop_zero] at hd
    have ht : s.toList = s[0] :: s.data.toList.drop (0 + 1) := by rw [ByteArray.toList_eq]; exact hd
    by_cases e : s.toList = [48]
    · refine .inr (.inl ⟨by rw [e]; rfl, ?_⟩)
      rw [ByteArray.toList_eq] at e
      rw [e]
      exact ⟨fun _ => trivial, fun _ => by decide⟩
    · have e1 : (s.toList == [48]) = false := by simpa using e
      have e2 : s.toList.isEmpty = false := by rw [ht]; rfl
      by_cases hc : ((s[0]'h0).toNat : Int) = 48
      · refine .inr (.inr (.inl ⟨e1, e2, h0, hc, ?_⟩))
        have h48 : s[0] = 48 := UInt8.toNat_inj.1 (by show s[0].toNat = 48; omega)
        refine ⟨fun hn => e ?_, False.elim⟩
        have := hn.2.2 (by rw [hd, h48]; rfl)
        rw [ht, h48, List.eq_nil_of_length_eq_zero (l := s.data.toList.drop (0 + 1)) (by rw [List.length_drop]; omega)]
      · refine .inr (.inr (.inr ⟨e1, e2, h0, hc, ?_⟩))
        refine ⟨fun _ => trivial, fun _ => ⟨by rw [hd]; simp, h, fun hh => ?_⟩⟩
        rw [hd] at hh
        have h48 : s[0] = 48 := Option.some.inj hh
        exact absurd (by rw [h48]; rfl) hc
  · have e : s.data.toList = [] := List.eq_nil_of_length_eq_zero (by omega)
    have ht : s.toList = [] := by rw [ByteArray.toList_eq]; exact e
    exact .inl ⟨by rw [ht]; rfl, by rw [ht]; rfl, fun hn => hn.1 e, False.elim⟩
set_option maxHeartbeats 4000000 in
theorem deci_isNumber (s : ByteArray) (w : World) (hs : s.size ≤ 1000) (b : Bool) (hb : (b = true ↔ Num s.data.toList)) :
    Calls Tryz.prog 174 #[.string s] w fun e w' => e = .returned (.bool b) ∧ Below w.heap.size w w' := by
  have HB : Hid (b = true ↔ Num s.data.toList) := hb
  have HS : Hid (s.data.toList.length = s.size ∧ s.size ≤ 1000) := ⟨by simp, hs⟩
  clear hb hs
  go_enter Tryz.func174, Tryz.ntmps174
  go_wp2
  go_loopg [4] s.size (fun k s4 v => ∃ (pos : Nat), pos + k = s.size ∧ v.heap[w.heap.size]? = some (.stringIter s pos) ∧ Below w.heap.size w v ∧ DigS (s.data.toList.take pos))
  case atStart => exact ⟨0, by omega, iter_new w s, below_iter w s 0, by rw [List.take_zero]; intro c hc; cases hc⟩
  case round =>
    obtain ⟨pos, hk, hit, bw, hd⟩ := hrel
    have HD : Hid (DigS (s.data.toList.take pos)) := hd
    cases gk with
    | zero =>
      have e : s.data.toList.take pos = s.data.toList := List.take_of_length_le (by rw [HS.out.1]; omega)
      rw [e] at hd
      have hnx : ∀ ty, (Instr.next (.pointer (some ⟨w.heap.size, 0, none⟩)) true ty).run Tryz.prog wr = _ := fun ty => run_next_end_at wr w.heap.size s pos ty hit (by omega)
      have HD2 : Hid (DigS s.data.toList) := hd
      clear e hd HD hit hk
      rcases deci_ways s HD2.out with ⟨c1, c2, c3⟩ | ⟨c1, c3⟩ | ⟨c1, c2, c0, c4, c3⟩ | ⟨c1, c2, c0, c4, c3⟩
      all_goals
        have HC : Hid (b = true ↔ _) := HB.out.trans c3
        clear c3
        go_wp2
        go_ret
        exact ⟨ret_bool (by rw [Bool.eq_iff_iff, HC.out]; first | (simp; done) | simpa using c4), bw⟩
    | succ k =>
      have hp : pos < s.size := by omega
      by_cases hdig : 48 ≤ (s[pos].toNat : Int) ∧ (s[pos].toNat : Int) ≤ 57
      · obtain ⟨c0, c1⟩ := hdig
        have hnx : ∀ ty, (Instr.next (.pointer (some ⟨w.heap.size, 0, none⟩)) true ty).run Tryz.prog wr = _ := fun ty => run_next_ascii_at wr w.heap.size s pos ty hit hp (by omega)
        have HD2 : Hid (DigS (s.data.toList.take (pos + 1))) := by
          show DigS _
          rw [take_byte s pos hp, digS_append, digS_one]; exact ⟨hd, by omega⟩
        have hi2 := iterAt_heap wr w.heap.size s pos (pos + 1) hit
        have hbl := below_iterAt' bw s (pos + 1)
        generalize wr.iterAt w.heap.size s (pos + 1) = wi at hnx hi2 hbl
        clear hd HD hit
        go_wp2
        go_roundg k
        case measure => omega
        case rel => exact ⟨pos + 1, by omega, hi2, hbl, HD2.out⟩
      · have hn : ¬ Num s.data.toList := fun hN => hdig (by have := hN.2.1 s[pos] (by rw [← List.take_append_drop pos s.data.toList, drop_byte s pos hp]; simp); omega)
        have hbf : b = false := by
          cases b with
          | false => rfl
          | true => exact absurd (HB.out.1 rfl) hn
        have HQ : Hid (b = false) := hbf
        have hdec := decode_not hp (a := 48) (b := 57) (by omega) (by omega)
        have hnx : ∀ ty, (Instr.next (.pointer (some ⟨w.heap.size, 0, none⟩)) true ty).run Tryz.prog wr = _ := fun ty => run_next_any_at wr w.heap.size s pos ty hit hp
        have hbl := below_iterAt' bw s (pos + (Utf8.decode s pos).2)
        generalize wr.iterAt w.heap.size s (pos + (Utf8.decode s pos).2) = wi at hnx hbl
        generalize (Utf8.decode s pos).1 = r at hnx hdec
        clear hd HD hit hn hbf hdig
        rcases (by omega : (r : Int) < 48 ∨ (¬ (r : Int) < 48 ∧ 57 < (r : Int))) with d0 | ⟨d0, d1⟩
        all_goals
          clear hdec
          go_wp2
          go_ret
          exact ⟨by rw [HQ.out]; rfl, hbl⟩
set_option maxHeartbeats 4000000 in
theorem deci_parse : ParseOk := by
  intro s w hs
  unfold maxLen at hs
  have hsz : s.data.toList.length = s.size := by simp
  by_cases h1 : 1000 < s.size
  · rw [pnum_long (by omega), perr_long (by omega)]
    clear hsz
    go_enter Tryz.func161, Tryz.ntmps161
    go_wp2
    go_ret2
    exact ansP_no (Below.refl _ _)
  have h1' : ¬ (1000 : Int) < (s.size : Int) := by omega
  by_cases hn : Num s.data.toList
  case neg =>
    rw [pnum_no hn, perr_no (by omega) hn]
    have N1 := fun v => deci_isNumber s v (by omega) false (by simpa using hn)
    clear hsz hs hn
    go_enter Tryz.func161, Tryz.ntmps161
    go_wp2_with (go_at_call 174; (with_reducible refine Calls.mono (N1 _) ?_); rintro e w1 ⟨rfl, b1⟩)
    go_ret2
    exact ansP_no b1
  case pos =>
    rw [pnum_ok (by omega) hn, perr_ok (by omega) hn]
    have N1 := fun v => deci_isNumber s v (by omega) true (by simpa using hn)
    have HN : Hid (DigS s.data.toList ∧ s.data.toList.length = s.size) := ⟨hn.2.1, hsz⟩
    clear hsz hs hn
    go_enter Tryz.func161, Tryz.ntmps161
    go_wp2_with (go_at_call 174; (with_reducible refine Calls.mono (N1 _) ?_); rintro e w1 ⟨rfl, b1⟩)
    clear N1
    go_loopg [4, 6] s.size (fun k s4 s6 v => ∃ (pos : Nat) (a4 : Option Addr) (n4 c4 : Nat), pos + k = s.size ∧ v.heap[w1.heap.size]? = some (.stringIter s pos) ∧ s4 = .slice a4 n4 c4 ∧ n4 = nl (valD (s.data.toList.take pos)) ∧ Own w v (.slice a4 n4 c4) n4 (natOf (valD (s.data.toList.take pos))))
    case atStart =>
      refine ⟨0, none, 0, 0, by omega, iter_new w1 s, rfl, ?_, ?_⟩
      · rw [List.take_zero, valD_nil, nl_zero]
      · rw [List.take_zero, valD_nil, natOf_zero]; exact Own.nil (below_more b1 (below_iter w1 s 0))
    case round =>
      obtain ⟨pos, a4, n4, c4, hk, hit, rfl, e4, o4⟩ := hrel
      cases gk with
      | zero =>
        have e : s.data.toList.take pos = s.data.toList := List.take_of_length_le (by rw [HN.out.2]; omega)
        rw [e] at e4 o4
        subst e4
        have hnx : ∀ ty, (Instr.next (.pointer (some ⟨w1.heap.size, 0, none⟩)) true ty).run Tryz.prog wr = _ := fun ty => run_next_end_at wr w1.heap.size s pos ty hit (by omega)
        clear e hit hk
        go_wp2
        go_ret2
        exact ⟨_, _, rfl, o4⟩
      | succ k =>
        have hp : pos < s.size := by omega
        have hsize : w.heap.size ≤ w1.heap.size := b1.size
        have hdig := HN.out.1 s[pos] (by rw [← List.take_append_drop pos s.data.toList, drop_byte s pos hp]; simp)
        have c0 : 48 ≤ (s[pos].toNat : Int) := by omega
        have c1 : (s[pos].toNat : Int) ≤ 57 := by omega
        have hd : DigS (s.data.toList.take pos) := fun c hc => HN.out.1 c (List.mem_of_mem_take hc)
        have hnx : ∀ ty, (Instr.next (.pointer (some ⟨w1.heap.size, 0, none⟩)) true ty).run Tryz.prog wr = _ := fun ty => run_next_ascii_at wr w1.heap.size s pos ty hit hp (by omega)
        have b4 := nl_digits hd
        have hlen := List.length_take_le pos s.data.toList
        have O1 := fun v (p : IsWords v (.slice a4 n4 c4) (natOf (valD (s.data.toList.take pos)))) => times_one' p (wd_natOf _) (x := 10) (y := (s[pos].toNat : Int) - 48) (by omega) (by omega) (by omega) (by omega) (by omega) (valD (s.data.toList.take (pos + 1))) (by rw [val_natOf, take_byte s pos hp, valD_snoc, show (10 : Int).toNat = 10 from rfl]; omega)
        unfold Ans at O1
        generalize valD (s.data.toList.take pos) = K1 at e4 o4 b4 O1
        generalize hK2 : valD (s.data.toList.take (pos + 1)) = K2 at O1
        have HK : Hid (valD (s.data.toList.take (pos + 1)) = K2) := hK2
        have oi := o4.iterAt hit hsize (pos + 1)
        have hi2 := iterAt_heap wr w1.heap.size s pos (pos + 1) hit
        generalize wr.iterAt w1.heap.size s (pos + 1) = wi at hnx oi hi2
        clear hK2 hd b4 e4 hit hlen hdig
        go_wp2_with (go_at_call 175; (with_reducible refine Calls.mono (O1 _ oi.words) ?_); rintro e w2 ⟨a6, c6, rfl, o6⟩)
        have k2 := HK.out
        go_roundg k
        case measure => omega
        case rel => exact ⟨pos + 1, _, _, _, by omega, iter_more hi2 o6.below, rfl, by rw [k2], by rw [k2]; exact o6.outer oi.below⟩
end Go.Proofs.YtbcfplaalepnbaaGreatDoor
namespace Go.Proofs.YtbcfplaalepnbaaGreatDoor
def pad : Nat → Nat → List UInt8
  | 0, _ => []
  | k + 1, g => pad k (g / 10) ++ [UInt8.ofNat (48 + g % 10)]
theorem pad_len (k g : Nat) : (pad k g).length = k := by
  induction k generalizing g with
  | zero => rfl
  | succ k ih => rw [pad, List.length_append, ih, List.length_singleton]
theorem digS_pad (k g : Nat) : DigS (pad k g) := by
  induction k generalizing g with
  | zero => intro c hc; cases hc
  | succ k ih => rw [pad, digS_append, digS_one, digit_nat]; exact ⟨ih _, by omega⟩
theorem valD_pad (k g : Nat) : valD (pad k g) = g % 10 ^ k := by
  induction k generalizing g with
  | zero => rw [Nat.pow_zero, Nat.mod_one]; rfl
  | succ k ih =>
    rw [pad, valD_snoc, ih, digit_nat, Nat.pow_succ, Nat.mul_comm (10 ^ k) 10, Nat.mod_mul]
    omega
theorem valD_group (l : List UInt8) {k g : Nat} (h : g < 10 ^ k) : valD (l ++ pad k g) = valD l * 10 ^ k + g := by
  rw [valD_append, pad_len, valD_pad, Nat.mod_eq_of_lt h]
theorem trim_dg {l : List UInt8} (h : DigS l) : l.dropWhile (· == 48) = dg (valD l) := by
  induction l with
  | nil => rw [valD_nil, dg_zero]; rfl
  | cons c l ih =>
    obtain ⟨hc, hl⟩ := digS_cons.1 h
    by_cases e : c = 48
    · subst e
      rw [List.dropWhile_cons_of_pos (by decide), ih hl, valD_cons]
      congr 1
      simp
    · rw [List.dropWhile_cons_of_neg (by simpa using e)]
      exact (dg_valD h (by simpa using e)).symm
theorem told_step (N B j : Nat) : N / B ^ (j + 1) * B + N / B ^ j % B = N / B ^ j := by
  rw [Nat.pow_succ, ← Nat.div_div_eq_div_mul]
  have := Nat.div_add_mod (N / B ^ j) B
  rw [Nat.mul_comm] at this
  exact this
end Go.Proofs.YtbcfplaalepnbaaGreatDoor
namespace Go.Proofs.YtbcfplaalepnbaaGreatDoor
open Go.RowKit
def Grps (N m : Nat) (zs : List Int) : Prop := zs.length = m ∧ ∀ i, i < m → zs.getD i 0 = ((N / 1000000000 ^ i % 1000000000 : Nat) : Int)
theorem grps_nil (N : Nat) : Grps N 0 [] := ⟨rfl, fun i h => absurd h (Nat.not_lt_zero i)⟩
theorem grps_more {N m : Nat} {zs : List Int} (h : Grps N m zs) : Grps N (m + 1) (zs ++ [((N / 1000000000 ^ m % 1000000000 : Nat) : Int)]) := by
  refine ⟨by rw [List.length_append, h.1, List.length_singleton], fun i hi => ?_⟩
  rcases Nat.lt_or_ge i m with h1 | h1
  · rw [List.getD_eq_getElem?_getD, List.getElem?_append_left (by rw [h.1]; exact h1), ← List.getD_eq_getElem?_getD]; exact h.2 i h1
  · obtain rfl : i = m := by omega
    rw [List.getD_eq_getElem?_getD, List.getElem?_append_right (by rw [h.1]; exact Nat.le_refl _), h.1, Nat.sub_self]; rfl
theorem grps_few {N m : Nat} (h : 0 < N / 1000000000 ^ m) : m < 2 * nl N := by
  have h1 : 1000000000 ^ m ≤ N := by
    rcases Nat.lt_or_ge N (1000000000 ^ m) with h2 | h2
    · rw [Nat.div_eq_of_lt h2] at h; omega
    · exact h2
  have h2 : 65536 ^ m ≤ 1000000000 ^ m := Nat.pow_le_pow_left (by omega) m
  have h3 := lt_nl N
  have h4 : 4294967296 ^ nl N = 65536 ^ (2 * nl N) := by rw [Nat.pow_mul]
  rw [h4] at h3
  exact (Nat.pow_lt_pow_iff_right (by omega : 1 < 65536)).1 (by omega)
set_option maxHeartbeats 4000000 in
theorem deci_groups {a : Option Addr} {n c : Nat} {zs : List Int} {w : World} (h : IsWords w (.slice a n c) zs) (hz : Wd zs) (hn : n ≤ 1000000) (N : Nat) (hN : val zs = N) :
    Calls Tryz.prog 181 #[.slice a n c] w fun e w' => ∃ (a' : Option Addr) (m c' : Nat) (ys : List Int), e = .returned (.slice a' m c') ∧ Own w w' (.slice a' m c') m ys ∧ Grps N m ys ∧ N < 1000000000 ^ m ∧ m ≤ 2000000 := by
  have lN : nl N ≤ 1000000 := by rw [← hN]; exact nl_small hz _ (by rw [h.len]; exact hn)
  have HL : Hid (nl N ≤ 1000000) := lN
  have HI : Hid (IsWords w (.slice a n c) zs ∧ Wd zs ∧ n ≤ 1000000 ∧ val zs = N) := ⟨h, hz, hn, hN⟩
  clear h hz hn hN lN
  go_enter Tryz.func181, Tryz.ntmps181
  go_wp2
  go_loopg [0, 3] N (fun X s0 s3 v => ∃ (a0 : Option Addr) (n0 c0 : Nat) (xs : List Int) (a3 : Option Addr) (m c3 : Nat) (ys : List Int), s0 = .slice a0 n0 c0 ∧ s3 = .slice a3 m c3 ∧ IsWords v (.slice a0 n0 c0) xs ∧ Wd xs ∧ n0 ≤ 1000000 ∧ val xs = X ∧ Own w v (.slice a3 m c3) m ys ∧ Grps N m ys ∧ X = N / 1000000000 ^ m ∧ m ≤ 2000000)
  case atStart =>
    obtain ⟨i1, i2, i3, i4⟩ := HI.out
    exact ⟨_, _, _, zs, none, 0, 0, [], rfl, rfl, i1, i2, i3, i4, Own.nil (Below.refl _ _), grps_nil N, by simp, by omega⟩
  case round =>
    obtain ⟨a0, n0, c0, xs, a3, m, c3, ys, rfl, rfl, i0, hw, hn0, hX, o3, hg, hX2, hm⟩ := hrel
    clear HI
    have B1 := fun (N1 : Int) (e : (nbits (val xs) : Int) = N1) => nat_bits' i0 hw (by omega) N1 e
    rw [hX] at B1
    rcases Nat.eq_zero_or_pos gk with h0 | h0
    · subst h0
      have B2 := B1 0 (by rw [nbits_zero]; rfl)
      have HQ : Hid (N < 1000000000 ^ m) := by
        show N < _
        rcases Nat.lt_or_ge N (1000000000 ^ m) with h2 | h2
        · exact h2
        · have := Nat.div_pos h2 (Nat.pow_pos (by omega)); omega
      clear B1 hX2 hX i0 hw
      go_wp2_with (go_at_call 171; (with_reducible refine Calls.mono B2 ?_); rintro e w1 ⟨rfl, rfl⟩)
      go_ret
      exact ⟨_, _, _, ys, rfl, o3, hg, HQ.out, hm⟩
    · obtain ⟨nb, hnb, nb0⟩ : ∃ nb : Int, (nbits gk : Int) = nb ∧ 0 < nb := ⟨_, rfl, by rw [nbits_pos (by omega)]; omega⟩
      have B2 := B1 nb hnb
      have S := split_small a0 n0 c0 xs 1000000000 wr i0 hw (by omega) (by omega) (by omega)
      rw [hX, show (1000000000 : Int).toNat = 1000000000 from rfl] at S
      unfold AnsSmall at S
      have hlt : m < 2 * nl N := grps_few (by rw [← hX2]; exact h0)
      obtain ⟨r, hr⟩ : ∃ r : Int, ((gk % 1000000000 : Nat) : Int) = r := ⟨_, rfl⟩
      have HG : Hid (Grps N (m + 1) (ys ++ [r])) := by
        show Grps N (m + 1) _
        rw [← hr, hX2]; exact grps_more hg
      have HX : Hid (gk / 1000000000 = N / 1000000000 ^ (m + 1)) := by
        show _ = _
        rw [hX2, Nat.pow_succ, Nat.div_div_eq_div_mul]
      have HM : Hid (m + 1 ≤ 2000000 ∧ nl (gk / 1000000000) ≤ 1000000 ∧ 0 < gk) := ⟨by have := HL.out; omega, Nat.le_trans (nl_mono (Nat.le_trans (Nat.div_le_self _ _) (by rw [hX2]; exact Nat.div_le_self _ _))) HL.out, h0⟩
      have hm1 : m + 1 ≤ 35184372088832 := by omega
      rw [hr] at S
      clear B1 hX2 hX i0 hw hg hr hnb hn0 h0 hlt hm
      go_wp2_with (first
        | (go_at_call 171; (with_reducible refine Calls.mono B2 ?_); rintro e w1 ⟨rfl, rfl⟩)
        | (go_at_call 198; (with_reducible refine Calls.mono S ?_); rintro e w2 ⟨a4, c4, rfl, o4⟩; have o5 := o3.more o4.below)
        | (at_builtin; refine wpl_append_words (.tmp 14) (.tmp 16) rfl rfl w _ _ _ m 1 ys [r] rfl rfl (o5.alloc _) (lit_words w2 [r] 1 rfl (by decide)) rfl (m + 1) rfl hm1 ?_; intro a6 c6 w6 o6 g6))
      obtain ⟨m1, m2, m3⟩ := HM.out
      go_roundg (gk / 1000000000)
      case measure => omega
      case rel =>
        have r4 : Row wr.heap.size w6 (.slice a4 (nl (gk / 1000000000)) c4) (nl (gk / 1000000000)) (natOf (gk / 1000000000)) := ((o4.alloc _).row (Nat.le_refl _)).grown g6 (fun k hk => o3.row_lt k hk)
        exact ⟨_, _, _, _, _, _, _, _, rfl, rfl, r4.words, wd_natOf _, m2, val_natOf _, o6, HG.out, HX.out, m1⟩
end Go.Proofs.YtbcfplaalepnbaaGreatDoor
namespace Go.Proofs.YtbcfplaalepnbaaGreatDoor
open Go.RowKit
theorem infoU8 : (Tryz.prog.info? 5).map (fun i => (i.zero, i.size, i.bytes)) = some (some (.int .u8 0), 1, 1) := by kernel_rfl
def RowB (n₀ : Nat) (w : World) (v : Value) (n : Nat) (bs : List UInt8) : Prop := w.ownsRow n₀ 5 1 v n (bs.map fun b => Value.int .u8 (b.toNat : Int))
theorem RowB.length {w : World} {v : Value} {n : Nat} {bs : List UInt8} {n₀ : Nat} (h : RowB n₀ w v n bs) : bs.length = n := by
  have := h.1; simpa using this
theorem RowB.nil (n₀ : Nat) (w : World) : RowB n₀ w (.slice none 0 0) 0 [] := World.ownsRow_nil _ _ _ _
theorem RowB.more {w w' : World} {v : Value} {n : Nat} {bs : List UInt8} {n₀ : Nat} (h : RowB n₀ w v n bs) (hb : Below w.heap.size w w') : RowB n₀ w' v n bs := by
  refine ⟨h.1, ?_⟩
  rcases h.2 with h0 | ⟨g, cap, cur, e, h1, hg, h2⟩
  · exact .inl h0
  · refine .inr ⟨g, cap, cur, e, h1, ?_, h2⟩
    rw [hb.block g (Array.getElem?_eq_some_iff.1 hg).1]; exact hg
theorem RowB.keep {w w' : World} {v : Value} {n : Nat} {bs : List UInt8} {n₀ : Nat} (h : RowB n₀ w v n bs) (hb : ∀ k, n₀ ≤ k → w'.heap[k]? = w.heap[k]?) : RowB n₀ w' v n bs := by
  refine ⟨h.1, ?_⟩
  rcases h.2 with h0 | ⟨g, cap, cur, e, h1, hg, h2⟩
  · exact .inl h0
  · exact .inr ⟨g, cap, cur, e, h1, (hb g h1).trans hg, h2⟩
theorem RowB.alloc {w : World} {v : Value} {n : Nat} {bs : List UInt8} {n₀ : Nat} (h : RowB n₀ w v n bs) (o : Obj) : RowB n₀ (w.alloc o) v n bs := World.ownsRow.alloc h o
theorem RowB.lit {w : World} {v : Value} {n : Nat} {bs : List UInt8} {n₀ : Nat} (h : RowB n₀ w v n bs) : ∃ a c, v = .slice a n c := by
  rcases h.2 with ⟨rfl, rfl⟩ | ⟨g, cap, cur, rfl, -⟩
  · exact ⟨none, 0, rfl⟩
  · exact ⟨_, _, rfl⟩
theorem RowB.cell {w : World} {a : Option Addr} {n c : Nat} {bs : List UInt8} {n₀ : Nat} (h : RowB n₀ w (.slice a n c) n bs) : (a = none ∧ bs = []) ∨ ∃ g, a = some ⟨g, 0, none⟩ ∧ ∀ j (hj : j < bs.length), w.cell? ((⟨g, 0, none⟩ : Addr).add j) = some (.int .u8 (bs[j].toNat : Int)) := by
  have hl := h.length
  rcases h.2 with ⟨e, h0⟩ | ⟨g, cap, cur, e, h1, h2⟩
  · simp only [Value.slice.injEq] at e
    exact .inl ⟨e.1, List.eq_nil_of_length_eq_zero (by omega)⟩
  · simp only [Value.slice.injEq] at e
    obtain ⟨rfl, -, -⟩ := e
    refine .inr ⟨g, rfl, fun j hj => ?_⟩
    refine World.ownsRow.cells h (g := g) rfl j _ ?_
    simp [hj]
theorem wpl_append_byte {ops : Array Oper} {rest : List Oper} {o : Oper} {a : Act} {Q : Exit → Act → World → Prop} (s x : Operand)
    (ho : o.op = .call { callee := .builtin .append, args := #[s, x], argTypes := #[129, 129] }) (hgd : Region.wanted o (yielded ops a.tmps) = true)
    (n₀ : Nat) (w : World) (v : Value) (n : Nat) (bs : List UInt8) (b : UInt8) (z : Int) (hz : (b.toNat : Int) = z) (hs : a.eval s = v) (hx : a.eval x = .slice (some ⟨w.heap.size, 0, none⟩) 1 1) (hrow : RowB n₀ w v n bs) (h0 : n₀ ≤ w.heap.size) (N : Nat) (hN : n + 1 = N) (hle : N ≤ 35184372088832)
    (h : ∀ a' c' w', RowB n₀ w' (.slice a' N c') N (bs ++ [b]) → Below n₀ w w' → wpList Tryz.prog ops Q rest (a.put o.dst (.slice a' N c')) w') : wpList Tryz.prog ops Q (o :: rest) a (w.alloc (.cells #[.int .u8 z] 5)) := by
  subst hN
  subst hz
  obtain ⟨i, hi, hz, hs1, hby⟩ := info_parts infoU8
  have hmax : n + 1 ≤ maxLen := by unfold maxLen; omega
  refine wpList_step fun K hK => ?_
  rw [if_pos hgd]
  refine wp_append_own (P := Tryz.prog) _ s x 129 ho n₀ 5 i (.int .u8 0) 1 1 Tryz.underlying129 hi hz hs1 hby rfl (by decide) v n _ hs (hrow.alloc _) ⟨w.heap.size, 0, none⟩ 1 1 [.int .u8 (b.toNat : Int)] hx rfl ?_ (by intro u hu; simp at hu; subst hu; rfl) (by omega) (by omega) (by simp; omega) ?_
  · intro j u hj
    rw [Go.WideShapes.add_plain]
    have : j = 0 := by
      have := (List.getElem?_eq_some_iff.1 hj).1
      simp at this; exact this
    subst this
    simp at hj
    subst hj
    simp
  · intro v' w' h1 h2 _
    have hb : Below n₀ w w' := by
      refine ((Below.refl n₀ w).alloc h0 _).grown h2 (by simp; omega) (fun k hk => ?_)
      exact (World.ownsRow.lt (hrow.alloc (.cells #[.int .u8 (b.toNat : Int)] 5)) k hk).1
    have hnew : RowB n₀ w' v' (n + 1) (bs ++ [b]) := by unfold RowB; rw [List.map_append]; exact h1
    obtain ⟨a', c', rfl⟩ := hnew.lit
    exact hK _ _ (h a' c' w' hnew hb)
end Go.Proofs.YtbcfplaalepnbaaGreatDoor
namespace Go.Proofs.YtbcfplaalepnbaaGreatDoor
open Go.RowKit
theorem pad_next (g t : Nat) (ht : t < 9) : pad (9 - t) (g / 10 ^ t) = pad (9 - (t + 1)) (g / 10 ^ (t + 1)) ++ [UInt8.ofNat (48 + g / 10 ^ t % 10)] := by
  rw [show 9 - t = (9 - (t + 1)) + 1 by omega, pad, Nat.pow_succ, Nat.div_div_eq_div_mul]
set_option maxHeartbeats 4000000 in
theorem deci_appendGroup (n₀ : Nat) (a : Option Addr) (n c : Nat) (bs : List UInt8) (g : Int) (w : World) (h : RowB n₀ w (.slice a n c) n bs) (h0 : n₀ ≤ w.heap.size) (hn : n ≤ 1000000000) (g0 : 0 ≤ g) (g1 : g < 4294967296) :
    Calls Tryz.prog 182 #[.slice a n c, .int .u32 g] w fun e w' => ∃ (a' : Option Addr) (c' : Nat), e = .returned (.slice a' (n + 9) c') ∧ RowB n₀ w' (.slice a' (n + 9) c') (n + 9) (bs ++ pad 9 g.toNat) ∧ Below n₀ w w' := by
  have HI : Hid (RowB n₀ w (.slice a n c) n bs ∧ n₀ ≤ w.heap.size ∧ n ≤ 1000000000) := ⟨h, h0, hn⟩
  clear h h0 hn
  go_enter Tryz.func182, Tryz.ntmps182
  go_wp2
  go_loopg [0, 5] 9 (fun k s0 s5 v => ∃ (a0 : Option Addr) (m c0 : Nat), k ≤ 9 ∧ s0 = .slice a0 m c0 ∧ s5 = .int .u32 ((10 ^ k / 10 : Nat) : Int) ∧ m + k = n + 9 ∧ RowB n₀ v (.slice a0 m c0) m (bs ++ pad (9 - k) (g.toNat / 10 ^ k)) ∧ Below n₀ w v)
  case atStart =>
    obtain ⟨i1, i2, i3⟩ := HI.out
    refine ⟨a, n, c, Nat.le_refl _, rfl, rfl, rfl, ?_, Below.refl _ _⟩
    rw [Nat.sub_self]
    simpa [pad] using i1
  case round =>
    obtain ⟨a0, m, c0, hk, rfl, rfl, hm, r0, b0⟩ := hrel
    cases gk with
    | zero =>
      obtain rfl : m = n + 9 := by omega
      rw [Nat.sub_zero, Nat.pow_zero, Nat.div_one] at r0
      rw [show ((10 ^ 0 / 10 : Nat) : Int) = 0 from rfl]
      clear hm hk
      go_wp2
      go_ret
      exact ⟨_, _, rfl, r0, b0⟩
    | succ t =>
      have hn2 := HI.out.2.2
      have hpt : 10 ^ (t + 1) / 10 = 10 ^ t := by rw [Nat.pow_succ]; omega
      have hp1 : 10 ^ t ≤ 10 ^ 8 := Nat.pow_le_pow_right (by omega) (by omega)
      have hp0 : 0 < 10 ^ t := Nat.pow_pos (by omega)
      have HP := pad_next g.toNat t (by omega)
      have HU : Hid (((10 ^ t / 10 : Nat) : Int) = ((10 ^ t : Nat) : Int) / 10) := by show _ = _; rw [Int.natCast_ediv]; rfl
      rw [hpt]
      have e1 : ((g.toNat / 10 ^ t % 10 : Nat) : Int) = g / ((10 ^ t : Nat) : Int) % 10 := by
        rw [Int.natCast_emod, Int.natCast_ediv, Int.toNat_of_nonneg g0]; rfl
      have hd : ((UInt8.ofNat (48 + g.toNat / 10 ^ t % 10)).toNat : Int) = 48 + g / ((10 ^ t : Nat) : Int) % 10 := by rw [digit_nat, ← e1]; omega
      generalize UInt8.ofNat (48 + g.toNat / 10 ^ t % 10) = b at HP hd
      have HP2 : Hid (pad (9 - t) (g.toNat / 10 ^ t) = pad (9 - (t + 1)) (g.toNat / 10 ^ (t + 1)) ++ [b]) := HP
      have u1 : ((10 ^ t : Nat) : Int) ≤ 100000000 := by
        have : (10 : Nat) ^ 8 = 100000000 := rfl
        omega
      have u0 : 0 < ((10 ^ t : Nat) : Int) := by omega
      generalize ((10 ^ t : Nat) : Int) = u at u0 u1 hd HU
      have hsz := Nat.le_trans HI.out.2.1 b0.size
      generalize hl : bs ++ pad (9 - (t + 1)) (g.toNat / 10 ^ (t + 1)) = l at r0
      have HL : Hid (bs ++ pad (9 - (t + 1)) (g.toNat / 10 ^ (t + 1)) = l) := hl
      have q0 : 0 ≤ g / u := Int.ediv_nonneg g0 (by omega)
      have q1 : g / u ≤ g := Int.ediv_le_self _ g0
      clear hpt hp1 hp0 HP e1 hl HI
      have hm1 : m + 1 ≤ 35184372088832 := by omega
      go_wp2_with (at_builtin; refine wpl_append_byte (.tmp 10) (.tmp 17) rfl rfl n₀ wr _ m l b (48 + g / u % 10) hd rfl rfl r0 hsz (m + 1) rfl hm1 ?_; intro a6 c6 w6 r6 b6)
      go_roundg t
      case measure => omega
      case rel => exact ⟨_, _, _, by omega, rfl, by rw [HU.out], by omega, by rw [HP2.out, ← List.append_assoc, HL.out]; exact r6, b0.trans b6⟩
end Go.Proofs.YtbcfplaalepnbaaGreatDoor
namespace Go.Proofs.YtbcfplaalepnbaaGreatDoor
open Go.RowKit
theorem extract_tl (t : ByteArray) (b : UInt8) (l : List UInt8) (h : t.data.toList = b :: l) : (t.extract 1 t.size).data.toList = l := by
  have hl := congrArg List.length h
  have : t.size = l.length + 1 := by simpa using hl
  rw [ByteArray.data_extract, Array.toList_extract, List.extract_eq_take_drop, h]
  simp [this]
set_option maxHeartbeats 2000000 in
theorem trim_byte (s : ByteArray) (w : World) (hs : s.size ≤ maxLen) :
    Calls Tryz.prog 199 #[.string s, .int .u8 48] w fun e w' => e = .returned (.string ⟨(s.data.toList.dropWhile (· == 48)).toArray⟩) ∧ w = w' := by
  obtain ⟨L, hL⟩ : ∃ L, s.data.toList.dropWhile (· == 48) = L := ⟨_, rfl⟩
  rw [hL]
  have HL : Hid (s.data.toList.dropWhile (· == 48) = L ∧ s.size ≤ maxLen) := ⟨hL, hs⟩
  clear hL hs
  go_enter Tryz.func199, Tryz.ntmps199
  go_wp2
  go_loopg [0] s.size (fun k s0 v => ∃ t : ByteArray, s0 = .string t ∧ t.size = k ∧ k ≤ maxLen ∧ t.data.toList.dropWhile (· == 48) = L ∧ w = v)
  case atStart => exact ⟨s, rfl, rfl, HL.out.2, HL.out.1, rfl⟩
  case round =>
    obtain ⟨t, rfl, hk, hm, ht, rfl⟩ := hrel
    have hsz : t.data.toList.length = t.size := by simp
    cases gk with
    | zero =>
      have HQ : Hid (L = t.data.toList) := by
        show _ = _
        rw [← ht, List.eq_nil_of_length_eq_zero (hsz.trans hk)]; rfl
      clear hsz ht HL
      go_wp2
      go_ret
      exact ⟨by rw [HQ.out, mk_data]; rfl, rfl⟩
    | succ k =>
      have h0 : 0 < t.size := by omega
      have hd := drop_byte t 0 h0
      rw [List.drop_zero] at hd
      unfold maxLen at hm
      by_cases hc : (t[0].toNat : Int) = 48
      · have h48 : t[0] = 48 := UInt8.toNat_inj.1 (by show t[0].toNat = 48; omega)
        have e1 := extract_tl t _ _ hd
        have HQ : Hid ((t.extract 1 t.size).size = k ∧ k ≤ maxLen ∧ (t.extract 1 t.size).data.toList.dropWhile (· == 48) = L) := by
          refine ⟨?_, by unfold maxLen; omega, ?_⟩
          · rw [ByteArray.size_extract]; omega
          · rw [e1, ← ht, hd, h48]; rfl
        clear ht hd h48 hsz e1 HL
        rw [hk] at HQ
        go_wp2
        go_roundg k
        case measure => omega
        case rel => exact ⟨_, rfl, HQ.out.1, HQ.out.2.1, HQ.out.2.2, rfl⟩
      · have h48 : t[0] ≠ 48 := fun e => hc (by rw [e]; rfl)
        have HQ : Hid (L = t.data.toList) := by
          show _ = _
          rw [← ht, hd, List.dropWhile_cons_of_neg (by simpa using h48)]
        clear ht hd h48 hsz HL
        go_wp2
        go_ret
        exact ⟨by rw [HQ.out, mk_data]; rfl, rfl⟩
set_option maxHeartbeats 2000000 in
set_option maxRecDepth 100000 in
theorem trim_left (s : ByteArray) (w : World) (hs : s.size ≤ maxLen) :
    Calls Tryz.prog 183 #[.string s, .string ⟨#[48]⟩] w fun e w' => e = .returned (.string ⟨(s.data.toList.dropWhile (· == 48)).toArray⟩) ∧ w = w' := by
  have T := trim_byte s w hs
  by_cases h0 : s.toList.isEmpty = true
  · have e : s.data.toList = [] := by rw [← ByteArray.toList_eq]; simpa using h0
    have HE : Hid (s = ⟨([] : List UInt8).toArray⟩) := by show _ = _; rw [← e, mk_data]
    rw [e]
    clear e T hs
    go_enter Tryz.func183, Tryz.ntmps183
    go_wp2
    go_ret
    exact ⟨by rw [HE.out]; rfl, rfl⟩
  · have h0' : s.toList.isEmpty = false := by simpa using h0
    clear h0 hs
    generalize s.data.toList.dropWhile (· == 48) = L at T
    go_enter Tryz.func183, Tryz.ntmps183
    go_wp2_with (go_at_call 199; (refine Calls.mono T ?_); rintro e w1 ⟨rfl, rfl⟩)
    go_ret
    exact ⟨rfl, rfl⟩
end Go.Proofs.YtbcfplaalepnbaaGreatDoor
namespace Go.Proofs.YtbcfplaalepnbaaGreatDoor
open Go.RowKit
theorem wpIn_range_made {x y : Nat → Value} {F : Fence} {n : Nat} {P : Program} {g : Operand} {p q : Tmp} {assign body : Code} {Q : Exit → Act → World → Prop} {a : Act} {w : World}
    (hro : F.round = none) (h1 : 1 ≤ n) {gf : Nat} {lb : Array Value} (hg : a.eval g = .func (.func gf) #[] lb) (hFg : F.fn gf) (eg : ∀ args w, (callFunc gf args).run P w = .ok (.enter gf args) w)
    (m : Nat) (I : Nat → World → Prop) (h0 : I 0 w) (hIb : ∀ k A B, I k A → Below A.heap.size A B → I k B) (hIp : ∀ k A r o, I k A → r = w.heap.size ∨ r = w.heap.size + 1 → I k (A.putObj r o))
    (a₁ : Nat → Act)
    (hassign : ∀ l k W K, K (a₁ k) W → assign.wpIn (F.inRound l) (n - 1 - 1) P (Exit.then K (fun _ _ _ => False)) { tmps := (a.tmps.setIfInBounds p (x k)).setIfInBounds q (y k), defers := [] } W)
    (hbody : ∀ l k W, k < m → I k W → w.heap.size + 2 ≤ W.heap.size → body.wpIn (F.inRound l) (n - 1 - 1) P (fun e _ W' => e = .normal ∧ I (k + 1) W' ∧ W.heap.size ≤ W'.heap.size ∧ ∀ j, j = w.heap.size ∨ j = w.heap.size + 1 → W'.heap[j]? = W.heap[j]?) (a₁ k) W)
    (hseq : ∀ l (J : Nat → World → Prop) W, (∀ k A, J k A → I k A) → (∀ k A B, J k A → Below A.heap.size A B → J k B) →
      (∀ k A, k < m → J k A → YieldAt F (n - 1 - 1) P l #[x k, y k] A fun e B => e = .returned (.bool true) ∧ J (k + 1) B) → J 0 W →
      CallsIn F (n - 1) P gf (#[.func (.yield l) #[] #[]] ++ lb) W fun e B => (∃ v, e = .returned v) ∧ J m B)
    (hdone : ∀ D W, w.heap.size ≤ D → D < w.heap.size + 2 → I m W → w.heap.size + 2 ≤ W.heap.size → W.heap[D]? = some (.deferred (some [])) → Q .normal { a with defers := { target := .collected D, args := #[] } :: a.defers } W) :
    (Code.rangeFunc g #[p, q] assign body).wpIn F n P Q a w := by
  refine wpIn_rangeFunc ?_
  intro fn hfn
  rw [hro]
  obtain ⟨R, hR⟩ : ∃ R : LoopState → Loop, R = fun st => { state := st, pending := none, fn, tmps := a.tmps, params := #[p, q], assign, body, defers := w.heap.size } := ⟨_, rfl⟩
  obtain ⟨V, hV⟩ : ∃ V, (w.alloc (.deferred (some []))).alloc (.loop (R .ready)) = V := ⟨_, rfl⟩
  have z1 : V.heap.size = w.heap.size + 2 := by rw [← hV]; simp
  have bV : Below w.heap.size w V := by rw [← hV]; exact ((Below.refl _ w).alloc (Nat.le_refl _) _).alloc (by simp) _
  have kL : V.heap[w.heap.size + 1]? = some (.loop (R .ready)) := by
    rw [← hV]; have := World.alloc_heap_new (w.alloc (.deferred (some []))) (.loop (R .ready)); rwa [World.size_alloc] at this
  have kD : V.heap[w.heap.size]? = some (.deferred (some [])) := by
    rw [← hV]; exact (Below.heap_alloc _ _ _ (by simp)).trans (World.alloc_heap_new w _)
  refine ⟨w.heap.size + 1, [{ target := .collected w.heap.size, args := #[] }], V, { target := .fn (.func gf) lb, args := #[.func (.yield (w.heap.size + 1)) #[] #[]] }, V, gf, #[.func (.yield (w.heap.size + 1)) #[] #[]] ++ lb, V, ?_, ?_, ?_, ?_, fun _ => h1, ?_⟩
  · rw [← hV, hR]; exact run_enterLoop_outer _ _ _ _ _
  · simp only [resolve, hg]; simp [go_sem]
  · intro f' hf'; simp [Target.leads] at hf'; subst hf'; exact hFg
  · simp [invoke, go_sem, eg]
  refine (hseq (w.heap.size + 1) (fun k A => I k A ∧ A.heap[w.heap.size + 1]? = some (.loop (R .ready)) ∧ A.heap[w.heap.size]? = some (.deferred (some []))) V (fun _ _ h => h.1) ?_ ?_ ⟨hIb _ _ _ h0 bV, kL, kD⟩).mono ?_
  · rintro k A B ⟨i, l, d⟩ hb
    have lt := (Array.getElem?_eq_some_iff.1 l).1
    exact ⟨hIb k A B i hb, (hb.block _ lt).trans l, (hb.block _ (by omega)).trans d⟩
  · rintro k A hk ⟨i, l, d⟩
    have lt := (Array.getElem?_eq_some_iff.1 l).1
    have hy : (Instr.yield (w.heap.size + 1) #[x k, y k]).run P A = .ok (.round (w.heap.size + 1) fn ((a.tmps.setIfInBounds p (x k)).setIfInBounds q (y k)) assign body) A := by
      have := run_yield (P := P) (args := #[x k, y k]) l (by rw [hR]; rfl)
      rw [hR] at this
      simpa using this
    refine ⟨fn, _, assign, body, hy, roundIn_of_wpIn hfn ?_⟩
    refine hassign _ k A _ ?_
    refine ⟨_, run_beginRound l (by rw [hR]), ?_⟩
    have l2 : (A.putObj (w.heap.size + 1) (.loop { R .ready with state := .busy })).heap[w.heap.size + 1]? = some (.loop { R .ready with state := .busy }) := World.putObj_heap_same lt
    refine wpIn_mono (hbody _ k _ hk (hIp _ _ _ _ i (.inr rfl)) (by simp; omega)) ?_
    rintro e a3 B ⟨rfl, i3, z3, k3⟩
    have l3 := (k3 (w.heap.size + 1) (.inr rfl)).trans l2
    have hend := run_endRound (P := P) none l3
    have d3 := (k3 w.heap.size (.inl rfl)).trans ((World.putObj_heap_other (by omega)).trans d)
    have l4 := World.putObj_heap_same (o := .loop (R .ready)) (Array.getElem?_eq_some_iff.1 l3).1
    refine ⟨_, _, hend, rfl, hIp _ _ _ _ i3 (.inr rfl), ?_, (World.putObj_heap_other (by omega)).trans d3⟩
    rw [hR] at l4 ⊢; exact l4
  · rintro e B ⟨⟨v, rfl⟩, i, l, d⟩
    have lt := (Array.getElem?_eq_some_iff.1 l).1
    refine ⟨none, _, ?_, hdone w.heap.size _ (Nat.le_refl _) (by omega) (hIp _ _ (w.heap.size + 1) (.loop { R .ready with state := .exhausted }) i (.inr rfl)) (by simp; omega) ((World.putObj_heap_other (by omega)).trans d)⟩
    have := run_endLoop (P := P) l (by rw [hR]; simp)
    rw [hR] at this ⊢
    exact this
end Go.Proofs.YtbcfplaalepnbaaGreatDoor
namespace Go.Proofs.YtbcfplaalepnbaaGreatDoor
open Go.RowKit Go.Shelf
attribute [local go_sem] Oper.semAt_some
theorem back_made (n : Nat) (a : Option Addr) (m c : Nat) (w : World) :
    CallsIn Fence.wide n Tryz.prog 180 #[.slice a m c] w fun e w' => e = .returned (.func (.func 197) #[] #[.pointer (some ⟨w.heap.size, 0, none⟩)]) ∧ w' = w.alloc (.cells #[.slice a m c] 40) := by
  refine callsIn_wide.2 ?_
  go_enter Tryz.func180, Tryz.ntmps180
  go_wp2
  go_ret
  exact ⟨by simp, rfl⟩
set_option maxHeartbeats 4000000 in
theorem back_iter (n l B : Nat) (hn : 1 ≤ n) (J : Nat → World → Prop) (a : Option Addr) (m c : Nat) (zs : List Int) (hm : m ≤ 1000000000)
    (hJ : ∀ k A, J k A → A.cell? ⟨B, 0, none⟩ = some (.slice a m c) ∧ IsWords A (.slice a m c) zs)
    (hY : ∀ k A, k < m → J k A → YieldAt Fence.wide (n - 1) Tryz.prog l #[.int .i64 ((m : Int) - 1 - k), .int .u32 (zs.getD (m - 1 - k) 0)] A fun e A' => e = .returned (.bool true) ∧ J (k + 1) A')
    (W : World) (h0 : J 0 W) :
    CallsIn Fence.wide n Tryz.prog 197 #[.func (.yield l) #[] #[], .pointer (some ⟨B, 0, none⟩)] W fun e W' => (∃ v, e = .returned v) ∧ J m W' := by
  have hmx : Tryz.prog.follows .mixedOrders = true := by kernel_rfl
  have c0 := (hJ _ _ h0).1
  refine callsIn_of_wp Tryz.func197 rfl trivial ?_ rfl
  simp only [Tryz.ntmps197, List.size_toArray, List.length_cons, List.length_nil, Nat.reduceAdd, Nat.reduceSub, Array.replicate_succ, Array.replicate_zero, List.push_toArray, List.append_toArray, List.nil_append, List.cons_append]
  gi_wp2
  gi_loopg [3] m (fun g v3 v => ∃ k : Nat, k + g = m ∧ v3 = .int .i64 ((g : Int) - 1) ∧ J k v)
  case atStart => exact ⟨0, by omega, by first | rfl | (congr 1; omega), h0⟩
  case round =>
    obtain ⟨k, hk, rfl, hj⟩ := hrel
    cases gk with
    | zero =>
      obtain rfl : k = m := by omega
      rw [show ((0 : Nat) : Int) - 1 = -1 from rfl]
      clear hJ hY hk
      gi_wp2
      go_end0
      exact ⟨⟨_, rfl⟩, hj⟩
    | succ t =>
      obtain ⟨cb, iw⟩ := hJ _ _ hj
      obtain ⟨⟨hl, hr⟩, hn2⟩ := iw.reads
      rcases hr with h1 | ⟨b, off, rfl, hc⟩
      · omega
      have hck := hc t (by omega)
      obtain ⟨fn, tmps, assign, body, hy, hR⟩ := hY k wr (by omega) hj
      rw [show (m : Int) - 1 - k = t by omega, show m - 1 - k = t by omega] at hy
      rw [show ((t + 1 : Nat) : Int) - 1 = t by omega]
      generalize zs.getD t 0 = z at hck hy
      clear hJ hc iw hY
      gi_wp2
      refine hR.mono ?_
      rintro e W3 ⟨rfl, hj3⟩
      gi_wp2
      gi_roundg t
      case measure => omega
      case rel => exact ⟨k + 1, by omega, by first | rfl | (congr 1; omega), hj3⟩
end Go.Proofs.YtbcfplaalepnbaaGreatDoor
namespace Go.Proofs.YtbcfplaalepnbaaGreatDoor
open Go.RowKit Go.Shelf
attribute [local go_sem] Oper.semAt_some
theorem blk_new (v : World) (o : Obj) : (v.alloc o).heap[v.heap.size]? = some o := by show (v.heap.push o)[v.heap.size]? = _; simp
theorem cell_of_box {w : World} {k : Nat} {v : Value} {T : TypeId} (h : w.heap[k]? = some (.cells #[v] T (0, 0))) : w.cell? ⟨k, 0, none⟩ = some v ∧ w.frozen? ⟨k, 0, none⟩ = false := by
  simp [World.cell?, World.frozen?, h]
theorem box_set {w : World} {k : Nat} {v : Value} {T : TypeId} (h : w.heap[k]? = some (.cells #[v] T (0, 0))) (u : Value) : (w.setCell ⟨k, 0, none⟩ u).heap[k]? = some (.cells #[u] T (0, 0)) := Boxed.set u h
def PrintAt (w V : World) (N m : Nat) (k : Nat) (W : World) : Prop :=
  ∃ (a : Option Addr) (c : Nat) (bs : List UInt8), W.heap[w.heap.size]? = some (.cells #[.slice a (9 * k) c] 129 (0, 0)) ∧ RowB (V.heap.size + 2) W (.slice a (9 * k) c) (9 * k) bs ∧ DigS bs ∧ valD bs = N / 1000000000 ^ (m - k) ∧
    (∀ j, j < V.heap.size → j ≠ w.heap.size → W.heap[j]? = V.heap[j]?) ∧ Below w.heap.size w W
theorem PrintAt.more {w V : World} {N m k : Nat} {A B : World} (h : PrintAt w V N m k A) (hb : Below A.heap.size A B) : PrintAt w V N m k B := by
  obtain ⟨a, c, bs, h1, h2, h3, h4, h5, h6⟩ := h
  refine ⟨a, c, bs, (hb.block _ (Array.getElem?_eq_some_iff.1 h1).1).trans h1, h2.more hb, h3, h4, fun j hj hne => ?_, below_more h6 hb⟩
  have e := h5 j hj hne
  rw [← e]
  exact hb.block j (by
    rcases Nat.lt_or_ge j A.heap.size with h | h
    · exact h
    · rw [Array.getElem?_eq_none h, Array.getElem?_eq_getElem hj] at e; cases e)
theorem PrintAt.put {w V : World} {N m k : Nat} {A : World} (h : PrintAt w V N m k A) (hV : w.heap.size < V.heap.size) {r : Nat} (hr : r = V.heap.size ∨ r = V.heap.size + 1) (o : Obj) : PrintAt w V N m k (A.putObj r o) := by
  obtain ⟨a, c, bs, h1, h2, h3, h4, h5, h6⟩ := h
  exact ⟨a, c, bs, (World.putObj_heap_other (by omega)).trans h1, h2.keep fun j hj => World.putObj_heap_other (by omega), h3, h4, fun j hj hne => (World.putObj_heap_other (by omega)).trans (h5 j hj hne), below_put h6 (by omega) o⟩
theorem PrintAt.next {w V : World} {N m k : Nat} {A B : World} {a a' : Option Addr} {c c' : Nat} {bs : List UInt8} {g : Int} (hk : k < m) (hV : w.heap.size < V.heap.size)
    (h1 : A.heap[w.heap.size]? = some (.cells #[.slice a (9 * k) c] 129 (0, 0))) (h3 : DigS bs) (h4 : valD bs = N / 1000000000 ^ (m - k)) (h5 : ∀ j, j < V.heap.size → j ≠ w.heap.size → A.heap[j]? = V.heap[j]?) (h6 : Below w.heap.size w A)
    (hg : g = ((N / 1000000000 ^ (m - 1 - k) % 1000000000 : Nat) : Int)) (hr : RowB (V.heap.size + 2) B (.slice a' (9 * k + 9) c') (9 * k + 9) (bs ++ pad 9 g.toNat)) (hb : Below (V.heap.size + 2) A B) :
    PrintAt w V N m (k + 1) (B.setCell ⟨w.heap.size, 0, none⟩ (.slice a' (9 * k + 9) c')) := by
  have b1 : B.heap[w.heap.size]? = some (.cells #[.slice a (9 * k) c] 129 (0, 0)) := (hb.block _ (by omega)).trans h1
  have hgn : g.toNat = N / 1000000000 ^ (m - 1 - k) % 1000000000 := by rw [hg]; exact Int.toNat_natCast _
  refine ⟨a', c', bs ++ pad 9 g.toNat, box_set b1 _, hr.keep fun j hj => Below.heap_setCell _ _ _ _ (by simp; omega), digS_append.2 ⟨h3, digS_pad _ _⟩, ?_, fun j hj hne => ?_, ?_⟩
  · rw [valD_group _ (by rw [hgn]; exact Nat.mod_lt _ (by decide)), h4, hgn, show (10 : Nat) ^ 9 = 1000000000 from rfl, show m - k = (m - 1 - k) + 1 by omega, told_step, show m - 1 - k = m - (k + 1) by omega]
  · rw [Below.heap_setCell _ _ _ _ (by simpa using hne), hb.block j (by omega)]; exact h5 j hj hne
  · exact (h6.trans (hb.mono (by omega))).setCell (p := ⟨w.heap.size, 0, none⟩) (Nat.le_refl _) _
theorem Row.stay {w w' : World} {v : Value} {n : Nat} {xs : List Int} {n₀ : Nat} (h : Row n₀ w v n xs) (hb : ∀ k, n₀ ≤ k → k < w.heap.size → w'.heap[k]? = w.heap[k]?) : Row n₀ w' v n xs := by
  refine ⟨h.1, ?_⟩
  rcases h.2 with h0 | ⟨g, cap, cur, e, h1, hg, h2⟩
  · exact .inl h0
  · exact .inr ⟨g, cap, cur, e, h1, (hb g h1 (Array.getElem?_eq_some_iff.1 hg).1).trans hg, h2⟩
theorem conv_row {n₀ : Nat} {w : World} {a : Option Addr} {n c : Nat} {bs : List UInt8} (h : RowB n₀ w (.slice a n c) n bs) :
    Sem.run Tryz.prog (convert 129 9 (.slice a n c)) w = .ok (.string ⟨bs.toArray⟩) w := by
  have hl := h.length
  rcases h.cell with ⟨rfl, rfl⟩ | ⟨g, rfl, hc⟩
  · subst hl
    rw [run_convert_bytes_string w 129 9 5 none _ c Tryz.underlying129 Tryz.underlying5 Tryz.underlying9]
    simp [Conv.bytesToString, go_sem]
    rfl
  · subst hl
    exact run_convert_bytes_back (P := Tryz.prog) w 129 9 5 ⟨g, 0, none⟩ c bs Tryz.underlying129 Tryz.underlying5 Tryz.underlying9 hc
set_option maxHeartbeats 4000000 in
theorem deci_print : PrintOk := by
  intro a n c zs w h hz hn N hN
  have G := deci_groups (w := w.alloc (.cells #[.slice none 0 0] 129)) (h.below ((Below.refl _ _).alloc (Nat.le_refl _) _)) hz hn N hN
  clear h hz hn hN
  refine (callsIn_wide (n := 3)).1 ?_
  refine callsIn_of_wp_marks Tryz.func164 rfl trivial ?_ rfl
  simp only [Tryz.ntmps164, List.size_toArray, List.length_cons, List.length_nil, Nat.reduceAdd, Nat.reduceSub, Array.replicate_succ, Array.replicate_zero, List.push_toArray, List.append_toArray, List.nil_append, List.cons_append]
  gi_wp2_with (first
    | (refine ⟨trivial, ?_⟩; gi_at_call 181; (with_reducible refine CallsIn.mono (callsIn_wide.2 G) ?_); rintro e w1 ⟨a1, m, c1, ys, rfl, o1, hgr, hNm, hm⟩)
    | (refine ⟨trivial, ?_⟩; gi_at_call 180; refine (back_made _ _ _ _ _).mono ?_; rintro e w' ⟨rfl, rfl⟩))
  obtain ⟨V, hV⟩ : ∃ V, w1.alloc (.cells #[.slice a1 m c1] 40) = V := ⟨_, rfl⟩
  have z1 : w.heap.size + 1 ≤ w1.heap.size := by have := o1.below.size; simpa using this
  have zV : V.heap.size = w1.heap.size + 1 := by rw [← hV]; simp
  have b1 : Below w.heap.size w w1 := ((Below.refl _ w).alloc (Nat.le_refl _) (.cells #[.slice none 0 0] 129)).trans (o1.below.mono (by simp))
  have bV : Below w.heap.size w V := by rw [← hV]; exact b1.alloc (by omega) _
  have k0 : V.heap[w.heap.size]? = some (.cells #[.slice none 0 0] 129 (0, 0)) := by
    rw [← hV, Below.heap_alloc _ _ _ (by omega), o1.below.block _ (by simp)]; exact blk_new w _
  have k1 : V.heap[w1.heap.size]? = some (.cells #[.slice a1 m c1] 40 (0, 0)) := by rw [← hV]; exact blk_new w1 _
  have r1 : Row (w.heap.size + 1) V (.slice a1 m c1) m ys := by rw [← hV]; exact (o1.alloc _).row (by simp)
  rw [hV]
  clear hV G o1
  refine wpIn_range_made (x := fun k => .int .i64 ((m : Int) - 1 - k)) (y := fun k => .int .u32 (ys.getD (m - 1 - k) 0)) rfl (by omega) (gf := 197) (lb := #[.pointer (some ⟨w1.heap.size, 0, none⟩)]) rfl trivial (enters_of Tryz.func197 (by kernel_rfl) rfl)
    m (PrintAt w V N m) ⟨none, 0, [], by rw [Nat.mul_zero]; exact k0, RowB.nil _ _, (fun c hc => by cases hc), by rw [valD_nil, Nat.sub_zero, Nat.div_eq_of_lt hNm], fun _ _ _ => rfl, bV⟩ (fun k A B h hb => h.more hb) (fun k A r o h hr => h.put (by omega) hr o)
    (fun k => { tmps := #[.slice a n c, undef, .string ⟨#[]⟩, .pointer (some ⟨w.heap.size, 0, none⟩), undef, .int .u32 (ys.getD (m - 1 - k) 0), undef, .slice a n c, .slice a1 m c1, .func (.func 197) #[] #[.pointer (some ⟨w1.heap.size, 0, none⟩)], .int .i64 ((m : Int) - 1 - k), .int .u32 (ys.getD (m - 1 - k) 0), undef, undef, undef, undef, undef, undef, undef, undef, undef], defers := [] })
    ?assign ?body ?seq ?done
  case assign =>
    intro l k W K hK
    gi_wp2
    exact hK
  case body =>
    rintro l k W hk ⟨a5, c5, bs, h1, h2, h3, h4, h5, h6⟩ hz
    have hg := hgr.2 (m - 1 - k) (by omega)
    obtain ⟨z, hzd⟩ : ∃ z, ys.getD (m - 1 - k) 0 = z := ⟨_, rfl⟩
    rw [hzd] at hg
    have hz0 : 0 ≤ z := by omega
    have hz1 : z < 4294967296 := by omega
    have A1 := fun q => CallsIn.inRound l ((callsIn_wide (n := q)).2 (deci_appendGroup (V.heap.size + 2) a5 (9 * k) c5 bs z W h2 hz (by omega) hz0 hz1))
    have hcell := cell_of_box h1
    have HK : Hid (∀ (a' : Option Addr) (c' : Nat) (B : World), RowB (V.heap.size + 2) B (.slice a' (9 * k + 9) c') (9 * k + 9) (bs ++ pad 9 z.toNat) → Below (V.heap.size + 2) W B → PrintAt w V N m (k + 1) (B.setCell ⟨w.heap.size, 0, none⟩ (.slice a' (9 * k + 9) c'))) := fun a' c' B hr hb => PrintAt.next hk (by omega) h1 h3 h4 h5 h6 hg hr hb
    rw [hzd]
    obtain ⟨hc1, hc2⟩ := hcell
    have hbx : ∀ B, Below (V.heap.size + 2) W B → B.cell? ⟨w.heap.size, 0, none⟩ = some (.slice a5 (9 * k) c5) ∧ B.frozen? ⟨w.heap.size, 0, none⟩ = false := fun B hb => cell_of_box ((hb.block _ (by omega)).trans h1)
    clear hg hzd h1 h2 h3 h4 h5 h6 hgr
    gi_wp2_with (refine ⟨trivial, ?_⟩; gi_at_call 182; (with_reducible refine CallsIn.mono (A1 _) ?_); rintro e B ⟨a6, c6, rfl, r6, b6⟩; obtain ⟨hd1, hd2⟩ := hbx B b6)
    exact ⟨HK.out _ _ _ r6 b6, b6.size, (Below.heap_setCell _ _ _ _ (by simp; omega)).trans (b6.block _ (by omega)), (Below.heap_setCell _ _ _ _ (by simp; omega)).trans (b6.block _ (by omega))⟩
  case seq =>
    intro l J W hJI hJb hY h0
    refine (back_iter 2 l w1.heap.size (by omega) J a1 m c1 ys (by omega) (fun k A hj => ?_) (fun k A hk hj => hY k A hk hj) W h0).mono ?_
    · obtain ⟨a5, c5, bs, h1, h2, h3, h4, h5, h6⟩ := hJI k A hj
      exact ⟨(cell_of_box ((h5 _ (by omega) (by omega)).trans k1)).1, (r1.stay fun j hj1 hj2 => h5 j hj2 (by omega)).words⟩
    · rintro e B ⟨hv, hj⟩
      exact ⟨hv, hj⟩
  case done =>
    rintro D W hD1 hD2 ⟨a5, c5, bs, h1, h2, h3, h4, h5, h6⟩ hz hK
    have CV := conv_row h2
    have hlen := h2.length
    rw [Nat.sub_self, Nat.pow_zero, Nat.div_one] at h4
    have T := trim_left ⟨bs.toArray⟩ W (by show bs.toArray.size ≤ maxLen; unfold maxLen; simp; omega)
    rw [show (ByteArray.mk bs.toArray).data.toList = bs by simp, trim_dg h3, h4] at T
    obtain ⟨hc1, hc2⟩ := cell_of_box h1
    have HB : Hid (Below w.heap.size w W ∧ w.heap.size ≤ D) := ⟨h6, by omega⟩
    rcases Nat.eq_zero_or_pos N with h0 | h0
    · subst h0
      rw [dg_zero] at T
      clear h1 h2 h3 h4 h5 h6 hgr hlen
      gi_wp2_with (refine ⟨trivial, ?_⟩; gi_at_call 183; (with_reducible refine CallsIn.mono (callsIn_wide.2 T) ?_); rintro e W2 ⟨rfl, rfl⟩)
      refine ⟨by simp, .inl ⟨_, _, rfl, run_takeDeferred hK, ?_⟩⟩
      exact ⟨_, results_tmp rfl _ _ _, by rw [decOf_zero]; rfl, below_put HB.out.1 HB.out.2 _⟩
    · have he : (ByteArray.mk (dg N).toArray).toList.isEmpty = false := by
        rw [ByteArray.toList_eq]
        have := dg_ne h0
        simpa using this
      have HD : Hid (decOf N = dg N) := decOf_pos h0
      generalize hS : ByteArray.mk (dg N).toArray = S at T he
      have HS : Hid (ByteArray.mk (dg N).toArray = S) := hS
      clear hS h0
      clear h1 h2 h3 h4 h5 h6 hgr hlen
      gi_wp2_with (refine ⟨trivial, ?_⟩; gi_at_call 183; (with_reducible refine CallsIn.mono (callsIn_wide.2 T) ?_); rintro e W2 ⟨rfl, rfl⟩)
      refine ⟨by simp, .inl ⟨_, _, rfl, run_takeDeferred hK, ?_⟩⟩
      exact ⟨_, results_tmp rfl _ _ _, by rw [HD.out, HS.out]; rfl, below_put HB.out.1 HB.out.2 _⟩
theorem deci_digits : DigitsOk := by
  intro a n c zs w h hz hn N hN
  have P := deci_print h hz hn N hN
  have hl : (decOf N).length ≤ 10000000 := by
    have := decOf_words (A := N) (n := 1000000) (by rw [← hN]; exact nl_small hz _ (by rw [h.len]; exact hn)) (by omega)
    omega
  have HS : Hid ((decOf N).length ≤ 10000000) := hl
  clear h hz hn hN hl
  generalize hS : ByteArray.mk (decOf N).toArray = S at P
  have e : S.size = (decOf N).length := by rw [← hS]; show (decOf N).toArray.size = _; simp
  have hs : (S.size : Int) ≤ 10000000 := by have := HS.out; omega
  rw [← e]
  clear e hS HS
  go_enter Tryz.func153, Tryz.ntmps153
  go_wp2_with (go_at_call 164; (with_reducible refine Calls.mono P ?_); rintro e w1 ⟨rfl, b1⟩)
  go_ret
  exact ⟨rfl, b1⟩
end Go.Proofs.YtbcfplaalepnbaaGreatDoor
namespace Go.Proofs.YtbcfplaalepnbaaGreatDoor
open Go.RowKit
theorem minus_parts (s : ByteArray) (hs : s.size ≤ maxLen) : ∃ (g : Bool) (u : ByteArray), stripI s.data.toList = u.data.toList ∧ minusI s.data.toList = g ∧ u.size ≤ maxLen ∧
    (s.size = 0 ∧ g = false ∧ u = s ∨ 0 < s.size ∧ g = true ∧ ((s.extract 0 1).toList == [45]) = true ∧ s.extract 1 s.size = u ∨ 0 < s.size ∧ g = false ∧ ((s.extract 0 1).toList == [45]) = false ∧ u = s) := by
  rcases Nat.eq_zero_or_pos s.size with h0 | h0
  · have e : s.data.toList = [] := List.eq_nil_of_length_eq_zero (by simpa using h0)
    exact ⟨false, s, by rw [e]; rfl, by rw [e]; rfl, hs, .inl ⟨h0, rfl, rfl⟩⟩
  · have hh : s.data.toList = s[0] :: s.data.toList.tail := by
      have := drop_byte s 0 h0
      rw [List.drop_zero] at this
      rw [this]; rfl
    have hx : s.extract 0 1 = ⟨#[s[0]]⟩ := by
      refine ByteArray.ext ?_
      rw [← Array.toList_inj, ByteArray.data_extract, Array.toList_extract]
      rw [hh]; rfl
    by_cases hc : s[0] = 45
    · refine ⟨true, s.extract 1 s.size, ?_, ?_, ?_, .inr (.inl ⟨h0, rfl, ?_, rfl⟩)⟩
      · rw [extract_tail]; unfold stripI; rw [if_pos (by rw [hh, hc]; rfl)]
      · unfold minusI; rw [hh, hc]; rfl
      · rw [ByteArray.size_extract]; unfold maxLen at hs ⊢; omega
      · rw [hx, hc, ByteArray.toList_eq]; rfl
    · refine ⟨false, s, ?_, ?_, hs, .inr (.inr ⟨h0, rfl, ?_, rfl⟩)⟩
      · unfold stripI; rw [if_neg (by rw [hh]; intro e; exact hc (Option.some.inj e))]
      · unfold minusI; rw [hh]; simp [hc]
      · rw [hx, ByteArray.toList_eq, beq_eq_false_iff_ne]
        intro e
        exact hc (List.cons.inj e).1
set_option maxHeartbeats 4000000 in
theorem cut_minus {s : ByteArray} {g : Bool} {u : ByteArray} (hs : s.size ≤ maxLen) (h : s.size = 0 ∧ g = false ∧ u = s ∨ 0 < s.size ∧ g = true ∧ ((s.extract 0 1).toList == [45]) = true ∧ s.extract 1 s.size = u ∨ 0 < s.size ∧ g = false ∧ ((s.extract 0 1).toList == [45]) = false ∧ u = s) (w : World) :
    Calls Tryz.prog 131 #[.string s, .string ⟨#[45]⟩] w fun e w' => e = .returned (.tuple #[.string u, .bool g]) ∧ w = w' := by
  have H : ∀ (q : Bool), ((s.size = 0 ∧ q = false) ∨ (0 < s.size ∧ ((s.extract 0 1).toList == [45]) = q)) → Calls Tryz.prog 156 #[.string s, .string ⟨#[45]⟩] w fun e w' => e = .returned (.bool q) ∧ w = w' := by
    clear h
    intro q h
    unfold maxLen at hs
    rcases h with ⟨h0, rfl⟩ | ⟨h0, hq⟩
    case' inl => have h1 : ¬ (1 : Int) ≤ s.size := by omega
    case' inr => have h1 : (1 : Int) ≤ s.size := by omega
    all_goals
      go_enter Tryz.func156, Tryz.ntmps156
      go_wp2
      go_ret
      exact ⟨rfl, rfl⟩
  have H2 : Calls Tryz.prog 145 #[.string s, .string ⟨#[45]⟩] w fun e w' => e = .returned (.tuple #[.string u, .bool g]) ∧ w = w' := by
    unfold maxLen at hs
    rcases h with ⟨h0, rfl, rfl⟩ | ⟨h0, rfl, hq, hu⟩ | ⟨h0, rfl, hq, rfl⟩
    case' inl => have H1 := H false (.inl ⟨h0, rfl⟩)
    case' inr.inl =>
      have H1 := H true (.inr ⟨h0, hq⟩)
      have h1 : (1 : Int) ≤ s.size := by omega
    case' inr.inr => have H1 := H false (.inr ⟨h0, hq⟩)
    all_goals
      clear H
      go_enter Tryz.func145, Tryz.ntmps145
      go_wp2_with (go_at_call 156; (with_reducible refine Calls.mono H1 ?_); rintro e w1 ⟨rfl, rfl⟩)
      go_ret2
      exact ⟨rfl, rfl⟩
  clear H h
  go_enter Tryz.func131, Tryz.ntmps131
  go_wp2_with (go_at_call 145; (with_reducible refine Calls.mono H2 ?_); rintro e w1 ⟨rfl, rfl⟩)
  go_ret2
  exact ⟨rfl, rfl⟩
set_option maxHeartbeats 4000000 in
theorem whole_parse (s : ByteArray) (w : World) (hs : s.size ≤ maxLen) :
    Calls Tryz.prog 158 #[.string s] w (AnsIP w (znum s.data.toList) (zerr s.data.toList)) := by
  obtain ⟨b1, bV, hb⟩ := boxes1 w #[.bool false, .slice none 0 0] 82
  obtain ⟨g, u, hu, hg, hsz, hp⟩ := minus_parts s hs
  have CU := fun v => cut_minus hs hp v
  have P := fun v => deci_parse u v hsz
  unfold znum zerr
  rw [hu, hg]
  have G := fun v a1 c1 => whole_signed g a1 (nl (pnum u.data.toList)) c1 v _ (sign_nl g (pnum u.data.toList))
  have hE : perr u.data.toList = 0 ∨ (perr u.data.toList != 0) = true ∧ pnum u.data.toList = 0 := by
    by_cases h : perr u.data.toList = 0
    · exact .inl h
    · exact .inr ⟨by simpa using h, pnum_err h⟩
  unfold AnsP at P
  generalize pnum u.data.toList = K at *
  generalize perr u.data.toList = E at *
  clear hu hg hs hsz hp
  unfold AnsIP
  rw [iv_abs]
  rcases hE with rfl | ⟨hE, hK⟩
  · generalize decide (iv g K < 0) = r at G ⊢
    go_enter Tryz.func158, Tryz.ntmps158
    go_wp2_with (first
      | (go_at_call 131; (with_reducible refine Calls.mono (CU _) ?_); rintro e w0 ⟨rfl, rfl⟩)
      | (go_at_call 161; (with_reducible refine Calls.mono (P _) ?_); rintro e w1 ⟨a1, c1, rfl, o1⟩)
      | (go_at_call 170; (with_reducible refine Calls.mono (G _ _ _) ?_); rintro e w2 ⟨rfl, d2⟩; obtain ⟨z0, z1, f0, f1⟩ := ((b1.more o1.below).more d2).cells2))
    have q := fun x y => (((o1.more d2).above bV).set (k := w.heap.size) (by omega) hb 0 x).set (k := w.heap.size) (by omega) hb 1 y
    exact bodyPost_ret (v := .tuple #[.agg #[.bool r, .slice a1 (nl K) c1], .int .i64 0]) (by simp [results, Tryz.results158, go_sem, z0, z1]) rfl ⟨a1, c1, rfl, (q _ _).own (by omega)⟩
  · subst hK
    rw [iv_zero]
    clear G
    simp only [nl_zero] at P
    go_enter Tryz.func158, Tryz.ntmps158
    go_wp2_with (first
      | (go_at_call 131; (with_reducible refine Calls.mono (CU _) ?_); rintro e w0 ⟨rfl, rfl⟩)
      | (go_at_call 161; (with_reducible refine Calls.mono (P _) ?_); rintro e w1 ⟨a1, c1, rfl, o1⟩; obtain ⟨z0, z1, f0, f1⟩ := (b1.more o1.below).cells2))
    have B1 := below_more bV o1.below
    have q := fun x y => (B1.setCell (p := ⟨w.heap.size, 0, none⟩) (Nat.le_refl _) x).setCell (p := ⟨w.heap.size, 1, none⟩) (Nat.le_refl _) y
    exact bodyPost_ret (v := .tuple #[.agg #[.bool false, .slice none 0 0], .int .i64 E]) (by simp [results, Tryz.results158, go_sem, z0, z1]) rfl ⟨none, 0, by simp [nl_zero], by simpa [nl_zero, natOf_zero] using Own.nil (q _ _)⟩
end Go.Proofs.YtbcfplaalepnbaaGreatDoor
namespace Go.Proofs.YtbcfplaalepnbaaGreatDoor
open Go.RowKit
def NR (k : Nat) (w : World) (s : Bool) (a : Option Addr) (n c : Nat) (b : Option Addr) (m d : Nat) (q : Rat) : Prop :=
  ∃ xs ys, IsWords w (.slice a n c) xs ∧ Wd xs ∧ IsWords w (.slice b m d) ys ∧ Wd ys ∧ n ≤ k ∧ m ≤ k ∧ 0 < val ys ∧ rv s (val xs) (val ys) = q
set_option maxHeartbeats 4000000 in
theorem rat_fraction (s : Bool) (a : Option Addr) (n c : Nat) (b : Option Addr) (m d : Nat) (w : World) :
    Calls Tryz.prog 172 #[.bool s, .slice a n c, .slice b m d] w fun e w' => e = .returned (.agg #[.bool s, .slice a n c, .slice b m d]) ∧ Below w.heap.size w w' := by
  go_enter Tryz.func172, Tryz.ntmps172
  go_wp2
  have b1 := BoxC.new w #[.bool s, .slice a n c, .slice b m d] 184
  obtain ⟨y0, y1, y2, g0, g1, g2⟩ := b1.cells3
  exact bodyPost_ret (v := .agg #[.bool s, .slice a n c, .slice b m d]) (by simp [results, Tryz.results172, go_sem, y0, y1, y2]) rfl ⟨rfl, (Below.refl _ _).alloc (Nat.le_refl _) _⟩
set_option maxHeartbeats 4000000 in
theorem rat_lowest {k : Nat} {s : Bool} {a : Option Addr} {n c : Nat} {b : Option Addr} {m d : Nat} {q : Rat} {w : World} (h : NR k w s a n c b m d q) (hk : k ≤ 100000000) :
    Calls Tryz.prog 173 #[.agg #[.bool s, .slice a n c, .slice b m d]] w (AnsR w q) := by
  obtain ⟨xs, ys, h1, h2, h3, h4, h5, h6, h7, rfl⟩ := h
  have L := fun v (hb : Below w.heap.size w v) => common_lowest (h1.below hb) h2 (h3.below hb) h4 (by omega) (by omega) _ _ rfl rfl
  unfold AnsDivB at L
  obtain ⟨b1, b2, bV, hs⟩ := boxes2 w #[.bool s, .slice a n c, .slice b m d] #[.bool false, .slice none 0 0, .slice none 0 0] 184 42
  obtain ⟨x0, x1, x2, f0, f1, f2⟩ := b1.cells3
  clear h1 h2 h3 h4 h5 h6 hk
  generalize val xs = A at *
  generalize val ys = D at *
  have HA : Hid (∀ e w', AnsT w (tri (rv s A D)) e w' → AnsR w (rv s A D) e w') := fun _ _ h => h
  have eT : tri (rv s A D) = (s && decide (0 < A / Nat.gcd A D), A / Nat.gcd A D, D / Nat.gcd A D) := by
    rcases Nat.eq_zero_or_pos A with e | e
    · subst e
      rw [rv_num0, tri_zero, Nat.zero_div, Nat.gcd_zero_left, Nat.div_self h7]; simp
    · rw [tri_rv s A D e h7]
      have hX : 0 < A / Nat.gcd A D := Nat.div_pos (Nat.le_of_dvd e (Nat.gcd_dvd_left _ _)) (Nat.gcd_pos_of_pos_left _ e)
      simp [hX]
  rw [eT] at HA
  rw [show low1 A D = A / Nat.gcd A D from if_neg (by omega), show decide (0 < D) = true from decide_eq_true h7] at L
  generalize A / Nat.gcd A D = X at *
  generalize D / Nat.gcd A D = Y at *
  clear eT h7
  have eX : decide (0 < X) = decide ((0 : Int) < (nl X : Int)) := by
    rcases Nat.eq_zero_or_pos X with e | e
    · subst e; rw [nl_zero]; rfl
    · have := nl_pos e
      rw [decide_eq_true e, decide_eq_true (by omega)]
  rw [eX] at HA
  clear eX
  rcases s with _ | _
  case' false =>
    rw [Bool.false_and] at HA
  case' true =>
    rw [Bool.true_and] at HA
  all_goals
    go_enter Tryz.func173, Tryz.ntmps173
    go_wp2_with (go_at_call 190; (with_reducible refine Calls.mono (L _ bV) ?_); rintro e w1 ⟨a1, c1, a2, c2, rfl, o1, o2⟩; obtain ⟨x0, x1, x2, -, -, -⟩ := (b1.more o1.below).cells3; obtain ⟨y0, y1, y2, g0, g1, g2⟩ := (b2.more o1.below).cells3)
    exact bodyPost_ret (v := .agg #[.bool _, .slice a1 (nl X) c1, .slice a2 (nl Y) c2]) (by simp [results, Tryz.results173, go_sem, y0, y1, y2]) rfl (HA.out _ _ (ansT_mk (((o1.above bV).set3 (by omega) hs _ _ _).own (by omega)) (((o2.above bV).set3 (by omega) hs _ _ _).own (by omega))))
end Go.Proofs.YtbcfplaalepnbaaGreatDoor
namespace Go.Proofs.YtbcfplaalepnbaaGreatDoor
open Go.RowKit
theorem rat_lowest' {k : Nat} {s : Bool} {a : Option Addr} {n c : Nat} {b : Option Addr} {m d : Nat} {q : Rat} {w : World} (h : NR k w s a n c b m d q) (hk : k ≤ 100000000) : Calls Tryz.prog 173 #[.agg #[.bool s, .slice a n c, .slice b m d]] w (AnsT w (tri q)) := rat_lowest h hk
end Go.Proofs.YtbcfplaalepnbaaGreatDoor
namespace Go.Proofs.YtbcfplaalepnbaaGreatDoor
open Go.RowKit
set_option maxHeartbeats 4000000 in
theorem rat_make {s : Bool} {a : Option Addr} {n c : Nat} {xs : List Int} {t : Bool} {b : Option Addr} {m d : Nat} {ys : List Int} {w : World} (h : IsWords w (.slice a n c) xs) (hx : Wd xs) (k : IsWords w (.slice b m d) ys) (hy : Wd ys) (hn : n ≤ 10000) (hm : m ≤ 10000) :
    Calls Tryz.prog 159 #[.agg #[.bool s, .slice a n c], .agg #[.bool t, .slice b m d]] w (AnsTE w (mkT s (val xs) t (val ys)) (mkE (val ys))) := by
  have B := fun v (hb : Below w.heap.size w v) => nat_bits' (k.below hb) hy (by omega) _ rfl
  have G := fun v => rat_fraction (!(s == t)) a n c b m d v
  obtain ⟨b1, b2, b3, bV, hs⟩ := boxes3 w #[.bool s, .slice a n c] #[.bool t, .slice b m d] #[.bool false, .slice none 0 0, .slice none 0 0] 82 82 42
  obtain ⟨x0, x1, -, -⟩ := b1.cells2
  obtain ⟨z0, z1, -, -⟩ := b2.cells2
  unfold mkT mkE
  rcases Nat.eq_zero_or_pos (val ys) with h0 | h0
  · rw [if_pos h0, if_pos h0]
    rw [h0, nbits_zero] at B
    obtain ⟨y0, y1, y2, g0, g1, g2⟩ := b3.cells3
    clear h k hx hy hn hm h0 G
    go_enter Tryz.func159, Tryz.ntmps159
    go_wp2_with (go_at_call 171; (with_reducible refine Calls.mono (B _ bV) ?_); rintro e w1 ⟨rfl, rfl⟩)
    exact bodyPost_ret (v := .tuple #[.agg #[.bool false, .slice none 0 0, .slice none 0 0], .int .i64 3]) (by simp [results, Tryz.results159, go_sem, y0, y1, y2]) rfl (ansTE_no bV)
  · rw [if_neg (by omega), if_neg (by omega)]
    have nb : ((nbits (val ys) : Int) == 0) = false := by have := nbits_pos (n := val ys) (by omega); simp; omega
    have L := fun v (hb : Below w.heap.size w v) => rat_lowest' (k := 10000) (q := rv (!(s == t)) (val xs) (val ys)) (w := v) (s := !(s == t)) ⟨xs, ys, h.below hb, hx, k.below hb, hy, hn, hm, h0, rfl⟩ (by omega)
    generalize tri (rv (!(s == t)) (val xs) (val ys)) = tt at L ⊢
    obtain ⟨t0, tN, tD⟩ := tt
    unfold AnsT at L
    dsimp only at L
    clear h k hx hy hn hm h0
    generalize (nbits (val ys) : Int) = nn at *
    go_enter Tryz.func159, Tryz.ntmps159
    go_wp2_with (first
      | (go_at_call 171; (with_reducible refine Calls.mono (B _ bV) ?_); rintro e w1 ⟨rfl, rfl⟩)
      | (go_at_call 172; (with_reducible refine Calls.mono (G _) ?_); rintro e w1 ⟨rfl, bs⟩)
      | (go_at_call 173; (with_reducible refine Calls.mono (L _ (below_more bV bs)) ?_); rintro e w9 ⟨a8, c8, a9, c9, rfl, o8, o9⟩; have d9 := o8.below; replace o8 := o8.outer (below_more bV bs); replace o9 := o9.outer (below_more bV bs); replace bs := below_more bs d9; obtain ⟨y0, y1, y2, g0, g1, g2⟩ := (b3.more bs).cells3))
    exact bodyPost_ret (v := .tuple #[.agg #[.bool t0, .slice a8 (nl tN) c8, .slice a9 (nl tD) c9], .int .i64 0]) (by simp [results, Tryz.results159, go_sem, y0, y1, y2]) rfl (ansTE_mk (o8.box3 (b3.more bs) rat_ne_u32 (by omega) _ _ _) (o9.box3 (b3.more bs) rat_ne_u32 (by omega) _ _ _))
end Go.Proofs.YtbcfplaalepnbaaGreatDoor
namespace Go.Proofs.YtbcfplaalepnbaaGreatDoor
open Go.RowKit
theorem words_right {w : World} {a : Option Addr} {n c : Nat} {zs : List Int} (h : IsWords w (.slice a n c) zs) (hz : Wd zs) : lowN zs n = n ↔ natOf (val zs) = zs := by
  have h1 := (h.low hz).1
  have h2 := h.len
  constructor
  · intro e
    rw [h1] at e
    rw [← (h.low hz).2.1, e, ← h2, List.take_length]
  · intro e
    rw [h1]; unfold nl; rw [e, h2]
theorem right_no {s : Bool} {xs ys : List Int} {q : Rat} (h : decide (q.num < 0) = s ∧ natOf q.num.natAbs = xs ∧ natOf q.den = ys) : natOf (val xs) = xs ∧ natOf (val ys) = ys ∧ 0 < val ys ∧ ¬ (s = true ∧ val xs = 0) ∧ Nat.gcd (val xs) (val ys) = 1 := by
  obtain ⟨e1, e2, e3⟩ := h
  have v1 : val xs = q.num.natAbs := by rw [← e2, val_natOf]
  have v2 : val ys = q.den := by rw [← e3, val_natOf]
  refine ⟨by rw [v1]; exact e2, by rw [v2]; exact e3, by rw [v2]; exact q.den_pos, ?_, by rw [v1, v2]; exact q.reduced⟩
  rintro ⟨h1, h2⟩
  rw [h1] at e1
  have := of_decide_eq_true e1
  omega
theorem right_yes {s : Bool} {xs ys : List Int} {q : Rat} (hq : rv s (val xs) (val ys) = q) (h1 : natOf (val xs) = xs) (h2 : natOf (val ys) = ys) (h3 : 0 < val ys) (h4 : ¬ (s = true ∧ val xs = 0)) (h5 : Nat.gcd (val xs) (val ys) = 1) : decide (q.num < 0) = s ∧ natOf q.num.natAbs = xs ∧ natOf q.den = ys := by
  subst hq
  rw [rv_num _ _ _ h3, rv_den _ _ _ h3, h5, Nat.div_one, Nat.div_one, iv_abs, iv_neg]
  refine ⟨?_, h1, h2⟩
  cases s
  · rfl
  · rw [Bool.true_and]; exact decide_eq_true (by have : val xs ≠ 0 := fun e => h4 ⟨rfl, e⟩; omega)
set_option maxHeartbeats 4000000 in
theorem rat_right {s : Bool} {a : Option Addr} {n c : Nat} {xs : List Int} {b : Option Addr} {m d : Nat} {ys : List Int} {w : World} (h : IsWords w (.slice a n c) xs) (hx : Wd xs) (k : IsWords w (.slice b m d) ys) (hy : Wd ys) (hn : n ≤ 10000) (hm : m ≤ 10000) (q : Rat) (hq : rv s (val xs) (val ys) = q)
    (r : Bool) (hr : decide (decide (q.num < 0) = s ∧ natOf q.num.natAbs = xs ∧ natOf q.den = ys) = r) : Calls Tryz.prog 141 #[.agg #[.bool s, .slice a n c, .slice b m d]] w fun e w' => e = .returned (.bool r) ∧ Below w.heap.size w w' := by
  have R1 := fun v (hb : Below w.heap.size w v) => nat_Right a n c xs v (h.below hb)
  have R2 := fun v (hb : Below w.heap.size w v) => nat_Right b m d ys v (k.below hb)
  have AP := fun v (hb : Below w.heap.size w v) => common_apart (h.below hb) hx (k.below hb) hy (by omega) (by omega)
  have w1 := words_right h hx
  have w2 := words_right k hy
  have n0 : n = 0 → val xs = 0 := fun e => by
    have := h.len; subst e; rw [List.eq_nil_of_length_eq_zero this]; rfl
  have m0 : natOf (val ys) = ys → m ≠ 0 → 0 < val ys := fun e hm0 => by
    rcases Nat.eq_zero_or_pos (val ys) with e1 | e1
    · rw [e1, natOf_zero] at e
      exact absurd (by have := k.len; rw [← e] at this; exact this.symm) hm0
    · exact e1
  have n0' : natOf (val xs) = xs → n ≠ 0 → val xs ≠ 0 := fun e hm0 e1 => by
    rw [e1, natOf_zero] at e
    exact hm0 (by have := h.len; rw [← e] at this; exact this.symm)
  have m0' : m = 0 → val ys = 0 := fun e => by
    have := k.len; subst e; rw [List.eq_nil_of_length_eq_zero this]; rfl
  have NO : ∀ (P : Prop), P → (natOf (val xs) = xs ∧ natOf (val ys) = ys ∧ 0 < val ys ∧ ¬ (s = true ∧ val xs = 0) ∧ Nat.gcd (val xs) (val ys) = 1 → ¬ P) → r = false := fun P p f => by
    rw [← hr]; exact decide_eq_false (fun g => f (right_no g) p)
  obtain ⟨b1, bV, hs⟩ := boxes1 w #[.bool s, .slice a n c, .slice b m d] 42
  obtain ⟨x0, x1, x2, -, -, -⟩ := b1.cells3
  by_cases c1 : natOf (val xs) = xs
  case neg =>
    have e := NO _ c1 (fun g => not_not_intro g.1)
    subst e
    have R3 := fun v hb => R1 v hb false (decide_eq_false (fun e => c1 (w1.1 e)))
    clear R1 R2 AP w1 w2 NO n0 m0 n0' m0' c1 hr hq hn hm h k hx hy
    go_enter Tryz.func141, Tryz.ntmps141
    go_wp2_with (go_at_call 154; (with_reducible refine Calls.mono (R3 _ bV) ?_); rintro e w3 ⟨rfl, rfl⟩)
    go_ret
    exact ⟨rfl, bV⟩
  have R3 := fun v hb => R1 v hb true (decide_eq_true (w1.2 c1))
  by_cases c2 : natOf (val ys) = ys
  case neg =>
    have e := NO _ c2 (fun g => not_not_intro g.2.1)
    subst e
    have R4 := fun v hb => R2 v hb false (decide_eq_false (fun e => c2 (w2.1 e)))
    clear R1 R2 AP w1 w2 NO n0 m0 n0' m0' c1 c2 hr hq hn hm h k hx hy
    go_enter Tryz.func141, Tryz.ntmps141
    go_wp2_with (first
      | (go_at_call 154; (with_reducible refine Calls.mono (R3 _ bV) ?_); rintro e w3 ⟨rfl, rfl⟩)
      | (go_at_call 154; (with_reducible refine Calls.mono (R4 _ bV) ?_); rintro e w3 ⟨rfl, rfl⟩))
    go_ret
    exact ⟨rfl, bV⟩
  have R4 := fun v hb => R2 v hb true (decide_eq_true (w2.2 c2))
  by_cases c3 : m = 0
  case pos =>
    have e := NO _ (m0' c3) (fun g => by omega)
    subst e
    subst c3
    clear R1 R2 AP w1 w2 NO n0 m0 n0' m0' c1 c2 hr hq hn hm h k hx hy
    go_enter Tryz.func141, Tryz.ntmps141
    go_wp2_with (first
      | (go_at_call 154; (with_reducible refine Calls.mono (R3 _ bV) ?_); rintro e w3 ⟨rfl, rfl⟩)
      | (go_at_call 154; (with_reducible refine Calls.mono (R4 _ bV) ?_); rintro e w3 ⟨rfl, rfl⟩))
    go_ret
    exact ⟨rfl, bV⟩
  have c3' : (0 : Int) < (m : Int) := by omega
  have p3 := m0 c2 c3
  by_cases c4 : s = true ∧ n = 0
  case pos =>
    have e := NO (s = true ∧ val xs = 0) ⟨c4.1, n0 c4.2⟩ (fun g => g.2.2.2.1)
    subst e
    obtain ⟨rfl, rfl⟩ := c4
    clear R1 R2 AP w1 w2 NO n0 m0 n0' m0' c1 c2 hr hq hn hm h k hx hy p3
    go_enter Tryz.func141, Tryz.ntmps141
    go_wp2_with (first
      | (go_at_call 154; (with_reducible refine Calls.mono (R3 _ bV) ?_); rintro e w3 ⟨rfl, rfl⟩)
      | (go_at_call 154; (with_reducible refine Calls.mono (R4 _ bV) ?_); rintro e w3 ⟨rfl, rfl⟩))
    go_ret
    exact ⟨rfl, bV⟩
  have e5 : decide (Nat.gcd (val xs) (val ys) = 1) = r := by
    rw [← hr]
    by_cases g : Nat.gcd (val xs) (val ys) = 1
    · rw [decide_eq_true g, decide_eq_true (right_yes hq c1 c2 p3 (fun e => n0' c1 (fun e2 => c4 ⟨e.1, e2⟩) e.2) g)]
    · rw [decide_eq_false g, decide_eq_false (fun e => g (right_no e).2.2.2.2)]
  have A2 := fun v hb => AP v hb r e5
  have c5 : s = false ∨ s = true ∧ ((n : Int) == 0) = false := by
    cases s
    · exact .inl rfl
    · have hn0 : n ≠ 0 := fun e => c4 ⟨rfl, e⟩
      exact .inr ⟨rfl, by simp; omega⟩
  clear R1 R2 AP w1 w2 NO n0 m0 n0' m0' c1 c2 c3 c4 hr hq hn hm h k hx hy p3 e5
  rcases c5 with rfl | ⟨rfl, c5⟩
  all_goals
    go_enter Tryz.func141, Tryz.ntmps141
    go_wp2_with (first
      | (go_at_call 154; (with_reducible refine Calls.mono (R3 _ bV) ?_); rintro e w3 ⟨rfl, rfl⟩)
      | (go_at_call 154; (with_reducible refine Calls.mono (R4 _ bV) ?_); rintro e w3 ⟨rfl, rfl⟩)
      | (go_at_call 155; (with_reducible refine Calls.mono (A2 _ bV) ?_); rintro e w4 ⟨rfl, d4⟩))
    go_ret
    exact ⟨rfl, below_more bV d4⟩
end Go.Proofs.YtbcfplaalepnbaaGreatDoor
namespace Go.Proofs.YtbcfplaalepnbaaGreatDoor
open Go.RowKit
theorem index_stroke (l : List UInt8) : Go.Lib.indexByte l 124 = if strokeAt l < l.length then (strokeAt l : Int) else -1 := by
  induction l with
  | nil => rfl
  | cons c l ih =>
    unfold Go.Lib.indexByte
    rw [stroke_cons, ih, List.length_cons]
    by_cases h : c = 124
    · subst h; simp
    · have h' : (c == 124) = false := by simpa using h
      simp only [h', if_neg h, Bool.false_eq_true, if_false]
      by_cases hl : strokeAt l < l.length
      · have : (((strokeAt l : Nat) : Int) == -1) = false := by simp
        simp only [if_pos hl, this, Bool.false_eq_true, if_false]
        rw [if_pos (by omega)]; omega
      · simp only [if_neg hl]
        rw [if_neg (by omega : ¬ strokeAt l + 1 < l.length + 1)]; rfl
set_option maxHeartbeats 4000000 in
set_option maxRecDepth 100000 in
theorem index_byte (s : ByteArray) (w : World) (c : Int) (hc : c = 124) : Calls Tryz.prog 208 #[.string s, .int .u8 c] w fun e w' => e = .returned (.int .i64 (Go.Lib.indexByte s.data.toList 124)) ∧ w = w' := by
  subst hc
  have R := fun v => Go.Lib.run_indexByteString (P := Tryz.prog) s 124 v
  rw [show (124 : Int).toNat.toUInt8 = 124 from rfl] at R
  generalize Go.Lib.indexByte s.data.toList 124 = I at *
  go_enter Tryz.func208, Tryz.ntmps208
  go_wp2
  rw [run_callFunc_extern Tryz.func228 (by kernel_rfl) (by kernel_rfl) (by kernel_rfl) (e := Extern.BytealgIndexByte.indexByte) (by kernel_rfl), R]
  simp only [Result.andThen]
  rw [Oper.upon_value]
  go_wp2
  go_ret
  exact ⟨rfl, rfl⟩
set_option maxHeartbeats 4000000 in
set_option maxRecDepth 100000 in
theorem index_at (s : ByteArray) (w : World) (I : Int) (hI : Go.Lib.indexByte s.data.toList 124 = I) :
    Calls Tryz.prog 188 #[.string s, .string ⟨#[124]⟩] w fun e w' => e = .returned (.int .i64 I) ∧ w = w' := by
  have B := fun v c hc => index_byte s v c hc
  have h0 : ([124] == s.toList) = true ∧ I = 0 ∨ ([124] == s.toList) = false := by
    cases h : ([124] == s.toList)
    · exact .inr rfl
    · refine .inl ⟨rfl, ?_⟩
      have e : s.data.toList = [124] := by rw [← ByteArray.toList_eq]; exact (beq_iff_eq.1 h).symm
      rw [← hI, e]; rfl
  rw [hI] at B
  clear hI
  rcases h0 with ⟨h0, rfl⟩ | h0
  all_goals
    go_enter Tryz.func188, Tryz.ntmps188
    go_wp2_with (go_at_call 208; (with_reducible refine Calls.mono (B _ _ (by decide)) ?_); rintro e w1 ⟨rfl, rfl⟩)
    go_ret
    exact ⟨rfl, rfl⟩
set_option maxHeartbeats 4000000 in
theorem cut_no (s : ByteArray) (w : World) (h : ¬ strokeAt s.data.toList < s.size) : Calls Tryz.prog 157 #[.string s, .string ⟨#[124]⟩] w fun e w' => e = .returned (.tuple #[.string s, .string ⟨#[]⟩, .bool false]) ∧ Below w.heap.size w w' := by
  have X := fun v => index_at s v (-1) (by rw [index_stroke, if_neg (by simpa using h)])
  have C : ∀ v, Calls Tryz.prog 169 #[.string s, .string ⟨#[124]⟩] v fun e w' => e = .returned (.tuple #[.string s, .string ⟨#[]⟩, .bool false]) ∧ Below v.heap.size v w' := by
    intro v
    go_enter Tryz.func169, Tryz.ntmps169
    go_wp2_with (go_at_call 188; (with_reducible refine Calls.mono (X _) ?_); rintro e w1 ⟨rfl, rfl⟩)
    go_ret3
    exact ⟨rfl, Below.refl _ _⟩
  go_enter Tryz.func157, Tryz.ntmps157
  go_wp2_with (go_at_call 169; (with_reducible refine Calls.mono (C _) ?_); rintro e w1 ⟨rfl, d1⟩)
  go_ret3
  exact ⟨rfl, d1⟩
set_option maxHeartbeats 4000000 in
theorem cut_yes (s : ByteArray) (hs : s.size ≤ maxLen) (w : World) (A : Nat) (hA : strokeAt s.data.toList = A) (h : A < s.size) : Calls Tryz.prog 157 #[.string s, .string ⟨#[124]⟩] w fun e w' => e = .returned (.tuple #[.string (s.extract 0 A), .string (s.extract (A + 1) s.size), .bool true]) ∧ Below w.heap.size w w' := by
  have X := fun v => index_at s v (A : Int) (by rw [index_stroke, hA, if_pos (by simpa using h)])
  have C : ∀ v, Calls Tryz.prog 169 #[.string s, .string ⟨#[124]⟩] v fun e w' => e = .returned (.tuple #[.string (s.extract 0 A), .string (s.extract (A + 1) s.size), .bool true]) ∧ Below v.heap.size v w' := by
    intro v
    unfold maxLen at hs
    have c1 : (0 : Int) ≤ (A : Int) := by omega
    have c2 : (A : Int) ≤ (s.size : Int) := by omega
    have c3 : (0 : Int) ≤ (A : Int) + 1 := by omega
    have c4 : (A : Int) + 1 ≤ (s.size : Int) := by omega
    have c5 : IntKind.i64.wrap ((A : Int) + 1) = (A : Int) + 1 := by rw [IntKind.wrap_i64]; omega
    clear hA h hs
    go_enter Tryz.func169, Tryz.ntmps169
    go_wp2_with (go_at_call 188; (with_reducible refine Calls.mono (X _) ?_); rintro e w1 ⟨rfl, rfl⟩)
    go_quiet (fail)
    go_wp2
    go_ret3
    exact ⟨rfl, below_drewN (Below.refl _ _) _⟩
  clear hA h hs X
  go_enter Tryz.func157, Tryz.ntmps157
  go_wp2_with (go_at_call 169; (with_reducible refine Calls.mono (C _) ?_); rintro e w1 ⟨rfl, d1⟩)
  go_ret3
  exact ⟨rfl, d1⟩
theorem cut_parts (s : ByteArray) (hs : s.size ≤ maxLen) : ∃ (f u : ByteArray) (ct : Bool), (∀ v, Calls Tryz.prog 157 #[.string s, .string ⟨#[124]⟩] v fun e w' => e = .returned (.tuple #[.string f, .string u, .bool ct]) ∧ Below v.heap.size v w') ∧ f.data.toList = frontR s.data.toList ∧ f.size ≤ maxLen ∧ u.size ≤ maxLen ∧ (ct = false ∧ restR s.data.toList = [] ∨ ct = true ∧ ∃ c, restR s.data.toList = c :: u.data.toList) := by
  have hsz : s.data.toList.length = s.size := by simp
  have hle := stroke_le s.data.toList
  rw [hsz] at hle
  by_cases h : strokeAt s.data.toList < s.size
  · refine ⟨_, _, true, fun v => cut_yes s hs v _ rfl h, ?_, ?_, ?_, .inr ⟨rfl, s[strokeAt s.data.toList], ?_⟩⟩
    · rw [extract_front, front_take]
    · rw [ByteArray.size_extract]; omega
    · rw [ByteArray.size_extract]; omega
    · rw [rest_drop, extract_rest]; exact drop_byte s _ h
  · refine ⟨_, _, false, fun v => cut_no s v h, ?_, hs, Nat.zero_le _, .inl ⟨rfl, ?_⟩⟩
    · rw [front_take, List.take_of_length_le (by omega)]
    · rw [rest_drop, List.drop_of_length_le (by omega)]
set_option maxHeartbeats 8000000 in
theorem rat_parse (s : ByteArray) (w : World) (hs : s.size ≤ maxLen) : Calls Tryz.prog 148 #[.string s] w (AnsTE w (parT s.data.toList) (parE s.data.toList)) := by
  obtain ⟨f, u, ct, CU, hf, lf, lu, hc⟩ := cut_parts s hs
  have P1 := fun v => whole_parse f v lf
  have P2 := fun v => deci_parse u v lu
  rw [hf] at P1
  have lz : nl (znum (frontR s.data.toList)).natAbs ≤ 1001 := by unfold znum; rw [iv_abs]; exact pnum_words _
  have lu2 : nl (pnum u.data.toList) ≤ 1001 := pnum_words _
  unfold AnsIP at P1
  unfold AnsP at P2
  obtain ⟨b1, bV, hs⟩ := boxes1 w #[.bool false, .slice none 0 0, .slice none 0 0] 42
  by_cases hz : zerr (frontR s.data.toList) = 0
  case neg =>
    obtain ⟨e1, e2⟩ := par_err hz
    rw [e1, e2]
    have hz2 : (zerr (frontR s.data.toList) == 0) = false := by simpa using hz
    generalize zerr (frontR s.data.toList) = E1 at *
    generalize znum (frontR s.data.toList) = Z at *
    generalize decide (Z < 0) = gZ at *
    generalize Z.natAbs = NZ at *
    clear hf lf lu hc lz lu2 e1 e2 hz P2
    go_enter Tryz.func148, Tryz.ntmps148
    go_wp2_with (first
      | (go_at_call 157; (with_reducible refine Calls.mono (CU _) ?_); rintro e w0 ⟨rfl, d0⟩)
      | (go_at_call 158; (with_reducible refine Calls.mono (P1 _) ?_); rintro e w1 ⟨a1, c1, rfl, o1⟩; have d1 := below_more d0 o1.below; obtain ⟨y0, y1, y2, g0, g1, g2⟩ := (b1.more d1).cells3; have R := fun o => ((b1.more d1).alloc o).cells3; have u0 := fun o => (R o).1; have u1 := fun o => (R o).2.1; have u2 := fun o => (R o).2.2.1; have v0 := fun o => (R o).2.2.2.1; have v1 := fun o => (R o).2.2.2.2.1; have v2 := fun o => (R o).2.2.2.2.2; clear R))
    have bw := below_more bV d1
    have q := fun x y z o => (((b1.more d1).alloc o).set3 x y z).cells3
    have q0 := fun x y z o => (q x y z o).1
    have q1 := fun x y z o => (q x y z o).2.1
    have q2 := fun x y z o => (q x y z o).2.2.1
    exact bodyPost_ret (v := .tuple #[.agg #[.bool false, .slice none 0 0, .slice none 0 0], .int .i64 E1]) (by simp [results, Tryz.results148, go_sem, q0, q1, q2]) rfl (ansTE_no (below_set3 (bw.alloc bw.size _) (by omega) _ _ _))
  rw [hz] at P1
  rcases hc with ⟨rfl, hr⟩ | ⟨rfl, c, hr⟩
  · obtain ⟨e1, e2⟩ := par_none hz hr
    rw [e1, e2]
    have O := fun v => whole_of 1 v (by omega) (by omega)
    unfold AnsI at O
    rw [show decide ((1 : Int) < 0) = false from rfl, show (1 : Int).natAbs = 1 from rfl] at O
    have l1 : nl 1 ≤ 1 := nl_le 1 1 (by omega)
    have MK := fun v a1 c1 a2 c2 (p : IsWords v (.slice a1 (nl (znum (frontR s.data.toList)).natAbs) c1) (natOf (znum (frontR s.data.toList)).natAbs)) (p' : IsWords v (.slice a2 (nl 1) c2) (natOf 1)) => rat_make (s := decide (znum (frontR s.data.toList) < 0)) (t := false) p (wd_natOf _) p' (wd_natOf _) (by omega) (by omega)
    simp only [val_natOf] at MK
    generalize mkT (decide (znum (frontR s.data.toList) < 0)) (znum (frontR s.data.toList)).natAbs false 1 = tt at *
    generalize mkE 1 = EE at *
    obtain ⟨t0, tN, tD⟩ := tt
    unfold AnsTE at MK
    dsimp only at MK
    generalize znum (frontR s.data.toList) = Z at *
    generalize decide (Z < 0) = gZ at *
    generalize Z.natAbs = NZ at *
    generalize nl 1 = one at *
    clear hf lf lu lz lu2 e1 e2 hz P2 hr l1
    go_enter Tryz.func148, Tryz.ntmps148
    go_wp2_with (first
      | (go_at_call 157; (with_reducible refine Calls.mono (CU _) ?_); rintro e w0 ⟨rfl, d0⟩)
      | (go_at_call 158; (with_reducible refine Calls.mono (P1 _) ?_); rintro e w1 ⟨a1, c1, rfl, o1⟩))
    have d1 := below_more d0 o1.below
    have BN := BoxC.new w1 #[.bool gZ, .slice a1 (nl NZ) c1] 82
    have BR := (b1.more d1).alloc (.cells #[.bool gZ, .slice a1 (nl NZ) c1] 82)
    have o4 := (o1.outer (below_more bV d0)).alloc (.cells #[.bool gZ, .slice a1 (nl NZ) c1] 82)
    have hk3 : w.heap.size < w1.heap.size := (b1.more d1).lt
    clear o1 d0 d1 b1 bV hs CU P1
    generalize w1.heap.size = k3 at *
    generalize w1.alloc (.cells #[.bool gZ, .slice a1 (nl NZ) c1] 82) = V at *
    have SO := fun v (hb : Below V.heap.size V v) => (show v.cell? ⟨k3, 0, none⟩ = some (.bool gZ) ∧ v.cell? ⟨k3, 1, none⟩ = some (.slice a1 (nl NZ) c1) from ⟨(BN.more hb).cells2.1, (BN.more hb).cells2.2.1⟩)
    have SR := fun v (hb : Below V.heap.size V v) x0 x1 x2 => (show (((v.setCell ⟨w.heap.size, 0, none⟩ x0).setCell ⟨w.heap.size, 1, none⟩ x1).setCell ⟨w.heap.size, 2, none⟩ x2).cell? ⟨k3, 0, none⟩ = some (.bool gZ) ∧ (((v.setCell ⟨w.heap.size, 0, none⟩ x0).setCell ⟨w.heap.size, 1, none⟩ x1).setCell ⟨w.heap.size, 2, none⟩ x2).cell? ⟨k3, 1, none⟩ = some (.slice a1 (nl NZ) c1) from ⟨(((((BN.more hb).other (by omega) _).other (by omega) _).other (by omega) _)).cells2.1, (((((BN.more hb).other (by omega) _).other (by omega) _).other (by omega) _)).cells2.2.1⟩)
    have bs : Below V.heap.size V V.drew := (Below.refl _ _).drew
    clear BN
    go_region_held3 (fun v => v.cell? ⟨k3, 0, none⟩ = some (.bool gZ) ∧ v.cell? ⟨k3, 1, none⟩ = some (.slice a1 (nl NZ) c1))
      (first | with_reducible exact SO _ bs | with_reducible exact SR _ bs _ _ _)
      (first
      | (go_at_call 160; (with_reducible refine Calls.mono (O _) ?_); rintro e w2 ⟨a2, c2, rfl, o2⟩; replace bs := below_more bs o2.below)
      | (go_at_call 159; (with_reducible refine Calls.mono (MK _ _ _ _ _ (o4.more bs).words o2.words) ?_); rintro e w9 ⟨a8, c8, a9, c9, rfl, o8, o9⟩; have d9 := o8.below; replace o8 := o8.outer (below_more o4.below bs); replace o9 := o9.outer (below_more o4.below bs); replace bs := below_more bs d9; obtain ⟨y0, y1, y2, g0, g1, g2⟩ := (BR.more bs).cells3))
    all_goals
      go_wp2
      exact bodyPost_ret (v := .tuple #[.agg #[.bool t0, .slice a8 (nl tN) c8, .slice a9 (nl tD) c9], .int .i64 EE]) (by simp [results, Tryz.results148, go_sem, y0, y1, y2]) rfl (ansTE_mk (o8.box3 (BR.more bs) rat_ne_u32 (by omega) _ _ _) (o9.box3 (BR.more bs) rat_ne_u32 (by omega) _ _ _))
  · by_cases hp : perr u.data.toList = 0
    case neg =>
      obtain ⟨e1, e2⟩ := par_rest hz hr hp
      rw [e1, e2]
      have hp2 : (perr u.data.toList == 0) = false := by simpa using hp
      generalize perr u.data.toList = E1 at *
      generalize pnum u.data.toList = NP at *
      generalize znum (frontR s.data.toList) = Z at *
      generalize decide (Z < 0) = gZ at *
      generalize Z.natAbs = NZ at *
      clear hf lf lu lz lu2 e1 e2 hz hp hr
      go_enter Tryz.func148, Tryz.ntmps148
      go_wp2_with (first
        | (go_at_call 157; (with_reducible refine Calls.mono (CU _) ?_); rintro e w0 ⟨rfl, d0⟩)
        | (go_at_call 158; (with_reducible refine Calls.mono (P1 _) ?_); rintro e w1 ⟨a1, c1, rfl, o1⟩; have d1 := below_more d0 o1.below; have bw := fun o => (below_more bV d1).alloc (below_more bV d1).size o; have BW := fun o => (b1.more d1).alloc o)
        | (go_at_call 161; (with_reducible refine Calls.mono (P2 _) ?_); rintro e w2 ⟨a2, c2, rfl, o2⟩; have d2 := o2.below; obtain ⟨y0, y1, y2, g0, g1, g2⟩ := ((BW _).more d2).cells3))
      exact bodyPost_ret (v := .tuple #[.agg #[.bool false, .slice none 0 0, .slice none 0 0], .int .i64 E1]) (by simp [results, Tryz.results148, go_sem, y0, y1, y2]) rfl (ansTE_no (below_set3 (below_more (bw _) d2) (by omega) _ _ _))
    obtain ⟨e1, e2⟩ := par_both hz hr hp
    rw [e1, e2]
    rw [hp] at P2
    have MK := fun v a1 c1 a2 c2 (p : IsWords v (.slice a1 (nl (znum (frontR s.data.toList)).natAbs) c1) (natOf (znum (frontR s.data.toList)).natAbs)) (p' : IsWords v (.slice a2 (nl (pnum u.data.toList)) c2) (natOf (pnum u.data.toList))) => rat_make (s := decide (znum (frontR s.data.toList) < 0)) (t := false) p (wd_natOf _) p' (wd_natOf _) (by omega) (by omega)
    simp only [val_natOf] at MK
    generalize mkT (decide (znum (frontR s.data.toList) < 0)) (znum (frontR s.data.toList)).natAbs false (pnum u.data.toList) = tt at *
    generalize mkE (pnum u.data.toList) = EE at *
    obtain ⟨t0, tN, tD⟩ := tt
    unfold AnsTE at MK
    dsimp only at MK
    generalize pnum u.data.toList = NP at *
    generalize znum (frontR s.data.toList) = Z at *
    generalize decide (Z < 0) = gZ at *
    generalize Z.natAbs = NZ at *
    clear hf lf lu lz lu2 e1 e2 hz hp hr
    go_enter Tryz.func148, Tryz.ntmps148
    go_wp2_with (first
      | (go_at_call 157; (with_reducible refine Calls.mono (CU _) ?_); rintro e w0 ⟨rfl, d0⟩)
      | (go_at_call 158; (with_reducible refine Calls.mono (P1 _) ?_); rintro e w1 ⟨a1, c1, rfl, o1⟩; have d1 := below_more d0 o1.below; have o3 := o1.outer (below_more bV d0); have bw := fun o => (below_more bV d1).alloc (below_more bV d1).size o; have BW := fun o => (b1.more d1).alloc o; have BN := BoxC.new w1 #[.bool gZ, .slice a1 (nl NZ) c1] 82)
      | (go_at_call 161; (with_reducible refine Calls.mono (P2 _) ?_); rintro e w2 ⟨a2, c2, rfl, o2⟩; have d2 := o2.below; obtain ⟨x0, x1, -, -⟩ := (BN.more d2).cells2)
      | (go_at_call 159; (with_reducible refine Calls.mono (MK _ _ _ _ _ ((o3.alloc _).more d2).words o2.words) ?_); rintro e w9 ⟨a8, c8, a9, c9, rfl, o8, o9⟩; have d9 := o8.below; replace o8 := o8.outer (below_more (bw _) d2); replace o9 := o9.outer (below_more (bw _) d2); have BR := ((BW _).more d2).more d9; obtain ⟨y0, y1, y2, g0, g1, g2⟩ := BR.cells3))
    exact bodyPost_ret (v := .tuple #[.agg #[.bool t0, .slice a8 (nl tN) c8, .slice a9 (nl tD) c9], .int .i64 EE]) (by simp [results, Tryz.results148, go_sem, y0, y1, y2]) rfl (ansTE_mk (o8.box3 (BR) rat_ne_u32 (by omega) _ _ _) (o9.box3 (BR) rat_ne_u32 (by omega) _ _ _))
end Go.Proofs.YtbcfplaalepnbaaGreatDoor
namespace Go.Proofs.YtbcfplaalepnbaaGreatDoor
open Go.RowKit Go.Lib
theorem pow_no {L : List Tok} (hL : Toks L) {p : Nat} {all : List Nd} {a : Int} (h : ((nextT L p).2.1.toList == [94]) = false) : (⟨p, false, all⟩ : Rd).powT L a = (a, ⟨p, false, all⟩) := by
  unfold Rd.powT
  rw [hL.mark rfl (c := 94) (by decide), if_neg (by rw [h]; simp)]
theorem pow_yes {L : List Tok} (hL : Toks L) {p : Nat} {all : List Nd} {a : Int} (h : ((nextT L p).2.1.toList == [94]) = true) {m : Bool} (hm : ((nextT L (p + 1)).2.1.toList == [45]) = m) {p1 : Nat} (hp : (if m = true then p + 1 + 1 else p + 1) = p1) :
    (⟨p, false, all⟩ : Rd).powT L a = (⟨p1, false, all⟩ : Rd).powE L a (if m = true then -1 else 1) := by
  unfold Rd.powT
  rw [hL.mark rfl (c := 94) (by decide), if_pos h]
  have e : (⟨p, false, all⟩ : Rd).skip.is L 2 [45] = m := by
    rw [hL.mark (r := (⟨p, false, all⟩ : Rd).skip) rfl (c := 45) (by decide)]; exact hm
  rw [e]
  cases m with
  | false => rw [if_neg (by simp), if_neg (by simp)]; subst hp; rfl
  | true => rw [if_pos rfl, if_pos rfl]; subst hp; rfl
theorem powE_none {L : List Tok} (hL : Toks L) {p : Nat} {all : List Nd} {a f : Int} (h : expA (nextT L p).2.1 = none) : (⟨p, false, all⟩ : Rd).powE L a f = (a, ⟨p, true, all⟩) := by
  unfold Rd.powE
  rw [if_neg (by simp)]
  rcases hL.exp p with ⟨-, q | ⟨t, q, q1⟩⟩ | ⟨t, q1, q2, q3, q4, q5⟩
  · show (match L[p]? with | none => _ | some t => _) = _
    rw [q]; rfl
  · show (match L[p]? with | none => _ | some t => _) = _
    rw [q]
    dsimp only
    by_cases h1 : t.1 ≠ 1
    · rw [if_pos h1]; rfl
    · rw [if_neg h1, if_pos (q1.resolve_left h1)]; rfl
  · rw [q5] at h; exact absurd h (by simp)
theorem powE_some {L : List Tok} (hL : Toks L) {p : Nat} {all : List Nd} {a f n : Int} (h : expA (nextT L p).2.1 = some n) : (⟨p, false, all⟩ : Rd).powE L a f = ((all.length : Int), ⟨p + 1, false, all ++ [⟨7, a, 0, f * n, noText, (false, 0, 0)⟩]⟩) := by
  unfold Rd.powE
  rw [if_neg (by simp)]
  rcases hL.exp p with ⟨q, -⟩ | ⟨t, q1, q2, q3, q4, q5⟩
  · rw [q] at h; exact absurd h (by simp)
  · show (match L[p]? with | none => _ | some t => _) = _
    rw [q1]
    dsimp only
    rw [q5] at h
    injection h with h
    rw [if_neg (by omega), if_neg (by omega), h]
    rfl
section
variable {W w : World} {R : Nat} {ta : Option Addr} {tc : Nat} {i l o : Value} {L : List Tok} {p : Nat} {all : List Nd} {S : List It}
def AftP (W w : World) (R : Nat) (ta : Option Addr) (tc : Nat) (i l o : Value) (L : List Tok) (S : List It) (Z : Int × Rd) (e : Ending) (w' : World) : Prop :=
  e = .returned (.bool (!Z.2.bad)) ∧ (∃ al S', Tq W w' R ta tc i l o L Z.2.pos al S' ∧ (Z.2.bad = false → al = Z.2.all ∧ S' = S ++ [.nd Z.1])) ∧ Keep TY w w'
set_option maxHeartbeats 8000000 in
theorem q_power (h : Tq W w R ta tc i l o L p all S) (hL : Toks L) (he : ErrV W) (a : Int) (hl : all.length + S.length ≤ 50000) :
    Calls Tryz.prog 149 #[.pointer (some ⟨R, 0, none⟩), .int .i64 a] w (AftP W w R ta tc i l o L S ((⟨p, false, all⟩ : Rd).powT L a)) := by
  cases hb : ((nextT L p).2.1.toList == [94]) with
  | false =>
    rw [pow_no hL hb]
    unfold AftP
    have PS := q_pass h ⟨#[94]⟩ (by rw [toList_byte]; simp) false (by rw [toList_byte]; exact hb)
    have PU := fun (v : World) (T : Tq W v R ta tc i l o L p all S) => q_push T (.nd a) (by omega)
    unfold itV at PU
    dsimp only at PU
    rw [if_neg (by simp)] at PS
    clear h hb hL he hl
    go_enter Tryz.func149, Tryz.ntmps149
    go_wp2_with (first
      | (go_at_call 53; (with_reducible refine Calls.mono PS ?_); rintro e w1 ⟨rfl, T1, K1⟩)
      | (go_at_call 136; (with_reducible refine Calls.mono (PU _ T1) ?_); rintro e w2 ⟨rfl, T2, K2⟩))
    go_ret
    exact ⟨rfl, ⟨all, _, T2, fun _ => ⟨rfl, rfl⟩⟩, K1.trans K2⟩
  | true =>
    obtain ⟨m, hm⟩ : ∃ m, ((nextT L (p + 1)).2.1.toList == [45]) = m := ⟨_, rfl⟩
    obtain ⟨p1, hp1⟩ : ∃ p1, (if m = true then p + 1 + 1 else p + 1) = p1 := ⟨_, rfl⟩
    rw [pow_yes hL hb hm hp1]
    have PS := q_pass h ⟨#[94]⟩ (by rw [toList_byte]; simp) true (by rw [toList_byte]; exact hb)
    rw [if_pos rfl] at PS
    cases hx : expA (nextT L p1).2.1 with
    | none =>
      rw [powE_none hL hx]
      unfold AftP
      have EX := fun (v : World) (T : Tq W v R ta tc i l o L (p + 1) all S) => q_exponent T hL he m hm p1 hp1 none hx
      unfold expV at EX
      dsimp only [Option.isSome] at EX
      simp only [Bool.false_eq_true, if_false] at EX
      clear h hb hL he hl hm hp1 hx
      go_enter Tryz.func149, Tryz.ntmps149
      go_wp2_with (first
        | (go_at_call 53; (with_reducible refine Calls.mono PS ?_); rintro e w1 ⟨rfl, T1, K1⟩)
        | (go_at_call 162; (with_reducible refine Calls.mono (EX _ T1) ?_); rintro e w2 ⟨rfl, T2, K2⟩))
      go_ret
      exact ⟨rfl, ⟨all, S, T2, fun q => absurd q (by simp)⟩, K1.trans K2⟩
    | some n =>
      rw [powE_some hL hx]
      unfold AftP
      have EX := fun (v : World) (T : Tq W v R ta tc i l o L (p + 1) all S) => q_exponent T hL he m hm p1 hp1 (some n) hx
      unfold expV at EX
      dsimp only [Option.isSome] at EX
      simp only [if_true] at EX
      have ef : (if m = true then (-1 : Int) else 1) * n = if m = true then -n else n := by cases m <;> simp
      rw [ef]
      generalize (if m = true then -n else n) = k at *
      have AD := fun (v : World) (T : Tq W v R ta tc i l o L (p1 + 1) all S) => q_add T ⟨7, a, 0, k, ⟨#[]⟩, (false, 0, 0)⟩ none 0 0 none 0 0 (num_zeroY T.below 7 a 0 k _) (by omega)
      dsimp only at AD
      have PU := fun (v : World) (T : Tq W v R ta tc i l o L (p1 + 1) (all ++ [⟨7, a, 0, k, ⟨#[]⟩, (false, 0, 0)⟩]) S) => q_push T (.nd all.length) (by omega)
      unfold itV at PU
      dsimp only at PU
      generalize hN : all.length = N at *
      clear h hb hL he hl hm hp1 hx ef
      go_enter Tryz.func149, Tryz.ntmps149
      go_wp2_with (first
        | (go_at_call 53; (with_reducible refine Calls.mono PS ?_); rintro e w1 ⟨rfl, T1, K1⟩)
        | (go_at_call 162; (with_reducible refine Calls.mono (EX _ T1) ?_); rintro e w2 ⟨rfl, T2, K2⟩)
        | (go_at_call 150; (with_reducible refine Calls.mono (AD _ T2) ?_); rintro e w3 ⟨rfl, T3, K3⟩)
        | (go_at_call 136; (with_reducible refine Calls.mono (PU _ T3) ?_); rintro e w4 ⟨rfl, T4, K4⟩))
      go_ret
      exact ⟨rfl, ⟨_, _, T4, fun _ => ⟨rfl, rfl⟩⟩, ((K1.trans K2).trans K3).trans K4⟩
theorem AftP.from {Z : Int × Rd} {v : World} {e : Ending} {w' : World} (K : Keep TY w v) (h : AftP W v R ta tc i l o L S Z e w') : AftP W w R ta tc i l o L S Z e w' := ⟨h.1, h.2.1, K.trans h.2.2⟩
theorem bad_pow (L : List Tok) (p : Nat) (all : List Nd) (a : Int) : (⟨p, true, all⟩ : Rd).powT L a = (a, ⟨p, true, all⟩) := by
  unfold Rd.powT
  rw [if_neg]
  unfold Rd.is
  simp
set_option maxHeartbeats 8000000 in
theorem q_shut {S0 : List It} (h : Tq W w R ta tc i l o L p all (S0 ++ [.br])) (hL : Toks L) (he : ErrV W) (a : Int) (hl : all.length + S0.length ≤ 50000) :
    Calls Tryz.prog 138 #[.pointer (some ⟨R, 0, none⟩), .int .i64 a] w (AftP W w R ta tc i l o L S0 (shutE L (a, ⟨p, false, all⟩))) := by
  unfold shutE
  dsimp only
  cases hb : ((nextT L p).2.1.toList == [41]) with
  | false =>
    have e : (⟨p, false, all⟩ : Rd).want L 2 [41] = ⟨p, true, all⟩ := by
      unfold Rd.want
      rw [hL.mark rfl (c := 41) (by decide), if_neg (by rw [hb]; simp)]; rfl
    rw [e, bad_pow]
    unfold AftP
    have PS := q_pass h ⟨#[41]⟩ (by rw [toList_byte]; simp) false (by rw [toList_byte]; exact hb)
    rw [if_neg (by simp)] at PS
    clear h hb hL he hl e
    go_enter Tryz.func138, Tryz.ntmps138
    go_wp2_with (go_at_call 53; (with_reducible refine Calls.mono PS ?_); rintro e w1 ⟨rfl, T1, K1⟩)
    go_ret
    exact ⟨rfl, ⟨_, _, T1, fun q => absurd q (by simp)⟩, K1⟩
  | true =>
    have e : (⟨p, false, all⟩ : Rd).want L 2 [41] = ⟨p + 1, false, all⟩ := by
      unfold Rd.want
      rw [hL.mark rfl (c := 41) (by decide), if_pos hb]; rfl
    rw [e]
    have PS := q_pass h ⟨#[41]⟩ (by rw [toList_byte]; simp) true (by rw [toList_byte]; exact hb)
    rw [if_pos rfl] at PS
    have DR := fun (v : World) (T : Tq W v R ta tc i l o L (p + 1) all (S0 ++ [.br])) => q_drop T (by omega)
    have PW := fun (v : World) (T : Tq W v R ta tc i l o L (p + 1) all S0) => q_power T hL he a hl
    generalize (⟨p + 1, false, all⟩ : Rd).powT L a = Z at *
    clear h hb hL he hl e
    go_enter Tryz.func138, Tryz.ntmps138
    go_wp2_with (first
      | (go_at_call 53; (with_reducible refine Calls.mono PS ?_); rintro e w1 ⟨rfl, T1, K1⟩)
      | (go_at_call 147; (with_reducible refine Calls.mono (DR _ T1) ?_); rintro e w2 ⟨rfl, T2, K2⟩)
      | (go_at_call 149; (with_reducible refine Calls.mono (PW _ T2) ?_); rintro e w3 ⟨rfl, T3, K3⟩))
    go_ret
    exact AftP.from (K1.trans K2) ⟨rfl, T3, K3⟩
set_option maxHeartbeats 8000000 in
theorem q_begin_neg (h : Tq W w R ta tc i l o L p all S) (hl : all.length + S.length ≤ 50000) (hb : ((nextT L p).2.1.toList == [45]) = true) :
    Calls Tryz.prog 134 #[.pointer (some ⟨R, 0, none⟩)] w fun e w' => e = .returned (.bool true) ∧ Tq W w' R ta tc i l o L (p + 1) all (S ++ [.wt 6 2]) ∧ Keep TY w w' := by
  have NX := q_next h
  have PS := fun (v : World) (T : Tq W v R ta tc i l o L p all S) => q_pass T ⟨#[45]⟩ (by rw [toList_byte]; simp) true (by rw [toList_byte]; exact hb)
  simp only [if_true] at PS
  have PU := fun (v : World) (T : Tq W v R ta tc i l o L (p + 1) all S) => q_push T (.wt 6 2) (by omega)
  unfold itV at PU
  dsimp only at PU
  have HH : Hid (Tq W w R ta tc i l o L p all S) := h
  generalize (nextT L p).1 = y0 at *
  generalize (nextT L p).2.1 = y1 at *
  generalize (nextT L p).2.2.1 = y2 at *
  generalize (nextT L p).2.2.2 = y3 at *
  clear h hb hl
  go_enter Tryz.func134, Tryz.ntmps134
  go_wp2_with (first
    | (go_at_call 83; (with_reducible refine Calls.mono NX ?_); rintro e w1 ⟨rfl, d1⟩; have T1 := fun z => HH.out.more (d1.alloc d1.size z); have K1 := fun z => Keep.of TY (d1.alloc d1.size z))
    | (go_at_call 53; (with_reducible refine Calls.mono (PS _ (T1 _)) ?_); rintro e w2 ⟨rfl, T2, K2⟩)
    | (go_at_call 136; (with_reducible refine Calls.mono (PU _ T2) ?_); rintro e w3 ⟨rfl, T3, K3⟩))
  go_ret
  exact ⟨rfl, T3, ((K1 _).trans K2).trans K3⟩
set_option maxHeartbeats 8000000 in
theorem q_begin_brk (h : Tq W w R ta tc i l o L p all S) (hl : all.length + S.length ≤ 50000) (hb0 : ((nextT L p).2.1.toList == [45]) = false) (hb : ((nextT L p).2.1.toList == [40]) = true) :
    Calls Tryz.prog 134 #[.pointer (some ⟨R, 0, none⟩)] w fun e w' => e = .returned (.bool true) ∧ Tq W w' R ta tc i l o L (p + 1) all (S ++ [.br]) ∧ Keep TY w w' := by
  have NX := q_next h
  have PS := fun (v : World) (T : Tq W v R ta tc i l o L p all S) => q_pass T ⟨#[45]⟩ (by rw [toList_byte]; simp) false (by rw [toList_byte]; exact hb0)
  have PS2 := fun (v : World) (T : Tq W v R ta tc i l o L p all S) => q_pass T ⟨#[40]⟩ (by rw [toList_byte]; simp) true (by rw [toList_byte]; exact hb)
  simp only [if_true, Bool.false_eq_true, if_false] at PS PS2
  have PU := fun (v : World) (T : Tq W v R ta tc i l o L (p + 1) all S) => q_push T .br (by omega)
  unfold itV at PU
  dsimp only at PU
  have HH : Hid (Tq W w R ta tc i l o L p all S) := h
  generalize (nextT L p).1 = y0 at *
  generalize (nextT L p).2.1 = y1 at *
  generalize (nextT L p).2.2.1 = y2 at *
  generalize (nextT L p).2.2.2 = y3 at *
  clear h hb hb0 hl
  go_enter Tryz.func134, Tryz.ntmps134
  go_wp2_with (first
    | (go_at_call 83; (with_reducible refine Calls.mono NX ?_); rintro e w1 ⟨rfl, d1⟩; have T1 := fun z => HH.out.more (d1.alloc d1.size z); have K1 := fun z => Keep.of TY (d1.alloc d1.size z))
    | (go_at_call 53; (with_reducible refine Calls.mono (PS _ (T1 _)) ?_); rintro e w2 ⟨rfl, T2, K2⟩)
    | (go_at_call 53; (with_reducible refine Calls.mono (PS2 _ T2) ?_); rintro e w3 ⟨rfl, T3, K3⟩)
    | (go_at_call 136; (with_reducible refine Calls.mono (PU _ T3) ?_); rintro e w4 ⟨rfl, T4, K4⟩))
  go_ret
  exact ⟨rfl, T4, (((K1 _).trans K2).trans K3).trans K4⟩
end
end Go.Proofs.YtbcfplaalepnbaaGreatDoor
