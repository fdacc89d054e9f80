/-
  Texts of mine in build order. No conditions of their own.
-/
import Derived.Test.YtaeladkcmpdkhaaGreatDoorPack54
set_option maxHeartbeats 32000000
namespace Go.Proofs.YtaeladkcmpdkhaaGreatDoor
section
open Go.RowKit Go.Lib
theorem wf_byte {a : Int} (h : (Lit.int .u8 a).wf = true) : 0 ≤ a ∧ a < 256 := by
 simp [Lit.wf, IntKind.min, IntKind.max, IntKind.signed, IntKind.bits] at h; omega
theorem wrap_both {x : Int} (h : -1000000 ≤ x ∧ x ≤ 1000000) : wrap64 x = x := by unfold wrap64; omega
set_option maxRecDepth 100000 in
theorem walk_ShowNeeds {ia la oa a : Option Addr} {il ic ln lc ol oc n c : Nat} {ins outs : List ByteArray} {ls : List (ByteArray × Int)} {ms : List Mn} (x y : Int) (w : World) (h : PgC w ia la oa a il ln ol n c ins outs ls ms) (hx : (Lit.int .u8 x).wf = true) (hy : (Lit.int .u8 y).wf = true) (he : LibV w) :
    Calls Tryz.prog 7 #[.agg #[.slice ia il ic, .slice la ln lc, .slice oa ol oc, .slice a n c], .int .u8 x, .int .u8 y] w fun e w' => e = .returned (.bool true) ∧ Below w.heap.size w w' := by
  obtain ⟨x0, x1⟩ := wf_byte hx
  obtain ⟨y0, y1⟩ := wf_byte hy
  clear hx hy
  obtain ⟨B1, bV, -⟩ := boxes1 w #[.slice ia il ic, .slice la ln lc, .slice oa ol oc, .slice a n c] 26
  have AW := show_awake _ (he.below bV)
  have CB : Hid (∀ v, Below (w.alloc (.cells #[.slice ia il ic, .slice la ln lc, .slice oa ol oc, .slice a n c] 26)).heap.size (w.alloc (.cells #[.slice ia il ic, .slice la ln lc, .slice oa ol oc, .slice a n c] 26)) v → v.cell? ⟨w.heap.size, 0, none⟩ = some (.slice ia il ic) ∧ v.cell? ⟨w.heap.size, 1, none⟩ = some (.slice la ln lc) ∧ v.cell? ⟨w.heap.size, 2, none⟩ = some (.slice oa ol oc) ∧ v.cell? ⟨w.heap.size, 3, none⟩ = some (.slice a n c)) := fun v b => ⟨((B1.more b).cell 0).1, ((B1.more b).cell 1).1, ((B1.more b).cell 2).1, ((B1.more b).cell 3).1⟩
  have HV : Hid (Below w.heap.size w (w.alloc (.cells #[.slice ia il ic, .slice la ln lc, .slice oa ol oc, .slice a n c] 26))) := bV
  have FW0 := fun (v : World) (b : Below w.heap.size w v) (q : Bool) (hq : fewQ 40 n il ln ol (ms.map (·.1)) = q) => ref_tFew (ic := ic) (lc := lc) (oc := oc) (h.below b) 40 (by omega) q hq
  cases hf : fewQ 40 n il ln ol (ms.map (·.1)) with
  | false =>
    have FW := fun v b => FW0 v b false hf
    clear FW0 hf h he B1 bV
    go_enter Tryz.func7, Tryz.ntmps7
    go_wp2_with (first
      | (go_at_call 8; (with_reducible refine Calls.mono AW ?_); rintro e w1 ⟨rfl, d1⟩; obtain ⟨c0, c1, c2, c3⟩ := CB.out w1 d1; have b1 := below_more HV.out d1)
      | (go_at_call 9; (with_reducible refine Calls.mono (FW _ b1) ?_); rintro e w2 ⟨rfl, d2⟩))
    go_ret
    exact ⟨rfl, below_more b1 d2⟩
  | true =>
  have FW := fun v b => FW0 v b true hf
  unfold fewQ at hf
  simp only [Bool.and_eq_true, decide_eq_true_eq] at hf
  obtain ⟨⟨⟨⟨hn, h8⟩, h9⟩, h10⟩, hall⟩ := hf
  obtain ⟨PR, -⟩ := h.few hall
  have TR0 := fun (v : World) (b : Below w.heap.size w v) (q : Bool) (hq : rgtB ins outs ls (ms.map (·.1)) = q) => tree_right (ic := ic) (lc := lc) (oc := oc) (PR.below b) q hq
  cases hr : rgtB ins outs ls (ms.map (·.1)) with
  | false =>
    have TR := fun v b => TR0 v b false hr
    clear TR0 FW0 hr h he B1 bV PR hn h8 h9 h10 hall
    go_enter Tryz.func7, Tryz.ntmps7
    go_wp2_with (first
      | (go_at_call 8; (with_reducible refine Calls.mono AW ?_); rintro e w1 ⟨rfl, d1⟩; obtain ⟨c0, c1, c2, c3⟩ := CB.out w1 d1; have b1 := below_more HV.out d1)
      | (go_at_call 9; (with_reducible refine Calls.mono (FW _ b1) ?_); rintro e w2 ⟨rfl, d2⟩; have e2 := below_more d1 d2; obtain ⟨u0, u1, u2, u3⟩ := CB.out w2 e2; have b2 := below_more b1 d2)
      | (go_at_call 15; (with_reducible refine Calls.mono (TR _ b2) ?_); rintro e w3 ⟨rfl, d3⟩))
    go_ret
    exact ⟨rfl, below_more b2 d3⟩
  | true =>
  have TR := fun v b => TR0 v b true hr
  by_cases hz : n = 0
  · subst hz
    clear TR0 FW0 hr h he B1 bV PR hn h8 h9 h10 hall
    go_enter Tryz.func7, Tryz.ntmps7
    go_wp2_with (first
      | (go_at_call 8; (with_reducible refine Calls.mono AW ?_); rintro e w1 ⟨rfl, d1⟩; obtain ⟨c0, c1, c2, c3⟩ := CB.out w1 d1; have b1 := below_more HV.out d1)
      | (go_at_call 9; (with_reducible refine Calls.mono (FW _ b1) ?_); rintro e w2 ⟨rfl, d2⟩; have e2 := below_more d1 d2; obtain ⟨u0, u1, u2, u3⟩ := CB.out w2 e2; have b2 := below_more b1 d2)
      | (go_at_call 15; (with_reducible refine Calls.mono (TR _ b2) ?_); rintro e w3 ⟨rfl, d3⟩; obtain ⟨z0, z1, z2, z3⟩ := CB.out w3 (below_more e2 d3)))
    go_ret
    exact ⟨rfl, below_more b2 d3⟩
  obtain ⟨i, hxi⟩ : ∃ i : Nat, i = x.toNat % n := ⟨_, rfl⟩
  have hi : i < n := by rw [hxi]; exact Nat.mod_lt _ (by omega)
  have eM : x % (n : Int) = i := by
    rw [hxi, Int.natCast_emod, Int.toNat_of_nonneg x0]
  have hlen : (ms.map (·.1)).length = n := by rw [List.length_map]; exact PR.hall.1
  obtain ⟨BL, SZ, p1, HP1, HL1, HC⟩ := need_facts hr (by rw [hlen]; omega) (i := i) (by rw [hlen]; exact hi)
  have SE := fun (v : World) (b : Below w.heap.size w v) => show_Expr (ic := ic) (lc := lc) (oc := oc) (PR.below b) i i rfl hi (he.2.below b) hr
  generalize nodeX ((ms.map (·.1)).map Nw.nd) i = S at *
  have CS := fun (v : World) (hv : ErrV v) => parse_rooms (needX S) (by rw [need_size]; omega) HP1 v hv
  have CT : Hid (∀ p k, 0 < k → p + k < S.size → bt S p = 40 → bt S (p + k) = 41 → ∃ (p2 : Pg) (L C E : Int) (r : Bool), (E = 0 → r = false) ∧ (∀ v, ErrV v → Calls Tryz.prog 16 #[.string (needX (cutX S p k))] v (AnsPC v p2 L C E)) ∧
      ∀ (v : World) (ia la oa aa : Option Addr) (ic lc oc ac : Nat) (ms : List Mn) (P : PgR v ia la oa aa p1.ins.length p1.lets.length p1.outs.length p1.all.length ac p1.ins p1.outs p1.lets ms) (hm : ms.map (·.1) = p1.all.map rawOf) (ja ka ra ba : Option Addr) (jc kc rc bc : Nat) (ns : List Mn) (P' : PgR v ja ka ra ba p2.ins.length p2.lets.length p2.outs.length p2.all.length bc p2.ins p2.outs p2.lets ns) (hm' : ns.map (·.1) = p2.all.map rawOf),
        Calls Tryz.prog 17 #[.agg #[.slice ia p1.ins.length ic, .slice la p1.lets.length lc, .slice oa p1.outs.length oc, .slice aa p1.all.length ac], .agg #[.slice ja p2.ins.length jc, .slice ka p2.lets.length kc, .slice ra p2.outs.length rc, .slice ba p2.all.length bc]] v fun e w' => e = .returned (.bool r) ∧ Below v.heap.size v w') := fun p k hk hpk h40 h41 => by
    obtain ⟨p2, L, C, E, HP2, HN⟩ := HC p k hk hpk h40 h41
    obtain ⟨r, qr⟩ : ∃ r : Bool, r = true ↔ SameP p1.ins p2.ins p1.outs p2.outs p1.lets p2.lets (p1.all.map rawOf) (p2.all.map rawOf) := by
      by_cases q : SameP p1.ins p2.ins p1.outs p2.outs p1.lets p2.lets (p1.all.map rawOf) (p2.all.map rawOf)
      · exact ⟨true, fun _ => q, fun _ => rfl⟩
      · exact ⟨false, fun e => absurd e (by simp), fun e => absurd e q⟩
    refine ⟨p2, L, C, E, r, fun hE => ?_, fun v hv => parse_rooms _ (by rw [need_size]; have := cut_size hpk; omega) HP2 v hv, fun v ia la oa aa ic lc oc ac ms P hm ja ka ra ba jc kc rc bc ns P' hm' => ?_⟩
    · cases r with
      | false => rfl
      | true => exact absurd (qr.1 rfl) (HN hE)
    · exact ref_tsame_any P.hins P'.hins P.hlets P'.hlets P.houts P'.houts P.hall P'.hall P.hnodes P'.hnodes HL1 r (by rw [hm, hm']; exact qr)
  have HH : Hid (LibV w ∧ BalB S ∧ S.size ≤ 4000) := ⟨he, BL, SZ⟩
  unfold needX hdB tlB at CS
  have HCS : Hid _ := CS
  have eT : Int.tmod x (n : Int) = i := by
    rw [Int.tmod_eq_emod_of_nonneg x0]; exact eM
  have eW : IntKind.i64.wrap (i : Int) = i := by rw [IntKind.wrap_i64]; omega
  have eX : IntKind.i64.wrap x = x := by rw [IntKind.wrap_i64]; omega
  have hz0 : ((n : Int) == 0) = false := by rw [beq_eq_false_iff_ne]; omega
  have hz1 : (n : Int) ≠ 0 := by omega
  unfold AnsB at SE
  have SO : ∀ V, Below (w.alloc (.cells #[.slice ia il ic, .slice la ln lc, .slice oa ol oc, .slice a n c] 26)).heap.size (w.alloc (.cells #[.slice ia il ic, .slice la ln lc, .slice oa ol oc, .slice a n c] 26)) V → ∀ v, Below V.heap.size V v → v.cell? ⟨w.heap.size, 0, none⟩ = some (.slice ia il ic) ∧ v.cell? ⟨w.heap.size, 1, none⟩ = some (.slice la ln lc) ∧ v.cell? ⟨w.heap.size, 2, none⟩ = some (.slice oa ol oc) ∧ v.cell? ⟨w.heap.size, 3, none⟩ = some (.slice a n c) := fun V hV v hv => CB.out v (below_more hV hv)
  have SOH : Hid _ := SO
  clear TR0 FW0 hr h he B1 bV PR hn h8 h9 h10 hall hxi hi hlen BL SZ HP1 HL1 HC CS SO
  go_enter Tryz.func7, Tryz.ntmps7
  go_wp2_with (first
    | (go_at_call 8; (with_reducible refine Calls.mono AW ?_); rintro e w1 ⟨rfl, d1⟩; obtain ⟨c0, c1, c2, c3⟩ := CB.out w1 d1; have b1 := below_more HV.out d1)
    | (go_at_call 9; (with_reducible refine Calls.mono (FW _ b1) ?_); rintro e w2 ⟨rfl, d2⟩; have e2 := below_more d1 d2; obtain ⟨u0, u1, u2, u3⟩ := CB.out w2 e2; have b2 := below_more b1 d2)
    | (go_at_call 15; (with_reducible refine Calls.mono (TR _ b2) ?_); rintro e w3 ⟨rfl, d3⟩; have e3 := below_more e2 d3; obtain ⟨z0, z1, z2, z3⟩ := CB.out w3 e3; have b3 := below_more b2 d3))
  have HB : Hid (Below w.heap.size w w3) := b3
  have SV := SOH.out w3 e3
  have bs : Below w3.heap.size w3 w3.drew := (Below.refl _ _).drew
  go_region_held3 (fun v => v.cell? ⟨w.heap.size, 0, none⟩ = some (.slice ia il ic) ∧ v.cell? ⟨w.heap.size, 1, none⟩ = some (.slice la ln lc) ∧ v.cell? ⟨w.heap.size, 2, none⟩ = some (.slice oa ol oc) ∧ v.cell? ⟨w.heap.size, 3, none⟩ = some (.slice a n c)) (exact SV _ bs) (first
    | (go_at_call 14; (with_reducible refine Calls.mono (SE _ (below_more HB.out bs)) ?_); rintro e w5 ⟨rfl, d5⟩; replace bs := below_more bs d5))
  have HB2 : Hid (Below w.heap.size w w5) := below_more HB.out bs
  clear SV bs SE eM eT eW eX hz hz0 hz1 d1 d2 d3 d5 e2 e3 b1 b2 b3 AW FW TR c0 c1 c2 c3 u0 u1 u2 u3 z0 z1 z2 z3 x0 x1
  go_wp2
  go_loopg [10, 11] S.size (fun g s10 s11 v => ∃ (j N : Nat) (a' : Option Addr) (c' : Nat), s10 = .slice a' N c' ∧ s11 = .int .i64 j ∧ j + g = S.size ∧ N = (posL S j).length ∧ OwnC 3 1 w5 v (.slice a' N c') N ((posL S j).map (Value.int .i64)))
  case atStart => exact ⟨0, 0, none, 0, rfl, rfl, by omega, rfl, OwnC.nil (Below.refl _ _)⟩
  case round =>
    obtain ⟨j, N, a', c', rfl, rfl, hg, hN, OW⟩ := hrel
    have hsz := HH.out.2.2
    rcases Nat.lt_or_ge j S.size with hj | hj
    · have p1 : (j : Int) < S.size := by omega
      have w1 : wrap64 ((j : Int) + 1) = (j : Int) + 1 := wrap_smalls (by omega) (by omega)
      have HW : Hid (wrap64 ((j : Int) + 1) = (j : Int) + 1) := w1
      have hbt := bt_get hj
      by_cases hc : (S[j].toNat : Int) = 40
      · have h40 : bt S j = 40 := by rw [hbt]; omega
        have m1 : N + 1 ≤ maxLen := by have := posL_length S j; unfold maxLen; omega
        have m2 : (N + 1) * 8 ≤ 140737488355328 := by have := posL_length S j; omega
        have HG : Hid (j + gk = S.size ∧ N = (posL S j).length ∧ posL S (j + 1) = posL S j ++ [(j : Int)] ∧ bt S j = 40 ∧ j < S.size) := ⟨hg, hN, posL_open h40, h40, hj⟩
        clear hg hN hsz hbt h40
        generalize posL S j = l at *
        go_wp2_with (at_builtin; refine wpl_append_c (t := 40) (e := 3) Tryz.underlying40 infoInt rfl (by decide) (.tmp 61) (.tmp 63) rfl rfl w5 _ _ N (l.map (Value.int .i64)) (some ⟨wr.heap.size, 0, none⟩) 1 1 [.int .i64 j] rfl rfl (OW.alloc _) (BoxC.new wr #[.int .i64 j] 3).isc (by simp [Value.oneCell']) (by simp) m1 m2 ?_; intro a6 c6 w6 _ o6 g6)
        clear w1
        obtain ⟨g1, g2, g3, g4, g5⟩ := HG.out
        go_roundg (S.size - (j + 1))
        case measure => omega
        case rel => exact ⟨j + 1, N + 1, a6, c6, rfl, by rw [HW.out]; rfl, by omega, by rw [g3, List.length_append, ← g2]; rfl, by rw [g3, List.map_append]; exact o6⟩
      · have h40 : ¬ bt S j = 40 := by rw [hbt]; omega
        have HG : Hid (j + gk = S.size ∧ N = (posL S (j + 1)).length ∧ j < S.size) := ⟨hg, by rw [posL_not h40]; exact hN, hj⟩
        have OW2 : Hid (OwnC 3 1 w5 wr (.slice a' N c') N ((posL S (j + 1)).map (Value.int .i64))) := by rw [posL_not h40]; exact OW
        clear hg hN hsz hbt h40 OW
        go_wp2
        clear w1
        obtain ⟨g1, g2, g3⟩ := HG.out
        go_roundg (S.size - (j + 1))
        case measure => omega
        case rel => exact ⟨j + 1, N, a', c', rfl, by rw [HW.out]; rfl, by omega, g2, OW2.out⟩
    · obtain rfl : j = S.size := by omega
      have p1 : ¬ (S.size : Int) < S.size := by omega
      by_cases hN0 : N = 0
      · subst hN0
        have HX : Hid (Below w5.heap.size w5 wr) := OW.below
        clear hN OW hsz hj hg
        go_wp2
        go_ret
        exact ⟨rfl, below_more HB2.out HX.out⟩
      obtain ⟨m, hm⟩ : ∃ m : Nat, m = y.toNat % N := ⟨_, rfl⟩
      have hmN : m < N := by rw [hm]; exact Nat.mod_lt _ (by omega)
      have eM : Int.tmod y (N : Int) = m := by
        rw [Int.tmod_eq_emod_of_nonneg y0, hm, Int.natCast_emod, Int.toNat_of_nonneg y0]
      have eN : ((N : Int) == 0) = false := by rw [beq_eq_false_iff_ne]; omega
      have eN1 : (N : Int) ≠ 0 := by omega
      have m0 : 0 ≤ (m : Int) := by omega
      have m1 : (m : Int) < (N : Int) := by omega
      obtain ⟨p, hp, hpS, h40⟩ := posL_get (s := S) (j := S.size) (n := m) (by rw [← hN]; exact hmN)
      obtain ⟨gb, rfl⟩ := OW.atg (by omega)
      have cX := (OW.at1 (k := m) (y := .int .i64 p) (by rw [List.getElem?_map, hp]; rfl)).1
      obtain ⟨k, hk, hpk, h41, hcn, hmin⟩ := bal_match HH.out.2.1 hpS h40
      have HK : Hid (0 < k ∧ p + k < S.size ∧ bt S p = 40 ∧ bt S (p + k) = 41 ∧ cnB S p (k + 1) = 0 ∧ ∀ j, j < k → ¬ (bt S (p + j) = 41 ∧ cnB S p (j + 1) = 0)) := ⟨hk, hpk, h40, h41, hcn, hmin⟩
      have HX : Hid (Below w.heap.size w wr) := below_more HB2.out OW.below
      have w2 : wrap64 ((S.size : Int) - 1) = (S.size : Int) - 1 := wrap_smalls (by omega) (by omega)
      clear hN OW hsz hj hg hp hk hpk h40 h41 hcn hmin hpS hm hmN
      go_wp2
      clear cX eM eN eN1 m0 m1 w2 p1 HB2 SOH HV CB y0 y1
      go_loopg [14, 15] (S.size - 1 - p) (fun g s14 s15 v => ∃ D j : Nat, s14 = .int .i64 D ∧ s15 = .int .i64 j ∧ p + g = j ∧ j < S.size ∧ D + j < S.size ∧ (j < p + k → 0 < D) ∧ wr = v)
      case atStart =>
        obtain ⟨q1, q2, -⟩ := HK.out
        refine ⟨0, S.size - 1, rfl, ?_, by omega, by omega, by omega, fun _ => by omega, rfl⟩
        congr 1
        omega
      case round =>
        obtain ⟨D, j, rfl, rfl, hg, hj, hD, hpos, rfl⟩ := hrel
        have hsz := HH.out.2.2
        rcases Nat.lt_or_ge p j with hpj | hpj
        · have p1 : (p : Int) < j := by omega
          have p2 : (j : Int) < S.size := by omega
          have p3 : 0 ≤ (j : Int) := by omega
          have w1 : wrap64 ((j : Int) - 1) = (j : Int) - 1 := wrap_smalls (by omega) (by omega)
          have w2 : wrap64 ((D : Int) + 1) = (D : Int) + 1 := wrap_smalls (by omega) (by omega)
          have hbt := bt_get hj
          by_cases hc : (S[j].toNat : Int) = 41
          · have HG : Hid (p + gk = j ∧ j < S.size ∧ D + j < S.size ∧ p < j ∧ wrap64 ((j : Int) - 1) = (j : Int) - 1 ∧ wrap64 ((D : Int) + 1) = (D : Int) + 1) := ⟨hg, hj, hD, hpj, w1, w2⟩
            clear hg hD hpos hsz hbt
            go_wp2
            clear w1 w2
            obtain ⟨g1, g2, g3, g4, g5, g6⟩ := HG.out
            go_roundg (j - 1 - p)
            case measure => clear g5 g6; omega
            case rel => exact ⟨D + 1, j - 1, by rw [g6]; rfl, by rw [g5]; clear g5 g6; congr 1; omega, by clear g5 g6; omega, by clear g5 g6; omega, by clear g5 g6; omega, fun _ => Nat.succ_pos _, rfl⟩
          · have hne : j ≠ p + k := fun e => by
              have := HK.out.2.2.2.1
              rw [← e, hbt] at this
              omega
            have HG : Hid (p + gk = j ∧ j < S.size ∧ D + j < S.size ∧ p < j ∧ wrap64 ((j : Int) - 1) = (j : Int) - 1 ∧ (j - 1 < p + k → 0 < D)) := ⟨hg, hj, hD, hpj, w1, fun q => hpos (by omega)⟩
            clear hg hD hpos hsz hbt hne
            go_wp2
            clear w1 w2
            obtain ⟨g1, g2, g3, g4, g5, g6⟩ := HG.out
            go_roundg (j - 1 - p)
            case measure => clear g5 g6; omega
            case rel => exact ⟨D, j - 1, rfl, by rw [g5]; clear g5 g6; congr 1; omega, by clear g5 g6; omega, by clear g5 g6; omega, by clear g5 g6; omega, g6, rfl⟩
        · have p1 : ¬ (p : Int) < j := by omega
          have HD : Hid (0 < D) := hpos (by have := HK.out.1; omega)
          clear hg hj hD hpos hsz hpj
          go_wp2
          clear p1
          go_loopg [13, 16, 17] (S.size - p) (fun g s13 s16 s17 v => ∃ (d j : Nat) (t O : Int), s13 = .int .i64 t ∧ s16 = .int .i64 O ∧ s17 = .int .i64 j ∧ j = p + d ∧ j + g = S.size ∧ ((d ≤ k ∧ t = p ∧ O = cnB S p d) ∨ (d = k + 1 ∧ t = ((p + k : Nat) : Int))) ∧ wr = v)
          case atStart =>
            have := HK.out.2.1
            exact ⟨0, p, p, 0, rfl, rfl, rfl, rfl, by omega, .inl ⟨Nat.zero_le _, rfl, rfl⟩, rfl⟩
          case round =>
            obtain ⟨d, j, t, O, rfl, rfl, rfl, hjd, hg, hst, rfl⟩ := hrel
            have hsz := HH.out.2.2
            obtain ⟨k1, k2, k3, k4, k5, k6⟩ := HK.out
            rcases hst with ⟨hd, rfl, hO⟩ | ⟨hd, ht⟩
            · have hj : j < S.size := by omega
              have p1 : (j : Int) < S.size := by omega
              have hbt := bt_get hj
              have hO2 := cnB_le S p d
              have hb1 : -10000 ≤ O ∧ O ≤ 10000 := by omega
              have hb2 : -1000000 ≤ O + 1 ∧ O + 1 ≤ 1000000 := by omega
              have hb3 : -1000000 ≤ O - 1 ∧ O - 1 ≤ 1000000 := by omega
              have hb4 : -1000000 ≤ (j : Int) + 1 ∧ (j : Int) + 1 ≤ 1000000 := by omega
              have HOP : Hid (wrap64 (O + 1) = O + 1) := wrap_both hb2
              have HOM : Hid (wrap64 (O - 1) = O - 1) := wrap_both hb3
              have HW : Hid (wrap64 ((j : Int) + 1) = (j : Int) + 1) := wrap_both hb4
              have hstep : cnB S p (d + 1) = cnB S p d + (if bt S j = 40 then 1 else if bt S j = 41 then -1 else 0) := by rw [hjd]; rfl
              clear hb1 hb2 hb3 hb4 hO2
              by_cases hc : (S[j].toNat : Int) = 40
              · have h40 : bt S j = 40 := by rw [hbt]; omega
                have hne : d ≠ k := fun e => by
                  rw [hjd, e, k4] at h40
                  omega
                rw [if_pos h40] at hstep
                have HG : Hid (j + gk = S.size ∧ j = p + d ∧ d + 1 ≤ k ∧ O + 1 = cnB S p (d + 1) ∧ j < S.size) := ⟨hg, hjd, by omega, by rw [hstep, hO], hj⟩
                have hc2 : ¬ (S[j].toNat : Int) = 41 := by omega
                have w2 := HOP.out
                clear hg hjd hd hO hsz hbt hstep h40 hne k1 k2 k3 k4 k5 k6 HOM
                have w1 := HW.out
                go_wp2
                clear w1 w2
                obtain ⟨g1, g2, g3, g4, g5⟩ := HG.out
                go_roundg (S.size - (j + 1))
                case measure => omega
                case rel => exact ⟨d + 1, j + 1, p, O + 1, rfl, by rw [HOP.out], by rw [HW.out]; rfl, by omega, by omega, .inl ⟨g3, rfl, g4⟩, rfl⟩
              · have h40 : ¬ bt S j = 40 := by rw [hbt]; omega
                rw [if_neg h40] at hstep
                by_cases hc2 : (S[j].toNat : Int) = 41
                · have h41 : bt S j = 41 := by rw [hbt]; omega
                  rw [if_pos h41] at hstep
                  by_cases he : d = k
                  · have hz : O - 1 = 0 := by rw [hO, ← k5, ← he, hstep]; rfl
                    have HG : Hid (j + gk = S.size ∧ j = p + d ∧ d = k ∧ j < S.size) := ⟨hg, hjd, he, hj⟩
                    have HZ : Hid (wrap64 (O - 1) = 0) := HOM.out.trans hz
                    clear hg hjd hd hO hsz hbt hstep h40 h41 he k1 k2 k3 k4 k5 k6 HOP HOM hz
                    have w2 := HZ.out
                    have w1 := HW.out
                    go_wp2
                    clear w1 w2
                    obtain ⟨g1, g2, g3, g5⟩ := HG.out
                    go_roundg (S.size - (j + 1))
                    case measure => omega
                    case rel => exact ⟨d + 1, j + 1, j, 0, rfl, by rw [HZ.out], by rw [HW.out]; rfl, by omega, by omega, .inr ⟨by omega, by rw [g2, g3]⟩, rfl⟩
                  · have hz : O - 1 ≠ 0 := fun e => k6 d (by omega) ⟨by rw [← hjd]; exact h41, by rw [hstep, ← hO]; omega⟩
                    have HG : Hid (j + gk = S.size ∧ j = p + d ∧ d + 1 ≤ k ∧ O - 1 = cnB S p (d + 1) ∧ j < S.size) := ⟨hg, hjd, by omega, by rw [hstep, hO]; rfl, hj⟩
                    have hz2 : (O - 1 == 0) = false := by rw [beq_eq_false_iff_ne]; exact hz
                    clear hg hjd hd hO hsz hbt hstep h40 h41 he k1 k2 k3 k4 k5 k6 HOP hz
                    have w2 := HOM.out
                    have w1 := HW.out
                    go_wp2
                    clear w1 w2
                    obtain ⟨g1, g2, g3, g4, g5⟩ := HG.out
                    go_roundg (S.size - (j + 1))
                    case measure => omega
                    case rel => exact ⟨d + 1, j + 1, p, O - 1, rfl, by rw [HOM.out], by rw [HW.out]; rfl, by omega, by omega, .inl ⟨g3, rfl, g4⟩, rfl⟩
                · have h41 : ¬ bt S j = 41 := by rw [hbt]; omega
                  rw [if_neg h41] at hstep
                  have hne : d ≠ k := fun e => h41 (by rw [hjd, e, k4])
                  have HG : Hid (j + gk = S.size ∧ j = p + d ∧ d + 1 ≤ k ∧ O = cnB S p (d + 1) ∧ j < S.size) := ⟨hg, hjd, by omega, by rw [hstep, hO]; omega, hj⟩
                  clear hg hjd hd hO hsz hbt hstep h40 h41 hne k1 k2 k3 k4 k5 k6 HOP HOM
                  have w1 := HW.out
                  go_wp2
                  clear w1
                  obtain ⟨g1, g2, g3, g4, g5⟩ := HG.out
                  go_roundg (S.size - (j + 1))
                  case measure => omega
                  case rel => exact ⟨d + 1, j + 1, p, O, rfl, rfl, by rw [HW.out]; rfl, by omega, by omega, .inl ⟨g3, rfl, g4⟩, rfl⟩
            · obtain ⟨p2, L2, C2, E2, r, hEr, c3, SM⟩ := CT.out p k k1 k2 k3 k4
              obtain ⟨q, hq⟩ : ∃ q, q = p + k := ⟨_, rfl⟩
              have hcz := cut_size k2
              unfold cutX at c3 hcz
              unfold needX hdB tlB at c3
              rw [← hq] at c3 ht hcz
              subst ht
              have e1 : ((q : Int) == (p : Int)) = false := by rw [beq_eq_false_iff_ne]; omega
              have eD : ((D : Int) == 0) = false := by have := HD.out; rw [beq_eq_false_iff_ne]; omega
              have q1 : (p : Int) ≤ S.size := by omega
              have q2 : (p : Int) + 1 ≤ (q : Int) := by omega
              have q3 : (q : Int) ≤ S.size := by omega
              have q4 : (q : Int) + 1 ≤ S.size := by omega
              have q5 : 0 ≤ (p : Int) := by omega
              have q6 : 0 ≤ (p : Int) + 1 := by omega
              have q7 : 0 ≤ (q : Int) := by omega
              have q8 : 0 ≤ (q : Int) + 1 := by omega
              have w1 : IntKind.i64.wrap ((p : Int) + 1) = (p : Int) + 1 := by rw [IntKind.wrap_i64]; omega
              have w2 : IntKind.i64.wrap ((q : Int) + 1) = (q : Int) + 1 := by rw [IntKind.wrap_i64]; omega
              have fz1 : (9223372036854775807 < min p S.size + (min q S.size - (p + 1))) = False := eq_false (by omega)
              have fz2 : (9223372036854775807 < min p S.size + (min q S.size - (p + 1)) + (S.size - (q + 1))) = False := eq_false (by omega)
              have fz3 : (9223372036854775807 < (S.extract 0 p).size + (S.extract (p + 1) q).size) = False := eq_false (by rw [ByteArray.size_extract, ByteArray.size_extract]; omega)
              have fz4 : (9223372036854775807 < (S.extract 0 p).size + (S.extract (p + 1) q).size + (S.extract (q + 1) S.size).size) = False := eq_false (by rw [ByteArray.size_extract, ByteArray.size_extract, ByteArray.size_extract]; omega)
              obtain ⟨J, hJ⟩ : ∃ J : Bool, decide ((j : Int) < S.size) = J := ⟨_, rfl⟩
              have hTz : (S.extract 0 p ++ S.extract (p + 1) q ++ S.extract (q + 1) S.size).size ≤ 4000 := by omega
              clear k1 k2 k3 k4 k5 k6 hd hg hjd hq hcz
              cases J
              all_goals first
                | replace hJ := of_decide_eq_false hJ
                | replace hJ := of_decide_eq_true hJ
              all_goals
                go_wp2
                go_region_held3 (fun _ => True) (exact trivial) (fail)
              all_goals
                generalize S.extract 0 p ++ S.extract (p + 1) q ++ S.extract (q + 1) S.size = T at *
                have gz1 : (S.size : Int) ≤ 4000 := by omega
                have gz2 : (T.size : Int) ≤ 4000 := by omega
                clear hsz hTz fz1 fz2 fz3 fz4 q1 q2 q3 q4 q5 q6 q7 q8 w1 w2 e1 eD hJ
                have HCS2 := HCS.out
                unfold AnsPC at HCS2 c3
                go_wp2_with (first
                  | (go_at_call 16; (with_reducible refine Calls.mono (HCS2 _ (HH.out.1.1.below HX.out.drew)) ?_); rintro e w7 ⟨pa, pc, qa, qc, ra, rc, sa, sc, ns, rfl, P1, m1, -, -, d7⟩; obtain ⟨B1, B2, bV, -⟩ := boxes2 w7 #[.slice pa p1.ins.length pc, .slice qa p1.lets.length qc, .slice ra p1.outs.length rc, .slice sa p1.all.length sc] #[.int .i64 0, .int .i64 0] 26 34; have b7 := below_more (below_more HX.out.drew d7) bV)
                  | (go_at_call 16; (with_reducible refine Calls.mono (c3 _ (HH.out.1.1.below b7)) ?_); rintro e w8 ⟨ta, tc, ua, uc, va, vc, xa, xc, ns', rfl, P2, m2, -, -, d8⟩; obtain ⟨G1, G2, bX, -⟩ := boxes2 w8 #[.slice ta p2.ins.length tc, .slice ua p2.lets.length uc, .slice va p2.outs.length vc, .slice xa p2.all.length xc] #[.int .i64 L2, .int .i64 C2] 26 34; have dd := below_more d8 bX; have y0 := ((B1.more dd).cell 0).1; have y1 := ((B1.more dd).cell 1).1; have y2 := ((B1.more dd).cell 2).1; have y3 := ((B1.more dd).cell 3).1; have g0 := (G1.cell 0).1; have g1 := (G1.cell 1).1; have g2 := (G1.cell 2).1; have g3 := (G1.cell 3).1; have b8 := below_more b7 dd)
                  | (go_at_call 17; (with_reducible refine Calls.mono (SM _ pa qa ra sa pc qc rc sc ns ((P1.below bV).below dd) m1 ta ua va xa tc uc vc xc ns' (P2.below bX) m2) ?_); rintro e w9 ⟨rfl, d9⟩))
              all_goals go_ret
              all_goals exact ⟨by first | rfl | (simp; done) | (simp [hEr]; done) | (simp_all; done), below_more b8 d9⟩
end
section
open Go.RowKit
theorem law_ShowNeeds (ia : Option Addr) (il ic : Nat) (la : Option Addr) (ln lc : Nat) (oa : Option Addr) (ol oc : Nat) (a : Option Addr) (n c : Nat) (ins outs : List ByteArray) (ls : List (ByteArray × Int)) (ms : List Mn) (x y : Int) (w : World) (h : PgC w ia la oa a il ln ol n c ins outs ls ms) (_hic : il ≤ ic) (_hoc : ol ≤ oc) (hx : (Lit.int .u8 x).wf = true) (hy : (Lit.int .u8 y).wf = true) (he : LibV w) :
  Calls Tryz.prog 7 #[.agg #[.slice ia il ic, .slice la ln lc, .slice oa ol oc, .slice a n c], .int .u8 x, .int .u8 y] w fun e w' => e = .returned (.bool true) ∧ Below w.heap.size w w' := walk_ShowNeeds x y w h hx hy he
end
end Go.Proofs.YtaeladkcmpdkhaaGreatDoor
