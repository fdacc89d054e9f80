/-
  Texts of mine put together in build order: RatRefP, RatioWalksG, RatParse, RatRefQ, WholeWalksB, WholeWalksD, RatText, RatioWalksH, RatioWalksI, WholeA, WholeB, WholeC, BitsLen, TimesC, DeciWalks, StrIter, DeciA, DeciPad, DeciB, BytesW, DeciC, DeciD, RangeMade, DeciE. Each says at its head what it proves. No conditions of its own.
-/
import Derived.Test.YtpimcbncmfpdhaaGreatDoorPack3
import Derived.Deep.LoopGhost
import Derived.Test.YtpimcbncmfpdhaaGreatDoorPack2
import Derived.Deep.DeepCutAuto
import Derived.Laws.EntriesVeiled
import Derived.Test.YtpimcbncmfpdhaaGreatDoorPack1
import Derived.Lib.OthersKept
import Derived.RangeFuncNested
import Derived.RangeFuncBound
import Derived.RangeFuncCalls
import Derived.RangeFuncLeaves
import Derived.Shelf.Abstract
import Derived.Shelf.RegionOpen
import Derived.OwnWalkIn
import Derived.TacticsInMore
import Derived.LoopNIn
import Derived.LoopIn
import Derived.Sort.LoopGhostIn
/-
  Contract of the document's own Pow of layer 8 (package talwegref08), for every Rat of which so many words times the exponent are at most nine hundred: as powers of rational numbers, or the error; memory that was there stays, and what is answered is the call's own.
-/
namespace Go.Proofs.YtpimcbncmfpdhaaGreatDoor
open Go.RowKit

/-- What is owned stays where a variable of another type is written. -/
theorem Own.box {W w : World} {v : Value} {n : Nat} {xs : List Int} (h : Own W w v n xs) {k : Nat} {cs : Array Value} {T : TypeId} (B : BoxC w k cs T) (hT : T ≠ 62) (hk : W.heap.size ≤ k) (i : Nat) (x : Value) : Own W (w.setCell ⟨k, i, none⟩ x) v n xs := by
  refine ⟨⟨h.1.1, ?_⟩, h.2.setCell (p := ⟨k, i, none⟩) hk _⟩
  rcases h.1.2 with h0 | ⟨g, cap, cur, e, h3, hg, h4⟩
  · exact .inl h0
  · refine .inr ⟨g, cap, cur, e, h3, ?_, h4⟩
    have hne : g ≠ k := by
      intro e1
      subst e1
      unfold BoxC at B
      rw [B] at hg
      simp at hg
      exact hT hg.2
    rw [Below.heap_setCell w ⟨k, i, none⟩ x g (by simpa using hne)]; exact hg
theorem Own.box3 {W w : World} {v : Value} {n : Nat} {xs : List Int} (h : Own W w v n xs) {k : Nat} {x' y' z' : Value} {T : TypeId} (B : BoxC w k #[x', y', z'] T) (hT : T ≠ 62) (hk : W.heap.size ≤ k) (x y z : Value) : Own W (((w.setCell ⟨k, 0, none⟩ x).setCell ⟨k, 1, none⟩ y).setCell ⟨k, 2, none⟩ z) v n xs :=
  ((h.box B hT hk 0 x).box (B.set 0 x) hT hk 1 y).box ((B.set 0 x).set 1 y) hT hk 2 z
theorem OwnR.box3 {W w : World} {a : Option Addr} {c : Nat} {b : Option Addr} {d : Nat} {q : Rat} (h : OwnR W w a c b d q) {k : Nat} {x' y' z' : Value} {T : TypeId} (B : BoxC w k #[x', y', z'] T) (hT : T ≠ 62) (hk : W.heap.size ≤ k) (x y z : Value) : OwnR W (((w.setCell ⟨k, 0, none⟩ x).setCell ⟨k, 1, none⟩ y).setCell ⟨k, 2, none⟩ z) a c b d q :=
  ⟨h.1.box3 B hT hk x y z, h.2.box3 B hT hk x y z⟩
theorem rs_pow {q : Rat} {k : Nat} (h : RS k q) (hk : 1 ≤ k) (i : Nat) : RS (k * i + 1) (q ^ i) := by
  induction i with
  | zero => rw [Rat.pow_zero]; exact ⟨nl_le _ _ (by rw [Nat.mul_zero]; decide), nl_le _ _ (by rw [Nat.mul_zero]; decide)⟩
  | succ i ih =>
    rw [Rat.pow_succ, Nat.mul_succ]
    exact (rs_mul ih h (by omega)).mono (by omega)
theorem rat_ne_u32 : (24 : TypeId) ≠ 62 := by decide

/-- The power of one with an exponent from 0 on, when x lies in a box. -/
theorem zpow_nat (q : Rat) (n : Int) (h : 0 ≤ n) : q ^ n = q ^ n.toNat := by
  have := Rat.zpow_natCast q n.toNat
  rwa [Int.toNat_of_nonneg h] at this
theorem zpow_turned (q : Rat) (n : Int) (h : n < 0) : q ^ n = q⁻¹ ^ (-n).toNat := by
  have e : n = -((-n).toNat : Int) := by omega
  conv => lhs; rw [e]
  rw [Rat.zpow_neg, Rat.zpow_natCast]
  generalize (-n).toNat = m
  induction m with
  | zero => rw [Rat.pow_zero, Rat.pow_zero]; exact Rat.inv_eq_of_mul_eq_one (Rat.mul_one 1)
  | succ m ih => rw [Rat.pow_succ, Rat.pow_succ, Rat.inv_mul_rev, ih, Rat.mul_comm]

set_option maxHeartbeats 8000000 in
theorem ref_rpow {k : Nat} {s : Bool} {a : Option Addr} {n c : Nat} {b : Option Addr} {m d : Nat} {q : Rat} {w : World} (h : RR k w s a n c b m d q) (hk1 : 1 ≤ k) (hk : k ≤ 900) (i : Int) (i0 : -9223372036854775808 ≤ i) (i1 : i < 9223372036854775808) (hi : -64 ≤ i ∧ i ≤ 64 → k * i.natAbs ≤ 900) :
    Calls Tryz.prog 36 #[.agg #[.bool s, .slice a n c, .slice b m d], .int .i64 i] w (AnsTE w (powT q i) (powE q i)) := by
  obtain ⟨B0, BR, bV, hs⟩ := boxes2 w #[.bool s, .slice a n c, .slice b m d] #[.bool false, .slice none 0 0, .slice none 0 0] 24 24
  obtain ⟨p0, p1, p2, -, -, -⟩ := B0.cells3
  obtain ⟨r0, r1, r2, r3, r4, r5⟩ := BR.cells3
  by_cases hr : i < -64 ∨ 64 < i
  · unfold powT powE
    rw [if_pos hr, if_pos hr]
    rcases (by omega : i < -64 ∨ (¬ i < -64 ∧ 64 < i)) with h1 | ⟨h1, h2⟩
    all_goals
      clear hr hi h hk hk1
      go_enter Tryz.func36, Tryz.ntmps36
      go_wp2
      exact bodyPost_ret (v := .tuple #[.agg #[.bool false, .slice none 0 0, .slice none 0 0], .int .i64 4]) (by simp [results, Tryz.results36, go_sem, r0, r1, r2]) rfl (ansTE_no bV)
  have h1 : ¬ i < -64 := by omega
  have h2 : ¬ 64 < i := by omega
  have hi := hi (by omega)
  have ZR := fun v (hb : Below w.heap.size w v) => ref_rzero ((h.below hb).mono (by omega)) _ rfl
  by_cases hz : q = 0 ∧ i < 0
  · unfold powT powE
    rw [if_neg hr, if_neg hr, if_pos hz, if_pos hz]
    obtain ⟨hz, hz2⟩ := hz
    rw [decide_eq_true hz] at ZR
    clear hr hi h hk hk1 hz
    go_enter Tryz.func36, Tryz.ntmps36
    go_wp2_with (go_at_call 59; (with_reducible refine Calls.mono (ZR _ bV) ?_); rintro e w1 ⟨rfl, b1⟩; obtain ⟨r0, r1, r2, r3, r4, r5⟩ := (BR.more b1).cells3)
    exact bodyPost_ret (v := .tuple #[.agg #[.bool false, .slice none 0 0, .slice none 0 0], .int .i64 3]) (by simp [results, Tryz.results36, go_sem, r0, r1, r2]) rfl (ansTE_no (below_set3 (below_more bV b1) (by omega) _ _ _))
  have hT : powT q i = tri (q ^ i) := by unfold powT; rw [if_neg hr, if_neg hz]
  have hE : powE q i = 0 := by unfold powE; rw [if_neg hr, if_neg hz]
  rw [hT, hE]
  have OF := fun v => ref_rof 1 v (by omega) (by omega)
  rw [show ((1 : Int) : Rat) = 1 from rfl] at OF
  have F := fun v (hb : Below w.heap.size w v) => ref_rfix' (by omega) (h.below hb)
  have lq := h.rs hk1
  have RT := rat_ne_u32
  rcases (by by_cases e : q = 0 <;> by_cases e2 : i < 0 <;> simp_all : (q = 0 ∧ ¬ i < 0) ∨ (q ≠ 0 ∧ ¬ i < 0) ∨ (q ≠ 0 ∧ i < 0)) with ⟨hz0, hA⟩ | ⟨hz0, hA⟩ | ⟨hz0, hA⟩
  case' inl =>
    rw [decide_eq_true hz0] at ZR
    rw [zpow_nat q i (by omega)]
    obtain ⟨e, he⟩ : ∃ e : Nat, i.toNat = e := ⟨_, rfl⟩
    have hie : i = (e : Int) := by omega
  case' inr.inl =>
    rw [decide_eq_false hz0] at ZR
    rw [zpow_nat q i (by omega)]
    obtain ⟨e, he⟩ : ∃ e : Nat, i.toNat = e := ⟨_, rfl⟩
    have hie : i = (e : Int) := by omega
  case' inr.inr =>
    rw [decide_eq_false hz0] at ZR
    rw [zpow_turned q i hA]
    obtain ⟨e, he⟩ : ∃ e : Nat, (-i).toNat = e := ⟨_, rfl⟩
    have hie : -i = (e : Int) := by omega
    have TU := fun v (hb : Below w.heap.size w v) => ref_rturned ((h.below hb).mono (by omega)) hz0 _ rfl
    replace lq := rs_inv lq hk1
    have hw : IntKind.i64.wrap (-i) = (e : Int) := by rw [IntKind.wrap_i64]; omega
  case inr.inr =>
    rw [he]
    have hke : k * e ≤ 900 := by
      have : i.natAbs = e := by omega
      rw [← this]; exact hi
    have he64 : (e : Int) ≤ 64 := by omega
    clear hz hT hE h hr hz0 he hi i0 i1 hie
    generalize q⁻¹ = y at *
    have HL : Hid (RS k y ∧ k * e ≤ 900 ∧ 1 ≤ k ∧ k ≤ 900) := ⟨lq, hke, hk1, hk⟩
    unfold AnsR at F OF TU
    clear lq hke hk1 hk
    generalize decide (q.num < 0) = g0 at *
    generalize q.num.natAbs = N0 at *
    generalize q.den = D0 at *
    generalize hq1 : decide (y.num < 0) = gX at *
    generalize hq2 : y.num.natAbs = NX at *
    generalize hq3 : y.den = DX at *
    have HQ : Hid (decide (y.num < 0) = gX ∧ y.num.natAbs = NX ∧ y.den = DX) := ⟨hq1, hq2, hq3⟩
    simp only [show decide ((1 : Rat).num < 0) = false from rfl, show (1 : Rat).num.natAbs = 1 from rfl, show (1 : Rat).den = 1 from rfl] at OF
    clear hq1 hq2 hq3
    go_enter Tryz.func36, Tryz.ntmps36
    go_wp2_with (first
      | (go_at_call 59; (with_reducible refine Calls.mono (ZR _ bV) ?_); rintro e w1 ⟨rfl, b1⟩; obtain ⟨p0, p1, p2, -, -, -⟩ := (B0.more b1).cells3)
      | (go_at_call 19; (with_reducible refine Calls.mono (F _ (below_more bV b1)) ?_); rintro e w2 ⟨a0, c0, b0, d0, rfl, o0⟩; have b3 := (below_more b1 o0.below).alloc (below_more b1 o0.below).size (.cells #[.bool g0, .slice a0 (nl N0) c0, .slice b0 (nl D0) d0] 24); have B2 := BoxC.new w2 #[.bool g0, .slice a0 (nl N0) c0, .slice b0 (nl D0) d0] 24; obtain ⟨p0, p1, p2, -, -, -⟩ := (B0.more b3).cells3)
      | (go_at_call 60; (with_reducible refine Calls.mono (TU _ (below_more bV b3)) ?_); rintro e w3 ⟨a2, c2, b2, d2, rfl, o2⟩; have b5 := below_more b3 o2.below; have B3 := B2.more o2.below; obtain ⟨x0, x1, x2, x3, x4, x5⟩ := B3.cells3)
      | (go_at_call 23; (with_reducible refine Calls.mono (OF _) ?_); rintro e w4 ⟨a4, c4, b4, d4, rfl, o4⟩))
    have hsw : w.heap.size ≤ w2.heap.size := (below_more bV (below_more b1 o0.below)).size
    have hb3 := below_set3 (below_more bV b5) (k := w2.heap.size) hsw (.bool gX) (.slice a2 (nl NX) c2) (.slice b2 (nl DX) d2)
    have XX := ((((o2.outer (below_more bV b3)).box3 B3 rat_ne_u32 hsw (.bool gX) (.slice a2 (nl NX) c2) (.slice b2 (nl DX) d2))).more o4.below).alloc (.cells #[.bool false, .slice a4 (nl 1) c4, .slice b4 (nl 1) d4] 24)
    have XO := (o4.outer hb3).alloc (.cells #[.bool false, .slice a4 (nl 1) c4, .slice b4 (nl 1) d4] 24)
    have BX := ((B3.set3 (.bool gX) (.slice a2 (nl NX) c2) (.slice b2 (nl DX) d2)).more o4.below).alloc (.cells #[.bool false, .slice a4 (nl 1) c4, .slice b4 (nl 1) d4] 24)
    have BO := BoxC.new w4 #[.bool false, .slice a4 (nl 1) c4, .slice b4 (nl 1) d4] 24
    have hk2 : w.heap.size + 1 < w2.heap.size := ((BR.more b1).more o0.below).lt
    have BZ := (((((BR.more b5).other (by omega) (.bool gX)).other (by omega) (.slice a2 (nl NX) c2)).other (by omega) (.slice b2 (nl DX) d2)).more o4.below).alloc (.cells #[.bool false, .slice a4 (nl 1) c4, .slice b4 (nl 1) d4] 24)
    have hk4 : w2.heap.size < w4.heap.size := ((B3.set3 (.bool gX) (.slice a2 (nl NX) c2) (.slice b2 (nl DX) d2)).more o4.below).lt
    generalize w4.alloc (.cells #[.bool false, .slice a4 (nl 1) c4, .slice b4 (nl 1) d4] 24) = V at *
    generalize w2.heap.size = kx at *
    generalize w4.heap.size = ko at *
    clear o0 o2 o4 b1 b3 b5 B2 B3 hb3 bV hs BR B0 p0 p1 p2 r0 r1 r2 r3 r4 r5 x0 x1 x2 x3 x4 x5 ZR F OF TU
    go_loopg [9] e (fun g s9 v => ∃ (j : Nat) (ao : Option Addr) (co : Nat) (bo : Option Addr) (dd : Nat), s9 = .int .i64 j ∧ j + g = e ∧ BoxC v kx #[.bool gX, .slice a2 (nl NX) c2, .slice b2 (nl DX) d2] 24 ∧ BoxC v ko #[.bool (decide ((y ^ j).num < 0)), .slice ao (nl (y ^ j).num.natAbs) co, .slice bo (nl (y ^ j).den) dd] 24 ∧ BoxC v (w.heap.size + 1) #[.bool false, .slice none 0 0, .slice none 0 0] 24 ∧ OwnR w v a2 c2 b2 d2 y ∧ OwnR w v ao co bo dd (y ^ j))
    case atStart => exact ⟨0, a4, c4, b4, d4, rfl, by omega, BX, by rw [Rat.pow_zero]; exact BO, BZ, XX, by rw [Rat.pow_zero]; exact XO⟩
    case round =>
      obtain ⟨j, ao, co, bo, dd, rfl, hj, BX, BO, BZ, XX, XO⟩ := hrel
      cases gk with
      | zero =>
        obtain rfl : j = e := by omega
        obtain ⟨y0, y1, y2, -, -, -⟩ := BO.cells3
        obtain ⟨z0, z1, z2, z3, z4, z5⟩ := BZ.cells3
        have HA : Hid (∀ e w', AnsTE w (decide ((y ^ j).num < 0), (y ^ j).num.natAbs, (y ^ j).den) 0 e w' → AnsTE w (tri (y ^ j)) 0 e w') := fun _ _ h => h
        unfold OwnR at XO
        generalize decide ((y ^ j).num < 0) = t0 at *
        generalize (y ^ j).num.natAbs = tN at *
        generalize (y ^ j).den = tD at *
        clear HL HQ XX BX BO hj
        go_wp2
        exact bodyPost_ret (v := .tuple #[.agg #[.bool t0, .slice ao (nl tN) co, .slice bo (nl tD) dd], .int .i64 0]) (by simp [results, Tryz.results36, go_sem, z0, z1, z2]) rfl (HA.out _ _ (ansTE_mk (XO.1.box3 BZ rat_ne_u32 (by omega) _ _ _) (XO.2.box3 BZ rat_ne_u32 (by omega) _ _ _)))
      | succ g =>
        obtain ⟨l1, l2, l3, l4⟩ := HL.out
        have hkj : k * j ≤ 900 := Nat.le_trans (Nat.mul_le_mul_left k (by omega)) l2
        have lj := (rs_pow l1 l3 j).mono (m := 1000) (by omega)
        have lx := l1.mono (m := 1000) (by omega)
        have MU := ref_rmul (XO.rr lj) (XX.rr lx) (y ^ (j + 1)) (by rw [Rat.pow_succ])
        rw [HQ.out.1, HQ.out.2.1, HQ.out.2.2] at MU
        unfold AnsR at MU
        obtain ⟨x0, x1, x2, -, -, -⟩ := BX.cells3
        obtain ⟨y0, y1, y2, y3, y4, y5⟩ := BO.cells3
        have HB : Hid (BoxC wr kx #[.bool gX, .slice a2 (nl NX) c2, .slice b2 (nl DX) d2] 24 ∧ BoxC wr (w.heap.size + 1) #[.bool false, .slice none 0 0, .slice none 0 0] 24 ∧ OwnR w wr a2 c2 b2 d2 y) := ⟨BX, BZ, XX⟩
        have HO : Hid (Below w.heap.size w wr) := XO.below
        have hj2 : (j : Int) < e := by omega
        have HZ : Hid (∀ (v : World) (a5 : Option Addr) (c5 : Nat) (b5 : Option Addr) (d5 : Nat), OwnR wr v a5 c5 b5 d5 (y ^ (j + 1)) → OwnR w v a5 c5 b5 d5 (y ^ (j + 1))) := fun v a5 c5 b5 d5 o => o.outer HO.out
        have HW : Hid (BoxC wr ko #[.bool (decide ((y ^ j).num < 0)), .slice ao (nl (y ^ j).num.natAbs) co, .slice bo (nl (y ^ j).den) dd] 24) := BO
        generalize hzz : y ^ (j + 1) = z' at MU HZ
        have HZ2 : Hid (y ^ (j + 1) = z') := hzz
        clear hzz lj lx l1 l2 l3 l4 hkj XX XO BX BO BZ
        generalize decide ((y ^ j).num < 0) = t0 at *
        generalize (y ^ j).num.natAbs = tN at *
        generalize (y ^ j).den = tD at *
        generalize hu0 : decide (z'.num < 0) = u0 at MU
        generalize hu1 : z'.num.natAbs = u1 at MU
        generalize hu2 : z'.den = u2 at MU
        have HU : Hid (decide (z'.num < 0) = u0 ∧ z'.num.natAbs = u1 ∧ z'.den = u2) := ⟨hu0, hu1, hu2⟩
        clear hu0 hu1 hu2
        go_wp2_with (go_at_call 32; (with_reducible refine Calls.mono MU ?_); rintro e w5 ⟨a5, c5, b5, d5, rfl, o5⟩; obtain ⟨y0, y1, y2, y3, y4, y5⟩ := (HW.out.more o5.below).cells3)
        obtain ⟨q1, q2, q3⟩ := HB.out
        obtain ⟨e1, e2, e3⟩ := HU.out
        have BO5 := HW.out.more o5.below
        have hzw := HO.out.size
        go_roundg g
        case measure => omega
        case rel => exact ⟨j + 1, a5, c5, b5, d5, by congr 1, by omega, (((q1.more o5.below).other (by omega) _).other (by omega) _).other (by omega) _, by rw [HZ2.out, e1, e2, e3]; exact BO5.set3 _ _ _, (((q2.more o5.below).other (by omega) _).other (by omega) _).other (by omega) _, (q3.more o5.below).box3 BO5 rat_ne_u32 (by omega) _ _ _, by rw [HZ2.out]; exact (HZ.out _ _ _ _ _ o5).box3 BO5 rat_ne_u32 (by omega) _ _ _⟩
  all_goals
    rw [he]
    have hke : k * e ≤ 900 := by
      have : i.natAbs = e := by omega
      rw [← this]; exact hi
    subst hie
    clear hz hT hE h hr hz0 he hi i0 i1
    have HL : Hid (RS k q ∧ k * e ≤ 900 ∧ 1 ≤ k ∧ k ≤ 900) := ⟨lq, hke, hk1, hk⟩
    unfold AnsR at F OF
    clear lq hke hk1 hk
    generalize hq1 : decide (q.num < 0) = gX at *
    generalize hq2 : q.num.natAbs = NX at *
    generalize hq3 : q.den = DX at *
    have HQ : Hid (decide (q.num < 0) = gX ∧ q.num.natAbs = NX ∧ q.den = DX) := ⟨hq1, hq2, hq3⟩
    simp only [show decide ((1 : Rat).num < 0) = false from rfl, show (1 : Rat).num.natAbs = 1 from rfl, show (1 : Rat).den = 1 from rfl] at OF
    clear hq1 hq2 hq3
    go_enter Tryz.func36, Tryz.ntmps36
    go_wp2_with (first
      | (go_at_call 59; (with_reducible refine Calls.mono (ZR _ bV) ?_); rintro e w1 ⟨rfl, b1⟩; obtain ⟨p0, p1, p2, -, -, -⟩ := (B0.more b1).cells3)
      | (go_at_call 19; (with_reducible refine Calls.mono (F _ (below_more bV b1)) ?_); rintro e w2 ⟨a2, c2, b2, d2, rfl, o2⟩; have b3 := below_more b1 o2.below; have B2 := BoxC.new w2 #[.bool gX, .slice a2 (nl NX) c2, .slice b2 (nl DX) d2] 24)
      | (go_at_call 23; (with_reducible refine Calls.mono (OF _) ?_); rintro e w4 ⟨a4, c4, b4, d4, rfl, o4⟩))
    have hbX := o2.outer (below_more bV b1)
    have XX := (((hbX.alloc (.cells #[.bool gX, .slice a2 (nl NX) c2, .slice b2 (nl DX) d2] 24)).more o4.below).alloc (.cells #[.bool false, .slice a4 (nl 1) c4, .slice b4 (nl 1) d4] 24))
    have XO := (o4.outer ((hbX.alloc (.cells #[.bool gX, .slice a2 (nl NX) c2, .slice b2 (nl DX) d2] 24)).below)).alloc (.cells #[.bool false, .slice a4 (nl 1) c4, .slice b4 (nl 1) d4] 24)
    have BX := (B2.more o4.below).alloc (.cells #[.bool false, .slice a4 (nl 1) c4, .slice b4 (nl 1) d4] 24)
    have BO := BoxC.new w4 #[.bool false, .slice a4 (nl 1) c4, .slice b4 (nl 1) d4] 24
    have BZ := ((((BR.more b1).more o2.below).alloc (.cells #[.bool gX, .slice a2 (nl NX) c2, .slice b2 (nl DX) d2] 24)).more o4.below).alloc (.cells #[.bool false, .slice a4 (nl 1) c4, .slice b4 (nl 1) d4] 24)
    have hk2 : w.heap.size + 1 < w2.heap.size := ((BR.more b1).more o2.below).lt
    have hk4 : w2.heap.size < w4.heap.size := (B2.more o4.below).lt
    generalize w4.alloc (.cells #[.bool false, .slice a4 (nl 1) c4, .slice b4 (nl 1) d4] 24) = V at *
    generalize w2.heap.size = kx at *
    generalize w4.heap.size = ko at *
    clear o2 o4 b1 b3 B2 hbX bV hs BR B0 p0 p1 p2 r0 r1 r2 r3 r4 r5 ZR F OF
    go_loopg [9] e (fun g s9 v => ∃ (j : Nat) (ao : Option Addr) (co : Nat) (bo : Option Addr) (dd : Nat), s9 = .int .i64 j ∧ j + g = e ∧ BoxC v kx #[.bool gX, .slice a2 (nl NX) c2, .slice b2 (nl DX) d2] 24 ∧ BoxC v ko #[.bool (decide ((q ^ j).num < 0)), .slice ao (nl (q ^ j).num.natAbs) co, .slice bo (nl (q ^ j).den) dd] 24 ∧ BoxC v (w.heap.size + 1) #[.bool false, .slice none 0 0, .slice none 0 0] 24 ∧ OwnR w v a2 c2 b2 d2 q ∧ OwnR w v ao co bo dd (q ^ j))
    case atStart => exact ⟨0, a4, c4, b4, d4, rfl, by omega, BX, by rw [Rat.pow_zero]; exact BO, BZ, XX, by rw [Rat.pow_zero]; exact XO⟩
    case round =>
      obtain ⟨j, ao, co, bo, dd, rfl, hj, BX, BO, BZ, XX, XO⟩ := hrel
      cases gk with
      | zero =>
        obtain rfl : j = e := by omega
        obtain ⟨y0, y1, y2, -, -, -⟩ := BO.cells3
        obtain ⟨z0, z1, z2, z3, z4, z5⟩ := BZ.cells3
        have HA : Hid (∀ e w', AnsTE w (decide ((q ^ j).num < 0), (q ^ j).num.natAbs, (q ^ j).den) 0 e w' → AnsTE w (tri (q ^ j)) 0 e w') := fun _ _ h => h
        unfold OwnR at XO
        generalize decide ((q ^ j).num < 0) = t0 at *
        generalize (q ^ j).num.natAbs = tN at *
        generalize (q ^ j).den = tD at *
        clear HL HQ XX BX BO hj
        go_wp2
        exact bodyPost_ret (v := .tuple #[.agg #[.bool t0, .slice ao (nl tN) co, .slice bo (nl tD) dd], .int .i64 0]) (by simp [results, Tryz.results36, go_sem, z0, z1, z2]) rfl (HA.out _ _ (ansTE_mk (XO.1.box3 BZ rat_ne_u32 (by omega) _ _ _) (XO.2.box3 BZ rat_ne_u32 (by omega) _ _ _)))
      | succ g =>
        obtain ⟨l1, l2, l3, l4⟩ := HL.out
        have hkj : k * j ≤ 900 := Nat.le_trans (Nat.mul_le_mul_left k (by omega)) l2
        have lj := (rs_pow l1 l3 j).mono (m := 1000) (by omega)
        have lx := l1.mono (m := 1000) (by omega)
        have MU := ref_rmul (XO.rr lj) (XX.rr lx) (q ^ (j + 1)) (by rw [Rat.pow_succ])
        rw [HQ.out.1, HQ.out.2.1, HQ.out.2.2] at MU
        unfold AnsR at MU
        obtain ⟨x0, x1, x2, -, -, -⟩ := BX.cells3
        obtain ⟨y0, y1, y2, y3, y4, y5⟩ := BO.cells3
        have HB : Hid (BoxC wr kx #[.bool gX, .slice a2 (nl NX) c2, .slice b2 (nl DX) d2] 24 ∧ BoxC wr (w.heap.size + 1) #[.bool false, .slice none 0 0, .slice none 0 0] 24 ∧ OwnR w wr a2 c2 b2 d2 q) := ⟨BX, BZ, XX⟩
        have HO : Hid (Below w.heap.size w wr) := XO.below
        have hj2 : (j : Int) < e := by omega
        have HZ : Hid (∀ (v : World) (a5 : Option Addr) (c5 : Nat) (b5 : Option Addr) (d5 : Nat), OwnR wr v a5 c5 b5 d5 (q ^ (j + 1)) → OwnR w v a5 c5 b5 d5 (q ^ (j + 1))) := fun v a5 c5 b5 d5 o => o.outer HO.out
        have HW : Hid (BoxC wr ko #[.bool (decide ((q ^ j).num < 0)), .slice ao (nl (q ^ j).num.natAbs) co, .slice bo (nl (q ^ j).den) dd] 24) := BO
        generalize hzz : q ^ (j + 1) = z' at MU HZ
        have HZ2 : Hid (q ^ (j + 1) = z') := hzz
        clear hzz lj lx l1 l2 l3 l4 hkj XX XO BX BO BZ
        generalize decide ((q ^ j).num < 0) = t0 at *
        generalize (q ^ j).num.natAbs = tN at *
        generalize (q ^ j).den = tD at *
        generalize hu0 : decide (z'.num < 0) = u0 at MU
        generalize hu1 : z'.num.natAbs = u1 at MU
        generalize hu2 : z'.den = u2 at MU
        have HU : Hid (decide (z'.num < 0) = u0 ∧ z'.num.natAbs = u1 ∧ z'.den = u2) := ⟨hu0, hu1, hu2⟩
        clear hu0 hu1 hu2
        go_wp2_with (go_at_call 32; (with_reducible refine Calls.mono MU ?_); rintro e w5 ⟨a5, c5, b5, d5, rfl, o5⟩; obtain ⟨y0, y1, y2, y3, y4, y5⟩ := (HW.out.more o5.below).cells3)
        obtain ⟨q1, q2, q3⟩ := HB.out
        obtain ⟨e1, e2, e3⟩ := HU.out
        have BO5 := HW.out.more o5.below
        have hzw := HO.out.size
        go_roundg g
        case measure => omega
        case rel => exact ⟨j + 1, a5, c5, b5, d5, by congr 1, by omega, (((q1.more o5.below).other (by omega) _).other (by omega) _).other (by omega) _, by rw [HZ2.out, e1, e2, e3]; exact BO5.set3 _ _ _, (((q2.more o5.below).other (by omega) _).other (by omega) _).other (by omega) _, (q3.more o5.below).box3 BO5 rat_ne_u32 (by omega) _ _ _, by rw [HZ2.out]; exact (HZ.out _ _ _ _ _ o5).box3 BO5 rat_ne_u32 (by omega) _ _ _⟩
end Go.Proofs.YtpimcbncmfpdhaaGreatDoor
/-
  The walk of the statement RatioPowers, for whatever package ratio keeps its contracts: it returns true; memory that was there stays.
-/
namespace Go.Proofs.YtpimcbncmfpdhaaGreatDoor
open Go.RowKit

theorem wf_u8r {a : Int} (h : (Lit.int .u8 a).wf = true) : 0 ≤ a ∧ a < 256 := by
  have : 0 ≤ a ∧ a ≤ 255 := by simpa [Lit.wf, IntKind.min, IntKind.max, IntKind.signed, IntKind.bits] using h
  omega
theorem powT_nat (q : Rat) (n : Nat) (h : n ≤ 64) : powT q (n : Int) = tri (q ^ n) ∧ powE q (n : Int) = 0 := by
  unfold powT powE
  rw [if_neg (by omega), if_neg (by omega), if_neg (by omega), if_neg (by omega), Rat.zpow_natCast]
  exact ⟨rfl, rfl⟩
theorem rat_pow_add (q : Rat) (i j : Nat) : q ^ i * q ^ j = q ^ (i + j) := by
  induction j with
  | zero => rw [Rat.pow_zero, Rat.mul_one, Nat.add_zero]
  | succ j ih => rw [Rat.pow_succ, ← Rat.mul_assoc, ih, ← Nat.add_assoc, Rat.pow_succ]

set_option maxHeartbeats 40000000 in
theorem walk_RatioPowers (K : RatioOk) (s0 : Bool) (a0 : Option Addr) (len0 cap0 : Nat) (z0 : List Int) (b0 : Option Addr) (m0 e0 : Nat) (y0 : List Int) (a1 a2 a3 : Int) (w : World) (w0 : CameIn .u32 w a0 len0 cap0 z0) (x0 : CameIn .u32 w b0 m0 e0 y0) (w1 : (Lit.int .i64 a1).wf = true) (w2 : (Lit.int .u8 a2).wf = true) (w3 : (Lit.int .u8 a3).wf = true) :
    Calls Tryz.prog 5 #[.agg #[.bool s0, .slice a0 len0 cap0, .slice b0 m0 e0], .int .i64 a1, .int .u8 a2, .int .u8 a3] w fun e w' => e = .returned (.bool true) ∧ Below w.heap.size w w' := by
  obtain ⟨B0, bV, hs⟩ := boxes1 w #[.bool s0, .slice a0 len0 cap0, .slice b0 m0 e0] 24
  obtain ⟨i0, i1⟩ := wf_i64r w1
  obtain ⟨j0, j1⟩ := wf_u8r w2
  obtain ⟨k0, k1⟩ := wf_u8r w3
  have AW := fun v => ratio_awake K v
  by_cases hf : (len0 ≤ 2 ∧ m0 ≤ 2) ∧ ¬ (8 < a1 ∧ a1 ≤ 64) ∧ ¬ (a1 < -8 ∧ -64 ≤ a1)
  case neg =>
    have hw : (2 : Int) < len0 ∨ (¬ (2 : Int) < len0 ∧ (2 : Int) < m0) ∨ (¬ (2 : Int) < len0 ∧ ¬ (2 : Int) < m0 ∧ 8 < a1 ∧ a1 ≤ 64) ∨ (¬ (2 : Int) < len0 ∧ ¬ (2 : Int) < m0 ∧ ¬ 8 < a1 ∧ a1 < -8 ∧ -64 ≤ a1) := by omega
    rcases hw with g1 | ⟨g1, g2⟩ | ⟨g1, g2, g3, g4⟩ | ⟨g1, g2, g3, g4, g5⟩
    all_goals
      clear hf w0 x0 w1 w2 w3 K i0 i1
      go_enter Tryz.func5, Tryz.ntmps5
      go_wp2_with (first
        | (go_at_call 11; (with_reducible refine Calls.mono (AW _) ?_); rintro e u0 ⟨rfl, c0⟩; obtain ⟨p00, p01, p02, -, -, -⟩ := (B0.more c0).cells3))
      go_ret
      exact ⟨rfl, below_more bV c0⟩
  case pos =>
  obtain ⟨hf, hf1, hf2⟩ := hf
  have g1 : ¬ (2 : Int) < len0 := by omega
  have g2 : ¬ (2 : Int) < m0 := by omega
  obtain ⟨X, RX, lX⟩ := came_rr (s := s0) w0 x0 hf.1 hf.2 (by omega)
  obtain ⟨I, hI, hI6⟩ : ∃ I : Nat, a2 % 6 = (I : Int) ∧ I < 6 := ⟨(a2 % 6).toNat, by omega, by omega⟩
  obtain ⟨J, hJ, hJ6⟩ : ∃ J : Nat, a3 % 6 = (J : Int) ∧ J < 6 := ⟨(a3 % 6).toNat, by omega, by omega⟩
  have hI' : a2.tmod 6 = (I : Int) := by rw [Int.tmod_eq_emod_of_nonneg j0]; exact hI
  have hJ' : a3.tmod 6 = (J : Int) := by rw [Int.tmod_eq_emod_of_nonneg k0]; exact hJ
  have ct0 := fun v (hb : Below w.heap.size w v) => K.pow (RX.below hb) (by omega) a1 i0 i1 (by omega)
  have ct1 := fun v (hb : Below w.heap.size w v) => ref_rpow (RX.below hb) (by omega) (by omega) a1 i0 i1 (by omega)
  have ct2 := fun v (hb : Below w.heap.size w v) => K.pow (RX.below hb) (by omega) (I : Int) (by omega) (by omega) (by omega)
  have ct3 := fun v (hb : Below w.heap.size w v) => K.pow (RX.below hb) (by omega) (J : Int) (by omega) (by omega) (by omega)
  have ct4 := fun v (hb : Below w.heap.size w v) => K.pow (RX.below hb) (by omega) ((I : Int) + (J : Int)) (by omega) (by omega) (by omega)
  have eI := powT_nat X I (by omega)
  have eJ := powT_nat X J (by omega)
  have eS := powT_nat X (I + J) (by omega)
  rw [Int.natCast_add] at eS
  simp only [eI.1, eI.2] at ct2
  simp only [eJ.1, eJ.2] at ct3
  simp only [eS.1, eS.2] at ct4
  have lP := (rs_pow lX (by omega) I).mono (m := 10000) (by omega)
  have lQ := (rs_pow lX (by omega) J).mono (m := 10000) (by omega)
  have hS := rat_pow_add X I J
  generalize X ^ I = P at *
  generalize X ^ J = Q at *
  generalize X ^ (I + J) = S at *
  have ct5 := fun v W1 A1 C1 B1 D1 (o1 : OwnR W1 v A1 C1 B1 D1 P) W2 A2 C2 B2 D2 (o2 : OwnR W2 v A2 C2 B2 D2 Q) => K.mul (o1.rr lP) (o2.rr lQ) S hS
  unfold AnsTE at ct0 ct1 ct2 ct3 ct4
  unfold tri at ct2 ct3 ct4
  unfold AnsR OwnR at ct5
  generalize powT X a1 = tt at ct0 ct1
  generalize powE X a1 = EE at ct0 ct1
  obtain ⟨gT, NT, DT⟩ := tt
  dsimp only at ct0 ct1 ct2 ct3 ct4
  have hn : (¬ 8 < a1 ∧ ¬ a1 < -8) ∨ (8 < a1 ∧ ¬ a1 ≤ 64 ∧ ¬ a1 < -8) ∨ (¬ 8 < a1 ∧ a1 < -8 ∧ ¬ -64 ≤ a1) := by omega
  clear w0 x0 w1 w2 w3 z0 y0 eI eJ eS hS lP lQ lX RX K hf hf1 hf2 i0 i1
  generalize decide (P.num < 0) = gP at *
  generalize P.num.natAbs = NP at *
  generalize P.den = DP at *
  generalize decide (Q.num < 0) = gQ at *
  generalize Q.num.natAbs = NQ at *
  generalize Q.den = DQ at *
  generalize decide (S.num < 0) = gS at *
  generalize S.num.natAbs = NS at *
  generalize S.den = DS at *
  rcases hn with ⟨n1, n2⟩ | ⟨n1, n2, n3⟩ | ⟨n1, n2, n3⟩
  all_goals
    go_enter Tryz.func5, Tryz.ntmps5
    go_wp2_with (first
      | (go_at_call 11; (with_reducible refine Calls.mono (AW _) ?_); rintro e u0 ⟨rfl, d0⟩; have bs := below_more bV d0; obtain ⟨p00, p01, p02, -, -, -⟩ := (B0.more d0).cells3)
      | (go_at_call 35; (with_reducible refine Calls.mono (ct0 _ bs) ?_); rintro e w3 ⟨A3, C3, E3, D3, rfl, o3⟩; have d3 := fun o => (below_more d0 o3.1.below).alloc (below_more d0 o3.1.below).size o; have bs3 := fun o => (below_more bs o3.1.below).alloc (below_more bs o3.1.below).size o; have f30 := fun o => (B0.more (d3 o)).cells3.1; have f31 := fun o => (B0.more (d3 o)).cells3.2.1; have f32 := fun o => (B0.more (d3 o)).cells3.2.2.1)
      | (go_at_call 36; (with_reducible refine Calls.mono (ct1 _ (bs3 _)) ?_); rintro e w4 ⟨A4, C4, E4, D4, rfl, o4⟩; have d4 := fun o => (below_more (d3 _) o4.1.below).alloc (below_more (d3 _) o4.1.below).size o; have bs4 := fun o => (below_more (bs3 _) o4.1.below).alloc (below_more (bs3 _) o4.1.below).size o; have f40 := fun o => (B0.more (d4 o)).cells3.1; have f41 := fun o => (B0.more (d4 o)).cells3.2.1; have f42 := fun o => (B0.more (d4 o)).cells3.2.2.1)
      | (go_at_call 35; (with_reducible refine Calls.mono (ct2 _ (bs4 _)) ?_); rintro e w5 ⟨A5, C5, E5, D5, rfl, o5⟩; have d5 := fun o => (below_more (d4 _) o5.1.below).alloc (below_more (d4 _) o5.1.below).size o; have bs5 := fun o => (below_more (bs4 _) o5.1.below).alloc (below_more (bs4 _) o5.1.below).size o; have f50 := fun o => (B0.more (d5 o)).cells3.1; have f51 := fun o => (B0.more (d5 o)).cells3.2.1; have f52 := fun o => (B0.more (d5 o)).cells3.2.2.1)
      | (go_at_call 35; (with_reducible refine Calls.mono (ct3 _ (bs5 _)) ?_); rintro e w6 ⟨A6, C6, E6, D6, rfl, o6⟩; have d6 := fun o => (below_more (d5 _) o6.1.below).alloc (below_more (d5 _) o6.1.below).size o; have bs6 := fun o => (below_more (bs5 _) o6.1.below).alloc (below_more (bs5 _) o6.1.below).size o; have f60 := fun o => (B0.more (d6 o)).cells3.1; have f61 := fun o => (B0.more (d6 o)).cells3.2.1; have f62 := fun o => (B0.more (d6 o)).cells3.2.2.1)
      | (go_at_call 35; (with_reducible refine Calls.mono (ct4 _ (bs6 _)) ?_); rintro e w7 ⟨A7, C7, E7, D7, rfl, o7⟩; have d7 := fun o => (below_more (d6 _) o7.1.below).alloc (below_more (d6 _) o7.1.below).size o; have bs7 := fun o => (below_more (bs6 _) o7.1.below).alloc (below_more (bs6 _) o7.1.below).size o; have f70 := fun o => (B0.more (d7 o)).cells3.1; have f71 := fun o => (B0.more (d7 o)).cells3.2.1; have f72 := fun o => (B0.more (d7 o)).cells3.2.2.1)
      )
    have X3 := (((((((((BoxC.new w3 #[.bool gT, .slice A3 (nl NT) C3, .slice E3 (nl DT) D3] 24).more o4.1.below).alloc (.cells #[.bool gT, .slice A4 (nl NT) C4, .slice E4 (nl DT) D4] 24)).more o5.1.below).alloc (.cells #[.bool gP, .slice A5 (nl NP) C5, .slice E5 (nl DP) D5] 24)).more o6.1.below).alloc (.cells #[.bool gQ, .slice A6 (nl NQ) C6, .slice E6 (nl DQ) D6] 24)).more o7.1.below).alloc (.cells #[.bool gS, .slice A7 (nl NS) C7, .slice E7 (nl DS) D7] 24))
    have y3 := (own2_alloc (own2_more (own2_alloc (own2_more (own2_alloc (own2_more (own2_alloc (own2_more (own2_alloc o3 (.cells #[.bool gT, .slice A3 (nl NT) C3, .slice E3 (nl DT) D3] 24)) o4.1.below) (.cells #[.bool gT, .slice A4 (nl NT) C4, .slice E4 (nl DT) D4] 24)) o5.1.below) (.cells #[.bool gP, .slice A5 (nl NP) C5, .slice E5 (nl DP) D5] 24)) o6.1.below) (.cells #[.bool gQ, .slice A6 (nl NQ) C6, .slice E6 (nl DQ) D6] 24)) o7.1.below) (.cells #[.bool gS, .slice A7 (nl NS) C7, .slice E7 (nl DS) D7] 24))
    have X4 := (((((((BoxC.new w4 #[.bool gT, .slice A4 (nl NT) C4, .slice E4 (nl DT) D4] 24).more o5.1.below).alloc (.cells #[.bool gP, .slice A5 (nl NP) C5, .slice E5 (nl DP) D5] 24)).more o6.1.below).alloc (.cells #[.bool gQ, .slice A6 (nl NQ) C6, .slice E6 (nl DQ) D6] 24)).more o7.1.below).alloc (.cells #[.bool gS, .slice A7 (nl NS) C7, .slice E7 (nl DS) D7] 24))
    have y4 := (own2_alloc (own2_more (own2_alloc (own2_more (own2_alloc (own2_more (own2_alloc o4 (.cells #[.bool gT, .slice A4 (nl NT) C4, .slice E4 (nl DT) D4] 24)) o5.1.below) (.cells #[.bool gP, .slice A5 (nl NP) C5, .slice E5 (nl DP) D5] 24)) o6.1.below) (.cells #[.bool gQ, .slice A6 (nl NQ) C6, .slice E6 (nl DQ) D6] 24)) o7.1.below) (.cells #[.bool gS, .slice A7 (nl NS) C7, .slice E7 (nl DS) D7] 24))
    have X5 := (((((BoxC.new w5 #[.bool gP, .slice A5 (nl NP) C5, .slice E5 (nl DP) D5] 24).more o6.1.below).alloc (.cells #[.bool gQ, .slice A6 (nl NQ) C6, .slice E6 (nl DQ) D6] 24)).more o7.1.below).alloc (.cells #[.bool gS, .slice A7 (nl NS) C7, .slice E7 (nl DS) D7] 24))
    have y5 := (own2_alloc (own2_more (own2_alloc (own2_more (own2_alloc o5 (.cells #[.bool gP, .slice A5 (nl NP) C5, .slice E5 (nl DP) D5] 24)) o6.1.below) (.cells #[.bool gQ, .slice A6 (nl NQ) C6, .slice E6 (nl DQ) D6] 24)) o7.1.below) (.cells #[.bool gS, .slice A7 (nl NS) C7, .slice E7 (nl DS) D7] 24))
    have X6 := (((BoxC.new w6 #[.bool gQ, .slice A6 (nl NQ) C6, .slice E6 (nl DQ) D6] 24).more o7.1.below).alloc (.cells #[.bool gS, .slice A7 (nl NS) C7, .slice E7 (nl DS) D7] 24))
    have y6 := (own2_alloc (own2_more (own2_alloc o6 (.cells #[.bool gQ, .slice A6 (nl NQ) C6, .slice E6 (nl DQ) D6] 24)) o7.1.below) (.cells #[.bool gS, .slice A7 (nl NS) C7, .slice E7 (nl DS) D7] 24))
    have X7 := (BoxC.new w7 #[.bool gS, .slice A7 (nl NS) C7, .slice E7 (nl DS) D7] 24)
    have y7 := (own2_alloc o7 (.cells #[.bool gS, .slice A7 (nl NS) C7, .slice E7 (nl DS) D7] 24))
    have HB := hid_of (bs7 (.cells #[.bool gS, .slice A7 (nl NS) C7, .slice E7 (nl DS) D7] 24))
    have SO := fun (v : World) hb => (⟨(X3.more hb).cells3.1, (X3.more hb).cells3.2.1, (X3.more hb).cells3.2.2.1, (X4.more hb).cells3.1, (X4.more hb).cells3.2.1, (X4.more hb).cells3.2.2.1, (X5.more hb).cells3.1, (X5.more hb).cells3.2.1, (X5.more hb).cells3.2.2.1, (X6.more hb).cells3.1, (X6.more hb).cells3.2.1, (X6.more hb).cells3.2.2.1, (X7.more hb).cells3.1, (X7.more hb).cells3.2.1, (X7.more hb).cells3.2.2.1⟩ : v.cell? ⟨w3.heap.size, 0, none⟩ = some (.bool gT) ∧ v.cell? ⟨w3.heap.size, 1, none⟩ = some (.slice A3 (nl NT) C3) ∧ v.cell? ⟨w3.heap.size, 2, none⟩ = some (.slice E3 (nl DT) D3) ∧ v.cell? ⟨w4.heap.size, 0, none⟩ = some (.bool gT) ∧ v.cell? ⟨w4.heap.size, 1, none⟩ = some (.slice A4 (nl NT) C4) ∧ v.cell? ⟨w4.heap.size, 2, none⟩ = some (.slice E4 (nl DT) D4) ∧ v.cell? ⟨w5.heap.size, 0, none⟩ = some (.bool gP) ∧ v.cell? ⟨w5.heap.size, 1, none⟩ = some (.slice A5 (nl NP) C5) ∧ v.cell? ⟨w5.heap.size, 2, none⟩ = some (.slice E5 (nl DP) D5) ∧ v.cell? ⟨w6.heap.size, 0, none⟩ = some (.bool gQ) ∧ v.cell? ⟨w6.heap.size, 1, none⟩ = some (.slice A6 (nl NQ) C6) ∧ v.cell? ⟨w6.heap.size, 2, none⟩ = some (.slice E6 (nl DQ) D6) ∧ v.cell? ⟨w7.heap.size, 0, none⟩ = some (.bool gS) ∧ v.cell? ⟨w7.heap.size, 1, none⟩ = some (.slice A7 (nl NS) C7) ∧ v.cell? ⟨w7.heap.size, 2, none⟩ = some (.slice E7 (nl DS) D7))
    have bs := X7.start
    clear X3 X4 X5 X6 X7 d0 p00 p01 p02 d3 bs3 f30 f31 f32 d4 bs4 f40 f41 f42 d5 bs5 f50 f51 f52 d6 bs6 f60 f61 f62 d7 bs7 f70 f71 f72 o3 o4 o5 o6 o7 ct0 ct1 ct2 ct3 ct4 bV hs B0 AW hI hI' hJ hJ' n1 n2 g1 g2 hI6 hJ6 j0 j1 k0 k1
    go_region_held3 (fun v => v.cell? ⟨w3.heap.size, 0, none⟩ = some (.bool gT) ∧ v.cell? ⟨w3.heap.size, 1, none⟩ = some (.slice A3 (nl NT) C3) ∧ v.cell? ⟨w3.heap.size, 2, none⟩ = some (.slice E3 (nl DT) D3) ∧ v.cell? ⟨w4.heap.size, 0, none⟩ = some (.bool gT) ∧ v.cell? ⟨w4.heap.size, 1, none⟩ = some (.slice A4 (nl NT) C4) ∧ v.cell? ⟨w4.heap.size, 2, none⟩ = some (.slice E4 (nl DT) D4) ∧ v.cell? ⟨w5.heap.size, 0, none⟩ = some (.bool gP) ∧ v.cell? ⟨w5.heap.size, 1, none⟩ = some (.slice A5 (nl NP) C5) ∧ v.cell? ⟨w5.heap.size, 2, none⟩ = some (.slice E5 (nl DP) D5) ∧ v.cell? ⟨w6.heap.size, 0, none⟩ = some (.bool gQ) ∧ v.cell? ⟨w6.heap.size, 1, none⟩ = some (.slice A6 (nl NQ) C6) ∧ v.cell? ⟨w6.heap.size, 2, none⟩ = some (.slice E6 (nl DQ) D6) ∧ v.cell? ⟨w7.heap.size, 0, none⟩ = some (.bool gS) ∧ v.cell? ⟨w7.heap.size, 1, none⟩ = some (.slice A7 (nl NS) C7) ∧ v.cell? ⟨w7.heap.size, 2, none⟩ = some (.slice E7 (nl DS) D7))
      (exact SO _ bs)
      (first
      | (go_at_call 17; (with_reducible refine Calls.mono (ref_reqt (own2_more y3 bs) (own2_more y4 bs)) ?_); rintro e w8 ⟨rfl, b8⟩; replace bs := below_more bs b8; clear y3 y4)
      | (go_at_call 31; (with_reducible refine Calls.mono (ct5 _ _ _ _ _ _ (own2_more y5 bs) _ _ _ _ _ (own2_more y6 bs)) ?_); rintro e w9 ⟨A9, C9, E9, D9, rfl, o9⟩; replace bs := below_more bs o9.1.below)
      | (go_at_call 17; (with_reducible refine Calls.mono (ref_reqt o9 (own2_more y7 bs)) ?_); rintro e w10 ⟨rfl, b10⟩; replace bs := below_more bs b10))
    all_goals
      go_wp2
      go_ret
      exact ⟨by simp, below_more HB.out bs⟩
end Go.Proofs.YtpimcbncmfpdhaaGreatDoor
/-
  Plain mathematics of where the first stroke of a text stands. No conditions of the program.
-/
namespace Go.Proofs.YtpimcbncmfpdhaaGreatDoor

/-- Where the first stroke stands; how long the text is, if there is none. -/
def strokeAt (l : List UInt8) : Nat := (frontR l).length
theorem stroke_nil : strokeAt [] = 0 := rfl
theorem stroke_cons (c : UInt8) (l : List UInt8) : strokeAt (c :: l) = if c = 124 then 0 else strokeAt l + 1 := by
  unfold strokeAt frontR
  by_cases h : c = 124
  · rw [if_pos h, List.takeWhile_cons_of_neg (by simp [h])]; rfl
  · rw [if_neg h, List.takeWhile_cons_of_pos (by simp [h])]; rfl
theorem front_take (l : List UInt8) : frontR l = l.take (strokeAt l) := by
  induction l with
  | nil => rfl
  | cons c l ih =>
    rw [stroke_cons]
    by_cases h : c = 124
    · rw [if_pos h, List.take_zero]; unfold frontR; rw [List.takeWhile_cons_of_neg (by simp [h])]
    · rw [if_neg h, List.take_succ_cons, ← ih]; unfold frontR; rw [List.takeWhile_cons_of_pos (by simp [h])]
theorem rest_drop (l : List UInt8) : restR l = l.drop (strokeAt l) := by
  induction l with
  | nil => rfl
  | cons c l ih =>
    rw [stroke_cons]
    by_cases h : c = 124
    · rw [if_pos h, List.drop_zero]; unfold restR; rw [List.dropWhile_cons_of_neg (by simp [h])]
    · rw [if_neg h, List.drop_succ_cons, ← ih]; unfold restR; rw [List.dropWhile_cons_of_pos (by simp [h])]
theorem stroke_le (l : List UInt8) : strokeAt l ≤ l.length := by
  induction l with
  | nil => exact Nat.le_refl _
  | cons c l ih => rw [stroke_cons, List.length_cons]; split <;> omega
end Go.Proofs.YtpimcbncmfpdhaaGreatDoor
/-
  Contract of the document's own Parse of layer 8 (package talwegref08), for every text: the rational number, or the error; memory that was there stays, and what is answered is the call's own.
-/
namespace Go.Proofs.YtpimcbncmfpdhaaGreatDoor
open Go.RowKit

theorem extract_front (s : ByteArray) (A : Nat) : (s.extract 0 A).data.toList = s.data.toList.take A := by
  rw [ByteArray.data_extract, Array.toList_extract, List.extract_eq_take_drop]; simp
theorem extract_rest (s : ByteArray) (A : Nat) : (s.extract A s.size).data.toList = s.data.toList.drop A := by
  rw [ByteArray.data_extract, Array.toList_extract, List.extract_eq_take_drop]
  exact List.take_of_length_le (by simp)

theorem not_eq_false (s : Bool) : (!(s == false)) = s := by cases s <;> rfl
theorem par_err {l : List UInt8} (h : zerr (frontR l) ≠ 0) : parT l = tri0 ∧ parE l = zerr (frontR l) := by
  have e : parE l = zerr (frontR l) := by unfold parE; rw [if_pos h]
  exact ⟨by unfold parT; rw [e, if_neg h], e⟩
theorem par_none {l : List UInt8} (h : zerr (frontR l) = 0) (hr : restR l = []) : parT l = mkT (decide (znum (frontR l) < 0)) (znum (frontR l)).natAbs false 1 ∧ parE l = mkE 1 := by
  have e : parE l = 0 := by unfold parE; rw [if_neg (by simpa using h), hr]
  refine ⟨?_, e⟩
  unfold parT parQ mkT
  rw [if_pos e, hr, if_neg (by omega), not_eq_false, rv_int]
theorem par_rest {l r : List UInt8} {c : UInt8} (h : zerr (frontR l) = 0) (hr : restR l = c :: r) (h2 : perr r ≠ 0) : parT l = tri0 ∧ parE l = perr r := by
  have e : parE l = perr r := by unfold parE; rw [if_neg (by simpa using h), hr]; exact if_pos h2
  exact ⟨by unfold parT; rw [e, if_neg h2], e⟩
theorem par_both {l r : List UInt8} {c : UInt8} (h : zerr (frontR l) = 0) (hr : restR l = c :: r) (h2 : perr r = 0) : parT l = mkT (decide (znum (frontR l) < 0)) (znum (frontR l)).natAbs false (pnum r) ∧ parE l = mkE (pnum r) := by
  have e : parE l = mkE (pnum r) := by unfold parE mkE; rw [if_neg (by simpa using h), hr]; exact if_neg (by simpa using h2)
  refine ⟨?_, e⟩
  unfold parT
  rw [e]
  unfold mkE mkT parQ
  by_cases h0 : pnum r = 0
  · rw [if_pos h0, if_pos h0, if_neg (by omega)]
  · rw [if_neg h0, if_neg h0, if_pos rfl, hr, not_eq_false]
    show tri (mkRat (znum (frontR l)) (pnum r)) = _
    unfold rv; rw [iv_self]

set_option maxHeartbeats 8000000 in
theorem ref_rparse (s : ByteArray) (w : World) (hs : s.size ≤ maxLen) :
    Calls Tryz.prog 38 #[.string s] w (AnsTE w (parT s.data.toList) (parE s.data.toList)) := by
  obtain ⟨BR, bV, hb⟩ := boxes1 w #[.bool false, .slice none 0 0, .slice none 0 0] 24
  have hsz : s.data.toList.length = s.size := by simp
  have HS : Hid (s.size ≤ maxLen ∧ s.data.toList.length = s.size) := ⟨hs, hsz⟩
  unfold maxLen at hs
  clear hsz
  go_enter Tryz.func38, Tryz.ntmps38
  go_wp2
  generalize w.alloc (.cells #[.bool false, .slice none 0 0, .slice none 0 0] 24) = V at *
  go_loopg [4, 5] s.size (fun g s4 s5 v => ∃ A : Nat, s4 = .int .i64 A ∧ s5 = .int .i64 ((g : Int) - 1) ∧ g ≤ s.size ∧ A = g + strokeAt (s.data.toList.drop g) ∧ V = v)
  case atStart =>
    refine ⟨s.size, rfl, rfl, Nat.le_refl _, ?_, rfl⟩
    rw [List.drop_of_length_le (by rw [HS.out.2]; exact Nat.le_refl _), stroke_nil]; omega
  case round =>
    obtain ⟨A, rfl, rfl, hg, hA, rfl⟩ := hrel
    cases gk with
    | succ t =>
      have ht : t < s.size := by omega
      have hd := drop_byte s t ht
      have hc := stroke_cons s[t] (s.data.toList.drop (t + 1))
      rw [← hd] at hc
      rw [show ((t + 1 : Nat) : Int) - 1 = t by omega]
      by_cases h124 : (s[t].toNat : Int) = 124
      · have e : s[t] = 124 := UInt8.toNat_inj.1 (by show s[t].toNat = 124; omega)
        rw [if_pos e] at hc
        have HC : Hid (strokeAt (s.data.toList.drop t) = 0) := hc
        clear hc hd e hA hg
        go_wp2
        go_roundg t
        case measure => omega
        case rel => exact ⟨t, rfl, by go_num, by omega, by rw [HC.out]; omega, rfl⟩
      · have e : s[t] ≠ 124 := fun e => h124 (by rw [e]; rfl)
        rw [if_neg e] at hc
        have HC : Hid (A = t + strokeAt (s.data.toList.drop t)) := by show A = _; rw [hc]; omega
        clear hc hd e hA hg
        go_wp2
        go_roundg t
        case measure => omega
        case rel => exact ⟨A, rfl, by go_num, by omega, HC.out, rfl⟩
    | zero =>
      rw [List.drop_zero, Nat.zero_add] at hA
      have hle := stroke_le s.data.toList
      have hf := front_take s.data.toList
      have hr := rest_drop s.data.toList
      rw [← hA] at hle hf hr
      have hA2 : A ≤ s.size := by have := HS.out.2; omega
      have P1 := fun v => ref_iparse (s.extract 0 A) v (by have := HS.out.1; rw [ByteArray.size_extract]; omega)
      rw [extract_front, ← hf] at P1
      rw [show ((0 : Nat) : Int) - 1 = -1 from rfl]
      have lz : nl (znum (frontR s.data.toList)).natAbs ≤ 1001 := by unfold znum; rw [iv_abs]; exact pnum_words _
      unfold AnsIP at P1
      by_cases hz : zerr (frontR s.data.toList) = 0
      case neg =>
        obtain ⟨e1, e2⟩ := par_err hz
        have HP : Hid (parT s.data.toList = tri0 ∧ parE s.data.toList = zerr (frontR s.data.toList)) := ⟨e1, e2⟩
        have hz2 : (zerr (frontR s.data.toList) == 0) = false := by simpa using hz
        generalize zerr (frontR s.data.toList) = E1 at *
        generalize znum (frontR s.data.toList) = Z at *
        generalize decide (Z < 0) = gZ at *
        generalize Z.natAbs = NZ at *
        clear hf hr hle hA lz e1 e2 hz
        go_wp2_with (go_at_call 72; (with_reducible refine Calls.mono (P1 _) ?_); rintro e w1 ⟨a1, c1, rfl, o1⟩; obtain ⟨y0, y1, y2, g0, g1, g2⟩ := (BR.more o1.below).cells3; have R := fun o => ((BR.more o1.below).alloc o).cells3; have u0 := fun o => (R o).1; have u1 := fun o => (R o).2.1; have u2 := fun o => (R o).2.2.1; have v0 := fun o => (R o).2.2.2.1; have v1 := fun o => (R o).2.2.2.2.1; have v2 := fun o => (R o).2.2.2.2.2; clear R)
        have bw := below_more bV o1.below
        have q := fun x y z o => (((BR.more o1.below).alloc o).set3 x y z).cells3
        have q0 := fun x y z o => (q x y z o).1
        have q1 := fun x y z o => (q x y z o).2.1
        have q2 := fun x y z o => (q x y z o).2.2.1
        exact bodyPost_ret (v := .tuple #[.agg #[.bool false, .slice none 0 0, .slice none 0 0], .int .i64 E1]) (by simp [results, Tryz.results38, go_sem, q0, q1, q2]) rfl (by rw [HP.out.1, HP.out.2]; exact ansTE_no (below_set3 (bw.alloc bw.size _) (by omega) _ _ _))
      case pos =>
        rw [hz] at P1
        have n1 : natOf 1 = [1] := natOf_lit [1] (wd_one (by omega) (by omega)) (by decide) (by decide)
        rcases Nat.lt_or_ge A s.size with hlt | hge
        case inr =>
          have hge' : ¬ (A : Int) < s.size := by omega
          obtain ⟨e1, e2⟩ := par_none hz (by rw [hr]; exact List.drop_of_length_le (by rw [HS.out.2]; exact hge))
          have MK := fun v a1 c1 (W : World) (o : Own W v (.slice a1 (nl (znum (frontR s.data.toList)).natAbs) c1) (nl (znum (frontR s.data.toList)).natAbs) (natOf (znum (frontR s.data.toList)).natAbs)) => ref_rmake (s := decide (znum (frontR s.data.toList) < 0)) (t := false) (o.alloc (.cells #[.int .u32 1] 62)).words (wd_natOf _) (lit_words v [1] 1 rfl (by decide)) (wd_one (by omega) (by omega)) (by omega) (by omega)
          simp only [val_natOf, show val [1] = 1 from rfl] at MK
          rw [← e1, ← e2] at MK
          unfold AnsTE at MK
          have HA : Hid (∀ e w', AnsTE w (parT s.data.toList) (parE s.data.toList) e w' → AnsTE w (parT s.data.toList) (parE s.data.toList) e w') := fun _ _ h => h
          obtain ⟨tt, htt⟩ : ∃ tt, parT s.data.toList = tt := ⟨_, rfl⟩
          obtain ⟨EE, hEE⟩ : ∃ EE, parE s.data.toList = EE := ⟨_, rfl⟩
          have HA : Hid (∀ e w', AnsTE w tt EE e w' → AnsTE w (parT s.data.toList) (parE s.data.toList) e w') := fun _ _ h => by rw [htt, hEE]; exact h
          rw [htt, hEE] at MK
          clear htt hEE
          obtain ⟨t0, tN, tD⟩ := tt
          dsimp only at MK
          generalize znum (frontR s.data.toList) = Z at *
          generalize decide (Z < 0) = gZ at *
          generalize Z.natAbs = NZ at *
          clear hf hr hle hA lz e1 e2 hz n1
          go_wp2_with (first
            | (go_at_call 72; (with_reducible refine Calls.mono (P1 _) ?_); rintro e w1 ⟨a1, c1, rfl, o1⟩; have B1 := BoxC.new w1 #[.bool gZ, .slice a1 (nl NZ) c1] 26; have u0 := fun o => (B1.alloc o).cells2.1; have u1 := fun o => (B1.alloc o).cells2.2.1; have M1 := MK _ _ _ _ (o1.alloc (.cells #[.bool gZ, .slice a1 (nl NZ) c1] 26)); rw [World.size_alloc] at M1)
            | (go_at_call 14; (with_reducible refine Calls.mono M1 ?_); rintro e w2 ⟨a2, c2, a3, c3, rfl, o2, o3⟩; obtain ⟨y0, y1, y2, g0, g1, g2⟩ := ((((BR.more o1.below).alloc _).alloc _).more o2.below).cells3))
          have bw := ((below_more bV o1.below).alloc (below_more bV o1.below).size (.cells #[.bool gZ, .slice a1 (nl NZ) c1] 26)).alloc (by have := ((below_more bV o1.below).alloc (below_more bV o1.below).size (.cells #[.bool gZ, .slice a1 (nl NZ) c1] 26)).size; exact this) (.cells #[.int .u32 1] 62)
          have hk : w.heap.size < ((w1.alloc (.cells #[.bool gZ, .slice a1 (nl NZ) c1] 26)).alloc (.cells #[.int .u32 1] 62)).heap.size := Nat.lt_of_lt_of_le hb (Nat.le_trans o1.below.size (by simp; omega))
          exact bodyPost_ret (v := .tuple #[.agg #[.bool t0, .slice a2 (nl tN) c2, .slice a3 (nl tD) c3], .int .i64 EE]) (by simp [results, Tryz.results38, go_sem, y0, y1, y2]) rfl (HA.out _ _ (ansTE_mk (((o2.above bw).set3 (by omega) hk _ _ _).own (by omega)) (((o3.above bw).set3 (by omega) hk _ _ _).own (by omega))))
        case inl =>
          have hlt' : (A : Int) < s.size := by omega
          have hr2 : restR s.data.toList = s[A] :: s.data.toList.drop (A + 1) := by rw [hr]; exact drop_byte s A hlt
          have P2 := fun v => ref_parse (s.extract (A + 1) s.size) v (by have := HS.out.1; rw [ByteArray.size_extract]; omega)
          rw [extract_rest] at P2
          unfold AnsP at P2
          by_cases hp : perr (s.data.toList.drop (A + 1)) = 0
          case neg =>
            obtain ⟨e1, e2⟩ := par_rest hz hr2 hp
            have HP : Hid (parT s.data.toList = tri0 ∧ parE s.data.toList = perr (s.data.toList.drop (A + 1))) := ⟨e1, e2⟩
            have hp2 : (perr (s.data.toList.drop (A + 1)) == 0) = false := by simpa using hp
            generalize perr (s.data.toList.drop (A + 1)) = E1 at *
            generalize pnum (s.data.toList.drop (A + 1)) = NP at *
            generalize znum (frontR s.data.toList) = Z at *
            generalize decide (Z < 0) = gZ at *
            generalize Z.natAbs = NZ at *
            clear hf hr hr2 hle hA lz e1 e2 hz n1 hp
            go_wp2_with (first
              | (go_at_call 72; (with_reducible refine Calls.mono (P1 _) ?_); rintro e w1 ⟨a1, c1, rfl, o1⟩; have C1 := fun o o' => ((BR.more o1.below).alloc o).alloc o')
              | (go_at_call 73; (with_reducible refine Calls.mono (P2 _) ?_); rintro e w2 ⟨a2, c2, rfl, o2⟩; obtain ⟨y0, y1, y2, g0, g1, g2⟩ := ((C1 _ _).more o2.below).cells3))
            have bw := below_more (((below_more bV o1.below).alloc (below_more bV o1.below).size (.cells #[.bool gZ, .slice a1 (nl NZ) c1] 26)).alloc (by have := ((below_more bV o1.below).alloc (below_more bV o1.below).size (.cells #[.bool gZ, .slice a1 (nl NZ) c1] 26)).size; exact this) (.cells #[.int .u32 1] 62)) o2.below
            exact bodyPost_ret (v := .tuple #[.agg #[.bool false, .slice none 0 0, .slice none 0 0], .int .i64 E1]) (by simp [results, Tryz.results38, go_sem, y0, y1, y2]) rfl (by rw [HP.out.1, HP.out.2]; exact ansTE_no (below_set3 bw (by omega) _ _ _))
          case pos =>
            rw [hp] at P2
            obtain ⟨e1, e2⟩ := par_both hz hr2 hp
            have lp := pnum_words (s.data.toList.drop (A + 1))
            have MK := fun v a1 c1 (W : World) (o : Own W v (.slice a1 (nl (znum (frontR s.data.toList)).natAbs) c1) (nl (znum (frontR s.data.toList)).natAbs) (natOf (znum (frontR s.data.toList)).natAbs)) a2 c2 (W2 : World) (o2 : Own W2 v (.slice a2 (nl (pnum (s.data.toList.drop (A + 1)))) c2) (nl (pnum (s.data.toList.drop (A + 1)))) (natOf (pnum (s.data.toList.drop (A + 1))))) => ref_rmake (s := decide (znum (frontR s.data.toList) < 0)) (t := false) o.words (wd_natOf _) o2.words (wd_natOf _) (by omega) (by omega)
            simp only [val_natOf] at MK
            rw [← e1, ← e2] at MK
            unfold AnsTE at MK
            obtain ⟨tt, htt⟩ : ∃ tt, parT s.data.toList = tt := ⟨_, rfl⟩
            obtain ⟨EE, hEE⟩ : ∃ EE, parE s.data.toList = EE := ⟨_, rfl⟩
            have HA : Hid (∀ e w', AnsTE w tt EE e w' → AnsTE w (parT s.data.toList) (parE s.data.toList) e w') := fun _ _ h => by rw [htt, hEE]; exact h
            rw [htt, hEE] at MK
            clear htt hEE
            obtain ⟨t0, tN, tD⟩ := tt
            dsimp only at MK
            clear e1 e2 hp lp
            generalize pnum (s.data.toList.drop (A + 1)) = NP at *
            generalize znum (frontR s.data.toList) = Z at *
            generalize decide (Z < 0) = gZ at *
            generalize Z.natAbs = NZ at *
            clear hf hr hr2 hle hA lz hz n1
            go_wp2_with (first
              | (go_at_call 72; (with_reducible refine Calls.mono (P1 _) ?_); rintro e w1 ⟨a1, c1, rfl, o1⟩; have C1 := fun o o' => ((BR.more o1.below).alloc o).alloc o'; have B1 := BoxC.new w1 #[.bool gZ, .slice a1 (nl NZ) c1] 26)
              | (go_at_call 73; (with_reducible refine Calls.mono (P2 _) ?_); rintro e w2 ⟨a2, c2, rfl, o2⟩; obtain ⟨u0, u1, -, -⟩ := ((B1.alloc _).more o2.below).cells2; have q1 := ((o1.alloc _).alloc _).more o2.below)
              | (go_at_call 14; (with_reducible refine Calls.mono (MK _ _ _ _ q1 _ _ _ o2) ?_); rintro e w3 ⟨a3, c3, a4, c4, rfl, o3, o4⟩; obtain ⟨y0, y1, y2, g0, g1, g2⟩ := (((C1 _ _).more o2.below).more o3.below).cells3))
            have bw := below_more (((below_more bV o1.below).alloc (below_more bV o1.below).size (.cells #[.bool gZ, .slice a1 (nl NZ) c1] 26)).alloc (by have := ((below_more bV o1.below).alloc (below_more bV o1.below).size (.cells #[.bool gZ, .slice a1 (nl NZ) c1] 26)).size; exact this) (.cells #[.int .u32 1] 62)) o2.below
            have hk : w.heap.size < w2.heap.size := Nat.lt_of_lt_of_le hb (Nat.le_trans o1.below.size (Nat.le_trans (by simp; omega) o2.below.size))
            exact bodyPost_ret (v := .tuple #[.agg #[.bool t0, .slice a3 (nl tN) c3, .slice a4 (nl tD) c4], .int .i64 EE]) (by simp [results, Tryz.results38, go_sem, y0, y1, y2]) rfl (HA.out _ _ (ansTE_mk (((o3.above bw).set3 (by omega) hk _ _ _).own (by omega)) (((o4.above bw).set3 (by omega) hk _ _ _).own (by omega))))
end Go.Proofs.YtpimcbncmfpdhaaGreatDoor
/-
  The walk of the statement WholeOrder, for whatever package whole keeps its contracts: it returns true; memory that was there stays.
-/
namespace Go.Proofs.YtpimcbncmfpdhaaGreatDoor
open Go.RowKit

theorem came_ri {w : World} {s : Bool} {a : Option Addr} {len cap : Nat} {zs : List Int} (h : CameIn .u32 w a len cap zs) (hl : len ≤ 12) : ∃ x : Int, RI w s a len cap x ∧ nl x.natAbs ≤ 12 := by
  have P := came_words h
  have hw := came_wd h
  refine ⟨iv s (val (zs.take len)), ⟨_, P, hw, by omega, rfl⟩, ?_⟩
  rw [iv_abs]
  exact nl_small hw _ (by rw [P.len]; exact hl)

end Go.Proofs.YtpimcbncmfpdhaaGreatDoor
/-
  The walk of the statement WholeTexts, for whatever package whole keeps its contracts: it returns true; memory that was there stays.
-/
namespace Go.Proofs.YtpimcbncmfpdhaaGreatDoor
open Go.RowKit

theorem decOf_head (n : Nat) : (decOf n).head? ≠ some 45 := by
  intro h
  have hm : (45 : UInt8) ∈ decOf n := List.mem_of_mem_head? h
  have := digS_decOf n 45 hm
  have e : (45 : UInt8).toNat = 45 := rfl
  omega
theorem strip_decI (x : Int) : stripI (decI x) = decOf x.natAbs ∧ minusI (decI x) = decide (x < 0) := by
  by_cases h : x < 0
  · rw [show decI x = 45 :: decOf x.natAbs from if_pos h, decide_eq_true h]; exact ⟨rfl, rfl⟩
  · rw [show decI x = decOf x.natAbs from if_neg h, decide_eq_false h]
    exact ⟨if_neg (decOf_head _), decide_eq_false (decOf_head _)⟩
theorem znum_decI (x : Int) (h : (decOf x.natAbs).length ≤ 1000) : znum (decI x) = x ∧ zerr (decI x) = 0 := by
  unfold znum zerr
  obtain ⟨h1, h2⟩ := strip_decI x
  rw [h1, h2, pnum_ok h (num_decOf _), valD_decOf, perr_ok h (num_decOf _), iv_self]
  exact ⟨rfl, rfl⟩
theorem decI_len (x : Int) : (decI x).length ≤ (decOf x.natAbs).length + 1 := by
  unfold decI; split <;> simp

end Go.Proofs.YtpimcbncmfpdhaaGreatDoor
/-
  Plain mathematics of texts of rational numbers: what is printed is parsed. No conditions of the program.
-/
namespace Go.Proofs.YtpimcbncmfpdhaaGreatDoor

theorem decI_no (z : Int) : ∀ c ∈ decI z, c ≠ 124 := by
  have h : ∀ c ∈ decOf z.natAbs, c ≠ 124 := fun c hc e => by
    have := digS_decOf z.natAbs c hc
    rw [e] at this
    exact absurd this.2 (by decide)
  unfold decI
  split
  · intro c hc
    rcases List.mem_cons.1 hc with e | e
    · rw [e]; decide
    · exact h c e
  · exact h
theorem front_app {l m : List UInt8} (h : ∀ c ∈ l, c ≠ 124) : frontR (l ++ 124 :: m) = l ∧ restR (l ++ 124 :: m) = 124 :: m := by
  induction l with
  | nil => exact ⟨by unfold frontR; rw [List.nil_append, List.takeWhile_cons_of_neg (by decide)], by unfold restR; rw [List.nil_append, List.dropWhile_cons_of_neg (by decide)]⟩
  | cons c l ih =>
    have hc := h c (by simp)
    obtain ⟨i1, i2⟩ := ih (fun d hd => h d (by simp [hd]))
    unfold frontR restR at *
    rw [List.cons_append, List.takeWhile_cons_of_pos (by simpa using hc), List.dropWhile_cons_of_pos (by simpa using hc), i1, i2]
    exact ⟨rfl, rfl⟩
theorem front_all {l : List UInt8} (h : ∀ c ∈ l, c ≠ 124) : frontR l = l ∧ restR l = [] := by
  induction l with
  | nil => exact ⟨rfl, rfl⟩
  | cons c l ih =>
    have hc := h c (by simp)
    obtain ⟨i1, i2⟩ := ih (fun d hd => h d (by simp [hd]))
    unfold frontR restR at *
    rw [List.takeWhile_cons_of_pos (by simpa using hc), List.dropWhile_cons_of_pos (by simpa using hc), i1, i2]
    exact ⟨rfl, rfl⟩
/-- What is printed is parsed. -/
theorem par_decR {q : Rat} {k : Nat} (h : RS k q) (hk : 1 ≤ k) (hk2 : k ≤ 100) : parT (decR q) = tri q ∧ parE (decR q) = 0 := by
  have l1 := decOf_words h.1 hk
  have l2 := decOf_words h.2 hk
  obtain ⟨z1, z2⟩ := znum_decI q.num (by omega)
  unfold decR
  by_cases hd : q.den = 1
  · rw [if_pos hd]
    obtain ⟨f1, f2⟩ := front_all (decI_no q.num)
    have e : parE (decI q.num) = 0 := by unfold parE; rw [f1, z2, f2]; rfl
    refine ⟨?_, e⟩
    unfold parT parQ
    rw [if_pos e, f1, f2, z1]
    show tri ((q.num : Int) : Rat) = tri q
    have : ((q.num : Int) : Rat) = q := Rat.ext rfl (by rw [Rat.den_intCast, hd])
    rw [this]
  · rw [if_neg hd]
    obtain ⟨f1, f2⟩ := front_app (m := decOf q.den) (decI_no q.num)
    have p1 : pnum (decOf q.den) = q.den := (pnum_ok (by omega) (num_decOf _)).trans (valD_decOf _)
    have p2 : perr (decOf q.den) = 0 := perr_ok (by omega) (num_decOf _)
    have hp := q.den_pos
    have e : parE (decI q.num ++ 124 :: decOf q.den) = 0 := by
      unfold parE; rw [f1, z2, f2]
      show (if (0 : Int) ≠ 0 then (0 : Int) else if perr (decOf q.den) ≠ 0 then perr (decOf q.den) else if pnum (decOf q.den) = 0 then 3 else 0) = 0
      rw [p2, p1, if_neg (by omega), if_neg (by omega), if_neg (by omega)]
    refine ⟨?_, e⟩
    unfold parT parQ
    rw [if_pos e, f1, f2, z1]
    show tri (mkRat q.num (pnum (decOf q.den))) = tri q
    rw [p1, Rat.mkRat_self]
end Go.Proofs.YtpimcbncmfpdhaaGreatDoor
/-
  The walk of the statement RatioTexts, for whatever package ratio keeps its contracts: it returns true; memory that was there stays.
-/
namespace Go.Proofs.YtpimcbncmfpdhaaGreatDoor
open Go.RowKit

set_option maxHeartbeats 40000000 in
theorem walk_RatioTexts (K : RatioOk) (s : ByteArray) (s1 : Bool) (a1 : Option Addr) (len1 cap1 : Nat) (z1 : List Int) (b1 : Option Addr) (m1 e1 : Nat) (y1 : List Int) (w : World) (hs : s.size ≤ maxLen) (w1 : CameIn .u32 w a1 len1 cap1 z1) (x1 : CameIn .u32 w b1 m1 e1 y1) :
    Calls Tryz.prog 6 #[.string s, .agg #[.bool s1, .slice a1 len1 cap1, .slice b1 m1 e1]] w fun e w' => e = .returned (.bool true) ∧ Below w.heap.size w w' := by
  obtain ⟨B1, bV, -⟩ := boxes1 w #[.bool s1, .slice a1 len1 cap1, .slice b1 m1 e1] 24
  have AW := fun v => ratio_awake K v
  have ct0 := fun v => K.parse s v hs
  have ct1 := fun v => ref_rparse s v hs
  unfold maxLen at hs
  by_cases hf : len1 ≤ 4 ∧ m1 ≤ 4
  case neg =>
    have F := fun v => law8_few v s1 s1 s1 a1 a1 a1 b1 b1 b1 len1 len1 len1 cap1 cap1 cap1 m1 m1 m1 e1 e1 e1 false (decide_eq_false (by omega))
    clear hf w1 x1 K ct0 ct1
    go_enter Tryz.func6, Tryz.ntmps6
    go_wp2_with (first
      | (go_at_call 11; (with_reducible refine Calls.mono (AW _) ?_); rintro e u0 ⟨rfl, c0⟩; obtain ⟨p10, p11, p12, -, -, -⟩ := (B1.more c0).cells3)
      | (go_at_call 12; (with_reducible refine Calls.mono (F _) ?_); rintro e v1 ⟨rfl, c1⟩; replace c0 := below_more c0 c1; obtain ⟨p10, p11, p12, -, -, -⟩ := (B1.more c0).cells3))
    go_ret
    exact ⟨rfl, below_more bV c0⟩
  case pos =>
  have F := fun v => law8_few v s1 s1 s1 a1 a1 a1 b1 b1 b1 len1 len1 len1 cap1 cap1 cap1 m1 m1 m1 e1 e1 e1 true (decide_eq_true (by omega))
  by_cases h6 : (60 : Int) < s.size
  case pos =>
    clear hf w1 x1 K ct0 ct1
    go_enter Tryz.func6, Tryz.ntmps6
    go_wp2_with (first
      | (go_at_call 11; (with_reducible refine Calls.mono (AW _) ?_); rintro e u0 ⟨rfl, c0⟩; obtain ⟨p10, p11, p12, -, -, -⟩ := (B1.more c0).cells3)
      | (go_at_call 12; (with_reducible refine Calls.mono (F _) ?_); rintro e v1 ⟨rfl, c1⟩; replace c0 := below_more c0 c1; obtain ⟨p10, p11, p12, -, -, -⟩ := (B1.more c0).cells3))
    go_ret
    exact ⟨rfl, below_more bV c0⟩
  case neg =>
  obtain ⟨X, RX, lX⟩ := came_rr (s := s1) w1 x1 hf.1 hf.2 (by omega)
  have ct2 := fun v (hb : Below w.heap.size w v) => K.print ((RX.below hb).mono (l := 10000) (by omega))
  have lT : (decR X).length ≤ 1000 := by
    have h1 := decI_wlen X.num lX.1 (by omega)
    have h2 := decOf_words lX.2 (by omega)
    unfold decR; split
    · omega
    · rw [List.length_append, List.length_cons]; omega
  have ct3 := fun v => K.parse ⟨(decR X).toArray⟩ v (by show (decR X).toArray.size ≤ maxLen; unfold maxLen; simp; omega)
  obtain ⟨q1, q2⟩ := par_decR lX (by omega) (by omega)
  simp only [q1, q2] at ct3
  have ct4 := fun v (hb : Below w.heap.size w v) => ref_rprint ((RX.below hb).mono (by omega))
  have ct5 := fun v (hb : Below w.heap.size w v) => ref_rfix' (by omega) (RX.below hb)
  unfold AnsTE at ct0 ct1 ct3
  unfold tri at ct3
  unfold AnsR OwnR at ct5
  generalize parT s.data.toList = tt at ct0 ct1
  generalize parE s.data.toList = EE at ct0 ct1
  obtain ⟨gT, NT, DT⟩ := tt
  dsimp only at ct0 ct1 ct3
  clear w1 x1 z1 y1 hf lX RX K q1 q2 lT
  generalize ByteArray.mk (decR X).toArray = TX at *
  generalize decide (X.num < 0) = gX at *
  generalize X.num.natAbs = NX at *
  generalize X.den = DX at *
  go_enter Tryz.func6, Tryz.ntmps6
  go_wp2_with (first
    | (go_at_call 11; (with_reducible refine Calls.mono (AW _) ?_); rintro e u0 ⟨rfl, d0⟩; obtain ⟨p10, p11, p12, -, -, -⟩ := (B1.more d0).cells3)
    | (go_at_call 12; (with_reducible refine Calls.mono (F _) ?_); rintro e v1 ⟨rfl, d1⟩; replace d0 := below_more d0 d1; obtain ⟨p10, p11, p12, -, -, -⟩ := (B1.more d0).cells3)
    | (go_at_call 37; (with_reducible refine Calls.mono (ct0 _) ?_); rintro e w3 ⟨A3, C3, E3, D3, rfl, o3⟩; have d3 := below_more d0 o3.1.below; replace d3 := d3.alloc d3.size (.cells #[.bool gT, .slice A3 (nl NT) C3, .slice E3 (nl DT) D3] 24))
    | (go_at_call 38; (with_reducible refine Calls.mono (ct1 _) ?_); rintro e w4 ⟨A4, C4, E4, D4, rfl, o4⟩; have d4 := below_more d3 o4.1.below; replace d4 := d4.alloc d4.size (.cells #[.bool gT, .slice A4 (nl NT) C4, .slice E4 (nl DT) D4] 24); have f0 := (B1.more d4).cells3.1; have f1 := (B1.more d4).cells3.2.1; have f2 := (B1.more d4).cells3.2.2.1)
    | (go_at_call 39; (with_reducible refine Calls.mono (ct2 _ (below_more bV d4)) ?_); rintro e w5 ⟨rfl, b5⟩; have d5 := below_more d4 b5)
    | (go_at_call 37; (with_reducible refine Calls.mono (ct3 _) ?_); rintro e w6 ⟨A6, C6, E6, D6, rfl, o6⟩; have d6 := below_more d5 o6.1.below; replace d6 := d6.alloc d6.size (.cells #[.bool gX, .slice A6 (nl NX) C6, .slice E6 (nl DX) D6] 24)))
  have X3 := ((((BoxC.new w3 #[.bool gT, .slice A3 (nl NT) C3, .slice E3 (nl DT) D3] 24).more o4.1.below).alloc (.cells #[.bool gT, .slice A4 (nl NT) C4, .slice E4 (nl DT) D4] 24)).more b5 |>.more o6.1.below).alloc (.cells #[.bool gX, .slice A6 (nl NX) C6, .slice E6 (nl DX) D6] 24)
  have X4 := (((BoxC.new w4 #[.bool gT, .slice A4 (nl NT) C4, .slice E4 (nl DT) D4] 24).more b5).more o6.1.below).alloc (.cells #[.bool gX, .slice A6 (nl NX) C6, .slice E6 (nl DX) D6] 24)
  have X6 := BoxC.new w6 #[.bool gX, .slice A6 (nl NX) C6, .slice E6 (nl DX) D6] 24
  have y3 := own2_alloc (own2_more (own2_more (own2_alloc (own2_more (own2_alloc o3 (.cells #[.bool gT, .slice A3 (nl NT) C3, .slice E3 (nl DT) D3] 24)) o4.1.below) (.cells #[.bool gT, .slice A4 (nl NT) C4, .slice E4 (nl DT) D4] 24)) b5) o6.1.below) (.cells #[.bool gX, .slice A6 (nl NX) C6, .slice E6 (nl DX) D6] 24)
  have y4 := own2_alloc (own2_more (own2_more (own2_alloc o4 (.cells #[.bool gT, .slice A4 (nl NT) C4, .slice E4 (nl DT) D4] 24)) b5) o6.1.below) (.cells #[.bool gX, .slice A6 (nl NX) C6, .slice E6 (nl DX) D6] 24)
  have y6 := own2_alloc o6 (.cells #[.bool gX, .slice A6 (nl NX) C6, .slice E6 (nl DX) D6] 24)
  have Y1 := B1.more d6
  have HB := hid_of (below_more bV d6)
  have SO := fun (v : World) hb => (⟨(Y1.more hb).cells3.1, (Y1.more hb).cells3.2.1, (Y1.more hb).cells3.2.2.1, (X3.more hb).cells3.1, (X3.more hb).cells3.2.1, (X3.more hb).cells3.2.2.1, (X4.more hb).cells3.1, (X4.more hb).cells3.2.1, (X4.more hb).cells3.2.2.1, (X6.more hb).cells3.1, (X6.more hb).cells3.2.1, (X6.more hb).cells3.2.2.1⟩ : v.cell? ⟨w.heap.size, 0, none⟩ = some (.bool s1) ∧ v.cell? ⟨w.heap.size, 1, none⟩ = some (.slice a1 len1 cap1) ∧ v.cell? ⟨w.heap.size, 2, none⟩ = some (.slice b1 m1 e1) ∧ v.cell? ⟨w3.heap.size, 0, none⟩ = some (.bool gT) ∧ v.cell? ⟨w3.heap.size, 1, none⟩ = some (.slice A3 (nl NT) C3) ∧ v.cell? ⟨w3.heap.size, 2, none⟩ = some (.slice E3 (nl DT) D3) ∧ v.cell? ⟨w4.heap.size, 0, none⟩ = some (.bool gT) ∧ v.cell? ⟨w4.heap.size, 1, none⟩ = some (.slice A4 (nl NT) C4) ∧ v.cell? ⟨w4.heap.size, 2, none⟩ = some (.slice E4 (nl DT) D4) ∧ v.cell? ⟨w6.heap.size, 0, none⟩ = some (.bool gX) ∧ v.cell? ⟨w6.heap.size, 1, none⟩ = some (.slice A6 (nl NX) C6) ∧ v.cell? ⟨w6.heap.size, 2, none⟩ = some (.slice E6 (nl DX) D6))
  have bs := X6.start
  clear X3 X4 X6 Y1 d0 d1 d3 d4 d5 d6 p10 p11 p12 f0 f1 f2 o3 o4 o6 b5 ct0 ct1 ct2 ct3 bV B1 AW F
  go_region_held3 (fun v => v.cell? ⟨w.heap.size, 0, none⟩ = some (.bool s1) ∧ v.cell? ⟨w.heap.size, 1, none⟩ = some (.slice a1 len1 cap1) ∧ v.cell? ⟨w.heap.size, 2, none⟩ = some (.slice b1 m1 e1) ∧ v.cell? ⟨w3.heap.size, 0, none⟩ = some (.bool gT) ∧ v.cell? ⟨w3.heap.size, 1, none⟩ = some (.slice A3 (nl NT) C3) ∧ v.cell? ⟨w3.heap.size, 2, none⟩ = some (.slice E3 (nl DT) D3) ∧ v.cell? ⟨w4.heap.size, 0, none⟩ = some (.bool gT) ∧ v.cell? ⟨w4.heap.size, 1, none⟩ = some (.slice A4 (nl NT) C4) ∧ v.cell? ⟨w4.heap.size, 2, none⟩ = some (.slice E4 (nl DT) D4) ∧ v.cell? ⟨w6.heap.size, 0, none⟩ = some (.bool gX) ∧ v.cell? ⟨w6.heap.size, 1, none⟩ = some (.slice A6 (nl NX) C6) ∧ v.cell? ⟨w6.heap.size, 2, none⟩ = some (.slice E6 (nl DX) D6))
    (exact SO _ bs)
    (first
    | (go_at_call 17; (with_reducible refine Calls.mono (ref_reqt (own2_more y3 bs) (own2_more y4 bs)) ?_); rintro e w8 ⟨rfl, b8⟩; replace bs := below_more bs b8; clear y3 y4)
    | (go_at_call 40; (with_reducible refine Calls.mono (ct4 _ (below_more HB.out bs)) ?_); rintro e w9 ⟨rfl, b9⟩; replace bs := below_more bs b9)
    | (go_at_call 19; (with_reducible refine Calls.mono (ct5 _ (below_more HB.out bs)) ?_); rintro e w10 ⟨A10, C10, E10, D10, rfl, o10⟩; replace bs := below_more bs o10.1.below)
    | (go_at_call 17; (with_reducible refine Calls.mono (ref_reqt (own2_more y6 bs) o10) ?_); rintro e w11 ⟨rfl, b11⟩; replace bs := below_more bs b11))
  all_goals
    go_wp2
    go_ret
    exact ⟨by simp, below_more HB.out bs⟩
end Go.Proofs.YtpimcbncmfpdhaaGreatDoor
/-
  The walk of the statement RatioBack, for whatever package ratio keeps its contracts: it returns true; memory that was there stays.
-/
namespace Go.Proofs.YtpimcbncmfpdhaaGreatDoor
open Go.RowKit

theorem BoxC.rset {v : World} {k : Nat} {x y z : Value} {T : TypeId} (h : BoxC v k #[.bool false, .slice none 0 0, .slice none 0 0] T) : BoxC (((v.setCell ⟨k, 0, none⟩ x).setCell ⟨k, 1, none⟩ y).setCell ⟨k, 2, none⟩ z) k #[x, y, z] T := h.set3 x y z
theorem own2_outer {W V w : World} {v : Value} {n : Nat} {xs : List Int} {v' : Value} {n' : Nat} {ys : List Int} (h : Own V w v n xs ∧ Own V w v' n' ys) (hb : Below W.heap.size W V) : Own W w v n xs ∧ Own W w v' n' ys := ⟨h.1.outer hb, h.2.outer hb⟩
theorem own2_rbox {W w : World} {v : Value} {n : Nat} {xs : List Int} {v' : Value} {n' : Nat} {ys : List Int} {k : Nat} {x y z : Value} (h : Own W w v n xs ∧ Own W w v' n' ys) (B : BoxC w k #[.bool false, .slice none 0 0, .slice none 0 0] 24) (hk : W.heap.size ≤ k) : Own W (((w.setCell ⟨k, 0, none⟩ x).setCell ⟨k, 1, none⟩ y).setCell ⟨k, 2, none⟩ z) v n xs ∧ Own W (((w.setCell ⟨k, 0, none⟩ x).setCell ⟨k, 1, none⟩ y).setCell ⟨k, 2, none⟩ z) v' n' ys :=
  ⟨h.1.box3 B rat_ne_u32 hk x y z, h.2.box3 B rat_ne_u32 hk x y z⟩
theorem rat_add_back (x y : Rat) : x + y - y = x := by rw [Rat.sub_eq_add_neg, Rat.add_assoc, Rat.add_neg_cancel, Rat.add_zero]

set_option maxHeartbeats 40000000 in
theorem walk_RatioBack (K : RatioOk) (s0 : Bool) (a0 : Option Addr) (len0 cap0 : Nat) (z0 : List Int) (b0 : Option Addr) (m0 e0 : Nat) (y0 : List Int) (s1 : Bool) (a1 : Option Addr) (len1 cap1 : Nat) (z1 : List Int) (b1 : Option Addr) (m1 e1 : Nat) (y1 : List Int) (w : World) (w0 : CameIn .u32 w a0 len0 cap0 z0) (x0 : CameIn .u32 w b0 m0 e0 y0) (w1 : CameIn .u32 w a1 len1 cap1 z1) (x1 : CameIn .u32 w b1 m1 e1 y1) :
    Calls Tryz.prog 8 #[.agg #[.bool s0, .slice a0 len0 cap0, .slice b0 m0 e0], .agg #[.bool s1, .slice a1 len1 cap1, .slice b1 m1 e1]] w fun e w' => e = .returned (.bool true) ∧ Below w.heap.size w w' := by
  obtain ⟨B0, B1, bV, hs⟩ := boxes2 w #[.bool s0, .slice a0 len0 cap0, .slice b0 m0 e0] #[.bool s1, .slice a1 len1 cap1, .slice b1 m1 e1] 24 24
  have AW := fun v => ratio_awake K v
  by_cases hf : len0 ≤ 4 ∧ m0 ≤ 4 ∧ len1 ≤ 4 ∧ m1 ≤ 4
  case neg =>
    have F := fun v => law8_few v s0 s1 s0 a0 a1 a0 b0 b1 b0 len0 len1 len0 cap0 cap1 cap0 m0 m1 m0 e0 e1 e0 false (decide_eq_false (by omega))
    clear hf w0 x0 w1 x1 K
    go_enter Tryz.func8, Tryz.ntmps8
    go_wp2_with (first
      | (go_at_call 11; (with_reducible refine Calls.mono (AW _) ?_); rintro e u0 ⟨rfl, c0⟩; obtain ⟨p00, p01, p02, -, -, -⟩ := (B0.more c0).cells3; obtain ⟨p10, p11, p12, -, -, -⟩ := (B1.more c0).cells3)
      | (go_at_call 12; (with_reducible refine Calls.mono (F _) ?_); rintro e v1 ⟨rfl, c1⟩))
    go_ret
    exact ⟨rfl, below_more (below_more bV c0) c1⟩
  case pos =>
  have F := fun v => law8_few v s0 s1 s0 a0 a1 a0 b0 b1 b0 len0 len1 len0 cap0 cap1 cap0 m0 m1 m0 e0 e1 e0 true (decide_eq_true (by omega))
  have PA := came_words w0
  have PB := came_words x0
  have wA := came_wd w0
  have wB := came_wd x0
  obtain ⟨X, hX⟩ : ∃ X, rv s0 (val (z0.take len0)) (val (y0.take m0)) = X := ⟨_, rfl⟩
  have RX : RR 4 w s0 a0 len0 cap0 b0 m0 e0 X := ⟨_, _, PA, wA, PB, wB, hf.1, hf.2.1, hX⟩
  have lX := RX.rs (by omega)
  have PX := RX.mono (l := 10000) (by omega)
  obtain ⟨Y, PY, lY⟩ := came_rr (s := s1) w1 x1 hf.2.2.1 hf.2.2.2 (by omega)
  replace PY := PY.mono (l := 10000) (by omega)
  obtain ⟨rr, hrr⟩ : ∃ rr, decide (decide (X.num < 0) = s0 ∧ natOf X.num.natAbs = z0.take len0 ∧ natOf X.den = y0.take m0) = rr := ⟨_, rfl⟩
  have lO : RS 1 ((0 : Int) : Rat) := rs_int 0 (nl_le 1 _ (by decide)) (by omega)
  have hO : ((0 : Int) : Rat) = 0 := by decide
  obtain ⟨O, hO0⟩ : ∃ O : Rat, ((0 : Int) : Rat) = O := ⟨_, rfl⟩
  obtain ⟨zb, hzb⟩ : ∃ zb, decide (Y = ((0 : Int) : Rat)) = zb := ⟨_, rfl⟩
  have hback : X + Y - Y = X := rat_add_back X Y
  have lS := rs_add lX lY
  have lM := rs_mul lX lY (by omega)
  have hE : (zb = true ∧ divE Y = 3) ∨ (zb = false ∧ divE Y = 0 ∧ divT (X * Y) Y = tri X) := by
    by_cases hY : Y = 0
    · left
      exact ⟨by rw [← hzb, hO]; exact decide_eq_true hY, if_pos hY⟩
    · right
      refine ⟨by rw [← hzb, hO]; exact decide_eq_false hY, if_neg hY, ?_⟩
      unfold divT
      rw [if_neg hY, Rat.mul_div_cancel hY]
  generalize hS : X + Y = S at *
  generalize hM : X * Y = M at *
  rw [hO0] at hzb lO
  have kX := lX.mono (m := 10000) (by omega)
  have kS := lS.mono (m := 10000) (by omega)
  have kM := lM.mono (m := 10000) (by omega)
  have kO := lO.mono (m := 10000) (by omega)
  have hlen : len0 ≤ 10000 ∧ m0 ≤ 10000 := by omega
  have ctF := fun v (hb : Below w.heap.size w v) => K.fix (PX.below hb)
  have ctA := fun v (hb : Below w.heap.size w v) => K.add (PX.below hb) (PY.below hb) S hS
  have ctS := fun v W1 A1 C1 B1 D1 (o1 : OwnR W1 v A1 C1 B1 D1 S) (hb : Below w.heap.size w v) => K.sub (o1.rr kS) (PY.below hb) X hback
  have ctM := fun v (hb : Below w.heap.size w v) => K.mul (PX.below hb) (PY.below hb) M hM
  have ctD := fun v W1 A1 C1 B1 D1 (o1 : OwnR W1 v A1 C1 B1 D1 M) (hb : Below w.heap.size w v) => K.div (o1.rr kM) (PY.below hb)
  have ctO := fun v => K.of 0 v (by omega) (by omega)
  have ctZ := fun v W1 A1 C1 B1 D1 (o1 : OwnR W1 v A1 C1 B1 D1 O) (hb : Below w.heap.size w v) => K.same (PY.below hb) (o1.rr kO) zb hzb
  have ctR := fun v W1 A1 C1 B1 D1 (o1 : OwnR W1 v A1 C1 B1 D1 X) => right_ownR K o1 kX
  have ctQ := fun v (hb : Below w.heap.size w v) => K.right (PA.below hb) wA (PB.below hb) wB hlen.1 hlen.2 X hX rr hrr
  have ctE := fun v W1 A1 C1 B1 D1 (o1 : OwnR W1 v A1 C1 B1 D1 X) (hb : Below w.heap.size w v) => ref_requal (s := decide (X.num < 0)) (s' := s0) o1.1.words o1.2.words (PA.below hb) (PB.below hb) rr hrr
  have ctT := fun v W1 A1 C1 B1 D1 (o1 : OwnR W1 v A1 C1 B1 D1 X) (hb : Below w.heap.size w v) => K.same (PX.below hb) (o1.rr kX) true (decide_eq_true rfl)
  clear w0 w1 x0 x1 hf
  unfold AnsTE at ctD
  rw [hO0] at ctO
  unfold AnsR at ctF ctA ctS ctM ctO
  unfold tri at hE
  generalize divT M Y = tt at *
  generalize divE Y = EE at *
  obtain ⟨gT, NT, DT⟩ := tt
  dsimp only at ctD
  unfold OwnR at ctF ctA ctS ctM ctD ctO ctZ ctR ctE ctT
  clear hS hM hO hO0 hzb hback hrr hX lX lY lS lM lO kX kS kM kO RX PA PB wA wB PX PY hlen K z0 y0 z1 y1
  generalize decide (X.num < 0) = gX at *
  generalize X.num.natAbs = NX at *
  generalize X.den = DX at *
  generalize decide (S.num < 0) = gS at *
  generalize S.num.natAbs = NS at *
  generalize S.den = DS at *
  generalize decide (M.num < 0) = gM at *
  generalize M.num.natAbs = NM at *
  generalize M.den = DM at *
  generalize decide (O.num < 0) = gO at *
  generalize O.num.natAbs = NO at *
  generalize O.den = DO at *
  have HE : Hid ((zb = true ∧ EE = 3) ∨ (zb = false ∧ EE = 0 ∧ gT = gX ∧ NT = NX ∧ DT = DX)) := by
    rcases hE with h | ⟨h1, h2, h3⟩
    · exact .inl h
    · simp only [Prod.mk.injEq] at h3
      exact .inr ⟨h1, h2, h3.1, h3.2.1, h3.2.2⟩
  clear hE
  go_enter Tryz.func8, Tryz.ntmps8
  go_upto_region 6 with (first
    | (go_at_call 11; (with_reducible refine Calls.mono (AW _) ?_); rintro e u0 ⟨rfl, d0⟩; obtain ⟨p00, p01, p02, -, -, -⟩ := (B0.more d0).cells3; obtain ⟨p10, p11, p12, -, -, -⟩ := (B1.more d0).cells3)
    | (go_at_call 12; (with_reducible refine Calls.mono (F _) ?_); rintro e v1 ⟨rfl, d1⟩; replace d0 := below_more d0 d1; have bs := below_more bV d0; obtain ⟨p00, p01, p02, -, -, -⟩ := (B0.more d0).cells3; obtain ⟨p10, p11, p12, -, -, -⟩ := (B1.more d0).cells3)
    | (go_at_call 18; (with_reducible refine Calls.mono (ctF _ bs) ?_); rintro e w3 ⟨A3, C3, E3, D3, rfl, o3⟩; replace d0 := below_more d0 o3.1.below))
  have dA := d0.alloc d0.size (.cells #[.bool gX, .slice A3 (nl NX) C3, .slice E3 (nl DX) D3] 24)
  have C0 := B0.more dA
  have C1 := B1.more dA
  have BF := BoxC.new w3 #[.bool gX, .slice A3 (nl NX) C3, .slice E3 (nl DX) D3] 24
  have oF := own2_alloc (own2_outer o3 bs) (.cells #[.bool gX, .slice A3 (nl NX) C3, .slice E3 (nl DX) D3] 24)
  have bW := below_more bV dA
  generalize w3.heap.size = kf at *
  generalize w3.alloc (.cells #[.bool gX, .slice A3 (nl NX) C3, .slice E3 (nl DX) D3] 24) = V at *
  clear o3 bs d0 d1 dA p00 p01 p02 p10 p11 p12 AW F ctF B0 B1 bV hs
  have SO : ∀ v, Below V.heap.size V v → v.cell? ⟨w.heap.size, 0, none⟩ = some (.bool s0) ∧ v.cell? ⟨w.heap.size, 1, none⟩ = some (.slice a0 len0 cap0) ∧ v.cell? ⟨w.heap.size, 2, none⟩ = some (.slice b0 m0 e0) ∧ v.cell? ⟨w.heap.size + 1, 0, none⟩ = some (.bool s1) ∧ v.cell? ⟨w.heap.size + 1, 1, none⟩ = some (.slice a1 len1 cap1) ∧ v.cell? ⟨w.heap.size + 1, 2, none⟩ = some (.slice b1 m1 e1) := fun v hb => ⟨(C0.more hb).cells3.1, (C0.more hb).cells3.2.1, (C0.more hb).cells3.2.2.1, (C1.more hb).cells3.1, (C1.more hb).cells3.2.1, (C1.more hb).cells3.2.2.1⟩
  go_cut [8] from 22 to 26 (fun s8 wx => ∃ (k : Nat) (A : Option Addr) (C : Nat) (E : Option Addr) (D : Nat), s8 = .pointer (some ⟨k, 0, none⟩) ∧ BoxC wx k #[.bool gX, .slice A (nl NX) C, .slice E (nl DX) D] 24 ∧ (Own w wx (.slice A (nl NX) C) (nl NX) (natOf NX) ∧ Own w wx (.slice E (nl DX) D) (nl DX) (natOf DX)) ∧ Below V.heap.size V wx)
  case first =>
    have bs0 : Below V.heap.size V V := Below.refl _ _
    have bs : Below V.heap.size V V.drew := bs0.drew
    have hwV := bW.size
    go_region_held3 (fun v => v.cell? ⟨w.heap.size, 0, none⟩ = some (.bool s0) ∧ v.cell? ⟨w.heap.size, 1, none⟩ = some (.slice a0 len0 cap0) ∧ v.cell? ⟨w.heap.size, 2, none⟩ = some (.slice b0 m0 e0) ∧ v.cell? ⟨w.heap.size + 1, 0, none⟩ = some (.bool s1) ∧ v.cell? ⟨w.heap.size + 1, 1, none⟩ = some (.slice a1 len1 cap1) ∧ v.cell? ⟨w.heap.size + 1, 2, none⟩ = some (.slice b1 m1 e1))
      ((refine SO _ ?_; have hsz := bs.size; repeat' first | exact bs | exact bs0 | with_reducible refine Below.alloc ?_ ?_ _ | with_reducible refine Below.setCell ?_ ?_ _ | with_reducible refine Below.drew ?_ | exact hsz | exact Nat.le_refl _ | omega | (simp; done) | (simp; omega)))
      (first
      | (go_at_call 27; (with_reducible refine Calls.mono (ctA _ (below_more bW bs)) ?_); rintro e y1 ⟨A1, C1, E1, D1, rfl, q1⟩; clear ctA; replace bs := below_more bs q1.1.below)
      | (go_at_call 27; (with_reducible refine Calls.mono (ctA _ (below_more bW (bs0.alloc bs0.size _).drew)) ?_); rintro e y1 ⟨A1, C1, E1, D1, rfl, q1⟩; clear ctA; have P1 := (BoxC.new V #[.bool false, .slice none 0 0, .slice none 0 0] 24).drew.more q1.1.below; have hP := P1.lt; replace bs := below_more (bs0.alloc bs0.size (.cells #[.bool false, .slice none 0 0, .slice none 0 0] 24)).drew q1.1.below)
      | (go_at_call 29; (with_reducible refine Calls.mono (ctS _ _ _ _ _ _ q1 (below_more bW bs)) ?_); rintro e y2 ⟨A2, C2, E2, D2, rfl, q2⟩; have q2' := own2_outer q2 (below_more bW bs); have hz := bs.size; have hw := q2.1.below.size; replace bs := below_more bs q2.1.below; (try (have Q1 := P1.more q2.1.below; obtain ⟨f0, f1, f2, f3, f4, f5⟩ := Q1.cells3; have f6 := Q1.lt)))
      | (go_at_call 29; (with_reducible refine Calls.mono (ctS _ _ _ _ _ _ (own2_alloc q1 _) (below_more bW (bs.alloc bs.size _))) ?_); rintro e y2 ⟨A2, C2, E2, D2, rfl, q2⟩; have q2' := own2_outer q2 (below_more bW (bs.alloc bs.size (.cells #[.bool false, .slice none 0 0, .slice none 0 0] 24))); have hz := bs.size; replace bs := below_more (bs.alloc bs.size (.cells #[.bool false, .slice none 0 0, .slice none 0 0] 24)) q2.1.below; have R1 := (BoxC.new y1 #[.bool false, .slice none 0 0, .slice none 0 0] 24).more q2.1.below; obtain ⟨f0, f1, f2, f3, f4, f5⟩ := R1.cells3; have f6 := R1.lt))
    all_goals go_wp2_with fail
    all_goals go_meet
    all_goals clear SO ctS
    all_goals refine ⟨_, A2, C2, E2, D2, rfl, ?_, ?_, ?_⟩
    all_goals repeat' first | with_reducible assumption | with_reducible exact BoxC.new _ _ _ | with_reducible refine BoxC.rset ?_ | with_reducible refine own2_alloc ?_ _ | with_reducible refine own2_rbox ?_ ?_ ?_ | with_reducible refine Below.alloc ?_ ?_ _ | with_reducible refine Below.setCell ?_ ?_ _ | exact Nat.le_refl _ | omega | (simp only; omega)
  case rest =>
    obtain ⟨k8, A8, C8, E8, D8, rfl, B8, o8, b8⟩ := hcut
    clear SO ctA ctS
    replace C0 := C0.more b8
    replace C1 := C1.more b8
    replace BF := BF.more b8
    replace oF := own2_more oF b8
    replace bW := below_more bW b8
    clear b8
    rename World => V2
    go_upto_region 7 with fail
    have SO : ∀ v, Below V2.heap.size V2 v → v.cell? ⟨w.heap.size, 0, none⟩ = some (.bool s0) ∧ v.cell? ⟨w.heap.size, 1, none⟩ = some (.slice a0 len0 cap0) ∧ v.cell? ⟨w.heap.size, 2, none⟩ = some (.slice b0 m0 e0) ∧ v.cell? ⟨w.heap.size + 1, 0, none⟩ = some (.bool s1) ∧ v.cell? ⟨w.heap.size + 1, 1, none⟩ = some (.slice a1 len1 cap1) ∧ v.cell? ⟨w.heap.size + 1, 2, none⟩ = some (.slice b1 m1 e1) := fun v hb => ⟨(C0.more hb).cells3.1, (C0.more hb).cells3.2.1, (C0.more hb).cells3.2.2.1, (C1.more hb).cells3.1, (C1.more hb).cells3.2.1, (C1.more hb).cells3.2.2.1⟩
    go_cut [9, 10] from 27 to 34 (fun s9 s10 wx => ∃ (k : Nat) (A : Option Addr) (C : Nat) (E : Option Addr) (D : Nat), s9 = .pointer (some ⟨k, 0, none⟩) ∧ s10 = .int .i64 EE ∧ BoxC wx k #[.bool gT, .slice A (nl NT) C, .slice E (nl DT) D] 24 ∧ (Own w wx (.slice A (nl NT) C) (nl NT) (natOf NT) ∧ Own w wx (.slice E (nl DT) D) (nl DT) (natOf DT)) ∧ Below V2.heap.size V2 wx)
    case first =>
      have bs0 : Below V2.heap.size V2 V2 := Below.refl _ _
      have bs : Below V2.heap.size V2 V2.drew := bs0.drew
      have hwV := bW.size
      go_region_held3 (fun v => v.cell? ⟨w.heap.size, 0, none⟩ = some (.bool s0) ∧ v.cell? ⟨w.heap.size, 1, none⟩ = some (.slice a0 len0 cap0) ∧ v.cell? ⟨w.heap.size, 2, none⟩ = some (.slice b0 m0 e0) ∧ v.cell? ⟨w.heap.size + 1, 0, none⟩ = some (.bool s1) ∧ v.cell? ⟨w.heap.size + 1, 1, none⟩ = some (.slice a1 len1 cap1) ∧ v.cell? ⟨w.heap.size + 1, 2, none⟩ = some (.slice b1 m1 e1))
        ((refine SO _ ?_; have hsz := bs.size; repeat' first | exact bs | exact bs0 | with_reducible refine Below.alloc ?_ ?_ _ | with_reducible refine Below.setCell ?_ ?_ _ | with_reducible refine Below.drew ?_ | exact hsz | exact Nat.le_refl _ | omega | (simp; done) | (simp; omega)))
        (first
        | (go_at_call 31; (with_reducible refine Calls.mono (ctM _ (below_more bW bs)) ?_); rintro e y1 ⟨A1, C1, E1, D1, rfl, q1⟩; clear ctM; replace bs := below_more bs q1.1.below)
        | (go_at_call 31; (with_reducible refine Calls.mono (ctM _ (below_more bW (bs0.alloc bs0.size _).drew)) ?_); rintro e y1 ⟨A1, C1, E1, D1, rfl, q1⟩; clear ctM; have P1 := (BoxC.new V2 #[.bool false, .slice none 0 0, .slice none 0 0] 24).drew.more q1.1.below; have hP := P1.lt; replace bs := below_more (bs0.alloc bs0.size (.cells #[.bool false, .slice none 0 0, .slice none 0 0] 24)).drew q1.1.below)
        | (go_at_call 24; (with_reducible refine Calls.mono (ctD _ _ _ _ _ _ q1 (below_more bW bs)) ?_); rintro e y2 ⟨A2, C2, E2, D2, rfl, q2⟩; have q2' := own2_outer q2 (below_more bW bs); have hz := bs.size; have hw := q2.1.below.size; replace bs := below_more bs q2.1.below; (try (have Q1 := P1.more q2.1.below; obtain ⟨f0, f1, f2, f3, f4, f5⟩ := Q1.cells3; have f6 := Q1.lt)))
        | (go_at_call 24; (with_reducible refine Calls.mono (ctD _ _ _ _ _ _ (own2_alloc q1 _) (below_more bW (bs.alloc bs.size _))) ?_); rintro e y2 ⟨A2, C2, E2, D2, rfl, q2⟩; have q2' := own2_outer q2 (below_more bW (bs.alloc bs.size (.cells #[.bool false, .slice none 0 0, .slice none 0 0] 24))); have hz := bs.size; replace bs := below_more (bs.alloc bs.size (.cells #[.bool false, .slice none 0 0, .slice none 0 0] 24)) q2.1.below; have R1 := (BoxC.new y1 #[.bool false, .slice none 0 0, .slice none 0 0] 24).more q2.1.below; obtain ⟨f0, f1, f2, f3, f4, f5⟩ := R1.cells3; have f6 := R1.lt))
      all_goals go_wp2_with fail
      all_goals go_meet
      all_goals clear SO ctD
      all_goals refine ⟨_, A2, C2, E2, D2, rfl, rfl, ?_, ?_, ?_⟩
      all_goals repeat' first | with_reducible assumption | with_reducible exact BoxC.new _ _ _ | with_reducible refine BoxC.rset ?_ | with_reducible refine own2_alloc ?_ _ | with_reducible refine own2_rbox ?_ ?_ ?_ | with_reducible refine Below.alloc ?_ ?_ _ | with_reducible refine Below.setCell ?_ ?_ _ | exact Nat.le_refl _ | omega | (simp only; omega)
    case rest =>
      obtain ⟨k9, A9, C9, E9, D9, rfl, rfl, B9, o9, b9⟩ := hcut
      clear SO ctM ctD
      replace C0 := C0.more b9
      replace C1 := C1.more b9
      replace BF := BF.more b9
      replace oF := own2_more oF b9
      replace B8 := B8.more b9
      replace o8 := own2_more o8 b9
      replace bW := below_more bW b9
      clear b9
      rename World => V3
      go_upto_region 8 with fail
      have SO : ∀ v, Below V3.heap.size V3 v → v.cell? ⟨w.heap.size, 0, none⟩ = some (.bool s0) ∧ v.cell? ⟨w.heap.size, 1, none⟩ = some (.slice a0 len0 cap0) ∧ v.cell? ⟨w.heap.size, 2, none⟩ = some (.slice b0 m0 e0) ∧ v.cell? ⟨w.heap.size + 1, 0, none⟩ = some (.bool s1) ∧ v.cell? ⟨w.heap.size + 1, 1, none⟩ = some (.slice a1 len1 cap1) ∧ v.cell? ⟨w.heap.size + 1, 2, none⟩ = some (.slice b1 m1 e1) ∧ v.cell? ⟨kf, 0, none⟩ = some (.bool gX) ∧ v.cell? ⟨kf, 1, none⟩ = some (.slice A3 (nl NX) C3) ∧ v.cell? ⟨kf, 2, none⟩ = some (.slice E3 (nl DX) D3) ∧ v.cell? ⟨k8, 0, none⟩ = some (.bool gX) ∧ v.cell? ⟨k8, 1, none⟩ = some (.slice A8 (nl NX) C8) ∧ v.cell? ⟨k8, 2, none⟩ = some (.slice E8 (nl DX) D8) ∧ v.cell? ⟨k9, 0, none⟩ = some (.bool gT) ∧ v.cell? ⟨k9, 1, none⟩ = some (.slice A9 (nl NT) C9) ∧ v.cell? ⟨k9, 2, none⟩ = some (.slice E9 (nl DT) D9) := fun v hb => ⟨(C0.more hb).cells3.1, (C0.more hb).cells3.2.1, (C0.more hb).cells3.2.2.1, (C1.more hb).cells3.1, (C1.more hb).cells3.2.1, (C1.more hb).cells3.2.2.1, (BF.more hb).cells3.1, (BF.more hb).cells3.2.1, (BF.more hb).cells3.2.2.1, (B8.more hb).cells3.1, (B8.more hb).cells3.2.1, (B8.more hb).cells3.2.2.1, (B9.more hb).cells3.1, (B9.more hb).cells3.2.1, (B9.more hb).cells3.2.2.1⟩
      have bs : Below V3.heap.size V3 V3.drew := (Below.refl _ _).drew
      have HB : Hid (Below w.heap.size w V3) := bW
      clear C0 C1 BF B8 B9
      go_region_held3 (fun v => v.cell? ⟨w.heap.size, 0, none⟩ = some (.bool s0) ∧ v.cell? ⟨w.heap.size, 1, none⟩ = some (.slice a0 len0 cap0) ∧ v.cell? ⟨w.heap.size, 2, none⟩ = some (.slice b0 m0 e0) ∧ v.cell? ⟨w.heap.size + 1, 0, none⟩ = some (.bool s1) ∧ v.cell? ⟨w.heap.size + 1, 1, none⟩ = some (.slice a1 len1 cap1) ∧ v.cell? ⟨w.heap.size + 1, 2, none⟩ = some (.slice b1 m1 e1))
        (exact ⟨(SO _ bs).1, (SO _ bs).2.1, (SO _ bs).2.2.1, (SO _ bs).2.2.2.1, (SO _ bs).2.2.2.2.1, (SO _ bs).2.2.2.2.2.1⟩)
        (first
        | (go_at_call 22; (with_reducible refine Calls.mono (ctO _) ?_); rintro e y5 ⟨A5, C5, E5, D5, rfl, q5⟩; replace bs := below_more bs q5.1.below)
        | (go_at_call 34; (with_reducible refine Calls.mono (ctZ _ _ _ _ _ _ q5 (below_more HB.out bs)) ?_); rintro e y6 ⟨rfl, q6⟩; replace bs := below_more bs q6))
      clear ctO ctZ q5 q6
      have bz := bs
      obtain ⟨r00, r01, r02, r10, r11, r12, r20, r21, r22, r30, r31, r32, r40, r41, r42⟩ := SO _ bs
      rcases (HE.out.imp id (fun h => (⟨h.1, h.2.1, h.2.2⟩ : zb = false ∧ EE = 0 ∧ Hid (gT = gX ∧ NT = NX ∧ DT = DX)))) with ⟨rfl, rfl⟩ | ⟨rfl, rfl, HQ⟩
      all_goals
        clear HE
        go_upto_region 11 with (first
          | (go_at_call 17; (with_reducible refine Calls.mono (ref_requal (own2_more o9 bs).1.words (own2_more o9 bs).2.words (own2_more oF bs).1.words (own2_more oF bs).2.words true (by rw [HQ.out.1, HQ.out.2.1, HQ.out.2.2]; simp)) ?_); rintro e y7 ⟨rfl, q7⟩; replace bz := below_more bz q7))
        replace bz := bz.drew
        go_region_held3 (fun v => v.cell? ⟨w.heap.size, 0, none⟩ = some (.bool s0) ∧ v.cell? ⟨w.heap.size, 1, none⟩ = some (.slice a0 len0 cap0) ∧ v.cell? ⟨w.heap.size, 2, none⟩ = some (.slice b0 m0 e0) ∧ v.cell? ⟨w.heap.size + 1, 0, none⟩ = some (.bool s1) ∧ v.cell? ⟨w.heap.size + 1, 1, none⟩ = some (.slice a1 len1 cap1) ∧ v.cell? ⟨w.heap.size + 1, 2, none⟩ = some (.slice b1 m1 e1) ∧ v.cell? ⟨kf, 0, none⟩ = some (.bool gX) ∧ v.cell? ⟨kf, 1, none⟩ = some (.slice A3 (nl NX) C3) ∧ v.cell? ⟨kf, 2, none⟩ = some (.slice E3 (nl DX) D3) ∧ v.cell? ⟨k8, 0, none⟩ = some (.bool gX) ∧ v.cell? ⟨k8, 1, none⟩ = some (.slice A8 (nl NX) C8) ∧ v.cell? ⟨k8, 2, none⟩ = some (.slice E8 (nl DX) D8) ∧ v.cell? ⟨k9, 0, none⟩ = some (.bool gT) ∧ v.cell? ⟨k9, 1, none⟩ = some (.slice A9 (nl NT) C9) ∧ v.cell? ⟨k9, 2, none⟩ = some (.slice E9 (nl DT) D9))
          (exact SO _ bz)
          (first
          | (go_at_call 17; (with_reducible refine Calls.mono (ref_reqt (own2_more o8 bz) (own2_more oF bz)) ?_); rintro e y8 ⟨rfl, q8⟩; replace bz := below_more bz q8; clear o8)
          | (go_at_call 15; (with_reducible refine Calls.mono (ctR _ _ _ _ _ _ (own2_more oF bz)) ?_); rintro e y9 ⟨rfl, q9⟩; replace bz := below_more bz q9; clear ctR)
          | (go_at_call 15; (with_reducible refine Calls.mono (ctQ _ (below_more HB.out bz)) ?_); rintro e y10 ⟨rfl, q10⟩; replace bz := below_more bz q10)
          | (go_at_call 17; (with_reducible refine Calls.mono (ctE _ _ _ _ _ _ (own2_more oF bz) (below_more HB.out bz)) ?_); rintro e y11 ⟨rfl, q11⟩; replace bz := below_more bz q11)
          | (go_at_call 34; (with_reducible refine Calls.mono (ctT _ _ _ _ _ _ (own2_more oF bz) (below_more HB.out bz)) ?_); rintro e y12 ⟨rfl, q12⟩; replace bz := below_more bz q12))
        all_goals
          go_wp2
          go_ret
          exact ⟨by simp, below_more HB.out bz⟩
end Go.Proofs.YtpimcbncmfpdhaaGreatDoor
/-
  Contracts of package whole (signed, Fix, Neg, Of, Right) for every Int of up to a hundred thousand words: as integers; memory that was there stays, and what is answered is the call's own.
-/
namespace Go.Proofs.YtpimcbncmfpdhaaGreatDoor
open Go.RowKit

theorem sign_nl (s : Bool) (m : Nat) : (s && decide (0 < nl m)) = decide (iv s m < 0) := by
  rw [iv_neg]
  congr 1
  rw [Bool.eq_iff_iff]; simp only [decide_eq_true_eq]
  constructor
  · intro h; rcases Nat.eq_zero_or_pos m with e | e
    · rw [e, nl_zero] at h; omega
    · exact e
  · exact nl_pos

set_option maxHeartbeats 2000000 in
theorem whole_signed (s : Bool) (a : Option Addr) (n c : Nat) (w : World) (r : Bool) (hr : (s && decide (0 < n)) = r) :
    Calls Tryz.prog 86 #[.bool s, .slice a n c] w fun e w' => e = .returned (.agg #[.bool r, .slice a n c]) ∧ Below w.heap.size w w' := by
  cases s
  case' false => obtain ⟨r', HR⟩ : ∃ r' : Bool, Hid (r = false) := ⟨false, by rw [← hr]; exact (rfl : false = false)⟩
  case' true => obtain ⟨r', HR⟩ : ∃ r' : Bool, Hid (r = decide (0 < n)) := ⟨false, by rw [← hr]; exact (rfl : decide (0 < n) = decide (0 < n))⟩
  all_goals
    clear hr
    have q := fun o => (Below.refl _ w).alloc (Nat.le_refl _) o
    go_enter Tryz.func86, Tryz.ntmps86
    go_wp2
    exact bodyPost_ret (v := .agg #[.bool r, .slice a n c]) (by simp [results, Tryz.results86, go_sem, HR.out]) rfl ⟨by rw [HR.out], q _⟩

set_option maxHeartbeats 4000000 in
theorem whole_fix {s : Bool} {a : Option Addr} {n c : Nat} {x : Int} {w : World} (h : RI w s a n c x) :
    Calls Tryz.prog 104 #[.agg #[.bool s, .slice a n c]] w (AnsI w x) := by
  obtain ⟨zs, h, hz, hn, rfl⟩ := h
  skip
  have T := fun v (hb : Below w.heap.size w v) => nat_trim' (h.below hb) hz (by omega) _ rfl
  unfold Ans at T
  have G := fun v a1 c1 => whole_signed (s) a1 (nl (val zs)) c1 v _ (sign_nl (s) (val zs))
  unfold AnsI
  rw [iv_abs]
  generalize decide (iv (s) (val zs) < 0) = r at G ⊢
  generalize val zs = N at T G ⊢
  clear h hz hn
  obtain ⟨b1, b2, bV, hs⟩ := boxes2 w #[.bool s, .slice a n c] #[.bool false, .slice none 0 0] 26 26
  go_enter Tryz.func104, Tryz.ntmps104
  go_wp2
  generalize (w.alloc (.cells #[.bool s, .slice a n c] 26)).alloc (.cells #[.bool false, .slice none 0 0] 26) = V at *
  have SO : ∀ v, Below V.heap.size V v → v.cell? ⟨w.heap.size, 0, none⟩ = some (.bool s) ∧ v.cell? ⟨w.heap.size, 1, none⟩ = some (.slice a n c) := fun v hb => ⟨(b1.more hb).cells2.1, (b1.more hb).cells2.2.1⟩
  have SR : ∀ v x y, Below V.heap.size V v → ((v.setCell ⟨w.heap.size + 1, 0, none⟩ x).setCell ⟨w.heap.size + 1, 1, none⟩ y).cell? ⟨w.heap.size, 0, none⟩ = some (.bool s) ∧ ((v.setCell ⟨w.heap.size + 1, 0, none⟩ x).setCell ⟨w.heap.size + 1, 1, none⟩ y).cell? ⟨w.heap.size, 1, none⟩ = some (.slice a n c) := fun v x y hb => ⟨(((b1.more hb).other (g := w.heap.size + 1) (i := 0) (by omega) x).other (g := w.heap.size + 1) (i := 1) (by omega) y).cells2.1, (((b1.more hb).other (g := w.heap.size + 1) (i := 0) (by omega) x).other (g := w.heap.size + 1) (i := 1) (by omega) y).cells2.2.1⟩
  have bs : Below V.heap.size V V.drew := (Below.refl _ _).drew
  go_region_held3 (fun v => v.cell? ⟨w.heap.size, 0, none⟩ = some (.bool s) ∧ v.cell? ⟨w.heap.size, 1, none⟩ = some (.slice a n c))
    (first | exact SO _ bs | exact SR _ _ _ bs)
    (first
    | (go_at_call 128; (with_reducible refine Calls.mono (T _ bV.drew) ?_); rintro e w1 ⟨a1, c1, rfl, o1⟩; replace bs := below_more bs o1.below)
    | (go_at_call 86; (with_reducible refine Calls.mono (G _ _ _) ?_); rintro e w2 ⟨rfl, d2⟩; replace bs := below_more bs d2; obtain ⟨y0, y1, f0, f1⟩ := (b2.more bs).cells2))
  have q := fun x y => ((o1.more d2).above bV.drew).set (k := w.heap.size + 1) (by omega) hs 0 x |>.set (k := w.heap.size + 1) (by omega) hs 1 y
  go_wp2
  exact bodyPost_ret (v := .agg #[.bool r, .slice a1 (nl N) c1]) (by simp [results, Tryz.results104, go_sem, y0, y1]) rfl ⟨a1, c1, rfl, (q _ _).own bV.size⟩

set_option maxHeartbeats 2000000 in
theorem whole_of (n : Int) (w : World) (h0 : -9223372036854775808 ≤ n) (h1 : n < 9223372036854775808) :
    Calls Tryz.prog 53 #[.int .i64 n] w (AnsI w n) := by
  obtain ⟨b1, bV, hs⟩ := boxes1 w #[.bool false, .slice none 0 0] 26
  have e0 := iv_self n
  have G := fun v a1 c1 => whole_signed (decide (n < 0)) a1 (nl n.natAbs) c1 v _ (by rw [sign_nl (decide (n < 0)) n.natAbs, e0])
  clear e0
  rcases Int.lt_or_le n 0 with h | h
  case' inl =>
    have O := fun v => nat_of (-n) v (by omega) (by omega)
    have e1 : IntKind.u64.wrap n = n + 18446744073709551616 := by simp [IntKind.wrap, IntKind.bits, IntKind.signed]; omega
    have e2 : IntKind.u64.wrap (0 - (n + 18446744073709551616)) = -n := by simp [IntKind.wrap, IntKind.bits, IntKind.signed]; omega
    have e3 : IntKind.u64.wrap (-(n + 18446744073709551616)) = -n := by simp [IntKind.wrap, IntKind.bits, IntKind.signed]; omega
    rw [show (-n).toNat = n.natAbs by omega] at O
    unfold AnsI
    rw [decide_eq_true h] at G ⊢
    obtain ⟨r, hr⟩ : ∃ r : Bool, r = true := ⟨_, rfl⟩
  case' inr =>
    have O := fun v => nat_of n v (by omega) (by omega)
    have e1 : IntKind.u64.wrap n = n := by simp [IntKind.wrap, IntKind.bits, IntKind.signed]; omega
    rw [show n.toNat = n.natAbs by omega] at O
    unfold AnsI
    rw [decide_eq_false (by omega : ¬ n < 0)] at G ⊢
    obtain ⟨r, hr⟩ : ∃ r : Bool, r = false := ⟨_, rfl⟩
  all_goals
    unfold Ans at O
    generalize n.natAbs = N at O G ⊢
    go_enter Tryz.func53, Tryz.ntmps53
    go_wp2_with (first
      | (go_at_call 54; (with_reducible refine Calls.mono (O _) ?_); rintro e w1 ⟨a1, c1, rfl, o1⟩)
      | (go_at_call 86; (with_reducible refine Calls.mono (G _ _ _) ?_); rintro e w2 ⟨rfl, d2⟩; obtain ⟨y0, y1, g0, g1⟩ := ((b1.more o1.below).more d2).cells2))
    have q := fun x y => (((o1.more d2).above bV).set (k := w.heap.size) (by omega) hs 0 x).set (k := w.heap.size) (by omega) hs 1 y
    exact bodyPost_ret (v := .agg #[.bool r, .slice a1 (nl N) c1]) (by simp [results, Tryz.results53, go_sem, y0, y1, hr]) rfl ⟨a1, c1, by rw [hr], (q _ _).own (by omega)⟩

end Go.Proofs.YtpimcbncmfpdhaaGreatDoor
/-
  Contracts of package whole (less, over, sum, done, Add, Sub, Mul) for every Int of up to a hundred thousand words: as integers; memory that was there stays, and what is answered is the call's own.
-/
namespace Go.Proofs.YtpimcbncmfpdhaaGreatDoor
open Go.RowKit

theorem boxes4 (w : World) (cs ds es fs : Array Value) (T U X Y : TypeId) :
    BoxC ((((w.alloc (.cells cs T)).alloc (.cells ds U)).alloc (.cells es X)).alloc (.cells fs Y)) w.heap.size cs T ∧ BoxC ((((w.alloc (.cells cs T)).alloc (.cells ds U)).alloc (.cells es X)).alloc (.cells fs Y)) (w.heap.size + 1) ds U ∧ BoxC ((((w.alloc (.cells cs T)).alloc (.cells ds U)).alloc (.cells es X)).alloc (.cells fs Y)) (w.heap.size + 1 + 1) es X ∧ BoxC ((((w.alloc (.cells cs T)).alloc (.cells ds U)).alloc (.cells es X)).alloc (.cells fs Y)) (w.heap.size + 1 + 1 + 1) fs Y ∧
    Below w.heap.size w ((((w.alloc (.cells cs T)).alloc (.cells ds U)).alloc (.cells es X)).alloc (.cells fs Y)) ∧ w.heap.size + 1 + 1 + 1 < ((((w.alloc (.cells cs T)).alloc (.cells ds U)).alloc (.cells es X)).alloc (.cells fs Y)).heap.size := by
  obtain ⟨h1, h2, h3, h4, h5⟩ := boxes3 w cs ds es T U X
  have b4 := BoxC.new (((w.alloc (.cells cs T)).alloc (.cells ds U)).alloc (.cells es X)) fs Y
  rw [World.size_alloc, World.size_alloc, World.size_alloc] at b4
  exact ⟨h1.alloc _, h2.alloc _, h3.alloc _, b4, h4.alloc (by simp; omega) _, by simp⟩

theorem whole_less {a : Option Addr} {n c : Nat} {zs : List Int} {b : Option Addr} {m d : Nat} {ys : List Int} {w : World} (h : IsWords w (.slice a n c) zs) (hz : Wd zs) (g : IsWords w (.slice b m d) ys) (gz : Wd ys)
    (hn : n ≤ 1000000000000) (N : Nat) (hN : N + val ys = val zs) : Calls Tryz.prog 148 #[.slice a n c, .slice b m d] w (Ans w N) := by
  have S := nat_sub' h hz g gz hn N hN
  unfold AnsOk at S
  unfold Ans
  clear h hz g gz hn hN
  go_enter Tryz.func148, Tryz.ntmps148
  go_wp2_with (go_at_call 169; (with_reducible refine Calls.mono S ?_); rintro e w1 ⟨a1, c1, rfl, o1⟩)
  go_ret
  exact ⟨a1, c1, rfl, o1⟩
theorem whole_over {a : Option Addr} {n c : Nat} {zs : List Int} {b : Option Addr} {m d : Nat} {ys : List Int} {w : World} (h : IsWords w (.slice a n c) zs) (hz : Wd zs) (g : IsWords w (.slice b m d) ys) (gz : Wd ys)
    (hm : m ≤ 1000000000000) (N : Nat) (hN : N + val zs = val ys) : Calls Tryz.prog 147 #[.slice a n c, .slice b m d] w (Ans w N) := by
  have S := whole_less g gz h hz hm N hN
  unfold Ans at S ⊢
  clear h hz g gz hm hN
  go_enter Tryz.func147, Tryz.ntmps147
  go_wp2_with (go_at_call 148; (with_reducible refine Calls.mono S ?_); rintro e w1 ⟨a1, c1, rfl, o1⟩)
  go_ret
  exact ⟨a1, c1, rfl, o1⟩

set_option maxHeartbeats 4000000 in
theorem done_add {s : Bool} {a : Option Addr} {n c : Nat} {t : Bool} {b : Option Addr} {m d : Nat} {w : World} (g : Bool) (N : Nat) (z : Int) (hz : iv g N = z)
    (HF : ∀ v, Below w.heap.size w v → Calls Tryz.prog 146 #[.slice a n c, .slice b m d] v (Ans v N)) :
    Calls Tryz.prog 117 #[.agg #[.bool g, .func (.func 146) #[] #[]], .agg #[.bool s, .slice a n c], .agg #[.bool t, .slice b m d]] w (AnsI w z) := by
  subst hz
  unfold Ans at HF
  have G := fun v a1 c1 => whole_signed g a1 (nl N) c1 v _ (sign_nl g N)
  unfold AnsI
  rw [iv_abs]
  generalize decide (iv g N < 0) = r at G ⊢
  obtain ⟨b0, b1, b2, b3, bV, hs⟩ := boxes4 w #[.bool g, .func (.func 146) #[] #[]] #[.bool s, .slice a n c] #[.bool t, .slice b m d] #[.bool false, .slice none 0 0] 112 26 26 26
  go_enter Tryz.func117, Tryz.ntmps117
  go_wp2
  generalize (((w.alloc (.cells #[.bool g, .func (.func 146) #[] #[]] 112)).alloc (.cells #[.bool s, .slice a n c] 26)).alloc (.cells #[.bool t, .slice b m d] 26)).alloc (.cells #[.bool false, .slice none 0 0] 26) = V at *
  have SO : ∀ v, Below V.heap.size V v → v.cell? ⟨w.heap.size, 0, none⟩ = some (.bool g) ∧ v.cell? ⟨w.heap.size, 1, none⟩ = some (.func (.func 146) #[] #[]) ∧ v.cell? ⟨w.heap.size + 1, 1, none⟩ = some (.slice a n c) ∧ v.cell? ⟨w.heap.size + 1 + 1, 1, none⟩ = some (.slice b m d) := fun v hb => ⟨(b0.more hb).cells2.1, (b0.more hb).cells2.2.1, (b1.more hb).cells2.2.1, (b2.more hb).cells2.2.1⟩
  have SR : ∀ u x y, Below V.heap.size V u → ∀ v, v = (u.setCell ⟨w.heap.size + 1 + 1 + 1, 0, none⟩ x).setCell ⟨w.heap.size + 1 + 1 + 1, 1, none⟩ y → v.cell? ⟨w.heap.size, 0, none⟩ = some (.bool g) ∧ v.cell? ⟨w.heap.size, 1, none⟩ = some (.func (.func 146) #[] #[]) ∧ v.cell? ⟨w.heap.size + 1, 1, none⟩ = some (.slice a n c) ∧ v.cell? ⟨w.heap.size + 1 + 1, 1, none⟩ = some (.slice b m d) := fun u x y hb v e => by
    subst e
    exact ⟨(((b0.more hb).other (g := w.heap.size + 1 + 1 + 1) (i := 0) (by omega) x).other (g := w.heap.size + 1 + 1 + 1) (i := 1) (by omega) y).cells2.1, (((b0.more hb).other (g := w.heap.size + 1 + 1 + 1) (i := 0) (by omega) x).other (g := w.heap.size + 1 + 1 + 1) (i := 1) (by omega) y).cells2.2.1, (((b1.more hb).other (g := w.heap.size + 1 + 1 + 1) (i := 0) (by omega) x).other (g := w.heap.size + 1 + 1 + 1) (i := 1) (by omega) y).cells2.2.1, (((b2.more hb).other (g := w.heap.size + 1 + 1 + 1) (i := 0) (by omega) x).other (g := w.heap.size + 1 + 1 + 1) (i := 1) (by omega) y).cells2.2.1⟩
  have bs : Below V.heap.size V V.drew := (Below.refl _ _).drew
  go_region_held3 (fun v => v.cell? ⟨w.heap.size, 0, none⟩ = some (.bool g) ∧ v.cell? ⟨w.heap.size, 1, none⟩ = some (.func (.func 146) #[] #[]) ∧ v.cell? ⟨w.heap.size + 1, 1, none⟩ = some (.slice a n c) ∧ v.cell? ⟨w.heap.size + 1 + 1, 1, none⟩ = some (.slice b m d))
    (first | exact SO _ bs | exact SR _ _ _ bs _ rfl)
    (first
    | (go_at_call 146; (with_reducible refine Calls.mono (HF _ bV.drew) ?_); rintro e w1 ⟨a1, c1, rfl, o1⟩; replace bs := below_more bs o1.below)
    | (go_at_call 86; (with_reducible refine Calls.mono (G _ _ _) ?_); rintro e w2 ⟨rfl, d2⟩; replace bs := below_more bs d2; obtain ⟨y0, y1, f0, f1⟩ := (b3.more bs).cells2))
  have q := fun x y => ((o1.more d2).above bV.drew).set (k := w.heap.size + 1 + 1 + 1) (by omega) hs 0 x |>.set (k := w.heap.size + 1 + 1 + 1) (by omega) hs 1 y
  go_wp2
  exact bodyPost_ret (v := .agg #[.bool r, .slice a1 (nl N) c1]) (by simp [results, Tryz.results117, go_sem, y0, y1]) rfl ⟨a1, c1, rfl, (q _ _).own bV.size⟩

set_option maxHeartbeats 4000000 in
theorem done_over {s : Bool} {a : Option Addr} {n c : Nat} {t : Bool} {b : Option Addr} {m d : Nat} {w : World} (g : Bool) (N : Nat) (z : Int) (hz : iv g N = z)
    (HF : ∀ v, Below w.heap.size w v → Calls Tryz.prog 147 #[.slice a n c, .slice b m d] v (Ans v N)) :
    Calls Tryz.prog 117 #[.agg #[.bool g, .func (.func 147) #[] #[]], .agg #[.bool s, .slice a n c], .agg #[.bool t, .slice b m d]] w (AnsI w z) := by
  subst hz
  unfold Ans at HF
  have G := fun v a1 c1 => whole_signed g a1 (nl N) c1 v _ (sign_nl g N)
  unfold AnsI
  rw [iv_abs]
  generalize decide (iv g N < 0) = r at G ⊢
  obtain ⟨b0, b1, b2, b3, bV, hs⟩ := boxes4 w #[.bool g, .func (.func 147) #[] #[]] #[.bool s, .slice a n c] #[.bool t, .slice b m d] #[.bool false, .slice none 0 0] 112 26 26 26
  go_enter Tryz.func117, Tryz.ntmps117
  go_wp2
  generalize (((w.alloc (.cells #[.bool g, .func (.func 147) #[] #[]] 112)).alloc (.cells #[.bool s, .slice a n c] 26)).alloc (.cells #[.bool t, .slice b m d] 26)).alloc (.cells #[.bool false, .slice none 0 0] 26) = V at *
  have SO : ∀ v, Below V.heap.size V v → v.cell? ⟨w.heap.size, 0, none⟩ = some (.bool g) ∧ v.cell? ⟨w.heap.size, 1, none⟩ = some (.func (.func 147) #[] #[]) ∧ v.cell? ⟨w.heap.size + 1, 1, none⟩ = some (.slice a n c) ∧ v.cell? ⟨w.heap.size + 1 + 1, 1, none⟩ = some (.slice b m d) := fun v hb => ⟨(b0.more hb).cells2.1, (b0.more hb).cells2.2.1, (b1.more hb).cells2.2.1, (b2.more hb).cells2.2.1⟩
  have SR : ∀ u x y, Below V.heap.size V u → ∀ v, v = (u.setCell ⟨w.heap.size + 1 + 1 + 1, 0, none⟩ x).setCell ⟨w.heap.size + 1 + 1 + 1, 1, none⟩ y → v.cell? ⟨w.heap.size, 0, none⟩ = some (.bool g) ∧ v.cell? ⟨w.heap.size, 1, none⟩ = some (.func (.func 147) #[] #[]) ∧ v.cell? ⟨w.heap.size + 1, 1, none⟩ = some (.slice a n c) ∧ v.cell? ⟨w.heap.size + 1 + 1, 1, none⟩ = some (.slice b m d) := fun u x y hb v e => by
    subst e
    exact ⟨(((b0.more hb).other (g := w.heap.size + 1 + 1 + 1) (i := 0) (by omega) x).other (g := w.heap.size + 1 + 1 + 1) (i := 1) (by omega) y).cells2.1, (((b0.more hb).other (g := w.heap.size + 1 + 1 + 1) (i := 0) (by omega) x).other (g := w.heap.size + 1 + 1 + 1) (i := 1) (by omega) y).cells2.2.1, (((b1.more hb).other (g := w.heap.size + 1 + 1 + 1) (i := 0) (by omega) x).other (g := w.heap.size + 1 + 1 + 1) (i := 1) (by omega) y).cells2.2.1, (((b2.more hb).other (g := w.heap.size + 1 + 1 + 1) (i := 0) (by omega) x).other (g := w.heap.size + 1 + 1 + 1) (i := 1) (by omega) y).cells2.2.1⟩
  have bs : Below V.heap.size V V.drew := (Below.refl _ _).drew
  go_region_held3 (fun v => v.cell? ⟨w.heap.size, 0, none⟩ = some (.bool g) ∧ v.cell? ⟨w.heap.size, 1, none⟩ = some (.func (.func 147) #[] #[]) ∧ v.cell? ⟨w.heap.size + 1, 1, none⟩ = some (.slice a n c) ∧ v.cell? ⟨w.heap.size + 1 + 1, 1, none⟩ = some (.slice b m d))
    (first | exact SO _ bs | exact SR _ _ _ bs _ rfl)
    (first
    | (go_at_call 147; (with_reducible refine Calls.mono (HF _ bV.drew) ?_); rintro e w1 ⟨a1, c1, rfl, o1⟩; replace bs := below_more bs o1.below)
    | (go_at_call 86; (with_reducible refine Calls.mono (G _ _ _) ?_); rintro e w2 ⟨rfl, d2⟩; replace bs := below_more bs d2; obtain ⟨y0, y1, f0, f1⟩ := (b3.more bs).cells2))
  have q := fun x y => ((o1.more d2).above bV.drew).set (k := w.heap.size + 1 + 1 + 1) (by omega) hs 0 x |>.set (k := w.heap.size + 1 + 1 + 1) (by omega) hs 1 y
  go_wp2
  exact bodyPost_ret (v := .agg #[.bool r, .slice a1 (nl N) c1]) (by simp [results, Tryz.results117, go_sem, y0, y1]) rfl ⟨a1, c1, rfl, (q _ _).own bV.size⟩

set_option maxHeartbeats 4000000 in
theorem done_less {s : Bool} {a : Option Addr} {n c : Nat} {t : Bool} {b : Option Addr} {m d : Nat} {w : World} (g : Bool) (N : Nat) (z : Int) (hz : iv g N = z)
    (HF : ∀ v, Below w.heap.size w v → Calls Tryz.prog 148 #[.slice a n c, .slice b m d] v (Ans v N)) :
    Calls Tryz.prog 117 #[.agg #[.bool g, .func (.func 148) #[] #[]], .agg #[.bool s, .slice a n c], .agg #[.bool t, .slice b m d]] w (AnsI w z) := by
  subst hz
  unfold Ans at HF
  have G := fun v a1 c1 => whole_signed g a1 (nl N) c1 v _ (sign_nl g N)
  unfold AnsI
  rw [iv_abs]
  generalize decide (iv g N < 0) = r at G ⊢
  obtain ⟨b0, b1, b2, b3, bV, hs⟩ := boxes4 w #[.bool g, .func (.func 148) #[] #[]] #[.bool s, .slice a n c] #[.bool t, .slice b m d] #[.bool false, .slice none 0 0] 112 26 26 26
  go_enter Tryz.func117, Tryz.ntmps117
  go_wp2
  generalize (((w.alloc (.cells #[.bool g, .func (.func 148) #[] #[]] 112)).alloc (.cells #[.bool s, .slice a n c] 26)).alloc (.cells #[.bool t, .slice b m d] 26)).alloc (.cells #[.bool false, .slice none 0 0] 26) = V at *
  have SO : ∀ v, Below V.heap.size V v → v.cell? ⟨w.heap.size, 0, none⟩ = some (.bool g) ∧ v.cell? ⟨w.heap.size, 1, none⟩ = some (.func (.func 148) #[] #[]) ∧ v.cell? ⟨w.heap.size + 1, 1, none⟩ = some (.slice a n c) ∧ v.cell? ⟨w.heap.size + 1 + 1, 1, none⟩ = some (.slice b m d) := fun v hb => ⟨(b0.more hb).cells2.1, (b0.more hb).cells2.2.1, (b1.more hb).cells2.2.1, (b2.more hb).cells2.2.1⟩
  have SR : ∀ u x y, Below V.heap.size V u → ∀ v, v = (u.setCell ⟨w.heap.size + 1 + 1 + 1, 0, none⟩ x).setCell ⟨w.heap.size + 1 + 1 + 1, 1, none⟩ y → v.cell? ⟨w.heap.size, 0, none⟩ = some (.bool g) ∧ v.cell? ⟨w.heap.size, 1, none⟩ = some (.func (.func 148) #[] #[]) ∧ v.cell? ⟨w.heap.size + 1, 1, none⟩ = some (.slice a n c) ∧ v.cell? ⟨w.heap.size + 1 + 1, 1, none⟩ = some (.slice b m d) := fun u x y hb v e => by
    subst e
    exact ⟨(((b0.more hb).other (g := w.heap.size + 1 + 1 + 1) (i := 0) (by omega) x).other (g := w.heap.size + 1 + 1 + 1) (i := 1) (by omega) y).cells2.1, (((b0.more hb).other (g := w.heap.size + 1 + 1 + 1) (i := 0) (by omega) x).other (g := w.heap.size + 1 + 1 + 1) (i := 1) (by omega) y).cells2.2.1, (((b1.more hb).other (g := w.heap.size + 1 + 1 + 1) (i := 0) (by omega) x).other (g := w.heap.size + 1 + 1 + 1) (i := 1) (by omega) y).cells2.2.1, (((b2.more hb).other (g := w.heap.size + 1 + 1 + 1) (i := 0) (by omega) x).other (g := w.heap.size + 1 + 1 + 1) (i := 1) (by omega) y).cells2.2.1⟩
  have bs : Below V.heap.size V V.drew := (Below.refl _ _).drew
  go_region_held3 (fun v => v.cell? ⟨w.heap.size, 0, none⟩ = some (.bool g) ∧ v.cell? ⟨w.heap.size, 1, none⟩ = some (.func (.func 148) #[] #[]) ∧ v.cell? ⟨w.heap.size + 1, 1, none⟩ = some (.slice a n c) ∧ v.cell? ⟨w.heap.size + 1 + 1, 1, none⟩ = some (.slice b m d))
    (first | exact SO _ bs | exact SR _ _ _ bs _ rfl)
    (first
    | (go_at_call 148; (with_reducible refine Calls.mono (HF _ bV.drew) ?_); rintro e w1 ⟨a1, c1, rfl, o1⟩; replace bs := below_more bs o1.below)
    | (go_at_call 86; (with_reducible refine Calls.mono (G _ _ _) ?_); rintro e w2 ⟨rfl, d2⟩; replace bs := below_more bs d2; obtain ⟨y0, y1, f0, f1⟩ := (b3.more bs).cells2))
  have q := fun x y => ((o1.more d2).above bV.drew).set (k := w.heap.size + 1 + 1 + 1) (by omega) hs 0 x |>.set (k := w.heap.size + 1 + 1 + 1) (by omega) hs 1 y
  go_wp2
  exact bodyPost_ret (v := .agg #[.bool r, .slice a1 (nl N) c1]) (by simp [results, Tryz.results117, go_sem, y0, y1]) rfl ⟨a1, c1, rfl, (q _ _).own bV.size⟩

set_option maxHeartbeats 4000000 in
theorem done_mul {s : Bool} {a : Option Addr} {n c : Nat} {t : Bool} {b : Option Addr} {m d : Nat} {w : World} (g : Bool) (N : Nat) (z : Int) (hz : iv g N = z)
    (HF : ∀ v, Below w.heap.size w v → Calls Tryz.prog 89 #[.slice a n c, .slice b m d] v (Ans v N)) :
    Calls Tryz.prog 117 #[.agg #[.bool g, .func (.func 89) #[] #[]], .agg #[.bool s, .slice a n c], .agg #[.bool t, .slice b m d]] w (AnsI w z) := by
  subst hz
  unfold Ans at HF
  have G := fun v a1 c1 => whole_signed g a1 (nl N) c1 v _ (sign_nl g N)
  unfold AnsI
  rw [iv_abs]
  generalize decide (iv g N < 0) = r at G ⊢
  obtain ⟨b0, b1, b2, b3, bV, hs⟩ := boxes4 w #[.bool g, .func (.func 89) #[] #[]] #[.bool s, .slice a n c] #[.bool t, .slice b m d] #[.bool false, .slice none 0 0] 112 26 26 26
  go_enter Tryz.func117, Tryz.ntmps117
  go_wp2
  generalize (((w.alloc (.cells #[.bool g, .func (.func 89) #[] #[]] 112)).alloc (.cells #[.bool s, .slice a n c] 26)).alloc (.cells #[.bool t, .slice b m d] 26)).alloc (.cells #[.bool false, .slice none 0 0] 26) = V at *
  have SO : ∀ v, Below V.heap.size V v → v.cell? ⟨w.heap.size, 0, none⟩ = some (.bool g) ∧ v.cell? ⟨w.heap.size, 1, none⟩ = some (.func (.func 89) #[] #[]) ∧ v.cell? ⟨w.heap.size + 1, 1, none⟩ = some (.slice a n c) ∧ v.cell? ⟨w.heap.size + 1 + 1, 1, none⟩ = some (.slice b m d) := fun v hb => ⟨(b0.more hb).cells2.1, (b0.more hb).cells2.2.1, (b1.more hb).cells2.2.1, (b2.more hb).cells2.2.1⟩
  have SR : ∀ u x y, Below V.heap.size V u → ∀ v, v = (u.setCell ⟨w.heap.size + 1 + 1 + 1, 0, none⟩ x).setCell ⟨w.heap.size + 1 + 1 + 1, 1, none⟩ y → v.cell? ⟨w.heap.size, 0, none⟩ = some (.bool g) ∧ v.cell? ⟨w.heap.size, 1, none⟩ = some (.func (.func 89) #[] #[]) ∧ v.cell? ⟨w.heap.size + 1, 1, none⟩ = some (.slice a n c) ∧ v.cell? ⟨w.heap.size + 1 + 1, 1, none⟩ = some (.slice b m d) := fun u x y hb v e => by
    subst e
    exact ⟨(((b0.more hb).other (g := w.heap.size + 1 + 1 + 1) (i := 0) (by omega) x).other (g := w.heap.size + 1 + 1 + 1) (i := 1) (by omega) y).cells2.1, (((b0.more hb).other (g := w.heap.size + 1 + 1 + 1) (i := 0) (by omega) x).other (g := w.heap.size + 1 + 1 + 1) (i := 1) (by omega) y).cells2.2.1, (((b1.more hb).other (g := w.heap.size + 1 + 1 + 1) (i := 0) (by omega) x).other (g := w.heap.size + 1 + 1 + 1) (i := 1) (by omega) y).cells2.2.1, (((b2.more hb).other (g := w.heap.size + 1 + 1 + 1) (i := 0) (by omega) x).other (g := w.heap.size + 1 + 1 + 1) (i := 1) (by omega) y).cells2.2.1⟩
  have bs : Below V.heap.size V V.drew := (Below.refl _ _).drew
  go_region_held3 (fun v => v.cell? ⟨w.heap.size, 0, none⟩ = some (.bool g) ∧ v.cell? ⟨w.heap.size, 1, none⟩ = some (.func (.func 89) #[] #[]) ∧ v.cell? ⟨w.heap.size + 1, 1, none⟩ = some (.slice a n c) ∧ v.cell? ⟨w.heap.size + 1 + 1, 1, none⟩ = some (.slice b m d))
    (first | exact SO _ bs | exact SR _ _ _ bs _ rfl)
    (first
    | (go_at_call 89; (with_reducible refine Calls.mono (HF _ bV.drew) ?_); rintro e w1 ⟨a1, c1, rfl, o1⟩; replace bs := below_more bs o1.below)
    | (go_at_call 86; (with_reducible refine Calls.mono (G _ _ _) ?_); rintro e w2 ⟨rfl, d2⟩; replace bs := below_more bs d2; obtain ⟨y0, y1, f0, f1⟩ := (b3.more bs).cells2))
  have q := fun x y => ((o1.more d2).above bV.drew).set (k := w.heap.size + 1 + 1 + 1) (by omega) hs 0 x |>.set (k := w.heap.size + 1 + 1 + 1) (by omega) hs 1 y
  go_wp2
  exact bodyPost_ret (v := .agg #[.bool r, .slice a1 (nl N) c1]) (by simp [results, Tryz.results117, go_sem, y0, y1]) rfl ⟨a1, c1, rfl, (q _ _).own bV.size⟩

set_option maxHeartbeats 4000000 in
theorem sum_add {s : Bool} {a : Option Addr} {n c : Nat} {t : Bool} {b : Option Addr} {m d : Nat} {w : World} (hst : s = t) :
    Calls Tryz.prog 122 #[.agg #[.bool s, .slice a n c], .agg #[.bool t, .slice b m d]] w fun e w' => e = .returned (.agg #[.bool s, .func (.func 146) #[] #[]]) ∧ Below w.heap.size w w' := by
  subst hst
  have he : (s == s) = true := by simp
  obtain ⟨b1, b2, b3, bV, hs⟩ := boxes3 w #[.bool s, .slice a n c] #[.bool s, .slice b m d] #[.bool false, .nilFunc] 26 26 112
  obtain ⟨x0, x1, -, -⟩ := b1.cells2
  obtain ⟨y0, y1, -, -⟩ := b2.cells2
  obtain ⟨z0, z1, f0, f1⟩ := b3.cells2
  go_enter Tryz.func122, Tryz.ntmps122
  go_wp2_with (go_at_call 76; (with_reducible refine Calls.mono (C _ bV) ?_); rintro e w1 ⟨rfl, b4⟩; obtain ⟨x0, x1, -, -⟩ := (b1.more b4).cells2; obtain ⟨y0, y1, -, -⟩ := (b2.more b4).cells2; obtain ⟨z0, z1, f0, f1⟩ := (b3.more b4).cells2)
  exact bodyPost_ret (v := .agg #[.bool _, .func (.func 146) #[] #[]]) (by simp [results, Tryz.results122, go_sem]) rfl ⟨rfl, (boxes2 w _ _ _ _).2.2.1.alloc (boxes2 w _ _ _ _).2.2.1.size _⟩

set_option maxHeartbeats 4000000 in
theorem sum_over {s : Bool} {a : Option Addr} {n c : Nat} {t : Bool} {b : Option Addr} {m d : Nat} {w : World} {cc : Int} (hst : s ≠ t) (C : ∀ v, Below w.heap.size w v → Calls Tryz.prog 76 #[.slice a n c, .slice b m d] v fun e w' => e = .returned (.int .i64 cc) ∧ Below v.heap.size v w') (hc : cc < 0) :
    Calls Tryz.prog 122 #[.agg #[.bool s, .slice a n c], .agg #[.bool t, .slice b m d]] w fun e w' => e = .returned (.agg #[.bool t, .func (.func 147) #[] #[]]) ∧ Below w.heap.size w w' := by
  have he : (s == t) = false := by simp [hst]
  obtain ⟨b1, b2, b3, bV, hs⟩ := boxes3 w #[.bool s, .slice a n c] #[.bool t, .slice b m d] #[.bool false, .nilFunc] 26 26 112
  obtain ⟨x0, x1, -, -⟩ := b1.cells2
  obtain ⟨y0, y1, -, -⟩ := b2.cells2
  obtain ⟨z0, z1, f0, f1⟩ := b3.cells2
  go_enter Tryz.func122, Tryz.ntmps122
  go_wp2_with (go_at_call 76; (with_reducible refine Calls.mono (C _ bV) ?_); rintro e w1 ⟨rfl, b4⟩; obtain ⟨x0, x1, -, -⟩ := (b1.more b4).cells2; obtain ⟨y0, y1, -, -⟩ := (b2.more b4).cells2; obtain ⟨z0, z1, f0, f1⟩ := (b3.more b4).cells2)
  exact bodyPost_ret (v := .agg #[.bool _, .func (.func 147) #[] #[]]) (by simp [results, Tryz.results122, go_sem, z0, z1]) rfl ⟨rfl, (below_more bV b4).setCell (p := ⟨w.heap.size + 1 + 1, 0, none⟩) (show w.heap.size ≤ w.heap.size + 1 + 1 by omega) _ |>.setCell (p := ⟨w.heap.size + 1 + 1, 1, none⟩) (show w.heap.size ≤ w.heap.size + 1 + 1 by omega) _⟩

set_option maxHeartbeats 4000000 in
theorem sum_less {s : Bool} {a : Option Addr} {n c : Nat} {t : Bool} {b : Option Addr} {m d : Nat} {w : World} {cc : Int} (hst : s ≠ t) (C : ∀ v, Below w.heap.size w v → Calls Tryz.prog 76 #[.slice a n c, .slice b m d] v fun e w' => e = .returned (.int .i64 cc) ∧ Below v.heap.size v w') (hc : ¬ cc < 0) :
    Calls Tryz.prog 122 #[.agg #[.bool s, .slice a n c], .agg #[.bool t, .slice b m d]] w fun e w' => e = .returned (.agg #[.bool s, .func (.func 148) #[] #[]]) ∧ Below w.heap.size w w' := by
  have he : (s == t) = false := by simp [hst]
  obtain ⟨b1, b2, b3, bV, hs⟩ := boxes3 w #[.bool s, .slice a n c] #[.bool t, .slice b m d] #[.bool false, .nilFunc] 26 26 112
  obtain ⟨x0, x1, -, -⟩ := b1.cells2
  obtain ⟨y0, y1, -, -⟩ := b2.cells2
  obtain ⟨z0, z1, f0, f1⟩ := b3.cells2
  go_enter Tryz.func122, Tryz.ntmps122
  go_wp2_with (go_at_call 76; (with_reducible refine Calls.mono (C _ bV) ?_); rintro e w1 ⟨rfl, b4⟩; obtain ⟨x0, x1, -, -⟩ := (b1.more b4).cells2; obtain ⟨y0, y1, -, -⟩ := (b2.more b4).cells2; obtain ⟨z0, z1, f0, f1⟩ := (b3.more b4).cells2)
  exact bodyPost_ret (v := .agg #[.bool _, .func (.func 148) #[] #[]]) (by simp [results, Tryz.results122, go_sem, z0, z1]) rfl ⟨rfl, (below_more bV b4).setCell (p := ⟨w.heap.size + 1 + 1, 0, none⟩) (show w.heap.size ≤ w.heap.size + 1 + 1 by omega) _ |>.setCell (p := ⟨w.heap.size + 1 + 1, 1, none⟩) (show w.heap.size ≤ w.heap.size + 1 + 1 by omega) _⟩

set_option maxHeartbeats 4000000 in
theorem add_by {s : Bool} {a : Option Addr} {n c : Nat} {t : Bool} {b : Option Addr} {m d : Nat} {w : World} {g : Bool} {k : Nat} {z : Int}
    (S : ∀ v, Below w.heap.size w v → Calls Tryz.prog 122 #[.agg #[.bool s, .slice a n c], .agg #[.bool t, .slice b m d]] v fun e w' => e = .returned (.agg #[.bool g, .func (.func k) #[] #[]]) ∧ Below v.heap.size v w')
    (D : ∀ v, Below w.heap.size w v → Calls Tryz.prog 117 #[.agg #[.bool g, .func (.func k) #[] #[]], .agg #[.bool s, .slice a n c], .agg #[.bool t, .slice b m d]] v (AnsI v z)) :
    Calls Tryz.prog 93 #[.agg #[.bool s, .slice a n c], .agg #[.bool t, .slice b m d]] w (AnsI w z) := by
  unfold AnsI at D ⊢
  generalize decide (z < 0) = r at D ⊢
  generalize z.natAbs = N at D ⊢
  obtain ⟨b1, b2, b3, bV, hs⟩ := boxes3 w #[.bool s, .slice a n c] #[.bool t, .slice b m d] #[.bool false, .slice none 0 0] 26 26 26
  go_enter Tryz.func93, Tryz.ntmps93
  go_wp2
  generalize ((w.alloc (.cells #[.bool s, .slice a n c] 26)).alloc (.cells #[.bool t, .slice b m d] 26)).alloc (.cells #[.bool false, .slice none 0 0] 26) = V at *
  have SO : ∀ v, Below V.heap.size V v → v.cell? ⟨w.heap.size, 0, none⟩ = some (.bool s) ∧ v.cell? ⟨w.heap.size, 1, none⟩ = some (.slice a n c) ∧ v.cell? ⟨w.heap.size + 1, 0, none⟩ = some (.bool t) ∧ v.cell? ⟨w.heap.size + 1, 1, none⟩ = some (.slice b m d) := fun v hb => ⟨(b1.more hb).cells2.1, (b1.more hb).cells2.2.1, (b2.more hb).cells2.1, (b2.more hb).cells2.2.1⟩
  have SR : ∀ u x y, Below V.heap.size V u → ∀ v, v = (u.setCell ⟨w.heap.size + 1 + 1, 0, none⟩ x).setCell ⟨w.heap.size + 1 + 1, 1, none⟩ y → v.cell? ⟨w.heap.size, 0, none⟩ = some (.bool s) ∧ v.cell? ⟨w.heap.size, 1, none⟩ = some (.slice a n c) ∧ v.cell? ⟨w.heap.size + 1, 0, none⟩ = some (.bool t) ∧ v.cell? ⟨w.heap.size + 1, 1, none⟩ = some (.slice b m d) := fun u x y hb v e => by
    subst e
    have i1 := ((b1.more hb).other (g := w.heap.size + 1 + 1) (i := 0) (by omega) x).other (g := w.heap.size + 1 + 1) (i := 1) (by omega) y
    have i2 := ((b2.more hb).other (g := w.heap.size + 1 + 1) (i := 0) (by omega) x).other (g := w.heap.size + 1 + 1) (i := 1) (by omega) y
    exact ⟨i1.cells2.1, i1.cells2.2.1, i2.cells2.1, i2.cells2.2.1⟩
  have bs : Below V.heap.size V V.drew := (Below.refl _ _).drew
  go_region_held3 (fun v => v.cell? ⟨w.heap.size, 0, none⟩ = some (.bool s) ∧ v.cell? ⟨w.heap.size, 1, none⟩ = some (.slice a n c) ∧ v.cell? ⟨w.heap.size + 1, 0, none⟩ = some (.bool t) ∧ v.cell? ⟨w.heap.size + 1, 1, none⟩ = some (.slice b m d))
    (first | exact SO _ bs | exact SR _ _ _ bs _ rfl)
    (first
    | (go_at_call 122; (with_reducible refine Calls.mono (S _ bV.drew) ?_); rintro e w1 ⟨rfl, d1⟩; replace bs := below_more bs d1; have BW := below_more bV bs; have hs1 : w.heap.size + 1 + 1 < w1.heap.size := Nat.lt_of_lt_of_le hs bs.size)
    | (go_at_call 117; (with_reducible refine Calls.mono (D _ BW) ?_); rintro e w2 ⟨a2, c2, rfl, o2⟩; replace bs := below_more bs o2.below; obtain ⟨y0, y1, f0, f1⟩ := (b3.more bs).cells2))
  have q := fun x y => (o2.above BW).set (k := w.heap.size + 1 + 1) (by omega) hs1 0 x |>.set (k := w.heap.size + 1 + 1) (by omega) hs1 1 y
  go_wp2
  exact bodyPost_ret (v := .agg #[.bool r, .slice a2 (nl N) c2]) (by simp [results, Tryz.results93, go_sem, y0, y1]) rfl ⟨a2, c2, rfl, (q _ _).own BW.size⟩

theorem whole_add {s : Bool} {a : Option Addr} {n c : Nat} {x : Int} {t : Bool} {b : Option Addr} {m d : Nat} {y : Int} {w : World} (h : RI w s a n c x) (k : RI w t b m d y) (z : Int) (hv : x + y = z) :
    Calls Tryz.prog 93 #[.agg #[.bool s, .slice a n c], .agg #[.bool t, .slice b m d]] w (AnsI w z) := by
  obtain ⟨xs, h, hx, hn, rfl⟩ := h
  obtain ⟨ys, k, hy, hm, rfl⟩ := k
  subst hv
  have C := fun v (hb : Below w.heap.size w v) => nat_cmp' (h.below hb) hx (k.below hb) hy _ rfl
  by_cases hst : s = t
  · subst hst
    exact add_by (fun v hb => sum_add rfl) (fun v hb => done_add s _ _ (iv_add_same s _ _) fun u hu => nat_add' (h.below (below_more hb hu)) hx (k.below (below_more hb hu)) hy (by omega) (by omega) _ rfl)
  · rcases Nat.lt_or_ge (val xs) (val ys) with hl | hl
    · exact add_by (fun v hb => sum_over hst (fun u hu => C u (below_more hb hu)) (by rw [sgn_lt (by omega)]; omega)) (fun v hb => done_over t _ _ (by rw [iv_add_ge (Ne.symm hst) (Nat.le_of_lt hl), Int.add_comm]) fun u hu => whole_over (h.below (below_more hb hu)) hx (k.below (below_more hb hu)) hy (by omega) _ (by omega))
    · have hge : ¬ sgn (val xs : Int) (val ys : Int) < 0 := by
        rcases Nat.lt_or_ge (val ys) (val xs) with e | e
        · rw [sgn_gt (by omega)]; omega
        · rw [sgn_eq (by omega)]; omega
      exact add_by (fun v hb => sum_less hst (fun u hu => C u (below_more hb hu)) hge) (fun v hb => done_less s _ _ (iv_add_ge hst hl) fun u hu => whole_less (h.below (below_more hb hu)) hx (k.below (below_more hb hu)) hy (by omega) _ (by omega))

set_option maxHeartbeats 4000000 in
theorem whole_mul {s : Bool} {a : Option Addr} {n c : Nat} {x : Int} {t : Bool} {b : Option Addr} {m d : Nat} {y : Int} {w : World} (h : RI w s a n c x) (k : RI w t b m d y) (z : Int) (hv : x * y = z) :
    Calls Tryz.prog 88 #[.agg #[.bool s, .slice a n c], .agg #[.bool t, .slice b m d]] w (AnsI w z) := by
  obtain ⟨xs, h, hx, hn, rfl⟩ := h
  obtain ⟨ys, k, hy, hm, rfl⟩ := k
  have D := fun v (hb : Below w.heap.size w v) => done_mul (s := s) (t := t) (w := v) (!(s == t)) _ z (by rw [iv_mul]; exact hv) fun u hu => times_mul' (h.below (below_more hb hu)) hx (k.below (below_more hb hu)) hy (by omega) (by omega) _ rfl
  unfold AnsI at D ⊢
  generalize decide (z < 0) = r at D ⊢
  generalize z.natAbs = N at D ⊢
  clear h k hx hy hn hm hv
  obtain ⟨b1, b2, b3, bV, hs⟩ := boxes3 w #[.bool s, .slice a n c] #[.bool t, .slice b m d] #[.bool false, .slice none 0 0] 26 26 26
  go_enter Tryz.func88, Tryz.ntmps88
  go_wp2_with (go_at_call 117; (with_reducible refine Calls.mono (D _ bV) ?_); rintro e w2 ⟨a2, c2, rfl, o2⟩; obtain ⟨y0, y1, f0, f1⟩ := (b3.more o2.below).cells2)
  have q := fun x y => (o2.above bV).set (k := w.heap.size + 1 + 1) (by omega) hs 0 x |>.set (k := w.heap.size + 1 + 1) (by omega) hs 1 y
  exact bodyPost_ret (v := .agg #[.bool r, .slice a2 (nl N) c2]) (by simp [results, Tryz.results88, go_sem, y0, y1]) rfl ⟨a2, c2, rfl, (q _ _).own bV.size⟩

end Go.Proofs.YtpimcbncmfpdhaaGreatDoor
/-
  Contract of package whole's Cmp for every two Ints of up to a hundred thousand words: as integers; memory that was there stays.
-/
namespace Go.Proofs.YtpimcbncmfpdhaaGreatDoor
open Go.RowKit

theorem sgn_flip (x y : Int) : sgn y x = - sgn x y := by
  rcases Int.lt_trichotomy x y with h | h | h
  · rw [sgn_lt h, sgn_gt (by omega)]; rfl
  · rw [sgn_eq h, sgn_eq (by omega)]; rfl
  · rw [sgn_gt h, sgn_lt (by omega)]
theorem BoxC.new1 (v : World) (o : Obj) (cs : Array Value) (T : TypeId) : BoxC ((v.alloc o).alloc (.cells cs T)) (v.heap.size + 1) cs T := by
  have := BoxC.new (v.alloc o) cs T
  rwa [World.size_alloc] at this
theorem BoxC.newS (v : World) (k : Nat) (x y : Value) (cs : Array Value) (T : TypeId) : BoxC (((v.setCell ⟨k, 0, none⟩ x).setCell ⟨k, 1, none⟩ y).alloc (.cells cs T)) v.heap.size cs T := by
  have := BoxC.new ((v.setCell ⟨k, 0, none⟩ x).setCell ⟨k, 1, none⟩ y) cs T
  have e : ((v.setCell ⟨k, 0, none⟩ x).setCell ⟨k, 1, none⟩ y).heap.size = v.heap.size := by simp
  rwa [e] at this
theorem BoxC.set2 {v : World} {k : Nat} {x y : Value} {T : TypeId} (h : BoxC v k #[.bool false, .slice none 0 0] T) : BoxC ((v.setCell ⟨k, 0, none⟩ x).setCell ⟨k, 1, none⟩ y) k #[x, y] T := (h.set 0 x).set 1 y
theorem BoxC.other2 {v : World} {k g : Nat} {cs : Array Value} {x y : Value} {T : TypeId} (h : BoxC v k cs T) (hg : k ≠ g) : BoxC ((v.setCell ⟨g, 0, none⟩ x).setCell ⟨g, 1, none⟩ y) k cs T := (h.other hg x).other hg y
/-- What is owned stays where a variable of another type is written. -/
theorem Own.ibox {W w : World} {v : Value} {n : Nat} {xs : List Int} (h : Own W w v n xs) {k : Nat} {cs : Array Value} (B : BoxC w k cs 26) (hk : W.heap.size ≤ k) (i : Nat) (x : Value) : Own W (w.setCell ⟨k, i, none⟩ x) v n xs := by
  refine ⟨⟨h.1.1, ?_⟩, h.2.setCell (p := ⟨k, i, none⟩) hk _⟩
  rcases h.1.2 with h0 | ⟨g, cap, cur, e, h3, hg, h4⟩
  · exact .inl h0
  · refine .inr ⟨g, cap, cur, e, h3, ?_, h4⟩
    have hne : g ≠ k := by
      intro e1
      subst e1
      unfold BoxC at B
      rw [B] at hg
      simp at hg
    rw [Below.heap_setCell w ⟨k, i, none⟩ x g (by simpa using hne)]; exact hg
theorem Own.ibox2 {W w : World} {v : Value} {n : Nat} {xs : List Int} {k : Nat} {x y : Value} (h : Own W w v n xs) (B : BoxC w k #[.bool false, .slice none 0 0] 26) (hk : W.heap.size ≤ k) : Own W ((w.setCell ⟨k, 0, none⟩ x).setCell ⟨k, 1, none⟩ y) v n xs :=
  (h.ibox B hk 0 x).ibox (B.set 0 x) hk 1 y

set_option maxHeartbeats 8000000 in
theorem whole_cmp {s : Bool} {a : Option Addr} {n c : Nat} {x : Int} {t : Bool} {b : Option Addr} {m d : Nat} {y : Int} {w : World} (h : RI w s a n c x) (k : RI w t b m d y) (g : Int) (hv : sgn x y = g) :
    Calls Tryz.prog 98 #[.agg #[.bool s, .slice a n c], .agg #[.bool t, .slice b m d]] w fun e w' => e = .returned (.int .i64 g) ∧ Below w.heap.size w w' := by
  have F1 := fun v (hb : Below w.heap.size w v) => whole_fix (h.below hb)
  have F2 := fun v (hb : Below w.heap.size w v) => whole_fix (k.below hb)
  have C1 := fun v a1 c1 a2 c2 (p : IsWords v (.slice a1 (nl x.natAbs) c1) (natOf x.natAbs)) (q : IsWords v (.slice a2 (nl y.natAbs) c2) (natOf y.natAbs)) => nat_cmp' p (wd_natOf _) q (wd_natOf _) _ rfl
  have C2 := fun v a1 c1 a2 c2 (p : IsWords v (.slice a1 (nl x.natAbs) c1) (natOf x.natAbs)) (q : IsWords v (.slice a2 (nl y.natAbs) c2) (natOf y.natAbs)) => nat_cmp' q (wd_natOf _) p (wd_natOf _) _ rfl
  simp only [val_natOf] at C1 C2
  unfold AnsI at F1 F2
  clear h k
  obtain ⟨b1, b2, bV, hs⟩ := boxes2 w #[.bool s, .slice a n c] #[.bool t, .slice b m d] 26 26
  go_enter Tryz.func98, Tryz.ntmps98
  go_upto_region 1 with fail
  generalize (w.alloc (.cells #[.bool s, .slice a n c] 26)).alloc (.cells #[.bool t, .slice b m d] 26) = V at *
  have SO : ∀ v, Below V.heap.size V v → v.cell? ⟨w.heap.size, 0, none⟩ = some (.bool s) ∧ v.cell? ⟨w.heap.size, 1, none⟩ = some (.slice a n c) ∧ v.cell? ⟨w.heap.size + 1, 0, none⟩ = some (.bool t) ∧ v.cell? ⟨w.heap.size + 1, 1, none⟩ = some (.slice b m d) := fun v hb =>
    ⟨(b1.more hb).cells2.1, (b1.more hb).cells2.2.1, (b2.more hb).cells2.1, (b2.more hb).cells2.2.1⟩
  clear b1 b2
  go_cut [5, 6] from 7 to 10 (fun s5 s6 wx => ∃ (k5 k6 : Nat) (a1 : Option Addr) (c1 : Nat) (a2 : Option Addr) (c2 : Nat), s5 = .pointer (some ⟨k5, 0, none⟩) ∧ s6 = .pointer (some ⟨k6, 0, none⟩) ∧ BoxC wx k5 #[.bool (decide (x < 0)), .slice a1 (nl x.natAbs) c1] 26 ∧ BoxC wx k6 #[.bool (decide (y < 0)), .slice a2 (nl y.natAbs) c2] 26 ∧ Own w wx (.slice a1 (nl x.natAbs) c1) (nl x.natAbs) (natOf x.natAbs) ∧ Own w wx (.slice a2 (nl y.natAbs) c2) (nl y.natAbs) (natOf y.natAbs))
  case first =>
    have bs : Below V.heap.size V V.drew := (Below.refl _ _).drew
    generalize decide (x < 0) = r1 at *
    generalize decide (y < 0) = r2 at *
    generalize x.natAbs = N1 at *
    generalize y.natAbs = N2 at *
    have bs0 : Below V.heap.size V V := Below.refl _ _
    go_region_held3 (fun v => v.cell? ⟨w.heap.size, 0, none⟩ = some (.bool s) ∧ v.cell? ⟨w.heap.size, 1, none⟩ = some (.slice a n c) ∧ v.cell? ⟨w.heap.size + 1, 0, none⟩ = some (.bool t) ∧ v.cell? ⟨w.heap.size + 1, 1, none⟩ = some (.slice b m d))
      ((refine SO _ ?_; have hsz := bs.size; repeat' first | exact bs | exact bs0 | with_reducible refine Below.alloc ?_ ?_ _ | with_reducible refine Below.setCell ?_ ?_ _ | with_reducible refine Below.drew ?_ | exact hsz | exact Nat.le_refl _ | omega | (simp; done) | (simp; omega)))
      (first
      | (go_at_call 104; (with_reducible refine Calls.mono (F1 _ (below_more bV bs)) ?_); rintro e w1 ⟨a1, c1, rfl, o1⟩; have o1' := o1.outer (below_more bV bs); clear F1; replace bs := below_more bs o1.below)
      | (go_at_call 104; (with_reducible refine Calls.mono (F1 _ (below_more bV (bs0.alloc bs0.size _).drew)) ?_); rintro e w1 ⟨a1, c1, rfl, o1⟩; have o1' := o1.outer (below_more bV (bs0.alloc bs0.size (.cells #[.bool false, .slice none 0 0] 26)).drew); clear F1; have P1 := (BoxC.new V #[.bool false, .slice none 0 0] 26).drew.more o1.below; have hP := P1.lt; replace bs := below_more (bs0.alloc bs0.size (.cells #[.bool false, .slice none 0 0] 26)).drew o1.below)
      | (go_at_call 104; (with_reducible refine Calls.mono (F1 _ (below_more bV ((bs0.alloc bs0.size _).alloc (bs0.alloc bs0.size _).size _).drew)) ?_); rintro e w1 ⟨a1, c1, rfl, o1⟩; have o1' := o1.outer (below_more bV ((bs0.alloc bs0.size (.cells #[.bool false, .slice none 0 0] 26)).alloc (bs0.alloc bs0.size (.cells #[.bool false, .slice none 0 0] 26)).size (.cells #[.bool false, .slice none 0 0] 26)).drew); clear F1; have P1 := ((BoxC.new V #[.bool false, .slice none 0 0] 26).alloc (.cells #[.bool false, .slice none 0 0] 26)).drew.more o1.below; have P2 := (BoxC.new (V.alloc (.cells #[.bool false, .slice none 0 0] 26)) #[.bool false, .slice none 0 0] 26).drew.more o1.below; rw [World.size_alloc] at P2; have hP := P1.lt; have hP2 := P2.lt; replace bs := below_more ((bs0.alloc bs0.size (.cells #[.bool false, .slice none 0 0] 26)).alloc (bs0.alloc bs0.size (.cells #[.bool false, .slice none 0 0] 26)).size (.cells #[.bool false, .slice none 0 0] 26)).drew o1.below)
      | (go_at_call 104; (with_reducible refine Calls.mono (F2 _ (below_more bV bs)) ?_); rintro e w2 ⟨a2, c2, rfl, o2⟩; replace o1' := o1'.more o2.below; have o2' := o2.outer (below_more bV bs); have hz := bs.size; have hw := o2.below.size; replace bs := below_more bs o2.below; (try (have Q1 := (P1).more o2.below; obtain ⟨f0, f1, f2, f3⟩ := Q1.cells2; have f4 := fun o => (Q1.alloc o).cells2.1; have f5 := fun o => (Q1.alloc o).cells2.2.1; have f6 := fun o => (Q1.alloc o).cells2.2.2.1; have f7 := fun o => (Q1.alloc o).cells2.2.2.2)); (try (have Q2 := (P2).more o2.below; obtain ⟨g0, g1, g2, g3⟩ := Q2.cells2; have g4 := fun o => (Q2.alloc o).cells2.1; have g5 := fun o => (Q2.alloc o).cells2.2.1; have g6 := fun o => (Q2.alloc o).cells2.2.2.1; have g7 := fun o => (Q2.alloc o).cells2.2.2.2)))
      | (go_at_call 104; (with_reducible refine Calls.mono (F2 _ (below_more bV (bs.alloc bs.size _))) ?_); rintro e w2 ⟨a2, c2, rfl, o2⟩; replace o1' := (o1'.alloc (.cells #[.bool false, .slice none 0 0] 26)).more o2.below; have o2' := o2.outer (below_more bV (bs.alloc bs.size (.cells #[.bool false, .slice none 0 0] 26))); have hz := bs.size; replace bs := below_more (bs.alloc bs.size (.cells #[.bool false, .slice none 0 0] 26)) o2.below; have R1 := (BoxC.new w1 #[.bool false, .slice none 0 0] 26).more o2.below; have hR := R1.lt; obtain ⟨h0, h1, h2, h3⟩ := R1.cells2; have h4 := fun o => (R1.alloc o).cells2.1; have h5 := fun o => (R1.alloc o).cells2.2.1; have h6 := fun o => (R1.alloc o).cells2.2.2.1; have h7 := fun o => (R1.alloc o).cells2.2.2.2; (try (have Q1 := (P1.alloc (.cells #[.bool false, .slice none 0 0] 26)).more o2.below; obtain ⟨f0, f1, f2, f3⟩ := Q1.cells2; have f4 := fun o => (Q1.alloc o).cells2.1; have f5 := fun o => (Q1.alloc o).cells2.2.1; have f6 := fun o => (Q1.alloc o).cells2.2.2.1; have f7 := fun o => (Q1.alloc o).cells2.2.2.2)); (try (have Q2 := (P2.alloc (.cells #[.bool false, .slice none 0 0] 26)).more o2.below; obtain ⟨g0, g1, g2, g3⟩ := Q2.cells2; have g4 := fun o => (Q2.alloc o).cells2.1; have g5 := fun o => (Q2.alloc o).cells2.2.1; have g6 := fun o => (Q2.alloc o).cells2.2.2.1; have g7 := fun o => (Q2.alloc o).cells2.2.2.2)))
      | (go_at_call 104; (with_reducible refine Calls.mono (F2 _ (below_more bV ((bs.alloc bs.size _).alloc (bs.alloc bs.size _).size _))) ?_); rintro e w2 ⟨a2, c2, rfl, o2⟩; replace o1' := ((o1'.alloc (.cells #[.bool false, .slice none 0 0] 26)).alloc (.cells #[.bool false, .slice none 0 0] 26)).more o2.below; have o2' := o2.outer (below_more bV ((bs.alloc bs.size (.cells #[.bool false, .slice none 0 0] 26)).alloc (bs.alloc bs.size (.cells #[.bool false, .slice none 0 0] 26)).size (.cells #[.bool false, .slice none 0 0] 26))); have hz := bs.size; replace bs := below_more ((bs.alloc bs.size (.cells #[.bool false, .slice none 0 0] 26)).alloc (bs.alloc bs.size (.cells #[.bool false, .slice none 0 0] 26)).size (.cells #[.bool false, .slice none 0 0] 26)) o2.below; have R1 := ((BoxC.new w1 #[.bool false, .slice none 0 0] 26).alloc (.cells #[.bool false, .slice none 0 0] 26)).more o2.below; have hR := R1.lt; have R2 := (BoxC.new (w1.alloc (.cells #[.bool false, .slice none 0 0] 26)) #[.bool false, .slice none 0 0] 26).more o2.below; rw [World.size_alloc] at R2; have hR2 := R2.lt; obtain ⟨h0, h1, h2, h3⟩ := R1.cells2; have h4 := fun o => (R1.alloc o).cells2.1; have h5 := fun o => (R1.alloc o).cells2.2.1; have h6 := fun o => (R1.alloc o).cells2.2.2.1; have h7 := fun o => (R1.alloc o).cells2.2.2.2; obtain ⟨i0, i1, i2, i3⟩ := R2.cells2; have i4 := fun o => (R2.alloc o).cells2.1; have i5 := fun o => (R2.alloc o).cells2.2.1; have i6 := fun o => (R2.alloc o).cells2.2.2.1; have i7 := fun o => (R2.alloc o).cells2.2.2.2))
    all_goals go_wp2_with fail
    all_goals go_meet
    all_goals clear SO C1 C2 F2
    all_goals refine ⟨_, _, a1, c1, a2, c2, rfl, rfl, ?_, ?_, ?_, ?_⟩
    all_goals repeat' first | with_reducible assumption | with_reducible exact BoxC.new _ _ _ | with_reducible exact BoxC.new1 _ _ _ _ | with_reducible exact BoxC.newS _ _ _ _ _ _ | with_reducible refine BoxC.set2 ?_ | with_reducible refine BoxC.other2 ?_ ?_ | with_reducible refine BoxC.alloc ?_ _ | with_reducible refine Own.alloc ?_ _ | with_reducible refine Own.ibox2 ?_ ?_ ?_ | omega
  case rest =>
    obtain ⟨k5, k6, a1, c1, a2, c2, rfl, rfl, B5, B6, o1, o2⟩ := hcut
    replace C1 := C1 _ _ _ _ _ o1.words o2.words
    replace C2 := C2 _ _ _ _ _ o1.words o2.words
    rw [sgn_flip] at C2
    obtain ⟨x0, x1, -, -⟩ := B5.cells2
    obtain ⟨y0, y1, -, -⟩ := B6.cells2
    have hb := o2.below
    clear o1 o2 F1 F2 SO B5 B6 bV hs
    rcases sgn_signs (x := x) (y := y) with ⟨h1, h2, e⟩ | ⟨h1, h2, e⟩ | ⟨h1, h2, e⟩ | ⟨h1, h2, e⟩
    case' inl => rw [decide_eq_true h1] at x0; rw [decide_eq_true h2] at y0
    case' inr.inl => rw [decide_eq_true h1] at x0; rw [decide_eq_false h2] at y0
    case' inr.inr.inl => rw [decide_eq_false h1] at x0; rw [decide_eq_true h2] at y0
    case' inr.inr.inr => rw [decide_eq_false h1] at x0; rw [decide_eq_false h2] at y0
    all_goals
      rw [e] at hv
      generalize sgn (x.natAbs : Int) y.natAbs = cc at C1 C2 hv
      subst hv
      clear h1 h2 e
      generalize x.natAbs = N1 at *
      generalize y.natAbs = N2 at *
      go_wp2_with (first
        | (go_at_call 76; (with_reducible refine Calls.mono C1 ?_); rintro e w3 ⟨rfl, b3⟩; replace hb := below_more hb b3)
        | (go_at_call 76; (with_reducible refine Calls.mono C2 ?_); rintro e w3 ⟨rfl, b3⟩; replace hb := below_more hb b3))
      go_ret
      exact ⟨rfl, hb⟩
end Go.Proofs.YtpimcbncmfpdhaaGreatDoor
/-
  Contracts of the standard library's bits.Len64 and bits.Len, for every number of 64 bits: how many binary digits it has; memory stays.
-/
namespace Go.Proofs.YtpimcbncmfpdhaaGreatDoor
open Go.RowKit

theorem len8_shift (a y : Int) (s : Nat) (h0 : 0 ≤ a) (h1 : a < 18446744073709551616) (y0 : 0 ≤ y) (y1 : y ≤ 255) (hy : y.toNat = a.toNat / 2 ^ s) (hs : 2 ^ s ≤ a.toNat ∨ s = 0) :
    Hid (Lib.len8 y + s = Lib.bitLen a.toNat) ∧ 0 ≤ Lib.len8 y ∧ Lib.len8 y ≤ 8 := by
  have e : Lib.len8 y = (Lib.bitLen (a.toNat / 2 ^ s) : Int) := by rw [Lib.len8_of _ y0 y1, hy]
  have l1 : Lib.bitLen (a.toNat / 2 ^ s) ≤ 8 := Lib.bitLen_le _ 8 (by omega) (by rw [← hy]; omega)
  refine ⟨?_, by omega, by omega⟩
  show _ = _
  rw [e]
  rcases hs with hs | rfl
  · rw [Lib.bitLen_shift s a.toNat hs (by omega)]; omega
  · simp

set_option maxRecDepth 100000 in
theorem bits_len64 (a : Int) (w : World) (h0 : 0 ≤ a) (h1 : a < 18446744073709551616) :
    Calls Tryz.prog 149 #[.int .u64 a] w fun e w' => e = .returned (.int .i64 (Lib.bitLen a.toNat)) ∧ w = w' := by
  by_cases c1 : 4294967296 ≤ a
  · by_cases c2 : 65536 ≤ a / 4294967296
    · by_cases c3 : 256 ≤ a / 4294967296 / 65536
      · have i0 : 0 ≤ a / 4294967296 / 65536 / 256 := by omega
        have i1 : a / 4294967296 / 65536 / 256 ≤ 255 := by omega
        obtain ⟨E, l0, l1⟩ := len8_shift a _ 56 h0 h1 i0 i1 (by omega) (.inl (by omega))
        go_enter Tryz.func149, Tryz.ntmps149
        go_wp2
        go_ret
        exact ⟨ret_int (by have := E.out; omega), rfl⟩
      · have i0 : 0 ≤ a / 4294967296 / 65536 := by omega
        have i1 : a / 4294967296 / 65536 ≤ 255 := by omega
        obtain ⟨E, l0, l1⟩ := len8_shift a _ 48 h0 h1 i0 i1 (by omega) (.inl (by omega))
        go_enter Tryz.func149, Tryz.ntmps149
        go_wp2
        go_ret
        exact ⟨ret_int (by have := E.out; omega), rfl⟩
    · by_cases c3 : 256 ≤ a / 4294967296
      · have i0 : 0 ≤ a / 4294967296 / 256 := by omega
        have i1 : a / 4294967296 / 256 ≤ 255 := by omega
        obtain ⟨E, l0, l1⟩ := len8_shift a _ 40 h0 h1 i0 i1 (by omega) (.inl (by omega))
        go_enter Tryz.func149, Tryz.ntmps149
        go_wp2
        go_ret
        exact ⟨ret_int (by have := E.out; omega), rfl⟩
      · have i0 : 0 ≤ a / 4294967296 := by omega
        have i1 : a / 4294967296 ≤ 255 := by omega
        obtain ⟨E, l0, l1⟩ := len8_shift a _ 32 h0 h1 i0 i1 (by omega) (.inl (by omega))
        go_enter Tryz.func149, Tryz.ntmps149
        go_wp2
        go_ret
        exact ⟨ret_int (by have := E.out; omega), rfl⟩
  · by_cases c2 : 65536 ≤ a
    · by_cases c3 : 256 ≤ a / 65536
      · have i0 : 0 ≤ a / 65536 / 256 := by omega
        have i1 : a / 65536 / 256 ≤ 255 := by omega
        obtain ⟨E, l0, l1⟩ := len8_shift a _ 24 h0 h1 i0 i1 (by omega) (.inl (by omega))
        go_enter Tryz.func149, Tryz.ntmps149
        go_wp2
        go_ret
        exact ⟨ret_int (by have := E.out; omega), rfl⟩
      · have i0 : 0 ≤ a / 65536 := by omega
        have i1 : a / 65536 ≤ 255 := by omega
        obtain ⟨E, l0, l1⟩ := len8_shift a _ 16 h0 h1 i0 i1 (by omega) (.inl (by omega))
        go_enter Tryz.func149, Tryz.ntmps149
        go_wp2
        go_ret
        exact ⟨ret_int (by have := E.out; omega), rfl⟩
    · by_cases c3 : 256 ≤ a
      · have i0 : 0 ≤ a / 256 := by omega
        have i1 : a / 256 ≤ 255 := by omega
        obtain ⟨E, l0, l1⟩ := len8_shift a _ 8 h0 h1 i0 i1 (by omega) (.inl (by omega))
        go_enter Tryz.func149, Tryz.ntmps149
        go_wp2
        go_ret
        exact ⟨ret_int (by have := E.out; omega), rfl⟩
      · have i1 : a ≤ 255 := by omega
        obtain ⟨E, l0, l1⟩ := len8_shift a _ 0 h0 h1 h0 i1 (by simp) (.inr rfl)
        go_enter Tryz.func149, Tryz.ntmps149
        go_wp2
        go_ret
        exact ⟨ret_int (by have := E.out; omega), rfl⟩

theorem bits_len (a : Int) (w : World) (h0 : 0 ≤ a) (h1 : a < 18446744073709551616) :
    Calls Tryz.prog 125 #[.int .u64 a] w fun e w' => e = .returned (.int .i64 (Lib.bitLen a.toNat)) ∧ w = w' := by
  go_enter Tryz.func125, Tryz.ntmps125
  go_wp2_with (go_at_call 149; refine (bits_len64 a w h0 h1).mono ?_; rintro e w' ⟨rfl, rfl⟩)
  go_ret
  exact ⟨rfl, rfl⟩
end Go.Proofs.YtpimcbncmfpdhaaGreatDoor
/-
  Contracts of package times's functions tooLong and Pow, for every list of words and every exponent: the list of the power, or that there is none; memory that was there stays, and what is answered is the call's own.
-/
namespace Go.Proofs.YtpimcbncmfpdhaaGreatDoor
open Go.RowKit

/-- How many words a power has. -/
theorem nl_pow {A n k : Nat} (h : A ≤ 1 ∨ nl A * n ≤ 4096) (hk : k ≤ n) : nl (A ^ k) ≤ 4096 := by
  rcases h with h | h
  · have : A ^ k ≤ 1 := by
      rcases Nat.le_one_iff_eq_zero_or_eq_one.1 h with rfl | rfl
      · rcases Nat.eq_zero_or_pos k with rfl | h0
        · simp
        · rw [Nat.zero_pow h0]; omega
      · simp
    exact Nat.le_trans (nl_le 1 _ (by omega)) (by omega)
  · have h1 : A ^ k ≤ (4294967296 ^ nl A) ^ k := Nat.pow_le_pow_left (Nat.le_of_lt (lt_nl A)) k
    rcases Nat.eq_zero_or_pos k with rfl | h0
    · simp only [Nat.pow_zero]
      exact Nat.le_trans (nl_le 1 _ (by omega)) (by omega)
    · have h2 : A ^ k < (4294967296 ^ nl A) ^ k := Nat.pow_lt_pow_left (lt_nl A) (by omega)
      rw [← Nat.pow_mul] at h2
      have h3 : nl A * k ≤ nl A * n := Nat.mul_le_mul_left _ hk
      exact Nat.le_trans (nl_le _ _ h2) (by omega)

theorem ret_tb {a : Option Addr} {n c : Nat} {r s : Bool} (h : r = s) : Ending.returned (.tuple #[.slice a n c, .bool r]) = .returned (.tuple #[.slice a n c, .bool s]) := by rw [h]

theorem one_of (w : World) : Calls Tryz.prog 54 #[.int .u64 1] w (Ans w 1) := nat_of 1 w (by omega) (by omega)
theorem wd_nat_one : Wd (natOf 1) := wd_natOf 1

set_option maxHeartbeats 1000000 in
theorem times_tooLong (a : Option Addr) (L c : Nat) (ps : List Int) (n : Int) (w : World) (h : IsWords w (.slice a L c) ps) (hp : Wd ps) (hL : L ≤ 1000000000000) (r : Bool) (hr : decide (1 < val ps ∧ (4096 / L : Int) < n) = r) :
    Calls Tryz.prog 124 #[.slice a L c, .int .i64 n] w fun e w' => e = .returned (.bool r) ∧ Below w.heap.size w w' := by
  have C := fun v a1 c1 (p : IsWords v (.slice a L c) ps) (q : IsWords v (.slice a1 (nl 1) c1) (natOf 1)) => nat_cmp a L c ps a1 (nl 1) c1 (natOf 1) v p hp q wd_nat_one
  rw [val_natOf] at C
  by_cases h1 : 1 < val ps
  · rw [sgn_gt (by omega)] at C
    have l0 : 0 < L := by
      rcases Nat.eq_zero_or_pos L with h0 | h0
      · have e := h.len
        rw [h0] at e
        rw [List.eq_nil_of_length_eq_zero e] at h1
        simp [val] at h1
      · exact h0
    have HR : Hid (decide ((4096 / L : Int) < n) = r) := by
      show _ = _
      rw [← hr]; simp [h1]
    clear hr h1
    go_enter Tryz.func124, Tryz.ntmps124
    go_wp2_with (first
      | (go_at_call 54; (with_reducible refine Calls.mono (one_of _) ?_); rintro e w1 ⟨a1, c1, rfl, o1⟩; have p1 := h.below o1.below)
      | (go_at_call 76; (with_reducible refine Calls.mono (C _ _ _ p1 o1.words) ?_); rintro e w2 ⟨rfl, b2⟩; have bb := below_more o1.below b2))
    go_ret
    exact ⟨ret_bool HR.out, bb⟩
  · have hs : sgn (val ps) (1 : Nat) ≤ 0 := by
      rcases Nat.lt_or_ge (val ps) 1 with h0 | h0
      · rw [sgn_lt (by omega)]; omega
      · rw [sgn_eq (by omega)]; omega
    generalize sgn (val ps) (1 : Nat) = sg at C hs
    have HR : r = false := by rw [← hr]; simp [h1]
    subst HR
    clear hr h1
    go_enter Tryz.func124, Tryz.ntmps124
    go_wp2_with (first
      | (go_at_call 54; (with_reducible refine Calls.mono (one_of _) ?_); rintro e w1 ⟨a1, c1, rfl, o1⟩; have p1 := h.below o1.below)
      | (go_at_call 76; (with_reducible refine Calls.mono (C _ _ _ p1 o1.words) ?_); rintro e w2 ⟨rfl, b2⟩; have bb := below_more o1.below b2))
    go_ret
    exact ⟨ret_bool (by simp), bb⟩

set_option maxHeartbeats 1000000 in
theorem times_pow_no (a : Option Addr) (m c : Nat) (zs : List Int) (n : Int) (w : World) (h : IsWords w (.slice a m c) zs) (hz : Wd zs) (hm : m ≤ 1000000000000) (hn : n < 0 ∨ 1 < val zs ∧ (4096 / nl (val zs) : Int) < n) :
    Calls Tryz.prog 99 #[.slice a m c, .int .i64 n] w fun e w' => e = .returned (.tuple #[.slice none 0 0, .bool false]) ∧ Below w.heap.size w w' := by
  have R1 := times_right a m c zs w h hz
  by_cases h0 : n < 0
  · clear h hz hn
    go_enter Tryz.func99, Tryz.ntmps99
    go_wp2_with (first
      | (go_at_call 118; with_reducible refine Calls.mono R1 ?_; rintro e w1 ⟨rfl, rfl⟩))
    go_ret2
    exact ⟨rfl, Below.refl _ _⟩
  · have b1 := (h.low hz).2.2
    have T := fun r hr => times_tooLong a _ c _ n w (h.right hz) (wd_natOf _) (by omega) r hr
    rw [val_natOf] at T
    have T1 := T true (by simpa using hn.resolve_left h0)
    clear T h hz hn
    go_enter Tryz.func99, Tryz.ntmps99
    go_wp2_with (first
      | (go_at_call 118; with_reducible refine Calls.mono R1 ?_; rintro e w1 ⟨rfl, rfl⟩)
      | (go_at_call 124; with_reducible refine Calls.mono T1 ?_; rintro e w1 ⟨rfl, bb⟩))
    go_ret2
    exact ⟨rfl, bb⟩

theorem and_one (x : Nat) (hx : x < 9223372036854775808) : bits BinOp.and IntKind.i64 (x : Int) 1 = ((x % 2 : Nat) : Int) := by
  have h1 : (BitVec.ofInt 64 (x : Int)).toNat = x := by
    rw [BitVec.ofInt_natCast, BitVec.toNat_ofNat]; exact Nat.mod_eq_of_lt (by omega)
  have h2 : (BitVec.ofInt 64 (1 : Int)).toNat = 1 := by decide
  show IntKind.i64.wrap ((BitVec.ofInt 64 (x : Int) &&& BitVec.ofInt 64 (1 : Int)).toNat : Int) = _
  rw [BitVec.toNat_and, h1, h2, IntKind.wrap_i64, Nat.and_one_is_mod]
  omega

/-- One bit of the exponent. -/
theorem pow_step (N t : Nat) : N / 2 ^ t = 2 * (N / 2 ^ (t + 1)) + N / 2 ^ t % 2 := by
  rw [Nat.pow_succ, ← Nat.div_div_eq_div_mul]; omega
theorem pow_sq (A q : Nat) : A ^ q * A ^ q = A ^ (2 * q) := by rw [← Nat.pow_add]; congr 1; omega

set_option maxHeartbeats 2000000 in
theorem times_pow (a : Option Addr) (m c : Nat) (zs : List Int) (n : Int) (w : World) (h : IsWords w (.slice a m c) zs) (hz : Wd zs) (hm : m ≤ 1000000000000) (hn : 0 ≤ n) (hn1 : n < 9223372036854775808) (hok : val zs ≤ 1 ∨ nl (val zs) * n.toNat ≤ 4096) :
    Calls Tryz.prog 99 #[.slice a m c, .int .i64 n] w (AnsOk w (val zs ^ n.toNat)) := by
  have R1 := times_right a m c zs w h hz
  have b1 := (h.low hz).2.2
  have T := fun r hr => times_tooLong a _ c _ n w (h.right hz) (wd_natOf _) (by omega) r hr
  rw [val_natOf] at T
  have T1 := T false (by
    simp only [decide_eq_false_iff_not]
    rintro ⟨g1, g2⟩
    rcases hok with h0 | h0
    · omega
    · have hp := nl_pos (A := val zs) (by omega)
      have : n.toNat ≤ 4096 / nl (val zs) := (Nat.le_div_iff_mul_le hp).2 (by rw [Nat.mul_comm]; exact h0)
      have e : ((4096 / nl (val zs) : Nat) : Int) = 4096 / (nl (val zs) : Int) := by simp
      omega)
  have S1 := h.right hz
  have B := fun v => bits_len n v hn (by omega)
  have hb := Lib.bitLen_le n.toNat 63 (by omega) (by omega)
  have HB : Hid (n.toNat < 2 ^ Lib.bitLen n.toNat) := by
    show _ < _
    rw [nbits_bitLen _ (by omega)]; exact lt_nbits _
  have NW := fun k hk => nl_pow (A := val zs) (n := n.toNat) (k := k) hok hk
  clear T h hz hok
  generalize val zs = A at *
  generalize hN : n.toNat = N at *
  have HN : Hid (n = (N : Int)) := (by omega : n = (N : Int))
  clear hN
  generalize Lib.bitLen N = K at B hb HB
  go_enter Tryz.func99, Tryz.ntmps99
  go_wp2_with (first
    | (go_at_call 118; with_reducible refine Calls.mono R1 ?_; rintro e w1 ⟨rfl, rfl⟩)
    | (go_at_call 124; with_reducible refine Calls.mono T1 ?_; rintro e w2 ⟨rfl, bb⟩)
    | (go_at_call 54; (with_reducible refine Calls.mono (one_of _) ?_); rintro e w3 ⟨a3, c3, rfl, o3⟩)
    | (go_at_call 125; with_reducible refine Calls.mono (B _) ?_; rintro e w4 ⟨rfl, rfl⟩))
  clear R1 T1 B
  go_loopw [6, 7] (fun p i v => ∃ (k : Nat) (pa : Option Addr) (pl pc : Nat) (P : List Int), k ≤ 63 ∧ i = .int .i64 ((k : Int) - 1) ∧ p = .slice pa pl pc ∧ Own w v (.slice pa pl pc) pl P ∧ pl = nl (A ^ (N / 2 ^ k)) ∧ P = natOf (A ^ (N / 2 ^ k))) (fun _ i _ => (intOf i + 1).toNat)
  case atStart => exact ⟨K, a3, _, c3, _, hb, rfl, rfl, o3.outer bb, by rw [Nat.div_eq_of_lt HB.out, Nat.pow_zero], by rw [Nat.div_eq_of_lt HB.out, Nat.pow_zero]⟩
  case round =>
    obtain ⟨k, pa, pl, pc, P, hk, rfl, rfl, o, hpl, hP⟩ := hrel
    rcases Nat.eq_zero_or_pos k with hk0 | hk0
    · subst hk0
      rw [Nat.pow_zero, Nat.div_one] at hpl hP
      subst hpl hP
      rw [show ((0 : Nat) : Int) - 1 = -1 from rfl]
      go_wp2
      go_ret2
      exact ⟨_, _, rfl, o⟩
    · obtain ⟨t, rfl⟩ : ∃ t, k = t + 1 := ⟨k - 1, by omega⟩
      rw [show ((t + 1 : Nat) : Int) - 1 = t by omega]
      have W1 := NW (N / 2 ^ (t + 1)) (Nat.div_le_self _ _)
      have W2 := NW (2 * (N / 2 ^ (t + 1))) (by have := pow_step N t; have := Nat.div_le_self N (2 ^ t); omega)
      subst hP
      have M1 := fun v (p : IsWords v (.slice pa pl pc) _) => times_mul pa pl pc _ pa pl pc _ v p (wd_natOf (A ^ (N / 2 ^ (t + 1)))) p (wd_natOf (A ^ (N / 2 ^ (t + 1)))) (by rw [hpl]; omega) (by rw [hpl]; omega)
      rw [val_natOf, pow_sq] at M1
      have HP : Hid (pl = nl (A ^ (N / 2 ^ (t + 1)))) := hpl
      clear hpl
      have EB : bits BinOp.and IntKind.i64 (n / 2 ^ t) 1 = ((N / 2 ^ t % 2 : Nat) : Int) := by
        rw [HN.out, ← and_one _ (Nat.lt_of_le_of_lt (Nat.div_le_self N (2 ^ t)) (by have := HN.out; omega))]
        congr 1
      have PS := pow_step N t
      rcases Nat.mod_two_eq_zero_or_one (N / 2 ^ t) with hb0 | hb0
      · have EB' : (bits BinOp.and IntKind.i64 (n / 2 ^ t) 1 == 1) = false := by rw [EB, hb0]; rfl
        have HE : Hid (N / 2 ^ t = 2 * (N / 2 ^ (t + 1))) := (by omega : N / 2 ^ t = 2 * (N / 2 ^ (t + 1)))
        clear EB PS hb0 NW
        go_wp2_with (first
          | (go_at_call 89; (with_reducible refine Calls.mono (M1 _ o.words) ?_); rintro e w5 ⟨a5, c5, rfl, o5⟩))
        go_roundw
        case rel => exact ⟨t, a5, _, c5, _, by omega, rfl, rfl, o5.outer o.below, by rw [HE.out], by rw [HE.out]⟩
        case measure => simp [intOf]
      · have EB' : (bits BinOp.and IntKind.i64 (n / 2 ^ t) 1 == 1) = true := by rw [EB, hb0]; rfl
        have HE : Hid (N / 2 ^ t = 2 * (N / 2 ^ (t + 1)) + 1) := (by omega : N / 2 ^ t = 2 * (N / 2 ^ (t + 1)) + 1)
        have M2 := fun v a5 c5 (p : IsWords v (.slice a5 (nl (A ^ (2 * (N / 2 ^ (t + 1))))) c5) (natOf (A ^ (2 * (N / 2 ^ (t + 1)))))) (q : IsWords v (.slice a (nl A) c) (natOf A)) => times_mul _ _ _ _ _ _ _ _ v p (wd_natOf _) q (wd_natOf _) (by omega) (by omega)
        rw [val_natOf, val_natOf, ← Nat.pow_succ] at M2
        clear EB PS hb0 NW
        go_wp2_with (first
          | (go_at_call 89; (with_reducible refine Calls.mono (M1 _ o.words) ?_); rintro e w5 ⟨a5, c5, rfl, o5⟩; have p5 := o5.outer o.below; have q5 := S1.below p5.below)
          | (go_at_call 89; (with_reducible refine Calls.mono (M2 _ _ _ o5.words q5) ?_); rintro e w6 ⟨a6, c6, rfl, o6⟩))
        go_roundw
        case rel => exact ⟨t, a6, _, c6, _, by omega, rfl, rfl, o6.outer p5.below, by rw [HE.out], by rw [HE.out]⟩
        case measure => simp [intOf]
end Go.Proofs.YtpimcbncmfpdhaaGreatDoor
/-
  The walks of the statements over digits (DeciParses, DeciPrints, DeciBack), for whatever package deci keeps its three contracts: they return true; memory that was there stays.
-/
namespace Go.Proofs.YtpimcbncmfpdhaaGreatDoor
open Go.RowKit

/-- Package deci's three contracts. -/
def ParseOk : Prop := ∀ (s : ByteArray) (w : World), s.size ≤ maxLen → Calls Tryz.prog 71 #[.string s] w (AnsP w (pnum s.data.toList) (perr s.data.toList))
def PrintOk : Prop := ∀ {a : Option Addr} {n c : Nat} {zs : List Int} {w : World}, IsWords w (.slice a n c) zs → Wd zs → n ≤ 1000000 → ∀ N : Nat, val zs = N →
    Calls Tryz.prog 77 #[.slice a n c] w fun e w' => e = .returned (.string ⟨(decOf N).toArray⟩) ∧ Below w.heap.size w w'
theorem num_ex : Num [52, 50, 57, 52, 57, 54, 55, 50, 57, 54] := by decide
theorem val_ex : valD [52, 50, 57, 52, 57, 54, 55, 50, 57, 54] = 4294967296 := by decide
theorem dec_ex : decOf 4294967296 = [52, 50, 57, 52, 57, 54, 55, 50, 57, 54] := by rw [← val_ex]; exact decOf_valD num_ex
theorem nat_ex : natOf 4294967296 = [0, 1] := natOf_lit [0, 1] (wd_cons' (by omega) (by omega) (wd_one (by omega) (by omega))) (by decide) (by decide)

end Go.Proofs.YtpimcbncmfpdhaaGreatDoor
/-
  Laws of no function: ranging over a text while the call makes memory: what the call owns stays while the range goes on; what a sign at a byte is. No conditions of the program.
-/
namespace Go.Proofs.YtpimcbncmfpdhaaGreatDoor
open Go.RowKit Go.Lib

theorem Own.iterAt {W w : World} {v : Value} {n : Nat} {xs : List Int} (h : Own W w v n xs) {k : Nat} {s : ByteArray} {pos : Nat} (hk : w.heap[k]? = some (.stringIter s pos)) (hW : W.heap.size ≤ k) (pos' : Nat) :
    Own W (w.iterAt k s pos') v n xs := by
  refine ⟨⟨h.1.1, ?_⟩, below_iterAt h.2 hW s pos'⟩
  rcases h.1.2 with h0 | ⟨g, cap, cur, e, h1, hg, h2⟩
  · exact .inl h0
  · have hkg : g ≠ k := by
      intro e1
      rw [e1, hk] at hg
      cases hg
    exact .inr ⟨g, cap, cur, e, h1, (iterAt_other w k g s pos' hkg).trans hg, h2⟩

/-- A range's place stays while a callee makes memory. -/
theorem iter_more {w w' : World} {k : Nat} {s : ByteArray} {pos : Nat} (hk : w.heap[k]? = some (.stringIter s pos)) (hb : Below w.heap.size w w') : w'.heap[k]? = some (.stringIter s pos) :=
  (hb.block k (Array.getElem?_eq_some_iff.1 hk).1).trans hk

theorem iter_new (w : World) (s : ByteArray) : (w.iter s 0).heap[w.heap.size]? = some (.stringIter s 0) := World.iter_heap w s 0
theorem below_iter (w : World) (s : ByteArray) (pos : Nat) : Below w.heap.size w (w.iter s pos) := (Below.refl _ w).alloc (Nat.le_refl _) _

/-- A sign above the plain ones at a byte that is not plain. -/
theorem decode_not {s : ByteArray} {pos : Nat} (h : pos < s.size) {a b : Nat} (hb : b < 128) (hc : ¬ (a ≤ (s[pos]'h).toNat ∧ (s[pos]'h).toNat ≤ b)) : (Utf8.decode s pos).1 < a ∨ b < (Utf8.decode s pos).1 := by
  by_cases ha : (s[pos]'h).toNat < 128
  · rw [decode_ascii s pos h ha]; dsimp only; omega
  · have := (decode_high s pos h (by omega)).1; omega
end Go.Proofs.YtpimcbncmfpdhaaGreatDoor
/-
  Contracts of package deci's functions isNumber and Parse, for every text: as digits and numbers; memory that was there stays.
-/
namespace Go.Proofs.YtpimcbncmfpdhaaGreatDoor
open Go.RowKit Go.Lib

theorem take_byte (s : ByteArray) (k : Nat) (h : k < s.size) : s.data.toList.take (k + 1) = s.data.toList.take k ++ [s[k]] := by
  rw [List.take_succ_eq_append_getElem (by simpa using h)]; rfl

theorem below_iterAt' {w wr : World} (hb : Below w.heap.size w wr) (s : ByteArray) (pos : Nat) : Below w.heap.size w (wr.iterAt w.heap.size s pos) := below_iterAt hb (Nat.le_refl w.heap.size) s pos

/-- The four ways in which a text of digits is a number, or isn't. -/
theorem deci_ways (s : ByteArray) (h : DigS s.data.toList) :
    ((s.toList == [48]) = false ∧ s.toList.isEmpty = true ∧ (Num s.data.toList ↔ False)) ∨ ((s.toList == [48]) = true ∧ (Num s.data.toList ↔ True)) ∨
    ((s.toList == [48]) = false ∧ s.toList.isEmpty = false ∧ ∃ h : 0 < s.size, ((s[0]'h).toNat : Int) = 48 ∧ (Num s.data.toList ↔ False)) ∨
    ((s.toList == [48]) = false ∧ s.toList.isEmpty = false ∧ ∃ h : 0 < s.size, ((s[0]'h).toNat : Int) ≠ 48 ∧ (Num s.data.toList ↔ True)) := by
  have hl : s.data.toList.length = s.size := by simp
  by_cases h0 : 0 < s.size
  · have hd := drop_byte s 0 h0
    rw [List.drop_zero] at hd
    have ht : s.toList = s[0] :: s.data.toList.drop (0 + 1) := by rw [ByteArray.toList_eq]; exact hd
    by_cases e : s.toList = [48]
    · refine .inr (.inl ⟨by rw [e]; rfl, ?_⟩)
      rw [ByteArray.toList_eq] at e
      rw [e]
      exact ⟨fun _ => trivial, fun _ => by decide⟩
    · have e1 : (s.toList == [48]) = false := by simpa using e
      have e2 : s.toList.isEmpty = false := by rw [ht]; rfl
      by_cases hc : ((s[0]'h0).toNat : Int) = 48
      · refine .inr (.inr (.inl ⟨e1, e2, h0, hc, ?_⟩))
        have h48 : s[0] = 48 := UInt8.toNat_inj.1 (by show s[0].toNat = 48; omega)
        refine ⟨fun hn => e ?_, False.elim⟩
        have := hn.2.2 (by rw [hd, h48]; rfl)
        rw [ht, h48, List.eq_nil_of_length_eq_zero (l := s.data.toList.drop (0 + 1)) (by rw [List.length_drop]; omega)]
      · refine .inr (.inr (.inr ⟨e1, e2, h0, hc, ?_⟩))
        refine ⟨fun _ => trivial, fun _ => ⟨by rw [hd]; simp, h, fun hh => ?_⟩⟩
        rw [hd] at hh
        have h48 : s[0] = 48 := Option.some.inj hh
        exact absurd (by rw [h48]; rfl) hc
  · have e : s.data.toList = [] := List.eq_nil_of_length_eq_zero (by omega)
    have ht : s.toList = [] := by rw [ByteArray.toList_eq]; exact e
    exact .inl ⟨by rw [ht]; rfl, by rw [ht]; rfl, fun hn => hn.1 e, False.elim⟩

set_option maxHeartbeats 4000000 in
theorem deci_isNumber (s : ByteArray) (w : World) (hs : s.size ≤ 1000) (b : Bool) (hb : (b = true ↔ Num s.data.toList)) :
    Calls Tryz.prog 102 #[.string s] w fun e w' => e = .returned (.bool b) ∧ Below w.heap.size w w' := by
  have HB : Hid (b = true ↔ Num s.data.toList) := hb
  have HS : Hid (s.data.toList.length = s.size ∧ s.size ≤ 1000) := ⟨by simp, hs⟩
  clear hb hs
  go_enter Tryz.func102, Tryz.ntmps102
  go_wp2
  go_loopg [4] s.size (fun k s4 v => ∃ (pos : Nat), pos + k = s.size ∧ v.heap[w.heap.size]? = some (.stringIter s pos) ∧ Below w.heap.size w v ∧ DigS (s.data.toList.take pos))
  case atStart => exact ⟨0, by omega, iter_new w s, below_iter w s 0, by rw [List.take_zero]; intro c hc; cases hc⟩
  case round =>
    obtain ⟨pos, hk, hit, bw, hd⟩ := hrel
    have HD : Hid (DigS (s.data.toList.take pos)) := hd
    cases gk with
    | zero =>
      have e : s.data.toList.take pos = s.data.toList := List.take_of_length_le (by rw [HS.out.1]; omega)
      rw [e] at hd
      have hnx : ∀ ty, (Instr.next (.pointer (some ⟨w.heap.size, 0, none⟩)) true ty).run Tryz.prog wr = _ := fun ty => run_next_end_at wr w.heap.size s pos ty hit (by omega)
      have HD2 : Hid (DigS s.data.toList) := hd
      clear e hd HD hit hk
      rcases deci_ways s HD2.out with ⟨c1, c2, c3⟩ | ⟨c1, c3⟩ | ⟨c1, c2, c0, c4, c3⟩ | ⟨c1, c2, c0, c4, c3⟩
      all_goals
        have HC : Hid (b = true ↔ _) := HB.out.trans c3
        clear c3
        go_wp2
        go_ret
        exact ⟨ret_bool (by rw [Bool.eq_iff_iff, HC.out]; first | (simp; done) | simpa using c4), bw⟩
    | succ k =>
      have hp : pos < s.size := by omega
      by_cases hdig : 48 ≤ (s[pos].toNat : Int) ∧ (s[pos].toNat : Int) ≤ 57
      · obtain ⟨c0, c1⟩ := hdig
        have hnx : ∀ ty, (Instr.next (.pointer (some ⟨w.heap.size, 0, none⟩)) true ty).run Tryz.prog wr = _ := fun ty => run_next_ascii_at wr w.heap.size s pos ty hit hp (by omega)
        have HD2 : Hid (DigS (s.data.toList.take (pos + 1))) := by
          show DigS _
          rw [take_byte s pos hp, digS_append, digS_one]; exact ⟨hd, by omega⟩
        have hi2 := iterAt_heap wr w.heap.size s pos (pos + 1) hit
        have hbl := below_iterAt' bw s (pos + 1)
        generalize wr.iterAt w.heap.size s (pos + 1) = wi at hnx hi2 hbl
        clear hd HD hit
        go_wp2
        go_roundg k
        case measure => omega
        case rel => exact ⟨pos + 1, by omega, hi2, hbl, HD2.out⟩
      · have hn : ¬ Num s.data.toList := fun hN => hdig (by have := hN.2.1 s[pos] (by rw [← List.take_append_drop pos s.data.toList, drop_byte s pos hp]; simp); omega)
        have hbf : b = false := by
          cases b with
          | false => rfl
          | true => exact absurd (HB.out.1 rfl) hn
        have HQ : Hid (b = false) := hbf
        have hdec := decode_not hp (a := 48) (b := 57) (by omega) (by omega)
        have hnx : ∀ ty, (Instr.next (.pointer (some ⟨w.heap.size, 0, none⟩)) true ty).run Tryz.prog wr = _ := fun ty => run_next_any_at wr w.heap.size s pos ty hit hp
        have hbl := below_iterAt' bw s (pos + (Utf8.decode s pos).2)
        generalize wr.iterAt w.heap.size s (pos + (Utf8.decode s pos).2) = wi at hnx hbl
        generalize (Utf8.decode s pos).1 = r at hnx hdec
        clear hd HD hit hn hbf hdig
        rcases (by omega : (r : Int) < 48 ∨ (¬ (r : Int) < 48 ∧ 57 < (r : Int))) with d0 | ⟨d0, d1⟩
        all_goals
          clear hdec
          go_wp2
          go_ret
          exact ⟨by rw [HQ.out]; rfl, hbl⟩

set_option maxHeartbeats 4000000 in
theorem deci_parse : ParseOk := by
  intro s w hs
  unfold maxLen at hs
  have hsz : s.data.toList.length = s.size := by simp
  by_cases h1 : 1000 < s.size
  · rw [pnum_long (by omega), perr_long (by omega)]
    clear hsz
    go_enter Tryz.func71, Tryz.ntmps71
    go_wp2
    go_ret2
    exact ansP_no (Below.refl _ _)
  have h1' : ¬ (1000 : Int) < (s.size : Int) := by omega
  by_cases hn : Num s.data.toList
  case neg =>
    rw [pnum_no hn, perr_no (by omega) hn]
    have N1 := fun v => deci_isNumber s v (by omega) false (by simpa using hn)
    clear hsz hs hn
    go_enter Tryz.func71, Tryz.ntmps71
    go_wp2_with (go_at_call 102; (with_reducible refine Calls.mono (N1 _) ?_); rintro e w1 ⟨rfl, b1⟩)
    go_ret2
    exact ansP_no b1
  case pos =>
    rw [pnum_ok (by omega) hn, perr_ok (by omega) hn]
    have N1 := fun v => deci_isNumber s v (by omega) true (by simpa using hn)
    have HN : Hid (DigS s.data.toList ∧ s.data.toList.length = s.size) := ⟨hn.2.1, hsz⟩
    clear hsz hs hn
    go_enter Tryz.func71, Tryz.ntmps71
    go_wp2_with (go_at_call 102; (with_reducible refine Calls.mono (N1 _) ?_); rintro e w1 ⟨rfl, b1⟩)
    clear N1
    go_loopg [4, 6] s.size (fun k s4 s6 v => ∃ (pos : Nat) (a4 : Option Addr) (n4 c4 : Nat), pos + k = s.size ∧ v.heap[w1.heap.size]? = some (.stringIter s pos) ∧ s4 = .slice a4 n4 c4 ∧ n4 = nl (valD (s.data.toList.take pos)) ∧ Own w v (.slice a4 n4 c4) n4 (natOf (valD (s.data.toList.take pos))))
    case atStart =>
      refine ⟨0, none, 0, 0, by omega, iter_new w1 s, rfl, ?_, ?_⟩
      · rw [List.take_zero, valD_nil, nl_zero]
      · rw [List.take_zero, valD_nil, natOf_zero]; exact Own.nil (below_more b1 (below_iter w1 s 0))
    case round =>
      obtain ⟨pos, a4, n4, c4, hk, hit, rfl, e4, o4⟩ := hrel
      cases gk with
      | zero =>
        have e : s.data.toList.take pos = s.data.toList := List.take_of_length_le (by rw [HN.out.2]; omega)
        rw [e] at e4 o4
        subst e4
        have hnx : ∀ ty, (Instr.next (.pointer (some ⟨w1.heap.size, 0, none⟩)) true ty).run Tryz.prog wr = _ := fun ty => run_next_end_at wr w1.heap.size s pos ty hit (by omega)
        clear e hit hk
        go_wp2
        go_ret2
        exact ⟨_, _, rfl, o4⟩
      | succ k =>
        have hp : pos < s.size := by omega
        have hsize : w.heap.size ≤ w1.heap.size := b1.size
        have hdig := HN.out.1 s[pos] (by rw [← List.take_append_drop pos s.data.toList, drop_byte s pos hp]; simp)
        have c0 : 48 ≤ (s[pos].toNat : Int) := by omega
        have c1 : (s[pos].toNat : Int) ≤ 57 := by omega
        have hd : DigS (s.data.toList.take pos) := fun c hc => HN.out.1 c (List.mem_of_mem_take hc)
        have hnx : ∀ ty, (Instr.next (.pointer (some ⟨w1.heap.size, 0, none⟩)) true ty).run Tryz.prog wr = _ := fun ty => run_next_ascii_at wr w1.heap.size s pos ty hit hp (by omega)
        have b4 := nl_digits hd
        have hlen := List.length_take_le pos s.data.toList
        have O1 := fun v (p : IsWords v (.slice a4 n4 c4) (natOf (valD (s.data.toList.take pos)))) => times_one' p (wd_natOf _) (x := 10) (y := (s[pos].toNat : Int) - 48) (by omega) (by omega) (by omega) (by omega) (by omega) (valD (s.data.toList.take (pos + 1))) (by rw [val_natOf, take_byte s pos hp, valD_snoc, show (10 : Int).toNat = 10 from rfl]; omega)
        unfold Ans at O1
        generalize valD (s.data.toList.take pos) = K1 at e4 o4 b4 O1
        generalize hK2 : valD (s.data.toList.take (pos + 1)) = K2 at O1
        have HK : Hid (valD (s.data.toList.take (pos + 1)) = K2) := hK2
        have oi := o4.iterAt hit hsize (pos + 1)
        have hi2 := iterAt_heap wr w1.heap.size s pos (pos + 1) hit
        generalize wr.iterAt w1.heap.size s (pos + 1) = wi at hnx oi hi2
        clear hK2 hd b4 e4 hit hlen hdig
        go_wp2_with (go_at_call 103; (with_reducible refine Calls.mono (O1 _ oi.words) ?_); rintro e w2 ⟨a6, c6, rfl, o6⟩)
        have k2 := HK.out
        go_roundg k
        case measure => omega
        case rel => exact ⟨pos + 1, _, _, _, by omega, iter_more hi2 o6.below, rfl, by rw [k2], by rw [k2]; exact o6.outer oi.below⟩
end Go.Proofs.YtpimcbncmfpdhaaGreatDoor
/-
  Plain mathematics of decimal digits in groups: so many digits of a number, also the 0s ahead; the digits of a text without the 0s ahead. No conditions of the program.
-/
namespace Go.Proofs.YtpimcbncmfpdhaaGreatDoor

/-- The last k digits of a number, also the 0s ahead. -/
def pad : Nat → Nat → List UInt8
  | 0, _ => []
  | k + 1, g => pad k (g / 10) ++ [UInt8.ofNat (48 + g % 10)]

theorem pad_len (k g : Nat) : (pad k g).length = k := by
  induction k generalizing g with
  | zero => rfl
  | succ k ih => rw [pad, List.length_append, ih, List.length_singleton]
theorem digS_pad (k g : Nat) : DigS (pad k g) := by
  induction k generalizing g with
  | zero => intro c hc; cases hc
  | succ k ih => rw [pad, digS_append, digS_one, digit_nat]; exact ⟨ih _, by omega⟩
theorem valD_pad (k g : Nat) : valD (pad k g) = g % 10 ^ k := by
  induction k generalizing g with
  | zero => rw [Nat.pow_zero, Nat.mod_one]; rfl
  | succ k ih =>
    rw [pad, valD_snoc, ih, digit_nat, Nat.pow_succ, Nat.mul_comm (10 ^ k) 10, Nat.mod_mul]
    omega
/-- One group more. -/
theorem valD_group (l : List UInt8) {k g : Nat} (h : g < 10 ^ k) : valD (l ++ pad k g) = valD l * 10 ^ k + g := by
  rw [valD_append, pad_len, valD_pad, Nat.mod_eq_of_lt h]
/-- Without the 0s ahead a text of digits is its number's. -/
theorem trim_dg {l : List UInt8} (h : DigS l) : l.dropWhile (· == 48) = dg (valD l) := by
  induction l with
  | nil => rw [valD_nil, dg_zero]; rfl
  | cons c l ih =>
    obtain ⟨hc, hl⟩ := digS_cons.1 h
    by_cases e : c = 48
    · subst e
      rw [List.dropWhile_cons_of_pos (by decide), ih hl, valD_cons]
      congr 1
      simp
    · rw [List.dropWhile_cons_of_neg (by simpa using e)]
      exact (dg_valD h (by simpa using e)).symm
/-- The groups of a number, told from the highest one on: what has been told, and one more. -/
theorem told_step (N B j : Nat) : N / B ^ (j + 1) * B + N / B ^ j % B = N / B ^ j := by
  rw [Nat.pow_succ, ← Nat.div_div_eq_div_mul]
  have := Nat.div_add_mod (N / B ^ j) B
  rw [Nat.mul_comm] at this
  exact this
end Go.Proofs.YtpimcbncmfpdhaaGreatDoor
/-
  Contract of package deci's function groups, for every list of up to a million words: the number's digits by nine, the lowest ones first; memory that was there stays.
-/
namespace Go.Proofs.YtpimcbncmfpdhaaGreatDoor
open Go.RowKit

/-- Words that are a number's digits by nine, the lowest ones first: m of them. -/
def Grps (N m : Nat) (zs : List Int) : Prop := zs.length = m ∧ ∀ i, i < m → zs.getD i 0 = ((N / 1000000000 ^ i % 1000000000 : Nat) : Int)

theorem grps_nil (N : Nat) : Grps N 0 [] := ⟨rfl, fun i h => absurd h (Nat.not_lt_zero i)⟩
theorem grps_more {N m : Nat} {zs : List Int} (h : Grps N m zs) : Grps N (m + 1) (zs ++ [((N / 1000000000 ^ m % 1000000000 : Nat) : Int)]) := by
  refine ⟨by rw [List.length_append, h.1, List.length_singleton], fun i hi => ?_⟩
  rcases Nat.lt_or_ge i m with h1 | h1
  · rw [List.getD_eq_getElem?_getD, List.getElem?_append_left (by rw [h.1]; exact h1), ← List.getD_eq_getElem?_getD]; exact h.2 i h1
  · obtain rfl : i = m := by omega
    rw [List.getD_eq_getElem?_getD, List.getElem?_append_right (by rw [h.1]; exact Nat.le_refl _), h.1, Nat.sub_self]; rfl
/-- As long as something is left there are fewer than two groups a word. -/
theorem grps_few {N m : Nat} (h : 0 < N / 1000000000 ^ m) : m < 2 * nl N := by
  have h1 : 1000000000 ^ m ≤ N := by
    rcases Nat.lt_or_ge N (1000000000 ^ m) with h2 | h2
    · rw [Nat.div_eq_of_lt h2] at h; omega
    · exact h2
  have h2 : 65536 ^ m ≤ 1000000000 ^ m := Nat.pow_le_pow_left (by omega) m
  have h3 := lt_nl N
  have h4 : 4294967296 ^ nl N = 65536 ^ (2 * nl N) := by rw [Nat.pow_mul]
  rw [h4] at h3
  exact (Nat.pow_lt_pow_iff_right (by omega : 1 < 65536)).1 (by omega)

set_option maxHeartbeats 4000000 in
theorem deci_groups {a : Option Addr} {n c : Nat} {zs : List Int} {w : World} (h : IsWords w (.slice a n c) zs) (hz : Wd zs) (hn : n ≤ 1000000) (N : Nat) (hN : val zs = N) :
    Calls Tryz.prog 108 #[.slice a n c] w fun e w' => ∃ (a' : Option Addr) (m c' : Nat) (ys : List Int), e = .returned (.slice a' m c') ∧ Own w w' (.slice a' m c') m ys ∧ Grps N m ys ∧ N < 1000000000 ^ m ∧ m ≤ 2000000 := by
  have lN : nl N ≤ 1000000 := by rw [← hN]; exact nl_small hz _ (by rw [h.len]; exact hn)
  have HL : Hid (nl N ≤ 1000000) := lN
  have HI : Hid (IsWords w (.slice a n c) zs ∧ Wd zs ∧ n ≤ 1000000 ∧ val zs = N) := ⟨h, hz, hn, hN⟩
  clear h hz hn hN lN
  go_enter Tryz.func108, Tryz.ntmps108
  go_wp2
  go_loopg [0, 3] N (fun X s0 s3 v => ∃ (a0 : Option Addr) (n0 c0 : Nat) (xs : List Int) (a3 : Option Addr) (m c3 : Nat) (ys : List Int), s0 = .slice a0 n0 c0 ∧ s3 = .slice a3 m c3 ∧ IsWords v (.slice a0 n0 c0) xs ∧ Wd xs ∧ n0 ≤ 1000000 ∧ val xs = X ∧ Own w v (.slice a3 m c3) m ys ∧ Grps N m ys ∧ X = N / 1000000000 ^ m ∧ m ≤ 2000000)
  case atStart =>
    obtain ⟨i1, i2, i3, i4⟩ := HI.out
    exact ⟨_, _, _, zs, none, 0, 0, [], rfl, rfl, i1, i2, i3, i4, Own.nil (Below.refl _ _), grps_nil N, by simp, by omega⟩
  case round =>
    obtain ⟨a0, n0, c0, xs, a3, m, c3, ys, rfl, rfl, i0, hw, hn0, hX, o3, hg, hX2, hm⟩ := hrel
    clear HI
    have B1 := fun (N1 : Int) (e : (nbits (val xs) : Int) = N1) => nat_bits' i0 hw (by omega) N1 e
    rw [hX] at B1
    rcases Nat.eq_zero_or_pos gk with h0 | h0
    · subst h0
      have B2 := B1 0 (by rw [nbits_zero]; rfl)
      have HQ : Hid (N < 1000000000 ^ m) := by
        show N < _
        rcases Nat.lt_or_ge N (1000000000 ^ m) with h2 | h2
        · exact h2
        · have := Nat.div_pos h2 (Nat.pow_pos (by omega)); omega
      clear B1 hX2 hX i0 hw
      go_wp2_with (go_at_call 43; (with_reducible refine Calls.mono B2 ?_); rintro e w1 ⟨rfl, rfl⟩)
      go_ret
      exact ⟨_, _, _, ys, rfl, o3, hg, HQ.out, hm⟩
    · obtain ⟨nb, hnb, nb0⟩ : ∃ nb : Int, (nbits gk : Int) = nb ∧ 0 < nb := ⟨_, rfl, by rw [nbits_pos (by omega)]; omega⟩
      have B2 := B1 nb hnb
      have S := split_small a0 n0 c0 xs 1000000000 wr i0 hw (by omega) (by omega) (by omega)
      rw [hX, show (1000000000 : Int).toNat = 1000000000 from rfl] at S
      unfold AnsSmall at S
      have hlt : m < 2 * nl N := grps_few (by rw [← hX2]; exact h0)
      obtain ⟨r, hr⟩ : ∃ r : Int, ((gk % 1000000000 : Nat) : Int) = r := ⟨_, rfl⟩
      have HG : Hid (Grps N (m + 1) (ys ++ [r])) := by
        show Grps N (m + 1) _
        rw [← hr, hX2]; exact grps_more hg
      have HX : Hid (gk / 1000000000 = N / 1000000000 ^ (m + 1)) := by
        show _ = _
        rw [hX2, Nat.pow_succ, Nat.div_div_eq_div_mul]
      have HM : Hid (m + 1 ≤ 2000000 ∧ nl (gk / 1000000000) ≤ 1000000 ∧ 0 < gk) := ⟨by have := HL.out; omega, Nat.le_trans (nl_mono (Nat.le_trans (Nat.div_le_self _ _) (by rw [hX2]; exact Nat.div_le_self _ _))) HL.out, h0⟩
      have hm1 : m + 1 ≤ 35184372088832 := by omega
      rw [hr] at S
      clear B1 hX2 hX i0 hw hg hr hnb hn0 h0 hlt hm
      go_wp2_with (first
        | (go_at_call 43; (with_reducible refine Calls.mono B2 ?_); rintro e w1 ⟨rfl, rfl⟩)
        | (go_at_call 132; (with_reducible refine Calls.mono S ?_); rintro e w2 ⟨a4, c4, rfl, o4⟩; have o5 := o3.more o4.below)
        | (at_builtin; refine wpl_append_words (.tmp 14) (.tmp 16) rfl rfl w _ _ _ m 1 ys [r] rfl rfl (o5.alloc _) (lit_words w2 [r] 1 rfl (by decide)) rfl (m + 1) rfl hm1 ?_; intro a6 c6 w6 o6 g6))
      obtain ⟨m1, m2, m3⟩ := HM.out
      go_roundg (gk / 1000000000)
      case measure => omega
      case rel =>
        have r4 : Row wr.heap.size w6 (.slice a4 (nl (gk / 1000000000)) c4) (nl (gk / 1000000000)) (natOf (gk / 1000000000)) := ((o4.alloc _).row (Nat.le_refl _)).grown g6 (fun k hk => o3.row_lt k hk)
        exact ⟨_, _, _, _, _, _, _, _, rfl, rfl, r4.words, wd_natOf _, m2, val_natOf _, o6, HG.out, HX.out, m1⟩
end Go.Proofs.YtpimcbncmfpdhaaGreatDoor
/-
  Laws of no function: a slice of bytes that begins a block from some number on: what it holds, what stays, append onto it. Conditions: Go's own limits on sizes.
-/
namespace Go.Proofs.YtpimcbncmfpdhaaGreatDoor
open Go.RowKit

theorem infoU8 : (Tryz.prog.info? 5).map (fun i => (i.zero, i.size, i.bytes)) = some (some (.int .u8 0), 1, 1) := by kernel_rfl

/-- A slice of bytes that begins a block from n₀ on. -/
def RowB (n₀ : Nat) (w : World) (v : Value) (n : Nat) (bs : List UInt8) : Prop := w.ownsRow n₀ 5 1 v n (bs.map fun b => Value.int .u8 (b.toNat : Int))

theorem RowB.length {w : World} {v : Value} {n : Nat} {bs : List UInt8} {n₀ : Nat} (h : RowB n₀ w v n bs) : bs.length = n := by
  have := h.1; simpa using this
theorem RowB.nil (n₀ : Nat) (w : World) : RowB n₀ w (.slice none 0 0) 0 [] := World.ownsRow_nil _ _ _ _
theorem RowB.more {w w' : World} {v : Value} {n : Nat} {bs : List UInt8} {n₀ : Nat} (h : RowB n₀ w v n bs) (hb : Below w.heap.size w w') : RowB n₀ w' v n bs := by
  refine ⟨h.1, ?_⟩
  rcases h.2 with h0 | ⟨g, cap, cur, e, h1, hg, h2⟩
  · exact .inl h0
  · refine .inr ⟨g, cap, cur, e, h1, ?_, h2⟩
    rw [hb.block g (Array.getElem?_eq_some_iff.1 hg).1]; exact hg
theorem RowB.keep {w w' : World} {v : Value} {n : Nat} {bs : List UInt8} {n₀ : Nat} (h : RowB n₀ w v n bs) (hb : ∀ k, n₀ ≤ k → w'.heap[k]? = w.heap[k]?) : RowB n₀ w' v n bs := by
  refine ⟨h.1, ?_⟩
  rcases h.2 with h0 | ⟨g, cap, cur, e, h1, hg, h2⟩
  · exact .inl h0
  · exact .inr ⟨g, cap, cur, e, h1, (hb g h1).trans hg, h2⟩
theorem RowB.alloc {w : World} {v : Value} {n : Nat} {bs : List UInt8} {n₀ : Nat} (h : RowB n₀ w v n bs) (o : Obj) : RowB n₀ (w.alloc o) v n bs := World.ownsRow.alloc h o
theorem RowB.lit {w : World} {v : Value} {n : Nat} {bs : List UInt8} {n₀ : Nat} (h : RowB n₀ w v n bs) : ∃ a c, v = .slice a n c := by
  rcases h.2 with ⟨rfl, rfl⟩ | ⟨g, cap, cur, rfl, -⟩
  · exact ⟨none, 0, rfl⟩
  · exact ⟨_, _, rfl⟩
theorem RowB.cell {w : World} {a : Option Addr} {n c : Nat} {bs : List UInt8} {n₀ : Nat} (h : RowB n₀ w (.slice a n c) n bs) : (a = none ∧ bs = []) ∨ ∃ g, a = some ⟨g, 0, none⟩ ∧ ∀ j (hj : j < bs.length), w.cell? ((⟨g, 0, none⟩ : Addr).add j) = some (.int .u8 (bs[j].toNat : Int)) := by
  have hl := h.length
  rcases h.2 with ⟨e, h0⟩ | ⟨g, cap, cur, e, h1, h2⟩
  · simp only [Value.slice.injEq] at e
    exact .inl ⟨e.1, List.eq_nil_of_length_eq_zero (by omega)⟩
  · simp only [Value.slice.injEq] at e
    obtain ⟨rfl, -, -⟩ := e
    refine .inr ⟨g, rfl, fun j hj => ?_⟩
    refine World.ownsRow.cells h (g := g) rfl j _ ?_
    simp [hj]

/-- append(v, b), v in a block of its own. -/
theorem wpl_append_byte {ops : Array Oper} {rest : List Oper} {o : Oper} {a : Act} {Q : Exit → Act → World → Prop} (s x : Operand)
    (ho : o.op = .call { callee := .builtin .append, args := #[s, x], argTypes := #[99, 99] }) (hgd : Region.wanted o (yielded ops a.tmps) = true)
    (n₀ : Nat) (w : World) (v : Value) (n : Nat) (bs : List UInt8) (b : UInt8) (z : Int) (hz : (b.toNat : Int) = z) (hs : a.eval s = v) (hx : a.eval x = .slice (some ⟨w.heap.size, 0, none⟩) 1 1) (hrow : RowB n₀ w v n bs) (h0 : n₀ ≤ w.heap.size) (N : Nat) (hN : n + 1 = N) (hle : N ≤ 35184372088832)
    (h : ∀ a' c' w', RowB n₀ w' (.slice a' N c') N (bs ++ [b]) → Below n₀ w w' → wpList Tryz.prog ops Q rest (a.put o.dst (.slice a' N c')) w') : wpList Tryz.prog ops Q (o :: rest) a (w.alloc (.cells #[.int .u8 z] 5)) := by
  subst hN
  subst hz
  obtain ⟨i, hi, hz, hs1, hby⟩ := info_parts infoU8
  have hmax : n + 1 ≤ maxLen := by unfold maxLen; omega
  refine wpList_step fun K hK => ?_
  rw [if_pos hgd]
  refine wp_append_own (P := Tryz.prog) _ s x 99 ho n₀ 5 i (.int .u8 0) 1 1 Tryz.underlying99 hi hz hs1 hby rfl (by decide) v n _ hs (hrow.alloc _) ⟨w.heap.size, 0, none⟩ 1 1 [.int .u8 (b.toNat : Int)] hx rfl ?_ (by intro u hu; simp at hu; subst hu; rfl) (by omega) (by omega) (by simp; omega) ?_
  · intro j u hj
    rw [Go.WideShapes.add_plain]
    have : j = 0 := by
      have := (List.getElem?_eq_some_iff.1 hj).1
      simp at this; exact this
    subst this
    simp at hj
    subst hj
    simp
  · intro v' w' h1 h2 _
    have hb : Below n₀ w w' := by
      refine ((Below.refl n₀ w).alloc h0 _).grown h2 (by simp; omega) (fun k hk => ?_)
      exact (World.ownsRow.lt (hrow.alloc (.cells #[.int .u8 (b.toNat : Int)] 5)) k hk).1
    have hnew : RowB n₀ w' v' (n + 1) (bs ++ [b]) := by unfold RowB; rw [List.map_append]; exact h1
    obtain ⟨a', c', rfl⟩ := hnew.lit
    exact hK _ _ (h a' c' w' hnew hb)
end Go.Proofs.YtpimcbncmfpdhaaGreatDoor
/-
  Contract of package deci's function appendGroup, for every text of bytes in a block of the caller's and every word: the last nine digits of the word are behind what was; nothing below that block turns.
-/
namespace Go.Proofs.YtpimcbncmfpdhaaGreatDoor
open Go.RowKit

theorem pad_next (g t : Nat) (ht : t < 9) : pad (9 - t) (g / 10 ^ t) = pad (9 - (t + 1)) (g / 10 ^ (t + 1)) ++ [UInt8.ofNat (48 + g / 10 ^ t % 10)] := by
  rw [show 9 - t = (9 - (t + 1)) + 1 by omega, pad, Nat.pow_succ, Nat.div_div_eq_div_mul]

set_option maxHeartbeats 4000000 in
theorem deci_appendGroup (n₀ : Nat) (a : Option Addr) (n c : Nat) (bs : List UInt8) (g : Int) (w : World) (h : RowB n₀ w (.slice a n c) n bs) (h0 : n₀ ≤ w.heap.size) (hn : n ≤ 1000000000) (g0 : 0 ≤ g) (g1 : g < 4294967296) :
    Calls Tryz.prog 109 #[.slice a n c, .int .u32 g] w fun e w' => ∃ (a' : Option Addr) (c' : Nat), e = .returned (.slice a' (n + 9) c') ∧ RowB n₀ w' (.slice a' (n + 9) c') (n + 9) (bs ++ pad 9 g.toNat) ∧ Below n₀ w w' := by
  have HI : Hid (RowB n₀ w (.slice a n c) n bs ∧ n₀ ≤ w.heap.size ∧ n ≤ 1000000000) := ⟨h, h0, hn⟩
  clear h h0 hn
  go_enter Tryz.func109, Tryz.ntmps109
  go_wp2
  go_loopg [0, 5] 9 (fun k s0 s5 v => ∃ (a0 : Option Addr) (m c0 : Nat), k ≤ 9 ∧ s0 = .slice a0 m c0 ∧ s5 = .int .u32 ((10 ^ k / 10 : Nat) : Int) ∧ m + k = n + 9 ∧ RowB n₀ v (.slice a0 m c0) m (bs ++ pad (9 - k) (g.toNat / 10 ^ k)) ∧ Below n₀ w v)
  case atStart =>
    obtain ⟨i1, i2, i3⟩ := HI.out
    refine ⟨a, n, c, Nat.le_refl _, rfl, rfl, rfl, ?_, Below.refl _ _⟩
    rw [Nat.sub_self]
    simpa [pad] using i1
  case round =>
    obtain ⟨a0, m, c0, hk, rfl, rfl, hm, r0, b0⟩ := hrel
    cases gk with
    | zero =>
      obtain rfl : m = n + 9 := by omega
      rw [Nat.sub_zero, Nat.pow_zero, Nat.div_one] at r0
      rw [show ((10 ^ 0 / 10 : Nat) : Int) = 0 from rfl]
      clear hm hk
      go_wp2
      go_ret
      exact ⟨_, _, rfl, r0, b0⟩
    | succ t =>
      have hn2 := HI.out.2.2
      have hpt : 10 ^ (t + 1) / 10 = 10 ^ t := by rw [Nat.pow_succ]; omega
      have hp1 : 10 ^ t ≤ 10 ^ 8 := Nat.pow_le_pow_right (by omega) (by omega)
      have hp0 : 0 < 10 ^ t := Nat.pow_pos (by omega)
      have HP := pad_next g.toNat t (by omega)
      have HU : Hid (((10 ^ t / 10 : Nat) : Int) = ((10 ^ t : Nat) : Int) / 10) := by show _ = _; rw [Int.natCast_ediv]; rfl
      rw [hpt]
      have e1 : ((g.toNat / 10 ^ t % 10 : Nat) : Int) = g / ((10 ^ t : Nat) : Int) % 10 := by
        rw [Int.natCast_emod, Int.natCast_ediv, Int.toNat_of_nonneg g0]; rfl
      have hd : ((UInt8.ofNat (48 + g.toNat / 10 ^ t % 10)).toNat : Int) = 48 + g / ((10 ^ t : Nat) : Int) % 10 := by rw [digit_nat, ← e1]; omega
      generalize UInt8.ofNat (48 + g.toNat / 10 ^ t % 10) = b at HP hd
      have HP2 : Hid (pad (9 - t) (g.toNat / 10 ^ t) = pad (9 - (t + 1)) (g.toNat / 10 ^ (t + 1)) ++ [b]) := HP
      have u1 : ((10 ^ t : Nat) : Int) ≤ 100000000 := by
        have : (10 : Nat) ^ 8 = 100000000 := rfl
        omega
      have u0 : 0 < ((10 ^ t : Nat) : Int) := by omega
      generalize ((10 ^ t : Nat) : Int) = u at u0 u1 hd HU
      have hsz := Nat.le_trans HI.out.2.1 b0.size
      generalize hl : bs ++ pad (9 - (t + 1)) (g.toNat / 10 ^ (t + 1)) = l at r0
      have HL : Hid (bs ++ pad (9 - (t + 1)) (g.toNat / 10 ^ (t + 1)) = l) := hl
      have q0 : 0 ≤ g / u := Int.ediv_nonneg g0 (by omega)
      have q1 : g / u ≤ g := Int.ediv_le_self _ g0
      clear hpt hp1 hp0 HP e1 hl HI
      have hm1 : m + 1 ≤ 35184372088832 := by omega
      go_wp2_with (at_builtin; refine wpl_append_byte (.tmp 10) (.tmp 17) rfl rfl n₀ wr _ m l b (48 + g / u % 10) hd rfl rfl r0 hsz (m + 1) rfl hm1 ?_; intro a6 c6 w6 r6 b6)
      go_roundg t
      case measure => omega
      case rel => exact ⟨_, _, _, by omega, rfl, by rw [HU.out], by omega, by rw [HP2.out, ← List.append_assoc, HL.out]; exact r6, b0.trans b6⟩
end Go.Proofs.YtpimcbncmfpdhaaGreatDoor
/-
  Contract of the library's strings.TrimLeft at the cutset 0, for every text: the text without the 0s ahead. The world is as it was.
-/
namespace Go.Proofs.YtpimcbncmfpdhaaGreatDoor
open Go.RowKit

theorem extract_tl (t : ByteArray) (b : UInt8) (l : List UInt8) (h : t.data.toList = b :: l) : (t.extract 1 t.size).data.toList = l := by
  have hl := congrArg List.length h
  have : t.size = l.length + 1 := by simpa using hl
  rw [ByteArray.data_extract, Array.toList_extract, List.extract_eq_take_drop, h]
  simp [this]

set_option maxHeartbeats 2000000 in
theorem trim_byte (s : ByteArray) (w : World) (hs : s.size ≤ maxLen) :
    Calls Tryz.prog 133 #[.string s, .int .u8 48] w fun e w' => e = .returned (.string ⟨(s.data.toList.dropWhile (· == 48)).toArray⟩) ∧ w = w' := by
  obtain ⟨L, hL⟩ : ∃ L, s.data.toList.dropWhile (· == 48) = L := ⟨_, rfl⟩
  rw [hL]
  have HL : Hid (s.data.toList.dropWhile (· == 48) = L ∧ s.size ≤ maxLen) := ⟨hL, hs⟩
  clear hL hs
  go_enter Tryz.func133, Tryz.ntmps133
  go_wp2
  go_loopg [0] s.size (fun k s0 v => ∃ t : ByteArray, s0 = .string t ∧ t.size = k ∧ k ≤ maxLen ∧ t.data.toList.dropWhile (· == 48) = L ∧ w = v)
  case atStart => exact ⟨s, rfl, rfl, HL.out.2, HL.out.1, rfl⟩
  case round =>
    obtain ⟨t, rfl, hk, hm, ht, rfl⟩ := hrel
    have hsz : t.data.toList.length = t.size := by simp
    cases gk with
    | zero =>
      have HQ : Hid (L = t.data.toList) := by
        show _ = _
        rw [← ht, List.eq_nil_of_length_eq_zero (hsz.trans hk)]; rfl
      clear hsz ht HL
      go_wp2
      go_ret
      exact ⟨by rw [HQ.out, mk_data]; rfl, rfl⟩
    | succ k =>
      have h0 : 0 < t.size := by omega
      have hd := drop_byte t 0 h0
      rw [List.drop_zero] at hd
      unfold maxLen at hm
      by_cases hc : (t[0].toNat : Int) = 48
      · have h48 : t[0] = 48 := UInt8.toNat_inj.1 (by show t[0].toNat = 48; omega)
        have e1 := extract_tl t _ _ hd
        have HQ : Hid ((t.extract 1 t.size).size = k ∧ k ≤ maxLen ∧ (t.extract 1 t.size).data.toList.dropWhile (· == 48) = L) := by
          refine ⟨?_, by unfold maxLen; omega, ?_⟩
          · rw [ByteArray.size_extract]; omega
          · rw [e1, ← ht, hd, h48]; rfl
        clear ht hd h48 hsz e1 HL
        rw [hk] at HQ
        go_wp2
        go_roundg k
        case measure => omega
        case rel => exact ⟨_, rfl, HQ.out.1, HQ.out.2.1, HQ.out.2.2, rfl⟩
      · have h48 : t[0] ≠ 48 := fun e => hc (by rw [e]; rfl)
        have HQ : Hid (L = t.data.toList) := by
          show _ = _
          rw [← ht, hd, List.dropWhile_cons_of_neg (by simpa using h48)]
        clear ht hd h48 hsz HL
        go_wp2
        go_ret
        exact ⟨by rw [HQ.out, mk_data]; rfl, rfl⟩

set_option maxHeartbeats 2000000 in
set_option maxRecDepth 100000 in
theorem trim_left (s : ByteArray) (w : World) (hs : s.size ≤ maxLen) :
    Calls Tryz.prog 110 #[.string s, .string ⟨#[48]⟩] w fun e w' => e = .returned (.string ⟨(s.data.toList.dropWhile (· == 48)).toArray⟩) ∧ w = w' := by
  have T := trim_byte s w hs
  by_cases h0 : s.toList.isEmpty = true
  · have e : s.data.toList = [] := by rw [← ByteArray.toList_eq]; simpa using h0
    have HE : Hid (s = ⟨([] : List UInt8).toArray⟩) := by show _ = _; rw [← e, mk_data]
    rw [e]
    clear e T hs
    go_enter Tryz.func110, Tryz.ntmps110
    go_wp2
    go_ret
    exact ⟨by rw [HE.out]; rfl, rfl⟩
  · have h0' : s.toList.isEmpty = false := by simpa using h0
    clear h0 hs
    generalize s.data.toList.dropWhile (· == 48) = L at T
    go_enter Tryz.func110, Tryz.ntmps110
    go_wp2_with (go_at_call 133; (refine Calls.mono T ?_); rintro e w1 ⟨rfl, rfl⟩)
    go_ret
    exact ⟨rfl, rfl⟩
end Go.Proofs.YtpimcbncmfpdhaaGreatDoor
/-
  A law of no function: a range over a function that tells pairs, one after the other, so many: each round goes on, turns what it keeps account of, may make memory, and leaves the range's own two blocks alone. Conditions: none of the program.
-/
namespace Go.Proofs.YtpimcbncmfpdhaaGreatDoor
open Go.RowKit

theorem wpIn_range_made {x y : Nat → Value} {F : Fence} {n : Nat} {P : Program} {g : Operand} {p q : Tmp} {assign body : Code} {Q : Exit → Act → World → Prop} {a : Act} {w : World}
    (hro : F.round = none) (h1 : 1 ≤ n) {gf : Nat} {lb : Array Value} (hg : a.eval g = .func (.func gf) #[] lb) (hFg : F.fn gf) (eg : ∀ args w, (callFunc gf args).run P w = .ok (.enter gf args) w)
    (m : Nat) (I : Nat → World → Prop) (h0 : I 0 w) (hIb : ∀ k A B, I k A → Below A.heap.size A B → I k B) (hIp : ∀ k A r o, I k A → r = w.heap.size ∨ r = w.heap.size + 1 → I k (A.putObj r o))
    (a₁ : Nat → Act)
    (hassign : ∀ l k W K, K (a₁ k) W → assign.wpIn (F.inRound l) (n - 1 - 1) P (Exit.then K (fun _ _ _ => False)) { tmps := (a.tmps.setIfInBounds p (x k)).setIfInBounds q (y k), defers := [] } W)
    (hbody : ∀ l k W, k < m → I k W → w.heap.size + 2 ≤ W.heap.size → body.wpIn (F.inRound l) (n - 1 - 1) P (fun e _ W' => e = .normal ∧ I (k + 1) W' ∧ W.heap.size ≤ W'.heap.size ∧ ∀ j, j = w.heap.size ∨ j = w.heap.size + 1 → W'.heap[j]? = W.heap[j]?) (a₁ k) W)
    (hseq : ∀ l (J : Nat → World → Prop) W, (∀ k A, J k A → I k A) → (∀ k A B, J k A → Below A.heap.size A B → J k B) →
      (∀ k A, k < m → J k A → YieldAt F (n - 1 - 1) P l #[x k, y k] A fun e B => e = .returned (.bool true) ∧ J (k + 1) B) → J 0 W →
      CallsIn F (n - 1) P gf (#[.func (.yield l) #[] #[]] ++ lb) W fun e B => (∃ v, e = .returned v) ∧ J m B)
    (hdone : ∀ D W, w.heap.size ≤ D → D < w.heap.size + 2 → I m W → w.heap.size + 2 ≤ W.heap.size → W.heap[D]? = some (.deferred (some [])) → Q .normal { a with defers := { target := .collected D, args := #[] } :: a.defers } W) :
    (Code.rangeFunc g #[p, q] assign body).wpIn F n P Q a w := by
  refine wpIn_rangeFunc ?_
  intro fn hfn
  rw [hro]
  obtain ⟨R, hR⟩ : ∃ R : LoopState → Loop, R = fun st => { state := st, pending := none, fn, tmps := a.tmps, params := #[p, q], assign, body, defers := w.heap.size } := ⟨_, rfl⟩
  obtain ⟨V, hV⟩ : ∃ V, (w.alloc (.deferred (some []))).alloc (.loop (R .ready)) = V := ⟨_, rfl⟩
  have z1 : V.heap.size = w.heap.size + 2 := by rw [← hV]; simp
  have bV : Below w.heap.size w V := by rw [← hV]; exact ((Below.refl _ w).alloc (Nat.le_refl _) _).alloc (by simp) _
  have kL : V.heap[w.heap.size + 1]? = some (.loop (R .ready)) := by
    rw [← hV]; have := World.alloc_heap_new (w.alloc (.deferred (some []))) (.loop (R .ready)); rwa [World.size_alloc] at this
  have kD : V.heap[w.heap.size]? = some (.deferred (some [])) := by
    rw [← hV]; exact (Below.heap_alloc _ _ _ (by simp)).trans (World.alloc_heap_new w _)
  refine ⟨w.heap.size + 1, [{ target := .collected w.heap.size, args := #[] }], V, { target := .fn (.func gf) lb, args := #[.func (.yield (w.heap.size + 1)) #[] #[]] }, V, gf, #[.func (.yield (w.heap.size + 1)) #[] #[]] ++ lb, V, ?_, ?_, ?_, ?_, fun _ => h1, ?_⟩
  · rw [← hV, hR]; exact run_enterLoop_outer _ _ _ _ _
  · simp only [resolve, hg]; simp [go_sem]
  · intro f' hf'; simp [Target.leads] at hf'; subst hf'; exact hFg
  · simp [invoke, go_sem, eg]
  refine (hseq (w.heap.size + 1) (fun k A => I k A ∧ A.heap[w.heap.size + 1]? = some (.loop (R .ready)) ∧ A.heap[w.heap.size]? = some (.deferred (some []))) V (fun _ _ h => h.1) ?_ ?_ ⟨hIb _ _ _ h0 bV, kL, kD⟩).mono ?_
  · rintro k A B ⟨i, l, d⟩ hb
    have lt := (Array.getElem?_eq_some_iff.1 l).1
    exact ⟨hIb k A B i hb, (hb.block _ lt).trans l, (hb.block _ (by omega)).trans d⟩
  · rintro k A hk ⟨i, l, d⟩
    have lt := (Array.getElem?_eq_some_iff.1 l).1
    have hy : (Instr.yield (w.heap.size + 1) #[x k, y k]).run P A = .ok (.round (w.heap.size + 1) fn ((a.tmps.setIfInBounds p (x k)).setIfInBounds q (y k)) assign body) A := by
      have := run_yield (P := P) (args := #[x k, y k]) l (by rw [hR]; rfl)
      rw [hR] at this
      simpa using this
    refine ⟨fn, _, assign, body, hy, roundIn_of_wpIn hfn ?_⟩
    refine hassign _ k A _ ?_
    refine ⟨_, run_beginRound l (by rw [hR]), ?_⟩
    have l2 : (A.putObj (w.heap.size + 1) (.loop { R .ready with state := .busy })).heap[w.heap.size + 1]? = some (.loop { R .ready with state := .busy }) := World.putObj_heap_same lt
    refine wpIn_mono (hbody _ k _ hk (hIp _ _ _ _ i (.inr rfl)) (by simp; omega)) ?_
    rintro e a3 B ⟨rfl, i3, z3, k3⟩
    have l3 := (k3 (w.heap.size + 1) (.inr rfl)).trans l2
    have hend := run_endRound (P := P) none l3
    have d3 := (k3 w.heap.size (.inl rfl)).trans ((World.putObj_heap_other (by omega)).trans d)
    have l4 := World.putObj_heap_same (o := .loop (R .ready)) (Array.getElem?_eq_some_iff.1 l3).1
    refine ⟨_, _, hend, rfl, hIp _ _ _ _ i3 (.inr rfl), ?_, (World.putObj_heap_other (by omega)).trans d3⟩
    rw [hR] at l4 ⊢; exact l4
  · rintro e B ⟨⟨v, rfl⟩, i, l, d⟩
    have lt := (Array.getElem?_eq_some_iff.1 l).1
    refine ⟨none, _, ?_, hdone w.heap.size _ (Nat.le_refl _) (by omega) (hIp _ _ (w.heap.size + 1) (.loop { R .ready with state := .exhausted }) i (.inr rfl)) (by simp; omega) ((World.putObj_heap_other (by omega)).trans d)⟩
    have := run_endLoop (P := P) l (by rw [hR]; simp)
    rw [hR] at this ⊢
    exact this
end Go.Proofs.YtpimcbncmfpdhaaGreatDoor
/-
  Contract of the library's slices.Backward at a list of words, inside a range over it: whatever keeps to what is asked of a round, all words are told, each once, the last one first. Memory is turned by the rounds alone.
-/
namespace Go.Proofs.YtpimcbncmfpdhaaGreatDoor
open Go.RowKit Go.Shelf
attribute [local go_sem] Oper.semAt_some

theorem back_made (n : Nat) (a : Option Addr) (m c : Nat) (w : World) :
    CallsIn Fence.wide n Tryz.prog 107 #[.slice a m c] w fun e w' => e = .returned (.func (.func 131) #[] #[.pointer (some ⟨w.heap.size, 0, none⟩)]) ∧ w' = w.alloc (.cells #[.slice a m c] 22) := by
  refine callsIn_wide.2 ?_
  go_enter Tryz.func107, Tryz.ntmps107
  go_wp2
  go_ret
  exact ⟨by simp, rfl⟩

set_option maxHeartbeats 4000000 in
theorem back_iter (n l B : Nat) (hn : 1 ≤ n) (J : Nat → World → Prop) (a : Option Addr) (m c : Nat) (zs : List Int) (hm : m ≤ 1000000000)
    (hJ : ∀ k A, J k A → A.cell? ⟨B, 0, none⟩ = some (.slice a m c) ∧ IsWords A (.slice a m c) zs)
    (hY : ∀ k A, k < m → J k A → YieldAt Fence.wide (n - 1) Tryz.prog l #[.int .i64 ((m : Int) - 1 - k), .int .u32 (zs.getD (m - 1 - k) 0)] A fun e A' => e = .returned (.bool true) ∧ J (k + 1) A')
    (W : World) (h0 : J 0 W) :
    CallsIn Fence.wide n Tryz.prog 131 #[.func (.yield l) #[] #[], .pointer (some ⟨B, 0, none⟩)] W fun e W' => (∃ v, e = .returned v) ∧ J m W' := by
  have hmx : Tryz.prog.follows .mixedOrders = true := by kernel_rfl
  have c0 := (hJ _ _ h0).1
  refine callsIn_of_wp Tryz.func131 rfl trivial ?_ rfl
  simp only [Tryz.ntmps131, List.size_toArray, List.length_cons, List.length_nil, Nat.reduceAdd, Nat.reduceSub, Array.replicate_succ, Array.replicate_zero, List.push_toArray, List.append_toArray, List.nil_append, List.cons_append]
  gi_wp2
  gi_loopg [3] m (fun g v3 v => ∃ k : Nat, k + g = m ∧ v3 = .int .i64 ((g : Int) - 1) ∧ J k v)
  case atStart => exact ⟨0, by omega, by first | rfl | (congr 1; omega), h0⟩
  case round =>
    obtain ⟨k, hk, rfl, hj⟩ := hrel
    cases gk with
    | zero =>
      obtain rfl : k = m := by omega
      rw [show ((0 : Nat) : Int) - 1 = -1 from rfl]
      clear hJ hY hk
      gi_wp2
      go_end0
      exact ⟨⟨_, rfl⟩, hj⟩
    | succ t =>
      obtain ⟨cb, iw⟩ := hJ _ _ hj
      obtain ⟨⟨hl, hr⟩, hn2⟩ := iw.reads
      rcases hr with h1 | ⟨b, off, rfl, hc⟩
      · omega
      have hck := hc t (by omega)
      obtain ⟨fn, tmps, assign, body, hy, hR⟩ := hY k wr (by omega) hj
      rw [show (m : Int) - 1 - k = t by omega, show m - 1 - k = t by omega] at hy
      rw [show ((t + 1 : Nat) : Int) - 1 = t by omega]
      generalize zs.getD t 0 = z at hck hy
      clear hJ hc iw hY
      gi_wp2
      refine hR.mono ?_
      rintro e W3 ⟨rfl, hj3⟩
      gi_wp2
      gi_roundg t
      case measure => omega
      case rel => exact ⟨k + 1, by omega, by first | rfl | (congr 1; omega), hj3⟩
end Go.Proofs.YtpimcbncmfpdhaaGreatDoor
