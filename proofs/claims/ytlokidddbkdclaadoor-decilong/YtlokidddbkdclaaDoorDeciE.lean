/-
  Contract of the library's slices.Backward at a list of words, inside a range over it: whatever keeps to what is asked of a round, all words are told, each once, the last one first. Memory is turned by the rounds alone.
-/
import Derived.Test.YtlokidddbkdclaaDoorNatA
import Derived.Test.YtlokidddbkdclaaDoorRangeMade
import Derived.RangeFuncNested
import Derived.RangeFuncBound
import Derived.RangeFuncCalls
import Derived.RangeFuncLeaves
import Derived.Shelf.Abstract
import Derived.Shelf.RegionOpen
import Derived.OwnWalkIn
import Derived.TacticsInMore
import Derived.LoopNIn
import Derived.LoopIn
import Derived.Sort.LoopGhostIn
namespace Go.Proofs.YtlokidddbkdclaaDoor
open Go.RowKit Go.Shelf
attribute [local go_sem] Oper.semAt_some

theorem back_made (n : Nat) (a : Option Addr) (m c : Nat) (w : World) :
    CallsIn Fence.wide n Tryd.prog 28 #[.slice a m c] w fun e w' => e = .returned (.func (.func 48) #[] #[.pointer (some ⟨w.heap.size, 0, none⟩)]) ∧ w' = w.alloc (.cells #[.slice a m c] 23) := by
  refine callsIn_wide.2 ?_
  go_enter Tryd.func28, Tryd.ntmps28
  go_wp2
  go_ret
  exact ⟨by simp, rfl⟩

set_option maxHeartbeats 4000000 in
theorem back_iter (n l B : Nat) (hn : 1 ≤ n) (J : Nat → World → Prop) (a : Option Addr) (m c : Nat) (zs : List Int) (hm : m ≤ 1000000000)
    (hJ : ∀ k A, J k A → A.cell? ⟨B, 0, none⟩ = some (.slice a m c) ∧ IsWords A (.slice a m c) zs)
    (hY : ∀ k A, k < m → J k A → YieldAt Fence.wide (n - 1) Tryd.prog l #[.int .i64 ((m : Int) - 1 - k), .int .u32 (zs.getD (m - 1 - k) 0)] A fun e A' => e = .returned (.bool true) ∧ J (k + 1) A')
    (W : World) (h0 : J 0 W) :
    CallsIn Fence.wide n Tryd.prog 48 #[.func (.yield l) #[] #[], .pointer (some ⟨B, 0, none⟩)] W fun e W' => (∃ v, e = .returned v) ∧ J m W' := by
  have hmx : Tryd.prog.follows .mixedOrders = true := by kernel_rfl
  have c0 := (hJ _ _ h0).1
  refine callsIn_of_wp Tryd.func48 rfl trivial ?_ rfl
  simp only [Tryd.ntmps48, List.size_toArray, List.length_cons, List.length_nil, Nat.reduceAdd, Nat.reduceSub, Array.replicate_succ, Array.replicate_zero, List.push_toArray, List.append_toArray, List.nil_append, List.cons_append]
  gi_wp2
  gi_loopg [3] m (fun g v3 v => ∃ k : Nat, k + g = m ∧ v3 = .int .i64 ((g : Int) - 1) ∧ J k v)
  case atStart => exact ⟨0, by omega, by first | rfl | (congr 1; omega), h0⟩
  case round =>
    obtain ⟨k, hk, rfl, hj⟩ := hrel
    cases gk with
    | zero =>
      obtain rfl : k = m := by omega
      rw [show ((0 : Nat) : Int) - 1 = -1 from rfl]
      clear hJ hY hk
      gi_wp2
      go_end0
      exact ⟨⟨_, rfl⟩, hj⟩
    | succ t =>
      obtain ⟨cb, iw⟩ := hJ _ _ hj
      obtain ⟨⟨hl, hr⟩, hn2⟩ := iw.reads
      rcases hr with h1 | ⟨b, off, rfl, hc⟩
      · omega
      have hck := hc t (by omega)
      obtain ⟨fn, tmps, assign, body, hy, hR⟩ := hY k wr (by omega) hj
      rw [show (m : Int) - 1 - k = t by omega, show m - 1 - k = t by omega] at hy
      rw [show ((t + 1 : Nat) : Int) - 1 = t by omega]
      generalize zs.getD t 0 = z at hck hy
      clear hJ hc iw hY
      gi_wp2
      refine hR.mono ?_
      rintro e W3 ⟨rfl, hj3⟩
      gi_wp2
      gi_roundg t
      case measure => omega
      case rel => exact ⟨k + 1, by omega, by first | rfl | (congr 1; omega), hj3⟩
end Go.Proofs.YtlokidddbkdclaaDoor
