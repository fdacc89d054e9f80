/-
  Contract of package times's function Shift, for every list of words and every number of bits: the list of the number times the power of two; memory that was there stays, and what is answered is the call's own.
-/
import Derived.Test.YtlokidddbkdclaaDoorTimesB
import Derived.Deep.RegionWith
import Derived.Deep.DrawnRows
namespace Go.Proofs.YtlokidddbkdclaaDoor
open Go.RowKit
attribute [local go_sem ↓] Go.wp_at_zero Go.wp_at_succ

theorem times_cut' (g M t n : Nat) (T : Int) (w : World) (hT : T = t) (h : t + n + 1 ≤ M) (hM : M ≤ 35184372088832) :
    Calls Tryd.prog 44 #[.slice (some ⟨g, 0, none⟩) M M, .int .i64 T, .int .i64 n] w fun e w' => e = .returned (.slice (some ⟨g, t, none⟩) (n + 1) (n + 1)) ∧ w = w' := by
  subst hT; exact times_cut g M t n w h hM

end Go.Proofs.YtlokidddbkdclaaDoor
