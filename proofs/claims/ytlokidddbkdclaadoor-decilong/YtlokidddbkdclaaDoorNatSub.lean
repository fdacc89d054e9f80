/-
  Contract of package nat's function Sub, for all two lists of words: the list of the difference, or that there is none; memory that was there stays, and what is answered is the call's own.
-/
import Derived.Test.YtlokidddbkdclaaDoorNatCmp
import Derived.Deep.RegionWith
import Derived.Deep.DrawnRows
namespace Go.Proofs.YtlokidddbkdclaaDoor
open Go.RowKit
attribute [local go_sem ↓] Go.wp_at_zero Go.wp_at_succ

/-- The difference's last borrow is 0. -/
theorem sub_last {ps qs ss : List Int} {k r : Nat} (hs : Wd ss) (hls : ss.length = ps.length) (hle : val qs ≤ val ps) (hl : qs.length ≤ ps.length) (hi : val ss + val (qs.take k) = val ps + r * 4294967296 ^ k) (hk : k = ps.length ∨ qs.length ≤ k ∧ r = 0) : val ss = val ps - val qs := by
  have e : qs.take k = qs := List.take_of_length_le (by omega)
  rw [e] at hi
  rcases hk with rfl | ⟨-, rfl⟩
  · have h1 := val_lt ss hs
    rw [hls] at h1
    rcases Nat.eq_zero_or_pos r with rfl | hc
    · omega
    · have h3 : 1 * 4294967296 ^ ps.length ≤ r * 4294967296 ^ ps.length := Nat.mul_le_mul_right _ hc
      omega
  · omega

/-- What Sub answers where there is a difference: a slice of the call's own, the list of the number N, and true. -/
def AnsOk (W : World) (N : Nat) (e : Ending) (w' : World) : Prop := ∃ a c, e = .returned (.tuple #[.slice a (nl N) c, .bool true]) ∧ Own W w' (.slice a (nl N) c) (nl N) (natOf N)

end Go.Proofs.YtlokidddbkdclaaDoor
