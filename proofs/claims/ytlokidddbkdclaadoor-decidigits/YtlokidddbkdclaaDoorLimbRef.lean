/-
  Contracts of the document's own answers for words (package talwegref01: Add, Sub, Mul, Div, Bits, Low), for every word and list: the same plain integers as package limb's; memory stays.
-/
import Derived.Test.YtlokidddbkdclaaDoorLimbB
namespace Go.Proofs.YtlokidddbkdclaaDoor
open Go.RowKit






theorem ref_low (a : Option Addr) (n cap : Nat) (zs : List Int) (w : World) (hr : Reads .u32 w a n zs) (hn : n ≤ 9223372036854775807) :
    Calls Tryd.prog 46 #[.slice a n cap] w fun e w' => e = .returned (.int .i64 (lowN zs n)) ∧ w = w' := by
  obtain ⟨-, rfl | ⟨b, off, rfl, hc⟩⟩ := hr
  · go_enter Tryd.func46, Tryd.ntmps46
    go_wp2
    go_loop [3, 4] (fun s i => s = .int .i64 0 ∧ i = .int .i64 0) (fun _ _ => 0)
    case atStart => exact ⟨rfl, rfl⟩
    case round =>
      obtain ⟨rfl, rfl⟩ := hrel
      go_wp2
      go_ret
      exact ⟨rfl, rfl⟩
  · go_enter Tryd.func46, Tryd.ntmps46
    go_wp2
    go_loop [3, 4] (fun s i => ∃ k m : Nat, k ≤ n ∧ i = .int .i64 k ∧ s = .int .i64 m ∧ lowN zs k = m) (fun _ i => n - (intOf i).toNat)
    case atStart => exact ⟨0, 0, by omega, rfl, rfl, rfl⟩
    case round =>
      obtain ⟨k, m, hk, rfl, rfl, hl⟩ := hrel
      have HL : Hid (lowN zs k = m) := hl
      clear hl
      by_cases hlt : k < n
      · have hck := hc k hlt
        by_cases hz : zs.getD k 0 = 0
        · rw [hz] at hck
          have HZ : Hid (zs.getD k 0 = 0) := hz
          clear hz hc
          go_wp2
          go_round
          case rel => exact ⟨k + 1, m, by omega, by go_num, rfl, by rw [lowN_zero HZ.out]; exact HL.out⟩
          case measure => simp [intOf]; omega
        · have HZ : Hid (zs.getD k 0 ≠ 0) := hz
          generalize zs.getD k 0 = z at hck hz
          have hz' : (z == 0) = false := by simpa using hz
          clear hz hc
          go_wp2
          go_round
          case rel => exact ⟨k + 1, k + 1, by omega, by go_num, by go_num, lowN_keep HZ.out⟩
          case measure => simp [intOf]; omega
      · have HE : Hid (k = n) := (by omega : k = n)
        clear hc
        go_wp2
        go_ret
        exact ⟨ret_int (by rw [← HE.out, HL.out]), rfl⟩
end Go.Proofs.YtlokidddbkdclaaDoor
