/-
  Contract of the library's strings.TrimLeft at the cutset 0, for every text: the text without the 0s ahead. The world is as it was.
-/
import Derived.Test.YtlokidddbkdclaaDoorDeciRef
namespace Go.Proofs.YtlokidddbkdclaaDoor
open Go.RowKit

theorem extract_tail (t : ByteArray) (b : UInt8) (l : List UInt8) (h : t.data.toList = b :: l) : (t.extract 1 t.size).data.toList = l := by
  have hl := congrArg List.length h
  have : t.size = l.length + 1 := by simpa using hl
  rw [ByteArray.data_extract, Array.toList_extract, List.extract_eq_take_drop, h]
  simp [this]

set_option maxHeartbeats 2000000 in
theorem trim_byte (s : ByteArray) (w : World) (hs : s.size ≤ maxLen) :
    Calls Tryd.prog 50 #[.string s, .int .u8 48] w fun e w' => e = .returned (.string ⟨(s.data.toList.dropWhile (· == 48)).toArray⟩) ∧ w = w' := by
  obtain ⟨L, hL⟩ : ∃ L, s.data.toList.dropWhile (· == 48) = L := ⟨_, rfl⟩
  rw [hL]
  have HL : Hid (s.data.toList.dropWhile (· == 48) = L ∧ s.size ≤ maxLen) := ⟨hL, hs⟩
  clear hL hs
  go_enter Tryd.func50, Tryd.ntmps50
  go_wp2
  go_loopg [0] s.size (fun k s0 v => ∃ t : ByteArray, s0 = .string t ∧ t.size = k ∧ k ≤ maxLen ∧ t.data.toList.dropWhile (· == 48) = L ∧ w = v)
  case atStart => exact ⟨s, rfl, rfl, HL.out.2, HL.out.1, rfl⟩
  case round =>
    obtain ⟨t, rfl, hk, hm, ht, rfl⟩ := hrel
    have hsz : t.data.toList.length = t.size := by simp
    cases gk with
    | zero =>
      have HQ : Hid (L = t.data.toList) := by
        show _ = _
        rw [← ht, List.eq_nil_of_length_eq_zero (hsz.trans hk)]; rfl
      clear hsz ht HL
      go_wp2
      go_ret
      exact ⟨by rw [HQ.out, mk_data]; rfl, rfl⟩
    | succ k =>
      have h0 : 0 < t.size := by omega
      have hd := drop_byte t 0 h0
      rw [List.drop_zero] at hd
      unfold maxLen at hm
      by_cases hc : (t[0].toNat : Int) = 48
      · have h48 : t[0] = 48 := UInt8.toNat_inj.1 (by show t[0].toNat = 48; omega)
        have e1 := extract_tail t _ _ hd
        have HQ : Hid ((t.extract 1 t.size).size = k ∧ k ≤ maxLen ∧ (t.extract 1 t.size).data.toList.dropWhile (· == 48) = L) := by
          refine ⟨?_, by unfold maxLen; omega, ?_⟩
          · rw [ByteArray.size_extract]; omega
          · rw [e1, ← ht, hd, h48]; rfl
        clear ht hd h48 hsz e1 HL
        rw [hk] at HQ
        go_wp2
        go_roundg k
        case measure => omega
        case rel => exact ⟨_, rfl, HQ.out.1, HQ.out.2.1, HQ.out.2.2, rfl⟩
      · have h48 : t[0] ≠ 48 := fun e => hc (by rw [e]; rfl)
        have HQ : Hid (L = t.data.toList) := by
          show _ = _
          rw [← ht, hd, List.dropWhile_cons_of_neg (by simpa using h48)]
        clear ht hd h48 hsz HL
        go_wp2
        go_ret
        exact ⟨by rw [HQ.out, mk_data]; rfl, rfl⟩

set_option maxHeartbeats 2000000 in
set_option maxRecDepth 100000 in
theorem trim_left (s : ByteArray) (w : World) (hs : s.size ≤ maxLen) :
    Calls Tryd.prog 31 #[.string s, .string ⟨#[48]⟩] w fun e w' => e = .returned (.string ⟨(s.data.toList.dropWhile (· == 48)).toArray⟩) ∧ w = w' := by
  have T := trim_byte s w hs
  by_cases h0 : s.toList.isEmpty = true
  · have e : s.data.toList = [] := by rw [← ByteArray.toList_eq]; simpa using h0
    have HE : Hid (s = ⟨([] : List UInt8).toArray⟩) := by show _ = _; rw [← e, mk_data]
    rw [e]
    clear e T hs
    go_enter Tryd.func31, Tryd.ntmps31
    go_wp2
    go_ret
    exact ⟨by rw [HE.out]; rfl, rfl⟩
  · have h0' : s.toList.isEmpty = false := by simpa using h0
    clear h0 hs
    generalize s.data.toList.dropWhile (· == 48) = L at T
    go_enter Tryd.func31, Tryd.ntmps31
    go_wp2_with (go_at_call 50; (refine Calls.mono T ?_); rintro e w1 ⟨rfl, rfl⟩)
    go_ret
    exact ⟨rfl, rfl⟩
end Go.Proofs.YtlokidddbkdclaaDoor
