/-
  Contracts of package deci's functions isNumber and Parse, for every text: as digits and numbers; memory that was there stays.
-/
import Derived.Test.YtlokidddbkdclaaDoorDeciWalks
import Derived.Test.YtlokidddbkdclaaDoorStrIter
namespace Go.Proofs.YtlokidddbkdclaaDoor
open Go.RowKit Go.Lib

theorem take_byte (s : ByteArray) (k : Nat) (h : k < s.size) : s.data.toList.take (k + 1) = s.data.toList.take k ++ [s[k]] := by
  rw [List.take_succ_eq_append_getElem (by simpa using h)]; rfl

theorem below_iterAt' {w wr : World} (hb : Below w.heap.size w wr) (s : ByteArray) (pos : Nat) : Below w.heap.size w (wr.iterAt w.heap.size s pos) := below_iterAt hb (Nat.le_refl w.heap.size) s pos

/-- The four ways in which a text of digits is a number, or isn't. -/
theorem deci_ways (s : ByteArray) (h : DigS s.data.toList) :
    ((s.toList == [48]) = false ∧ s.toList.isEmpty = true ∧ (Num s.data.toList ↔ False)) ∨ ((s.toList == [48]) = true ∧ (Num s.data.toList ↔ True)) ∨
    ((s.toList == [48]) = false ∧ s.toList.isEmpty = false ∧ ∃ h : 0 < s.size, ((s[0]'h).toNat : Int) = 48 ∧ (Num s.data.toList ↔ False)) ∨
    ((s.toList == [48]) = false ∧ s.toList.isEmpty = false ∧ ∃ h : 0 < s.size, ((s[0]'h).toNat : Int) ≠ 48 ∧ (Num s.data.toList ↔ True)) := by
  have hl : s.data.toList.length = s.size := by simp
  by_cases h0 : 0 < s.size
  · have hd := drop_byte s 0 h0
    rw [List.drop_zero] at hd
    have ht : s.toList = s[0] :: s.data.toList.drop (0 + 1) := by rw [ByteArray.toList_eq]; exact hd
    by_cases e : s.toList = [48]
    · refine .inr (.inl ⟨by rw [e]; rfl, ?_⟩)
      rw [ByteArray.toList_eq] at e
      rw [e]
      exact ⟨fun _ => trivial, fun _ => by decide⟩
    · have e1 : (s.toList == [48]) = false := by simpa using e
      have e2 : s.toList.isEmpty = false := by rw [ht]; rfl
      by_cases hc : ((s[0]'h0).toNat : Int) = 48
      · refine .inr (.inr (.inl ⟨e1, e2, h0, hc, ?_⟩))
        have h48 : s[0] = 48 := UInt8.toNat_inj.1 (by show s[0].toNat = 48; omega)
        refine ⟨fun hn => e ?_, False.elim⟩
        have := hn.2.2 (by rw [hd, h48]; rfl)
        rw [ht, h48, List.eq_nil_of_length_eq_zero (l := s.data.toList.drop (0 + 1)) (by rw [List.length_drop]; omega)]
      · refine .inr (.inr (.inr ⟨e1, e2, h0, hc, ?_⟩))
        refine ⟨fun _ => trivial, fun _ => ⟨by rw [hd]; simp, h, fun hh => ?_⟩⟩
        rw [hd] at hh
        have h48 : s[0] = 48 := Option.some.inj hh
        exact absurd (by rw [h48]; rfl) hc
  · have e : s.data.toList = [] := List.eq_nil_of_length_eq_zero (by omega)
    have ht : s.toList = [] := by rw [ByteArray.toList_eq]; exact e
    exact .inl ⟨by rw [ht]; rfl, by rw [ht]; rfl, fun hn => hn.1 e, False.elim⟩

set_option maxHeartbeats 4000000 in
theorem deci_isNumber (s : ByteArray) (w : World) (hs : s.size ≤ 1000) (b : Bool) (hb : (b = true ↔ Num s.data.toList)) :
    Calls Tryd.prog 22 #[.string s] w fun e w' => e = .returned (.bool b) ∧ Below w.heap.size w w' := by
  have HB : Hid (b = true ↔ Num s.data.toList) := hb
  have HS : Hid (s.data.toList.length = s.size ∧ s.size ≤ 1000) := ⟨by simp, hs⟩
  clear hb hs
  go_enter Tryd.func22, Tryd.ntmps22
  go_wp2
  go_loopg [4] s.size (fun k s4 v => ∃ (pos : Nat), pos + k = s.size ∧ v.heap[w.heap.size]? = some (.stringIter s pos) ∧ Below w.heap.size w v ∧ DigS (s.data.toList.take pos))
  case atStart => exact ⟨0, by omega, iter_new w s, below_iter w s 0, by rw [List.take_zero]; intro c hc; cases hc⟩
  case round =>
    obtain ⟨pos, hk, hit, bw, hd⟩ := hrel
    have HD : Hid (DigS (s.data.toList.take pos)) := hd
    cases gk with
    | zero =>
      have e : s.data.toList.take pos = s.data.toList := List.take_of_length_le (by rw [HS.out.1]; omega)
      rw [e] at hd
      have hnx : ∀ ty, (Instr.next (.pointer (some ⟨w.heap.size, 0, none⟩)) true ty).run Tryd.prog wr = _ := fun ty => run_next_end_at wr w.heap.size s pos ty hit (by omega)
      have HD2 : Hid (DigS s.data.toList) := hd
      clear e hd HD hit hk
      rcases deci_ways s HD2.out with ⟨c1, c2, c3⟩ | ⟨c1, c3⟩ | ⟨c1, c2, c0, c4, c3⟩ | ⟨c1, c2, c0, c4, c3⟩
      all_goals
        have HC : Hid (b = true ↔ _) := HB.out.trans c3
        clear c3
        go_wp2
        go_ret
        exact ⟨ret_bool (by rw [Bool.eq_iff_iff, HC.out]; first | (simp; done) | simpa using c4), bw⟩
    | succ k =>
      have hp : pos < s.size := by omega
      by_cases hdig : 48 ≤ (s[pos].toNat : Int) ∧ (s[pos].toNat : Int) ≤ 57
      · obtain ⟨c0, c1⟩ := hdig
        have hnx : ∀ ty, (Instr.next (.pointer (some ⟨w.heap.size, 0, none⟩)) true ty).run Tryd.prog wr = _ := fun ty => run_next_ascii_at wr w.heap.size s pos ty hit hp (by omega)
        have HD2 : Hid (DigS (s.data.toList.take (pos + 1))) := by
          show DigS _
          rw [take_byte s pos hp, digS_append, digS_one]; exact ⟨hd, by omega⟩
        have hi2 := iterAt_heap wr w.heap.size s pos (pos + 1) hit
        have hbl := below_iterAt' bw s (pos + 1)
        generalize wr.iterAt w.heap.size s (pos + 1) = wi at hnx hi2 hbl
        clear hd HD hit
        go_wp2
        go_roundg k
        case measure => omega
        case rel => exact ⟨pos + 1, by omega, hi2, hbl, HD2.out⟩
      · have hn : ¬ Num s.data.toList := fun hN => hdig (by have := hN.2.1 s[pos] (by rw [← List.take_append_drop pos s.data.toList, drop_byte s pos hp]; simp); omega)
        have hbf : b = false := by
          cases b with
          | false => rfl
          | true => exact absurd (HB.out.1 rfl) hn
        have HQ : Hid (b = false) := hbf
        have hdec := decode_not hp (a := 48) (b := 57) (by omega) (by omega)
        have hnx : ∀ ty, (Instr.next (.pointer (some ⟨w.heap.size, 0, none⟩)) true ty).run Tryd.prog wr = _ := fun ty => run_next_any_at wr w.heap.size s pos ty hit hp
        have hbl := below_iterAt' bw s (pos + (Utf8.decode s pos).2)
        generalize wr.iterAt w.heap.size s (pos + (Utf8.decode s pos).2) = wi at hnx hbl
        generalize (Utf8.decode s pos).1 = r at hnx hdec
        clear hd HD hit hn hbf hdig
        rcases (by omega : (r : Int) < 48 ∨ (¬ (r : Int) < 48 ∧ 57 < (r : Int))) with d0 | ⟨d0, d1⟩
        all_goals
          clear hdec
          go_wp2
          go_ret
          exact ⟨by rw [HQ.out]; rfl, hbl⟩

set_option maxHeartbeats 4000000 in
theorem deci_parse : ParseOk := by
  intro s w hs
  unfold maxLen at hs
  have hsz : s.data.toList.length = s.size := by simp
  by_cases h1 : 1000 < s.size
  · rw [pnum_long (by omega), perr_long (by omega)]
    clear hsz
    go_enter Tryd.func10, Tryd.ntmps10
    go_wp2
    go_ret2
    exact ansP_no (Below.refl _ _)
  have h1' : ¬ (1000 : Int) < (s.size : Int) := by omega
  by_cases hn : Num s.data.toList
  case neg =>
    rw [pnum_no hn, perr_no (by omega) hn]
    have N1 := fun v => deci_isNumber s v (by omega) false (by simpa using hn)
    clear hsz hs hn
    go_enter Tryd.func10, Tryd.ntmps10
    go_wp2_with (go_at_call 22; (with_reducible refine Calls.mono (N1 _) ?_); rintro e w1 ⟨rfl, b1⟩)
    go_ret2
    exact ansP_no b1
  case pos =>
    rw [pnum_ok (by omega) hn, perr_ok (by omega) hn]
    have N1 := fun v => deci_isNumber s v (by omega) true (by simpa using hn)
    have HN : Hid (DigS s.data.toList ∧ s.data.toList.length = s.size) := ⟨hn.2.1, hsz⟩
    clear hsz hs hn
    go_enter Tryd.func10, Tryd.ntmps10
    go_wp2_with (go_at_call 22; (with_reducible refine Calls.mono (N1 _) ?_); rintro e w1 ⟨rfl, b1⟩)
    clear N1
    go_loopg [4, 6] s.size (fun k s4 s6 v => ∃ (pos : Nat) (a4 : Option Addr) (n4 c4 : Nat), pos + k = s.size ∧ v.heap[w1.heap.size]? = some (.stringIter s pos) ∧ s4 = .slice a4 n4 c4 ∧ n4 = nl (valD (s.data.toList.take pos)) ∧ Own w v (.slice a4 n4 c4) n4 (natOf (valD (s.data.toList.take pos))))
    case atStart =>
      refine ⟨0, none, 0, 0, by omega, iter_new w1 s, rfl, ?_, ?_⟩
      · rw [List.take_zero, valD_nil, nl_zero]
      · rw [List.take_zero, valD_nil, natOf_zero]; exact Own.nil (below_more b1 (below_iter w1 s 0))
    case round =>
      obtain ⟨pos, a4, n4, c4, hk, hit, rfl, e4, o4⟩ := hrel
      cases gk with
      | zero =>
        have e : s.data.toList.take pos = s.data.toList := List.take_of_length_le (by rw [HN.out.2]; omega)
        rw [e] at e4 o4
        subst e4
        have hnx : ∀ ty, (Instr.next (.pointer (some ⟨w1.heap.size, 0, none⟩)) true ty).run Tryd.prog wr = _ := fun ty => run_next_end_at wr w1.heap.size s pos ty hit (by omega)
        clear e hit hk
        go_wp2
        go_ret2
        exact ⟨_, _, rfl, o4⟩
      | succ k =>
        have hp : pos < s.size := by omega
        have hsize : w.heap.size ≤ w1.heap.size := b1.size
        have hdig := HN.out.1 s[pos] (by rw [← List.take_append_drop pos s.data.toList, drop_byte s pos hp]; simp)
        have c0 : 48 ≤ (s[pos].toNat : Int) := by omega
        have c1 : (s[pos].toNat : Int) ≤ 57 := by omega
        have hd : DigS (s.data.toList.take pos) := fun c hc => HN.out.1 c (List.mem_of_mem_take hc)
        have hnx : ∀ ty, (Instr.next (.pointer (some ⟨w1.heap.size, 0, none⟩)) true ty).run Tryd.prog wr = _ := fun ty => run_next_ascii_at wr w1.heap.size s pos ty hit hp (by omega)
        have b4 := nl_digits hd
        have hlen := List.length_take_le pos s.data.toList
        have O1 := fun v (p : IsWords v (.slice a4 n4 c4) (natOf (valD (s.data.toList.take pos)))) => times_one' p (wd_natOf _) (x := 10) (y := (s[pos].toNat : Int) - 48) (by omega) (by omega) (by omega) (by omega) (by omega) (valD (s.data.toList.take (pos + 1))) (by rw [val_natOf, take_byte s pos hp, valD_snoc, show (10 : Int).toNat = 10 from rfl]; omega)
        unfold Ans at O1
        generalize valD (s.data.toList.take pos) = K1 at e4 o4 b4 O1
        generalize hK2 : valD (s.data.toList.take (pos + 1)) = K2 at O1
        have HK : Hid (valD (s.data.toList.take (pos + 1)) = K2) := hK2
        have oi := o4.iterAt hit hsize (pos + 1)
        have hi2 := iterAt_heap wr w1.heap.size s pos (pos + 1) hit
        generalize wr.iterAt w1.heap.size s (pos + 1) = wi at hnx oi hi2
        clear hK2 hd b4 e4 hit hlen hdig
        go_wp2_with (go_at_call 23; (with_reducible refine Calls.mono (O1 _ oi.words) ?_); rintro e w2 ⟨a6, c6, rfl, o6⟩)
        have k2 := HK.out
        go_roundg k
        case measure => omega
        case rel => exact ⟨pos + 1, _, _, _, by omega, iter_more hi2 o6.below, rfl, by rw [k2], by rw [k2]; exact o6.outer oi.below⟩
end Go.Proofs.YtlokidddbkdclaaDoor
