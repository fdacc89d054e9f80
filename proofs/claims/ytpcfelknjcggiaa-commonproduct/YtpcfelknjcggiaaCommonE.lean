/-
  Contract of package common's function Gcd, for every two lists of words: the list of the greatest common divisor; memory that was there stays, and what is answered is the call's own.
-/
import Derived.Test.YtpcfelknjcggiaaCommonD
import Derived.Test.YtpcfelknjcggiaaRangeTold
namespace Go.Proofs.Ytpcfelknjcggiaa
open Go.RowKit Go.Shelf
attribute [local go_sem] Oper.semAt_some

theorem common_lefts (n : Nat) (a : Option Addr) (m c : Nat) (b : Option Addr) (m' d : Nat) (w : World) :
    CallsIn Fence.wide n Try.prog 30 #[.slice a m c, .slice b m' d] w fun e w' => e = .returned (.func (.func 52) #[] #[.pointer (some ⟨w.heap.size, 0, none⟩), .pointer (some ⟨w.heap.size + 1, 0, none⟩)]) ∧
      w' = (w.alloc (.cells #[.slice a m c] 22)).alloc (.cells #[.slice b m' d] 22) := by
  refine callsIn_wide.2 ?_
  go_enter Try.func30, Try.ntmps30
  go_wp2
  go_ret
  exact ⟨by simp, rfl⟩

theorem new_block (v : World) (o : Obj) : (v.alloc o).heap[v.heap.size]? = some o := by show (v.heap.push o)[v.heap.size]? = _; simp
theorem one_cell {w : World} {k : Nat} {v : Value} {T : TypeId} (h : w.heap[k]? = some (.cells #[v] T (0, 0))) : w.cell? ⟨k, 0, none⟩ = some v ∧ w.frozen? ⟨k, 0, none⟩ = false := by
  simp [World.cell?, World.frozen?, h]

set_option maxHeartbeats 4000000 in
theorem common_gcd {a : Option Addr} {m c : Nat} {xs : List Int} {b : Option Addr} {m' d : Nat} {ys : List Int} {w : World} (h : IsWords w (.slice a m c) xs) (hx : Wd xs) (k : IsWords w (.slice b m' d) ys) (hy : Wd ys) (hm : m ≤ 1000000000) (hm' : m' ≤ 1000000000) (G : Nat) (hG : Nat.gcd (val xs) (val ys) = G) :
    Calls Try.prog 14 #[.slice a m c, .slice b m' d] w (Ans w G) := by
  refine (callsIn_wide (n := 3)).1 ?_
  refine callsIn_of_wp_marks Try.func14 rfl trivial ?_ rfl
  simp only [Try.ntmps14, List.size_toArray, List.length_cons, List.length_nil, Nat.reduceAdd, Nat.reduceSub, Array.replicate_succ, Array.replicate_zero, List.push_toArray, List.append_toArray, List.nil_append, List.cons_append]
  gi_wp2_with (refine ⟨trivial, ?_⟩; gi_at_call 30; refine (common_lefts _ _ _ _ _ _ _ _).mono ?_; rintro e w' ⟨rfl, rfl⟩)
  obtain ⟨V, hV⟩ : ∃ V, ((w.alloc (.cells #[.slice none 0 0] 22)).alloc (.cells #[.slice a m c] 22)).alloc (.cells #[.slice b m' d] 22) = V := ⟨_, rfl⟩
  have zV : V.heap.size = w.heap.size + 3 := by rw [← hV]; simp
  have bV : Below w.heap.size w V := by rw [← hV]; exact (((Below.refl _ w).alloc (Nat.le_refl _) _).alloc (by simp) _).alloc (by simp; omega) _
  have k0 : V.heap[w.heap.size]? = some (.cells #[.slice none 0 0] 22 (0, 0)) := by
    rw [← hV, Below.heap_alloc _ _ _ (by simp; omega), Below.heap_alloc _ _ _ (by simp)]; exact new_block w _
  have k1 : V.heap[w.heap.size + 1]? = some (.cells #[.slice a m c] 22 (0, 0)) := by
    rw [← hV, Below.heap_alloc _ _ _ (by simp)]
    have := new_block (w.alloc (.cells #[.slice none 0 0] 22)) (.cells #[.slice a m c] 22)
    rwa [World.size_alloc] at this
  have k2 : V.heap[w.heap.size + 1 + 1]? = some (.cells #[.slice b m' d] 22 (0, 0)) := by
    rw [← hV]
    have := new_block ((w.alloc (.cells #[.slice none 0 0] 22)).alloc (.cells #[.slice a m c] 22)) (.cells #[.slice b m' d] 22)
    rwa [World.size_alloc, World.size_alloc] at this
  rw [hV]
  clear hV
  refine wpIn_range_told (fun s : Sl => .slice s.1 s.2.1 s.2.2) rfl (by omega) (gf := 52) (lb := #[.pointer (some ⟨w.heap.size + 1, 0, none⟩), .pointer (some ⟨w.heap.size + 1 + 1, 0, none⟩)]) rfl trivial (enters_of Try.func52 (by kernel_rfl) rfl)
    (fun v W => W.cell? ⟨w.heap.size, 0, none⟩ = some (.slice v.1 v.2.1 v.2.2) ∧ W.frozen? ⟨w.heap.size, 0, none⟩ = false ∧ Below w.heap.size w W)
    (fun v W => ∃ a' c', v = (a', nl G, c') ∧ Row (w.heap.size + 5) W (.slice a' (nl G) c') (nl G) (natOf G))
    (none, 0, 0) ⟨(one_cell k0).1, (one_cell k0).2, bV⟩ ?_ ?_
    (fun v => { tmps := #[.slice a m c, .slice b m' d, undef, undef, .slice none 0 0, .pointer (some ⟨w.heap.size, 0, none⟩), .slice v.1 v.2.1 v.2.2, .slice a m c, .slice b m' d, .func (.func 52) #[] #[.pointer (some ⟨w.heap.size + 1, 0, none⟩), .pointer (some ⟨w.heap.size + 1 + 1, 0, none⟩)], .slice v.1 v.2.1 v.2.2, undef, undef], defers := [] })
    ?assign ?body ?seq ?_ ?done
  · rintro v A B ⟨i1, i2, i3⟩ hz hb
    exact ⟨(hb.cell (p := ⟨w.heap.size, 0, none⟩) (by simp; omega)).trans i1, (hb.frozen (p := ⟨w.heap.size, 0, none⟩) (by simp; omega)).trans i2, i3.trans (hb.mono (by omega))⟩
  · rintro v A r o ⟨i1, i2, i3⟩ hr
    have e : (A.putObj r o).heap[w.heap.size]? = A.heap[w.heap.size]? := World.putObj_heap_other (by omega)
    exact ⟨(World.cell?_of_block (w := A) e).trans i1, (World.frozen?_of_block (w := A) e).trans i2, below_put i3 (by omega) o⟩
  case assign =>
    intro l v W K hK
    gi_wp2
    exact hK
  case body =>
    rintro l u ⟨x, mx, cx⟩ W ⟨i1, i2, i3⟩
    dsimp only
    gi_wp2
    exact ⟨i3.setCell (p := ⟨w.heap.size, 0, none⟩) (Nat.le_refl _) _, fun k hk => Below.heap_setCell _ _ _ _ (by simp; omega)⟩
  case seq =>
    intro l J W hz hb hJ hY h0
    have b2 : Below w.heap.size w W := bV.trans (hb.mono (by omega))
    refine (common_lefts1 2 l (w.heap.size + 5) (w.heap.size + 1) (w.heap.size + 1 + 1) (by omega) J hJ (fun u x mx cx A hj => ?_) a m c xs b m' d ys W (by omega) ?_ ?_ (h.below b2) hx (k.below b2) hy hm hm' h0 G hG).mono ?_
    · have := hY u (x, mx, cx) A hj
      rw [zV] at this
      exact this
    · exact (one_cell ((hb.block _ (by omega)).trans k1)).1
    · exact (one_cell ((hb.block _ (by omega)).trans k2)).1
    · rintro e B ⟨hv, a', c', hj, hr⟩
      exact ⟨hv, _, hj, a', c', rfl, hr⟩
  · rintro v A r o ⟨a', c', rfl, hr⟩ hlt
    exact ⟨a', c', rfl, hr.keep fun k hk => World.putObj_heap_other (by omega)⟩
  case done =>
    rintro D v W hD1 hD2 ⟨i1, i2, i3⟩ ⟨a', c', rfl, hr⟩ hK
    gi_wp2
    refine ⟨by simp, .inl ⟨_, _, rfl, run_takeDeferred hK, ?_⟩⟩
    refine ⟨_, results_tmp rfl _ _ _, a', c', rfl, ?_⟩
    exact (hr.keep fun k hk => World.putObj_heap_other (by omega)).own (by omega) (below_put i3 (by omega) _)
end Go.Proofs.Ytpcfelknjcggiaa
