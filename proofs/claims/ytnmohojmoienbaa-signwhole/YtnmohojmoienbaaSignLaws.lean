/-
  The seven statements over runes, places and names, out of package sign's contracts. Memory that was there stays.
-/
import Derived.Test.YtnmohojmoienbaaSignC
import Derived.Test.YtnmohojmoienbaaSignWalksB
namespace Go.Proofs.Ytnmohojmoienbaa
open Go.RowKit

theorem law_SignKinds (a : Int) (w : World) (h0 : (Lit.int .i32 a).wf = true) :
    Calls Try.prog 3 #[.int .i32 a] w fun e w' => e = .returned (.bool true) ∧ Below w.heap.size w w' := walk_SignKinds sign_ok a w h0
theorem law_SignNext (s : ByteArray) (a : Int) (w : World) (_hs : s.size ≤ maxLen) (h0 : (Lit.int .i64 a).wf = true) :
    Calls Try.prog 4 #[.string s, .int .i64 a] w fun e w' => e = .returned (.bool true) ∧ Below w.heap.size w w' := walk_SignNext sign_ok s a w _hs h0
theorem law_SignPlaces (s : ByteArray) (a : Int) (w : World) (_hs : s.size ≤ maxLen) (h0 : (Lit.int .i64 a).wf = true) :
    Calls Try.prog 5 #[.string s, .int .i64 a] w fun e w' => e = .returned (.bool true) ∧ Below w.heap.size w w' := walk_SignPlaces sign_ok s a w _hs h0
theorem law_SignNames (s : ByteArray) (w : World) (_hs : s.size ≤ maxLen) :
    Calls Try.prog 6 #[.string s] w fun e w' => e = .returned (.bool true) ∧ Below w.heap.size w w' := walk_SignNames sign_ok s w _hs
theorem law_SignWhole (s : ByteArray) (w : World) (_hs : s.size ≤ maxLen) :
    Calls Try.prog 7 #[.string s] w fun e w' => e = .returned (.bool true) ∧ Below w.heap.size w w' := walk_SignWhole sign_ok s w _hs
theorem law_SignLines (s t : ByteArray) (a : Int) (w : World) (_hs : s.size ≤ maxLen) (_ht : t.size ≤ maxLen) (h0 : (Lit.int .u16 a).wf = true) :
    Calls Try.prog 8 #[.string s, .string t, .int .u16 a] w fun e w' => e = .returned (.bool true) ∧ Below w.heap.size w w' := walk_SignLines sign_ok s t a w _hs _ht h0
theorem law_SignLonger (s : ByteArray) (b : Int) (w : World) (_hs : s.size ≤ maxLen) (h0 : (Lit.int .u8 b).wf = true) :
    Calls Try.prog 9 #[.string s, .int .u8 b] w fun e w' => e = .returned (.bool true) ∧ Below w.heap.size w w' := walk_SignLonger sign_ok s b w _hs h0
end Go.Proofs.Ytnmohojmoienbaa
