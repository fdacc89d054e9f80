/-
  The six statements over digits, out of package deci's contracts. Memory that was there stays.
-/
import Derived.Test.YtlokidddbkdclaaDoorDeciWalksB
import Derived.Test.YtlokidddbkdclaaDoorDeciA
import Derived.Test.YtlokidddbkdclaaDoorDeciF
namespace Go.Proofs.YtlokidddbkdclaaDoor
open Go.RowKit

theorem law_DeciParses (s : ByteArray) (hs : s.size ≤ maxLen) (w : World) :
    Calls Tryd.prog 3 #[.string s] w fun e w' => e = .returned (.bool true) ∧ Below w.heap.size w w' := walk_DeciParses deci_parse deci_print deci_digits s w hs
theorem law_DeciPrints (a : Option Addr) (len cap : Nat) (zs : List Int) (w : World) (h0 : CameIn .u32 w a len cap zs) :
    Calls Tryd.prog 4 #[.slice a len cap] w fun e w' => e = .returned (.bool true) ∧ Below w.heap.size w w' := walk_DeciPrints deci_parse deci_print deci_digits a len cap zs w h0
theorem law_DeciBack (a : Option Addr) (len cap : Nat) (zs : List Int) (s : ByteArray) (w : World) (h0 : CameIn .u32 w a len cap zs) (hs : s.size ≤ maxLen) :
    Calls Tryd.prog 5 #[.slice a len cap, .string s] w fun e w' => e = .returned (.bool true) ∧ Below w.heap.size w w' := walk_DeciBack deci_parse deci_print deci_digits a len cap zs s w h0 hs
theorem law_DeciJoins (a : Option Addr) (len cap : Nat) (zs : List Int) (b : Option Addr) (len1 cap1 : Nat) (zs1 : List Int) (w : World) (h0 : CameIn .u32 w a len cap zs) (h1 : CameIn .u32 w b len1 cap1 zs1) :
    Calls Tryd.prog 6 #[.slice a len cap, .slice b len1 cap1] w fun e w' => e = .returned (.bool true) ∧ Below w.heap.size w w' := walk_DeciJoins deci_parse deci_print deci_digits a len cap zs b len1 cap1 zs1 w h0 h1
theorem law_DeciDigits (a : Option Addr) (len cap : Nat) (zs : List Int) (b : Option Addr) (len1 cap1 : Nat) (zs1 : List Int) (w : World) (h0 : CameIn .u32 w a len cap zs) (h1 : CameIn .u32 w b len1 cap1 zs1) :
    Calls Tryd.prog 7 #[.slice a len cap, .slice b len1 cap1] w fun e w' => e = .returned (.bool true) ∧ Below w.heap.size w w' := walk_DeciDigits deci_parse deci_print deci_digits a len cap zs b len1 cap1 zs1 w h0 h1
theorem law_DeciLong (m d : Int) (h0 : (Lit.int .u8 m).wf = true) (h1 : (Lit.int .u8 d).wf = true) (w : World) :
    Calls Tryd.prog 8 #[.int .u8 m, .int .u8 d] w fun e w' => e = .returned (.bool true) ∧ Below w.heap.size w w' := walk_DeciLong deci_parse deci_print deci_digits m d w h0 h1
end Go.Proofs.YtlokidddbkdclaaDoor
