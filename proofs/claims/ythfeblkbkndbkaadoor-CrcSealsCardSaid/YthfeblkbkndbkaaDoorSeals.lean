/-
  CrcSeals: the walk, all cases.
-/
import Derived.Test.YthfeblkbkndbkaaDoorSeals1
import Derived.Test.YthfeblkbkndbkaaDoorSeals2
import Derived.Test.YthfeblkbkndbkaaDoorSeals3
namespace Go.Proofs.YthfeblkbkndbkaaDoor
open Go.RowKit

set_option maxHeartbeats 400000 in
theorem seals_long (w : World) (A : Option Addr) (n c : Nat) (hT : Tab w) (hn : 4000 < n) :
    Calls Tryd.prog 4 #[.slice A n c] w (Law w) := by
  have HT := Lib.hid hT
  have hn' : (4000 : Int) < (n : Int) := by omega
  clear hT
  go_enter Tryd.func4, Tryd.ntmps4
  go_wp2_with fail
  refine (awake_any w HT.out).mono ?_
  rintro e w8 ⟨rfl, b8⟩
  have F8 := Lib.hid b8
  clear b8
  go_wp2
  go_ret
  exact ⟨rfl, F8.out⟩

theorem crcSeals_calls (w : World) (K : Nat → Prop) (A : Option Addr) (n c : Nat) (l : List Int) (hT : Tab w) (h : Sl w K A n c l) :
    Calls Tryd.prog 4 #[.slice A n c] w (Law w) := by
  by_cases hn : 4000 < n
  · exact seals_long w A n c hT hn
  · by_cases h4 : n < 4
    · exact seals_short w K A n c l hT h h4
    · by_cases hs : ((sum (l.take (n - 4)) : Nat) : Int) = le (l.drop (n - 4))
      · exact seals_good w K A n (n - 4) c l hT h (by omega) (by omega) hs
      · exact seals_bad w K A n (n - 4) c l hT h (by omega) (by omega) hs

end Go.Proofs.YthfeblkbkndbkaaDoor
