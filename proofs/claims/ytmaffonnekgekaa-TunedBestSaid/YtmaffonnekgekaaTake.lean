/-
  The contract of take.
-/
import Derived.Test.YtmaffonnekgekaaOwn
namespace Go.Proofs.Ytmaffonnekgekaa
open Go.RowKit

theorem pow40 {j : Nat} (h : j ≤ 40) : 2 ^ j ≤ 1099511627776 := Nat.le_trans (Nat.pow_le_pow_right (by omega) h) (by decide)
theorem pow_pos' (j : Nat) : 0 < 2 ^ j := Nat.pow_pos (by omega)
theorem wrap_small {z : Int} (h0 : -9223372036854775808 ≤ z) (h1 : z ≤ 9223372036854775807) : IntKind.i64.wrap z = z := by simp [IntKind.wrap, IntKind.bits, IntKind.signed]; omega

/-- what take leaves -/
def Took (w : World) (g : Nat) (t : TypeId) (cs : Array Value) (o v j : Nat) (e : Ending) (w' : World) : Prop :=
  e = .returned (.int .i64 ((v / 2 ^ j : Nat) : Int)) ∧ Box w' g t ((cs.setIfInBounds (o + 1) (.int .i64 (j : Int))).setIfInBounds o (.int .i64 ((v % 2 ^ j : Nat) : Int))) ∧ Kept (fun i => i = g) w w'

end Go.Proofs.Ytmaffonnekgekaa
