/-
  Specifications that are none.
-/
import Derived.Test.YtmaffonnekgekaaNew
namespace Go.Proofs.Ytmaffonnekgekaa
open Go.RowKit

theorem valid0 : ¬ Valid (List.replicate 16 0) [] := fun h => absurd h.pos (by simp)
theorem build_zero (w : World) : (Instr.build 26 #[]).run Try.prog w = .ok (specV (List.replicate 16 0) (.slice none 0 0)) w := run_build w 26 _ _ (by kernel_rfl)
theorem valid_vals {B V : List Int} (h : Valid B V) : ∀ e ∈ codes B V, 0 ≤ e.1 ∧ e.1 ≤ 255 := fun _ he => h.rng _ (mem_ents he).1

end Go.Proofs.Ytmaffonnekgekaa
