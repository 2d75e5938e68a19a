/-
  (a step between texts)
-/
import Derived.Test.YtnakfdaneejcfaaBase
namespace Go.Proofs.Ytnakfdaneejcfaa
end Go.Proofs.Ytnakfdaneejcfaa
