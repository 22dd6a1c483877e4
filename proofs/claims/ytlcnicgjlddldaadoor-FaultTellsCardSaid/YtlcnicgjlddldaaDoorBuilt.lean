/- The piles behind steps, whole. -/
import Derived.Test.YtlcnicgjlddldaaDoorBuiltP
import Derived.Test.YtlcnicgjlddldaaDoorBuiltW
import Derived.Test.YtlcnicgjlddldaaDoorBuiltR
import Derived.Test.YtlcnicgjlddldaaDoorBuiltN
namespace Go.Proofs.YtlcnicgjlddldaaDoor
open Go Go.RowKit

theorem built_rep (os : List Step) (g off cap : Nat) (w : World) (ho : StepsAt w g off os) :
    Calls Tryd.prog 12 #[.slice (some ⟨g, off, none⟩) os.length cap] w fun e w' => ∃ a b us vs cs, e = .returned (.tuple #[a, b]) ∧ BJ w w' 30 a b us vs cs :=
  built_split.2.2.2.2 (Lib.hid built_place) (Lib.hid built_word) (Lib.hid built_row) (Lib.hid built_new) os g off cap w ho
end Go.Proofs.YtlcnicgjlddldaaDoor
