/- The walk of ahead: which of two rows comes first by the keys. -/
import Derived.Test.YtjoinhljdbljaaaGreatOKeyG
namespace Go.Proofs.YtjoinhljdbljaaaGreat.Old
open Go.RowKit
end Go.Proofs.YtjoinhljdbljaaaGreat.Old
