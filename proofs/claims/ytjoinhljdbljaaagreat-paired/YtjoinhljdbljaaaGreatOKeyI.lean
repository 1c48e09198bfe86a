/- The walk of alike: two new rows of the same kinds. -/
import Derived.Test.YtjoinhljdbljaaaGreatOKeyG
import Derived.Deep.AppendLies
namespace Go.Proofs.YtjoinhljdbljaaaGreat.Old
open Go.RowKit
def t3s (l:List T3):List Value:=l.flatMap λt=>[t.1,t.2.1,t.2.2]
def apart (x y:Value):Prop:=∀k,x.ownBlock=some k->y.ownBlock≠some k
end Go.Proofs.YtjoinhljdbljaaaGreat.Old
