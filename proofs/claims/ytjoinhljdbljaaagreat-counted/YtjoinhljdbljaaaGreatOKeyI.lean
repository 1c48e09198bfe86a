/- The walk of alike: two new rows of the same kinds. -/
import Derived.Test.YtjoinhljdbljaaaGreatOKeyG
import Derived.Deep.AppendLies
namespace Go.Proofs.YtjoinhljdbljaaaGreat.Old
open Go.RowKit
def t3s (l:List T3):List Value:=l.flatMap fun t=>[t.1,t.2.1,t.2.2]
def Own3 (w:World) (base:Nat) (v:Value) (l:List T3):Prop:=w.ownsRow base 85 3 v l.length (t3s l)
def fitTo (a b:V):V:=if (cleanV a).k=0 then cleanV b else if (cleanV b).k=(cleanV a).k then cleanV b else ⟨0,0,⟨#[]⟩⟩
def alikeX (xs ys:List V):List V:=List.zipWith (fun a _=>cleanV a) xs ys
def alikeY (xs ys:List V):List V:=List.zipWith fitTo xs ys
def apart (x y:Value):Prop:=∀ k,x.ownBlock=some k -> y.ownBlock≠some k
end Go.Proofs.YtjoinhljdbljaaaGreat.Old
