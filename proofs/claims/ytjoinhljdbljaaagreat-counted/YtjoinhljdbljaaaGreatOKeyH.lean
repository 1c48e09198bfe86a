/- The walk of ahead: which of two rows comes first by the keys. -/
import Derived.Test.YtjoinhljdbljaaaGreatOKeyG
namespace Go.Proofs.YtjoinhljdbljaaaGreat.Old
open Go.RowKit
def Pair (x y:V):Prop:=Fair x /\ Fair y /\ (x.k=0 \/ y.k=0 \/ x.k=y.k)
def aheadV (x y:V) (q:K):Int:=
 if x.k=0 then (if y.k=0 then 0 else if q.l then -1 else 1)
 else if y.k=0 then (if q.l then 1 else -1)
 else if x.n=y.n /\ x.s=y.s then 0
 else if lessV x y=q.d then -1 else 1
def nul:V:=⟨0,0,⟨#[]⟩⟩
def aheadL (xs ys:List V):List K -> Int
 | []=>0
 | q::ks=>if aheadV (xs.getD q.c.toNat nul) (ys.getD q.c.toNat nul) q=0 then aheadL xs ys ks else aheadV (xs.getD q.c.toNat nul) (ys.getD q.c.toNat nul) q
theorem bytes_ext {a b:ByteArray} (h:a.toList=b.toList):a=b:=Go.WideShapes.bytes_inj (by rw [<- ByteArray.toList_eq,<- ByteArray.toList_eq]; exact h)
end Go.Proofs.YtjoinhljdbljaaaGreat.Old
