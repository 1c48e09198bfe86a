/- The walk of order.Encode and of spillway.Encode: a row's text by keys, or the empty one. -/
import Derived.Test.YtjoinhljdbljaaaGreatOKeyAToOKeyF
import Derived.Deep.RegionWith
import Derived.Deep.RegionHeld3
namespace Go.Proofs.YtjoinhljdbljaaaGreat.Old
open Go.RowKit
abbrev T3:=Value×Value×Value
def V.t (v:V):T3:=(.int .i64 v.k,.int .i64 v.n,.string v.s)
def K.t (y:K):T3:=(.int .i64 y.c,.bool y.d,.bool y.l)
theorem take_snoc' {α:Type}(l:List α)(k:Nat)(h:k<l.length):l.take (k+1)=l.take k++[l[k]]:=bd_ h
def good (xs:List V)(y:K):Prop:=0<=y.c/\y.c<xs.length
end Go.Proofs.YtjoinhljdbljaaaGreat.Old
