/- The walk of order.Encode and of spillway.Encode: a row's text by keys, or the empty one. -/
import Derived.Test.YtjoinhljdbljaaaGreatOKeyAToOKeyF
import Derived.Deep.RegionWith
import Derived.Deep.RegionHeld3
namespace Go.Proofs.YtjoinhljdbljaaaGreat.Old
open Go.RowKit
abbrev T3:=Value × Value × Value
def V.t (v:V):T3:=(.int .i64 v.k,.int .i64 v.n,.string v.s)
def K.t (y:K):T3:=(.int .i64 y.c,.bool y.d,.bool y.l)
def Lies (w:World) (B:Nat) (v:Value) (l:List T3):Prop:=
 ∃ ao cap,v=.slice ao l.length cap /\ l.length <= cap /\ cap <= maxLen /\ (1 <= l.length -> ∃ b off,ao=some ⟨b,off,none⟩ /\ b < B /\
  ∀ i (h:i < l.length),w.cell? ⟨b,off+i * 3,none⟩=some l[i].1 /\ w.cell? ⟨b,off+i * 3+1,none⟩=some l[i].2.1 /\ w.cell? ⟨b,off+i * 3+1+1,none⟩=some l[i].2.2)
def encKeys (xs:List V) (ks:List K):List UInt8:=ks.flatMap fun y=>encValue (xs.getD y.c.toNat ⟨0,0,⟨#[]⟩⟩) y
theorem take_snoc' {α:Type} (l:List α) (k:Nat) (h:k < l.length):l.take (k+1)=l.take k++[l[k]]:=List.take_succ_eq_append_getElem h
def good (xs:List V) (y:K):Prop:=0 <= y.c /\ y.c < xs.length
def Upto (xs:List V) (ks:List K) (m:Nat):Prop:=m <= ks.length /\ (∀ i (h:i < ks.length),i < m -> good xs ks[i]) /\ (∀ h:m < ks.length,¬ good xs ks[m])
def encAns (xs:List V) (ks:List K) (m:Nat):List UInt8:=if m < ks.length then [] else encKeys xs ks
end Go.Proofs.YtjoinhljdbljaaaGreat.Old
