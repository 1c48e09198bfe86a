/- The walks of the small functions on the way of Keys, and what follows. -/
import Derived.Test.YtjoinhljdbljaaaGreatAbAToHpA
import Derived.Test.YtjoinhljdbljaaaGreatRows
import Derived.WalkKit
import Derived.WalkSpells
import Derived.WalkLawsBesides
namespace Go.Proofs.YtjoinhljdbljaaaGreat.Old
open Go.RowKit
def pI (c n:Int):Int:=(if c<0 then -(c+1)else c)%n
structure V where
 k:Int
 n:Int
 s:ByteArray
structure K where
 c:Int
 d:Bool
 l:Bool
def V.val (v:V):Value:=.agg #[.int .i64 v.k,.int .i64 v.n,.string v.s]
def V.cs (v:V):List Value:=[.int .i64 v.k,.int .i64 v.n,.string v.s]
def K.val (v:K):Value:=.agg #[.int .i64 v.c,.bool v.d,.bool v.l]
def K.cs (v:K):List Value:=[.int .i64 v.c,.bool v.d,.bool v.l]
def I64 (n:Int):Prop:= -9223372036854775808<=n/\n<=9223372036854775807
def lessV (a b:V):Bool:=decide (a.n<b.n) || Op.bytesLess a.s.toList b.s.toList
def c8 (b:UInt8):Value:=.int .u8 (b.toNat:Int)
structure Fr (B:Nat)(w w':World):Prop where
 below:Below B w w'
 kept:∀k,k<w.heap.size->(∀c f,w.heap[k]?≠some (.cells c 5 f))->w'.heap[k]?=w.heap[k]?
def Tx (w:World)(base:Nat)(v:Value)(bs:List UInt8):Prop:=w.ownsRow base 5 1 v bs.length (bs.map c8)
def up (n:Int):Nat:=(n+9223372036854775808).toNat
def by8 (u j:Nat):UInt8:=UInt8.ofNat (u/256 ^ (7-j)%256)
def eu (u:Nat):List UInt8:=(List.range 8).map (by8 u)
def Solid (v:V):Prop:=(v.k=1/\I64 v.n/\v.s=⟨#[]⟩)\/(v.k=2/\v.n=0/\v.s.size<=200)\/(v.k=3/\(v.n=0\/v.n=1)/\v.s=⟨#[]⟩)
def inv (b:UInt8):UInt8:=UInt8.ofNat (255-b.toNat)
def Fair (v:V):Prop:=(v.k=0/\v.n=0/\v.s=⟨#[]⟩)\/Solid v
end Go.Proofs.YtjoinhljdbljaaaGreat.Old
