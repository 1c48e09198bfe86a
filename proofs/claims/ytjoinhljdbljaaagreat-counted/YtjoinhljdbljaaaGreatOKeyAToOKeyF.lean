/- The walks of the small functions on the way of Keys, and what follows. -/
import Derived.Test.YtjoinhljdbljaaaGreatRows
import Derived.WalkKit
import Derived.WalkSpells
import Derived.WalkLawsBesides
namespace Go.Proofs.YtjoinhljdbljaaaGreat.Old
open Go.RowKit
def pickN (c n:Int):Int:=(if c < 0 then -(c+1) else c) % n
structure V where
 k:Int
 n:Int
 s:ByteArray
structure K where
 c:Int
 d:Bool
 l:Bool
def V.val (v:V):Value:=.agg #[.int .i64 v.k,.int .i64 v.n,.string v.s]
def V.cs (v:V):List Value:=[.int .i64 v.k,.int .i64 v.n,.string v.s]
def K.val (v:K):Value:=.agg #[.int .i64 v.c,.bool v.d,.bool v.l]
def K.cs (v:K):List Value:=[.int .i64 v.c,.bool v.d,.bool v.l]
def cut200 (s:ByteArray):ByteArray:=if 200 < s.size then s.extract 0 200 else s
def cleanV (v:V):V:=
 if pickN v.k 4=1 then ⟨1,v.n,⟨#[]⟩⟩
 else if pickN v.k 4=2 then ⟨2,0,cut200 v.s⟩
 else if pickN v.k 4=3 then ⟨3,pickN v.n 2,⟨#[]⟩⟩
 else ⟨0,0,⟨#[]⟩⟩
def I64 (n:Int):Prop:=-9223372036854775808 <= n /\ n <= 9223372036854775807
def lessV (a b:V):Bool:=decide (a.n < b.n) || Op.bytesLess a.s.toList b.s.toList
def c8 (b:UInt8):Value:=.int .u8 (b.toNat:Int)
structure Fr (B:Nat) (w w':World):Prop where
 below:Below B w w'
 kept:∀ k,k < w.heap.size -> (∀ c f,w.heap[k]?≠some (.cells c 5 f)) -> w'.heap[k]?=w.heap[k]?
def Tx (w:World) (base:Nat) (v:Value) (bs:List UInt8):Prop:=w.ownsRow base 5 1 v bs.length (bs.map c8)
def esc (l:List UInt8):List UInt8:=l.flatMap fun b=>if b=0 then [0,255] else [b]
def encText (s:ByteArray):List UInt8:=esc s.data.toList++[0,0]
def up (n:Int):Nat:=(n+9223372036854775808).toNat
def by8 (u j:Nat):UInt8:=UInt8.ofNat (u / 256 ^ (7 - j) % 256)
def encNat (u:Nat):List UInt8:=(List.range 8).map (by8 u)
def encInt (n:Int):List UInt8:=encNat (up n)
def encPresent (v:V):List UInt8:=
 if v.k=1 then encInt v.n else if v.k=2 then encText v.s else [UInt8.ofNat v.n.toNat]
def Solid (v:V):Prop:=(v.k=1 /\ I64 v.n /\ v.s=⟨#[]⟩) \/ (v.k=2 /\ v.n=0 /\ v.s.size <= 200) \/ (v.k=3 /\ (v.n=0 \/ v.n=1) /\ v.s=⟨#[]⟩)
def inv (b:UInt8):UInt8:=UInt8.ofNat (255 - b.toNat)
def Turned (cur:Array Value) (st k:Nat) (new:List UInt8) (cur':Array Value):Prop:=
 cur'.size=cur.size /\ (∀ i (h:i < new.length),cur'[st+i]?=some (c8 (if i < k then inv new[i] else new[i]))) /\ (∀ j,(j < st \/ st+new.length <= j) -> cur'[j]?=cur[j]?)
def Fair (v:V):Prop:=(v.k=0 /\ v.n=0 /\ v.s=⟨#[]⟩) \/ Solid v
def encValue (v:V) (y:K):List UInt8:=
 if v.k=0 then (if y.l then [2] else [0]) else 1::(if y.d then (encPresent v).map inv else encPresent v)
end Go.Proofs.YtjoinhljdbljaaaGreat.Old
