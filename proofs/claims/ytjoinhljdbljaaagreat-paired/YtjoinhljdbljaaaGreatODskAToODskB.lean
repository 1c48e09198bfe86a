/- What a map from ints to one-cell values does, entry by entry, and what follows. -/
import Derived.Test.YtjoinhljdbljaaaGreatOKeyG
import Derived.Deep.AppendLies
import Derived.MapKept
import Derived.Maps.OwnSet
import Derived.Deep.RegionLaw
namespace Go.Proofs.YtjoinhljdbljaaaGreat.Old
open Go.RowKit
open Go.ChangeMaps (setBlock)
open Go.MapKept
abbrev Ent:=Int×Value
def En (es:Array MapEntry)(L:List Ent):Prop:=es.toList.map (λe=>(e.key,e.val))=L.map λp=>(Value.int .i64 p.1,p.2)
def Uniq (L:List Ent):Prop:=∀(i j:Nat) (a b:Ent),L[i]?=some a->L[j]?=some b->a.1=b.1->i=j
abbrev FL:=Int×List ByteArray
structure DS where
 block:Int
 blocks:Int
 last:Int
 wrote:Int
 files:List FL
 f1:Int
 f2:Int
 f3:Int
 bit:Int
def uO (l:List FL):Nat:=(l.map λf=>f.2.length).sum
def DC (d:DS)(bm:Nat):Array Value:=
 #[.int .i64 d.block,.int .i64 d.blocks,.int .i64 d.last,.map (some bm),.int .i64 (uO d.files:Int),.int .i64 d.wrote,.int .i64 0,.int .i64 d.f1,.int .i64 d.f2,.int .i64 d.f3,.int .i64 d.bit]
structure Touch (F:List Nat)(w w':World):Prop where
 os:w'.os=w.os
 tape:w'.tape=w.tape
 output:w'.output=w.output
 size:w.heap.size<=w'.heap.size
 block:∀k,k<w.heap.size->k∉F->w'.heap[k]?=w.heap[k]?
theorem Touch.refl (F:List Nat)(w:World):Touch F w w:=⟨rfl,rfl,rfl,e_ _,λ_ _ _=>rfl⟩
theorem tr_ {w:World}:Touch [] w w:=Touch.refl [] w
theorem Touch.trans {F:List Nat}{a b c:World}(h:Touch F a b)(k:Touch F b c):Touch F a c:=
 ⟨k.os.trans h.os,k.tape.trans h.tape,k.output.trans h.output,k_ h.size k.size,λi hi hn=>(k.block i (s_ hi h.size) hn).trans (h.block i hi hn)⟩
theorem Touch.drew {F:List Nat}{a w:World}(h:Touch F a w):Touch F a w.drew:=⟨h.os,h.tape,h.output,h.size,h.block⟩
theorem Touch.alloc {F:List Nat}{a w:World}(h:Touch F a w)(o:Obj):Touch F a (w.alloc o):=
 h.trans ⟨rfl,rfl,rfl,by simp,λk hk _=>Below.heap_alloc _ _ _ hk⟩
theorem Touch.setCell {F:List Nat}{a w:World}(h:Touch F a w){p:Addr}(hp:p.block∈F)(u:Value):Touch F a (w.setCell p u):=
 h.trans ⟨rfl,rfl,rfl,by simp,λk _ hn=>Below.heap_setCell _ _ _ _ (λe=>hn (e▸hp))⟩
theorem Touch.setBlock {F:List Nat}{a w:World}(h:Touch F a w){b:Nat}(hp:b∈F)(o:Obj):Touch F a (setBlock w b o):=
 h.trans ⟨rfl,rfl,rfl,by simp[Go.ChangeMaps.setBlock],λk _ hn=>by simp only[Go.ChangeMaps.setBlock];rw[E_,if_neg (λ(e:b=k)=>hn (e▸hp))]⟩
theorem Touch.mono {F F':List Nat}{w w':World}(h:Touch F w w')(hF:∀k∈F,k∈F'):Touch F' w w':=⟨h.os,h.tape,h.output,h.size,λk hk hn=>h.block k hk (λe=>hn (hF k e))⟩
def SH (w:World)(v:Value)(bs:List ByteArray):Prop:=w.ownsRow 0 9 1 v bs.length (bs.map Value.string)
abbrev PF:=Int×Value×List ByteArray
def eG (M:List PF):List Ent:=M.map λm=>(m.1,m.2.1)
def fO (M:List PF):List FL:=M.map λm=>(m.1,m.2.2)
def rowsOf (M:List PF):List Nat:=M.flatMap λm=>m.2.1.ownBlock.toList
structure PD (w:World)(bx bm:Nat)(d:DS)(M:List PF):Prop where
 disk:w.heap[bx]?=some (.cells (DC d bm) 117 (0,0))
 map:∃es clock,w.heap[bm]?=some (.map es clock)/\En es (eG M)
 files:d.files=fO M
 rows:∀m∈M,SH w m.2.1 m.2.2
 nodup:(bx::bm::rowsOf M).Nodup
def dec (f:Int):Int:=if f=0 then 0 else f-1
end Go.Proofs.YtjoinhljdbljaaaGreat.Old
