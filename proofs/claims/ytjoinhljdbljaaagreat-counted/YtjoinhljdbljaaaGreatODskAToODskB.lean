/- What a map from ints to one-cell values does, entry by entry, and what follows. -/
import Derived.Test.YtjoinhljdbljaaaGreatOKeyG
import Derived.Deep.AppendLies
import Derived.MapKept
import Derived.Maps.OwnSet
import Derived.Deep.RegionLaw
namespace Go.Proofs.YtjoinhljdbljaaaGreat.Old
open Go.RowKit
open Go.ChangeMaps (setBlock)
open Go.MapKept
abbrev Ent:=Int × Value
def Ents (es:Array MapEntry) (L:List Ent):Prop:=es.toList.map (fun e=>(e.key,e.val))=L.map fun p=>(Value.int .i64 p.1,p.2)
def Uniq (L:List Ent):Prop:=∀ (i j:Nat) (a b:Ent),L[i]?=some a -> L[j]?=some b -> a.1=b.1 -> i=j
end Go.Proofs.YtjoinhljdbljaaaGreat.Old
namespace Go.Proofs.YtjoinhljdbljaaaGreat.Old
open Go.RowKit
open Go.ChangeMaps (setBlock)
abbrev FL:=Int × List ByteArray
structure DS where
 block:Int
 blocks:Int
 last:Int
 wrote:Int
 files:List FL
 f1:Int
 f2:Int
 f3:Int
 bit:Int
def usedOf (l:List FL):Nat:=(l.map fun f=>f.2.length).sum
def DC (d:DS) (bm:Nat):Array Value:=
 #[.int .i64 d.block,.int .i64 d.blocks,.int .i64 d.last,.map (some bm),.int .i64 (usedOf d.files:Int),.int .i64 d.wrote,.int .i64 0,.int .i64 d.f1,.int .i64 d.f2,.int .i64 d.f3,.int .i64 d.bit]
structure Touch (F:List Nat) (w w':World):Prop where
 os:w'.os=w.os
 tape:w'.tape=w.tape
 output:w'.output=w.output
 size:w.heap.size <= w'.heap.size
 block:∀ k,k < w.heap.size -> k∉F -> w'.heap[k]?=w.heap[k]?
theorem Touch.refl (F:List Nat) (w:World):Touch F w w:=⟨rfl,rfl,rfl,Nat.le_refl _,fun _ _ _=>rfl⟩
theorem Touch.trans {F:List Nat} {a b c:World} (h:Touch F a b) (k:Touch F b c):Touch F a c:=
 ⟨k.os.trans h.os,k.tape.trans h.tape,k.output.trans h.output,Nat.le_trans h.size k.size,fun i hi hn=>(k.block i (Nat.lt_of_lt_of_le hi h.size) hn).trans (h.block i hi hn)⟩
theorem Touch.drew {F:List Nat} {a w:World} (h:Touch F a w):Touch F a w.drew:=⟨h.os,h.tape,h.output,h.size,h.block⟩
theorem Touch.alloc {F:List Nat} {a w:World} (h:Touch F a w) (o:Obj):Touch F a (w.alloc o):=
 h.trans ⟨rfl,rfl,rfl,by simp,fun k hk _=>Below.heap_alloc _ _ _ hk⟩
theorem Touch.setCell {F:List Nat} {a w:World} (h:Touch F a w) {p:Addr} (hp:p.block∈F) (u:Value):Touch F a (w.setCell p u):=
 h.trans ⟨rfl,rfl,rfl,by simp,fun k _ hn=>Below.heap_setCell _ _ _ _ (fun e=>hn (e▸hp))⟩
theorem Touch.setBlock {F:List Nat} {a w:World} (h:Touch F a w) {b:Nat} (hp:b∈F) (o:Obj):Touch F a (setBlock w b o):=
 h.trans ⟨rfl,rfl,rfl,by simp [Go.ChangeMaps.setBlock],fun k _ hn=>by simp only [Go.ChangeMaps.setBlock]; rw [Array.getElem?_setIfInBounds,if_neg (fun (e:b=k)=>hn (e▸hp))]⟩
theorem Touch.mono {F F':List Nat} {w w':World} (h:Touch F w w') (hF:∀ k∈F,k∈F'):Touch F' w w':=⟨h.os,h.tape,h.output,h.size,fun k hk hn=>h.block k hk (fun e=>hn (hF k e))⟩
def SRow (w:World) (v:Value) (bs:List ByteArray):Prop:=w.ownsRow 0 9 1 v bs.length (bs.map Value.string)
abbrev PF:=Int × Value × List ByteArray
def entsOf (M:List PF):List Ent:=M.map fun m=>(m.1,m.2.1)
def filesOf (M:List PF):List FL:=M.map fun m=>(m.1,m.2.2)
def rowsOf (M:List PF):List Nat:=M.flatMap fun m=>m.2.1.ownBlock.toList
structure PD (w:World) (bx bm:Nat) (d:DS) (M:List PF):Prop where
 disk:w.heap[bx]?=some (.cells (DC d bm) 117 (0,0))
 map:∃ es clock,w.heap[bm]?=some (.map es clock) /\ Ents es (entsOf M)
 files:d.files=filesOf M
 rows:∀ m∈M,SRow w m.2.1 m.2.2
 nodup:(bx::bm::rowsOf M).Nodup
def dec (f:Int):Int:=if f=0 then 0 else f - 1
end Go.Proofs.YtjoinhljdbljaaaGreat.Old
