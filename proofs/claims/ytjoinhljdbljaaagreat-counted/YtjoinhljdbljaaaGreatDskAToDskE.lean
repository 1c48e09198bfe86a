/- What a map from ints to one-cell values does, entry by entry, and what follows. -/
import Derived.Test.YtjoinhljdbljaaaGreatKeyAToKeyD
import Derived.Deep.RegionWith
import Derived.Deep.RegionHeld3
import Derived.Deep.AppendLies
import Derived.MapKept
import Derived.Maps.OwnSet
import Derived.Deep.RegionLaw
set_option maxHeartbeats 1000000
set_option maxRecDepth 20000
namespace Go.Proofs.YtjoinhljdbljaaaGreat
open Go.RowKit
open Go.ChangeMaps (setBlock)
open Go.MapKept
abbrev MEnt:=Int × Value
def Ents (es:Array MapEntry) (L:List MEnt):Prop:=es.toList.map (fun e=>(e.key,e.val))=L.map fun p=>(Value.int .i64 p.1,p.2)
theorem Ents.len {es:Array MapEntry} {L:List MEnt} (h:Ents es L):es.size=L.length:=by
 have:=congrArg List.length h
 simpa using this
theorem Ents.at {es:Array MapEntry} {L:List MEnt} (h:Ents es L) (i:Nat) (e:MapEntry) (he:es.toList[i]?=some e):∃ p,L[i]?=some p /\ e.key=.int .i64 p.1 /\ e.val=p.2:=by
 have:=congrArg (fun l=>l[i]?) h
 simp only [List.getElem?_map,he,Option.map_some] at this
 cases hp:L[i]? with
 | none=>simp [hp] at this
 | some p=>
  simp only [hp,Option.map_some,Option.some.injEq,Prod.mk.injEq] at this
  exact ⟨p,rfl,this.1,this.2⟩
theorem isKey (k:Int):IsKey (.int .i64) (.int .i64 k):=by
 simp [IsKey]
def Uniq (L:List MEnt):Prop:=∀ (i j:Nat) (a b:MEnt),L[i]?=some a -> L[j]?=some b -> a.1=b.1 -> i=j
theorem find_none {es:Array MapEntry} {L:List MEnt} (h:Ents es L) (k:Int) (hk:∀ p∈L,p.1≠k):Instr.findNow (.int .i64) (.int .i64 k) es.toList 0=some none:=by
 have hkeys:∀ x∈es.toList,IsKey (.int .i64) x.key:=by
  intro x hx
  obtain ⟨j,hj,rfl⟩:=List.getElem_of_mem hx
  obtain ⟨q,_,h4,_⟩:=h.at j _ (List.getElem?_eq_getElem hj)
  rw [h4]; exact isKey _
 rcases findNow_spec (isKey k) es.toList 0 hkeys with h1 | ⟨j,e,_,h2,h3⟩
 ·exact h1.1
 ·obtain ⟨p,hp,h4,_⟩:=h.at j e h2
  rw [h3] at h4
  simp only [Value.int.injEq,true_and] at h4
  exact absurd h4.symm (hk p (List.mem_of_getElem? hp))
theorem find_some {es:Array MapEntry} {L:List MEnt} (h:Ents es L) (hu:Uniq L) (i:Nat) (p:MEnt) (hp:L[i]?=some p):Instr.findNow (.int .i64) (.int .i64 p.1) es.toList 0=some (some (i,p.2)):=by
 have hkeys:∀ x∈es.toList,IsKey (.int .i64) x.key:=by
  intro x hx
  obtain ⟨j,hj,rfl⟩:=List.getElem_of_mem hx
  obtain ⟨q,_,h4,_⟩:=h.at j _ (List.getElem?_eq_getElem hj)
  rw [h4]; exact isKey _
 have hi:i < es.toList.length:=by
  have:=(List.getElem?_eq_some_iff.1 hp).1
  have:=h.len
  simp; omega
 rcases findNow_spec (isKey p.1) es.toList 0 hkeys with h1 | ⟨j,e,h1,h2,h3⟩
 ·obtain ⟨q,hq,h4,_⟩:=h.at i _ (List.getElem?_eq_getElem hi)
  rw [hp] at hq
  cases hq
  exact absurd h4 (h1.2 _ (List.getElem_mem hi))
 ·obtain ⟨q,hq,h4,h5⟩:=h.at j e h2
  rw [h3] at h4
  simp only [Value.int.injEq,true_and] at h4
  have:i=j:=hu i j p q hp hq h4
  subst this
  rw [hp] at hq
  cases hq
  rw [h1,h5,Nat.zero_add]
theorem run_findKey {w:World} {k:Value} {es:Array MapEntry} {r:Option (Nat × Value)} (h:Instr.findNow (.int .i64) k es.toList 0=some r):(Instr.findKey 3 k es.toList).run Tryz.prog w=.ok r w:=by
 simp [Instr.findKey,run_underlying Tryz.underlying3,h]
theorem zero129 (w:World):(zeroValue 255).run Tryz.prog w=.ok (.slice none 0 0) w:=by kernel_rfl
theorem run_look_none {w:World} {bm clock:Nat} {es:Array MapEntry} {L:List MEnt} (hb:w.heap[bm]?=some (.map es clock)) (h:Ents es L) (k:Int) (hk:∀ p∈L,p.1≠k) (c:Bool) :
  (Instr.lookup 114 (.map (some bm)) (.int .i64 k) c).run Tryz.prog w=.ok (if c then .tuple #[.slice none 0 0,.bool false] else .slice none 0 0) w:=by
 unfold Instr.lookup
 simp only [Sem.run_bind,run_underlying Tryz.underlying114,MapKept.run_getObj_map hb,Result.andThen_ok,Sem.run_pure,MapKept.run_checkKey Tryz.underlying3 (isKey k),run_findKey (find_none h k hk),zero129]
theorem run_look_some {w:World} {bm clock:Nat} {es:Array MapEntry} {L:List MEnt} (hb:w.heap[bm]?=some (.map es clock)) (h:Ents es L) (hu:Uniq L) (i:Nat) (p:MEnt) (hp:L[i]?=some p) (c:Bool) :
  (Instr.lookup 114 (.map (some bm)) (.int .i64 p.1) c).run Tryz.prog w=.ok (if c then .tuple #[p.2,.bool true] else p.2) w:=by
 unfold Instr.lookup
 simp only [Sem.run_bind,run_underlying Tryz.underlying114,MapKept.run_getObj_map hb,Result.andThen_ok,Sem.run_pure,MapKept.run_checkKey Tryz.underlying3 (isKey p.1),run_findKey (find_some h hu i p hp)]
theorem Ents.push {es:Array MapEntry} {L:List MEnt} (h:Ents es L) (k:Int) (v:Value) (c:Nat):Ents (es.push ⟨.int .i64 k,v,c⟩) (L++[(k,v)]):=by
 unfold Ents at *
 simp [h]
theorem Ents.set {es:Array MapEntry} {L:List MEnt} (h:Ents es L) (i:Nat) (k:Int) (v:Value):Ents (es.modify i fun e=>{ e with key:=.int .i64 k,val:=v }) (L.set i (k,v)):=by
 unfold Ents at *
 apply List.ext_getElem?
 intro j
 have hj:=congrArg (fun l=>l[j]?) h
 simp only [List.getElem?_map,Array.getElem?_toList,Array.getElem?_modify,List.getElem?_set] at hj ⊢
 by_cases e:i=j
 ·subst e
  have hl:=(show Ents es L from h).len
  by_cases hlt:i < L.length
  ·simp [hlt,hl]
  ·simp [hlt,hl]
 ·simp only [e,if_false]
  exact hj
theorem map_erase {α β:Type} (f:α -> β):∀ (l:List α) (i:Nat),(l.eraseIdx i).map f=(l.map f).eraseIdx i
 | [],_=>rfl
 | _::_,0=>rfl
 | a::l,i+1=>by simp [List.eraseIdx,map_erase f l i]
theorem Ents.erase {es:Array MapEntry} {L:List MEnt} (h:Ents es L) (i:Nat):Ents (es.eraseIdxIfInBounds i) (L.eraseIdx i):=by
 unfold Ents at *
 by_cases hi:i < es.size
 ·have:(es.eraseIdxIfInBounds i).toList=es.toList.eraseIdx i:=by simp [Array.eraseIdxIfInBounds,hi]
  rw [this,map_erase,map_erase,h]
 ·have hl:=(show Ents es L from h).len
  have:es.eraseIdxIfInBounds i=es:=by simp [Array.eraseIdxIfInBounds,hi]
  rw [this,List.eraseIdx_of_length_le (by omega)]
  exact h
theorem run_update_none {w:World} {bm clock:Nat} {es:Array MapEntry} {L:List MEnt} (hb:w.heap[bm]?=some (.map es clock)) (h:Ents es L) (k:Int) (v:Value) (hk:∀ p∈L,p.1≠k) :
  (Instr.mapUpdate 114 (.map (some bm)) (.int .i64 k) v).run Tryz.prog w=.ok () (setBlock w bm (.map (es.push ⟨.int .i64 k,v,clock⟩) (clock+1))):=by
 unfold Instr.mapUpdate
 simp only [Sem.run_bind,run_underlying Tryz.underlying114,MapKept.run_getObj_map hb,Result.andThen_ok,MapKept.run_checkKey Tryz.underlying3 (isKey k),run_findKey (find_none h k hk),MapKept.run_setObj_map _ hb]
 rfl
theorem run_update_some {w:World} {bm clock:Nat} {es:Array MapEntry} {L:List MEnt} (hb:w.heap[bm]?=some (.map es clock)) (h:Ents es L) (hu:Uniq L) (i:Nat) (p:MEnt) (hp:L[i]?=some p) (v:Value) :
  (Instr.mapUpdate 114 (.map (some bm)) (.int .i64 p.1) v).run Tryz.prog w=.ok () (setBlock w bm (.map (es.modify i fun e=>{ e with key:=.int .i64 p.1,val:=v }) clock)):=by
 have hi:i < es.size:=by
  have:=(List.getElem?_eq_some_iff.1 hp).1
  have:=h.len
  omega
 obtain ⟨q,hq,h4,_⟩:=h.at i es[i] (by simp [hi])
 rw [hp] at hq
 cases hq
 unfold Instr.mapUpdate
 simp only [Sem.run_bind,run_underlying Tryz.underlying114,MapKept.run_getObj_map hb,Result.andThen_ok,MapKept.run_checkKey Tryz.underlying3 (isKey p.1),run_findKey (find_some h hu i p hp),Instr.keyThatStays,
  Array.getElem?_eq_getElem hi,Option.map_some,Option.getD_some,h4,Instr.sameBits,beq_self_eq_true,Bool.and_self,if_true,Sem.run_pure,MapKept.run_setObj_map _ hb]
 rfl
theorem run_delete_some {w:World} {bm clock:Nat} {es:Array MapEntry} {L:List MEnt} (hb:w.heap[bm]?=some (.map es clock)) (h:Ents es L) (hu:Uniq L) (i:Nat) (p:MEnt) (hp:L[i]?=some p) (ty:TypeId) :
  (Builtin.delete_ #[114,3] ty #[.map (some bm),.int .i64 p.1]).run Tryz.prog w=.ok (.tuple #[]) (setBlock w bm (.map (es.eraseIdxIfInBounds i) clock)):=by
 unfold Builtin.delete_
 simp [run_underlying Tryz.underlying114,MapKept.run_getObj_map hb,MapKept.run_checkKey Tryz.underlying3 (isKey p.1),run_findKey (find_some h hu i p hp),MapKept.run_setObj_map _ hb]
 rfl
end Go.Proofs.YtjoinhljdbljaaaGreat
namespace Go.Proofs.YtjoinhljdbljaaaGreat
open Go.RowKit
open Go.ChangeMaps (setBlock)
abbrev FL:=Int × List ByteArray
structure DS where
 block:Int
 blocks:Int
 last:Int
 wrote:Int
 files:List FL
 f1:Int
 f2:Int
 f3:Int
 bit:Int
def usedOf (l:List FL):Nat:=(l.map fun f=>f.2.length).sum
def DC (d:DS) (bm:Nat):Array Value:=
 #[.int .i64 d.block,.int .i64 d.blocks,.int .i64 d.last,.map (some bm),.int .i64 (usedOf d.files:Int),.int .i64 d.wrote,.int .i64 0,.int .i64 d.f1,.int .i64 d.f2,.int .i64 d.f3,.int .i64 d.bit]
structure Touch (F:List Nat) (w w':World):Prop where
 os:w'.os=w.os
 tape:w'.tape=w.tape
 output:w'.output=w.output
 size:w.heap.size <= w'.heap.size
 block:∀ k,k < w.heap.size -> k∉F -> w'.heap[k]?=w.heap[k]?
theorem Touch.refl (F:List Nat) (w:World):Touch F w w:=⟨rfl,rfl,rfl,Nat.le_refl _,fun _ _ _=>rfl⟩
theorem Touch.trans {F:List Nat} {a b c:World} (h:Touch F a b) (k:Touch F b c):Touch F a c:=
 ⟨k.os.trans h.os,k.tape.trans h.tape,k.output.trans h.output,Nat.le_trans h.size k.size,fun i hi hn=>(k.block i (Nat.lt_of_lt_of_le hi h.size) hn).trans (h.block i hi hn)⟩
theorem Touch.drew {F:List Nat} {a w:World} (h:Touch F a w):Touch F a w.drew:=⟨h.os,h.tape,h.output,h.size,h.block⟩
theorem Touch.alloc {F:List Nat} {a w:World} (h:Touch F a w) (o:Obj):Touch F a (w.alloc o):=
 h.trans ⟨rfl,rfl,rfl,by simp,fun k hk _=>Below.heap_alloc _ _ _ hk⟩
theorem Touch.setCell {F:List Nat} {a w:World} (h:Touch F a w) {p:Addr} (hp:p.block∈F) (u:Value):Touch F a (w.setCell p u):=
 h.trans ⟨rfl,rfl,rfl,by simp,fun k _ hn=>Below.heap_setCell _ _ _ _ (fun e=>hn (e▸hp))⟩
theorem Touch.setBlock {F:List Nat} {a w:World} (h:Touch F a w) {b:Nat} (hp:b∈F) (o:Obj):Touch F a (setBlock w b o):=
 h.trans ⟨rfl,rfl,rfl,by simp [Go.ChangeMaps.setBlock],fun k _ hn=>by simp only [Go.ChangeMaps.setBlock]; rw [Array.getElem?_setIfInBounds,if_neg (fun (e:b=k)=>hn (e▸hp))]⟩
theorem Touch.grown {F:List Nat} {a w w':World} {row:Option Nat} (h:Touch F a w) (hg:w.grownBy w' row) (hr:∀ k,row=some k -> k∈F):Touch F a w':=
 h.trans ⟨hg.os,hg.tape,hg.output,hg.size,fun k hk hn=>hg.block k hk (fun e=>hn (hr k e.symm))⟩
theorem Touch.mono {F F':List Nat} {w w':World} (h:Touch F w w') (hF:∀ k∈F,k∈F'):Touch F' w w':=⟨h.os,h.tape,h.output,h.size,fun k hk hn=>h.block k hk (fun e=>hn (hF k e))⟩
def SRow (w:World) (v:Value) (bs:List ByteArray):Prop:=w.ownsRow 0 9 1 v bs.length (bs.map Value.string)
abbrev PF:=Int × Value × List ByteArray
def entsOf (M:List PF):List MEnt:=M.map fun m=>(m.1,m.2.1)
def filesOf (M:List PF):List FL:=M.map fun m=>(m.1,m.2.2)
def rowsOf (M:List PF):List Nat:=M.flatMap fun m=>m.2.1.ownBlock.toList
structure PD (w:World) (bx bm:Nat) (d:DS) (M:List PF):Prop where
 disk:w.heap[bx]?=some (.cells (DC d bm) 117 (0,0))
 map:∃ es clock,w.heap[bm]?=some (.map es clock) /\ Ents es (entsOf M)
 files:d.files=filesOf M
 rows:∀ m∈M,SRow w m.2.1 m.2.2
 nodup:(bx::bm::rowsOf M).Nodup
theorem DCells {w:World} {bx bm:Nat} {d:DS} (h:w.heap[bx]?=some (.cells (DC d bm) 117 (0,0))) :
  w.cell? ⟨bx,0,none⟩=some (.int .i64 d.block) /\ w.cell? ⟨bx,1,none⟩=some (.int .i64 d.blocks) /\ w.cell? ⟨bx,2,none⟩=some (.int .i64 d.last) /\ w.cell? ⟨bx,3,none⟩=some (.map (some bm)) /\
  w.cell? ⟨bx,4,none⟩=some (.int .i64 (usedOf d.files:Int)) /\ w.cell? ⟨bx,5,none⟩=some (.int .i64 d.wrote) /\ w.cell? ⟨bx,7,none⟩=some (.int .i64 d.f1) /\ w.cell? ⟨bx,8,none⟩=some (.int .i64 d.f2) /\
  w.cell? ⟨bx,9,none⟩=some (.int .i64 d.f3) /\ w.cell? ⟨bx,10,none⟩=some (.int .i64 d.bit) /\ (∀ o,w.frozen? ⟨bx,o,none⟩=false):=by
 refine ⟨?_,?_,?_,?_,?_,?_,?_,?_,?_,?_,?_⟩
 all_goals first | (intro o; simp [World.frozen?,h]; done) | simp [World.cell?,h,DC]
def dec (f:Int):Int:=if f=0 then 0 else f - 1
theorem comes_beq (f:Int):(f - 1 == 0)=(f == 1):=by
 rw [Bool.eq_iff_iff]; simp; omega
theorem comes1 (w:World) (bx bm:Nat) (d:DS) (h:w.heap[bx]?=some (.cells (DC d bm) 117 (0,0))) (h0:0 <= d.f1) (h1:d.f1 <= 9223372036854775807) :
  Calls Tryz.prog 212 #[.pointer (some ⟨bx,0,none⟩),.int .i64 1] w fun e w'=>e=.returned (.bool (d.f1 == 1)) /\ w'.heap[bx]?=some (.cells (DC { d with f1:=dec d.f1 } bm) 117 (0,0)) /\ Touch [bx] w w':=by
 obtain ⟨_,_,_,_,_,_,cc,_,_,_,fz⟩:=DCells h
 have ff:=fz 7
 have H:Hid (w.heap[bx]?=some (.cells (DC d bm) 117 (0,0))):=h
 clear h fz
 by_cases hz:d.f1=0
 ·have hb:(d.f1 == 0)=true:=by simp [hz]
  have E:Hid ({ d with f1:=dec d.f1 }=d /\ (d.f1 == 1)=false):=by
   cases d
   simp only at hz
   subst hz
   exact ⟨rfl,rfl⟩
  clear hz
  go_enter Tryz.func212,Tryz.ntmps212
  go_wp2
  go_ret
  exact ⟨by rw [E.out.2]; rfl,by rw [E.out.1]; exact H.out,Touch.refl _ _⟩
 ·have hb:(d.f1 == 0)=false:=by simp [hz]
  have E:Hid (dec d.f1=d.f1 - 1):=by simp [Hid,dec,hz]
  clear hz
  go_enter Tryz.func212,Tryz.ntmps212
  go_wp2
  go_region
  all_goals
   go_wp2
   go_ret
   refine ⟨by rw [<- comes_beq]; rfl,?_,((Touch.refl _ _).drew).setCell (by simp) _⟩
   rw [E.out]
   exact heap_setCell_same _ _ _ _ _ _ H.out
theorem comes2 (w:World) (bx bm:Nat) (d:DS) (h:w.heap[bx]?=some (.cells (DC d bm) 117 (0,0))) (h0:0 <= d.f2) (h1:d.f2 <= 9223372036854775807) :
  Calls Tryz.prog 212 #[.pointer (some ⟨bx,0,none⟩),.int .i64 2] w fun e w'=>e=.returned (.bool (d.f2 == 1)) /\ w'.heap[bx]?=some (.cells (DC { d with f2:=dec d.f2 } bm) 117 (0,0)) /\ Touch [bx] w w':=by
 obtain ⟨_,_,_,_,_,_,_,cc,_,_,fz⟩:=DCells h
 have ff:=fz 8
 have H:Hid (w.heap[bx]?=some (.cells (DC d bm) 117 (0,0))):=h
 clear h fz
 by_cases hz:d.f2=0
 ·have hb:(d.f2 == 0)=true:=by simp [hz]
  have E:Hid ({ d with f2:=dec d.f2 }=d /\ (d.f2 == 1)=false):=by
   cases d
   simp only at hz
   subst hz
   exact ⟨rfl,rfl⟩
  clear hz
  go_enter Tryz.func212,Tryz.ntmps212
  go_wp2
  go_ret
  exact ⟨by rw [E.out.2]; rfl,by rw [E.out.1]; exact H.out,Touch.refl _ _⟩
 ·have hb:(d.f2 == 0)=false:=by simp [hz]
  have E:Hid (dec d.f2=d.f2 - 1):=by simp [Hid,dec,hz]
  clear hz
  go_enter Tryz.func212,Tryz.ntmps212
  go_wp2
  go_region
  all_goals
   go_wp2
   go_ret
   refine ⟨by rw [<- comes_beq]; rfl,?_,((Touch.refl _ _).drew).setCell (by simp) _⟩
   rw [E.out]
   exact heap_setCell_same _ _ _ _ _ _ H.out
theorem comes3 (w:World) (bx bm:Nat) (d:DS) (h:w.heap[bx]?=some (.cells (DC d bm) 117 (0,0))) (h0:0 <= d.f3) (h1:d.f3 <= 9223372036854775807) :
  Calls Tryz.prog 212 #[.pointer (some ⟨bx,0,none⟩),.int .i64 3] w fun e w'=>e=.returned (.bool (d.f3 == 1)) /\ w'.heap[bx]?=some (.cells (DC { d with f3:=dec d.f3 } bm) 117 (0,0)) /\ Touch [bx] w w':=by
 obtain ⟨_,_,_,_,_,_,_,_,cc,_,fz⟩:=DCells h
 have ff:=fz 9
 have H:Hid (w.heap[bx]?=some (.cells (DC d bm) 117 (0,0))):=h
 clear h fz
 by_cases hz:d.f3=0
 ·have hb:(d.f3 == 0)=true:=by simp [hz]
  have E:Hid ({ d with f3:=dec d.f3 }=d /\ (d.f3 == 1)=false):=by
   cases d
   simp only at hz
   subst hz
   exact ⟨rfl,rfl⟩
  clear hz
  go_enter Tryz.func212,Tryz.ntmps212
  go_wp2
  go_ret
  exact ⟨by rw [E.out.2]; rfl,by rw [E.out.1]; exact H.out,Touch.refl _ _⟩
 ·have hb:(d.f3 == 0)=false:=by simp [hz]
  have E:Hid (dec d.f3=d.f3 - 1):=by simp [Hid,dec,hz]
  clear hz
  go_enter Tryz.func212,Tryz.ntmps212
  go_wp2
  go_region
  all_goals
   go_wp2
   go_ret
   refine ⟨by rw [<- comes_beq]; rfl,?_,((Touch.refl _ _).drew).setCell (by simp) _⟩
   rw [E.out]
   exact heap_setCell_same _ _ _ _ _ _ H.out
theorem SRow.touch {F:List Nat} {w w':World} {v:Value} {bs:List ByteArray} (h:SRow w v bs) (ht:Touch F w w') (hv:∀ k,v.ownBlock=some k -> k∉F):SRow w' v bs:=by
 obtain ⟨h1,h2⟩:=h
 refine ⟨h1,?_⟩
 rcases h2 with h2 | ⟨g,cap,cur,rfl,hb,hg,r⟩
 ·exact Or.inl h2
 ·refine Or.inr ⟨g,cap,cur,rfl,hb,?_,r⟩
  rw [ht.block g (Array.getElem?_eq_some_iff.1 hg).1 (hv g rfl)]
  exact hg
theorem SRow.shape {w:World} {v:Value} {bs:List ByteArray} (h:SRow w v bs):∃ ao cap,v=.slice ao bs.length cap /\ bs.length <= maxLen:=by
 rcases h.2 with ⟨rfl,h0⟩ | ⟨g,cap,cur,rfl,_,_,hc,hm,_⟩
 ·exact ⟨none,0,by rw [h0],by rw [h0]; exact Nat.zero_le _⟩
 ·exact ⟨_,cap,rfl,Nat.le_trans hc hm⟩
theorem SRow.cell {w:World} {v:Value} {bs:List ByteArray} (h:SRow w v bs) (hne:1 <= bs.length):∃ g cap,v=.slice (some ⟨g,0,none⟩) bs.length cap /\ bs.length <= cap /\ ∀ i (hi:i < bs.length),w.cell? ⟨g,i,none⟩=some (.string bs[i]):=by
 rcases h.2 with ⟨_,h0⟩ | ⟨g,cap,cur,rfl,_,hg,hc,_,_,ht⟩
 ·omega
 ·refine ⟨g,cap,rfl,hc,fun i hi=>?_⟩
  have:=congrArg (fun l=>l[i]?) ht
  simp only [Nat.mul_one,List.getElem?_take,if_pos hi,Array.getElem?_toList,List.getElem?_map,List.getElem?_eq_getElem hi,Option.map_some] at this
  simp [World.cell?,hg,this]
theorem row_cell {w:World} {g n cap:Nat} {bs:List ByteArray} (h:SRow w (.slice (some ⟨g,0,none⟩) n cap) bs) (i:Nat) (hi:i < bs.length):w.cell? ⟨g,i,none⟩=some (.string bs[i]):=by
 obtain ⟨g',cap',e,_,hx⟩:=h.cell (by omega)
 simp only [Value.slice.injEq,Option.some.injEq,Addr.mk.injEq,and_true] at e
 obtain ⟨rfl,_⟩:=e
 exact hx i hi
theorem mem_rows {M:List PF} {m:PF} (hm:m∈M) {k:Nat} (hk:m.2.1.ownBlock=some k):k∈rowsOf M:=by
 unfold rowsOf
 rw [List.mem_flatMap]
 exact ⟨m,hm,by simp [hk]⟩
theorem PD.lt {w:World} {bx bm:Nat} {d:DS} {M:List PF} (h:PD w bx bm d M):∀ k∈bx::bm::rowsOf M,k < w.heap.size:=by
 intro k hk
 simp only [List.mem_cons] at hk
 rcases hk with rfl | rfl | hk
 ·exact (Array.getElem?_eq_some_iff.1 h.disk).1
 ·obtain ⟨es,c,hb,_⟩:=h.map
  exact (Array.getElem?_eq_some_iff.1 hb).1
 ·unfold rowsOf at hk
  obtain ⟨m,hm,hk⟩:=List.mem_flatMap.1 hk
  have:=(World.ownsRow.lt (h.rows m hm) k (by simpa using hk)).2
  exact this
theorem PD.turn {w w':World} {bx bm:Nat} {d d':DS} {M:List PF} (h:PD w bx bm d M) (hd:w'.heap[bx]?=some (.cells (DC d' bm) 117 (0,0))) (ht:Touch [bx] w w') (hf:d'.files=d.files):PD w' bx bm d' M:=by
 have hn:=h.nodup
 simp only [List.nodup_cons,List.mem_cons,not_or] at hn
 refine ⟨hd,?_,hf.trans h.files,fun m hm=>?_,h.nodup⟩
 ·obtain ⟨es,c,hb,he⟩:=h.map
  exact ⟨es,c,by rw [ht.block bm (h.lt bm (by simp)) (by simp; exact fun e=>hn.1.1 e.symm)]; exact hb,he⟩
 ·refine (h.rows m hm).touch ht (fun k hk=>?_)
  simp only [List.mem_cons,List.not_mem_nil,or_false]
  intro e
  subst e
  exact hn.1.2 (mem_rows hm hk)
theorem PD.away {w w':World} {bx bm:Nat} {d:DS} {M:List PF} {F:List Nat} (h:PD w bx bm d M) (ht:Touch F w w') (hF:∀ k∈bx::bm::rowsOf M,k∉F):PD w' bx bm d M:=by
 refine ⟨?_,?_,h.files,fun m hm=>?_,h.nodup⟩
 ·rw [ht.block bx (h.lt bx (by simp)) (hF bx (by simp))]; exact h.disk
 ·obtain ⟨es,c,hb,he⟩:=h.map
  exact ⟨es,c,by rw [ht.block bm (h.lt bm (by simp)) (hF bm (by simp))]; exact hb,he⟩
 ·exact (h.rows m hm).touch ht (fun k hk=>hF k (by simp [mem_rows hm hk]))
def posOf (l:List FL) (k:Int):Option (Nat × List ByteArray):=
 match l.findIdx? (fun f=>f.1 == k) with
 | some i=>some (i,(l.getD i (0,[])).2)
 | none=>none
def Nums (l:List FL):Prop:=∀ (i j:Nat) (a b:FL),l[i]?=some a -> l[j]?=some b -> a.1=b.1 -> i=j
theorem uniq_of {M:List PF} (h:Nums (filesOf M)):Uniq (entsOf M):=by
 intro i j a b ha hb e
 unfold entsOf at ha hb
 rw [List.getElem?_map] at ha hb
 cases hi:M[i]? with
 | none=>simp [hi] at ha
 | some m=>
  cases hj:M[j]? with
  | none=>simp [hj] at hb
  | some m'=>
   simp only [hi,hj,Option.map_some,Option.some.injEq] at ha hb
   subst ha hb
   exact h i j (m.1,m.2.2) (m'.1,m'.2.2) (by simp [filesOf,hi]) (by simp [filesOf,hj]) e
theorem pos_cases (M:List PF) (k:Int):(posOf (filesOf M) k=none /\ ∀ m∈M,m.1≠k) \/ ∃ i m,M[i]?=some m /\ m.1=k /\ posOf (filesOf M) k=some (i,m.2.2):=by
 unfold posOf
 cases hf:(filesOf M).findIdx? (fun f=>f.1 == k) with
 | none=>
  refine Or.inl ⟨rfl,fun m hm=>?_⟩
  rw [List.findIdx?_eq_none_iff] at hf
  have:=hf (m.1,m.2.2) (by unfold filesOf; exact List.mem_map.2 ⟨m,hm,rfl⟩)
  simpa using this
 | some i=>
  rw [List.findIdx?_eq_some_iff_getElem] at hf
  obtain ⟨hi,hk,_⟩:=hf
  have hi':i < M.length:=by simpa [filesOf] using hi
  refine Or.inr ⟨i,M[i],by simp [hi'],?_,?_⟩
  ·simpa [filesOf] using hk
  ·simp [filesOf,List.getD,hi']
def mt:ByteArray:=⟨#[]⟩
def readS (d:DS) (file n:Int):ByteArray × Int:=
 if d.f2=1 then (⟨#[]⟩,6) else
 match posOf d.files file with
 | none=>(⟨#[]⟩,8)
 | some (_,bs)=>if n < 0 \/ (bs.length:Int) <= n then (⟨#[]⟩,8) else (bs.getD n.toNat ⟨#[]⟩,0)
theorem pread (w:World) (bx bm:Nat) (d:DS) (M:List PF) (file n:Int) (h:PD w bx bm d M) (hu:Nums d.files) (h0:0 <= d.f2) (h1:d.f2 <= 9223372036854775807) :
  Calls Tryz.prog 191 #[.pointer (some ⟨bx,0,none⟩),.int .i64 file,.int .i64 n] w fun e w'=>e=.returned (.tuple #[.string (readS d file n).1,.int .i64 (readS d file n).2]) /\ PD w' bx bm { d with f2:=dec d.f2 } M /\ Touch [bx] w w':=by
 have HC:Hid (Calls Tryz.prog 212 #[.pointer (some ⟨bx,0,none⟩),.int .i64 2] w fun e w'=>e=.returned (.bool (d.f2 == 1)) /\ w'.heap[bx]?=some (.cells (DC { d with f2:=dec d.f2 } bm) 117 (0,0)) /\ Touch [bx] w w'):=comes2 w bx bm d h.disk h0 h1
 obtain ⟨_,_,_,c3,_⟩:=DCells h.disk
 obtain ⟨es,clock,hb,he⟩:=h.map
 have HT:Hid (∀ w',w'.heap[bx]?=some (.cells (DC { d with f2:=dec d.f2 } bm) 117 (0,0)) -> Touch [bx] w w' -> PD w' bx bm { d with f2:=dec d.f2 } M):=fun w' a b=>h.turn a b rfl
 have hfil:=h.files
 rw [hfil] at hu
 rcases pos_cases M file with ⟨hp,hno⟩ | ⟨i,m,hm,rfl,hp⟩
 ·have hrun:=run_look_none hb he file (by intro p hp; unfold entsOf at hp; obtain ⟨m,hm,rfl⟩:=List.mem_map.1 hp; exact hno m hm) false
  simp only [Bool.false_eq_true,if_false] at hrun
  by_cases hf:d.f2=1
  ·have E:Hid (readS d file n=(⟨#[]⟩,6)):=by simp [Hid,readS,hf]
   have hfb:(d.f2 == 1)=true:=by simp [hf]
   rw [hfb] at HC
   generalize readS d file n=r at *
   clear hf hfil hu hno hp h hb he
   go_enter Tryz.func191,Tryz.ntmps191
   go_wp2_with (go_at_call 212; refine HC.out.mono ?_; rintro e w1 ⟨rfl,hd1,ht1⟩; have HD:Hid (w1.heap[bx]?=some (.cells (DC { d with f2:=dec d.f2 } bm) 117 (0,0))):=hd1; clear hd1)
   go_ret2
   exact ⟨by rw [E.out]; rfl,HT.out _ HD.out ht1,ht1⟩
  ·have E:Hid (readS d file n=(⟨#[]⟩,8)):=by
    show readS d file n=_
    unfold readS
    rw [if_neg hf,hfil,hp]
   have hfb:(d.f2 == 1)=false:=by simp [hf]
   rw [hfb] at HC
   generalize readS d file n=r at *
   clear hf hfil hu hno hp h hb he
   by_cases hn:n < 0
   ·go_enter Tryz.func191,Tryz.ntmps191
    go_wp2_with (go_at_call 212; refine HC.out.mono ?_; rintro e w1 ⟨rfl,hd1,ht1⟩; have HD:Hid (w1.heap[bx]?=some (.cells (DC { d with f2:=dec d.f2 } bm) 117 (0,0))):=hd1; clear hd1)
    go_ret2
    exact ⟨by rw [E.out]; rfl,HT.out _ HD.out ht1,ht1⟩
   ·have hn':0 <= n:=by omega
    go_enter Tryz.func191,Tryz.ntmps191
    go_wp2_with (go_at_call 212; refine HC.out.mono ?_; rintro e w1 ⟨rfl,hd1,ht1⟩; have HD:Hid (w1.heap[bx]?=some (.cells (DC { d with f2:=dec d.f2 } bm) 117 (0,0))):=hd1; clear hd1)
    go_ret2
    exact ⟨by rw [E.out]; rfl,HT.out _ HD.out ht1,ht1⟩
 ·have hmem:m∈M:=List.mem_of_getElem? hm
  have hrun:=run_look_some hb he (uniq_of hu) i (m.1,m.2.1) (by unfold entsOf; rw [List.getElem?_map,hm]; rfl) false
  simp only [Bool.false_eq_true,if_false] at hrun
  have hrow:=h.rows m hmem
  obtain ⟨num,v,bs⟩:=m
  simp only at hp hrun hrow
  by_cases hf:d.f2=1
  ·have E:Hid (readS d num n=(⟨#[]⟩,6)):=by simp [Hid,readS,hf]
   have hfb:(d.f2 == 1)=true:=by simp [hf]
   rw [hfb] at HC
   generalize readS d num n=r at *
   clear hf hfil hu hp h hb he hrow
   go_enter Tryz.func191,Tryz.ntmps191
   go_wp2_with (go_at_call 212; refine HC.out.mono ?_; rintro e w1 ⟨rfl,hd1,ht1⟩; have HD:Hid (w1.heap[bx]?=some (.cells (DC { d with f2:=dec d.f2 } bm) 117 (0,0))):=hd1; clear hd1)
   go_ret2
   exact ⟨by rw [E.out]; rfl,HT.out _ HD.out ht1,ht1⟩
  ·have hfb:(d.f2 == 1)=false:=by simp [hf]
   rw [hfb] at HC
   have E0:readS d num n=if n < 0 \/ (bs.length:Int) <= n then (⟨#[]⟩,8) else (bs.getD n.toNat ⟨#[]⟩,0):=by
    unfold readS
    rw [if_neg hf,hfil,hp]
   generalize readS d num n=r at *
   obtain ⟨ao,cap,hv,hlm⟩:=hrow.shape
   unfold maxLen at hlm
   by_cases hn:n < 0
   ·have E:Hid (r=(⟨#[]⟩,8)):=by show r=_; rw [E0,if_pos (Or.inl hn)]
    subst hv
    clear hf hfil hu hp h hb he hrow E0 hm hmem
    go_enter Tryz.func191,Tryz.ntmps191
    go_wp2_with (go_at_call 212; refine HC.out.mono ?_; rintro e w1 ⟨rfl,hd1,ht1⟩; have HD:Hid (w1.heap[bx]?=some (.cells (DC { d with f2:=dec d.f2 } bm) 117 (0,0))):=hd1; clear hd1)
    go_ret2
    exact ⟨by rw [E.out]; rfl,HT.out _ HD.out ht1,ht1⟩
   ·by_cases hn2:(bs.length:Int) <= n
    ·have E:Hid (r=(⟨#[]⟩,8)):=by show r=_; rw [E0,if_pos (Or.inr hn2)]
     subst hv
     clear hf hfil hu hp h hb he hrow E0 hm hmem
     go_enter Tryz.func191,Tryz.ntmps191
     go_wp2_with (go_at_call 212; refine HC.out.mono ?_; rintro e w1 ⟨rfl,hd1,ht1⟩; have HD:Hid (w1.heap[bx]?=some (.cells (DC { d with f2:=dec d.f2 } bm) 117 (0,0))):=hd1; clear hd1)
     go_ret2
     exact ⟨by rw [E.out]; rfl,HT.out _ HD.out ht1,ht1⟩
    ·obtain ⟨k,rfl⟩:∃ k:Nat,n=(k:Int):=⟨n.toNat,by omega⟩
     have hk:k < bs.length:=by omega
     have E:Hid (r=(bs[k],0)):=by
      show r=_
      rw [E0,if_neg (by omega),Int.toNat_natCast]
      simp [List.getD,hk]
     have HR:Hid (∀ w',w'.heap[bx]?=some (.cells (DC { d with f2:=dec d.f2 } bm) 117 (0,0)) -> Touch [bx] w w' -> SRow w' v bs):=fun w' a b=>(HT.out w' a b).rows (num,v,bs) hmem
     obtain ⟨g,cap',hv',hc',_⟩:=hrow.cell (by omega)
     clear hv
     subst hv'
     clear hf hfil hu hp h hb he hrow E0 hm hmem
     go_enter Tryz.func191,Tryz.ntmps191
     go_wp2_with (go_at_call 212; refine HC.out.mono ?_; go_must (rintro e w1 ⟨rfl,hd1,ht1⟩; have HD:Hid (w1.heap[bx]?=some (.cells (DC { d with f2:=dec d.f2 } bm) 117 (0,0))):=hd1; have hcl:=row_cell (HR.out _ hd1 ht1) k hk; clear hd1))
     go_ret2
     exact ⟨by rw [E.out]; rfl,HT.out _ HD.out ht1,ht1⟩
def faultS (d:DS) (kind n bit:Int):DS:=
 if kind=1 then { d with f1:=max n 0 } else if kind=2 then { d with f2:=max n 0 } else if kind=3 then { d with f3:=max n 0,bit:=bit } else d
def createS (d:DS):DS:={ d with last:=d.last+1,files:=d.files++[(d.last+1,[])] }
theorem used_snoc (l:List FL) (k:Int):usedOf (l++[(k,[])])=usedOf l:=by simp [usedOf]
theorem heap_setBlock (w:World) (b:Nat) (o:Obj) (hb:b < w.heap.size):(setBlock w b o).heap[b]?=some o:=by
 simp [setBlock,hb]
theorem heap_setBlock_ne (w:World) (b k:Nat) (o:Obj) (h:k≠b):(setBlock w b o).heap[k]?=w.heap[k]?:=by
 simp only [setBlock]
 rw [Array.getElem?_setIfInBounds,if_neg (fun e=>h e.symm)]
theorem PD.put_new {w w':World} {bx bm:Nat} {d d':DS} {M:List PF} {k:Int} (h:PD w bx bm d M) (hd:w'.heap[bx]?=some (.cells (DC d' bm) 117 (0,0))) (ht:Touch [bx,bm] w w')
  (hm:∃ es clock,w'.heap[bm]?=some (.map es clock) /\ Ents es (entsOf (M++[(k,.slice none 0 0,[])]))) (hf:d'.files=d.files++[(k,[])]):PD w' bx bm d' (M++[(k,.slice none 0 0,[])]):=by
 have hn:=h.nodup
 have hr:rowsOf (M++[(k,.slice none 0 0,[])])=rowsOf M:=by simp [rowsOf,Value.ownBlock]
 refine ⟨hd,hm,by rw [hf,h.files]; simp [filesOf],fun m hm=>?_,by rw [hr]; exact hn⟩
 rcases List.mem_append.1 hm with hm | hm
 ·refine (h.rows m hm).touch ht (fun j hj=>?_)
  simp only [List.nodup_cons,List.mem_cons,not_or] at hn
  have:=mem_rows hm hj
  simp only [List.mem_cons,List.not_mem_nil,or_false,not_or]
  exact ⟨fun e=>hn.1.2 (e▸this),fun e=>hn.2.1 (e▸this)⟩
 ·simp only [List.mem_cons,List.not_mem_nil,or_false] at hm
  subst hm
  exact World.ownsRow_nil _ _ _ _
theorem pcreate (w:World) (bx bm:Nat) (d:DS) (M:List PF) (h:PD w bx bm d M) (h0:0 <= d.last) (h1:d.last <= 1000000000) (hnew:∀ f∈d.files,f.1 <= d.last) :
  Calls Tryz.prog 154 #[.pointer (some ⟨bx,0,none⟩)] w fun e w'=>e=.returned (.int .i64 (d.last+1)) /\ PD w' bx bm (createS d) (M++[(d.last+1,.slice none 0 0,[])]) /\ Touch [bx,bm] w w':=by
 obtain ⟨_,_,c2,c3,_,_,_,_,_,_,fz⟩:=DCells h.disk
 have ff:=fz 2
 obtain ⟨es,clock,hb,he⟩:=h.map
 have hn:=h.nodup
 simp only [List.nodup_cons,List.mem_cons,not_or] at hn
 have hne:bm≠bx:=fun e=>hn.1.1 e.symm
 have hb1:(w.setCell ⟨bx,2,none⟩ (.int .i64 (d.last+1))).drew.heap[bm]?=some (.map es clock):=by
  show (w.setCell ⟨bx,2,none⟩ (.int .i64 (d.last+1))).heap[bm]?=_
  rw [Below.heap_setCell _ _ _ _ hne]; exact hb
 have hup:=run_update_none hb1 he (d.last+1) (.slice none 0 0) (by
  intro p hp
  unfold entsOf at hp
  obtain ⟨m,hm,rfl⟩:=List.mem_map.1 hp
  have:=hnew (m.1,m.2.2) (by rw [h.files]; unfold filesOf; exact List.mem_map.2 ⟨m,hm,rfl⟩)
  simp only at this ⊢
  omega)
 have hfin:(setBlock (w.setCell ⟨bx,2,none⟩ (.int .i64 (d.last+1))).drew bm (.map (es.push ⟨.int .i64 (d.last+1),.slice none 0 0,clock⟩) (clock+1))).heap[bx]?=some (.cells (DC (createS d) bm) 117 (0,0)):=by
  rw [heap_setBlock_ne _ _ _ _ (fun e=>hne e.symm)]
  show (w.setCell ⟨bx,2,none⟩ (.int .i64 (d.last+1))).heap[bx]?=_
  rw [heap_setCell_same _ _ _ _ _ _ h.disk]
  simp only [DC,createS,used_snoc]
  rfl
 have hc2:=(DCells hfin).2.2.1
 have HFIN:Hid _:=hfin
 have HP:Hid (PD w bx bm d M):=h
 have HE:Hid (Ents es (entsOf M)):=he
 have HB:Hid (w.heap[bm]?=some (.map es clock)):=hb
 have HH:Hid ((setBlock (w.setCell ⟨bx,2,none⟩ (.int .i64 (d.last+1))).drew bm (.map (es.push ⟨.int .i64 (d.last+1),.slice none 0 0,clock⟩) (clock+1))).heap[bm]?=some (.map (es.push ⟨.int .i64 (d.last+1),.slice none 0 0,clock⟩) (clock+1))):=
  heap_setBlock _ _ _ (by have:=h.lt bm (by simp); simpa using this)
 have HTT:Hid (Touch [bx,bm] w (setBlock (w.setCell ⟨bx,2,none⟩ (.int .i64 (d.last+1))).drew bm (.map (es.push ⟨.int .i64 (d.last+1),.slice none 0 0,clock⟩) (clock+1)))):=
  ((((Touch.refl _ _).setCell (by simp) _).drew).setBlock (by simp) _)
 have hcr:(createS d).last=d.last+1:=rfl
 rw [hcr] at hc2
 clear h fz hb he hb1 hn hnew hfin hcr
 go_enter Tryz.func154,Tryz.ntmps154
 go_wp2
 go_region
 all_goals
  go_wp2
  go_ret
  refine ⟨rfl,?_,HTT.out⟩
  exact HP.out.put_new HFIN.out HTT.out ⟨_,_,HH.out,by simpa [entsOf] using HE.out.push _ _ _⟩ rfl
def deleteS (d:DS) (file:Int):Int × DS:=
 match posOf d.files file with
 | none=>(8,d)
 | some (i,_)=>(0,{ d with files:=d.files.eraseIdx i })
theorem used_erase:∀ (l:List FL) (i:Nat) (f:FL),l[i]?=some f -> usedOf l=usedOf (l.eraseIdx i)+f.2.length
 | [],_,_,h=>by simp at h
 | a::l,0,f,h=>by
  simp only [List.getElem?_cons_zero,Option.some.injEq] at h
  subst h
  simp [usedOf]; omega
 | a::l,i+1,f,h=>by
  have:=used_erase l i f (by simpa using h)
  simp only [usedOf,List.eraseIdx_cons_succ,List.map_cons,List.sum_cons] at *
  omega
theorem mem_erase {M:List PF} {i:Nat} {m:PF} (h:m∈M.eraseIdx i):m∈M:=List.mem_of_mem_eraseIdx h
theorem rows_erase:∀ (M:List PF) (i:Nat),List.Sublist (rowsOf (M.eraseIdx i)) (rowsOf M)
 | [],_=>List.Sublist.refl _
 | m::M,0=>by simp only [List.eraseIdx_cons_zero,rowsOf,List.flatMap_cons]; exact List.sublist_append_right _ _
 | m::M,i+1=>by
  have:=rows_erase M i
  simp only [List.eraseIdx_cons_succ,rowsOf,List.flatMap_cons] at *
  exact List.Sublist.append (List.Sublist.refl _) this
theorem PD.strike {w w':World} {bx bm:Nat} {d d':DS} {M:List PF} {i:Nat} (h:PD w bx bm d M) (hd:w'.heap[bx]?=some (.cells (DC d' bm) 117 (0,0))) (ht:Touch [bx,bm] w w')
  (hm:∃ es clock,w'.heap[bm]?=some (.map es clock) /\ Ents es (entsOf (M.eraseIdx i))) (hf:d'.files=d.files.eraseIdx i):PD w' bx bm d' (M.eraseIdx i):=by
 have hn:=h.nodup
 refine ⟨hd,hm,by rw [hf,h.files]; unfold filesOf; rw [map_erase],fun m hm=>?_,?_⟩
 ·refine (h.rows m (mem_erase hm)).touch ht (fun j hj=>?_)
  simp only [List.nodup_cons,List.mem_cons,not_or] at hn
  have:=mem_rows (mem_erase hm) hj
  simp only [List.mem_cons,List.not_mem_nil,or_false,not_or]
  exact ⟨fun e=>hn.1.2 (e▸this),fun e=>hn.2.1 (e▸this)⟩
 ·exact List.Sublist.nodup (((rows_erase M i).cons_cons bm).cons_cons bx) hn
theorem pdelete (w:World) (bx bm:Nat) (d:DS) (M:List PF) (file:Int) (h:PD w bx bm d M) (hu:Nums d.files) (hused:usedOf d.files <= 1000000000) :
  Calls Tryz.prog 128 #[.pointer (some ⟨bx,0,none⟩),.int .i64 file] w fun e w'=>e=.returned (.int .i64 (deleteS d file).1) /\ (∃ M',PD w' bx bm (deleteS d file).2 M' /\ List.Sublist (rowsOf M') (rowsOf M)) /\ Touch [bx,bm] w w':=by
 obtain ⟨_,_,_,c3,c4,_,_,_,_,_,fz⟩:=DCells h.disk
 have ff:=fz 4
 obtain ⟨es,clock,hb,he⟩:=h.map
 have hfil:=h.files
 have hn:=h.nodup
 simp only [List.nodup_cons,List.mem_cons,not_or] at hn
 have hne:bm≠bx:=fun e=>hn.1.1 e.symm
 have hu':=hu
 rw [hfil] at hu'
 have HP:Hid (PD w bx bm d M):=h
 rcases pos_cases M file with ⟨hp,hno⟩ | ⟨i,m,hm,rfl,hp⟩
 ·have hrun:=run_look_none hb he file (by intro p hp; unfold entsOf at hp; obtain ⟨m,hm,rfl⟩:=List.mem_map.1 hp; exact hno m hm) true
  simp only [if_true] at hrun
  have E:Hid (deleteS d file=(8,d)):=by
   show deleteS d file=_
   unfold deleteS
   rw [hfil,hp]
  generalize deleteS d file=r at *
  clear hfil hu hu' hno hp h hb he hn hne fz
  go_enter Tryz.func128,Tryz.ntmps128
  go_wp2
  go_ret
  exact ⟨by rw [E.out]; rfl,⟨M,by rw [E.out]; exact HP.out,List.Sublist.refl _⟩,Touch.refl _ _⟩
 ·have hent:(entsOf M)[i]?=some (m.1,m.2.1):=by unfold entsOf; rw [List.getElem?_map,hm]; rfl
  have hrun:=run_look_some hb he (uniq_of hu') i (m.1,m.2.1) hent true
  simp only [if_true] at hrun
  have hrow:=h.rows m (List.mem_of_getElem? hm)
  have hue:=used_erase d.files i (m.1,m.2.2) (by rw [hfil]; unfold filesOf; rw [List.getElem?_map,hm]; rfl)
  obtain ⟨num,v,bs⟩:=m
  simp only at hp hrun hrow hue hent
  obtain ⟨ao,cap,rfl,_⟩:=hrow.shape
  have E:Hid (deleteS d num=(0,{ d with files:=d.files.eraseIdx i })):=by
   show deleteS d num=_
   unfold deleteS
   rw [hfil,hp]
  generalize deleteS d num=r at *
  have hb1:(w.setCell ⟨bx,4,none⟩ (.int .i64 ((usedOf d.files:Int) - (bs.length:Int)))).heap[bm]?=some (.map es clock):=by
   rw [Below.heap_setCell _ _ _ _ hne]; exact hb
  have hdel:=fun ty=>run_delete_some hb1 he (uniq_of hu') i (num,.slice ao bs.length cap) hent ty
  have hd1:(setBlock (w.setCell ⟨bx,4,none⟩ (.int .i64 ((usedOf d.files:Int) - (bs.length:Int)))) bm (.map (es.eraseIdxIfInBounds i) clock)).heap[bx]?=some (.cells (DC { d with files:=d.files.eraseIdx i } bm) 117 (0,0)):=by
   rw [heap_setBlock_ne _ _ _ _ (fun e=>hne e.symm),heap_setCell_same _ _ _ _ _ _ h.disk]
   have:((usedOf d.files:Int) - (bs.length:Int))=(usedOf (d.files.eraseIdx i):Int):=by omega
   rw [this]
   rfl
  have HT:Hid (Touch [bx,bm] w (setBlock (w.setCell ⟨bx,4,none⟩ (.int .i64 ((usedOf d.files:Int) - (bs.length:Int)))) bm (.map (es.eraseIdxIfInBounds i) clock))):=
   ((Touch.refl _ _).setCell (by simp) _).setBlock (by simp) _
  have HPD:Hid (PD (setBlock (w.setCell ⟨bx,4,none⟩ (.int .i64 ((usedOf d.files:Int) - (bs.length:Int)))) bm (.map (es.eraseIdxIfInBounds i) clock)) bx bm { d with files:=d.files.eraseIdx i } (M.eraseIdx i)):=
   h.strike hd1 HT.out ⟨_,_,heap_setBlock _ _ _ (by have:=h.lt bm (by simp); simpa using this),by unfold entsOf; rw [map_erase]; exact he.erase i⟩ rfl
  have HS:Hid (List.Sublist (rowsOf (M.eraseIdx i)) (rowsOf M)):=rows_erase M i
  have hle:(bs.length:Int) <= (usedOf d.files:Int):=by omega
  have hle2:(usedOf d.files:Int) <= 1000000000:=by omega
  clear hfil hu hu' hp h hb he hn hne fz hm hent hrow hue hb1 hd1 hused
  go_enter Tryz.func128,Tryz.ntmps128
  go_wp2
  go_ret
  exact ⟨by rw [E.out]; rfl,⟨M.eraseIdx i,by rw [E.out]; exact HPD.out,HS.out⟩,HT.out⟩
def newS (b n:Int):DS:={ block:=max b 1,blocks:=max n 0,last:=0,wrote:=0,files:=[],f1:=0,f2:=0,f3:=0,bit:=0 }
theorem PD.fresh (w':World) (bx bm:Nat) (d:DS) (hx:w'.heap[bx]?=some (.cells (DC d bm) 117 (0,0))) (hm:w'.heap[bm]?=some (.map #[] 0)) (hf:d.files=[]) (hne:bx≠bm):PD w' bx bm d []:=
 ⟨hx,⟨_,_,hm,rfl⟩,hf,fun _ h=>by simp at h,by simp [rowsOf,hne]⟩
theorem pnew (b n:Int) (w:World):Calls Tryz.prog 15 #[.int .i64 b,.int .i64 n] w fun e w'=>e=.returned (.pointer (some ⟨w.heap.size+1,0,none⟩)) /\ PD w' (w.heap.size+1) w.heap.size (newS b n) [] /\ Touch [] w w':=by
 have hmm:=@run_makeMap Tryz.prog
 have HF:Hid (∀ d:DS,d.files=[] -> PD ((w.alloc (.map #[] 0)).alloc (.cells (DC d w.heap.size) 117)) (w.heap.size+1) w.heap.size d []):=fun d hf=>by
  refine PD.fresh _ _ _ d ?_ ?_ hf (by omega)
  ·have:=heap_alloc_new (w.alloc (.map #[] 0)) (.cells (DC d w.heap.size) 117)
   simpa using this
  ·rw [Below.heap_alloc _ _ _ (by simp)]
   exact heap_alloc_new w _
 have H2:Hid (∀ a c,max b 1=a -> max n 0=c -> newS b n={ block:=a,blocks:=c,last:=0,wrote:=0,files:=[],f1:=0,f2:=0,f3:=0,bit:=0 }):=fun a c h1 h2=>by unfold newS; rw [h1,h2]
 go_enter Tryz.func15,Tryz.ntmps15
 go_wp2
 all_goals go_ret
 all_goals refine ⟨rfl,?_,((Touch.refl _ _).alloc _).alloc _⟩
 all_goals
  first
   | (rw [H2.out 1 0 (by omega) (by omega)]; exact HF.out ⟨1,0,0,0,[],0,0,0,0⟩ rfl)
   | (rw [H2.out 1 n (by omega) (by omega)]; exact HF.out ⟨1,n,0,0,[],0,0,0,0⟩ rfl)
   | (rw [H2.out b 0 (by omega) (by omega)]; exact HF.out ⟨b,0,0,0,[],0,0,0,0⟩ rfl)
   | (rw [H2.out b n (by omega) (by omega)]; exact HF.out ⟨b,n,0,0,[],0,0,0,0⟩ rfl)
end Go.Proofs.YtjoinhljdbljaaaGreat
namespace Go.Proofs.YtjoinhljdbljaaaGreat
open Go.RowKit
theorem tmod_two (a n:Int) (hn:0 < n):a.tmod n=a % n \/ a.tmod n=a % n - n:=by
 rw [Int.tmod_eq_emod]
 split
 ·left; omega
 ·right; omega
theorem bit_eq (bit n:Int) (hn:0 < n) (hn2:n <= 8388608):(wrap64 (bit.tmod n+n)).tmod n=bit % n:=by
 have h0:=Int.emod_nonneg bit (show n≠0 by omega)
 have h1:=Int.emod_lt_of_pos bit hn
 rcases tmod_two bit n hn with h | h
 ·rw [h,IntWalk.wrap64_in _ (by omega),Int.tmod_eq_emod_of_nonneg (by omega),Int.add_emod_right,Int.emod_emod_of_dvd _ (Int.dvd_refl _)]
 ·rw [h,IntWalk.wrap64_in _ (by omega),Int.tmod_eq_emod_of_nonneg (by omega),Int.sub_add_cancel,Int.emod_emod_of_dvd _ (Int.dvd_refl _)]
theorem row_string (W:World) (g:Nat) (l:List UInt8) (cap:Nat) (cur:Array Value) (f:Nat × Nat) (hh:W.heap[g]?=some (.cells cur 5 f)) (hx:∀ i (h:i < l.length),cur[i]?=some (c8 l[i])) :
  (convert 172 9 (.slice (some ⟨g,0,none⟩) l.length cap)).run Tryz.prog W=.ok (.string ⟨l.toArray⟩) W:=by
 rw [run_convert_bytes_string W 172 9 5 _ _ _ Tryz.underlying172 Tryz.underlying5 Tryz.underlying9]
 have hl:(loadCells (⟨g,0,none⟩:Addr) l.length).run Tryz.prog W=.ok ((l.map fun b=>(b.toNat:Int)).map (Value.int .u8)).toArray W:=by
  have:=run_loadCells_list (P:=Tryz.prog) (w:=W) ⟨g,0,none⟩ (l.map c8) (fun j u hu=>by
   obtain ⟨hj,rfl⟩:=List.getElem?_eq_some_iff.1 hu
   simp only [List.length_map] at hj
   have hadd:(⟨g,0,none⟩:Addr).add j=⟨g,j,none⟩:=by unfold Addr.add; split<;>simp_all
   rw [hadd]
   simp [World.cell?,hh,hx j hj])
  simp only [List.length_map] at this
  rw [List.map_map]
  exact this
 rw [run_bytesToString W ⟨g,0,none⟩ l.length cap _ hl,foldl_push]
 congr 2
 congr 1
 show #[]++l.toArray=l.toArray
 simp
def fb (x:UInt8) (k:Nat):UInt8:=UInt8.ofNat (x.toNat ^^^ 2 ^ k % 256)
theorem fb_eq (x:UInt8) (k:Nat) (_hk:k < 8):Value.int .u8 (bits .xor .u8 (x.toNat:Int) (2 ^ k % 256))=c8 (fb x k):=by
 have h2:((2:Int) ^ k % 256)=((2 ^ k % 256:Nat):Int):=by simp
 have hx:x.toNat ^^^ 2 ^ k % 256 < 2 ^ 8:=Nat.xor_lt_two_pow x.toNat_lt (Nat.mod_lt _ (by decide))
 rw [h2,u8_xor_nat _ _ x.toNat_lt (Nat.mod_lt _ (by decide)),c8,fb,UInt8.toNat_ofNat',Nat.mod_eq_of_lt hx]
def flipS (s:ByteArray) (b:Nat):ByteArray:=⟨(s.data.toList.set (b / 8) (fb (s.data.toList.getD (b / 8) 0) (b % 8))).toArray⟩
def turnS (s:ByteArray) (bit:Int):ByteArray:=if s.size=0 then s else flipS s (bit % (8 * (s.size:Int))).toNat
theorem heap_set_new (w:World) (c:Array Value) (t:TypeId) (f:Nat × Nat) (i:Nat) (v:Value):((w.alloc (.cells c t f)).setCell ⟨w.heap.size,i,none⟩ v).heap[w.heap.size]?=some (.cells (c.setIfInBounds i v) t f):=by
 have:=heap_alloc_new w (.cells c t f)
 simp only [World.setCell,Array.getElem?_modify,if_true,this,Option.map_some]
 simp
theorem flipped (s:ByteArray) (b C:Nat) (hb:b / 8 < s.size) (x:UInt8) (hx:x=s[b / 8]):∀ i (h:i < (s.data.toList.set (b / 8) (fb (s.data.toList.getD (b / 8) 0) (b % 8))).length),((bytesRow s C).setIfInBounds (b / 8) (c8 (fb x (b % 8))))[i]?=some (c8 (s.data.toList.set (b / 8) (fb (s.data.toList.getD (b / 8) 0) (b % 8)))[i]):=by
 intro i hi
 have hsz:s.data.size=s.size:=rfl
 simp only [List.length_set,Array.length_toList] at hi
 have hrow:=bytesRow_at s C i hi
 have hlen:i < (bytesRow s C).size:=(Array.getElem?_eq_some_iff.1 hrow).1
 rw [Array.getElem?_setIfInBounds]
 by_cases e:b / 8=i
 ·subst e
  rw [if_pos rfl,if_pos hlen]
  have:s.data.toList.getD (b / 8) 0=x:=by
   rw [hx]
   simp only [List.getD,Array.getElem?_toList]
   rw [Array.getElem?_eq_getElem (by omega)]
   rfl
  rw [List.getElem_set_self,this]
 ·rw [if_neg e,hrow]
  simp [e,c8]
theorem turned_any (s:ByteArray) (bit:Int) (w:World) (hs:s.size <= 1048576) :
  Calls Tryz.prog 213 #[.string s,.int .i64 bit] w fun e w'=>e=.returned (.string (turnS s bit)) /\ Touch [] w w':=by
 by_cases h1:s.size=0
 ·have hs0:s=⟨#[]⟩:=by
   have h:s.data.size=0:=h1
   have:s.data=#[]:=Array.eq_empty_of_size_eq_zero h
   cases s
   simp only at this
   rw [this]
  subst hs0
  have E:Hid (turnS ⟨#[]⟩ bit=⟨#[]⟩):=rfl
  go_enter Tryz.func213,Tryz.ntmps213
  go_wp2
  go_ret
  exact ⟨by rw [E.out]; rfl,Touch.refl _ _⟩
 ·have he2:¬ s.toList=[]:=by
   rw [ByteArray.toList_eq]
   intro e
   apply h1
   have:=congrArg List.length e
   simpa using this
  have he:s.toList.isEmpty=false:=by simp [he2]
  have hcv:=run_bytes_of_string (P:=Tryz.prog) w 9 172 5 s Tryz.underlying9 Tryz.underlying172 Tryz.underlying5
  have HBIT:=bit_eq bit (8 * (s.size:Int)) (by omega) (by omega)
  have hb0:=Int.emod_nonneg bit (show 8 * (s.size:Int)≠0 by omega)
  have hb3:=Int.emod_lt_of_pos bit (show 0 < 8 * (s.size:Int) by omega)
  have E0:turnS s bit=flipS s (bit % (8 * (s.size:Int))).toNat:=by unfold turnS; rw [if_neg h1]
  obtain ⟨b,hb⟩:∃ b:Nat,bit % (8 * (s.size:Int))=(b:Int):=⟨(bit % (8 * (s.size:Int))).toNat,by omega⟩
  rw [hb] at HBIT E0 hb3
  rw [Int.toNat_natCast] at E0
  have hblt:b < 8 * s.size:=by omega
  have hb8:b / 8 < s.size:=by omega
  generalize grownCap w s.size 0 5=C at *
  generalize turnS s bit=r at *
  have E:Hid (r=flipS s b):=E0
  have HB:Hid ((wrap64 (bit.tmod (8 * (s.size:Int))+8 * (s.size:Int))).tmod (8 * (s.size:Int))=(b:Int)):=HBIT
  have hrow:=bytesRow_at s C (b / 8) (by exact hb8)
  have hcell:(w.alloc (.cells (bytesRow s C) 5 ((bytesRow s C).size,(bytesRow s C).size+1))).cell? ⟨w.heap.size,b / 8,none⟩=some (.int .u8 (s[b / 8].toNat:Int)):=by
   simp only [World.cell?,heap_alloc_new]
   simp only [Option.isSome_none,Bool.false_eq_true,if_false,hrow]
   rfl
  have hlen:b / 8 < (bytesRow s C).size:=(Array.getElem?_eq_some_iff.1 hrow).1
  have hfr:(w.alloc (.cells (bytesRow s C) 5 ((bytesRow s C).size,(bytesRow s C).size+1))).frozen? ⟨w.heap.size,b / 8,none⟩=false:=by
   simp only [World.frozen?,heap_alloc_new]
   simp
   omega
  have hst:(convert 172 9 (.slice (some ⟨w.heap.size,0,none⟩) s.size C)).run Tryz.prog (((w.alloc (.cells (bytesRow s C) 5 ((bytesRow s C).size,(bytesRow s C).size+1))).setCell ⟨w.heap.size,b / 8,none⟩ (.int .u8 (bits .xor .u8 (s[b / 8].toNat:Int) (2 ^ (b % 8) % 256)))).drew.drew) =
    .ok (.string (flipS s b)) (((w.alloc (.cells (bytesRow s C) 5 ((bytesRow s C).size,(bytesRow s C).size+1))).setCell ⟨w.heap.size,b / 8,none⟩ (.int .u8 (bits .xor .u8 (s[b / 8].toNat:Int) (2 ^ (b % 8) % 256)))).drew.drew):=by
   rw [fb_eq _ _ (Nat.mod_lt _ (by decide))]
   have hl:s.size=(s.data.toList.set (b / 8) (fb (s.data.toList.getD (b / 8) 0) (b % 8))).length:=by simp
   have:=row_string (((w.alloc (.cells (bytesRow s C) 5 ((bytesRow s C).size,(bytesRow s C).size+1))).setCell ⟨w.heap.size,b / 8,none⟩ (c8 (fb s[b / 8] (b % 8)))).drew.drew) w.heap.size _ C _ _ (heap_set_new w _ _ _ _ _) (flipped s b C hb8 _ rfl)
   rw [<- hl] at this
   exact this
  have HST:Hid _:=hst
  clear hb E0 HBIT hb0 hb3 hrow hlen hst
  go_enter Tryz.func213,Tryz.ntmps213
  go_wp2
  rw [HB.out]
  clear HB
  go_region
  all_goals
   have hst:=HST.out
   clear hcell hfr hcv
   go_wp2
   go_ret
   refine ⟨by rw [E.out]; rfl,?_⟩
   refine Touch.drew (Touch.drew ?_)
   refine ⟨rfl,rfl,rfl,by simp,fun k hk _=>?_⟩
   rw [Below.heap_setCell _ _ _ _ (by simp; omega),Below.heap_alloc _ _ _ hk]
end Go.Proofs.YtjoinhljdbljaaaGreat
