/- What a map from ints to one-cell values does, entry by entry, and what follows. -/
import Derived.Test.YtjoinhljdbljaaaGreatKeyAToKeyD
import Derived.Deep.RegionWith
import Derived.Deep.RegionHeld3
import Derived.Deep.AppendLies
import Derived.MapKept
import Derived.Maps.OwnSet
import Derived.Deep.RegionLaw
set_option maxHeartbeats 2000000
set_option maxRecDepth 20000
namespace Go.Proofs.YtjoinhljdbljaaaGreat
open Go.RowKit Go.Proofs.Tryz
open Go.ChangeMaps (setBlock)
open Go.MapKept
variable {F F':List Nat} {W a w w' w2 w4:World} {bm bx cap clock cp g i n:Nat} {bs:List ByteArray} {es:Array MapEntry} {file num:Int} {k newv v:Value} {t:ByteArray}
abbrev Mc:=Int×Value
def En (es:Array MapEntry)(L:List Mc):Prop:=es.toList.map (λe=>(e.key,e.val))=L.map λp=>(Value.int .i64 p.1,p.2)
theorem En.len {L:List Mc}(h:En es L):es.size=L.length:=by
 have:=congrArg List.length h;simpa using this
theorem En.at {es:Array MapEntry}{L:List Mc}(h:En es L)(i:Nat)(e:MapEntry)(he:es.toList[i]?=some e):∃p,L[i]?=some p/\e.key=.int .i64 p.1/\e.val=p.2:=by
 have:=congrArg (λl=>l[i]?) h;simp only[M_,he,Option.map_some]at this;cases hp:L[i]? with
 | none=>simp[hp]at this
 | some p=>
  simp only[hp,Option.map_some,j_,Prod.mk.injEq]at this;exact⟨p,rfl,this.1,this.2⟩
theorem isKey (k:Int):IsKey (.int .i64) (.int .i64 k):=by
 simp[IsKey]
def Uniq (L:List Mc):Prop:=∀(i j:Nat) (a b:Mc),L[i]?=some a->L[j]?=some b->a.1=b.1->i=j
theorem find_none {L:List Mc}(h:En es L)(k:Int)(hk:∀p∈L,p.1≠k):Instr.findNow (.int .i64) (.int .i64 k) es.toList 0=some none:=by
 have hkeys:∀x∈es.toList,IsKey (.int .i64) x.key:=by
  intro x hx;obtain⟨j,hj,rfl⟩:=A_ hx;obtain⟨q,_,h4,_⟩:=h.at j _ (p_ hj);rw[h4];exact isKey _
 rcases findNow_spec (isKey k) es.toList 0 hkeys with h1|⟨j,e,_,h2,h3⟩
 ·exact h1.1
 ·obtain⟨p,hp,h4,_⟩:=h.at j e h2;rw[h3]at h4;simp only[Value.int.injEq,true_and]at h4;exact absurd h4.symm (hk p (v_ hp))
theorem find_some {L:List Mc}(h:En es L)(hu:Uniq L)(i:Nat)(p:Mc)(hp:L[i]?=some p):Instr.findNow (.int .i64) (.int .i64 p.1) es.toList 0=some (some (i,p.2)):=by
 have hkeys:∀x∈es.toList,IsKey (.int .i64) x.key:=by
  intro x hx;obtain⟨j,hj,rfl⟩:=A_ hx;obtain⟨q,_,h4,_⟩:=h.at j _ (p_ hj);rw[h4];exact isKey _
 have hi:i<es.toList.length:=by
  have:=(l_.1 hp).1;have:=h.len;simp;omega
 rcases findNow_spec (isKey p.1) es.toList 0 hkeys with h1|⟨j,e,h1,h2,h3⟩
 ·obtain⟨q,hq,h4,_⟩:=h.at i _ (p_ hi);rw[hp]at hq;cases hq;exact absurd h4 (h1.2 _ (m_ hi))
 ·obtain⟨q,hq,h4,h5⟩:=h.at j e h2;rw[h3]at h4;simp only[Value.int.injEq,true_and]at h4;have:i=j:=hu i j p q hp hq h4;subst this;rw[hp]at hq;cases hq;rw[h1,h5,U_]
theorem run_findKey {r:Option (Nat×Value)}(h:Instr.findNow (.int .i64) k es.toList 0=some r):(Instr.findKey 3 k es.toList).run prog w=.ok r w:=by
 simp[Instr.findKey,run_underlying underlying3,h]
theorem zero129 (w:World):(zeroValue 255).run prog w=.ok (.slice none 0 0) w:=by kernel_rfl
theorem rM {L:List Mc}(hb:w.heap[bm]?=some (.map es clock))(h:En es L)(k:Int)(hk:∀p∈L,p.1≠k)(c:Bool) :
  (Instr.lookup 114 (.map (some bm)) (.int .i64 k) c).run prog w=.ok (if c then .tuple #[.slice none 0 0,.bool false]else .slice none 0 0) w:=by
 unfold Instr.lookup;simp only[Sem.run_bind,run_underlying underlying114,MapKept.run_getObj_map hb,Result.andThen_ok,Sem.run_pure,MapKept.run_checkKey underlying3 (isKey k),run_findKey (find_none h k hk),zero129]
theorem rU {L:List Mc}(hb:w.heap[bm]?=some (.map es clock))(h:En es L)(hu:Uniq L)(i:Nat)(p:Mc)(hp:L[i]?=some p)(c:Bool) :
  (Instr.lookup 114 (.map (some bm)) (.int .i64 p.1) c).run prog w=.ok (if c then .tuple #[p.2,.bool true]else p.2) w:=by
 unfold Instr.lookup;simp only[Sem.run_bind,run_underlying underlying114,MapKept.run_getObj_map hb,Result.andThen_ok,Sem.run_pure,MapKept.run_checkKey underlying3 (isKey p.1),run_findKey (find_some h hu i p hp)]
theorem En.push {es:Array MapEntry}{L:List Mc}(h:En es L)(k:Int)(v:Value)(c:Nat):En (es.push ⟨.int .i64 k,v,c⟩) (L++[(k,v)]):=by
 unfold En at *;simp[h]
theorem En.set {es:Array MapEntry}{L:List Mc}(h:En es L)(i:Nat)(k:Int)(v:Value):En (es.modify i λe=>{ e with key:=.int .i64 k,val:=v }) (L.set i (k,v)):=by
 unfold En at *;apply List.ext_getElem?;intro j;have hj:=congrArg (λl=>l[j]?) h;simp only[M_,Y_,Array.getElem?_modify,List.getElem?_set]at hj ⊢;by_cases e:i=j
 ·subst e;have hl:=(show En es L from h).len;by_cases hlt:i<L.length
  ·simp[hlt,hl]
  ·simp[hlt,hl]
 ·simp only[e,if_false];exact hj
theorem mP {α β:Type}(f:α->β):∀(l:List α) (i:Nat),(l.eraseIdx i).map f=(l.map f).eraseIdx i
 | [],_=>rfl
 | _::_,0=>rfl
 | a::l,i+1=>by simp[List.eraseIdx,mP f l i]
theorem En.erase {L:List Mc}(h:En es L)(i:Nat):En (es.eraseIdxIfInBounds i) (L.eraseIdx i):=by
 unfold En at *;by_cases hi:i<es.size
 ·have:(es.eraseIdxIfInBounds i).toList=es.toList.eraseIdx i:=by simp[Array.eraseIdxIfInBounds,hi]
  rw[this,mP,mP,h]
 ·have hl:=(show En es L from h).len;have:es.eraseIdxIfInBounds i=es:=by simp[Array.eraseIdxIfInBounds,hi]
  rw[this,List.eraseIdx_of_length_le (by omega)];exact h
theorem run_update_none {L:List Mc}(hb:w.heap[bm]?=some (.map es clock))(h:En es L)(k:Int)(v:Value)(hk:∀p∈L,p.1≠k) :
  (Instr.mapUpdate 114 (.map (some bm)) (.int .i64 k) v).run prog w=.ok () (setBlock w bm (.map (es.push ⟨.int .i64 k,v,clock⟩) (clock+1))):=by
 unfold Instr.mapUpdate;simp only[Sem.run_bind,run_underlying underlying114,MapKept.run_getObj_map hb,Result.andThen_ok,MapKept.run_checkKey underlying3 (isKey k),run_findKey (find_none h k hk),MapKept.run_setObj_map _ hb];rfl
theorem raa {L:List Mc}(hb:w.heap[bm]?=some (.map es clock))(h:En es L)(hu:Uniq L)(i:Nat)(p:Mc)(hp:L[i]?=some p)(v:Value) :
  (Instr.mapUpdate 114 (.map (some bm)) (.int .i64 p.1) v).run prog w=.ok () (setBlock w bm (.map (es.modify i λe=>{ e with key:=.int .i64 p.1,val:=v }) clock)):=by
 have hi:i<es.size:=by
  have:=(l_.1 hp).1;have:=h.len;omega
 obtain⟨q,hq,h4,_⟩:=h.at i es[i] (by simp[hi]);rw[hp]at hq;cases hq;unfold Instr.mapUpdate;simp only[Sem.run_bind,run_underlying underlying114,MapKept.run_getObj_map hb,Result.andThen_ok,MapKept.run_checkKey underlying3 (isKey p.1),run_findKey (find_some h hu i p hp),Instr.keyThatStays,
  q_ hi,Option.map_some,Option.getD_some,h4,Instr.sameBits,beq_self_eq_true,Bool.and_self,if_true,Sem.run_pure,MapKept.run_setObj_map _ hb]
 rfl
theorem run_delete_some {L:List Mc}(hb:w.heap[bm]?=some (.map es clock))(h:En es L)(hu:Uniq L)(i:Nat)(p:Mc)(hp:L[i]?=some p)(ty:TypeId) :
  (Builtin.delete_ #[114,3] ty #[.map (some bm),.int .i64 p.1]).run prog w=.ok (.tuple #[]) (setBlock w bm (.map (es.eraseIdxIfInBounds i) clock)):=by
 unfold Builtin.delete_;simp[run_underlying underlying114,MapKept.run_getObj_map hb,MapKept.run_checkKey underlying3 (isKey p.1),run_findKey (find_some h hu i p hp),MapKept.run_setObj_map _ hb];rfl
abbrev FL:=Int×List ByteArray
structure DS where
 block:Int
 blocks:Int
 last:Int
 wrote:Int
 files:List FL
 f1:Int
 f2:Int
 f3:Int
 bit:Int
def uO (l:List FL):Nat:=(l.map λf=>f.2.length).sum
def DC (d:DS)(bm:Nat):Array Value:=
 #[.int .i64 d.block,.int .i64 d.blocks,.int .i64 d.last,.map (some bm),.int .i64 (uO d.files:Int),.int .i64 d.wrote,.int .i64 0,.int .i64 d.f1,.int .i64 d.f2,.int .i64 d.f3,.int .i64 d.bit]
structure Touch (F:List Nat)(w w':World):Prop where
 os:w'.os=w.os
 tape:w'.tape=w.tape
 output:w'.output=w.output
 size:w.heap.size<=w'.heap.size
 block:∀k,k<w.heap.size->k∉F->w'.heap[k]?=w.heap[k]?
theorem Touch.refl (F:List Nat)(w:World):Touch F w w:=⟨rfl,rfl,rfl,e_ _,λ_ _ _=>rfl⟩
theorem tr_ :Touch [] w w:=Touch.refl [] w
theorem Touch.trans {F:List Nat}{a b c:World}(h:Touch F a b)(k:Touch F b c):Touch F a c:=
 ⟨k.os.trans h.os,k.tape.trans h.tape,k.output.trans h.output,k_ h.size k.size,λi hi hn=>(k.block i (s_ hi h.size) hn).trans (h.block i hi hn)⟩
theorem Touch.drew {F:List Nat}{a w:World}(h:Touch F a w):Touch F a w.drew:=⟨h.os,h.tape,h.output,h.size,h.block⟩
theorem Touch.alloc {F:List Nat}{a w:World}(h:Touch F a w)(o:Obj):Touch F a (w.alloc o):=
 h.trans ⟨rfl,rfl,rfl,by simp,λk hk _=>Below.heap_alloc _ _ _ hk⟩
theorem Touch.setCell {F:List Nat}{a w:World}(h:Touch F a w){p:Addr}(hp:p.block∈F)(u:Value):Touch F a (w.setCell p u):=
 h.trans ⟨rfl,rfl,rfl,by simp,λk _ hn=>Below.heap_setCell _ _ _ _ (λe=>hn (e▸hp))⟩
theorem Touch.setBlock {F:List Nat}{a w:World}(h:Touch F a w){b:Nat}(hp:b∈F)(o:Obj):Touch F a (setBlock w b o):=
 h.trans ⟨rfl,rfl,rfl,by simp[Go.ChangeMaps.setBlock],λk _ hn=>by simp only[Go.ChangeMaps.setBlock];rw[E_,if_neg (λ(e:b=k)=>hn (e▸hp))]⟩
theorem Touch.grown {row:Option Nat}(h:Touch F a w)(hg:w.grownBy w' row)(hr:∀k,row=some k->k∈F):Touch F a w':=
 h.trans ⟨hg.os,hg.tape,hg.output,hg.size,λk hk hn=>hg.block k hk (λe=>hn (hr k e.symm))⟩
theorem Touch.mono (h:Touch F w w')(hF:∀k∈F,k∈F'):Touch F' w w':=⟨h.os,h.tape,h.output,h.size,λk hk hn=>h.block k hk (λe=>hn (hF k e))⟩
def SH (w:World)(v:Value)(bs:List ByteArray):Prop:=w.ownsRow 0 9 1 v bs.length (bs.map Value.string)
abbrev PF:=Int×Value×List ByteArray
def eG (M:List PF):List Mc:=M.map λm=>(m.1,m.2.1)
def fO (M:List PF):List FL:=M.map λm=>(m.1,m.2.2)
def rowsOf (M:List PF):List Nat:=M.flatMap λm=>m.2.1.ownBlock.toList
structure PD (w:World)(bx bm:Nat)(d:DS)(M:List PF):Prop where
 disk:w.heap[bx]?=some (.cells (DC d bm) 117 (0,0))
 map:∃es clock,w.heap[bm]?=some (.map es clock)/\En es (eG M)
 files:d.files=fO M
 rows:∀m∈M,SH w m.2.1 m.2.2
 nodup:(bx::bm::rowsOf M).Nodup
theorem Dl {d:DS}(h:w.heap[bx]?=some (.cells (DC d bm) 117 (0,0))) :
  w.cell? ⟨bx,0,none⟩=some (.int .i64 d.block)/\w.cell? ⟨bx,1,none⟩=some (.int .i64 d.blocks)/\w.cell? ⟨bx,2,none⟩=some (.int .i64 d.last)/\w.cell? ⟨bx,3,none⟩=some (.map (some bm)) /\
  w.cell? ⟨bx,4,none⟩=some (.int .i64 (uO d.files:Int))/\w.cell? ⟨bx,5,none⟩=some (.int .i64 d.wrote)/\w.cell? ⟨bx,7,none⟩=some (.int .i64 d.f1)/\w.cell? ⟨bx,8,none⟩=some (.int .i64 d.f2) /\
  w.cell? ⟨bx,9,none⟩=some (.int .i64 d.f3)/\w.cell? ⟨bx,10,none⟩=some (.int .i64 d.bit)/\(∀o,w.frozen? ⟨bx,o,none⟩=false):=by
 refine⟨?_,?_,?_,?_,?_,?_,?_,?_,?_,?_,?_⟩
 all_goals first|(intro o;simp[World.frozen?,h];done)|simp[World.cell?,h,DC]
def dec (f:Int):Int:=if f=0 then 0 else f-1
theorem comes_beq (f:Int):(f-1 == 0)=(f == 1):=by
 rw[Bool.eq_iff_iff];simp;omega
theorem comes1 (w:World)(bx bm:Nat)(d:DS)(h:w.heap[bx]?=some (.cells (DC d bm) 117 (0,0)))(h0:0<=d.f1)(h1:d.f1<=9223372036854775807) :
  Calls prog 212 #[.pointer (some ⟨bx,0,none⟩),.int .i64 1] w λe w'=>e=.returned (.bool (d.f1 == 1))/\w'.heap[bx]?=some (.cells (DC { d with f1:=dec d.f1 } bm) 117 (0,0))/\Touch [bx] w w':=by
 obtain⟨_,_,_,_,_,_,cc,_,_,_,fz⟩:=Dl h;have ff:=fz 7;have H:Hid (w.heap[bx]?=some (.cells (DC d bm) 117 (0,0))):=h;clear h fz;by_cases hz:d.f1=0
 ·have hb:(d.f1 == 0)=true:=by simp[hz]
  have E:Hid ({ d with f1:=dec d.f1 }=d/\(d.f1 == 1)=false):=by
   cases d;simp only at hz;subst hz;exact⟨rfl,rfl⟩
  clear hz;go_enter func212,ntmps212;go_wp2;go_ret;exact⟨by rw[E.out.2];rfl,by rw[E.out.1];exact H.out,Touch.refl _ _⟩
 ·have hb:(d.f1 == 0)=false:=by simp[hz]
  have E:Hid (dec d.f1=d.f1-1):=by simp[Hid,dec,hz]
  clear hz;go_enter func212,ntmps212;go_wp2
  go_region
  all_goals
   go_wp2;go_ret;refine⟨by rw[<-comes_beq];rfl,?_,((Touch.refl _ _).drew).setCell (by simp) _⟩;rw[E.out];exact heap_setCell_same _ _ _ _ _ _ H.out
theorem comes2 (w:World)(bx bm:Nat)(d:DS)(h:w.heap[bx]?=some (.cells (DC d bm) 117 (0,0)))(h0:0<=d.f2)(h1:d.f2<=9223372036854775807) :
  Calls prog 212 #[.pointer (some ⟨bx,0,none⟩),.int .i64 2] w λe w'=>e=.returned (.bool (d.f2 == 1))/\w'.heap[bx]?=some (.cells (DC { d with f2:=dec d.f2 } bm) 117 (0,0))/\Touch [bx] w w':=by
 obtain⟨_,_,_,_,_,_,_,cc,_,_,fz⟩:=Dl h;have ff:=fz 8;have H:Hid (w.heap[bx]?=some (.cells (DC d bm) 117 (0,0))):=h;clear h fz;by_cases hz:d.f2=0
 ·have hb:(d.f2 == 0)=true:=by simp[hz]
  have E:Hid ({ d with f2:=dec d.f2 }=d/\(d.f2 == 1)=false):=by
   cases d;simp only at hz;subst hz;exact⟨rfl,rfl⟩
  clear hz;go_enter func212,ntmps212;go_wp2;go_ret;exact⟨by rw[E.out.2];rfl,by rw[E.out.1];exact H.out,Touch.refl _ _⟩
 ·have hb:(d.f2 == 0)=false:=by simp[hz]
  have E:Hid (dec d.f2=d.f2-1):=by simp[Hid,dec,hz]
  clear hz;go_enter func212,ntmps212;go_wp2
  go_region
  all_goals
   go_wp2;go_ret;refine⟨by rw[<-comes_beq];rfl,?_,((Touch.refl _ _).drew).setCell (by simp) _⟩;rw[E.out];exact heap_setCell_same _ _ _ _ _ _ H.out
theorem comes3 (w:World)(bx bm:Nat)(d:DS)(h:w.heap[bx]?=some (.cells (DC d bm) 117 (0,0)))(h0:0<=d.f3)(h1:d.f3<=9223372036854775807) :
  Calls prog 212 #[.pointer (some ⟨bx,0,none⟩),.int .i64 3] w λe w'=>e=.returned (.bool (d.f3 == 1))/\w'.heap[bx]?=some (.cells (DC { d with f3:=dec d.f3 } bm) 117 (0,0))/\Touch [bx] w w':=by
 obtain⟨_,_,_,_,_,_,_,_,cc,_,fz⟩:=Dl h;have ff:=fz 9;have H:Hid (w.heap[bx]?=some (.cells (DC d bm) 117 (0,0))):=h;clear h fz;by_cases hz:d.f3=0
 ·have hb:(d.f3 == 0)=true:=by simp[hz]
  have E:Hid ({ d with f3:=dec d.f3 }=d/\(d.f3 == 1)=false):=by
   cases d;simp only at hz;subst hz;exact⟨rfl,rfl⟩
  clear hz;go_enter func212,ntmps212;go_wp2;go_ret;exact⟨by rw[E.out.2];rfl,by rw[E.out.1];exact H.out,Touch.refl _ _⟩
 ·have hb:(d.f3 == 0)=false:=by simp[hz]
  have E:Hid (dec d.f3=d.f3-1):=by simp[Hid,dec,hz]
  clear hz;go_enter func212,ntmps212;go_wp2
  go_region
  all_goals
   go_wp2;go_ret;refine⟨by rw[<-comes_beq];rfl,?_,((Touch.refl _ _).drew).setCell (by simp) _⟩;rw[E.out];exact heap_setCell_same _ _ _ _ _ _ H.out
theorem SH.touch (h:SH w v bs)(ht:Touch F w w')(hv:∀k,v.ownBlock=some k->k∉F):SH w' v bs:=by
 obtain⟨h1,h2⟩:=h;refine⟨h1,?_⟩;rcases h2 with h2|⟨g,cap,cur,rfl,hb,hg,r⟩
 ·exact Or.inl h2
 ·refine Or.inr ⟨g,cap,cur,rfl,hb,?_,r⟩;rw[ht.block g (agi.1 hg).1 (hv g rfl)];exact hg
theorem SH.shape (h:SH w v bs):∃ao cap,v=.slice ao bs.length cap/\bs.length<=maxLen:=by
 rcases h.2 with⟨rfl,h0⟩|⟨g,cap,cur,rfl,_,_,hc,hm,_⟩
 ·exact⟨none,0,by rw[h0],by rw[h0];exact x_ _⟩
 ·exact⟨_,cap,rfl,k_ hc hm⟩
theorem SH.cell {w:World}{v:Value}{bs:List ByteArray}(h:SH w v bs)(hne:1<=bs.length):∃g cap,v=.slice (some ⟨g,0,none⟩) bs.length cap/\bs.length<=cap/\∀i (hi:i<bs.length),w.cell? ⟨g,i,none⟩=some (.string bs[i]):=by
 rcases h.2 with⟨_,h0⟩|⟨g,cap,cur,rfl,_,hg,hc,_,_,ht⟩
 ·omega
 ·refine⟨g,cap,rfl,hc,λi hi=>?_⟩;have:=congrArg (λl=>l[i]?) ht;simp only[Nat.mul_one,S_,if_pos hi,Y_,M_,p_ hi,Option.map_some]at this;simp[World.cell?,hg,this]
theorem row_cell (h:SH w (.slice (some ⟨g,0,none⟩) n cap) bs)(i:Nat)(hi:i<bs.length):w.cell? ⟨g,i,none⟩=some (.string bs[i]):=by
 obtain⟨g',cap',e,_,hx⟩:=h.cell (by omega);simp only[Value.slice.injEq,j_,Addr.mk.injEq,and_true]at e;obtain⟨rfl,_⟩:=e;exact hx i hi
theorem mM {M:List PF}{m:PF}(hm:m∈M){k:Nat}(hk:m.2.1.ownBlock=some k):k∈rowsOf M:=by
 unfold rowsOf;rw[ap_];exact⟨m,hm,by simp[hk]⟩
theorem PD.lt {w:World}{bx bm:Nat}{d:DS}{M:List PF}(h:PD w bx bm d M):∀k∈bx::bm::rowsOf M,k<w.heap.size:=by
 intro k hk;simp only[a_]at hk;rcases hk with rfl|rfl|hk
 ·exact(agi.1 h.disk).1
 ·obtain⟨es,c,hb,_⟩:=h.map;exact(agi.1 hb).1
 ·unfold rowsOf at hk;obtain⟨m,hm,hk⟩:=ap_.1 hk;have:=(World.ownsRow.lt (h.rows m hm) k (by simpa using hk)).2;exact this
theorem PD.turn {d d':DS}{M:List PF}(h:PD w bx bm d M)(hd:w'.heap[bx]?=some (.cells (DC d' bm) 117 (0,0)))(ht:Touch [bx] w w')(hf:d'.files=d.files):PD w' bx bm d' M:=by
 have hn:=h.nodup;simp only[R_,a_,not_or]at hn;refine⟨hd,?_,hf.trans h.files,λm hm=>?_,h.nodup⟩
 ·obtain⟨es,c,hb,he⟩:=h.map;exact⟨es,c,by rw[ht.block bm (h.lt bm (by simp)) (by simp;exact λe=>hn.1.1 e.symm)];exact hb,he⟩
 ·refine(h.rows m hm).touch ht (λk hk=>?_);simp only[a_,i_,or_false];intro e;subst e;exact hn.1.2 (mM hm hk)
theorem PD.away {d:DS}{M:List PF}(h:PD w bx bm d M)(ht:Touch F w w')(hF:∀k∈bx::bm::rowsOf M,k∉F):PD w' bx bm d M:=by
 refine⟨?_,?_,h.files,λm hm=>?_,h.nodup⟩
 ·rw[ht.block bx (h.lt bx (by simp)) (hF bx (by simp))];exact h.disk
 ·obtain⟨es,c,hb,he⟩:=h.map;exact⟨es,c,by rw[ht.block bm (h.lt bm (by simp)) (hF bm (by simp))];exact hb,he⟩
 ·exact(h.rows m hm).touch ht (λk hk=>hF k (by simp[mM hm hk]))
def posOf (l:List FL)(k:Int):Option (Nat×List ByteArray):=
 match l.findIdx? (λf=>f.1 == k)with
 | some i=>some (i,(l.getD i (0,[])).2)
 | none=>none
def Nums (l:List FL):Prop:=∀(i j:Nat) (a b:FL),l[i]?=some a->l[j]?=some b->a.1=b.1->i=j
theorem uniq_of {M:List PF}(h:Nums (fO M)):Uniq (eG M):=by
 intro i j a b ha hb e;unfold eG at ha hb;rw[M_]at ha hb;cases hi:M[i]? with
 | none=>simp[hi]at ha
 | some m=>
  cases hj:M[j]? with
  | none=>simp[hj]at hb
  | some m'=>
   simp only[hi,hj,Option.map_some,j_]at ha hb;subst ha hb;exact h i j (m.1,m.2.2) (m'.1,m'.2.2) (by simp[fO,hi]) (by simp[fO,hj]) e
theorem pos_cases (M:List PF)(k:Int):(posOf (fO M) k=none/\∀m∈M,m.1≠k)\/∃i m,M[i]?=some m/\m.1=k/\posOf (fO M) k=some (i,m.2.2):=by
 unfold posOf;cases hf:(fO M).findIdx? (λf=>f.1 == k)with
 | none=>
  refine Or.inl ⟨rfl,λm hm=>?_⟩;rw[List.findIdx?_eq_none_iff]at hf;have:=hf (m.1,m.2.2) (by unfold fO;exact z_.2 ⟨m,hm,rfl⟩);simpa using this
 | some i=>
  rw[List.findIdx?_eq_some_iff_getElem]at hf;obtain⟨hi,hk,_⟩:=hf;have hi':i<M.length:=by simpa[fO]using hi
  refine Or.inr ⟨i,M[i],by simp[hi'],?_,?_⟩
  ·simpa[fO]using hk
  ·simp[fO,List.getD,hi']
def mt:ByteArray:=⟨#[]⟩
def rQ (d:DS)(file n:Int):ByteArray×Int:=
 if d.f2=1 then(⟨#[]⟩,6)else
 match posOf d.files file with
 | none=>(⟨#[]⟩,8)
 | some (_,bs)=>if n<0\/(bs.length:Int)<=n then(⟨#[]⟩,8)else(bs.getD n.toNat ⟨#[]⟩,0)
theorem pread (w:World)(bx bm:Nat)(d:DS)(M:List PF)(file n:Int)(h:PD w bx bm d M)(hu:Nums d.files)(h0:0<=d.f2)(h1:d.f2<=9223372036854775807) :
  Calls prog 191 #[.pointer (some ⟨bx,0,none⟩),.int .i64 file,.int .i64 n] w λe w'=>e=.returned (.tuple #[.string (rQ d file n).1,.int .i64 (rQ d file n).2])/\PD w' bx bm { d with f2:=dec d.f2 } M/\Touch [bx] w w':=by
 have HC:Hid (Calls prog 212 #[.pointer (some ⟨bx,0,none⟩),.int .i64 2] w λe w'=>e=.returned (.bool (d.f2 == 1))/\w'.heap[bx]?=some (.cells (DC { d with f2:=dec d.f2 } bm) 117 (0,0))/\Touch [bx] w w'):=comes2 w bx bm d h.disk h0 h1;obtain⟨_,_,_,c3,_⟩:=Dl h.disk;obtain⟨es,clock,hb,he⟩:=h.map;have HT:Hid (∀w',w'.heap[bx]?=some (.cells (DC { d with f2:=dec d.f2 } bm) 117 (0,0))->Touch [bx] w w'->PD w' bx bm { d with f2:=dec d.f2 } M):=λw' a b=>h.turn a b rfl;have hfil:=h.files;rw[hfil]at hu;rcases pos_cases M file with⟨hp,hno⟩|⟨i,m,hm,rfl,hp⟩
 ·have hrun:=rM hb he file (by intro p hp;unfold eG at hp;obtain⟨m,hm,rfl⟩:=z_.1 hp;exact hno m hm) false;simp only[Bool.false_eq_true,if_false]at hrun;by_cases hf:d.f2=1
  ·have E:Hid (rQ d file n=(⟨#[]⟩,6)):=by simp[Hid,rQ,hf]
   have hfb:(d.f2 == 1)=true:=by simp[hf]
   rw[hfb]at HC;generalize rQ d file n=r at *;clear hf hfil hu hno hp h hb he;go_enter func191,ntmps191
   go_wp2_with (go_at_call 212;refine HC.out.mono ?_;rintro e w1 ⟨rfl,hd1,ht1⟩;have HD:Hid (w1.heap[bx]?=some (.cells (DC { d with f2:=dec d.f2 } bm) 117 (0,0))):=hd1;clear hd1)
   go_ret2
   exact⟨by rw[E.out];rfl,HT.out _ HD.out ht1,ht1⟩
  ·have E:Hid (rQ d file n=(⟨#[]⟩,8)):=by
    show rQ d file n=_;unfold rQ;rw[if_neg hf,hfil,hp]
   have hfb:(d.f2 == 1)=false:=by simp[hf]
   rw[hfb]at HC;generalize rQ d file n=r at *;clear hf hfil hu hno hp h hb he;by_cases hn:n<0
   ·go_enter func191,ntmps191
    go_wp2_with (go_at_call 212;refine HC.out.mono ?_;rintro e w1 ⟨rfl,hd1,ht1⟩;have HD:Hid (w1.heap[bx]?=some (.cells (DC { d with f2:=dec d.f2 } bm) 117 (0,0))):=hd1;clear hd1)
    go_ret2
    exact⟨by rw[E.out];rfl,HT.out _ HD.out ht1,ht1⟩
   ·have hn':0<=n:=by omega
    go_enter func191,ntmps191
    go_wp2_with (go_at_call 212;refine HC.out.mono ?_;rintro e w1 ⟨rfl,hd1,ht1⟩;have HD:Hid (w1.heap[bx]?=some (.cells (DC { d with f2:=dec d.f2 } bm) 117 (0,0))):=hd1;clear hd1)
    go_ret2
    exact⟨by rw[E.out];rfl,HT.out _ HD.out ht1,ht1⟩
 ·have hmem:m∈M:=v_ hm;have hrun:=rU hb he (uniq_of hu) i (m.1,m.2.1) (by unfold eG;rw[M_,hm];rfl) false;simp only[Bool.false_eq_true,if_false]at hrun;have hrow:=h.rows m hmem;obtain⟨num,v,bs⟩:=m;simp only at hp hrun hrow;by_cases hf:d.f2=1
  ·have E:Hid (rQ d num n=(⟨#[]⟩,6)):=by simp[Hid,rQ,hf]
   have hfb:(d.f2 == 1)=true:=by simp[hf]
   rw[hfb]at HC;generalize rQ d num n=r at *;clear hf hfil hu hp h hb he hrow;go_enter func191,ntmps191
   go_wp2_with (go_at_call 212;refine HC.out.mono ?_;rintro e w1 ⟨rfl,hd1,ht1⟩;have HD:Hid (w1.heap[bx]?=some (.cells (DC { d with f2:=dec d.f2 } bm) 117 (0,0))):=hd1;clear hd1)
   go_ret2
   exact⟨by rw[E.out];rfl,HT.out _ HD.out ht1,ht1⟩
  ·have hfb:(d.f2 == 1)=false:=by simp[hf]
   rw[hfb]at HC;have E0:rQ d num n=if n<0\/(bs.length:Int)<=n then(⟨#[]⟩,8)else(bs.getD n.toNat ⟨#[]⟩,0):=by
    unfold rQ;rw[if_neg hf,hfil,hp]
   generalize rQ d num n=r at *;obtain⟨ao,cap,hv,hlm⟩:=hrow.shape;unfold maxLen at hlm;by_cases hn:n<0
   ·have E:Hid (r=(⟨#[]⟩,8)):=by show r=_;rw[E0,if_pos (Or.inl hn)]
    subst hv;clear hf hfil hu hp h hb he hrow E0 hm hmem;go_enter func191,ntmps191
    go_wp2_with (go_at_call 212;refine HC.out.mono ?_;rintro e w1 ⟨rfl,hd1,ht1⟩;have HD:Hid (w1.heap[bx]?=some (.cells (DC { d with f2:=dec d.f2 } bm) 117 (0,0))):=hd1;clear hd1)
    go_ret2
    exact⟨by rw[E.out];rfl,HT.out _ HD.out ht1,ht1⟩
   ·by_cases hn2:(bs.length:Int)<=n
    ·have E:Hid (r=(⟨#[]⟩,8)):=by show r=_;rw[E0,if_pos (Or.inr hn2)]
     subst hv;clear hf hfil hu hp h hb he hrow E0 hm hmem;go_enter func191,ntmps191
     go_wp2_with (go_at_call 212;refine HC.out.mono ?_;rintro e w1 ⟨rfl,hd1,ht1⟩;have HD:Hid (w1.heap[bx]?=some (.cells (DC { d with f2:=dec d.f2 } bm) 117 (0,0))):=hd1;clear hd1)
     go_ret2
     exact⟨by rw[E.out];rfl,HT.out _ HD.out ht1,ht1⟩
    ·obtain⟨k,rfl⟩:∃k:Nat,n=(k:Int):=⟨n.toNat,by omega⟩;have hk:k<bs.length:=by omega
     have E:Hid (r=(bs[k],0)):=by
      show r=_;rw[E0,if_neg (by omega),Int.toNat_natCast];simp[List.getD,hk]
     have HR:Hid (∀w',w'.heap[bx]?=some (.cells (DC { d with f2:=dec d.f2 } bm) 117 (0,0))->Touch [bx] w w'->SH w' v bs):=λw' a b=>(HT.out w' a b).rows (num,v,bs) hmem;obtain⟨g,cap',hv',hc',_⟩:=hrow.cell (by omega);clear hv;subst hv';clear hf hfil hu hp h hb he hrow E0 hm hmem;go_enter func191,ntmps191
     go_wp2_with (go_at_call 212;refine HC.out.mono ?_;go_must (rintro e w1 ⟨rfl,hd1,ht1⟩;have HD:Hid (w1.heap[bx]?=some (.cells (DC { d with f2:=dec d.f2 } bm) 117 (0,0))):=hd1;have hcl:=row_cell (HR.out _ hd1 ht1) k hk;clear hd1))
     go_ret2
     exact⟨by rw[E.out];rfl,HT.out _ HD.out ht1,ht1⟩
def createS (d:DS):DS:={ d with last:=d.last+1,files:=d.files++[(d.last+1,[])] }
theorem used_snoc (l:List FL)(k:Int):uO (l++[(k,[])])=uO l:=by simp[uO]
theorem haA (w:World)(b:Nat)(o:Obj)(hb:b<w.heap.size):(setBlock w b o).heap[b]?=some o:=by
 simp[setBlock,hb]
theorem hau (w:World)(b k:Nat)(o:Obj)(h:k≠b):(setBlock w b o).heap[k]?=w.heap[k]?:=by
 simp only[setBlock];rw[E_,if_neg (λe=>h e.symm)]
theorem PD.put_new {d d':DS}{M:List PF}{k:Int}(h:PD w bx bm d M)(hd:w'.heap[bx]?=some (.cells (DC d' bm) 117 (0,0)))(ht:Touch [bx,bm] w w')
  (hm:∃es clock,w'.heap[bm]?=some (.map es clock)/\En es (eG (M++[(k,.slice none 0 0,[])]))) (hf:d'.files=d.files++[(k,[])]):PD w' bx bm d' (M++[(k,.slice none 0 0,[])]):=by
 have hn:=h.nodup;have hr:rowsOf (M++[(k,.slice none 0 0,[])])=rowsOf M:=by simp[rowsOf,Value.ownBlock]
 refine⟨hd,hm,by rw[hf,h.files];simp[fO],λm hm=>?_,by rw[hr];exact hn⟩;rcases d_.1 hm with hm|hm
 ·refine(h.rows m hm).touch ht (λj hj=>?_);simp only[R_,a_,not_or]at hn;have:=mM hm hj;simp only[a_,i_,or_false,not_or];exact⟨λe=>hn.1.2 (e▸this),λe=>hn.2.1 (e▸this)⟩
 ·simp only[a_,i_,or_false]at hm;subst hm;exact World.ownsRow_nil _ _ _ _
theorem pcreate (w:World)(bx bm:Nat)(d:DS)(M:List PF)(h:PD w bx bm d M)(h0:0<=d.last)(h1:d.last<=1000000000)(hnew:∀f∈d.files,f.1<=d.last) :
  Calls prog 154 #[.pointer (some ⟨bx,0,none⟩)] w λe w'=>e=.returned (.int .i64 (d.last+1))/\PD w' bx bm (createS d) (M++[(d.last+1,.slice none 0 0,[])])/\Touch [bx,bm] w w':=by
 obtain⟨_,_,c2,c3,_,_,_,_,_,_,fz⟩:=Dl h.disk;have ff:=fz 2;obtain⟨es,clock,hb,he⟩:=h.map;have hn:=h.nodup;simp only[R_,a_,not_or]at hn;have hne:bm≠bx:=λe=>hn.1.1 e.symm;have hb1:(w.setCell ⟨bx,2,none⟩ (.int .i64 (d.last+1))).drew.heap[bm]?=some (.map es clock):=by
  show(w.setCell ⟨bx,2,none⟩ (.int .i64 (d.last+1))).heap[bm]?=_;rw[Below.heap_setCell _ _ _ _ hne];exact hb
 have hup:=run_update_none hb1 he (d.last+1) (.slice none 0 0) (by
  intro p hp;unfold eG at hp;obtain⟨m,hm,rfl⟩:=z_.1 hp;have:=hnew (m.1,m.2.2) (by rw[h.files];unfold fO;exact z_.2 ⟨m,hm,rfl⟩);simp only at this ⊢;omega)
 have hfin:(setBlock (w.setCell ⟨bx,2,none⟩ (.int .i64 (d.last+1))).drew bm (.map (es.push ⟨.int .i64 (d.last+1),.slice none 0 0,clock⟩) (clock+1))).heap[bx]?=some (.cells (DC (createS d) bm) 117 (0,0)):=by
  rw[hau _ _ _ _ (λe=>hne e.symm)];show(w.setCell ⟨bx,2,none⟩ (.int .i64 (d.last+1))).heap[bx]?=_;rw[heap_setCell_same _ _ _ _ _ _ h.disk];simp only[DC,createS,used_snoc];rfl
 have hc2:=(Dl hfin).2.2.1;have HFIN:Hid _:=hfin;have HP:Hid (PD w bx bm d M):=h;have HE:Hid (En es (eG M)):=he;have HB:Hid (w.heap[bm]?=some (.map es clock)):=hb;have HH:Hid ((setBlock (w.setCell ⟨bx,2,none⟩ (.int .i64 (d.last+1))).drew bm (.map (es.push ⟨.int .i64 (d.last+1),.slice none 0 0,clock⟩) (clock+1))).heap[bm]?=some (.map (es.push ⟨.int .i64 (d.last+1),.slice none 0 0,clock⟩) (clock+1))):=
  haA _ _ _ (by have:=h.lt bm (by simp);simpa using this)
 have HTT:Hid (Touch [bx,bm] w (setBlock (w.setCell ⟨bx,2,none⟩ (.int .i64 (d.last+1))).drew bm (.map (es.push ⟨.int .i64 (d.last+1),.slice none 0 0,clock⟩) (clock+1)))):=
  ((((Touch.refl _ _).setCell (by simp) _).drew).setBlock (by simp) _)
 have hcr:(createS d).last=d.last+1:=rfl;rw[hcr]at hc2;clear h fz hb he hb1 hn hnew hfin hcr;go_enter func154,ntmps154;go_wp2
 go_region
 all_goals
  go_wp2;go_ret;refine⟨rfl,?_,HTT.out⟩;exact HP.out.put_new HFIN.out HTT.out ⟨_,_,HH.out,by simpa[eG]using HE.out.push _ _ _⟩ rfl
def dS (d:DS)(file:Int):Int×DS:=
 match posOf d.files file with
 | none=>(8,d)
 | some (i,_)=>(0,{ d with files:=d.files.eraseIdx i })
theorem uS:∀(l:List FL) (i:Nat) (f:FL),l[i]?=some f->uO l=uO (l.eraseIdx i)+f.2.length
 | [],_,_,h=>by simp at h
 | a::l,0,f,h=>by
  simp only[List.getElem?_cons_zero,j_]at h;subst h;simp[uO];omega
 | a::l,i+1,f,h=>by
  have:=uS l i f (by simpa using h);simp only[uO,List.eraseIdx_cons_succ,List.map_cons,List.sum_cons]at *;omega
theorem mem_erase {M:List PF}{m:PF}(h:m∈M.eraseIdx i):m∈M:=List.mem_of_mem_eraseIdx h
theorem rows_erase:∀(M:List PF) (i:Nat),List.Sublist (rowsOf (M.eraseIdx i)) (rowsOf M)
 | [],_=>List.Sublist.refl _
 | m::M,0=>by simp only[List.eraseIdx_cons_zero,rowsOf,List.flatMap_cons];exact List.sublist_append_right _ _
 | m::M,i+1=>by
  have:=rows_erase M i;simp only[List.eraseIdx_cons_succ,rowsOf,List.flatMap_cons]at *;exact List.Sublist.append (List.Sublist.refl _) this
theorem PD.strike {d d':DS}{M:List PF}(h:PD w bx bm d M)(hd:w'.heap[bx]?=some (.cells (DC d' bm) 117 (0,0)))(ht:Touch [bx,bm] w w')
  (hm:∃es clock,w'.heap[bm]?=some (.map es clock)/\En es (eG (M.eraseIdx i))) (hf:d'.files=d.files.eraseIdx i):PD w' bx bm d' (M.eraseIdx i):=by
 have hn:=h.nodup;refine⟨hd,hm,by rw[hf,h.files];unfold fO;rw[mP],λm hm=>?_,?_⟩
 ·refine(h.rows m (mem_erase hm)).touch ht (λj hj=>?_);simp only[R_,a_,not_or]at hn;have:=mM (mem_erase hm) hj;simp only[a_,i_,or_false,not_or];exact⟨λe=>hn.1.2 (e▸this),λe=>hn.2.1 (e▸this)⟩
 ·exact List.Sublist.nodup (((rows_erase M i).cons_cons bm).cons_cons bx) hn
theorem pdelete (w:World)(bx bm:Nat)(d:DS)(M:List PF)(file:Int)(h:PD w bx bm d M)(hu:Nums d.files)(haf:uO d.files<=1000000000) :
  Calls prog 128 #[.pointer (some ⟨bx,0,none⟩),.int .i64 file] w λe w'=>e=.returned (.int .i64 (dS d file).1)/\(∃M',PD w' bx bm (dS d file).2 M'/\List.Sublist (rowsOf M') (rowsOf M))/\Touch [bx,bm] w w':=by
 obtain⟨_,_,_,c3,c4,_,_,_,_,_,fz⟩:=Dl h.disk;have ff:=fz 4;obtain⟨es,clock,hb,he⟩:=h.map;have hfil:=h.files;have hn:=h.nodup;simp only[R_,a_,not_or]at hn;have hne:bm≠bx:=λe=>hn.1.1 e.symm;have hu':=hu;rw[hfil]at hu';have HP:Hid (PD w bx bm d M):=h;rcases pos_cases M file with⟨hp,hno⟩|⟨i,m,hm,rfl,hp⟩
 ·have hrun:=rM hb he file (by intro p hp;unfold eG at hp;obtain⟨m,hm,rfl⟩:=z_.1 hp;exact hno m hm) true;simp only[if_true]at hrun;have E:Hid (dS d file=(8,d)):=by
   show dS d file=_;unfold dS;rw[hfil,hp]
  generalize dS d file=r at *;clear hfil hu hu' hno hp h hb he hn hne fz;go_enter func128,ntmps128;go_wp2;go_ret;exact⟨by rw[E.out];rfl,⟨M,by rw[E.out];exact HP.out,List.Sublist.refl _⟩,Touch.refl _ _⟩
 ·have hent:(eG M)[i]?=some (m.1,m.2.1):=by unfold eG;rw[M_,hm];rfl
  have hrun:=rU hb he (uniq_of hu') i (m.1,m.2.1) hent true;simp only[if_true]at hrun;have hrow:=h.rows m (v_ hm);have hue:=uS d.files i (m.1,m.2.2) (by rw[hfil];unfold fO;rw[M_,hm];rfl);obtain⟨num,v,bs⟩:=m;simp only at hp hrun hrow hue hent;obtain⟨ao,cap,rfl,_⟩:=hrow.shape;have E:Hid (dS d num=(0,{ d with files:=d.files.eraseIdx i })):=by
   show dS d num=_;unfold dS;rw[hfil,hp]
  generalize dS d num=r at *;have hb1:(w.setCell ⟨bx,4,none⟩ (.int .i64 ((uO d.files:Int)-(bs.length:Int)))).heap[bm]?=some (.map es clock):=by
   rw[Below.heap_setCell _ _ _ _ hne];exact hb
  have hdel:=λty=>run_delete_some hb1 he (uniq_of hu') i (num,.slice ao bs.length cap) hent ty;have hd1:(setBlock (w.setCell ⟨bx,4,none⟩ (.int .i64 ((uO d.files:Int)-(bs.length:Int)))) bm (.map (es.eraseIdxIfInBounds i) clock)).heap[bx]?=some (.cells (DC { d with files:=d.files.eraseIdx i } bm) 117 (0,0)):=by
   rw[hau _ _ _ _ (λe=>hne e.symm),heap_setCell_same _ _ _ _ _ _ h.disk];have:((uO d.files:Int)-(bs.length:Int))=(uO (d.files.eraseIdx i):Int):=by omega
   rw[this];rfl
  have HT:Hid (Touch [bx,bm] w (setBlock (w.setCell ⟨bx,4,none⟩ (.int .i64 ((uO d.files:Int)-(bs.length:Int)))) bm (.map (es.eraseIdxIfInBounds i) clock))):=
   ((Touch.refl _ _).setCell (by simp) _).setBlock (by simp) _
  have HPD:Hid (PD (setBlock (w.setCell ⟨bx,4,none⟩ (.int .i64 ((uO d.files:Int)-(bs.length:Int)))) bm (.map (es.eraseIdxIfInBounds i) clock)) bx bm { d with files:=d.files.eraseIdx i } (M.eraseIdx i)):=
   h.strike hd1 HT.out ⟨_,_,haA _ _ _ (by have:=h.lt bm (by simp);simpa using this),by unfold eG;rw[mP];exact he.erase i⟩ rfl
  have HS:Hid (List.Sublist (rowsOf (M.eraseIdx i)) (rowsOf M)):=rows_erase M i;have hle:(bs.length:Int)<=(uO d.files:Int):=by omega
  have hle2:(uO d.files:Int)<=1000000000:=by omega
  clear hfil hu hu' hp h hb he hn hne fz hm hent hrow hue hb1 hd1 haf;go_enter func128,ntmps128;go_wp2;go_ret;exact⟨by rw[E.out];rfl,⟨M.eraseIdx i,by rw[E.out];exact HPD.out,HS.out⟩,HT.out⟩
def newS (b n:Int):DS:={ block:=max b 1,blocks:=max n 0,last:=0,wrote:=0,files:=[],f1:=0,f2:=0,f3:=0,bit:=0 }
theorem PD.fresh (w':World)(bx bm:Nat)(d:DS)(hx:w'.heap[bx]?=some (.cells (DC d bm) 117 (0,0)))(hm:w'.heap[bm]?=some (.map #[] 0))(hf:d.files=[])(hne:bx≠bm):PD w' bx bm d []:=
 ⟨hx,⟨_,_,hm,rfl⟩,hf,λ_ h=>by simp at h,by simp[rowsOf,hne]⟩
theorem pnew (b n:Int)(w:World):Calls prog 15 #[.int .i64 b,.int .i64 n] w λe w'=>e=.returned (.pointer (some ⟨w.heap.size+1,0,none⟩))/\PD w' (w.heap.size+1) w.heap.size (newS b n) []/\Touch [] w w':=by
 have hmm:=@run_makeMap prog;have HF:Hid (∀d:DS,d.files=[]->PD ((w.alloc (.map #[] 0)).alloc (.cells (DC d w.heap.size) 117)) (w.heap.size+1) w.heap.size d []):=λd hf=>by
  refine PD.fresh _ _ _ d ?_ ?_ hf (by omega)
  ·have:=heap_alloc_new (w.alloc (.map #[] 0)) (.cells (DC d w.heap.size) 117);simpa using this
  ·rw[Below.heap_alloc _ _ _ (by simp)];exact heap_alloc_new w _
 have H2:Hid (∀a c,max b 1=a->max n 0=c->newS b n={ block:=a,blocks:=c,last:=0,wrote:=0,files:=[],f1:=0,f2:=0,f3:=0,bit:=0 }):=λa c h1 h2=>by unfold newS;rw[h1,h2]
 go_enter func15,ntmps15;go_wp2
 all_goals go_ret
 all_goals refine⟨rfl,?_,((Touch.refl _ _).alloc _).alloc _⟩
 all_goals
  first
   | (rw[H2.out 1 0 (by omega) (by omega)];exact HF.out ⟨1,0,0,0,[],0,0,0,0⟩ rfl)
   | (rw[H2.out 1 n (by omega) (by omega)];exact HF.out ⟨1,n,0,0,[],0,0,0,0⟩ rfl)
   | (rw[H2.out b 0 (by omega) (by omega)];exact HF.out ⟨b,0,0,0,[],0,0,0,0⟩ rfl)
   | (rw[H2.out b n (by omega) (by omega)];exact HF.out ⟨b,n,0,0,[],0,0,0,0⟩ rfl)
theorem tmod_two (a n:Int)(hn:0<n):a.tmod n=a%n\/a.tmod n=a%n-n:=by
 rw[Int.tmod_eq_emod]
 split
 ·left;omega
 ·right;omega
theorem bit_eq (bit n:Int)(hn:0<n)(hn2:n<=8388608):(wrap64 (bit.tmod n+n)).tmod n=bit%n:=by
 have h0:=Int.emod_nonneg bit (show n≠0 by omega);have h1:=Int.emod_lt_of_pos bit hn;rcases tmod_two bit n hn with h|h
 ·rw[h,IntWalk.wrap64_in _ (by omega),Int.tmod_eq_emod_of_nonneg (by omega),Int.add_emod_right,Int.emod_emod_of_dvd _ (Int.dvd_refl _)]
 ·rw[h,IntWalk.wrap64_in _ (by omega),Int.tmod_eq_emod_of_nonneg (by omega),Int.sub_add_cancel,Int.emod_emod_of_dvd _ (Int.dvd_refl _)]
theorem row_string (W:World)(g:Nat)(l:List UInt8)(cap:Nat)(cur:Array Value)(f:Nat×Nat)(hh:W.heap[g]?=some (.cells cur 5 f))(hx:∀i (h:i<l.length),cur[i]?=some (c8 l[i])) :
  (convert 172 9 (.slice (some ⟨g,0,none⟩) l.length cap)).run prog W=.ok (.string ⟨l.toArray⟩) W:=by
 rw[run_convert_bytes_string W 172 9 5 _ _ _ underlying172 underlying5 underlying9];have hl:(loadCells (⟨g,0,none⟩:Addr) l.length).run prog W=.ok ((l.map λb=>(b.toNat:Int)).map (Value.int .u8)).toArray W:=by
  have:=run_loadCells_list (P:=prog) (w:=W) ⟨g,0,none⟩ (l.map c8) (λj u hu=>by
   obtain⟨hj,rfl⟩:=l_.1 hu;simp only[u_]at hj;have hadd:(⟨g,0,none⟩:Addr).add j=⟨g,j,none⟩:=by unfold Addr.add;split<;>simp_all
   rw[hadd];simp[World.cell?,hh,hx j hj])
  simp only[u_]at this;rw[List.map_map];exact this
 rw[run_bytesToString W ⟨g,0,none⟩ l.length cap _ hl,foldl_push]
 congr 2
 congr 1
 show #[]++l.toArray=l.toArray;simp
def fb (x:UInt8)(k:Nat):UInt8:=UInt8.ofNat (x.toNat ^^^ 2 ^ k%256)
theorem fb_eq (x:UInt8)(k:Nat)(_hk:k<8):Value.int .u8 (bits .xor .u8 (x.toNat:Int) (2 ^ k%256))=c8 (fb x k):=by
 have h2:((2:Int) ^ k%256)=((2 ^ k%256:Nat):Int):=by simp
 have hx:x.toNat ^^^ 2 ^ k%256<2 ^ 8:=Nat.xor_lt_two_pow x.toNat_lt (Nat.mod_lt _ (by decide));rw[h2,u8_xor_nat _ _ x.toNat_lt (Nat.mod_lt _ (by decide)),c8,fb,UInt8.toNat_ofNat',Nat.mod_eq_of_lt hx]
def flipS (s:ByteArray)(b:Nat):ByteArray:=⟨(s.data.toList.set (b/8) (fb (s.data.toList.getD (b/8) 0) (b%8))).toArray⟩
def turnS (s:ByteArray)(bit:Int):ByteArray:=if s.size=0 then s else flipS s (bit%(8*(s.size:Int))).toNat
theorem heap_set_new (w:World)(c:Array Value)(t:TypeId)(f:Nat×Nat)(i:Nat)(v:Value):((w.alloc (.cells c t f)).setCell ⟨w.heap.size,i,none⟩ v).heap[w.heap.size]?=some (.cells (c.setIfInBounds i v) t f):=by
 have:=heap_alloc_new w (.cells c t f);simp only[World.setCell,Array.getElem?_modify,if_true,this,Option.map_some];simp
theorem flipped (s:ByteArray)(b C:Nat)(hb:b/8<s.size)(x:UInt8)(hx:x=s[b/8]):∀i (h:i<(s.data.toList.set (b/8) (fb (s.data.toList.getD (b/8) 0) (b%8))).length),((bytesRow s C).setIfInBounds (b/8) (c8 (fb x (b%8))))[i]?=some (c8 (s.data.toList.set (b/8) (fb (s.data.toList.getD (b/8) 0) (b%8)))[i]):=by
 intro i hi;have hsz:s.data.size=s.size:=rfl;simp only[List.length_set,af_]at hi;have hrow:=bytesRow_at s C i hi;have hlen:i<(bytesRow s C).size:=(agi.1 hrow).1;rw[E_];by_cases e:b/8=i
 ·subst e;rw[if_pos rfl,if_pos hlen];have:s.data.toList.getD (b/8) 0=x:=by
   rw[hx];simp only[List.getD,Y_];rw[q_ (by omega)];rfl
  rw[List.getElem_set_self,this]
 ·rw[if_neg e,hrow];simp[e,c8]
theorem turned_any (s:ByteArray)(bit:Int)(w:World)(hs:s.size<=1048576) :
  Calls prog 213 #[.string s,.int .i64 bit] w λe w'=>e=.returned (.string (turnS s bit))/\Touch [] w w':=by
 by_cases h1:s.size=0
 ·have hs0:s=⟨#[]⟩:=by
   have h:s.data.size=0:=h1;have:s.data=#[]:=Array.eq_empty_of_size_eq_zero h;cases s;simp only at this;rw[this]
  subst hs0;have E:Hid (turnS ⟨#[]⟩ bit=⟨#[]⟩):=rfl;go_enter func213,ntmps213;go_wp2;go_ret;exact⟨by rw[E.out];rfl,Touch.refl _ _⟩
 ·have he2:¬s.toList=[]:=by
   rw[ByteArray.toList_eq];intro e;apply h1;have:=congrArg List.length e;simpa using this
  have he:s.toList.isEmpty=false:=by simp[he2]
  have hcv:=run_bytes_of_string (P:=prog) w 9 172 5 s underlying9 underlying172 underlying5;have HBIT:=bit_eq bit (8*(s.size:Int)) (by omega) (by omega);have hb0:=Int.emod_nonneg bit (show 8*(s.size:Int)≠0 by omega);have hb3:=Int.emod_lt_of_pos bit (show 0<8*(s.size:Int) by omega);have E0:turnS s bit=flipS s (bit%(8*(s.size:Int))).toNat:=by unfold turnS;rw[if_neg h1]
  obtain⟨b,hb⟩:∃b:Nat,bit%(8*(s.size:Int))=(b:Int):=⟨(bit%(8*(s.size:Int))).toNat,by omega⟩;rw[hb]at HBIT E0 hb3;rw[Int.toNat_natCast]at E0;have hblt:b<8*s.size:=by omega
  have hb8:b/8<s.size:=by omega
  generalize grownCap w s.size 0 5=C at *;generalize turnS s bit=r at *;have E:Hid (r=flipS s b):=E0;have HB:Hid ((wrap64 (bit.tmod (8*(s.size:Int))+8*(s.size:Int))).tmod (8*(s.size:Int))=(b:Int)):=HBIT;have hrow:=bytesRow_at s C (b/8) (by exact hb8);have hcell:(w.alloc (.cells (bytesRow s C) 5 ((bytesRow s C).size,(bytesRow s C).size+1))).cell? ⟨w.heap.size,b/8,none⟩=some (.int .u8 (s[b/8].toNat:Int)):=by
   simp only[World.cell?,heap_alloc_new];simp only[Option.isSome_none,Bool.false_eq_true,if_false,hrow];rfl
  have hlen:b/8<(bytesRow s C).size:=(agi.1 hrow).1;have hfr:(w.alloc (.cells (bytesRow s C) 5 ((bytesRow s C).size,(bytesRow s C).size+1))).frozen? ⟨w.heap.size,b/8,none⟩=false:=by
   simp only[World.frozen?,heap_alloc_new];simp;omega
  have hst:(convert 172 9 (.slice (some ⟨w.heap.size,0,none⟩) s.size C)).run prog (((w.alloc (.cells (bytesRow s C) 5 ((bytesRow s C).size,(bytesRow s C).size+1))).setCell ⟨w.heap.size,b/8,none⟩ (.int .u8 (bits .xor .u8 (s[b/8].toNat:Int) (2 ^ (b%8)%256)))).drew.drew) =
    .ok (.string (flipS s b)) (((w.alloc (.cells (bytesRow s C) 5 ((bytesRow s C).size,(bytesRow s C).size+1))).setCell ⟨w.heap.size,b/8,none⟩ (.int .u8 (bits .xor .u8 (s[b/8].toNat:Int) (2 ^ (b%8)%256)))).drew.drew):=by
   rw[fb_eq _ _ (Nat.mod_lt _ (by decide))];have hl:s.size=(s.data.toList.set (b/8) (fb (s.data.toList.getD (b/8) 0) (b%8))).length:=by simp
   have:=row_string (((w.alloc (.cells (bytesRow s C) 5 ((bytesRow s C).size,(bytesRow s C).size+1))).setCell ⟨w.heap.size,b/8,none⟩ (c8 (fb s[b/8] (b%8)))).drew.drew) w.heap.size _ C _ _ (heap_set_new w _ _ _ _ _) (flipped s b C hb8 _ rfl);rw[<-hl]at this;exact this
  have HST:Hid _:=hst;clear hb E0 HBIT hb0 hb3 hrow hlen hst;go_enter func213,ntmps213;go_wp2;rw[HB.out];clear HB
  go_region
  all_goals
   have hst:=HST.out;clear hcell hfr hcv;go_wp2;go_ret;refine⟨by rw[E.out];rfl,?_⟩;refine Touch.drew (Touch.drew ?_);refine⟨rfl,rfl,rfl,by simp,λk hk _=>?_⟩;rw[Below.heap_setCell _ _ _ _ (by simp;omega),Below.heap_alloc _ _ _ hk]
theorem info9:(prog.info? 9).map (λi=>(i.zero,i.size,i.bytes))=some (some (.string ⟨#[]⟩),1,16):=by kernel_rfl
theorem step_srow {ops:Array Oper}{o:Oper}{a:Act}{K:Act->World->Prop}{Q:Exit->Act->World->Prop}{E:Prop}(hgd:o.guard=none)(s x:Operand)
  (ho:o.op=.call { callee:=.builtin .append,args:=#[s,x],argTypes:=#[255,255] }) (v:Value) (bs:List ByteArray) (hs:a.eval s=v) (hown:SH w v bs)
  (ad:Addr) (t:ByteArray) (c:Nat) (hx:a.eval x=.slice (some ad) 1 c) (hnews:∀j u,[Value.string t][j]?=some u->w.cell? (ad.add j)=some u) (hlen:bs.length<=1000000000)
  (h:∀g cap w',SH w' (.slice (some ⟨g,0,none⟩) (bs.length+1) cap) (bs++[t])->w.grownBy w' v.ownBlock->(v.ownBlock=some g\/g=w.heap.size)->g<w'.heap.size->K (a.put o.dst (.slice (some ⟨g,0,none⟩) (bs.length+1) cap)) w') :
  if Region.wanted o (yielded ops a.tmps)=true then Oper.wp prog o a w K Q else E:=by
 obtain⟨i0,hi,hz0,hz1,hz2⟩:=info_parts info9;refine step_append_lies w hgd s x 255 ho 0 9 i0 (.string ⟨#[]⟩) 1 16 underlying255 hi hz0 hz1 hz2 rfl (by decide) v _ _ hs hown ad 1 c [.string t] hx (by simp) hnews ?_ (by decide) ?_ ?_ (x_ _) _ rfl ?_
 ·intro u hu;simp only[a_,i_,or_false]at hu;subst hu;rfl
 ·unfold maxLen;omega
 ·omega
 ·intro g cap w' h1 h2 h3 h4;refine h g cap w' ?_ h2 h3 h4;unfold SH;rw[c_,w_];exact h1
theorem rows_set:∀(M:List PF) (i:Nat) (m m':PF) (g:Nat),M[i]?=some m->m'.2.1.ownBlock=some g->(rowsOf M).Nodup->(m.2.1.ownBlock=some g\/g∉rowsOf M) ->
  (rowsOf (M.set i m')).Nodup/\∀k∈rowsOf (M.set i m'),k∈rowsOf M\/k=g
 | [],_,_,_,_,h,_,_,_=>by simp at h
 | a::M,0,m,m',g,h,hg,hn,ho=>by
  simp only[List.getElem?_cons_zero,j_]at h;subst h;simp only[rowsOf,List.set_cons_zero,List.flatMap_cons,hg,Option.toList_some,List.singleton_append,R_,d_,a_]at *;have hn2:(List.flatMap (λm:PF=>m.2.1.ownBlock.toList) M).Nodup:=(ad_.1 hn).2.1;refine⟨⟨?_,hn2⟩,λk hk=>?_⟩
  ·rcases ho with ho|ho
   ·rw[ho]at hn;simp only[Option.toList_some,List.singleton_append,R_]at hn;exact hn.1
   ·exact λe=>ho (Or.inr e)
  ·rcases hk with rfl|hk
   ·exact Or.inr rfl
   ·exact Or.inl (Or.inr hk)
 | a::M,i+1,m,m',g,h,hg,hn,ho=>by
  have hn':=hn;simp only[rowsOf,List.flatMap_cons]at hn';have hn2:=(ad_.1 hn');have ih:=rows_set M i m m' g (by simpa using h) hg hn2.2.1 (by
   rcases ho with ho|ho
   ·exact Or.inl ho
   ·refine Or.inr (λe=>ho ?_);simp only[rowsOf,List.flatMap_cons,d_];exact Or.inr e)
  have hmg:∀k∈a.2.1.ownBlock.toList,k≠g:=by
   intro k hk e;subst e;rcases ho with ho|ho
   ·have:k∈rowsOf M:=mM (v_ (show M[i]?=some m by simpa using h)) ho;exact hn2.2.2 k hk k this rfl
   ·exact ho (by simp only[rowsOf,List.flatMap_cons,d_];exact Or.inl hk)
  simp only[List.set_cons_succ];constructor
  ·simp only[rowsOf,List.flatMap_cons];refine ad_.2 ⟨hn2.1,ih.1,λx hx y hy e=>?_⟩;subst e;rcases ih.2 x hy with h1|h1
   ·exact hn2.2.2 x hx x h1 rfl
   ·exact hmg x hx h1
  ·intro k hk;simp only[rowsOf,List.flatMap_cons,d_]at hk ⊢;rcases hk with hk|hk
   ·exact Or.inl (Or.inl hk)
   ·rcases ih.2 k hk with h1|h1
    ·exact Or.inl (Or.inr h1)
    ·exact Or.inr h1
theorem used_set:∀(l:List FL) (i:Nat) (f:FL) (k:Int) (t:ByteArray),l[i]?=some f->uO (l.set i (k,f.2++[t]))=uO l+1
 | [],_,_,_,_,h=>by simp at h
 | a::l,0,f,k,t,h=>by
  simp only[List.getElem?_cons_zero,j_]at h;subst h;simp[uO];omega
 | a::l,i+1,f,k,t,h=>by
  have:=used_set l i f k t (by simpa using h);simp only[uO,List.set_cons_succ,List.map_cons,List.sum_cons]at *;omega
theorem rows_apart:∀(M:List PF) (i j:Nat) (m m':PF),M[i]?=some m->M[j]?=some m'->i≠j->∀k,m.2.1.ownBlock=some k->m'.2.1.ownBlock=some k->(rowsOf M).Nodup->False
 | [],_,_,_,_,h,_,_,_,_,_,_=>by simp at h
 | a::M,0,0,_,_,_,_,h,_,_,_,_=>absurd rfl h
 | a::M,0,j+1,m,m',h1,h2,_,k,k1,k2,hn=>by
  simp only[List.getElem?_cons_zero,j_]at h1;subst h1;simp only[rowsOf,List.flatMap_cons]at hn;exact(ad_.1 hn).2.2 k (by simp[k1]) k (mM (v_ (show M[j]?=some m' by simpa using h2)) k2) rfl
 | a::M,i+1,0,m,m',h1,h2,_,k,k1,k2,hn=>by
  simp only[List.getElem?_cons_zero,j_]at h2;subst h2;simp only[rowsOf,List.flatMap_cons]at hn;exact(ad_.1 hn).2.2 k (by simp[k2]) k (mM (v_ (show M[i]?=some m by simpa using h1)) k1) rfl
 | a::M,i+1,j+1,m,m',h1,h2,hne,k,k1,k2,hn=>by
  simp only[rowsOf,List.flatMap_cons]at hn;exact rows_apart M i j m m' (by simpa using h1) (by simpa using h2) (by omega) k k1 k2 (ad_.1 hn).2.1
theorem PD.extend {F:World}{d1 d2:DS}{M:List PF}(h:PD W bx bm d1 M)(hm:M[i]?=some (file,v,bs))
  (hT4:Touch v.ownBlock.toList W w4) (hS:SH w4 newv (bs++[t])) (hg:newv.ownBlock=some g) (hat:v.ownBlock=some g\/W.heap.size<=g) (hTF:Touch [bx,bm] w4 F)
  (hd:F.heap[bx]?=some (.cells (DC d2 bm) 117 (0,0))) (hmap:∃es clock,F.heap[bm]?=some (.map es clock)/\En es (eG (M.set i (file,newv,bs++[t])))) (hf:d2.files=d1.files.set i (file,bs++[t])) :
  PD F bx bm d2 (M.set i (file,newv,bs++[t]))/\(∀k∈rowsOf (M.set i (file,newv,bs++[t])),k∈rowsOf M\/W.heap.size<=k)/\Touch (bx::bm::rowsOf M) W F:=by
 have hn:=h.nodup;have hlt:=h.lt;simp only[R_,a_,not_or]at hn;have hmem:(file,v,bs)∈M:=v_ hm;have hgn:v.ownBlock=some g\/g∉rowsOf M:=by
  rcases hat with e|e
  ·exact Or.inl e
  ·refine Or.inr (λe2=>?_);have:=hlt g (by simp[e2]);omega
 obtain⟨r1,r2⟩:=rows_set M i _ (file,newv,bs++[t]) g hm hg hn.2.2 hgn;have hgx:g≠bx/\g≠bm:=by
  rcases hat with e|e
  ·have:=mM hmem e;exact⟨λe2=>hn.1.2 (e2▸this),λe2=>hn.2.1 (e2▸this)⟩
  ·have q1:=hlt bx (by simp);have q2:=hlt bm (by simp);omega
 have hvF:∀k∈v.ownBlock.toList,k∈bx::bm::rowsOf M:=λk hk=>by simp[mM hmem (show(file,v,bs).2.1.ownBlock=some k by simpa using hk)]
 refine⟨⟨hd,hmap,by rw[hf,h.files];unfold fO;rw[List.map_set],λm hmm=>?_,?_⟩,λk hk=>?_,?_⟩
 ·by_cases e:m=(file,newv,bs++[t])
  ·subst e;refine hS.touch hTF (λk hk=>?_);have hk':newv.ownBlock=some k:=hk;rw[hg]at hk';cases hk';simp[hgx.1,hgx.2]
  ·obtain⟨j,hj,hjm⟩:=A_ hmm;rw[List.getElem_set]at hjm
   split at hjm
   ·exact absurd hjm.symm e
   ·rename_i hij;have hjl:j<M.length:=by simpa using hj
    have hmM:m∈M:=hjm▸m_ hjl;have hown:∀k,m.2.1.ownBlock=some k->k∉v.ownBlock.toList:=by
     intro k hk e2;have e3:v.ownBlock=some k:=by simpa using e2
     exact rows_apart M i j (file,v,bs) m hm (by rw[<-hjm];simp[hjl]) hij k e3 hk hn.2.2
    refine((h.rows m hmM).touch hT4 hown).touch hTF (λk hk=>?_);have:=mM hmM hk;simp only[a_,i_,or_false,not_or];exact⟨λe2=>hn.1.2 (e2▸this),λe2=>hn.2.1 (e2▸this)⟩
 ·simp only[R_,a_,not_or];refine⟨⟨hn.1.1,λe=>?_⟩,λe=>?_,r1⟩
  ·rcases r2 _ e with q|q
   ·exact hn.1.2 q
   ·exact hgx.1 q.symm
  ·rcases r2 _ e with q|q
   ·exact hn.2.1 q
   ·exact hgx.2 q.symm
 ·rcases r2 k hk with q|q
  ·exact Or.inl q
  ·subst q;rcases hat with e|e
   ·exact Or.inl (mM hmem e)
   ·exact Or.inr e
 ·exact(hT4.mono hvF).trans (hTF.mono (by intro k hk;simp only[a_,i_,or_false]at hk;rcases hk with rfl|rfl<;>simp))
theorem aF {d:DS}{M:List PF}(h:PD w2 bx bm d M)(hm:(num,v,bs)∈M)(hb:w2.heap[bm]?=some (.map es clock))
  (hW:Touch [] w2 W) (hG:W.grownBy w4 v.ownBlock):w4.heap[bm]?=some (.map es clock)/\w4.heap[bx]?=some (.cells (DC d bm) 117 (0,0))/\Touch v.ownBlock.toList w2 w4:=by
 have hn:=h.nodup;simp only[R_,a_,not_or]at hn;have q1:=h.lt bx (by simp);have q2:=h.lt bm (by simp);have hv:∀k,v.ownBlock=some k->k≠bx/\k≠bm:=λk hk=>by
  have:=mM hm hk;exact⟨λe=>hn.1.2 (e▸this),λe=>hn.2.1 (e▸this)⟩
 have hk:∀k,k<w2.heap.size->some k≠v.ownBlock->w4.heap[k]?=w2.heap[k]?:=λk hk hne=>by
  rw[hG.block k (s_ hk hW.size) hne];exact hW.block k hk (by simp)
 refine⟨?_,?_,⟨hG.os.trans hW.os,hG.tape.trans hW.tape,hG.output.trans hW.output,k_ hW.size hG.size,λk hk1 hk2=>hk k hk1 (λe=>hk2 (by rw[<-e];simp))⟩⟩
 ·rw[hk bm q2 (λe=>(hv bm e.symm).2 rfl)];exact hb
 ·rw[hk bx q1 (λe=>(hv bx e.symm).1 rfl)];exact h.disk
theorem append_end {d:DS}{M:List PF}(h:PD w2 bx bm d M)(hm:M[i]?=some (num,v,bs))
  (he:En es (eG M)) (hS:SH w4 (.slice (some ⟨g,0,none⟩) (bs.length+1) cp) (bs++[t])) (hT4:Touch v.ownBlock.toList w2 w4) (hat:v.ownBlock=some g\/w2.heap.size<=g)
  (hd5:(setBlock w4 bm (.map (es.modify i λe=>{ e with key:=.int .i64 num,val:=.slice (some ⟨g,0,none⟩) (bs.length+1) cp }) clock)).heap[bx]?=some (.cells (DC d bm) 117 (0,0)))
  (hue:uO (d.files.set i (num,bs++[t]))=uO d.files+1) :
  PD (((setBlock w4 bm (.map (es.modify i λe=>{ e with key:=.int .i64 num,val:=.slice (some ⟨g,0,none⟩) (bs.length+1) cp }) clock)).setCell ⟨bx,4,none⟩ (.int .i64 ((uO d.files:Int)+1))).setCell ⟨bx,5,none⟩ (.int .i64 (d.wrote+1))) bx bm
   { d with wrote:=d.wrote+1,files:=d.files.set i (num,bs++[t]) } (M.set i (num,.slice (some ⟨g,0,none⟩) (bs.length+1) cp,bs++[t])) /\
  (∀k∈rowsOf (M.set i (num,.slice (some ⟨g,0,none⟩) (bs.length+1) cp,bs++[t])),k∈rowsOf M\/w2.heap.size<=k) /\
  Touch (bx::bm::rowsOf M) w2 (((setBlock w4 bm (.map (es.modify i λe=>{ e with key:=.int .i64 num,val:=.slice (some ⟨g,0,none⟩) (bs.length+1) cp }) clock)).setCell ⟨bx,4,none⟩ (.int .i64 ((uO d.files:Int)+1))).setCell ⟨bx,5,none⟩ (.int .i64 (d.wrote+1))):=by
 have hn:=h.nodup;simp only[R_,a_,not_or]at hn;refine PD.extend (g:=g) h hm hT4 hS rfl hat ((((Touch.refl _ _).setBlock (by simp) _).setCell (by simp) _).setCell (by simp) _) ?_ ?_ rfl
 ·rw[heap_setCell_same _ _ _ _ _ _ (heap_setCell_same _ _ _ _ _ _ hd5)];simp only[DC,hue];rfl
 ·refine⟨es.modify i λe=>{ e with key:=.int .i64 num,val:=.slice (some ⟨g,0,none⟩) (bs.length+1) cp },clock,?_,?_⟩
  ·rw[Below.heap_setCell _ _ _ _ (λe=>hn.1.1 e.symm),Below.heap_setCell _ _ _ _ (λe=>hn.1.1 e.symm)];exact haA _ _ _ (by have:=h.lt bm (by simp);have:=hT4.size;omega)
  ·unfold eG;rw[List.map_set];exact he.set i num _
def aS (d:DS)(file:Int)(text:ByteArray):Int×DS:=
 if d.f1=1 then(6,{ d with f1:=dec d.f1,f3:=dec d.f3 })else
 match posOf d.files file with
 | none=>(8,{ d with f1:=dec d.f1,f3:=dec d.f3 })
 | some (i,bs)=>
  if d.block<(text.size:Int)then(8,{ d with f1:=dec d.f1,f3:=dec d.f3 })
  else if(uO d.files:Int)=d.blocks then(5,{ d with f1:=dec d.f1,f3:=dec d.f3 })
  else(0,{ d with f1:=dec d.f1,f3:=dec d.f3,wrote:=d.wrote+1,files:=d.files.set i (file,bs++[if d.f3=1 then turnS text d.bit else text]) })
theorem pappend (w:World)(bx bm:Nat)(d:DS)(M:List PF)(file:Int)(text:ByteArray)(h:PD w bx bm d M)(hu:Nums d.files)(h0:0<=d.f1)(h1:d.f1<=9223372036854775807)(h2:0<=d.f3)(h3:d.f3<=9223372036854775807)
  (haf:uO d.files<=1000000000) (hw0:0<=d.wrote) (hw1:d.wrote<=1000000000) (ht:text.size<=1048576) :
  Calls prog 187 #[.pointer (some ⟨bx,0,none⟩),.int .i64 file,.string text] w λe w'=>e=.returned (.int .i64 (aS d file text).1) /\
   (∃M',PD w' bx bm (aS d file text).2 M'/\∀k∈rowsOf M',k∈rowsOf M\/w.heap.size<=k)/\Touch (bx::bm::rowsOf M) w w':=by
 have HC1:Hid (Calls prog 212 #[.pointer (some ⟨bx,0,none⟩),.int .i64 1] w λe w'=>e=.returned (.bool (d.f1 == 1))/\PD w' bx bm { d with f1:=dec d.f1 } M/\Touch [bx] w w'):=
  (comes1 w bx bm d h.disk h0 h1).mono λe w' ⟨a,b,c⟩=>⟨a,h.turn b c rfl,c⟩
 have HC3:Hid (∀w1,PD w1 bx bm { d with f1:=dec d.f1 } M->Calls prog 212 #[.pointer (some ⟨bx,0,none⟩),.int .i64 3] w1 λe w'=>e=.returned (.bool (d.f3 == 1))/\PD w' bx bm { d with f1:=dec d.f1,f3:=dec d.f3 } M/\Touch [bx] w1 w'):=
  λw1 hp=>(comes3 w1 bx bm _ hp.disk h2 h3).mono λe w' ⟨a,b,c⟩=>⟨a,hp.turn b c rfl,c⟩
 have hfil:=h.files;have hu':=hu;rw[hfil]at hu';have HU:Hid (Uniq (eG M)):=uniq_of hu';have hsub:∀k∈[bx],k∈bx::bm::rowsOf M:=by simp
 have HSUB:Hid _:=hsub;clear h hu hu' hsub
 -- the two calls come first on every way
 rcases pos_cases M file with⟨hp,hno⟩|⟨i,m,hm,rfl,hp⟩
 ·have HNO:Hid (∀p∈eG M,p.1≠file):=by
   intro p hp;unfold eG at hp;obtain⟨m,hm,rfl⟩:=z_.1 hp;exact hno m hm
  have E:Hid (aS d file text=(if d.f1=1 then 6 else 8,{ d with f1:=dec d.f1,f3:=dec d.f3 })):=by
   show aS d file text=_;unfold aS;rw[hfil,hp]
   split<;>rfl
  generalize aS d file text=r at *;clear hfil hno hp;by_cases hf:d.f1=1
  ·have hfb:(d.f1 == 1)=true:=by simp[hf]
   rw[if_pos hf]at E;rw[hfb]at HC1;clear hf;go_enter func187,ntmps187
   go_wp2_with fail
   refine HC1.out.mono ?_;rintro e w1 ⟨rfl,hP1,hT1⟩
   go_wp2_with fail
   refine(HC3.out w1 hP1).mono ?_;rintro e w2 ⟨rfl,hP2,hT2⟩;obtain⟨es,clock,hb,he⟩:=hP2.map;have hrun:=rM hb he file HNO.out true;simp only[if_true]at hrun;obtain⟨_,_,_,c3,_⟩:=Dl hP2.disk;clear hb he;go_wp2;go_ret;exact⟨by rw[E.out];rfl,⟨M,by rw[E.out];exact hP2,λk hk=>Or.inl hk⟩,(hT1.trans hT2).mono HSUB.out⟩
  ·have hfb:(d.f1 == 1)=false:=by simp[hf]
   rw[if_neg hf]at E;rw[hfb]at HC1;clear hf;go_enter func187,ntmps187
   go_wp2_with fail
   refine HC1.out.mono ?_;rintro e w1 ⟨rfl,hP1,hT1⟩
   go_wp2_with fail
   refine(HC3.out w1 hP1).mono ?_;rintro e w2 ⟨rfl,hP2,hT2⟩;obtain⟨es,clock,hb,he⟩:=hP2.map;have hrun:=rM hb he file HNO.out true;simp only[if_true]at hrun;obtain⟨c0,_,_,c3,_⟩:=Dl hP2.disk;clear hb he;go_wp2;go_ret;exact⟨by rw[E.out];rfl,⟨M,by rw[E.out];exact hP2,λk hk=>Or.inl hk⟩,(hT1.trans hT2).mono HSUB.out⟩
 ·have HENT:Hid ((eG M)[i]?=some (m.1,m.2.1)):=by show _=_;unfold eG;rw[M_,hm];rfl
  have hue:=λ(k:Int) (t:ByteArray)=>used_set d.files i (m.1,m.2.2) k t (by rw[hfil];unfold fO;rw[M_,hm];rfl);obtain⟨num,v,bs⟩:=m;simp only at hp HENT hue;have HUE:Hid _:=hue;have HM:Hid (M[i]?=some (num,v,bs)):=hm;have HMEM:Hid ((num,v,bs)∈M):=v_ hm;have HBL:Hid (bs.length<=1000000000):=by
   have:=uS d.files i (num,bs) (by rw[hfil];unfold fO;rw[M_,hm];rfl);simp only at this;show bs.length<=_;omega
  have E0:aS d num text=if d.f1=1 then(6,{ d with f1:=dec d.f1,f3:=dec d.f3 })else
    if d.block<(text.size:Int)then(8,{ d with f1:=dec d.f1,f3:=dec d.f3 })
    else if(uO d.files:Int)=d.blocks then(5,{ d with f1:=dec d.f1,f3:=dec d.f3 })
    else(0,{ d with f1:=dec d.f1,f3:=dec d.f3,wrote:=d.wrote+1,files:=d.files.set i (num,bs++[if d.f3=1 then turnS text d.bit else text]) }):=by
   unfold aS;rw[hfil,hp]
  generalize aS d num text=r at *;clear hfil hp hm hue;by_cases hf:d.f1=1
  ·have hfb:(d.f1 == 1)=true:=by simp[hf]
   have E:Hid (r=(6,{ d with f1:=dec d.f1,f3:=dec d.f3 })):=by show r=_;rw[E0,if_pos hf]
   rw[hfb]at HC1;clear hf E0;go_enter func187,ntmps187
   go_wp2_with fail
   refine HC1.out.mono ?_;rintro e w1 ⟨rfl,hP1,hT1⟩
   go_wp2_with fail
   refine(HC3.out w1 hP1).mono ?_;rintro e w2 ⟨rfl,hP2,hT2⟩;obtain⟨es,clock,hb,he⟩:=hP2.map;have hrun:=rU hb he HU.out i (num,v) HENT.out true;simp only[if_true]at hrun;obtain⟨c0,c1,_,c3,c4,_⟩:=Dl hP2.disk;clear hb he;go_wp2;go_ret;exact⟨by rw[E.out];rfl,⟨M,by rw[E.out];exact hP2,λk hk=>Or.inl hk⟩,(hT1.trans hT2).mono HSUB.out⟩
  ·have hfb:(d.f1 == 1)=false:=by simp[hf]
   rw[if_neg hf]at E0;rw[hfb]at HC1;clear hf;by_cases hbl:d.block<(text.size:Int)
   ·have E:Hid (r=(8,{ d with f1:=dec d.f1,f3:=dec d.f3 })):=by show r=_;rw[E0,if_pos hbl]
    clear E0;go_enter func187,ntmps187
    go_wp2_with fail
    refine HC1.out.mono ?_;rintro e w1 ⟨rfl,hP1,hT1⟩
    go_wp2_with fail
    refine(HC3.out w1 hP1).mono ?_;rintro e w2 ⟨rfl,hP2,hT2⟩;obtain⟨es,clock,hb,he⟩:=hP2.map;have hrun:=rU hb he HU.out i (num,v) HENT.out true;simp only[if_true]at hrun;obtain⟨c0,c1,_,c3,c4,_⟩:=Dl hP2.disk;clear hb he;go_wp2;go_ret;exact⟨by rw[E.out];rfl,⟨M,by rw[E.out];exact hP2,λk hk=>Or.inl hk⟩,(hT1.trans hT2).mono HSUB.out⟩
   ·rw[if_neg hbl]at E0;by_cases hfull:(uO d.files:Int)=d.blocks
    ·have E:Hid (r=(5,{ d with f1:=dec d.f1,f3:=dec d.f3 })):=by show r=_;rw[E0,if_pos hfull]
     have hfl:((uO d.files:Int) == d.blocks)=true:=by simp[hfull]
     clear E0 hfull;go_enter func187,ntmps187
     go_wp2_with fail
     refine HC1.out.mono ?_;rintro e w1 ⟨rfl,hP1,hT1⟩
     go_wp2_with fail
     refine(HC3.out w1 hP1).mono ?_;rintro e w2 ⟨rfl,hP2,hT2⟩;obtain⟨es,clock,hb,he⟩:=hP2.map;have hrun:=rU hb he HU.out i (num,v) HENT.out true;simp only[if_true]at hrun;obtain⟨c0,c1,_,c3,c4,_⟩:=Dl hP2.disk;clear hb he;go_wp2
     go_region
     all_goals
      go_wp2;go_ret;exact⟨by rw[E.out];rfl,⟨M,by rw[E.out];exact hP2.away (F:=[]) ((Touch.refl _ _).drew) (by simp),λk hk=>Or.inl hk⟩,((hT1.trans hT2).mono HSUB.out).drew⟩
    ·have hfl:((uO d.files:Int) == d.blocks)=false:=by simp[hfull]
     rw[if_neg hfull]at E0;clear hfull;by_cases h3:d.f3=1
     ·have h3b:(d.f3 == 1)=true:=by simp[h3]
      rw[if_pos h3]at E0;rw[h3b]at HC3;have E:Hid _:=E0;clear h3 E0;go_enter func187,ntmps187
      go_wp2_with fail
      refine HC1.out.mono ?_;rintro e w1 ⟨rfl,hP1,hT1⟩
      go_wp2_with fail
      refine(HC3.out w1 hP1).mono ?_;rintro e w2 ⟨rfl,hP2,hT2⟩;obtain⟨es,clock,hb,he⟩:=hP2.map;have hrun:=rU hb he HU.out i (num,v) HENT.out true;simp only[if_true]at hrun;obtain⟨c0,c1,_,c3,c4,_,_,_,_,c10,_⟩:=Dl hP2.disk;have hbxlt:bx<w2.heap.size:=hP2.lt bx (by simp);have HB:Hid (w2.heap[bm]?=some (.map es clock)):=hb;have HE:Hid (En es (eG M)):=he;have HNE:Hid (bx≠bm):=by have:=hP2.nodup;simp only[R_,a_,not_or]at this;exact this.1.1
      clear hb he;go_wp2
      go_region
      all_goals go_wp2_with fail
      refine(turned_any text d.bit _ ht).mono ?_;rintro e w3 ⟨rfl,hT3⟩;have hT3':Touch [] w2 w3:=(tr_.drew).trans hT3;have hP3:PD w3 bx bm { d with f1:=dec d.f1,f3:=dec d.f3 } M:=hP2.away hT3' (by simp);have hbx3:bx<w3.heap.size:=hP3.lt bx (by simp);have HB3:Hid (w3.heap[bm]?=some (.map es clock)):=by
       show w3.heap[bm]?=_;rw[hT3'.block bm (hP2.lt bm (by simp)) (by simp)];exact HB.out
      obtain⟨_,_,_,c33,_⟩:=Dl hP3.disk;clear HB;generalize turnS text d.bit=tx at *;go_wp2
      go_region_law (refine step_srow rfl (.tmp 60) (.tmp 62) rfl v bs (by simp[Act.eval]) (by exact World.ownsRow.alloc (hP3.rows (num,v,bs) HMEM.out) _) ⟨w3.heap.size,0,none⟩ tx 1 (by simp[Act.eval]) (by exact cell_one_new w3 _ _) HBL.out ?_;intro g cp w4 hS4 hG4 hat4 hlt4;have hTW:=((Touch.refl [] w3).alloc (.cells #[.string tx] 9)).drew;obtain⟨hb4,hd4,hT4⟩:=aF hP3 HMEM.out HB3.out hTW hG4;have hat5:v.ownBlock=some g\/w3.heap.size<=g:=hat4.imp id (λe=>by rw[e];exact hTW.size);have hup:=raa hb4 HE.out HU.out i (num,v) HENT.out (.slice (some ⟨g,0,none⟩) (bs.length+1) cp);have hd5:=(hau w4 bm bx (.map (es.modify i λe=>{ e with key:=.int .i64 num,val:=.slice (some ⟨g,0,none⟩) (bs.length+1) cp }) clock) HNE.out).trans hd4;have HD5:Hid _:=hd5;obtain⟨_,_,_,c34,_⟩:=Dl hd4;obtain⟨_,_,_,_,c45,c55,_,_,_,_,fz5⟩:=Dl hd5;have ff4:=fz5 4;have ff5:=fz5 5;clear hb4 hd4 hd5 fz5 hat4 hTW)
      all_goals
       go_wp2;go_ret;have hx:=append_end hP3 HM.out HE.out hS4 hT4 hat5 HD5.out (HUE.out num (tx));refine⟨by rw[E.out];rfl,⟨_,by rw[E.out];exact hx.1,λk hk=>(hx.2.1 k hk).imp id (λq=>k_ ((hT1.trans hT2).trans (hT3'.mono (by simp))).size q)⟩,(((hT1.trans hT2).trans (hT3'.mono (by simp))).mono HSUB.out).trans ?_⟩;exact hx.2.2
     ·have h3b:(d.f3 == 1)=false:=by simp[h3]
      rw[if_neg h3]at E0;rw[h3b]at HC3;have E:Hid _:=E0;clear h3 E0;go_enter func187,ntmps187
      go_wp2_with fail
      refine HC1.out.mono ?_;rintro e w1 ⟨rfl,hP1,hT1⟩
      go_wp2_with fail
      refine(HC3.out w1 hP1).mono ?_;rintro e w2 ⟨rfl,hP2,hT2⟩;obtain⟨es,clock,hb,he⟩:=hP2.map;have hrun:=rU hb he HU.out i (num,v) HENT.out true;simp only[if_true]at hrun;obtain⟨c0,c1,_,c3,c4,_⟩:=Dl hP2.disk;have hbxlt:bx<w2.heap.size:=hP2.lt bx (by simp);have HB:Hid (w2.heap[bm]?=some (.map es clock)):=hb;have HE:Hid (En es (eG M)):=he;have HNE:Hid (bx≠bm):=by have:=hP2.nodup;simp only[R_,a_,not_or]at this;exact this.1.1
      clear hb he;go_wp2
      go_region
      all_goals go_wp2
      go_region_law (refine step_srow rfl (.tmp 60) (.tmp 62) rfl v bs (by simp[Act.eval]) (by exact World.ownsRow.alloc (hP2.rows (num,v,bs) HMEM.out) _) ⟨w2.heap.size,0,none⟩ text 1 (by simp[Act.eval]) (by exact cell_one_new w2 _ _) HBL.out ?_;intro g cp w4 hS4 hG4 hat4 hlt4;have hTW:=(((Touch.refl [] w2).alloc (.cells #[.string text] 9)).drew).drew;obtain⟨hb4,hd4,hT4⟩:=aF hP2 HMEM.out HB.out hTW hG4;have hat5:v.ownBlock=some g\/w2.heap.size<=g:=hat4.imp id (λe=>by rw[e];exact hTW.size);have hup:=raa hb4 HE.out HU.out i (num,v) HENT.out (.slice (some ⟨g,0,none⟩) (bs.length+1) cp);have hd5:=(hau w4 bm bx (.map (es.modify i λe=>{ e with key:=.int .i64 num,val:=.slice (some ⟨g,0,none⟩) (bs.length+1) cp }) clock) HNE.out).trans hd4;have HD5:Hid _:=hd5;obtain⟨_,_,_,c34,_⟩:=Dl hd4;obtain⟨_,_,_,_,c45,c55,_,_,_,_,fz5⟩:=Dl hd5;have ff4:=fz5 4;have ff5:=fz5 5;clear hb4 hd4 hd5 fz5 hat4 hTW)
      all_goals
       go_wp2;go_ret;have hx:=append_end hP2 HM.out HE.out hS4 hT4 hat5 HD5.out (HUE.out num (text));refine⟨by rw[E.out];rfl,⟨_,by rw[E.out];exact hx.1,λk hk=>(hx.2.1 k hk).imp id (λq=>k_ (hT1.trans hT2).size q)⟩,((hT1.trans hT2).mono HSUB.out).trans ?_⟩;exact hx.2.2
end Go.Proofs.YtjoinhljdbljaaaGreat
