/- What is gathered of one column's values, and what follows. -/
import Derived.Test.YtjoinhljdbljaaaGreatSdKToJnG
set_option maxHeartbeats 4000000
set_option maxRecDepth 20000
set_option linter.unusedSectionVars false
namespace Go.Proofs.YtjoinhljdbljaaaGreat
open Go.RowKit
variable [Inhabited Ground]
end Go.Proofs.YtjoinhljdbljaaaGreat
namespace Go.Proofs.YtjoinhljdbljaaaGreat
open Go.RowKit
variable {full ops:Array Oper} {i id:Nat} {l:List V} {v:Value} {w w':World}
def Vw (w:World)(v:Value)(l:List V):Prop:=w.ownsRow 0 85 3 v l.length (flat3 (l.map V.t))
theorem Vw.keep (h:Vw w v l)(k:KT 85 w w'):Vw w' v l:=by
 obtain⟨h1,h2⟩:=h;refine⟨h1,?_⟩;rcases h2 with h2|⟨g,cap,cur,e,hb,hh,rest⟩
 ·exact .inl h2
 ·exact .inr ⟨g,cap,cur,e,hb,k _ _ _ hh,rest⟩
theorem Vw.block (h:Vw w v l):∀k,v.ownBlock=some k->∃cs,w.heap[k]?=some (.cells cs 85 (0,0)):=λk hk=>by
 rcases h.2 with⟨rfl,_⟩|⟨g,cap,cur,rfl,_,hh,_⟩
 ·simp[Value.ownBlock]at hk
 ·simp[Value.ownBlock]at hk;subst hk;exact⟨_,hh⟩
theorem Vw.row (h:Vw w v l):Ro w v l:=by
 obtain⟨h1,h2⟩:=h;rcases h2 with⟨rfl,e⟩|⟨g,cap,cur,rfl,_,hh,hc,hm,hs,ht⟩
 ·obtain rfl:l=[]:=List.eq_nil_of_length_eq_zero e;exact⟨none,0,rfl,e_ _,by unfold maxLen;omega,λh=>by simp at h⟩
 ·refine⟨some ⟨g,0,none⟩,cap,by simp,by simpa using hc,hm,λhn=>⟨g,0,cur,(0,0),rfl,hh,λi hi=>?_⟩⟩;simp only[u_]at hi;have key:∀r,r<3->cur[0+i*3+r]?=(T3.list ((l.map V.t)[i]'(by simpa using hi)))[r]?:=λr hr=>by
   have e:=f_ (l.map V.t) i r (by simpa using hi) hr;rw[<-ht]at e;rw[List.getElem?_take_of_lt (by omega)]at e;rw[<-e];simp
  have k0:=key 0 (by omega);have k1:=key 1 (by omega);have k2:=key 2 (by omega);simp only[T3.list]at k0 k1 k2;exact⟨by simpa using k0,by simpa using k1,by simpa[Nat.add_assoc]using k2⟩
section
variable {P:Program} {md:Region.Mode} {ops:Array Oper} {o:Oper} {Q:Exit->Act->World->Prop}
structure LastTo (md:Region.Mode)(ops:Array Oper)(o:Oper):Prop where
 waits:∀j,j<ops.size->(∃e∈o.after,e.on=j/\Region.binds md e=true)\/∃(m:Nat) (p:Oper),ops[m]?=some p/\(∃e∈p.after,e.on=j/\Region.binds md e=true)/\∃e∈o.after,e.on=m/\Region.binds md e=true
 inside:∀e∈o.after,e.on<ops.size
 down:∀(j:Nat) (p:Oper),ops[j]?=some p->∀e∈p.after,e.on<j
 free:∀(j:Nat) (p:Oper),ops[j]?=some p->p.guard=none
 guard:o.guard=none
def Dn (md:Region.Mode)(ops:Array Oper)(l:Array Bool):Prop:=∀(m:Nat) (p:Oper),ops[m]?=some p->l.getD m false=true->∀e∈p.after,Region.binds md e=true->l.getD e.on false=true
theorem Dn.none (n:Nat):Dn md ops (Array.replicate n false):=λm p _ h=>by
 rw[K_,Array.getElem?_replicate]at h
 split at h<;>simp at h
theorem getD_set_true (l:Array Bool)(i k:Nat)(h:l.getD k false=true):(l.setIfInBounds i true).getD k false=true:=by
 rw[K_]at h ⊢;rw[E_];by_cases e:i=k
 ·subst e;rw[if_pos rfl]
  split
  ·rfl
  ·rename_i hlt;rw[Array.getElem?_eq_none (by omega)]at h;simp at h
 ·rw[if_neg e];exact h
theorem Dn.set {l:Array Bool}(h:Dn md ops l)(hi:i∈Region.ready md ops l):Dn md ops (l.setIfInBounds i true):=λm p hp hm e he hb=>by
 obtain⟨_,q,hq,ha⟩:=mem_ready.1 hi;refine getD_set_true l i e.on ?_;by_cases e':i=m
 ·subst e';rw[hp]at hq;cases hq;exact ha e he hb
 ·refine h m p hp ?_ e he hb;rw[K_]at hm ⊢;rw[E_,if_neg e']at hm;exact hm
theorem listed_all2 (h:LastTo md ops o)(l:Array Bool)(hl:l.size=ops.size)(hr:Region.ready md ops l=[]):∀j,j<ops.size->l.getD j false=true:=by
 intro j
 induction j using Nat.strongRecOn with
 | _ j ih=>
  intro hj;cases hc:l.getD j false with
  | true=>rfl
  | false=>
   exfalso;have:j∈Region.ready md ops l:=by
    refine mem_ready.2 ⟨?_,ops[j],q_ hj,λe he _=>ih e.on (h.down j _ (q_ hj) e he) (by have:=h.down j _ (q_ hj) e he;omega)⟩;rw[K_,q_ (by omega)]at hc ⊢;exact hc
   rw[hr]at this;simp at this
theorem ready_last2 (h:LastTo md ops o)(l:Array Bool)(hl:l.size=ops.size)(hd:Dn md ops l):ops.size∈Region.ready md (ops.push o) (l.push false)↔Region.ready md ops l=[]:=by
 constructor
 ·intro hm;obtain⟨_,p,hp,ha⟩:=mem_ready.1 hm;simp at hp;subst hp;refine Q_.2 λj hj=>?_;obtain⟨h1,q,hq,_⟩:=mem_ready.1 hj;have hj':=(agi.1 hq).1;have this:l.getD j false=true:=by
   rcases h.waits j hj' with⟨e,he,rfl,hb⟩|⟨m,p,hp,⟨e,he,rfl,hb⟩,⟨e2,he2,rfl,hb2⟩⟩
   ·have:=ha e he hb;rw[g_]at this;exact this
   ·have:=ha e2 he2 hb2;rw[g_]at this;exact hd _ p hp this e he hb
  rw[K_,q_ (by omega)]at h1 this;simp only[Option.getD_some]at h1 this;rw[h1]at this;cases this
 ·intro hr;refine mem_ready.2 ⟨?_,o,by simp,λe he _=>?_⟩
  ·rw[<-hl];simp
  ·rw[g_];exact listed_all2 h l hl hr e.on (h.inside e he)
theorem wpAny_push2 (h:LastTo md ops o):∀(fuel:Nat) (l:Array Bool) (a:Act) (w:World),l.size=ops.size->Dn md ops l->wpAny P md ops (Behind P o Q) fuel l a w->wpAny P md (ops.push o) Q (fuel+1) (l.push false) a w:=by
 have hstop:∀(fuel:Nat) (l:Array Bool) (a:Act) (w:World),l.size=ops.size->Dn md ops l->Region.ready md ops l=[]->Behind P o Q .normal a w->wpAny P md (ops.push o) Q (fuel+1) (l.push false) a w:=by
  intro fuel l a w hl hd hr hq;refine⟨λh0=>?_,λi hi=>?_⟩
  ·have:=(ready_last2 h l hl hd).2 hr;rw[h0]at this;simp at this
  ·have hi2:i=ops.size:=by
    obtain⟨_,p,hp,_⟩:=mem_ready.1 hi;have hlt:=(agi.1 hp).1;rw[ag_]at hlt;rcases ar_ i ops.size with hc|hc
    ·have:=(rH (o:=o) l hl i hc).1 hi;rw[hr]at this;simp at this
    ·omega
   subst hi2;unfold wpOp;simp only[Array.getElem?_push_size];rw[if_pos (by unfold Region.wanted;rw[h.guard])];refine .inl (Oper.wp_mono (λa w hq=>wpAny_done ?_ hq _) hq);refine Q_.2 λj hj=>?_;obtain⟨h1,p,hp,_⟩:=mem_ready.1 hj;have hlt:=(agi.1 hp).1;rw[ag_]at hlt;rcases ar_ j ops.size with hc|hc
   ·have:=listed_all2 h l hl hr j hc;rw[getD_set_ne true (by omega),gu l j (by omega)]at h1;rw[K_,q_ (by omega)]at h1 this;simp only[Option.getD_some]at h1 this;rw[h1]at this;cases this
   ·have:j=ops.size:=by omega
    subst this;rw[<-hl]at h1;simp at h1
 intro fuel
 induction fuel with
 | zero=>
  intro l a w hl hd hw;exact hstop 0 l a w hl hd hw.1 hw.2
 | succ fuel ih=>
  intro l a w hl hd hw;by_cases hr:Region.ready md ops l=[]
  ·exact hstop _ l a w hl hd hr (hw.1 hr)
  ·refine⟨λh0=>?_,λi hi=>?_⟩
   ·exfalso;refine hr (Q_.2 λj hj=>?_);have hj':j<ops.size:=by
     obtain⟨_,p,hp,_⟩:=mem_ready.1 hj;exact(agi.1 hp).1
    have:=(rH (o:=o) l hl j hj').2 hj;rw[h0]at this;simp at this
   ·have hi':i<ops.size:=by
     obtain⟨_,p,hp,_⟩:=mem_ready.1 hi;have hlt:=(agi.1 hp).1;rw[ag_]at hlt;rcases ar_ i ops.size with hc|hc
     ·exact hc
     ·have:i=ops.size:=by omega
      subst this;exact absurd ((ready_last2 h l hl hd).1 hi) hr
    have hm:=hw.2 i ((rH l hl i hi').1 hi);have hset:(l.push false).setIfInBounds i true=(l.setIfInBounds i true).push false:=by
     apply Array.ext_getElem?;intro k;rw[E_,ac_,ac_,E_,az_,ag_];by_cases e:i=k
     ·subst e;rw[if_pos rfl,if_pos (by omega),if_neg (by omega),if_pos rfl,if_pos (by omega)]
     ·rw[if_neg e,if_neg e]
    unfold wpOp at hm ⊢;simp only[ac_,if_neg (show i≠ops.size by omega),q_ hi']at hm ⊢;have hg:=h.free i _ (q_ hi');rw[if_pos (by unfold Region.wanted;rw[hg])]at hm ⊢;rw[hset];rcases hm with hm|⟨h1,h2⟩
    ·exact .inl (operWp_back (Oper.wp_mono (λa w hk=>ih _ a w (by simpa using hl) (hd.set ((rH l hl i hi').1 hi)) hk) hm))
    ·exact .inr ⟨h1,behind_out h2⟩
theorem wR {a:Act}(S:World->Prop)(hm:P.follows .mixedOrders=true)(hb:full.back?=some o)(h:LastTo .any full.pop o)(hS:S w.drew)
  (hw:S w.drew->wpAnyH P .any full.pop (Behind P o Q) S full.pop.size (Array.replicate full.pop.size false) a w.drew):(Code.region id full true).wp P Q a w:=by
 have hf:full.pop.push o=full:=by
  obtain⟨ys,rfl⟩:=Array.back?_eq_some_iff.1 hb;simp
 refine wp_region_any hm ?_;have:=wpAny_push2 h _ _ _ _ (by simp) (Dn.none _) (wpAny_of_held _ _ _ _ (hw hS));rw[hf]at this;have hs:full.size=full.pop.size+1:=by rw[<-ag_ (v:=o),hf]
 rw[hs,P_];exact this
end
def lastTo (ops:Array Oper)(o:Oper):Bool:=
 (List.range ops.size).all (λj=>o.after.any (λe=>e.on == j && Region.binds .any e) || (List.range ops.size).any (λm=>(match ops[m]? with|some p=>p.after.any (λe=>e.on == j && Region.binds .any e)|none=>false) && o.after.any (λe=>e.on == m && Region.binds .any e))) && o.after.all (λe=>decide (e.on<ops.size)) &&
  (List.range ops.size).all (λj=>match ops[j]? with|some p=>p.after.all (λe=>decide (e.on<j)) && p.guard.isNone|none=>true) && o.guard.isNone
theorem lastTo_spec {o:Oper}(h:lastTo ops o=true):LastTo .any ops o:=by
 unfold lastTo at h;simp only[Bool.and_eq_true,Bool.or_eq_true,List.all_eq_true,List.any_eq_true,List.mem_range,Array.any_eq_true,Array.all_eq_true,decide_eq_true_eq]at h;obtain⟨⟨⟨h1,h2⟩,h3⟩,h4⟩:=h;refine⟨λj hj=>?_,λe he=>?_,λj p hp e he=>?_,λj p hp=>?_,by simpa using h4⟩
 ·rcases h1 j hj with⟨i,hi,he⟩|⟨m,hm,he1,⟨i2,hi2,he2⟩⟩
  ·exact .inl ⟨o.after[i],Array.getElem_mem hi,by simpa using he.1,by simpa using he.2⟩
  ·rw[q_ hm]at he1;simp only[Array.any_eq_true,Bool.and_eq_true]at he1;obtain⟨i,hi,he⟩:=he1;exact .inr ⟨m,ops[m],q_ hm,⟨ops[m].after[i],Array.getElem_mem hi,by simpa using he.1,by simpa using he.2⟩,⟨o.after[i2],Array.getElem_mem hi2,by simpa using he2.1,by simpa using he2.2⟩⟩
 ·obtain⟨i,hi,rfl⟩:=bh_ he;exact h2 i hi
 ·have:=h3 j (agi.1 hp).1;rw[hp]at this;simp only[Bool.and_eq_true,Array.all_eq_true,decide_eq_true_eq]at this;obtain⟨i,hi,rfl⟩:=bh_ he;exact this.1 i hi
 ·have:=h3 j (agi.1 hp).1;rw[hp]at this;simp only[Bool.and_eq_true]at this;simpa using this.2
variable [Inhabited Ground]
end Go.Proofs.YtjoinhljdbljaaaGreat
namespace Go.Proofs.YtjoinhljdbljaaaGreat
open Go.RowKit
variable {W W' W2 w w' w2:World} {X:List Nat} {b bm bx c cap g k n off:Nat} {l l2 left right:List V}
def K0:K:=⟨0,false,false⟩
variable [Inhabited Ground]
open Go.Proofs.Tryz
theorem addr_add (b off j:Nat):(⟨b,off,none⟩:Addr).add j=⟨b,off+j,none⟩:=by
 unfold Addr.add;by_cases h0:j=0
 ·rw[if_pos h0,h0];rfl
 ·rw[if_neg h0]
theorem flat3_cells (l:List V):∀u∈flat3 (l.map V.t),u.oneCell'=true:=λu hu=>by
 unfold flat3 at hu;obtain⟨x,hx,hu⟩:=ap_.1 hu;obtain⟨v,_,rfl⟩:=z_.1 hx;simp only[T3.list,V.t,a_,i_,or_false]at hu;rcases hu with rfl|rfl|rfl<;>rfl
theorem Ro.news (h:Ro w (.slice (some ⟨b,off,none⟩) n c) l)(h1:1<=l.length):∀j u,(flat3 (l.map V.t))[j]?=some u->w.cell? ((⟨b,off,none⟩:Addr).add j)=some u:=λj u hj=>by
 obtain⟨ao,cap,e,_,_,_,hx⟩:=Sl3.lies h;obtain⟨b',off',e2,_,hx⟩:=hx (by simpa using h1);simp only[Value.slice.injEq]at e;rw[<-e.1]at e2;simp only[j_,Addr.mk.injEq,and_true]at e2;obtain⟨rfl,rfl⟩:=e2;rw[addr_add];exact hx j u hj
theorem wpList_vals {ops:Array Oper}{rest:List Oper}{o:Oper}{a:Act}{Q:Exit->Act->World->Prop}(hgd:o.guard=none)(s x:Operand)
  (ho:o.op=.call { callee:=.builtin .append,args:=#[s,x],argTypes:=#[83,83] }) (v:Value) (l:List V) (hs:a.eval s=v) (hown:Vw w v l)
  (b off c n:Nat) (l2:List V) (hx:a.eval x=.slice (some ⟨b,off,none⟩) n c) (hn:n=l2.length) (hr:Ro w (.slice (some ⟨b,off,none⟩) n c) l2) (hm:1<=l2.length) (hlen:l.length+l2.length<=1000000)
  (h:∀g cap w',Vw w' (.slice (some ⟨g,0,none⟩) (l.length+l2.length) cap) (l++l2)->w.grownBy w' v.ownBlock->(v.ownBlock=some g\/g=w.heap.size)->g<w'.heap.size->wpList prog ops Q rest (a.put o.dst (.slice (some ⟨g,0,none⟩) (l.length+l2.length) cap)) w'):wpList prog ops Q (o::rest) a w:=by
 obtain⟨i0,hi,hz0,hz1,hz2⟩:=info_parts info85;subst hn;refine wpList_append_lies w hgd s x 83 ho 0 85 i0 (.agg #[.int .i64 0,.int .i64 0,.string ⟨#[]⟩]) 3 32 underlying83 hi hz0 hz1 hz2 rfl (by decide) v _ _ hs hown ⟨b,off,none⟩ l2.length c (flat3 (l2.map V.t)) hx (by rw[fA];simp) (hr.news hm) (flat3_cells l2) hm ?_ ?_ (x_ _) _ rfl ?_
 ·unfold maxLen;omega
 ·omega
 ·intro g cap w' h1 h2 h3 h4;refine h g cap w' ?_ h2 h3 h4;unfold Vw;rw[c_,w_,show flat3 (l.map V.t++l2.map V.t)=flat3 (l.map V.t)++flat3 (l2.map V.t) by simp[flat3]];exact h1
structure Rw (W W':World)(rv:Value)(l:List V):Prop where
 own:Vw W' rv l
 new:∀b,rv.ownBlock=some b->W.heap.size<=b
 touch:Touch [] W W'
theorem Rw.quiet {rv:Value}(h:Rw W W' rv l)(t:Touch [] W' W2):Rw W W2 rv l:=⟨h.own.keep (t.tu _),h.new,h.touch.trans t⟩
theorem Rw.grow {rv:Value}(h:Rw W W' rv l)(hO:Vw w2 (.slice (some ⟨g,0,none⟩) n cap) (l++l2))(hg:W'.grownBy w2 rv.ownBlock)(hat:rv.ownBlock=some g\/g=W'.heap.size):Rw W w2 (.slice (some ⟨g,0,none⟩) n cap) (l++l2):=by
 have t2:Touch rv.ownBlock.toList W' w2:=(Touch.refl _ _).grown hg (λk hk=>by simp[hk]);refine⟨hO,λb hb=>?_,h.touch.more t2 (λi hi=>.inr (h.new i (by simpa using hi)))⟩;simp[Value.ownBlock]at hb;subst hb;rcases hat with e|e
 ·exact h.new _ e
 ·have:=h.touch.size;omega
theorem rowGrow_any (w:World)(n:Nat)(h1:1<=n)(h2:n<=100000):Calls prog 211 #[.slice none 0 0,.int .i64 (n:Int)] w λe w'=>∃g cap,e=.returned (.slice (some ⟨g,0,none⟩) 0 cap)/\Rw w w' (.slice (some ⟨g,0,none⟩) 0 cap) []:=by
 obtain⟨i0,hi0,hz0,hz1,hz2⟩:=info_parts info85;have happ:=Lib.run_append_nil_zeros (P:=prog) w 83 3 83 85 i0 (.agg #[.int .i64 0,.int .i64 0,.string ⟨#[]⟩]) .i64 .i64 underlying83 underlying3 hi0 hz0 n (by omega) (by omega) (by omega) (by rw[hz2];omega);generalize hcap:grownCap w n 0 85=cap2 at happ;have hcapge:n<=cap2:=by rw[<-hcap];exact grownCap_ge w _ 0 85
 have hcaple:cap2<=maxLen:=by rw[<-hcap];exact grownCap_le_maxLen w _ 0 85 (by unfold maxLen;omega)
 generalize hZ:(Builtin.zeroCells (Value.agg #[.int .i64 0,.int .i64 0,.string ⟨#[]⟩]).cells n++Builtin.zeroCells (Value.agg #[.int .i64 0,.int .i64 0,.string ⟨#[]⟩]).cells (cap2-n))=Z at happ;have hZs:Z.size=cap2*3:=by rw[<-hZ];simp[size_zeroCells,Value.cells];omega
 clear hcap hZ hi0 hz0 hz1 hz2;have HA:Hid _:=happ;clear happ;have HO:Hid (Rw w (w.drew.alloc (.cells Z 85)) (.slice (some ⟨w.heap.size,0,none⟩) 0 cap2) []):=by
  refine⟨⟨by simp[flat3],Or.inr ⟨w.heap.size,cap2,Z,rfl,x_ _,?_,x_ _,hcaple,by omega,by simp[flat3]⟩⟩,λb hb=>?_,(tr_.drew).alloc _⟩
  ·exact heap_alloc_new w.drew _
  ·simp[Value.ownBlock]at hb;omega
 go_enter func211,ntmps211
 go_wp2_with (at_builtin;refine Lib.wpList_append_run _ rfl _ _ _ _ rfl _ _ rfl rfl _ _ HA.out ?_)
 go_ret;exact⟨_,_,rfl,HO.out⟩
def tZ (left right:List V)(k:Nat):List V:=if k=0 then[]else if k=1 then left else left++right
theorem rowConcat_any (w:World)(b:Nat)(lv rv:Value)(left right:List V)(c0:w.cell? ⟨b,0,none⟩=some lv)(c1:w.cell? ⟨b,1,none⟩=some rv)(h1:Ro w lv left)(h2:Ro w rv right)
  (hl1:1<=left.length) (hl2:left.length<=1000) (hr1:1<=right.length) (hr2:right.length<=1000):Calls prog 186 #[.slice (some ⟨b,0,none⟩) 2 2] w λe w'=>∃g cap,e=.returned (.slice (some ⟨g,0,none⟩) (left.length+right.length) cap)/\Ro w' (.slice (some ⟨g,0,none⟩) (left.length+right.length) cap) (left++right)/\w.heap.size<=g/\Touch [] w w':=by
 obtain⟨lb,loff,lcap,rfl,hlc1,hlc2,_⟩:=h1.cells hl1;obtain⟨rb,roff,rP,rfl,hrc1,hrc2,_⟩:=h2.cells hr1;have hbw:b<w.heap.size:=World.block_lt_of_cell? w _ c0;have HL:Hid (Ro w (.slice (some ⟨lb,loff,none⟩) left.length lcap) left):=h1;have HR:Hid (Ro w (.slice (some ⟨rb,roff,none⟩) right.length rP) right):=h2;clear h1 h2;have HG:Hid (∀w (n:Nat),1<=n->n<=100000->Calls prog 211 #[.slice none 0 0,.int .i64 (n:Int)] w λe w'=>∃g cap,e=.returned (.slice (some ⟨g,0,none⟩) 0 cap)/\Rw w w' (.slice (some ⟨g,0,none⟩) 0 cap) []):=rowGrow_any;go_enter func186,ntmps186;go_wp2
 go_loopw [3,11] (λs j wr=>∃k:Nat,k<=2/\j=.int .i64 k/\s=.int .i64 ((tZ left right k).length:Int)/\wr=w) (λ_ j _=>2-(intOf j).toNat)
 case atStart=>exact⟨0,by omega,rfl,rfl,rfl⟩
 case round=>
  obtain⟨k,hk,rfl,rfl,hw⟩:=hrel;subst hw;obtain rfl|rfl|rfl:k=0\/k=1\/k=2:=by omega
  ·have e1:(tZ left right 0).length=0:=rfl;rw[e1];have e2:Hid ((tZ left right 1).length=left.length):=rfl;go_wp2
   go_roundw
   case rel=>exact⟨1,by omega,by go_num,by rw[e2.out],trivial⟩
   case measure=>simp[intOf]
  ·have e1:(tZ left right 1).length=left.length:=rfl;rw[e1];have e2:Hid ((tZ left right 2).length=left.length+right.length):=by show(left++right).length=_;simp
   go_wp2
   go_roundw
   case rel=>exact⟨2,by omega,by go_num,by rw[e2.out];go_num,trivial⟩
   case measure=>simp[intOf]
  ·have e1:(tZ left right 2).length=left.length+right.length:=by show(left++right).length=_;simp
   rw[e1];clear e1;obtain⟨w0,hw0⟩:∃w0,w0=wr:=⟨_,rfl⟩;subst hw0
   go_wp2_with (go_at_call 211;refine(HG.out _ _ (by omega) (by omega)).mono ?_;rintro e w1 ⟨g1,cap1,rfl,hO1⟩)
   go_loopw [6,27] (λo j wr=>∃k:Nat,k<=2/\j=.int .i64 k/\∃g cap,o=.slice (some ⟨g,0,none⟩) (tZ left right k).length cap/\Rw w0 wr (.slice (some ⟨g,0,none⟩) (tZ left right k).length cap) (tZ left right k)) (λ_ j _=>2-(intOf j).toNat)
   case atStart=>exact⟨0,by omega,rfl,g1,cap1,rfl,hO1⟩
   case round=>
    obtain⟨k,hk,rfl,g,cap,rfl,hO⟩:=hrel;clear hO1;have hsz:=hO.touch.size;have y0:=cO c0 hO.touch;have y1:=cO c1 hO.touch;have HO:Hid (Rw w0 wr (.slice (some ⟨g,0,none⟩) (tZ left right k).length cap) (tZ left right k)):=hO;have HL1:Hid (Ro wr (.slice (some ⟨lb,loff,none⟩) left.length lcap) left):=HL.out.touch hO.touch;have HR1:Hid (Ro wr (.slice (some ⟨rb,roff,none⟩) right.length rP) right):=HR.out.touch hO.touch;clear hO;obtain rfl|rfl|rfl:k=0\/k=1\/k=2:=by omega
    ·have e1:(tZ left right 0).length=0:=rfl;rw[e1]at HO ⊢;clear e1;have HO0:Hid (Rw w0 wr (.slice (some ⟨g,0,none⟩) 0 cap) []):=HO.out;clear HO
     go_wp2_with (at_builtin;refine wpList_vals rfl (.tmp 31) (.tmp 32) rfl (.slice (some ⟨g,0,none⟩) 0 cap) [] rfl HO0.out.own lb loff lcap left.length left rfl rfl HL1.out hl1 (by rw[List.length_nil];omega) ?_;intro g2 cap2 w5 q1 q2 q3 q4;have hRS:=HO0.out.grow q1 q2 q3;have HRS:Hid (Rw w0 w5 (.slice (some ⟨g2,0,none⟩) (([]:List V).length+left.length) cap2) ([]++left)):=hRS;clear q1 q2 q3 q4 hRS)
     go_roundw
     case rel=>exact⟨1,by omega,by go_num,g2,cap2,by simp[tZ],by have:=HRS.out;simpa[tZ]using this⟩
     case measure=>simp[intOf]
    ·have e1:(tZ left right 1).length=left.length:=rfl;rw[e1]at HO ⊢;clear e1;have HO0:Hid (Rw w0 wr (.slice (some ⟨g,0,none⟩) left.length cap) left):=HO.out;clear HO
     go_wp2_with (at_builtin;refine wpList_vals rfl (.tmp 31) (.tmp 32) rfl (.slice (some ⟨g,0,none⟩) left.length cap) left rfl HO0.out.own rb roff rP right.length right rfl rfl HR1.out hr1 (by omega) ?_;intro g2 cap2 w5 q1 q2 q3 q4;have hRS:=HO0.out.grow q1 q2 q3;have HRS:Hid (Rw w0 w5 (.slice (some ⟨g2,0,none⟩) (left.length+right.length) cap2) (left++right)):=hRS;clear q1 q2 q3 q4 hRS)
     go_roundw
     case rel=>exact⟨2,by omega,by go_num,g2,cap2,by simp[tZ],by have:=HRS.out;simpa[tZ]using this⟩
     case measure=>simp[intOf]
    ·have e1:(tZ left right 2).length=left.length+right.length:=by show(left++right).length=_;simp
     rw[e1]at HO ⊢;clear e1;go_wp2;go_ret;have hO:=HO.out;exact⟨g,cap,rfl,hO.own.row,hO.new g rfl,hO.touch⟩
def isB (cols others:List Int)(left:List V)(x:List V):Bool:=cZ cols others left x == 0
def hits (cols others:List Int)(left:List V)(l:List (List V)):List (List V):=l.takeWhile (isB cols others left)
theorem hits_lt {cols others:List Int}{left:List V}:∀{l:List (List V)} {k:Nat},k<(hits cols others left l).length->∃x,l.drop k=x::l.drop (k+1)/\atB cols others left (l.drop k)=true/\(hits cols others left l)[k]?=some x
 | [],k,h=>by simp[hits]at h
 | a::l,k,h=>by
  unfold hits at *;by_cases e:isB cols others left a=true
  ·rw[aw_ e]at *;cases k with
   | zero=>exact⟨a,rfl,e,rfl⟩
   | succ k=>
    obtain⟨x,h1,h2,h3⟩:=hits_lt (l:=l) (k:=k) (by unfold hits;simpa using h);exact⟨x,by simpa using h1,by simpa using h2,by simpa[hits]using h3⟩
  ·rw[am_ e]at h;simp at h
theorem hits_end {cols others:List Int}{left:List V}:∀{l:List (List V)},atB cols others left (l.drop (hits cols others left l).length)=false
 | []=>by simp[hits,atB]
 | a::l=>by
  unfold hits;by_cases e:isB cols others left a=true
  ·rw[aw_ e];simpa[hits]using hits_end (l:=l)
  ·rw[am_ e];simpa[atB,isB]using e
def JT:List TypeId:=[79,246,85,223,117,9]
structure KeepJ (X:List Nat)(W W':World):Prop where
 size:W.heap.size<=W'.heap.size
 cells:∀t∈JT,KT t W W'
 maps:∀(k:Nat) (es:Array MapEntry) (c:Nat),W.heap[k]?=some (.map es c)->W'.heap[k]?=some (.map es c)
 blocks:∀k∈X,∀ob,W.heap[k]?=some ob->W'.heap[k]?=some ob
def InX (X:List Nat)(n:ND):Prop:=∀v,(v=n.cv\/v=n.ov)->∀b off k c,v=.slice (some ⟨b,off,none⟩) k c->b∈X
theorem Rt.blocks {v:Value}{l:List Int}(h:Rt w v l)(hX:∀b off n c,v=.slice (some ⟨b,off,none⟩) n c->b∈X)(hk:∀k∈X,∀ob,w.heap[k]?=some ob->w'.heap[k]?=some ob):Rt w' v l:=by
 obtain⟨h1,h2,ao,cap,e,hx⟩:=h;refine⟨h1,h2,ao,cap,e,λhl=>?_⟩;obtain⟨b,off,e2,hx⟩:=hx hl;refine⟨b,off,e2,λj hj=>?_⟩;have h3:=hx j hj;have hb:=hX b off _ cap (by rw[e,e2]);have hlt:=lt_of_cell h3;simp only[World.cell?]at h3 ⊢;rw[hk b hb _ (q_ hlt)];rw[q_ hlt]at h3;exact h3
theorem Si.blocks {X:List Nat}{w w':World}{n:ND}{cols others:List Int}{la ra:Nat}(h:Si w n cols others la ra)(hX:InX X n)(hk:∀k∈X,∀ob,w.heap[k]?=some ob->w'.heap[k]?=some ob):Si w' n cols others la ra:=
 ⟨h.cv.blocks (λb off k c e=>hX _ (.inl rfl) b off k c e) hk,h.ov.blocks (λb off k c e=>hX _ (.inr rfl) b off k c e) hk,h.len,h.lin,h.rin,h.few⟩
theorem PD.keepJ {d:DS}{M:List PF}(h:PD W bx bm d M)(g:KeepJ X W W'):PD W' bx bm d M:=by
 obtain⟨es,c,hb,he⟩:=h.map;refine⟨g.cells 117 (by decide) _ _ _ h.disk,⟨es,c,g.maps _ _ _ hb,he⟩,h.files,λm hm=>?_,h.nodup⟩;obtain⟨h1,h2⟩:=h.rows m hm;refine⟨h1,?_⟩;rcases h2 with h2|⟨k,cap,cur,e,hb,hh,rest⟩
 ·exact .inl h2
 ·exact .inr ⟨k,cap,cur,e,hb,g.cells 9 (by decide) _ _ _ hh,rest⟩
structure Jr (w:World)(X:List Nat)(bx bm blk rc:Nat)(d:DS)(M:List PF)(n:ND)(cols others:List Int)(left:List V)(lv:Value)(l:List (List V))(k:Nat)(wr:World):Prop where
 mark:MS X wr (w.heap.size+1) bx blk rc d (l.drop k)
 pd:PD wr bx bm d M
 sides:Si wr n cols others left.length rc
 row:Ro wr lv left
 box:wr.heap[w.heap.size]?=some (.cells n.cells 79 (0,0))
section
variable {w wr w':World} {X:List Nat} {bx bm blk rc:Nat} {d:DS} {M:List PF} {n:ND} {cols others:List Int} {left:List V} {lv:Value} {l:List (List V)} {k:Nat}
theorem Jr.quiet (h:Jr w X bx bm blk rc d M n cols others left lv l k wr)(t:Touch [] wr w'):Jr w X bx bm blk rc d M n cols others left lv l k w':=
 ⟨h.mark.touch t,h.pd.away t (by simp),h.sides.touch t,h.row.touch t,by rw[t.block _ (agi.1 h.box).1 (by simp)];exact h.box⟩
theorem Jr.given (h:Jr w X bx bm blk rc d M n cols others left lv l k wr)(g:KeepJ X wr w')(hX:InX X n):Jr w X bx bm blk rc d M n cols others left lv l k w':=by
 obtain⟨m,h1,h2⟩:=h.mark;exact⟨⟨m,g.cells 246 (by decide) _ _ _ h1,h2.keep (λk hk cs t f e=>g.blocks k hk _ e) (g.cells 85 (by decide))⟩,h.pd.keepJ g,h.sides.blocks hX g.blocks,Sl3.keep h.row (g.cells 85 (by decide)),g.cells 79 (by decide) _ _ _ h.box⟩
theorem Jr.start {m:MV}(hm:Md X w bx blk rc d m l)(hp:PD w bx bm d M)(hs:Si w n cols others left.length rc)(hr:Ro w lv left):Jr w X bx bm blk rc d M n cols others left lv l 0 ((w.alloc (.cells n.cells 79)).alloc (.cells m.cells 246)):=by
 have t:Touch [] w ((w.alloc (.cells n.cells 79)).alloc (.cells m.cells 246)):=(tr_.alloc _).alloc _;refine⟨⟨m,?_,by rw[List.drop_zero];exact hm.touch t (λk hk=>by simp at hk) (λk hk=>by simp at hk) (λk hk=>by simp at hk)⟩,hp.away t (by simp),hs.touch t,hr.touch t,(Below.heap_alloc _ _ _ (by simp)).trans (heap_alloc_new w _)⟩;have:=heap_alloc_new (w.alloc (.cells n.cells 79)) (.cells m.cells 246);rw[World.size_alloc]at this;exact this
theorem jr_advance (h:Jr w X bx bm blk rc d M n cols others left lv l k wr)(ok:Di d)(hlt:k<l.length)(ha:Apart (w.heap.size+1) n) :
  Calls prog 151 #[.pointer (some ⟨w.heap.size+1,0,none⟩)] wr λe w'=>e=.returned (.tuple #[])/\Jr w X bx bm blk rc d M n cols others left lv l (k+1) w'/\Touch [w.heap.size+1] wr w'/\∃cs,wr.heap[w.heap.size+1]?=some (.cells cs 246 (0,0)):=by
 obtain⟨m,h1,h2⟩:=h.mark;rcases h2 with⟨e,_⟩|⟨x',t',e,_,_,hp⟩
 ·rw[J_ hlt]at e;cases e
 ·rw[J_ hlt]at e;cases e;refine(aA wr (w.heap.size+1) bx bm blk rc d M m _ h1 hp h.pd ok).mono ?_;rintro e w' ⟨rfl,p1,p2,p3⟩;refine⟨rfl,⟨p1,p2,h.sides.touchF p3 ha,Sl3.keep h.row (p3.tag (nO h1 (by decide))),?_⟩,p3,_,h1⟩;rw[p3.block _ (agi.1 h.box).1 (by simp)];exact h.box
end
def OwnJ (w:World)(R:World->World->Prop)(J:Nat->World->Prop):Prop:=
 ∀A B,Touch [w.heap.size+1] A B->w.heap.size<=A.heap.size->(∀ob,A.heap[w.heap.size+1]?=some ob->∃cs f,ob=.cells cs 246 f)->R A B/\∀k,J k A->J k B
theorem rowTwo {lv rv:Value}(h1:Ro w lv left)(h2:Ro w rv right)(hl1:1<=left.length)(hl2:left.length<=1000)(hr1:1<=right.length)(hr2:right.length<=1000) :
  Calls prog 186 #[.slice (some ⟨w.heap.size,0,none⟩) 2 2] (w.alloc (.cells #[lv,rv] 83)) λe w'=>∃g cap,e=.returned (.slice (some ⟨g,0,none⟩) (left.length+right.length) cap)/\Ro w' (.slice (some ⟨g,0,none⟩) (left.length+right.length) cap) (left++right)/\w.heap.size<=g/\Touch [] w w':=by
 have t:Touch [] w (w.alloc (.cells #[lv,rv] 83)):=tr_.alloc _;obtain⟨c0,c1⟩:=cell2_new w lv rv 83;refine(rowConcat_any _ w.heap.size lv rv left right c0 c1 (h1.touch t) (h2.touch t) hl1 hl2 hr1 hr2).mono ?_;rintro e w' ⟨g,cap,rfl,p1,p2,p3⟩;exact⟨g,cap,rfl,p1,by simp at p2;omega,t.trans p3⟩
theorem joinRow_hits (w:World)(X:List Nat)(bx bm blk rc:Nat)(d:DS)(M:List PF)(n:ND)(m:MV)(lo:Option Addr)(ln lc:Nat)(cols others:List Int)(left:List V)(l:List (List V))(cn:Int)(ly:Nat)(R:World->World->Prop)(J:Nat->World->Prop)
  (hop:n.op≠5) (h:Si w n cols others left.length rc) (hl:Ro w (.slice lo ln lc) left) (hM:Md X w bx blk rc d m l) (hlen:∀x∈l,x.length=rc) (hS:n.Slices) (hP:PD w bx bm d M) (ok:Di d) (hX:InX X n) (hXlt:∀k∈X,k<w.heap.size) (hl1:1<=left.length) (hl2:left.length<=1000) (hrc1:1<=rc) (hrc2:rc<=1000)
  (hRt:∀A B C,R A B->R B C->R A C) (hO:OwnJ w R J) (hJ0:J 0 w) (hRs:∀A B,R A B->A.heap.size<=B.heap.size)
  (hY:∀k v W' (hk:k<(hits cols others left l).length),J k W'->w.heap.size<=W'.heap.size->R w W'->(∃o i c,v=.slice o i c)->Ro W' v (left++(hits cols others left l)[k])->YieldAt Fence.wide 0 prog ly #[v] W' λe W''=>e=.returned (.bool true)/\J (k+1) W''/\KeepJ X W' W''/\R W' W'') :
  Calls prog 153 #[.agg n.cells,.slice lo ln lc,.agg m.cells,.int .i64 cn,.func (.yield ly) #[] #[]] w λe w'=>e=.returned (.bool true)/\J (hits cols others left l).length w'/\R w w'/\PD w' bx bm d M:=by
 have HST:Hid (Jr w X bx bm blk rc d M n cols others left (.slice lo ln lc) l 0 ((w.alloc (.cells n.cells 79)).alloc (.cells m.cells 246))):=Jr.start hM hP h hl;have hAp:Apart (w.heap.size+1) n:=λv hv b off k c e=>by have:=hXlt b (hX v hv b off k c e);omega
 have HJ0:Hid (J 0 ((w.alloc (.cells n.cells 79)).alloc (.cells m.cells 246))/\R w ((w.alloc (.cells n.cells 79)).alloc (.cells m.cells 246))):=by
  obtain⟨a,b⟩:=hO w _ ((((Touch.refl [w.heap.size+1] w).alloc (.cells n.cells 79)).alloc (.cells m.cells 246))) (e_ _) (λob e=>by have:=(agi.1 e).1;omega);exact⟨b 0 hJ0,a⟩
 have HM:Hid (∀(k:Nat) (wr W:World),Jr w X bx bm blk rc d M n cols others left (.slice lo ln lc) l k wr->Touch [] wr W->Calls prog 185 #[.pointer (some ⟨w.heap.size+1,0,none⟩),.agg n.cells,.slice lo ln lc] W λe w'=>e=.returned (.bool (atB cols others left (l.drop k)))/\Touch [] W w'):=λk wr W hI t=>by
  have hI':=hI.quiet t;exact matches_any W (w.heap.size+1) bx blk rc d n lo ln lc cols others left (l.drop k) hI'.sides hI'.row hI'.mark (λx hx=>hlen x (ak_ hx)) hS
 have Hq:Hid ((∀A B C,R A B->R B C->R A C)/\OwnJ w R J/\Di d/\Apart (w.heap.size+1) n/\InX X n/\(∀A B,R A B->A.heap.size<=B.heap.size)/\∀x∈l,x.length=rc):=⟨hRt,hO,ok,hAp,hX,hRs,hlen⟩;have HY:Hid (∀k v W' (hk:k<(hits cols others left l).length),J k W'->w.heap.size<=W'.heap.size->R w W'->(∃o i c,v=.slice o i c)->Ro W' v (left++(hits cols others left l)[k])->YieldAt Fence.wide 0 prog ly #[v] W' λe W''=>e=.returned (.bool true)/\J (k+1) W''/\KeepJ X W' W''/\R W' W''):=hY;clear h hl hM hlen hP ok hX hXlt hRt hO hJ0 hY hAp hRs;obtain⟨op,nl,nr,tb,kv,cnt,cv,ov,sv⟩:=n;obtain⟨⟨k1,k2,k3,rfl⟩,⟨k4,k5,k6,rfl⟩,⟨k7,k8,k9,rfl⟩,⟨k10,k11,k12,rfl⟩⟩:=hS;simp only at hop;have hop2:(op == 5)=false:=by simpa using hop
 generalize hn:(⟨op,nl,nr,tb,.slice k1 k2 k3,cnt,.slice k4 k5 k6,.slice k7 k8 k9,.slice k10 k11 k12⟩:ND)=n at *;have hnc:n.cells=#[.int .i64 op,.int .i64 nl,.int .i64 nr,.string tb,.slice k1 k2 k3,.int .i64 cnt,.slice k4 k5 k6,.slice k7 k8 k9,.slice k10 k11 k12]:=by rw[<-hn];rfl
 have HNC:Hid (n.cells=#[.int .i64 op,.int .i64 nl,.int .i64 nr,.string tb,.slice k1 k2 k3,.int .i64 cnt,.slice k4 k5 k6,.slice k7 k8 k9,.slice k10 k11 k12]):=hnc;rw[hnc]at HST HJ0 HM ⊢;clear hn hnc;obtain⟨mlv,mrp,mk,ms,msp,mrow,mok⟩:=m;unfold MV.cells at *;simp only at HST HJ0;go_enter func153,ntmps153;go_wp2
 go_loopg [] ((hits cols others left l).length) (λg wr=>∃k,k+g=(hits cols others left l).length/\Jr w X bx bm blk rc d M n cols others left (.slice lo ln lc) l k wr/\J k wr/\R w wr)
 case atStart=>exact⟨0,by omega,HST.out,HJ0.out.1,HJ0.out.2⟩
 case round=>
  clear HST HJ0;obtain⟨k,hg,hI,hJk,hRk⟩:=hrel;have HI:Hid (Jr w X bx bm blk rc d M n cols others left (.slice lo ln lc) l k wr/\J k wr/\R w wr/\k+gk=(hits cols others left l).length):=⟨hI,hJk,hRk,hg⟩;have HBX:Hid (∀W,Touch [] wr W->W.heap[w.heap.size]?=some (.cells #[.int .i64 op,.int .i64 nl,.int .i64 nr,.string tb,.slice k1 k2 k3,.int .i64 cnt,.slice k4 k5 k6,.slice k7 k8 k9,.slice k10 k11 k12] 79 (0,0))):=λW hW=>by rw[<-HNC.out];exact(hI.quiet hW).box
  have hMt:=HM.out k wr wr hI tr_;obtain⟨y0,y1,y2,y3,y4,y5,y6,y7,y8⟩:=box9 (n:=⟨op,nl,nr,tb,.slice k1 k2 k3,cnt,.slice k4 k5 k6,.slice k7 k8 k9,.slice k10 k11 k12⟩) (HBX.out wr tr_);by_cases hlt:k<(hits cols others left l).length
  ·obtain⟨x,hx1,hx2,hx3⟩:=hits_lt hlt;rw[hx2]at hMt;obtain⟨m',h1,h2⟩:=hI.mark;rw[hx1]at h2;obtain⟨_,_,e0,_,hrow,_⟩:=h2.resolve_left (λe=>by cases e.1);cases e0;obtain⟨ro,rP,er⟩:=hrow.shape;obtain⟨a0,a1,a2,a3,a4,a5,a6,af⟩:=boxQ h1;rw[er]at a5 hrow;have hxm:x∈l:=ak_ (i:=k) (by rw[hx1];simp);have hxl:=Hq.out.2.2.2.2.2.2 x hxm;have hkl:k<l.length:=by
    rcases ar_ k l.length with h|h
    ·exact h
    ·rw[O_ h]at hx1;cases hx1
   have HA5:Hid (∀W,Touch [] wr W->W.cell? ⟨w.heap.size+1,5,none⟩=some (.slice ro x.length rP)/\Ro W (.slice ro x.length rP) x/\Ro W (.slice lo ln lc) left):=λW hW=>⟨cO a5 hW,hrow.touch hW,hI.row.touch hW⟩;have HX3:Hid ((hits cols others left l)[k]?=some x/\x.length=rc/\k<l.length/\k<(hits cols others left l).length):=⟨hx3,hxl,hkl,hlt⟩;have HMT:Hid (Calls prog 185 #[.pointer (some ⟨w.heap.size+1,0,none⟩),.agg #[.int .i64 op,.int .i64 nl,.int .i64 nr,.string tb,.slice k1 k2 k3,.int .i64 cnt,.slice k4 k5 k6,.slice k7 k8 k9,.slice k10 k11 k12],.slice lo ln lc] wr λe w'=>e=.returned (.bool true)/\Touch [] wr w'):=hMt;clear hI hJk hRk hMt h1 h2 hrow er a0 a1 a2 a3 a4 a6 af hx1 hx2 hx3 hxm hxl hkl hlt hg;refine(wpIn_wide (n:=0)).1 ?_
   gi_wp2
   refine⟨trivial,rfl,(callsIn_wide.2 HMT.out).mono ?_⟩;rintro e w1 ⟨rfl,t1⟩;have HT1:Hid (Touch [] wr w1):=t1;obtain⟨b5,hr5,hl5⟩:=HA5.out w1 t1;have HC:Hid (Calls prog 186 #[.slice (some ⟨w1.heap.size,0,none⟩) 2 2] (w1.alloc (.cells #[.slice lo ln lc,.slice ro x.length rP] 83)) λe w'=>∃g cap,e=.returned (.slice (some ⟨g,0,none⟩) (left.length+x.length) cap)/\Ro w' (.slice (some ⟨g,0,none⟩) (left.length+x.length) cap) (left++x)/\w1.heap.size<=g/\Touch [] w1 w'):=rowTwo hl5 hr5 hl1 hl2 (by have:=HX3.out.2.1;omega) (by have:=HX3.out.2.1;omega);clear t1 hr5 hl5 a5 y0 y1 y2 y3 y4 y5 y6 y7 y8
   gi_wp2
   refine⟨trivial,rfl,(callsIn_wide.2 HC.out).mono ?_⟩;rintro e w2 ⟨g,cap,rfl,hr2,_,t2⟩;have HT2:Hid (Touch [] wr w2):=HT1.out.trans t2;have hO2:=Hq.out.2.1 wr w2 (HT2.out.mono (by simp)) (Hq.out.2.2.2.2.2.1 _ _ HI.out.2.2.1) (λob e=>by obtain⟨m',h1,_⟩:=HI.out.1.mark;unfold MR at h1;rw[h1]at e;cases e;exact⟨_,_,rfl⟩);have hRw2:=Hq.out.1 _ _ _ HI.out.2.2.1 hO2.1;obtain⟨hk1,hk2⟩:=l_.1 HX3.out.1;obtain⟨fn,tmps,assign,body,hy,hR⟩:=HY.out k (.slice (some ⟨g,0,none⟩) (left.length+x.length) cap) w2 hk1 (hO2.2 k HI.out.2.1) (Hq.out.2.2.2.2.2.1 _ _ hRw2) hRw2 ⟨_,_,_,rfl⟩ (by rw[hk2];exact hr2);have HRW:Hid (R w w2):=hRw2;clear hO2 hRw2 hr2 t2 HY HC HMT HA5 b5
   gi_wp2
   refine⟨rfl,hR.mono ?_⟩;rintro e w3 ⟨rfl,hJ3,hK3,hR3⟩;have hI3:=(HI.out.1.quiet HT2.out).given hK3 Hq.out.2.2.2.2.1;have HR3:Hid (R w w3):=Hq.out.1 _ _ _ HRW.out hR3;have HJ3:Hid (J (k+1) w3):=hJ3;have hadv:=jr_advance hI3 Hq.out.2.2.1 HX3.out.2.2.1 Hq.out.2.2.2.1;clear hI3 hK3 hJ3 hR3 hR
   gi_wp2
   refine⟨trivial,rfl,(callsIn_wide.2 hadv).mono ?_⟩;rintro e w4 ⟨rfl,hI4,t4,cs4,h4⟩;have hO4:=Hq.out.2.1 w3 w4 t4 (Hq.out.2.2.2.2.2.1 _ _ HR3.out) (λob e=>by rw[h4]at e;cases e;exact⟨_,_,rfl⟩)
   gi_wp2
   go_roundg (gk-1)
   case measure=>have:=HI.out.2.2.2;have:=HX3.out.2.2.2;omega
   case rel=>exact⟨k+1,by have:=HI.out.2.2.2;have:=HX3.out.2.2.2;omega,hI4,hO4.2 _ HJ3.out,Hq.out.1 _ _ _ HR3.out hO4.1⟩
  ·have hke:k=(hits cols others left l).length:=by omega
   have hat:atB cols others left (l.drop k)=false:=by rw[hke];exact hits_end
   rw[hat]at hMt;have HKE:Hid (k=(hits cols others left l).length):=hke;clear hI hJk hRk hke hat hg hlt
   go_wp2_with (go_at_call 185;refine hMt.mono ?_;rintro e w1 ⟨rfl,t1⟩)
   go_ret;have hO2:=Hq.out.2.1 wr w1 (t1.mono (by simp)) (Hq.out.2.2.2.2.2.1 _ _ HI.out.2.2.1) (λob e=>by obtain⟨m',h1,_⟩:=HI.out.1.mark;unfold MR at h1;rw[h1]at e;cases e;exact⟨_,_,rfl⟩);exact⟨rfl,HKE.out▸hO2.2 k HI.out.2.1,Hq.out.1 _ _ _ HI.out.2.2.1 hO2.1,HI.out.1.pd.away t1 (by simp)⟩
theorem make_nulls (n:Nat)(hn:n<=1000):∃M:Array Value,(∀W:World,(Instr.makeSlice 83 (.int .i64 (n:Int)) (.int .i64 (n:Int))).run prog W=.ok (.slice (some ⟨W.heap.size,0,none⟩) n n) (W.alloc (.cells M 85)))/\∀W:World,Ro (W.alloc (.cells M 85)) (.slice (some ⟨W.heap.size,0,none⟩) n n) (List.replicate n V0):=by
 obtain⟨i0,hi,hz0,hz1,hz2⟩:=info_parts info85;refine⟨madeCells (Value.agg #[.int .i64 0,.int .i64 0,.string ⟨#[]⟩]).cells (((n:Nat):Int).toNat*i0.size),λW=>?_,λW=>?_⟩
 ·have h:=run_make (P:=prog) W 83 85 i0 (.agg #[.int .i64 0,.int .i64 0,.string ⟨#[]⟩]) underlying83 hi hz0 .i64 .i64 (n:Int) (n:Int) (by omega) (by omega) (by rw[hz2];omega) (by omega);simpa using h
 ·refine⟨some ⟨W.heap.size,0,none⟩,n,by simp,by simp,by unfold maxLen;omega,λ_=>⟨W.heap.size,0,_,(0,0),rfl,heap_alloc_new W _,λj hj=>?_⟩⟩;rw[hz1];simp only[u_,ai_]at hj;have e0:(j*3)%3=0:=by omega
  have e1:(j*3+1)%3=1:=by omega
  have e2:(j*3+1+1)%3=2:=by omega
  have l0:j*3<n*3:=by omega
  have l1:j*3+1<n*3:=by omega
  have l2:j*3+1+1<n*3:=by omega
  refine⟨?_,?_,?_⟩
  ·simp[madeCells,l0,Value.cells,e0,V.t,V0]
  ·simp[madeCells,l1,Value.cells,e1,V.t,V0]
  ·simp[madeCells,l2,Value.cells,e2,V.t,V0]
theorem joinRow_null (w:World)(X:List Nat)(bx bm blk rc:Nat)(d:DS)(M:List PF)(n:ND)(m:MV)(lo:Option Addr)(ln lc:Nat)(cols others:List Int)(left:List V)(l:List (List V))(ly:Nat)(R:World->World->Prop)(J:Nat->World->Prop)
  (hop:n.op=5) (hat:atB cols others left l=false) (h:Si w n cols others left.length rc) (hl:Ro w (.slice lo ln lc) left) (hM:Md X w bx blk rc d m l) (hlen:∀x∈l,x.length=rc) (hS:n.Slices) (hP:PD w bx bm d M) (hl1:1<=left.length) (hl2:left.length<=1000) (hrc1:1<=rc) (hrc2:rc<=1000)
  (hRt:∀A B C,R A B->R B C->R A C) (hO:OwnJ w R J) (hJ0:J 0 w)
  (hY:∀v W',J 0 W'->w.heap.size<=W'.heap.size->R w W'->(∃o i c,v=.slice o i c)->Ro W' v (left++List.replicate rc V0)->YieldAt Fence.wide 0 prog ly #[v] W' λe W''=>e=.returned (.bool true)/\J 1 W''/\KeepJ X W' W''/\R W' W'') :
  Calls prog 153 #[.agg n.cells,.slice lo ln lc,.agg m.cells,.int .i64 (rc:Int),.func (.yield ly) #[] #[]] w λe w'=>e=.returned (.bool true)/\J 1 w'/\R w w'/\PD w' bx bm d M:=by
 have hST:Jr w X bx bm blk rc d M n cols others left (.slice lo ln lc) l 0 ((w.alloc (.cells n.cells 79)).alloc (.cells m.cells 246)):=Jr.start hM hP h hl;have HST:Hid (Jr w X bx bm blk rc d M n cols others left (.slice lo ln lc) l 0 ((w.alloc (.cells n.cells 79)).alloc (.cells m.cells 246))):=hST;have HM:Hid (∀W,Touch [] ((w.alloc (.cells n.cells 79)).alloc (.cells m.cells 246)) W->Calls prog 185 #[.pointer (some ⟨w.heap.size+1,0,none⟩),.agg n.cells,.slice lo ln lc] W λe w'=>e=.returned (.bool false)/\Touch [] W w'):=λW t=>by
  have hI':=hST.quiet t;have:=matches_any W (w.heap.size+1) bx blk rc d n lo ln lc cols others left (l.drop 0) hI'.sides hI'.row hI'.mark (λx hx=>hlen x (ak_ hx)) hS;rw[List.drop_zero,hat]at this;exact this
 obtain⟨Z,hmk,hmr⟩:=make_nulls rc hrc2;have HMR:Hid (∀W:World,Ro (W.alloc (.cells Z 85)) (.slice (some ⟨W.heap.size,0,none⟩) rc rc) (List.replicate rc V0)):=hmr;have HW:Hid (∀W,Touch [] ((w.alloc (.cells n.cells 79)).alloc (.cells m.cells 246)) W->R w W/\J 0 W/\Ro W (.slice lo ln lc) left/\PD W bx bm d M/\w.heap.size<=W.heap.size):=λW t=>by
  have t0:Touch [] w W:=((tr_.alloc (.cells n.cells 79)).alloc (.cells m.cells 246)).trans t;obtain⟨a,b⟩:=hO w W (t0.mono (by simp)) (e_ _) (λob e=>by have:=(agi.1 e).1;omega);exact⟨a,b 0 hJ0,hl.touch t0,hP.away t0 (by simp),t0.size⟩
 have Hq:Hid ((∀A B C,R A B->R B C->R A C)):=hRt;have HY:Hid (∀v W',J 0 W'->w.heap.size<=W'.heap.size->R w W'->(∃o i c,v=.slice o i c)->Ro W' v (left++List.replicate rc V0)->YieldAt Fence.wide 0 prog ly #[v] W' λe W''=>e=.returned (.bool true)/\J 1 W''/\KeepJ X W' W''/\R W' W''):=hY;clear h hl hM hlen hP hRt hO hJ0 hY hmr hat hST;obtain⟨op,nl,nr,tb,kv,cnt,cv,ov,sv⟩:=n;obtain⟨⟨k1,k2,k3,rfl⟩,⟨k4,k5,k6,rfl⟩,⟨k7,k8,k9,rfl⟩,⟨k10,k11,k12,rfl⟩⟩:=hS;simp only at hop;subst hop;obtain⟨mlv,mrp,mk,ms,msp,mrow,mok⟩:=m;unfold MV.cells ND.cells at *;simp only at HM HW ⊢;have HBX:Hid (∀W,Touch [] ((w.alloc (.cells #[.int .i64 5,.int .i64 nl,.int .i64 nr,.string tb,.slice k1 k2 k3,.int .i64 cnt,.slice k4 k5 k6,.slice k7 k8 k9,.slice k10 k11 k12] 79)).alloc (.cells #[mlv,mrp,.int .i64 (mk:Int),.string ms,.bool msp,mrow,.bool mok] 246)) W->W.heap[w.heap.size]?=some (.cells #[.int .i64 5,.int .i64 nl,.int .i64 nr,.string tb,.slice k1 k2 k3,.int .i64 cnt,.slice k4 k5 k6,.slice k7 k8 k9,.slice k10 k11 k12] 79 (0,0))):=λW t=>(HST.out.quiet t).box;clear HST;go_enter func153,ntmps153
 go_upto_region 2 with(first|(go_at_call 185;refine(HM.out _ tr_).mono ?_;rintro e w1 ⟨rfl,t1⟩;obtain⟨y0,y1,y2,y3,y4,y5,y6,y7,y8⟩:=box9 (n:=⟨5,nl,nr,tb,.slice k1 k2 k3,cnt,.slice k4 k5 k6,.slice k7 k8 k9,.slice k10 k11 k12⟩) (HBX.out w1 t1)))
 have HT1:Hid (Touch [] ((w.alloc (.cells #[.int .i64 5,.int .i64 nl,.int .i64 nr,.string tb,.slice k1 k2 k3,.int .i64 cnt,.slice k4 k5 k6,.slice k7 k8 k9,.slice k10 k11 k12] 79)).alloc (.cells #[mlv,mrp,.int .i64 (mk:Int),.string ms,.bool msp,mrow,.bool mok] 246)) w1):=t1;clear y0 y1 y2 y3 y4 y5 y6 y7 y8 t1;have HC:Hid (Calls prog 186 #[.slice (some ⟨w1.heap.size+1,0,none⟩) 2 2] ((w1.alloc (.cells Z 85)).alloc (.cells #[.slice lo ln lc,.slice (some ⟨w1.heap.size,0,none⟩) rc rc] 83)) λe w'=>∃g cap,e=.returned (.slice (some ⟨g,0,none⟩) (left.length+rc) cap)/\Ro w' (.slice (some ⟨g,0,none⟩) (left.length+rc) cap) (left++List.replicate rc V0)/\Touch [] w1 w'):=by
  have t2:Touch [] w1 (w1.alloc (.cells Z 85)):=tr_.alloc _;have:=rowTwo (w:=w1.alloc (.cells Z 85)) ((HW.out w1 HT1.out).2.2.1.touch t2) (HMR.out w1) hl1 hl2 (by simpa using hrc1) (by simpa using hrc2);rw[World.size_alloc,ai_]at this;refine this.mono ?_;rintro e w' ⟨g,cap,rfl,p1,_,p2⟩;exact⟨g,cap,rfl,p1,t2.trans p2⟩
 refine(wpIn_wide (n:=0)).1 ?_
 gi_wp2
 refine⟨trivial,rfl,(callsIn_wide.2 HC.out).mono ?_⟩;rintro e w2 ⟨g,cap,rfl,hr2,t2⟩;obtain⟨a1,a2,a3,a4,a5⟩:=HW.out w2 (HT1.out.trans t2);obtain⟨fn,tmps,assign,body,hy,hR⟩:=HY.out (.slice (some ⟨g,0,none⟩) (left.length+rc) cap) w2 a2 a5 a1 ⟨_,_,_,rfl⟩ hr2;have HA:Hid (R w w2/\PD w2 bx bm d M):=⟨a1,a4⟩;clear a1 a2 a3 a4 a5 hr2 t2 HY HC
 gi_wp2
 refine⟨rfl,hR.mono ?_⟩;rintro e w3 ⟨rfl,hJ3,hK3,hR3⟩;have HZ:Hid (J 1 w3/\R w w3/\PD w3 bx bm d M):=⟨hJ3,Hq.out _ _ _ HA.out.1 hR3,HA.out.2.keepJ hK3⟩;clear hJ3 hK3 hR3 hR
 gi_wp2
 go_wp2;go_ret;exact⟨rfl,HZ.out⟩
def ny (row:List V)(c:Int):Bool:=(row.getD c.toNat V0).k == 0
def nI (cols:List Int)(row:List V):Bool:=cols.any (ny row)
theorem isNull_any (w:World)(br:Nat)(c:Int)(v:Value)(row:List V)(hb:w.heap[br]?=some (.cells #[v] 83 (0,0)))(hr:Ro w v row)(h0:0<=c)(h1:c<row.length) :
  Calls prog 179 #[.int .i64 c,.pointer (some ⟨br,0,none⟩)] w λe w'=>e=.returned (.bool (ny row c))/\w'=w:=by
 obtain⟨c,rfl⟩:∃n:Nat,c=(n:Int):=⟨c.toNat,by omega⟩;have hlt:c<row.length:=by omega
 obtain⟨b,off,cap,rfl,hc1,hc2,hx⟩:=hr.cells (by omega);obtain⟨x0,x1,x2⟩:=hx c hlt;have c0:=bg hb;have HE:Hid (ny row (c:Int)=(row[c].k == 0)):=by show ny _ _=_;unfold ny;rw[Int.toNat_natCast,V_,p_ hlt];rfl
 clear hx hb hr;generalize row[c]=y at *;obtain⟨yk,yn,ys⟩:=y;simp only at x0 x1 x2 HE;go_enter func179,ntmps179;go_wp2;go_ret;exact⟨by rw[HE.out];first|rfl|simp[go_sem],rfl⟩
theorem nullIn_drop {cols:List Int}{row:List V}(h:k<cols.length):(cols.drop k).any (ny row)=(ny row cols[k] || (cols.drop (k+1)).any (ny row)):=by
 rw[J_ h];rfl
theorem indexNull_any (w:World)(br:Nat)(cv v:Value)(cols:List Int)(row:List V)(hb:w.heap[br]?=some (.cells #[v] 83 (0,0)))(hr:Ro w v row)(hc:Rt w cv cols)(hin:∀c∈cols,0<=c/\c<row.length)(hfew:cols.length<=1000) :
  Calls prog 210 #[cv,.func (.func 179) #[] #[.pointer (some ⟨br,0,none⟩)]] w λe w'=>∃i:Int,e=.returned (.int .i64 i)/\(decide (0<=i)=nI cols row)/\w'=w:=by
 obtain⟨_,_,co,cc,rfl,hx⟩:=hc;have HX:Hid (1<=cols.length->∃b off,co=some ⟨b,off,none⟩/\∀j (h:j<cols.length),w.cell? ⟨b,off+j,none⟩=some (.int .i64 cols[j])):=hx;have HN:Hid (∀c∈cols,Calls prog 179 #[.int .i64 c,.pointer (some ⟨br,0,none⟩)] w λe w'=>e=.returned (.bool (ny row c))/\w'=w):=λc hc=>isNull_any w br c v row hb hr (hin c hc).1 (hin c hc).2;clear hb hr hin hx;go_enter func210,ntmps210;go_wp2
 go_loopw [8] (λi wr=>∃k:Nat,k<=cols.length/\i=.int .i64 (k:Int)/\nI cols row=(cols.drop k).any (ny row)/\wr=w) (λi _=>cols.length-(intOf i).toNat)
 case atStart=>exact⟨0,by omega,rfl,rfl,rfl⟩
 case round=>
  obtain⟨k,hk,rfl,hE,hw⟩:=hrel;subst hw;have HE:Hid (nI cols row=(cols.drop k).any (ny row)):=hE;clear hE;by_cases hlt:k<cols.length
  ·obtain⟨b,off,rfl,hx⟩:=HX.out (by omega);have c0:=hx k hlt;have hcl:=HN.out cols[k] (m_ hlt);have HD:Hid (nI cols row=(ny row cols[k] || (cols.drop (k+1)).any (ny row))):=by show _=_;rw[HE.out,nullIn_drop hlt]
   clear hx;generalize hcc:cols[k]=c at *;clear hcc;cases hn:ny row c with
   | true=>
    rw[hn]at hcl HD
    go_wp2_with (go_at_call 179;refine hcl.mono ?_;rintro e w1 ⟨rfl,rfl⟩)
    go_ret;exact⟨(k:Int),rfl,by rw[HD.out];simp,rfl⟩
   | false=>
    rw[hn]at hcl HD
    go_wp2_with (go_at_call 179;refine hcl.mono ?_;rintro e w1 ⟨rfl,rfl⟩)
    go_roundw
    case rel=>exact⟨k+1,by omega,by go_num,by rw[HD.out];simp,by first|trivial|rfl⟩
    case measure=>simp[intOf];omega
  ·have hke:k=cols.length:=by omega
   go_wp2;go_ret;exact⟨-1,rfl,by rw[HE.out,hke];simp,rfl⟩
theorem hasNull_any (w:World)(br:Nat)(cv v:Value)(cols:List Int)(row:List V)(hb:w.heap[br]?=some (.cells #[v] 83 (0,0)))(hr:Ro w v row)(hc:Rt w cv cols)(hin:∀c∈cols,0<=c/\c<row.length)(hfew:cols.length<=1000) :
  Calls prog 180 #[cv,.func (.func 179) #[] #[.pointer (some ⟨br,0,none⟩)]] w λe w'=>e=.returned (.bool (nI cols row))/\w'=w:=by
 have H:=indexNull_any w br cv v cols row hb hr hc hin hfew;have HH:Hid (Calls prog 210 #[cv,.func (.func 179) #[] #[.pointer (some ⟨br,0,none⟩)]] w λe w'=>∃i:Int,e=.returned (.int .i64 i)/\(decide (0<=i)=nI cols row)/\w'=w):=H;clear hb hr hc hin H;go_enter func180,ntmps180
 go_wp2_with (go_at_call 210;refine HH.out.mono ?_;rintro e w1 ⟨i,rfl,hi,rfl⟩;have HI:Hid (decide (0<=i)=nI cols row):=hi;clear hi)
 go_ret;exact⟨by rw[<-HI.out];first|rfl|simp[go_sem],rfl⟩
end Go.Proofs.YtjoinhljdbljaaaGreat
namespace Go.Proofs.YtjoinhljdbljaaaGreat
open Go.RowKit Go.Proofs.Tryz
variable {A B W W' w:World} {N N' bc gf l:Nat}
theorem range_box {σ:Type}{g:Operand}{ps:Array Tmp}{assign body:Code}{Q:Exit->Act->World->Prop}{a:Act}{lb:Array Value}(hg:a.eval g=.func (.func gf) #[] lb)(eg:∀args w,(callFunc gf args).run prog w=.ok (.enter gf args) w)(hps:ps.size=1)
  {s0:σ} {fin:σ->World->Prop} {step:σ->Value->World->σ->Prop} {mov:σ->σ->Prop} {Own Keep:σ->World->World->Prop}
  (hseq:∀rec,SQ gf lb s0 fin step mov Own Keep ((w.alloc (.deferred (some []))).alloc (.loop rec)))
  (hOwn:∀s A B k ob,Own s A B->A.heap[k]?=some ob->((∃r,ob=.loop r)\/∃ds,ob=.deferred ds)->k<=w.heap.size+1->B.heap[k]?=some ob)
  (hKt:∀s A B C,Keep s A B->Keep s B C->Keep s A C) (hKb:∀s W r r',W.heap[w.heap.size+1]?=some (.loop r)->Keep s W (W.putObj (w.heap.size+1) (.loop r')))
  (I:σ->World->Prop) (hI:∀s A B,I s A->Own s A B->I s B) (hIm:∀s s' A,I s A->mov s s'->I s' A) (hIp:∀s W r r',I s W->W.heap[w.heap.size+1]?=some (.loop r)->I s (W.putObj (w.heap.size+1) (.loop r')))
  (hSp:∀s v s' W r r',step s v W s'->W.heap[w.heap.size+1]?=some (.loop r)->step s v (W.putObj (w.heap.size+1) (.loop r')) s')
  (h0:∀rec,I s0 ((w.alloc (.deferred (some []))).alloc (.loop rec))) (w₁:Value->World->World) (a₁:Value->World->Act) (B:Value->World->World->Prop)
  (hw1:∀(v:Value) (W:World) (k:Nat) (ob:Obj),W.heap[k]?=some ob->((∃r,ob=.loop r)\/∃ds,ob=.deferred ds)->(w₁ v W).heap[k]?=some ob)
  (hw2:∀s v s' W,I s W->step s v W s'->I s (w₁ v W)/\Keep s W (w₁ v W)/\step s v (w₁ v W) s'/\B v W (w₁ v W))
  (hBp:∀v W W1 r r',B v W W1->W1.heap[w.heap.size+1]?=some (.loop r)->B v W (W1.putObj (w.heap.size+1) (.loop r')))
  (hassign:∀(s:σ) (v:Value) (s':σ) (W:World) (K:Act->World->Prop),step s v W s'->K (a₁ v W) (w₁ v W)->assign.wpIn (Fence.wide.inRound (w.heap.size+1)) 0 prog (Exit.then K (λ_ _ _=>False)) { tmps:=(ps.zip #[v]).foldl (λt (p,v)=>t.setIfInBounds p v) a.tmps,defers:=[] } W)
  (hbody:∀(s:σ) (v:Value) (s':σ) (W0 W:World),I s W->step s v W s'->B v W0 W->body.wpIn (Fence.wide.inRound (w.heap.size+1)) 0 prog (roundEnd λW'=>(∀k ob,W.heap[k]?=some ob->((∃r,ob=.loop r)\/∃ds,ob=.deferred ds)->(k=w.heap.size\/k=w.heap.size+1)->W'.heap[k]?=some ob)/\Keep s W W'/\I s' W') (a₁ v W0) W)
  (hdone:∀(s:σ) (W:World) (r r':Loop),fin s W->I s W->W.heap[w.heap.size+1]?=some (.loop r)->W.heap[w.heap.size]?=some (.deferred (some []))->Q .normal { a with defers:={ target:=.collected w.heap.size,args:=#[] }::a.defers } (W.putObj (w.heap.size+1) (.loop r'))) :
  (Code.rangeFunc g ps assign body).wp prog Q a w:=by
 refine(wpIn_wide (n:=0)).1 (wpIn_rangeFunc ?_);intro fn _;obtain⟨rec,hrec⟩:∃rec:LoopState->Option Code->Loop,rec=λst pe=>{ state:=st,pending:=pe,fn,tmps:=a.tmps,params:=ps,assign,body,defers:=w.heap.size }:=⟨_,rfl⟩;have hL1:((w.alloc (.deferred (some []))).alloc (.loop (rec .ready none))).heap[w.heap.size+1]?=some (.loop (rec .ready none)):=by
  have:=World.alloc_heap_new (w.alloc (.deferred (some []))) (.loop (rec .ready none));rwa[World.size_alloc]at this
 have hK1:((w.alloc (.deferred (some []))).alloc (.loop (rec .ready none))).heap[w.heap.size]?=some (.deferred (some [])):=(Below.heap_alloc _ _ _ (by simp)).trans (World.alloc_heap_new w _);refine⟨w.heap.size+1,[{ target:=.collected w.heap.size,args:=#[] }],(w.alloc (.deferred (some []))).alloc (.loop (rec .ready none)),{ target:=.fn (.func gf) lb,args:=#[.func (.yield (w.heap.size+1)) #[] #[]] },(w.alloc (.deferred (some []))).alloc (.loop (rec .ready none)),gf,#[.func (.yield (w.heap.size+1)) #[] #[]]++lb,(w.alloc (.deferred (some []))).alloc (.loop (rec .ready none)),?_,?_,λ_ _=>trivial,?_,by simp[Fence.wide],?_⟩
 ·rw[hrec];exact run_enterLoop_outer _ _ _ _ _
 ·simp only[resolve,hg];simp[go_sem]
 ·simp[invoke,go_sem,eg]
 ·refine callsIn_wide.2 ((hseq (rec .ready none) (w.heap.size+1) (λs W=>I s W/\W.heap[w.heap.size+1]?=some (.loop (rec .ready none))/\W.heap[w.heap.size]?=some (.deferred (some []))) ?_ ?_ ?_ ⟨h0 _,hL1,hK1⟩).mono ?_)
  ·rintro s A B ⟨h1,h2,h3⟩ ho;exact⟨hI s A B h1 ho,hOwn s A B _ _ ho h2 (.inl ⟨_,rfl⟩) (e_ _),hOwn s A B _ _ ho h3 (.inr ⟨_,rfl⟩) (by omega)⟩
  ·rintro s s' A ⟨h1,h2,h3⟩ hm;exact⟨hIm s s' A h1 hm,h2,h3⟩
  ·rintro s v s' W ⟨hi,hl,hk⟩ hst;have hlt:w.heap.size+1<W.heap.size:=(agi.1 hl).1;have hy:=run_yield (P:=prog) (args:=#[v]) hl (by rw[hrec];simp[hps]);rw[hrec]at hy;obtain⟨hi1,hkp1,hst1,hB1⟩:=hw2 s v s' W hi hst;have hl1:=hw1 v W _ _ hl (.inl ⟨_,rfl⟩);have hk1:=hw1 v W _ _ hk (.inr ⟨_,rfl⟩);have hlt1:w.heap.size+1<(w₁ v W).heap.size:=(agi.1 hl1).1;refine⟨fn,_,assign,body,hy,roundIn_of_wpIn trivial (hassign s v s' W _ hst ⟨_,run_beginRound hl1 (by rw[hrec]),?_⟩)⟩;have hl2:((w₁ v W).putObj (w.heap.size+1) (.loop { rec .ready none with state:=.busy })).heap[w.heap.size+1]?=some (.loop { rec .ready none with state:=.busy }):=World.putObj_heap_same hlt1;have hk2:((w₁ v W).putObj (w.heap.size+1) (.loop { rec .ready none with state:=.busy })).heap[w.heap.size]?=some (.deferred (some [])):=(World.putObj_heap_other (by omega)).trans hk1;refine wpIn_mono (hbody s v s' W _ (hIp s _ _ _ hi1 hl1) (hSp _ _ _ _ _ _ hst1 hl1) (hBp _ _ _ _ _ hB1 hl1)) ?_;rintro e a3 W3 hp;cases e with
   | normal=>
    obtain⟨hk3,hkp3,hi3⟩:=hp;have hl3:=hk3 _ _ hl2 (.inl ⟨_,rfl⟩) (.inr rfl);have hd3:=hk3 _ _ hk2 (.inr ⟨_,rfl⟩) (.inl rfl);have hr:=run_endRound (P:=prog) none hl3;refine⟨_,_,hr,rfl,⟨hIp _ _ _ _ hi3 hl3,?_,(World.putObj_heap_other (by omega)).trans hd3⟩,hKt _ _ _ _ (hKt _ _ _ _ (hKt _ _ _ _ hkp1 (hKb _ _ _ _ hl1)) hkp3) (hKb _ _ _ _ hl3)⟩;rw[World.putObj_heap_same (agi.1 hl3).1,hrec];rfl
   | ret=>exact hp.elim
   | exit id=>exact hp.elim
   | goto t=>exact hp.elim
   | panic ch=>exact hp.elim
   | outgrown=>exact hp.elim
  ·rintro e W2 ⟨⟨v,rfl⟩,s,hf,hi,hl,hk⟩;refine⟨none,_,by have:=run_endLoop (P:=prog) hl (by rw[hrec];simp);rw[hrec]at this;exact this,hdone s _ _ _ hf hi hl hk⟩
variable [Inhabited Ground]
attribute [local go_sem] Oper.semAt_some
structure QN (N:Nat)(A B:World):Prop where
 os:B.os=A.os
 tape:B.tape=A.tape
 output:B.output=A.output
 size:A.heap.size<=B.heap.size
 keep:∀(k:Nat) (ob:Obj),A.heap[k]?=some ob->(Odd ob->k<N)->B.heap[k]?=some ob
theorem Touch.qN (h:Touch [] A B)(N:Nat):QN N A B:=⟨h.os,h.tape,h.output,h.size,λk ob e _=>by rw[h.block k (agi.1 e).1 (by simp)];exact e⟩
theorem QN.putObj {N:Nat}{W:World}{l:Nat}{ob ob':Obj}(h:W.heap[l]?=some ob)(ho:Odd ob)(hl:N<=l):QN N W (W.putObj l ob'):=
 ⟨rfl,rfl,rfl,by simp,λk o2 e hk=>by
  by_cases e2:k=l
  ·subst e2;rw[h]at e;cases e;have:=hk ho;omega
  ·rw[World.putObj_heap_other e2];exact e⟩
theorem QN.tag (h:QN N A B)(t:TypeId):KT t A B:=λk _ _ e=>h.keep k _ e (λho=>absurd rfl (ho.1 _ _ _))
structure KeepN (N:Nat)(X:List Nat)(W W':World):Prop where
 size:W.heap.size<=W'.heap.size
 cells:∀t∈([83,85,206,37]:List TypeId),KT t W W'
 others:∀(k:Nat) (ob:Obj),N<=k->W.heap[k]?=some ob->Odd ob->W'.heap[k]?=some ob
 blocks:∀k∈X,∀ob,W.heap[k]?=some ob->W'.heap[k]?=some ob
def boxedW (v:Value)(W:World):World:=W.alloc (.cells #[v] 83)
theorem bM (v:Value)(W:World):Touch [] W (boxedW v W):=tr_.alloc _
theorem boxedW_at (v:Value)(W:World):(boxedW v W).heap[W.heap.size]?=some (.cells #[v] 83 (0,0)):=heap_alloc_new W _
structure NnB (N:Nat)(X:List Nat)(l bc:Nat)(cv:Value)(vs:List Value)(rows:List (List V))(cols:List Int)(W:World):Prop where
 y:W.heap[N]?=some (.cells #[.func (.yield l) #[] #[]] 206 (0,0))
 c:W.heap[bc]?=some (.cells #[cv] 37 (0,0))
 raw:Rt W cv cols
 rW:∀i (_:i<vs.length) (_:i<rows.length),Ro W vs[i] rows[i]
theorem NnB.quiet {X:List Nat}{cv:Value}{vs:List Value}{rows:List (List V)}{cols:List Int}(h:NnB N X l bc cv vs rows cols W)(q:QN N' W W'):NnB N X l bc cv vs rows cols W':=by
 refine⟨q.tag _ _ _ _ h.y,q.tag _ _ _ _ h.c,?_,λi a b=>Sl3.keep (h.rW i a b) (q.tag 85)⟩;obtain⟨h1,h2,ao,cap,e,hx⟩:=h.raw;refine⟨h1,h2,ao,cap,e,λhl=>?_⟩;obtain⟨b,off,e2,hx⟩:=hx hl;refine⟨b,off,e2,λj hj=>?_⟩;have h3:=hx j hj;have hlt:=lt_of_cell h3;simp only at hlt;cases hob:W.heap[b]? with
 | none=>rw[Array.getElem?_eq_none_iff]at hob;omega
 | some ob=>
  cases ob with
  | cells cs t f=>simp only[World.cell?,hob]at h3 ⊢;rw[q.tag _ _ _ _ hob];exact h3
  | _=>simp[World.cell?,hob]at h3
theorem NnB.keep {N:Nat}{X:List Nat}{l bc:Nat}{cv:Value}{vs:List Value}{rows:List (List V)}{cols:List Int}{W W':World}(h:NnB N X l bc cv vs rows cols W)(hX:∀b off n c,cv=.slice (some ⟨b,off,none⟩) n c->b∈X){N2:Nat}(k:KeepN N2 X W W'):NnB N X l bc cv vs rows cols W':=
 ⟨k.cells 206 (by decide) _ _ _ h.y,k.cells 37 (by decide) _ _ _ h.c,h.raw.blocks hX k.blocks,λi a b=>Sl3.keep (h.rW i a b) (k.cells 85 (by decide))⟩
theorem nn_seq (W0:World)(X:List Nat)(br bc b:Nat)(sv cv:Value)(vs:List Value)(rows:List (List V))(cols:List Int)(rc N:Nat)
  (hr:W0.heap[br]?=some (.cells #[.func (.func 162) #[] #[.pointer (some ⟨b,0,none⟩)]] 165 (0,0))) (hc:W0.heap[bc]?=some (.cells #[cv] 37 (0,0))) (hb:W0.heap[b]?=some (.cells #[sv] 36 (0,0))) (hL:LAt W0 sv vs) (hsm:vs.length<=1000000000) (hlen:vs.length=rows.length) (hrows:∀i (_:i<vs.length) (_:i<rows.length),Ro W0 vs[i] rows[i]) (hraw:Rt W0 cv cols) (hin:∀c∈cols,0<=c/\c<(rc:Int)) (hrl:∀r∈rows,r.length=rc) (hfew:cols.length<=1000) (hX:∀b off n c,cv=.slice (some ⟨b,off,none⟩) n c->b∈X) (hN:N<=W0.heap.size) :
  SQ 178 #[.pointer (some ⟨br,0,none⟩),.pointer (some ⟨bc,0,none⟩)] (0:Nat) (λs _=>s=vs.length) (λi v W i'=>vs[i]?=some v/\i'=i+1/\∃h:i<rows.length,Ro W v rows[i]/\nI cols rows[i]=false) (λi i'=>i'=i+1/\∃h:i<rows.length,nI cols rows[i]=true) (λ_ A B=>QN N A B) (λ_ W W'=>KeepN N X W W') W0:=by
 intro l J hJ hM hY h0;have c0:=bg hr;have n1:=(agi.1 hr).1;have n2:=(agi.1 hc).1;have tA:Touch [] W0 (W0.alloc (.cells #[.func (.yield l) #[] #[]] 206)):=tr_.alloc _;have hB0:NnB W0.heap.size X l bc cv vs rows cols (W0.alloc (.cells #[.func (.yield l) #[] #[]] 206)):=⟨heap_alloc_new W0 _,tA.tu _ _ _ _ hc,hraw.touch tA,λi a b=>(hrows i a b).touch tA⟩;have hb1:=tA.tu _ _ _ _ hb;have hL1:=hL.keep (tA.tu 83);have hJ1:=hJ _ _ _ h0 (tA.qN N);have hws:(W0.alloc (.cells #[.func (.yield l) #[] #[]] 206)).heap.size=W0.heap.size+1:=by simp
 refine callsIn_wide.1 (callsIn_of_wp_marks (n:=0) func178 rfl trivial (wpIn_wide.2 ?_));simp only[ntmps178,List.size_toArray,List.length_cons,List.length_nil,Nat.reduceAdd,Nat.reduceSub,P_,Array.replicate_zero,List.push_toArray,List.append_toArray,List.nil_append,List.cons_append];go_wp2;have HRL:Hid (∀r∈rows,r.length=rc):=hrl;clear c0 hr hc hb hL hraw hrows h0 tA n1 n2 hrl;generalize W0.alloc (.cells #[.func (.yield l) #[] #[]] 206)=wa at *;have tW:∀rec:Loop,Touch [] wa ((wa.alloc (.deferred (some []))).alloc (.loop rec)):=λrec=>(tr_.alloc _).alloc _;refine range_box (w:=wa) (gf:=162) (lb:=#[.pointer (some ⟨b,0,none⟩)]) rfl (enters_of func162 (by kernel_rfl) rfl) rfl
  (λrec=>vS _ b sv vs ((tW rec).tu _ _ _ _ hb1) (hL1.keep ((tW rec).tu 83)) hsm)
  (by rintro s A B k ob rfl e _ _;exact e) (λ_ _ _ _ h1 h2=>h1.trans h2) (λ_ W r r' e=>(Guard.putObj (T:=[83]) (B:=wa.heap.size+2) e (by omega)).cells 83 (by decide))
  (λs W=>J s W/\NnB W0.heap.size X l bc cv vs rows cols W/\wa.heap.size<=W.heap.size)
  (by rintro s A B h rfl;exact h) (λ_ _ _ _ h=>h.elim) ?hIp (by rintro i v i' W r r' hs _;exact hs) ?h0 boxedW
  (λv W=>{ tmps:=#[.func (.yield l) #[] #[],.pointer (some ⟨br,0,none⟩),.pointer (some ⟨bc,0,none⟩),.pointer (some ⟨W0.heap.size,0,none⟩),.pointer (some ⟨W.heap.size,0,none⟩),undef,.func (.func 162) #[] #[.pointer (some ⟨b,0,none⟩)],v,undef,undef,undef,undef,undef,undef,undef,undef,undef,undef,undef],defers:=[] })
  (λv W W2=>W2.heap[W.heap.size]?=some (.cells #[v] 83 (0,0))) ?hw1 ?hw2 ?hBp ?assign ?body ?done
 case hIp=>
  rintro s W r r' ⟨h1,h2,h3⟩ hl;have hq:=QN.putObj (N:=N) (ob':=.loop r') hl (oL r) (by omega);exact⟨hJ _ _ _ h1 hq,h2.quiet hq,by simpa using h3⟩
 case h0=>
  intro rec;exact⟨hJ _ _ _ hJ1 ((tW rec).qN N),hB0.quiet ((tW rec).qN N),(tW rec).size⟩
 case hw1=>
  intro v W k ob e _;exact(bM v W).qN (k+1) |>.keep k ob e (λ_=>by omega)
 case hw2=>
  rintro s v s' W ⟨h1,h2,h3⟩ hst;have t:=bM v W;exact⟨⟨hJ _ _ _ h1 (t.qN N),h2.quiet (t.qN N),k_ h3 t.size⟩,t.tu 83,hst,boxedW_at v W⟩
 case hBp=>
  intro v W W1 r r' h hl;exact(QN.putObj (N:=0) (ob':=.loop r') hl (oL r) (x_ _)).tag 83 _ _ _ h
 case assign=>
  rintro i v i' W K ⟨hv,rfl⟩ hK;obtain⟨hiv,hve⟩:=l_.1 hv;obtain⟨vo,vc,ev⟩:=(hB0.rW i hiv (by omega)).shape;rw[hve]at ev;subst ev;unfold boxedW at hK
  gi_wp2
  exact hK
 case body=>
  rintro i v i' Wp W ⟨hJi,hB,hWs⟩ ⟨hv,rfl⟩ hbox;obtain⟨hiv,hve⟩:=l_.1 hv;have hir:i<rows.length:=by omega
  have hrow:=hB.rW i hiv hir;rw[hve]at hrow;have hlr:=HRL.out rows[i] (m_ _);have hnl:=hasNull_any W Wp.heap.size cv v cols rows[i] hbox hrow hB.raw (λc hc=>by rw[hlr];exact hin c hc) hfew;obtain⟨co,cn,cc,ecv⟩:∃o n c,cv=.slice o n c:=by obtain⟨_,_,ao,cap,e,_⟩:=hB.raw;exact⟨_,_,_,e⟩
  obtain⟨vo,vc,ev⟩:=hrow.shape;have d0:=bg hB.c;have d1:=bg hB.y;have d2:=bg hbox;subst ecv;subst ev;have HW:Hid (NnB W0.heap.size X l bc (.slice co cn cc) vs rows cols W/\wa.heap.size<=W.heap.size/\J i W):=⟨hB,hWs,hJi⟩;cases hnn:nI cols rows[i]with
  | true=>
   rw[hnn]at hnl;have hJ2:=hM i (i+1) W hJi ⟨rfl,hir,hnn⟩;clear hB hJi hrow hbox hlr
   gi_wp2
   refine⟨trivial,rfl,(CallsIn.inRound _ (callsIn_wide.2 hnl)).mono ?_⟩;rintro e w1 ⟨rfl,rfl⟩
   gi_wp2
   refine⟨λ_ h=>(by cases h),?_⟩
   gi_wp2
   exact⟨λk ob e _ _=>e,KT.refl _ _,hJ2,HW.out.1,HW.out.2.1⟩
  | false=>
   rw[hnn]at hnl;obtain⟨fn,tmps,assign,body,hy,hR⟩:=hY i (.slice vo rows[i].length vc) (i+1) W hJi ⟨hv,rfl,hir,hrow,hnn⟩;clear hB hJi hrow hbox hlr
   gi_wp2
   refine⟨trivial,rfl,(CallsIn.inRound _ (callsIn_wide.2 hnl)).mono ?_⟩;rintro e w1 ⟨rfl,rfl⟩
   gi_wp2
   refine⟨rfl,hR.mono ?_⟩;rintro e W5 ⟨rfl,hJ5,hK5⟩
   gi_wp2
   exact⟨λk ob e ho hk=>hK5.others k ob (by omega) e (by rcases ho with⟨r,rfl⟩|⟨ds,rfl⟩;exact oL r;exact oD ds),hK5.cells 83 (by decide),hJ5,HW.out.1.keep hX hK5,k_ HW.out.2.1 hK5.size⟩
 case done=>
  rintro s W r r' hf ⟨hJ2,hB2,hWs⟩ hl hk;have hk1:(W.putObj (wa.heap.size+1) (.loop r')).heap[wa.heap.size]?=some (.deferred (some [])):=(World.putObj_heap_other (by omega)).trans hk;have hJ3:=hJ _ _ _ hJ2 (QN.putObj (N:=N) (ob':=.loop r') hl (oL r) (by omega));generalize W.putObj (wa.heap.size+1) (.loop r')=W2 at *;have hJ4:=hJ _ _ _ hJ3 (QN.putObj (N:=N) (ob':=.deferred none) hk1 (oD _) (by omega));have HF:Hid (s=vs.length):=hf;clear hJ2 hB2 hl hk hf hB0 hb1 hL1 hJ1 tW;go_wp2;refine⟨by simp,.inl ⟨_,_,rfl,run_takeDeferred hk1,?_⟩⟩;exact⟨_,results_none rfl _ _ _,⟨_,rfl⟩,s,HF.out,hJ4⟩
end Go.Proofs.YtjoinhljdbljaaaGreat
namespace Go.Proofs.YtjoinhljdbljaaaGreat
open Go.RowKit Go.Proofs.Tryz
variable [Inhabited Ground]
variable {D Fm:List Nat} {N blk bm bx cap cols count g j lo m ps tot:Nat} {W W' w w1 w2 w3 wr:World} {ks:List K} {lv:Value} {rows:List Rec}
theorem wpList_row {ops:Array Oper}{rest:List Oper}{o:Oper}{a:Act}{Q:Exit->Act->World->Prop}(hgd:o.guard=none)(s x:Operand)
  (ho:o.op=.call { callee:=.builtin .append,args:=#[s,x],argTypes:=#[36,36] }) (v:Value) (vs:List Value) (hs:a.eval s=v) (hown:LW w v vs)
  (ad:Addr) (y:Value) (c:Nat) (hx:a.eval x=.slice (some ad) 1 c) (hnews:w.cell? ad=some y) (hy:y.oneCell'=true) (hlen:vs.length<=1000000000)
  (h:∀g cap w',LW w' (.slice (some ⟨g,0,none⟩) (vs.length+1) cap) (vs++[y])->w.grownBy w' v.ownBlock->(v.ownBlock=some g\/g=w.heap.size)->wpList prog ops Q rest (a.put o.dst (.slice (some ⟨g,0,none⟩) (vs.length+1) cap)) w'):wpList prog ops Q (o::rest) a w:=by
 refine wpList_plain hgd λK hK=>?_;have hw:Region.wanted o (yielded ops a.tmps)=true:=by simp[Region.wanted,hgd]
 have:=step_lst (E:=True) (ops:=ops) (K:=K) (Q:=Q) hgd s x ho v vs hs hown ad y c hx hnews hy hlen (λg cap w' h1 h2 h3 _=>hK _ _ (h g cap w' h1 h2 h3));rw[if_pos hw]at this;exact this
theorem Sj.tot_le [Inhabited Range]{out:List Rec}(h:Sj w ps bx bm blk cols count m j ks rows out Fm tot):tot<=rows.length:=by
 obtain⟨s,d,M,_,_,_,_,hc⟩:=h.st;rcases hc with⟨_,_,_,_,ht,_⟩|⟨_,all,hcut,ht,_⟩
 ·omega
 ·have:=hcut.len;omega
structure SA [Inhabited Range](d:DS)(M:List PF)(bs:Nat)(w:World)(ps bx bm blk cols count m j:Nat)(ks:List K)(rows out:List Rec)(Fm:List Nat)(tot:Nat):Prop where
 lim:out.length<=tot
 st:∃s hv L,s.bx=bx/\s.blk=blk/\s.count=count/\Left d m j/\ps::h_ s.ph hv=Fm/\tot=min count rows.length/\OA w ps bs s hv ks L bm cols d M rows out
def SEndM (d:DS)(M:List PF)(w:World)(ps bx bm blk cols:Nat):Prop:=∃s,s.bx=bx/\s.blk=blk/\Sr w ps s/\RS w bx bm blk cols d M [] none/\∃ao cap,s.rv=.slice ao 0 cap
variable {d:DS} {M:List PF} {bs:Nat}
theorem SA.out [Inhabited Range]{w:World}{ps bx bm blk cols count m j:Nat}{ks:List K}{rows out:List Rec}{Fm:List Nat}{tot:Nat}(h:SA d M bs w ps bx bm blk cols count m j ks rows out Fm tot):Sj w ps bx bm blk cols count m j ks rows out Fm tot:=by
 obtain⟨s,hv,L,e1,e2,e3,hl,e4,e5,hA⟩:=h.st;exact⟨h.lim,s,d,M,e1,e2,e3,hl,.inl ⟨bs,hv,L,e4,e5,hA⟩⟩
theorem SA.guard [Inhabited Range]{T:List TypeId}{X:List Nat}{B:Nat}{W W':World}{ps bx bm blk cols count m j:Nat}{ks:List K}{rows out:List Rec}{Fm:List Nat}{tot:Nat}(h:SA d M bs W ps bx bm blk cols count m j ks rows out Fm tot)(g:KG T X B Fm W W'):SA d M bs W' ps bx bm blk cols count m j ks rows out Fm tot:=by
 obtain⟨s,hv,L,e1,e2,e3,hl,rfl,e5,hA⟩:=h.st;exact⟨h.lim,s,hv,L,e1,e2,e3,hl,rfl,e5,hA.guard g⟩
theorem SA.row [Inhabited Range](w:World)(ps bx bm blk cols count m j:Nat)(ks:List K)(rows out:List Rec)(Fm:List Nat)(tot:Nat)(h:SA d M bs w ps bx bm blk cols count m j ks rows out Fm tot)(hlt:out.length<tot)(hsm:rows.length<=900000) :
  Calls prog 137 #[.pointer (some ⟨ps,0,none⟩)] w λe w'=>∃(x:Rec) (ao:Option Addr) (al aC:Nat),e=.returned (.tuple #[.slice ao al aC,.bool true])/\Ro w' (.slice ao al aC) x.row/\SA d M bs w' ps bx bm blk cols count m j ks rows (out++[x]) Fm tot/\OM bm Fm w w':=by
 obtain⟨s,hv,L,rfl,rfl,rfl,hl,hFm,ht,hA⟩:=h.st;have h1:=hA.len;have h2:=hA.given;refine(nextA_row w ps bs s hv ks L bm cols d M rows out hA (λe=>by subst e;simp at h1;omega) hsm (by omega)).mono ?_;rintro e w' ⟨x,ao,al,aC,rfl,p1,⟨s',hv',L',e1,e2,e3,e4,p2⟩,p3⟩;exact⟨x,ao,al,aC,rfl,p1,⟨by rw[c_,List.length_singleton];omega,s',hv',L',e1,e2,e3,hl,e4.trans hFm,ht,p2⟩,hFm▸p3⟩
theorem OA.rv {w:World}[Inhabited Range]{ps bs:Nat}{s:SC}{hv:Value}{ks:List K}{L:List EV}{bm cols:Nat}{rows out:List Rec}(h:OA w ps bs s hv ks L bm cols d M rows out):∃ao cap,s.rv=.slice ao 0 cap:=by
 rcases h.sb.own.shape with⟨e,_⟩|⟨g,cap,cur,e,_⟩
 ·exact⟨_,_,e⟩
 ·exact⟨_,_,e⟩
theorem nextA_last [Inhabited Range](w:World)(ps:Nat)(s:SC)(hv:Value)(ks:List K)(bm cols:Nat)(rows out:List Rec)(h:OA w ps bs s hv ks [] bm cols d M rows out)(hsm:rows.length<=900000)(hne:s.given≠s.count) :
  Calls prog 137 #[.pointer (some ⟨ps,0,none⟩)] w λe w'=>e=.returned (.tuple #[.slice none 0 0,.bool false])/\SEndM d M w' ps s.bx bm s.blk cols/\OM bm [ps] w w':=by
 have hend:SEndM d M (gW w ps s.given) ps s.bx bm s.blk cols:=⟨{ s with given:=s.given+1 },rfl,rfl,h.gave.sorter,h.gave.runs,h.rv⟩;have hown:=gave_own h.sb.sorter s.given (h.hi ps (by simp)) (h.own ps (by simp));have hlen:=len_any _ s.ph hv bs ps ks [] h.gave.heap;obtain⟨c0,c1,c2,c3,c4,c5,c6,c7,c8,c9,c10,c11,c12,c13,c14,c15,cf⟩:=h.sb.sorter.cell;rw[h.mg]at c14;have hgv:s.given<=900000:=by
  have e1:=h.given;have e2:=h.len;omega
 have f15:=cf 15;have hne2:¬(s.given:Int)=(s.count:Int):=by omega
 unfold gW at hend hlen hown;clear h cf;go_enter func137,ntmps137;go_wp2
 go_region
 all_goals go_wp2_with (go_at_call 173;refine hlen.mono ?_;rintro e w1 ⟨rfl,rfl⟩)
 exact bodyPost_ret (v:=.tuple #[.slice none 0 0,.bool false]) (by simp[results,results137,go_sem]) rfl ⟨rfl,hend,hown⟩
theorem SA.done [Inhabited Range](w:World)(ps bx bm blk cols count m j:Nat)(ks:List K)(rows out:List Rec)(Fm:List Nat)(tot:Nat)(h:SA d M bs w ps bx bm blk cols count m j ks rows out Fm tot)(he:tot<=out.length)(hsm:rows.length<=900000) :
  Calls prog 137 #[.pointer (some ⟨ps,0,none⟩)] w λe w'=>e=.returned (.tuple #[.slice none 0 0,.bool false])/\SEndM d M w' ps bx bm blk cols/\OM bm Fm w w':=by
 have hlim:=h.lim;obtain⟨s,hv,L,rfl,rfl,rfl,hl,hFm,ht,hA⟩:=h.st;have h1:=hA.len;have h2:=hA.given;by_cases hne:s.given=s.count
 ·refine(nX w ps s hA.sb.sorter hne).mono ?_;rintro e w' ⟨rfl,t⟩;exact⟨rfl,⟨s,rfl,rfl,hA.sb.sorter.u t.u (by simp),hA.sb.runs.quiet t (by simp) (λk hk=>by simp at hk),hA.rv⟩,t.ownM⟩
 ·have hL:L=[]:=D_.1 (by omega);subst hL;refine(nextA_last w ps s hv ks bm cols rows out hA hsm hne).mono ?_;rintro e w' ⟨rfl,p1,p2⟩;exact⟨rfl,p1,p2.mono (λk hk=>by rw[ms_ hk,<-hFm];simp)⟩
def OO (lo N:Nat)(D:List Nat)(W W':World):Prop:=OG [83] lo N D [] W W'/\∀(k:Nat) (ob:Obj),W.heap[k]?=some ob->Odd ob->W'.heap[k]?=some ob
theorem OO.trans {lo N:Nat}{D:List Nat}{X Y Z:World}(h:OO lo N D X Y)(k:OO lo N D Y Z):OO lo N D X Z:=⟨h.1.trans k.1,λi ob e ho=>k.2 i ob (h.2 i ob e ho) ho⟩
theorem Touch.o (h:Touch [] W W')(lo N:Nat)(D:List Nat):OO lo N D W W':=⟨h.g _ _ _ _ _,λk _ e _=>(h.block k (agi.1 e).1 (by simp)).trans e⟩
theorem OwnA.o (h:OwnA lo N D W W'):OO lo N D W W':=⟨h.g [83],λ_ _ e ho=>h.step.other e ho.1 ho.2⟩
structure Rk (d:DS)(M:List PF)(bs:Nat)(w:World)(N:Nat)(D:List Nat)(ps bx bm blk cols count m j:Nat)(ks:List K)(rows:List Rec)(Fm:List Nat)(tot:Nat)(out:List Rec)(lv:Value)(wr:World):Prop where
 so:@SA _ ⟨⟨N,D⟩⟩ d M bs wr ps bx bm blk cols count m j ks rows out Fm tot
 list:∃vs,LW wr lv vs/\vs.length=out.length/\∀i (_:i<vs.length) (_:i<out.length),Ro wr vs[i] out[i].row
 new:∀k,lv.ownBlock=some k->w.heap.size<=k
 own:OO bm N D w wr
 fm:∀k∈Fm,k<w.heap.size
theorem Rk.next {out:List Rec}(h:Rk d M bs w N D ps bx bm blk cols count m j ks rows Fm tot out lv wr)(ho:@OM ⟨⟨N,D⟩⟩ bm Fm wr w1) :
  (∃vs,LW w1 lv vs/\vs.length=out.length/\∀i (_:i<vs.length) (_:i<out.length),Ro w1 vs[i] out[i].row)/\OO bm N D w w1:=by
 have hs:=@OM.step _ ⟨⟨N,D⟩⟩ _ _ _ _ ho;obtain⟨vs,a1,a2,a3⟩:=h.list;exact⟨⟨vs,a1.keep (hs.tag (by decide) (by decide)),a2,λi a b=>Sl3.keep (a3 i a b) (hs.tag (by decide) (by decide))⟩,h.own.trans (OM.a ho).o⟩
theorem ownG_new {cs:Array Value}{f:Nat×Nat}(h:Touch [g] W W')(hg:W.heap[g]?=some (.cells cs 83 f))(hN:N<=g)(hlo:lo<=g):OO lo N D W W':=by
 have hst:∀(k:Nat) (ob:Obj),W.heap[k]?=some ob->k≠g->W'.heap[k]?=some ob:=λk ob e hne=>(h.block k (agi.1 e).1 (by simpa using hne)).trans e;refine⟨⟨h.size,λt _ _ k cs' f' h3 e=>hst k _ e (λe2=>?_),λt _ k cs' f' h3 e=>hst k _ e (λe2=>?_),λk ob hk e _=>hst k _ e (by omega),λk ob hk _ e _=>hst k _ e (by omega),h.low (λk hk=>by rw[ms_ hk];exact hlo)⟩,λk ob e ho=>hst k _ e (λe2=>by subst e2;rw[hg]at e;cases e;exact ho.1 _ _ _ rfl)⟩
 ·subst e2;rw[hg]at e;cases e;rcases h3 with h3|h3
  ·omega
  ·exact h3 (by simp)
 ·rcases h3 with⟨_,h3,_⟩|⟨h3,_⟩
  ·omega
  ·exact absurd rfl h3
theorem Rk.push {out:List Rec}{x:Rec}{rv:Value}{vs:List Value}(hso:@SA _ ⟨⟨N,D⟩⟩ d M bs w1 ps bx bm blk cols count m j ks rows (out++[x]) Fm tot)(hL:LW w1 lv vs)(hlen:vs.length=out.length)(hrows:∀i (_:i<vs.length) (_:i<out.length),Ro w1 vs[i] out[i].row)(hnew:∀k,lv.ownBlock=some k->w.heap.size<=k)(hown:OO bm N D w w1)(hfm:∀k∈Fm,k<w.heap.size)(hrow:Ro w1 rv x.row)(t2:Touch [] w1 w2)(hO:LW w3 (.slice (some ⟨g,0,none⟩) (vs.length+1) cap) (vs++[rv]))(hg:w2.grownBy w3 lv.ownBlock)(hat:lv.ownBlock=some g\/g=w2.heap.size)(hN:N<=w.heap.size)(hbm:bm<=w.heap.size) :
  Rk d M bs w N D ps bx bm blk cols count m j ks rows Fm tot (out++[x]) (.slice (some ⟨g,0,none⟩) (vs.length+1) cap) w3:=by
 letI:Inhabited Range:=⟨⟨N,D⟩⟩
 have hL2:=hL.keep (t2.tu 83);have t3:Touch lv.ownBlock.toList w2 w3:=(Touch.refl _ _).grown hg (λk hk=>by simp[hk]);have t13:Touch lv.ownBlock.toList w1 w3:=(t2.mono (by simp)).trans t3;have nt:∀t,(83:TypeId)≠t->KT t w1 w3:=λt ht=>t13.tag (λk hk cs f e=>by
  obtain⟨cs',h1⟩:=hL.block k (by simpa using hk);rw[h1]at e;cases e;exact ht rfl)
 have hkg:KG [] [] 0 Fm w1 w3:=by
  obtain⟨g1,_⟩:=t_ (T:=KeepT++[]) 0 t13 (λk hk=>by
   obtain⟨cs',h1⟩:=hL.block k (by simpa using hk);exact⟨_,_,_,h1,by decide⟩)
  refine⟨g1,λt _ k hk cs f e=>?_,by simp⟩;rw[t13.block k (agi.1 e).1 (λhk'=>?_)]
  ·exact e
  ·have h1:=hnew k (by simpa using hk');have h2:=hfm k hk;omega
 refine⟨SA.guard hso hkg,⟨vs++[rv],hO,by simp[hlen],λi a b=>?_⟩,λk hk=>?_,?_,hfm⟩
 ·simp only[c_,List.length_singleton]at a b;by_cases e:i<vs.length
  ·rw[G_ e,G_ (by omega)];exact Sl3.keep (hrows i e (by omega)) (nt 85 (by decide))
  ·obtain rfl:i=vs.length:=by omega
   simp only[List.getElem_concat_length,hlen];exact Sl3.keep hrow (nt 85 (by decide))
 ·simp[Value.ownBlock]at hk;subst hk;rcases hat with h1|h1
  ·exact hnew _ h1
  ·have:=hown.1.size;have:=t2.size;omega
 ·refine hown.trans ((t2.o bm N D).trans ?_);cases hb:lv.ownBlock with
  | none=>rw[hb]at t3;exact t3.o bm N D
  | some k=>
   obtain⟨cs,hc⟩:=hL2.block k hb;rw[hb]at t3;have:=hnew k hb;exact ownG_new (by simpa using t3) hc (by omega) (by omega)
theorem rest_any (w:World)(N:Nat)(D:List Nat)(ps bx bm blk cols count m j:Nat)(ks:List K)(rows:List Rec)(Fm:List Nat)(tot:Nat)(h:@SA _ ⟨⟨N,D⟩⟩ d M bs w ps bx bm blk cols count m j ks rows [] Fm tot)(hsm:rows.length<=100000)(hN:N<=w.heap.size)(hbm:bm<=w.heap.size) :
  Calls prog 181 #[.pointer (some ⟨ps,0,none⟩)] w λe w'=>∃lv out vs,e=.returned lv/\LW w' lv vs/\vs.length=out.length/\(∀i (_:i<vs.length) (_:i<out.length),Ro w' vs[i] out[i].row)/\First ks count rows out/\(out.length=count\/out.Perm rows)/\SEndM d M w' ps bx bm blk cols/\OO bm N D w w'/\∀k,lv.ownBlock=some k->w.heap.size<=k:=by
 letI:Inhabited Range:=⟨⟨N,D⟩⟩
 have H0:Hid (Rk d M bs w N D ps bx bm blk cols count m j ks rows Fm tot [] (.slice none 0 0) w):=⟨h,⟨[],World.ownsRow_nil _ _ _ _,rfl,by simp⟩,λk hk=>by simp[Value.ownBlock]at hk,tr_.o _ _ _,h.out.lt⟩;have htot:=h.out.tot_le;clear h;go_enter func181,ntmps181;go_wp2
 go_loopg [3] (tot) (λg lv wr=>∃out lo ln lc,lv=.slice lo ln lc/\out.length+g=tot/\Rk d M bs w N D ps bx bm blk cols count m j ks rows Fm tot out (.slice lo ln lc) wr)
 case atStart=>exact⟨[],none,0,0,rfl,by simp,H0.out⟩
 case round=>
  clear H0;obtain⟨out,lo,ln,lc,rfl,hg,hI⟩:=hrel;have HI:Hid (Rk d M bs w N D ps bx bm blk cols count m j ks rows Fm tot out (.slice lo ln lc) wr/\out.length+gk=tot):=⟨hI,hg⟩;by_cases hlt:out.length<tot
  ·have hnx:=SA.row wr ps bx bm blk cols count m j ks rows out Fm tot hI.so hlt (by omega);have HNX:Hid (Calls prog 137 #[.pointer (some ⟨ps,0,none⟩)] wr λe w'=>∃(x:Rec) (ao:Option Addr) (al aC:Nat),e=.returned (.tuple #[.slice ao al aC,.bool true])/\Ro w' (.slice ao al aC) x.row/\SA d M bs w' ps bx bm blk cols count m j ks rows (out++[x]) Fm tot/\OM bm Fm wr w'):=hnx;clear hI hnx hg;have HPU:Hid (∀(x:Rec) (ao:Option Addr) (al aC:Nat) (w1:World),Ro w1 (.slice ao al aC) x.row->SA d M bs w1 ps bx bm blk cols count m j ks rows (out++[x]) Fm tot->OM bm Fm wr w1->∃vs,vs.length=out.length/\LW (w1.alloc (.cells #[.slice ao al aC] 83)) (.slice lo ln lc) vs/\∀g cap w3,LW w3 (.slice (some ⟨g,0,none⟩) (vs.length+1) cap) (vs++[.slice ao al aC])->(w1.alloc (.cells #[.slice ao al aC] 83)).grownBy w3 (Value.slice lo ln lc).ownBlock->((Value.slice lo ln lc).ownBlock=some g\/g=(w1.alloc (.cells #[.slice ao al aC] 83)).heap.size)->Rk d M bs w N D ps bx bm blk cols count m j ks rows Fm tot (out++[x]) (.slice (some ⟨g,0,none⟩) (vs.length+1) cap) w3):=λx ao al aC w1 q1 q2 q3=>by
    obtain⟨⟨vs,a1,a2,a3⟩,a4⟩:=HI.out.1.next q3;have t:Touch [] w1 (w1.alloc (.cells #[.slice ao al aC] 83)):=tr_.alloc _;exact⟨vs,a2,a1.keep (t.tu 83),λg cap w3 z1 z2 z3=>Rk.push q2 a1 a2 a3 HI.out.1.new a4 HI.out.1.fm q1 t z1 z2 z3 hN hbm⟩
   go_wp2_with (first|(go_at_call 137;refine HNX.out.mono ?_;rintro e w1 ⟨x,ao,al,aC,rfl,q1,q2,q3⟩;obtain⟨vs,hvl,hL1,hpu⟩:=HPU.out x ao al aC w1 q1 q2 q3;have HPU2:Hid _:=hpu;clear q1 q2 q3 hpu)|(at_builtin;refine wpList_row rfl (.tmp 14) (.tmp 16) rfl (.slice lo ln lc) vs rfl hL1 ⟨w1.heap.size,0,none⟩ (.slice ao al aC) 1 rfl (bg (heap_alloc_new w1 _)) rfl (by omega) ?_;intro g cap w3 z1 z2 z3;have HR3:Hid (Rk d M bs w N D ps bx bm blk cols count m j ks rows Fm tot (out++[x]) (.slice (some ⟨g,0,none⟩) (vs.length+1) cap) w3):=HPU2.out g cap w3 z1 z2 z3;clear z1 z2 z3))
   go_roundg (gk-1)
   case measure=>have:=HI.out.2;omega
   case rel=>exact⟨out++[x],_,_,_,rfl,by have:=HI.out.2;rw[c_,List.length_singleton];omega,by have:=HR3.out;rw[hvl]at this;exact this⟩
  ·have hnx:=SA.done wr ps bx bm blk cols count m j ks rows out Fm tot hI.so (by omega) (by omega);have hov:=hI.so.out.over (by omega);have hfi:=hI.so.out.first;have HFI:Hid (First ks count rows out/\(out.length=count\/out.Perm rows)):=⟨hfi,hov⟩;clear hI hg hov hfi
   go_wp2_with (first|(go_at_call 137;refine hnx.mono ?_;rintro e w1 ⟨rfl,q1,q2⟩))
   go_ret;obtain⟨⟨vs,a1,a2,a3⟩,a4⟩:=HI.out.1.next q2;exact⟨.slice lo ln lc,out,vs,rfl,a1,a2,a3,HFI.out.1,HFI.out.2,q1,a4,HI.out.1.new⟩
end Go.Proofs.YtjoinhljdbljaaaGreat
