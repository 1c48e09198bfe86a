/- The rows of a list, one by one, and what follows. -/
import Derived.Test.YtjoinhljdbljaaaGreatQryA
import Derived.RangeFuncBound
import Derived.RangeFuncCalls
import Derived.Shelf.Abstract
import Derived.Shelf.RegionOpen
import Derived.OwnWalkIn
import Derived.TacticsInMore
import Derived.LoopNIn
import Derived.LoopIn
set_option maxHeartbeats 4000000
set_option maxRecDepth 20000
set_option linter.unusedSectionVars false
namespace Go.Proofs.YtjoinhljdbljaaaGreat
open Go.RowKit Go.Proofs.Tryz
attribute [local go_sem] Oper.semAt_some
def LAt (w:World)(v:Value)(vs:List Value):Prop:=∃o cap,v=.slice o vs.length cap/\(vs=[]\/∃g off cs,o=some ⟨g,off,none⟩/\w.heap[g]?=some (.cells cs 83 (0,0))/\cap<=maxLen/\vs.length<=cap/\∀i (_:i<vs.length),cs[off+i]?=some vs[i])
theorem LAt.keep {w w':World}{v:Value}{vs:List Value}(h:LAt w v vs)(k:KT 83 w w'):LAt w' v vs:=by
 obtain⟨o,cap,e,h⟩:=h;refine⟨o,cap,e,?_⟩;rcases h with h|⟨g,off,cs,h1,h2,h3⟩
 ·exact .inl h
 ·exact .inr ⟨g,off,cs,h1,k _ _ _ h2,h3⟩
theorem vS (w0:World)(b:Nat)(sv:Value)(vs:List Value)(hb:w0.heap[b]?=some (.cells #[sv] 36 (0,0)))(hL:LAt w0 sv vs)(hsm:vs.length<=1000000000) :
  SQ 162 #[.pointer (some ⟨b,0,none⟩)] (0:Nat) (λs _=>s=vs.length) (λi v _ i'=>vs[i]?=some v/\i'=i+1) (λ_ _=>False) (λ_ A B=>A=B) (λ_ W W'=>KT 83 W W') w0:=by
 intro l J _ _ hY h0;have c0:w0.cell? ⟨b,0,none⟩=some sv:=by simp[World.cell?,hb]
 have HL:=hL;obtain⟨o,cap,rfl,hcs⟩:=hL;refine(callsIn_wide (n:=0)).1 ?_;refine callsIn_of_wp func162 rfl trivial ?_ rfl;simp only[ntmps162,List.size_toArray,List.length_cons,List.length_nil,Nat.reduceAdd,Nat.reduceSub,P_,Array.replicate_zero,List.push_toArray,List.append_toArray,List.nil_append,List.cons_append]
 gi_wp2
 gi_loopw [7] (λp wr=>∃k:Nat,k<=vs.length/\p=.int .i64 k/\J k wr/\LAt wr (.slice o vs.length cap) vs) (λp _=>vs.length-(intOf p).toNat)
 case atStart=>exact⟨0,by omega,rfl,h0,HL⟩
 case round=>
  obtain⟨k,hk,rfl,hJ,hL⟩:=hrel;by_cases hlt:k<vs.length
  ·obtain⟨o2,cap2,e2,h2⟩:=hL;simp only[Value.slice.injEq]at e2;obtain⟨rfl,_,rfl⟩:=e2;rcases h2 with h2|⟨g,off,cs,rfl,hg,hm,hc,hx⟩
   ·subst h2;simp at hlt
   have d0:wr.cell? ⟨g,off+k,none⟩=some vs[k]:=by simp only[World.cell?,hg];exact hx k hlt
   obtain⟨fn,tmps,assign,body,hy,hR⟩:=hY k vs[k] (k+1) wr hJ ⟨by simp[hlt],rfl⟩;unfold maxLen at hm;generalize vs[k]=rv at *
   gi_wp2
   refine⟨rfl,hR.mono ?_⟩;rintro e W3 ⟨rfl,hJ3,hk3⟩
   gi_wp2
   refine⟨⟨k+1,by omega,by go_num,hJ3,LAt.keep ⟨_,_,rfl,.inr ⟨g,off,cs,rfl,hg,by unfold maxLen;omega,hc,hx⟩⟩ hk3⟩,?_⟩;simp[intOf];omega
  ·gi_wp2
   first|go_end0|refine bodyPost_ret (results_none rfl _ _ _) rfl ?_
   obtain rfl:k=vs.length:=by omega
   exact⟨⟨_,rfl⟩,vs.length,rfl,hJ⟩
end Go.Proofs.YtjoinhljdbljaaaGreat
namespace Go.Proofs.YtjoinhljdbljaaaGreat
open Go.RowKit Go.Proofs.Tryz
variable [Inhabited Ground]
variable {B B' N N' P blk bm bs bx c cols count fan i j j2 l lo m mm most ph ps tot:Nat} {D F Fm X:List Nat} {T T':List TypeId} {W W' w w' wx:World} {ks:List K} {rows:List (List V)} {s s':SC} {v:Value}
def rO (rows:List (List V)):List Rec:=rows.mapIdx λi r=>⟨(i:Int),r⟩
theorem rE (rows:List (List V)):(rO rows).length=rows.length:=by simp[rO]
theorem recsOf_take (rows:List (List V))(i:Nat)(h:i<rows.length):(rO rows).take (i+1)=(rO rows).take i++[⟨(i:Int),rows[i]⟩]:=by
 rw[take_snoc' _ i (by rw[rE];exact h)];simp[rO]
theorem r_ {y:Rec}(h:y∈rO rows):∃i,∃hi:i<rows.length,y=⟨(i:Int),rows[i]⟩:=by
 obtain⟨i,hi,rfl⟩:=A_ h;rw[rE]at hi;exact⟨i,hi,by simp[rO]⟩
structure Cst (s:SC)(bx blk count fan most:Nat):Prop where
 bx:s.bx=bx
 blk:s.blk=blk
 count:s.count=count
 fan:s.fan=fan
 most:s.most=most
 mg:s.mg=.pointer none
 given:s.given=0
theorem Cst.same (h:Cst s bx blk count fan most)(k:Same s s'):Cst s' bx blk count fan most:=⟨k.bx.trans h.bx,k.blk.trans h.blk,k.count.trans h.count,k.fan.trans h.fan,k.most.trans h.most,k.mg.trans h.mg,k.given.trans h.given⟩
def OwnA (B N:Nat)(D:List Nat)(w w':World):Prop:=∃F,TU F w w'/\OwnF w F/\Hi B F/\∀k∈F,N<=k\/k∈D
theorem OwnA.step (h:OwnA B N D w w'):OW B w w':=by
 obtain⟨F,h1,h2,h3,_⟩:=h;exact⟨F,h1,h2,h3⟩
structure Ad (N:Nat)(D:List Nat)(W:World)(ps bs bx bm blk count fan most cols mm j:Nat)(ks:List K)(rows:List (List V))(i:Nat):Prop where
 st:∃s hv L d M pre o lr,SS W ps bs s hv ks L bm cols d M pre o ((rO rows).take i) lr/\Hi bm (sbF ps s hv bm M (pre++o.toList))/\(∀k∈sbF ps s hv bm M (pre++o.toList),N<=k\/k∈D)/\s.came=i/\Cst s bx blk count fan most/\Left d (2*L.length+(2*(rows.length-i)+mm)) (L.length+((rows.length-i)+j))
theorem Ad.quiet (h:Ad N D W ps bs bx bm blk count fan most cols mm j ks rows i)(t:Touch [] W W'):Ad N D W' ps bs bx bm blk count fan most cols mm j ks rows i:=by
 obtain⟨s,hv,L,d,M,pre,o,lr,h1,h2⟩:=h.st;exact⟨s,hv,L,d,M,pre,o,lr,h1.qU t,h2⟩
structure Rf (blk cols:Nat)(ks:List K)(rows:List (List V)):Prop where
 ok:∀i (h:i<rows.length),Rh blk cols ⟨(i:Int),rows[i]⟩
 able:∀r∈rows,AB ks r
theorem addSt_add (h:Ad N D W ps bs bx bm blk count fan most cols mm j ks rows i)(hN:N<=W.heap.size)(hok:Rf blk cols ks rows)(hi:i<rows.length)(hrow:Ro W v rows[i])(hsm:rows.length<=100000)(hmost:blk<=most) :
  Calls prog 135 #[.pointer (some ⟨ps,0,none⟩),v] W λe W'=>e=.returned (.tuple #[])/\Ad N D W' ps bs bx bm blk count fan most cols mm j ks rows (i+1)/\OwnA bm N D W W':=by
 obtain⟨s,hv,L,d,M,pre,o,lr,h1,hhi,hND,h2,h3,h4⟩:=h.st;have hlen:((rO rows).take i).length=i:=by rw[W_,rE];omega
 have e1:=h3.blk;have e3:=h3.most;refine(sorterAdd_any W ps bs s hv ks L bm cols d M pre o _ lr (2*(rows.length-(i+1))+mm) ((rows.length-(i+1))+j) v rows[i] h1 (h4.mono (by omega) (by omega)) (by rw[h2,hlen]) hrow (by rw[hlen,e1];exact hok.ok i hi) (hok.able _ (m_ _)) (by omega) (by omega)).mono ?_;rintro e W' ⟨rfl,s',hv',L',d',M',pre',o',lr',p1,p2,p3,p4,p5⟩;rw[hlen]at p1 p2;rw[<-recsOf_take rows i hi]at p1;have hbm:bm<W.heap.size:=h1.sb.runs.pd.lt bm (by simp);exact⟨rfl,⟨s',hv',L',d',M',pre',o',lr',p1,hhi.sub p5 (Z_ hbm),λk hk=>(p5 k hk).elim (hND k) (λe=>.inl (k_ hN e)),p2.came,Cst.same (s:={ s with came:=i+1 }) ⟨h3.bx,h3.blk,h3.count,h3.fan,h3.most,h3.mg,h3.given⟩ p2,p3⟩,_,p4,h1.sb.ownF,hhi,hND⟩
theorem addSt_end (h:Ad N D W ps bs bx bm blk count fan most cols ((P*(rows.length+1)+m)+1) j ks rows rows.length)(hok:Rf blk cols ks rows)(hP:1000000000<=P+j)(hPj:P+j2<=j)(hPs:P<=900000)(hf:2<=fan)(hfs:fan<=1000000)(hc1:1<=cols)(hN:N<=W.heap.size) :
  Calls prog 136 #[.pointer (some ⟨ps,0,none⟩)] W λe W'=>e=.returned (.tuple #[])/\(∃Fm tot,@Sj _ ⟨⟨N,D⟩⟩ W' ps bx bm blk cols count m j2 ks (rO rows) [] Fm tot/\Fm≠[]/\∀k∈Fm,N<=k\/k∈D)/\OwnA bm N D W W':=by
 obtain⟨s,hv,L,d,M,pre,o,lr,h1,hhi,hND,h2,h3,h4⟩:=h.st
 letI:Inhabited Range:=⟨⟨N,D⟩⟩
 have hl:=rE rows;have ht:(rO rows).take rows.length=rO rows:=N_ (by omega);rw[ht]at h1;have e1:=h3.fan;have hLl:L.length<=(rO rows).length:=by
  have:=h1.lists.perm.len;simp only[c_,u_]at this;omega
 have hfew:=h1.few;have hab:∀y∈rO rows,AB ks y.row:=λy hy=>by
  obtain⟨i,hi,rfl⟩:=r_ hy;exact hok.able _ (m_ _)
 refine(end_any W ps bs s hv ks L bm cols d M pre o (rO rows) lr P m j j2 h1 (by rw[hl];exact h4.mono (by omega) (by omega)) hP hPj hPs (by omega) (by omega) hc1 hab h3.given h3.mg (by omega) hhi hND hN).mono ?_;rintro e W' ⟨rfl,hE⟩;obtain⟨Fm,tot,this,hF1,hF2⟩:=hE.st;rw[h3.bx,h3.blk,h3.count]at this;exact⟨rfl,⟨Fm,tot,this,hF1,λk hk=>hND k (hF2 k hk)⟩,_,hE.touch,h1.sb.ownF,hhi,hND⟩
def Odd (ob:Obj):Prop:=(∀cs t f,ob≠.cells cs t f)/\∀es c,ob≠.map es c
theorem oL (r:Loop):Odd (.loop r):=⟨λ_ _ _ h=>(by cases h),λ_ _ h=>(by cases h)⟩
theorem oD (ds:Option (List Deferred)):Odd (.deferred ds):=⟨λ_ _ _ h=>(by cases h),λ_ _ h=>(by cases h)⟩
def KeepT:List TypeId:=[194,117,9,223,307,331,305,241,228,73,85,264,310]
def SpG:List TypeId:=[260,302,263,83]
def Aa:List TypeId:=[83,260,302,263,194,117,9,223,307,331,305,241,228,73,85,264,310]
structure Guard (T:List TypeId)(B:Nat)(W W':World):Prop where
 size:W.heap.size<=W'.heap.size
 cells:∀t,t∈T->KT t W W'
 maps:∀(k:Nat) (es:Array MapEntry) (c:Nat),W.heap[k]?=some (.map es c)->W'.heap[k]?=some (.map es c)
 others:∀(k:Nat) (ob:Obj),B<=k->W.heap[k]?=some ob->Odd ob->W'.heap[k]?=some ob
theorem Guard.refl (T:List TypeId)(B:Nat)(W:World):Guard T B W W:=⟨e_ _,λ_ _ _ _ _ h=>h,λ_ _ _ h=>h,λ_ _ _ h _=>h⟩
theorem Guard.mono (h:Guard T B W W')(hT:∀t∈T',t∈T)(hB:B<=B'):Guard T' B' W W':=⟨h.size,λt ht=>h.cells t (hT t ht),h.maps,λk ob hk=>h.others k ob (k_ hB hk)⟩
theorem Guard.trans {T:List TypeId}{B:Nat}{X Y Z:World}(h:Guard T B X Y)(k:Guard T B Y Z):Guard T B X Z:=
 ⟨k_ h.size k.size,λt ht=>(h.cells t ht).trans (k.cells t ht),λi es c e=>k.maps i es c (h.maps i es c e),λi ob hB e ho=>k.others i ob hB (h.others i ob hB e ho) ho⟩
theorem Guard.putObj {T:List TypeId}{B:Nat}{W:World}{l:Nat}{r r':Loop}(h:W.heap[l]?=some (.loop r))(hl:l<B):Guard T B W (W.putObj l (.loop r')):=by
 refine⟨by simp,λt _ k cs f e=>?_,λk es c e=>?_,λk ob hB e _=>?_⟩
 ·rw[World.putObj_heap_other (λe'=>by subst e';rw[h]at e;cases e)];exact e
 ·rw[World.putObj_heap_other (λe'=>by subst e';rw[h]at e;cases e)];exact e
 ·rw[World.putObj_heap_other (by omega)];exact e
theorem Guard.putOdd {ob ob':Obj}(h:W.heap[l]?=some ob)(ho:Odd ob)(hl:l<B):Guard T B W (W.putObj l ob'):=by
 refine⟨by simp,λt _ k cs f e=>?_,λk es c e=>?_,λk o2 hB e _=>?_⟩
 ·rw[World.putObj_heap_other (λe'=>by subst e';rw[h]at e;cases e;exact ho.1 _ _ _ rfl)];exact e
 ·rw[World.putObj_heap_other (λe'=>by subst e';rw[h]at e;cases e;exact ho.2 _ _ rfl)];exact e
 ·rw[World.putObj_heap_other (by omega)];exact e
structure KG (T:List TypeId)(X:List Nat)(B:Nat)(F:List Nat)(W W':World):Prop where
 guard:Guard (KeepT++T) B W W'
 spec:∀t∈SpG,∀k∈F,∀cs f,W.heap[k]?=some (.cells cs t f)->W'.heap[k]?=some (.cells cs t f)
 blocks:∀k∈X,∀ob,W.heap[k]?=some ob->W'.heap[k]?=some ob
theorem KG.trans {T:List TypeId}{A:List Nat}{B:Nat}{F:List Nat}{X Y Z:World}(h:KG T A B F X Y)(k:KG T A B F Y Z):KG T A B F X Z:=⟨h.guard.trans k.guard,λt ht i hi cs f e=>k.spec t ht i hi cs f (h.spec t ht i hi cs f e),λi hi ob e=>k.blocks i hi ob (h.blocks i hi ob e)⟩
theorem Guard.g (h:Guard (Aa++T) B W W')(hX:∀k∈X,∀ob,W.heap[k]?=some ob->W'.heap[k]?=some ob)(F:List Nat):KG T X B F W W':=
 ⟨h.mono (λt ht=>by
  rcases d_.1 ht with ht|ht
  ·exact C_ _ ((by decide:∀t∈KeepT,t∈Aa) t ht)
  ·exact y_ _ ht) (e_ _),λt ht k _ cs f e=>h.cells t (C_ _ ((by decide:∀t∈SpG,t∈Aa) t ht)) k cs f e,hX⟩
theorem KG.mono {T T':List TypeId}{X X':List Nat}{B B':Nat}{F:List Nat}{W W':World}(h:KG T X B F W W')(hT:∀t∈T',t∈T)(hX:∀k∈X',k∈X)(hB:B<=B'):KG T' X' B' F W W':=
 ⟨h.guard.mono (λt ht=>by
  rcases d_.1 ht with ht|ht
  ·exact C_ _ ht
  ·exact y_ _ (hT t ht)) hB,h.spec,λk hk=>h.blocks k (hX k hk)⟩
structure OwnS (T:List TypeId)(lo B:Nat)(W W':World):Prop where
 size:W.heap.size<=W'.heap.size
 cells:∀t,t∉T->t≠5->KT t W W'
 others:∀(k:Nat) (ob:Obj),k<B->W.heap[k]?=some ob->Odd ob->W'.heap[k]?=some ob
 low:Low lo W W'
structure OG (T:List TypeId)(lo N:Nat)(D F:List Nat)(W W':World):Prop where
 size:W.heap.size<=W'.heap.size
 cells:∀t,t∉OT->t≠5->∀k cs f,(k<N\/t∉T)->W.heap[k]?=some (.cells cs t f)->W'.heap[k]?=some (.cells cs t f)
 spec:∀t∈SpG,∀k cs f,((F=[]/\k<N/\k∉D)\/(F≠[]/\k∉F))->W.heap[k]?=some (.cells cs t f)->W'.heap[k]?=some (.cells cs t f)
 others:∀(k:Nat) (ob:Obj),k<N->W.heap[k]?=some ob->Odd ob->W'.heap[k]?=some ob
 old:∀(k:Nat) (ob:Obj),k<N->k∉D->W.heap[k]?=some ob->(∀cs f,ob≠.cells cs 5 f)->W'.heap[k]?=some ob
 low:Low lo W W'
theorem OG.trans {T:List TypeId}{lo N:Nat}{D F:List Nat}{X Y Z:World}(h:OG T lo N D F X Y)(k:OG T lo N D F Y Z):OG T lo N D F X Z:=
 ⟨k_ h.size k.size,λt h1 h2 i cs f h3 e=>k.cells t h1 h2 i cs f h3 (h.cells t h1 h2 i cs f h3 e),λt h1 i cs f h2 e=>k.spec t h1 i cs f h2 (h.spec t h1 i cs f h2 e),λi ob hB e ho=>k.others i ob hB (h.others i ob hB e ho) ho,λi ob a b e ho=>k.old i ob a b (h.old i ob a b e ho) ho,h.low.trans k.low⟩
theorem OG.mono {X Y:World}(h:OG T lo N D F X Y)(hT:∀t∈T,t∈T')(hN:N'<=N):OG T' lo N' D F X Y:=
 ⟨h.size,λt h1 h2 i cs f h3 e=>h.cells t h1 h2 i cs f (h3.imp (λx=>s_ x hN) (λx y=>x (hT t y))) e,λt h1 i cs f h2 e=>h.spec t h1 i cs f (h2.imp (λx=>⟨x.1,s_ x.2.1 hN,x.2.2⟩) id) e,λi ob hB e ho=>h.others i ob (s_ hB hN) e ho,λi ob a b e ho=>h.old i ob (s_ a hN) b e ho,h.low⟩
theorem OG.tag (h:OG T lo N D F W W'){t:TypeId}(h1:t∉OT)(h2:t≠5)(h3:t∉T):KT t W W':=λk cs f e=>h.cells t h1 h2 k cs f (.inr h3) e
theorem Touch.g (h:Touch [] W W')(T:List TypeId)(lo N:Nat)(D F:List Nat):OG T lo N D F W W':=
 ⟨h.size,λt _ _ k cs f _ e=>h.tu t k cs f e,λt _ k cs f _ e=>h.tu t k cs f e,λk ob _ e _=>by rw[h.block k (agi.1 e).1 (by simp)];exact e,λk ob _ _ e _=>by rw[h.block k (agi.1 e).1 (by simp)];exact e,h.low (Hi.nil lo)⟩
theorem OwnA.old (h:OwnA lo N D W W')(k:Nat)(ob:Obj)(hk:k<N)(hD:k∉D)(e:W.heap[k]?=some ob)(h5:∀cs f,ob≠.cells cs 5 f):W'.heap[k]?=some ob:=by
 obtain⟨F,t1,_,_,t4⟩:=h;rw[t1.block k (agi.1 e).1 (λhF=>(t4 k hF).elim (λh=>by omega) hD) (λ_ cs f e'=>?_)]
 ·exact e
 ·rw[e]at e';cases e';exact h5 _ _ rfl
theorem OwnA.g (h:OwnA lo N D W W')(T:List TypeId):OG T lo N D [] W W':=
 ⟨h.step.size,λt h1 h2 k cs f _ e=>h.step.tag h1 h2 k cs f e,λt ht k cs f h2 e=>by
  obtain⟨F,t1,_,_,t4⟩:=h;rcases h2 with⟨_,a,b⟩|⟨a,_⟩
  ·rw[t1.block k (agi.1 e).1 (λhk=>?_) (λ_ cs' f' e'=>?_)]
   ·exact e
   ·rcases t4 k hk with c|c
    ·omega
    ·exact b c
   ·rw[e]at e';simp only[j_,Obj.cells.injEq]at e';rw[e'.2.1]at ht;exact absurd ht (by decide)
  ·exact absurd rfl a,λk ob _ e ho=>h.step.other e ho.1 ho.2,h.old,h.step.low⟩
theorem OM.a (h:@OM ⟨⟨N,D⟩⟩ lo F W W'):OwnA lo N D W W':=by
 obtain⟨F,h1,h2,h3,h4,_⟩:=h;exact⟨F,h1,h2,h3,h4⟩
theorem OM.g (h:@OM ⟨⟨N,D⟩⟩ lo F W W')(hF:F≠[])(T:List TypeId):OG T lo N D F W W':=by
 letI:Inhabited Range:=⟨⟨N,D⟩⟩
 have hs:=OM.step h;refine⟨hs.size,λt h1 h2 k cs f _ e=>hs.tag h1 h2 k cs f e,λt ht k cs f h2 e=>?_,λk ob _ e ho=>hs.other e ho.1 ho.2,(OM.a h).old,hs.low⟩;rcases h2 with⟨a,_⟩|⟨_,b⟩
 ·exact absurd a hF
 ·by_cases h83:t=83
  ·subst h83;exact hs.tag (by decide) (by decide) k cs f e
  ·exact OM.spec h e ((by decide:∀t∈SpG,t≠83->t∈SpT) t ht h83) b
theorem OG.putObj {T:List TypeId}{lo N:Nat}{D F:List Nat}{W:World}{l:Nat}{ob ob':Obj}(h:W.heap[l]?=some ob)(ho:Odd ob)(hl:N<=l)(hlo:lo<=l):OG T lo N D F W (W.putObj l ob'):=by
 have hk:∀(k:Nat) (cs:Array Value) (t:TypeId) (f:Nat×Nat),W.heap[k]?=some (Obj.cells cs t f)->(W.putObj l ob').heap[k]?=some (Obj.cells cs t f):=λk cs t f e=>by
  rw[World.putObj_heap_other (λe'=>by subst e';rw[h]at e;cases e;exact ho.1 _ _ _ rfl)];exact e
 exact⟨by simp,λt _ _ k cs f _ e=>hk k cs t f e,λt _ k cs f _ e=>hk k cs t f e,λk o2 hB e _=>by rw[World.putObj_heap_other (by omega)];exact e,λk o2 hB _ e _=>by rw[World.putObj_heap_other (by omega)];exact e,⟨rfl,rfl,rfl,by simp,λk hk _=>World.putObj_heap_other (by omega)⟩⟩
theorem OwnS.putObj {T:List TypeId}{lo B:Nat}{W:World}{l:Nat}{ob ob':Obj}(h:W.heap[l]?=some ob)(ho:Odd ob)(hl:B<=l)(hlo:lo<=l):OwnS T lo B W (W.putObj l ob'):=by
 refine⟨by simp,λt _ _ k cs f e=>?_,λk o2 hB e _=>?_,⟨rfl,rfl,rfl,by simp,λk hk _=>World.putObj_heap_other (by omega)⟩⟩
 ·rw[World.putObj_heap_other (λe'=>by subst e';rw[h]at e;cases e;exact ho.1 _ _ _ rfl)];exact e
 ·rw[World.putObj_heap_other (by omega)];exact e
section
variable {W W':World} {B:Nat} {X:List Nat}
theorem KG.k (h:KG T X B F W W'):Guard KeepT B W W':=h.guard.mono (λ_ ht=>C_ T ht) (e_ _)
theorem PD.guard {d:DS}{M:List PF}(h:PD W bx bm d M)(g:Guard KeepT B W W'):PD W' bx bm d M:=by
 obtain⟨es,c,hb,he⟩:=h.map;refine⟨g.cells 117 (by decide) _ _ _ h.disk,⟨es,c,g.maps _ _ _ hb,he⟩,h.files,λm hm=>?_,h.nodup⟩;obtain⟨h1,h2⟩:=h.rows m hm;refine⟨h1,?_⟩;rcases h2 with h2|⟨k,cap,cur,e,hb,hh,rest⟩
 ·exact .inl h2
 ·exact .inr ⟨k,cap,cur,e,hb,g.cells 9 (by decide) _ _ _ hh,rest⟩
theorem RS.guard {bx bm blk cols:Nat}{d:DS}{M:List PF}{pre:List RI}(h:RS W bx bm blk cols d M pre none)(g:Guard KeepT B W W'):RS W' bx bm blk cols d M pre none:=
 { h with
  pd:=h.pd.guard g
  done:=λx hx=>by
   obtain⟨⟨h1,h0,h2,h3⟩,h4⟩:=h.done x hx;exact⟨⟨g.cells 223 (by decide) _ _ _ h1,h0,h2,h3⟩,h4⟩
  opn:=λx hx=>by cases hx }
theorem PW.guard {R:List RI}(h:PW W v R)(g:Guard KeepT B W W'):PW W' v R:=by
 obtain⟨h1,h2⟩:=h;refine⟨h1,?_⟩;rcases h2 with h2|⟨k,cap,cur,e,hb,hh,rest⟩
 ·exact .inl h2
 ·exact .inr ⟨k,cap,cur,e,hb,g.cells 194 (by decide) _ _ _ hh,rest⟩
theorem Hf.guard {T:List TypeId}{F:List Nat}{ph:Nat}{v:Value}{bs ps:Nat}{ks:List K}{L:List EV}(h:Hf W ph v bs ps ks L)(k:KG T X B F W W')(h1:ps∈F)(h2:∀i∈h_ ph v,i∈F):Hf W' ph v bs ps ks L:=by
 obtain⟨cs,f,vk,k1,k2,k3⟩:=h.ctx.keys;have g:=k.guard.mono (λ_ ht=>C_ T ht) (e_ _);refine⟨k.spec 302 (by decide) _ (h2 ph (by simp[h_])) _ _ h.head,?_,⟨g.cells 228 (by decide) _ _ _ h.ctx.s,cs,f,vk,k.spec 260 (by decide) _ h1 _ _ k1,k2,Sl3.keep k3 (g.cells 73 (by decide))⟩,λx hx=>⟨Sl3.keep (h.rows x hx).1 (g.cells 85 (by decide)),(h.rows x hx).2⟩,h.ok⟩;obtain⟨a1,a2⟩:=h.items;refine⟨a1,?_⟩;rcases a2 with a2|⟨i,cap,cur,e,hb,hh,rest⟩
 ·exact .inl a2
 ·exact .inr ⟨i,cap,cur,e,hb,k.spec 263 (by decide) i (h2 i (by rw[e];simp[h_,Value.ownBlock])) _ _ hh,rest⟩
theorem OA.guard [Inhabited Range]{T:List TypeId}{ps bs:Nat}{s:SC}{hv:Value}{ks:List K}{L:List EV}{bm cols:Nat}{d:DS}{M:List PF}{rows out:List Rec}(h:OA W ps bs s hv ks L bm cols d M rows out)(g:KG T X B (ps::h_ s.ph hv) W W'):OA W' ps bs s hv ks L bm cols d M rows out:=
 ⟨⟨g.spec 260 (by decide) _ (by simp) _ _ h.sb.sorter,h.sb.heap.guard g (by simp) (λi hi=>o_ _ hi),h.sb.held,h.sb.ents,h.sb.runs.guard g.k,h.sb.own.guard g.k⟩,h.give,h.mg,h.given,h.few,h.hi,h.own,h.hr⟩
theorem KG.mg (k:KG T X B F W W')(hS:Sr W ps s)(hp:ps∈F):MgKeep ps W W':=by
 have g:=k.k;exact⟨g.cells _ (by decide),g.cells _ (by decide),g.cells _ (by decide),g.cells _ (by decide),g.cells _ (by decide),g.cells _ (by decide),g.cells _ (by decide),g.cells _ (by decide),KE.of hS (k.spec 260 (by decide) _ hp _ _ hS) rfl⟩
theorem OB.guard [Inhabited Range]{T:List TypeId}{lo ps:Nat}{s:SC}{ks:List K}{bm cols:Nat}{d:DS}{M:List PF}{pre:List RI}{pm ph:Nat}{hv:Value}{bf:Nat}{L:List CU}{rows out:List Rec}(h:OB W lo ps s ks bm cols d M pre pm ph hv bf L rows out)(g:KG T X B [ps] W W'):OB W' lo ps s ks bm cols d M pre pm ph hv bf L rows out:=
 ⟨⟨g.spec 260 (by decide) _ (by simp) _ _ h.sm.sorter,Sl3.keep h.sm.keys (g.k.cells 73 (by decide)),h.sm.runs.guard g.k,h.sm.own.keep (g.k.cells 194 (by decide))⟩,h.st.keep (g.mg h.sm.sorter (by simp)),h.mrg,h.mg,h.given,h.few,h.last,h.c1,h.hi,h.own,h.hr⟩
theorem Sj.guard [Inhabited Range]{T:List TypeId}{ps bx bm blk cols count m j:Nat}{ks:List K}{rows out:List Rec}{Fm:List Nat}{tot:Nat}(h:Sj W ps bx bm blk cols count m j ks rows out Fm tot)(g:KG T X B Fm W W'):Sj W' ps bx bm blk cols count m j ks rows out Fm tot:=by
 obtain⟨s,d,M,e1,e2,e3,hl,hc⟩:=h.st;refine⟨h.lim,s,d,M,e1,e2,e3,hl,?_⟩;rcases hc with⟨bs,hv,L,rfl,ht,hA⟩|⟨rfl,all,hcut,ht,lo,pre,pm,ph,hv,bf,L,hB⟩
 ·exact .inl ⟨bs,hv,L,rfl,ht,hA.guard g⟩
 ·exact .inr ⟨rfl,all,hcut,ht,lo,pre,pm,ph,hv,bf,L,hB.guard g⟩
theorem Sv.guard [Inhabited Range]{ps bx bm blk cols m j:Nat}(h:Sv W ps bx bm blk cols m j)(g:Guard Aa B W W'):Sv W' ps bx bm blk cols m j:=by
 obtain⟨s,d,M,pre,h1,h2,h3,h4,h5,h6⟩:=h.st;refine⟨h.hi,h.own,s,d,M,pre,h1,h2,g.cells 260 (by decide) _ _ _ h3,h4.guard (g.mono (by decide) (e_ _)),?_,h6⟩;rcases h5 with h5|h5
 ·exact .inl (h5.keep (g.cells 194 (by decide)))
 ·exact .inr h5
end
theorem Touch.putObj {W:World}(l:Nat)(ob:Obj):Touch [l] W (W.putObj l ob):=⟨rfl,rfl,rfl,by simp,λk _ hn=>World.putObj_heap_other (by simpa using hn)⟩
theorem Ad.putObj {N:Nat}{D:List Nat}{W:World}{ps bs bx bm blk count fan most cols mm j:Nat}{ks:List K}{rows:List (List V)}{i l:Nat}{ob ob':Obj}(h:Ad N D W ps bs bx bm blk count fan most cols mm j ks rows i)(hl:W.heap[l]?=some ob)(ho:Odd ob):Ad N D (W.putObj l ob') ps bs bx bm blk count fan most cols mm j ks rows i:=by
 obtain⟨s,hv,L,d,M,pre,o,lr,h1,h2⟩:=h.st;have nt:∀t,NT t W [l]:=λt k hk cs f e=>by
  rw[ms_ hk,hl]at e;cases e;exact ho.1 _ _ _ rfl
 refine⟨s,hv,L,d,M,pre,o,lr,h1.quiet (Touch.putObj l ob') (λk hk e=>?_) (nt _) (nt _) (nt _) (nt _),h2⟩;rw[ms_ hk]at e;rcases h1.sb.ownF l e with⟨cs,t,f,e1,_⟩|⟨es,c,e1⟩
 ·rw[hl]at e1;cases e1;exact ho.1 _ _ _ rfl
 ·rw[hl]at e1;cases e1;exact ho.2 _ _ rfl
attribute [local go_sem] Oper.semAt_some
def GStep {σ:Type}(step:σ->Value->World->σ->Prop):List Nat×σ->Value->World->List Nat×σ->Prop:=λs v W s'=>(s.1≠[]/\∀k∈s.1,k<W.heap.size)/\s'.1=s.1/\step s.2 v W s'.2
def GMov {σ:Type}(s0:σ)(N:Nat)(D:List Nat):List Nat×σ->List Nat×σ->Prop:=λs s'=>s.1=[]/\s.2=s0/\s'.2=s0/\s'.1≠[]/\∀k∈s'.1,N<=k\/k∈D
def SG {σ:Type}(gf:Nat)(lb:Array Value)(s0:σ)(fin:σ->World->Prop)(step:σ->Value->World->σ->Prop)(T K:List TypeId)(X:List Nat)(lo N:Nat)(D:List Nat)(W0:World):Prop:=
 SQ gf lb ([],s0) (λs W=>(s.1≠[]/\∀k∈s.1,k<W.heap.size)/\fin s.2 W) (GStep step) (GMov s0 N D) (λs=>OG T lo N D s.1) (λs=>KG K X N s.1) W0
def Src (T:List TypeId)(bm N:Nat)(D:List Nat)(wc:World)(gf:Nat)(lb:Array Value)(ps:Nat)(Fin:World->Prop):Prop:=
 ∃(σ:Type) (s0:σ) (fin:σ->World->Prop) (step:σ->Value->World->σ->Prop) (mov:σ->σ->Prop) (Own Keep:σ->World->World->Prop) (I:σ->World->Prop),
  (∀rec,SQ gf lb s0 fin step mov Own Keep ((wc.alloc (.deferred (some []))).alloc (.loop rec))) /\
  (∀s A B k ob,Own s A B->A.heap[k]?=some ob->((∃r,ob=.loop r)\/∃ds,ob=.deferred ds)->k<=wc.heap.size+1->B.heap[k]?=some ob) /\
  (∀s A B C,Keep s A B->Keep s B C->Keep s A C)/\(∀s W r r',W.heap[wc.heap.size+1]?=some (.loop r)->Keep s W (W.putObj (wc.heap.size+1) (.loop r'))) /\
  (∀s A B,I s A->Own s A B->I s B/\OG T bm N D [] A B)/\(∀s s' A,I s A->mov s s'->I s' A) /\
  (∀s W r r',I s W->W.heap[wc.heap.size+1]?=some (.loop r)->I s (W.putObj (wc.heap.size+1) (.loop r'))) /\
  (∀s v s' W r r',step s v W s'->W.heap[wc.heap.size+1]?=some (.loop r)->step s v (W.putObj (wc.heap.size+1) (.loop r')) s') /\
  (∀rec,I s0 ((wc.alloc (.deferred (some []))).alloc (.loop rec))) /\
  (∀s v s' W,I s W->step s v W s'->(∃o n c,v=.slice o n c)/\Calls prog 135 #[.pointer (some ⟨ps,0,none⟩),v] W λe W'=>e=.returned (.tuple #[])/\I s' W'/\Keep s W W'/\OG T bm N D [] W W'/\∀(k:Nat) (ob:Obj),W.heap[k]?=some ob->Odd ob->W'.heap[k]?=some ob) /\
  (∀s W r r',fin s W->I s W->W.heap[wc.heap.size+1]?=some (.loop r)->Fin (W.putObj (wc.heap.size+1) (.loop r')))
structure SX (W:World)(bq bk bc bl b q:Nat)(tv wv kv sv:Value)(bx bm blk fan bud count cols:Nat)(ks:List K)(vs:List Value)(rows:List (List V))(d:DS)(M:List PF):Prop where
 hq:W.heap[bq]?=some (.cells #[.pointer (some ⟨q,0,none⟩)] 159 (0,0))
 hQ:W.heap[q]?=some (.cells #[tv,.int .i64 (blk:Int),.int .i64 (fan:Int),.int .i64 (bud:Int),.pointer (some ⟨bx,0,none⟩),wv] 162 (0,0))
 hk:W.heap[bk]?=some (.cells #[kv] 74 (0,0))
 keys:KA W kv ks
 hc:W.heap[bc]?=some (.cells #[.int .i64 (count:Int)] 3 (0,0))
 hl:W.heap[bl]?=some (.cells #[.func (.func 162) #[] #[.pointer (some ⟨b,0,none⟩)]] 165 (0,0))
 hb:W.heap[b]?=some (.cells #[sv] 36 (0,0))
 list:LAt W sv vs
 len:vs.length=rows.length
 rW:∀i (h:i<vs.length) (h':i<rows.length),Ro W vs[i] rows[i]
 pd:PD W bx bm d M
 ok:Di d
 oks:Rf blk cols ks rows
 b1:16<=blk
 b2:blk<=4096
 b3:(blk:Int)<=d.block
 c1:1<=cols
 c2:cols<=1000
 bud1:4*blk<=bud
 bud2:bud<=9223372036854775807
 fan1:2<=fan
 fan2:fan<=1000000
 few:rows.length<=100000
 hi:Hi bm (dI bx bm M)
theorem KA.slice {w:World}{v:Value}{ks:List K}(h:KA w v ks):∃o n c,v=.slice o n c:=by
 obtain⟨o,c,e⟩:=h.shape;exact⟨_,_,_,e⟩
theorem Sj.disk [Inhabited Range]{rows out:List Rec}(h:Sj w ps bx bm blk cols count m j ks rows out Fm tot):∃d M,PD w bx bm d M/\Di d:=by
 obtain⟨s,d,M,rfl,e2,e3,hl,hc⟩:=h.st;rcases hc with⟨bs,hv,L,_,_,hA⟩|⟨_,_,_,_,lo,pre,pm,ph,hv,bf,L,hB⟩
 ·exact⟨d,M,hA.sb.runs.pd,hA.sb.runs.ok⟩
 ·exact⟨d,M,hB.sm.runs.pd,hB.sm.runs.ok⟩
theorem Sj.lt [Inhabited Range]{rows out:List Rec}(h:Sj w ps bx bm blk cols count m j ks rows out Fm tot):∀k∈Fm,k<w.heap.size:=λk hk=>by
 obtain⟨s,d,M,e1,e2,e3,hl,hc⟩:=h.st;rcases hc with⟨bs,hv,L,rfl,_,hA⟩|⟨rfl,_,_,_,lo,pre,pm,ph,hv,bf,L,hB⟩
 ·rcases a_.1 hk with rfl|hk
  ·exact(agi.1 hA.sb.sorter).1
  ·rcases a_.1 hk with rfl|hk
   ·exact(agi.1 hA.sb.heap.head).1
   ·obtain⟨cs,f,hc⟩:=hA.sb.heap.items.tag k (by simpa using hk);exact(agi.1 hc).1
 ·rw[ms_ hk];exact(agi.1 hB.sm.sorter).1
theorem Sr.keep (h:Sr w ps s)(k:KT 260 w w'):Sr w' ps s:=k _ _ _ h
theorem HeadAt.keep (h:HeadAt w ph v bs)(k:KT 302 w w'):HeadAt w' ph v bs:=k _ _ _ h
section
variable {W0:World} {bq bk bc bl b q:Nat} {tv wv kv sv:Value} {bx bm blk fan bud count cols:Nat} {ks:List K} {vs:List Value} {rows:List (List V)} {d:DS} {M:List PF}
theorem SX.add0 (h:SX W0 bq bk bc bl b q tv wv kv sv bx bm blk fan bud count cols ks vs rows d M)(hl:Left d (2*rows.length+mm) (rows.length+j))(p4:Sr wx ps (SC.new bx blk fan bud count kv ph))(p5:HeadAt wx ph (.slice none 0 0) bs)(p6:wx.heap[bs]?=some (.cells #[.pointer (some ⟨ps,0,none⟩)] 228 (0,0)))(t:Touch [] W0 wx)(hps:W0.heap.size<=ps)(hph:W0.heap.size<=ph):Ad W0.heap.size (dI bx bm M) wx ps bs bx bm blk count (min fan (bud/2/blk)) (bud/2) cols mm j ks rows 0:=by
 have hS:=spSt_new (cols:=cols) p4 p5 p6 t h.keys h.pd h.ok h.b1 h.b2 h.b3 h.c2 ⟨0,[]⟩;have hbm:bm<W0.heap.size:=h.pd.lt bm (by simp);have hcase:∀k∈sbF ps (SC.new bx blk fan bud count kv ph) (.slice none 0 0) bm M ([]++(none:Option RI).toList),W0.heap.size<=k\/k∈dI bx bm M:=λk hk=>by
  simp only[sbF,h_,rF,SC.new,Value.ownBlock,Option.toList_none,H_,List.map_nil,List.nil_append,a_,d_,i_,or_false]at hk;rcases hk with rfl|rfl|hk
  ·exact .inl hps
  ·exact .inl hph
  ·exact .inr hk
 exact⟨SC.new bx blk fan bud count kv ph,_,[],d,M,[],none,_,by simpa using hS,λk hk=>(hcase k hk).elim (λe=>by omega) (h.hi k),hcase,rfl,⟨rfl,rfl,rfl,rfl,rfl,rfl,rfl⟩,by simpa using hl⟩
end
theorem caw [Inhabited Range](w:World)(ps bx bm blk cols m j n:Nat)(u:FrameMode)(h:Sv w ps bx bm blk cols m j):CallsDIn Fence.wide n prog 134 #[.pointer (some ⟨ps,0,none⟩)] u w λe u' w'=>u'=u/\e=.returned (.tuple #[])/\Closed w w' bx bm blk cols m j:=by
 obtain⟨s,hS,hD⟩:=h.delete;obtain⟨c0,c1,c2,c3,c4,c5,c6,c7,c8,c9,c10,c11,c12,c13,c14,c15,cf⟩:=hS.cell;clear h hS cf;refine callsDIn_of_wp func134 rfl trivial (wpIn_wide.2 ?_);simp only[ntmps134,List.size_toArray,List.length_cons,List.length_nil,Nat.reduceAdd,Nat.reduceSub,P_,Array.replicate_zero,List.push_toArray,List.append_toArray,List.nil_append,List.cons_append]
 go_wp2_with (go_at_call 166;refine hD.mono ?_;rintro e w1 ⟨rfl,h1⟩)
 go_end0
 exact⟨rfl,h1⟩
structure SrtBox (W:World)(bq bk bc bl q:Nat)(tv wv kv:Value)(gf:Nat)(lb:Array Value)(bx blk fan bud count:Nat):Prop where
 hq:W.heap[bq]?=some (.cells #[.pointer (some ⟨q,0,none⟩)] 159 (0,0))
 hQ:W.heap[q]?=some (.cells #[tv,.int .i64 (blk:Int),.int .i64 (fan:Int),.int .i64 (bud:Int),.pointer (some ⟨bx,0,none⟩),wv] 162 (0,0))
 hk:W.heap[bk]?=some (.cells #[kv] 74 (0,0))
 keys:∃o n c,kv=.slice o n c
 hc:W.heap[bc]?=some (.cells #[.int .i64 (count:Int)] 3 (0,0))
 hl:W.heap[bl]?=some (.cells #[.func (.func gf) #[] lb] 165 (0,0))
 b1:1<=blk
 bud2:bud<=9223372036854775807
def FI (N:Nat)(D:List Nat)(ps bx bm blk count cols m j:Nat)(ks:List K)(Q:List (List V)->Prop)(W:World):Prop:=
 ∃rows,Q rows/\rows.length<=100000/\Calls prog 136 #[.pointer (some ⟨ps,0,none⟩)] W λe W'=>e=.returned (.tuple #[])/\(∃Fm tot,@Sj _ ⟨⟨N,D⟩⟩ W' ps bx bm blk cols count m j ks (rO rows) [] Fm tot/\Fm≠[]/\∀k∈Fm,N<=k\/k∈D)/\OwnA bm N D W W'
def SStep (ks:List K)(Q:List (List V)->Prop)(out:List Rec)(v:Value)(W:World)(out':List Rec):Prop:=
 ∃x rows,out'=out++[x]/\Q rows/\Ro W v x.row/\Srt ks out'/\∃rest,(out'++rest).Perm (rO rows)
def SFin (bx bm blk cols m j:Nat)(ks:List K)(Q:List (List V)->Prop)(out:List Rec)(W:World):Prop:=
 (∃rows,Q rows/\out.Perm (rO rows))/\Srt ks out/\∃d' M',RS W bx bm blk cols d' M' [] none/\Left d' m j
def Tt (bx bm:Nat)(ks:List K)(count:Nat)(Q:List (List V)->Prop)(out:List Rec)(v:Value)(W:World)(out':List Rec):Prop:=
 (∃x rows,out'=out++[x]/\Q rows/\Ro W v x.row/\First ks count (rO rows) out')/\∃d M,PD W bx bm d M/\Di d
def TFin (bx bm blk cols m j:Nat)(ks:List K)(count:Nat)(Q:List (List V)->Prop)(out:List Rec)(W:World):Prop:=
 (∃rows,Q rows/\First ks count (rO rows) out/\(out.length=count\/out.Perm (rO rows)))/\∃d' M',RS W bx bm blk cols d' M' [] none/\Left d' m j/\Hi bm (rowsOf M')
theorem sab (T:List TypeId)(W0:World)(bq bk bc bl q:Nat)(tv wv kv:Value)(gf:Nat)(lb:Array Value)(bx bm blk fan bud count cols:Nat)(ks:List K)(Q:List (List V)->Prop)(D:List Nat)(m j2:Nat)(h:SrtBox W0 bq bk bc bl q tv wv kv gf lb bx blk fan bud count)(eg:∀args w,(callFunc gf args).run prog w=.ok (.enter gf args) w)(h228:(228:TypeId)∉T)(hbm:bm<W0.heap.size)
  (hsrc:∀wc ps bs ph,Sr wc ps (SC.new bx blk fan bud count kv ph)->HeadAt wc ph (.slice none 0 0) bs->wc.heap[bs]?=some (.cells #[.pointer (some ⟨ps,0,none⟩)] 228 (0,0))->Touch [] W0 wc->W0.heap.size<=ps->W0.heap.size<=ph->Src T bm W0.heap.size D wc gf lb ps (FI W0.heap.size D ps bx bm blk count cols m j2 ks Q)) :
  SG 132 #[.pointer (some ⟨bq,0,none⟩),.pointer (some ⟨bk,0,none⟩),.pointer (some ⟨bc,0,none⟩),.pointer (some ⟨bl,0,none⟩)] ([]:List Rec) (TFin bx bm blk cols m j2 ks count Q) (Tt bx bm ks count Q) T [] [] bm W0.heap.size D W0:=by
 intro l J hJ hM hY h0
 letI:Inhabited Range:=⟨⟨W0.heap.size,D⟩⟩
 have Ho:Hid (∀W,Calls prog 133 #[.agg #[.int .i64 (blk:Int),.int .i64 (fan:Int),.int .i64 (bud:Int)],.pointer (some ⟨bx,0,none⟩),kv,.int .i64 (count:Int)] W λe w'=>∃ps bs ph,e=.returned (.pointer (some ⟨ps,0,none⟩))/\Hid (W.heap.size<=ps/\W.heap.size<=bs/\W.heap.size<=ph/\Sr w' ps (SC.new bx blk fan bud count kv ph)/\HeadAt w' ph (.slice none 0 0) bs/\w'.heap[bs]?=some (.cells #[.pointer (some ⟨ps,0,none⟩)] 228 (0,0)))/\Touch [] W w'):=λW=>by
  refine(sag W bx blk fan bud count kv h.b1 h.bud2 h.keys).mono ?_;rintro e w' ⟨ps,bs,ph,rfl,p1,p2,p3,p4,p5,p6,p7⟩;exact⟨ps,bs,ph,rfl,⟨p1,p2,p3,p4,p5,p6⟩,p7⟩
 have HADD:Hid (∀wc ps bs ph,Sr wc ps (SC.new bx blk fan bud count kv ph)->HeadAt wc ph (.slice none 0 0) bs->wc.heap[bs]?=some (.cells #[.pointer (some ⟨ps,0,none⟩)] 228 (0,0))->Touch [] W0 wc->W0.heap.size<=ps->W0.heap.size<=ph->Src T bm W0.heap.size D wc gf lb ps (FI W0.heap.size D ps bx bm blk count cols m j2 ks Q)):=hsrc;clear hsrc;have c0:=bg h.hq;have c1:=bg h.hk;have c2:=bg h.hc;have c3:=bg h.hl;have hQ:=h.hQ;have q1:W0.cell? ⟨q,1,none⟩=some (.int .i64 (blk:Int)):=by simp[World.cell?,hQ]
 have q2:W0.cell? ⟨q,2,none⟩=some (.int .i64 (fan:Int)):=by simp[World.cell?,hQ]
 have q3:W0.cell? ⟨q,3,none⟩=some (.int .i64 (bud:Int)):=by simp[World.cell?,hQ]
 have q4:W0.cell? ⟨q,4,none⟩=some (.pointer (some ⟨bx,0,none⟩)):=by simp[World.cell?,hQ]
 obtain⟨ko,kn,kc,rfl⟩:=h.keys;have n1:=(agi.1 h.hq).1;have n2:=(agi.1 h.hk).1;have n3:=(agi.1 h.hc).1;have n4:=(agi.1 h.hl).1;have n5:=(agi.1 hQ).1;clear hQ;refine callsIn_wide.1 (callsIn_of_wp_marks (n:=0) func132 rfl trivial (wpIn_wide.2 ?_));simp only[ntmps132,List.size_toArray,List.length_cons,List.length_nil,Nat.reduceAdd,Nat.reduceSub,P_,Array.replicate_zero,List.push_toArray,List.append_toArray,List.nil_append,List.cons_append];go_wp2
 go_cut [6] from 7 (λa wx=>∃B ps,a=.pointer (some ⟨B,0,none⟩)/\wx.heap[B]?=some (.cells #[.pointer (some ⟨ps,0,none⟩)] 228 (0,0))/\Src T bm W0.heap.size D wx gf lb ps (FI W0.heap.size D ps bx bm blk count cols m j2 ks Q)/\Touch [] W0 wx/\W0.heap.size<=B)
 case first=>
  have HK:Hid (∀W,Touch [] W0 W->W.cell? ⟨bq,0,none⟩=some (.pointer (some ⟨q,0,none⟩))/\W.cell? ⟨q,1,none⟩=some (.int .i64 (blk:Int))/\W.cell? ⟨q,2,none⟩=some (.int .i64 (fan:Int))/\W.cell? ⟨q,3,none⟩=some (.int .i64 (bud:Int))/\W.cell? ⟨q,4,none⟩=some (.pointer (some ⟨bx,0,none⟩))/\W.cell? ⟨bk,0,none⟩=some (.slice ko kn kc)/\W.cell? ⟨bc,0,none⟩=some (.int .i64 (count:Int))):=λW hW=>⟨cO c0 hW,cO q1 hW,cO q2 hW,cO q3 hW,cO q4 hW,cO c1 hW,cO c2 hW⟩;have m1:W0.heap.size≠bq:=by omega
  have m2:W0.heap.size≠q:=by omega
  have m3:W0.heap.size≠bk:=by omega
  have m4:W0.heap.size≠bc:=by omega
  clear h hJ hM hY h0 c3
  go_region_held3 (λw'=>w'.cell? ⟨bq,0,none⟩=some (.pointer (some ⟨q,0,none⟩))/\w'.cell? ⟨q,1,none⟩=some (.int .i64 (blk:Int))/\w'.cell? ⟨q,2,none⟩=some (.int .i64 (fan:Int))/\w'.cell? ⟨q,3,none⟩=some (.int .i64 (bud:Int))/\w'.cell? ⟨q,4,none⟩=some (.pointer (some ⟨bx,0,none⟩))/\w'.cell? ⟨bk,0,none⟩=some (.slice ko kn kc)/\w'.cell? ⟨bc,0,none⟩=some (.int .i64 (count:Int))) (go_keep) (first|(go_at_call 133;refine(Ho.out _).mono ?_;rintro e w1 ⟨ps,bs,ph,rfl,hA,hT1⟩;obtain⟨k1,k2,k3,k4,k5,k6,k7⟩:=HK.out w1 ((tr_.drew).trans hT1);have HT1:Hid (Touch [] W0 w1):=((tr_.drew).trans hT1);clear hT1)|(go_at_call 133;refine(Ho.out _).mono ?_;rintro e w1 ⟨ps,bs,ph,rfl,hA,hT1⟩;obtain⟨k1,k2,k3,k4,k5,k6,k7⟩:=HK.out w1 (((tr_.alloc _).drew).trans hT1);have HT1:Hid (Touch [] W0 w1):=(((tr_.alloc _).drew).trans hT1);have hbx:w1.heap[W0.heap.size]?=some (.cells #[.pointer none] 228 (0,0)):=(hT1.block W0.heap.size (by simp) (by simp)).trans (heap_alloc_new W0 _);have x0:=bg hbx;have z0:w1.frozen? ⟨W0.heap.size,0,none⟩=false:=(by simp[World.frozen?,hbx]);have HBX:Hid _:=hbx;clear hT1 hbx))
  ·go_wp2_with fail
   go_meet
   case rel=>
    obtain⟨a1,a2,a3,a4,a5,a6⟩:=hA.out;exact⟨_,ps,rfl,heap_alloc_new w1 _,HADD.out _ ps bs ph (a4.keep ((tr_.alloc _).tu 260)) (a5.keep ((tr_.alloc _).tu 302)) ((tr_.alloc _).tu 228 _ _ _ a6) (HT1.out.alloc _) a1 a3,HT1.out.alloc _,HT1.out.size⟩
  ·go_wp2_with fail
   go_meet
   case rel=>
    obtain⟨a1,a2,a3,a4,a5,a6⟩:=hA.out;have t2:Touch [W0.heap.size] w1 (w1.setCell ⟨W0.heap.size,0,none⟩ (.pointer (some ⟨ps,0,none⟩))):=(Touch.refl [W0.heap.size] w1).setCell (p:=⟨W0.heap.size,0,none⟩) (by simp) _;have hne:bs≠W0.heap.size:=by
     have a2':W0.heap.size+1<=bs:=by simpa using a2
     omega
    have t3:Touch [] W0 (w1.setCell ⟨W0.heap.size,0,none⟩ (.pointer (some ⟨ps,0,none⟩))):=HT1.out.onto t2 (λi hi=>.inr (by rw[ms_ hi];exact e_ _));refine⟨_,ps,rfl,?_,HADD.out _ ps bs ph (a4.keep (t2.tag (nO HBX.out (by decide)))) (a5.keep (t2.tag (nO HBX.out (by decide)))) (t2.u.keep a6 (by decide) (by simpa using hne)) t3 (by have a1':W0.heap.size+1<=ps:=(by simpa using a1);omega) (by have a3':W0.heap.size+1<=ph:=(by simpa using a3);omega),t3,e_ _⟩;rw[heap_setCell_same w1 W0.heap.size 0 _ 228 _ HBX.out];simp
 case rest=>
  obtain⟨B,ps,rfl,hB,hA,hT,hBn⟩:=hcut;have H3:Hid (∀W,Touch [] W0 W->W.cell? ⟨bl,0,none⟩=some (.func (.func gf) #[] lb)):=λW hW=>cO c3 hW;have c3':=H3.out wc hT;have cB:=bg hB;have n4':bl<wc.heap.size:=by have:=hT.size;omega
  have HJ0:=hJ _ _ _ h0 (hT.g T bm W0.heap.size D []);clear h c0 c1 c2 c3 q1 q2 q3 q4 Ho HADD h0 n1 n2 n3 n5 n4;obtain⟨σ,s0,fin,step,mov,Own,Keep,I,S1,S2,S3,S4,S5,S6,S7,S8,S9,S10,S11⟩:=hA;go_wp2;refine rG (w:=wc) (gf:=gf) (lb:=lb) rfl eg rfl S1 S2 S3 S4
   (λs W=>I s W/\W.heap[B]?=some (.cells #[.pointer (some ⟨ps,0,none⟩)] 228 (0,0))/\J ([],[]) W/\wc.heap.size<=W.heap.size)
   ?hI (λs s' A a b=>⟨S6 s s' A a.1 b,a.2⟩) ?hIp S8 ?h0
   (λv=>{ tmps:=#[.func (.yield l) #[] #[],.pointer (some ⟨bq,0,none⟩),.pointer (some ⟨bk,0,none⟩),.pointer (some ⟨bc,0,none⟩),.pointer (some ⟨bl,0,none⟩),undef,.pointer (some ⟨B,0,none⟩),v,u8,u9,u10,u11,u12,u13,u14,u15,u16,u17,u18,u19,u20,.pointer (some ⟨ps,0,none⟩),.func (.func gf) #[] lb,v,u24,u25,u26,u27,u28,u29,u30,u31,u32,u33,u34,u35,u36,u37,u38,u39,u40,u41],defers:=[] }) ?assign ?body ?done
  case hI=>
   rintro s A B' ⟨h1,h2,h3,h4⟩ ho;obtain⟨a1,a2⟩:=S5 s A B' h1 ho;exact⟨a1,a2.tag (by decide) (by decide) h228 _ _ _ h2,hJ _ _ _ h3 a2,k_ h4 a2.size⟩
  case hIp=>
   rintro s W r r' ⟨h1,h2,h3,h4⟩ hl;have hg:=OG.putObj (T:=T) (lo:=bm) (N:=W0.heap.size) (D:=D) (F:=[]) (ob':=.loop r') hl (oL r) (by have:=hT.size;omega) (by have:=hT.size;omega);exact⟨S7 s W r r' h1 hl,hg.tag (by decide) (by decide) h228 _ _ _ h2,hJ _ _ _ h3 hg,by simpa using h4⟩
  case h0=>
   intro rec;have tW:Touch [] wc ((wc.alloc (.deferred (some []))).alloc (.loop rec)):=(tr_.alloc _).alloc _;exact⟨S9 rec,tW.tu 228 _ _ _ hB,hJ _ _ _ HJ0 (tW.g T bm W0.heap.size D []),tW.size⟩
  case assign=>
   intro v W K hK
   gi_wp2
   exact hK
  case body=>
   rintro s v s' W ⟨h1,h2,h3,h4⟩ hst;obtain⟨⟨vo,vn,vC,rfl⟩,hadd⟩:=S10 s v s' W h1 hst;have cB2:=bg h2;clear cB c3'
   gi_wp2
   refine⟨trivial,rfl,(CallsIn.inRound _ (callsIn_wide.2 hadd)).mono ?_⟩;rintro e w1 ⟨rfl,p1,p2,p3,p4⟩
   gi_wp2
   refine⟨λk ob e ho _=>p4 k ob e (by rcases ho with⟨r,rfl⟩|⟨ds,rfl⟩;exact oL r;exact oD ds),p2,p1,p3.tag (by decide) (by decide) h228 _ _ _ h2,hJ _ _ _ h3 p3,k_ h4 p3.size⟩
  case done=>
   rintro s W r r' hfin ⟨h1,h2,h3,h4⟩ hl hk;have hg:=OG.putObj (T:=T) (lo:=bm) (N:=W0.heap.size) (D:=D) (F:=[]) (ob':=.loop r') hl (oL r) (by have:=hT.size;omega) (by have:=hT.size;omega);obtain⟨rows,hQ,hfew,hend⟩:=S11 s W r r' hfin h1 hl;have h2':=hg.tag (by decide) (by decide) h228 _ _ _ h2;have hk':(W.putObj (wc.heap.size+1) (.loop r')).heap[wc.heap.size]?=some (.deferred (some [])):=(World.putObj_heap_other (by omega)).trans hk;have h4':=hJ _ _ _ h3 hg;have h5':wc.heap.size<=(W.putObj (wc.heap.size+1) (.loop r')).heap.size:=by simpa using h4
   generalize W.putObj (wc.heap.size+1) (.loop r')=W2 at *;clear h1 h2 h3 h4 hl hk hg S1 S2 S3 S4 S5 S6 S7 S8 S9 S10 S11 hfin;have cB2:=bg h2';clear cB c3' hB
   go_wp2_with (go_at_call 136;refine hend.mono ?_;rintro e w3 ⟨rfl,⟨Fm,tot,p1,hF1,hF2⟩,p2⟩)
   have h4'':=hM _ (Fm,[]) _ (hJ _ _ _ h4' (p2.g T)) ⟨rfl,rfl,rfl,hF1,hF2⟩;have hk'':=p2.step.other hk' (oD _).1 (oD _).2;have h2'':=p2.step.tag (t:=228) (by decide) (by decide) _ _ _ h2';have hsz3:=k_ h5' p2.step.size;clear h2' hk' h4' p2 cB2 hend h5';have hrl:=rE rows
   go_loopg [] (tot) (λg wr=>∃out,out.length+g=tot/\Sj wr ps bx bm blk cols count m j2 ks (rO rows) out Fm tot/\J (Fm,out) wr/\wr.heap[wc.heap.size]?=some (.deferred (some []))/\wr.heap[B]?=some (.cells #[.pointer (some ⟨ps,0,none⟩)] 228 (0,0))/\wc.heap.size<=wr.heap.size)
   case atStart=>exact⟨[],by simp,p1,h4'',hk'',h2'',hsz3⟩
   case round=>
    clear p1 h4'' hk'' h2'' hsz3;obtain⟨out,hlen2,hS,hJo,hkr,hBr,hsr⟩:=hrel;have cB3:=bg hBr;by_cases hlt:out.length<tot
    ·have hnx:=sorterNext_row wr ps bx bm blk cols count m j2 ks (rO rows) out Fm tot hS hlt (by omega);refine(wpIn_wide (n:=0)).1 ?_
     gi_wp2
     refine⟨trivial,rfl,(callsIn_wide.2 hnx).mono ?_⟩;rintro e w4 ⟨x,ao,al,aC,rfl,r1,r2,r3⟩;have hJ4:=hJ _ _ _ hJo (OM.g r3 hF1 T);have hk4:=r3.step.other hkr (oD _).1 (oD _).2;have hB4:=r3.step.tag (t:=228) (by decide) (by decide) _ _ _ hBr;have hs4:=k_ hsr r3.step.size;obtain⟨fn,tmps,assign,body,hy,hR⟩:=hY (Fm,out) (.slice ao al aC) (Fm,out++[x]) w4 hJ4 ⟨⟨hF1,r2.lt⟩,rfl,⟨x,rows,rfl,hQ,r1,r2.first⟩,r2.disk⟩
     gi_wp2
     refine⟨rfl,hR.mono ?_⟩;rintro e W5 ⟨rfl,hJ5,hG5⟩
     gi_wp2
     go_roundg (gk-1)
     case measure=>omega
     case rel=>exact⟨out++[x],by rw[c_,List.length_singleton];omega,r2.guard hG5,hJ5,hG5.guard.others _ _ hT.size hk4 (oD _),hG5.k.cells 228 (by decide) _ _ _ hB4,k_ hs4 hG5.guard.size⟩
    ·have hnx:=sorterNext_done wr ps bx bm blk cols count m j2 ks (rO rows) out Fm tot hS (by omega) (by omega);have hso:=hS.over (by omega);have hfi:=hS.first;refine(wpIn_wide (n:=0)).1 ?_
     gi_wp2
     refine⟨trivial,rfl,(callsIn_wide.2 hnx).mono ?_⟩;rintro e w4 ⟨rfl,r1,r2⟩;have hJ4:=hJ _ _ _ hJo (OM.g r2 hF1 T);have hk4:=r2.step.other hkr (oD _).1 (oD _).2
     gi_wp2
     refine⟨λ_ h=>(by cases h),?_⟩
     gi_wp2
     have hg:=OG.putObj (T:=T) (lo:=bm) (N:=W0.heap.size) (D:=D) (F:=Fm) (ob':=.deferred none) hk4 (oD _) hT.size (by have:=hT.size;omega);have hgd:Guard Aa (wc.heap.size+1) w4 (w4.putObj wc.heap.size (.deferred none)):=Guard.putOdd hk4 (oD _) (by omega);have hcl:=caw _ ps bx bm blk cols m j2 (0-1) .returning (r1.guard hgd);refine⟨by simp,.inl ⟨_,_,rfl,run_takeDeferred hk4,?_⟩⟩;refine⟨by simp,.inr ⟨by simp[Fence.wide],_,_,134,#[.pointer (some ⟨ps,0,none⟩)],rfl,by simp[invoke,go_sem],λ_ _=>trivial,hcl.mono ?_⟩⟩;rintro e u' w6 ⟨rfl,rfl,hC⟩;obtain⟨d',M',z1,z2⟩:=hC.st;have hlt6:∀k∈Fm,k<w6.heap.size:=λk hk=>s_ (hS.lt k hk) (k_ r2.step.size (k_ hg.size hC.step.step.size));exact⟨_,results_none rfl _ _ _,⟨_,rfl⟩,(Fm,out),⟨⟨hF1,hlt6⟩,⟨rows,hQ,hfi,hso⟩,d',M',z1,z2⟩,hJ _ _ _ (hJ _ _ _ hJ4 hg) (OM.g (hC.step.mono (by simp)) hF1 T)⟩
theorem SQ.mono {σ:Type}{gf:Nat}{lb:Array Value}{s0:σ}{fin fin':σ->World->Prop}{step step':σ->Value->World->σ->Prop}{mov:σ->σ->Prop}{Own Keep:σ->World->World->Prop}{W0:World}(h:SQ gf lb s0 fin step mov Own Keep W0)(hf:∀s W,fin s W->fin' s W)(hs:∀s v W s',step s v W s'->step' s v W s'):SQ gf lb s0 fin' step' mov Own Keep W0:=λl J h1 h2 h3 h4=>by
 refine(h l J h1 h2 (λs v s' W a b=>h3 s v s' W a (hs s v W s' b)) h4).mono ?_;rintro e W' ⟨a,s,b,c⟩;exact⟨a,s,hf s W' b,c⟩
theorem SG.mono {σ:Type}{gf:Nat}{lb:Array Value}{s0:σ}{fin fin':σ->World->Prop}{step step':σ->Value->World->σ->Prop}{T K:List TypeId}{X:List Nat}{lo N:Nat}{D:List Nat}{W0:World}(h:SG gf lb s0 fin step T K X lo N D W0)(hf:∀s W,fin s W->fin' s W)(hs:∀s v W s',step s v W s'->step' s v W s'):SG gf lb s0 fin' step' T K X lo N D W0:=
 SQ.mono h (λ_ _ a=>⟨a.1,hf _ _ a.2⟩) (λ_ _ _ _ a=>⟨a.1,a.2.1,hs _ _ _ _ a.2.2⟩)
theorem First.all {rows out:List Rec}(h:First ks c rows out)(ho:out.length=c\/out.Perm rows)(hl:rows.length<=c):out.Perm rows:=by
 rcases ho with ho|ho
 ·obtain⟨r,h1,_⟩:=h.rest;have:=h1.length_eq;rw[c_]at this;have hr:r=[]:=D_.1 (by omega);rw[hr,H_]at h1;exact h1
 ·exact ho
theorem sorted_gen (T:List TypeId)(W0:World)(bq bk bc bl q:Nat)(tv wv kv:Value)(gf:Nat)(lb:Array Value)(bx bm blk fan bud count cols:Nat)(ks:List K)(Q:List (List V)->Prop)(D:List Nat)(m j2:Nat)(h:SrtBox W0 bq bk bc bl q tv wv kv gf lb bx blk fan bud count)(eg:∀args w,(callFunc gf args).run prog w=.ok (.enter gf args) w)(h228:(228:TypeId)∉T)(hbm:bm<W0.heap.size)(hQ:∀rows,Q rows->rows.length<=count)
  (hsrc:∀wc ps bs ph,Sr wc ps (SC.new bx blk fan bud count kv ph)->HeadAt wc ph (.slice none 0 0) bs->wc.heap[bs]?=some (.cells #[.pointer (some ⟨ps,0,none⟩)] 228 (0,0))->Touch [] W0 wc->W0.heap.size<=ps->W0.heap.size<=ph->Src T bm W0.heap.size D wc gf lb ps (FI W0.heap.size D ps bx bm blk count cols m j2 ks Q)) :
  SG 132 #[.pointer (some ⟨bq,0,none⟩),.pointer (some ⟨bk,0,none⟩),.pointer (some ⟨bc,0,none⟩),.pointer (some ⟨bl,0,none⟩)] ([]:List Rec) (SFin bx bm blk cols m j2 ks Q) (SStep ks Q) T [] [] bm W0.heap.size D W0:=by
 refine(sab T W0 bq bk bc bl q tv wv kv gf lb bx bm blk fan bud count cols ks Q D m j2 h eg h228 hbm hsrc).mono ?_ ?_
 ·rintro out W ⟨⟨rows,h1,h2,h3⟩,d',M',h4,h5,_⟩;exact⟨⟨rows,h1,h2.all h3 (by rw[rE];exact hQ rows h1)⟩,h2.sorted,d',M',h4,h5⟩
 ·rintro out v W out' ⟨⟨x,rows,h1,h2,h3,h4⟩,_⟩;obtain⟨r,h5,_⟩:=h4.rest;exact⟨x,rows,h1,h2,h3,h4.sorted,r,h5⟩
section
variable {W0:World} {bq bk bc bl b q:Nat} {tv wv kv sv:Value} {bx bm blk fan bud count cols:Nat} {ks:List K} {vs:List Value} {rows:List (List V)} {d:DS} {M:List PF}
theorem SX.box (h:SX W0 bq bk bc bl b q tv wv kv sv bx bm blk fan bud count cols ks vs rows d M):SrtBox W0 bq bk bc bl q tv wv kv 162 #[.pointer (some ⟨b,0,none⟩)] bx blk fan bud count:=⟨h.hq,h.hQ,h.hk,h.keys.slice,h.hc,h.hl,by have:=h.b1;omega,h.bud2⟩
theorem values_src (T:List TypeId)(h:SX W0 bq bk bc bl b q tv wv kv sv bx bm blk fan bud count cols ks vs rows d M)(hl:Left d (2*rows.length+((P*(rows.length+1)+m)+1)) (rows.length+j))(wc:World)(ps bs ph:Nat)(p4:Sr wc ps (SC.new bx blk fan bud count kv ph))(p5:HeadAt wc ph (.slice none 0 0) bs)(p6:wc.heap[bs]?=some (.cells #[.pointer (some ⟨ps,0,none⟩)] 228 (0,0)))(t:Touch [] W0 wc)(hps:W0.heap.size<=ps)(hph:W0.heap.size<=ph)(hP:1000000000<=P+j)(hPj:P+j2<=j)(hPs:P<=900000)(hfan:2<=min fan (bud/2/blk)) :
  Src T bm W0.heap.size (dI bx bm M) wc 162 #[.pointer (some ⟨b,0,none⟩)] ps (FI W0.heap.size (dI bx bm M) ps bx bm blk count cols m j2 ks (λl=>l=rows)):=by
 have hA:=h.add0 hl p4 p5 p6 t hps hph;have hlen:=h.len;have hfew:=h.few;have tW:∀rec:Loop,Touch [] wc ((wc.alloc (.deferred (some []))).alloc (.loop rec)):=λrec=>(tr_.alloc _).alloc _;refine⟨Nat,0,λs _=>s=vs.length,λi v _ i'=>vs[i]?=some v/\i'=i+1,λ_ _=>False,λ_ A B=>A=B,λ_ W W'=>KT 83 W W',
  λi W=>Ad W0.heap.size (dI bx bm M) W ps bs bx bm blk count (min fan (bud/2/blk)) (bud/2) cols ((P*(rows.length+1)+m)+1) j ks rows i/\(∀i (_:i<vs.length) (_:i<rows.length),Ro W vs[i] rows[i])/\W0.heap.size<=W.heap.size,
  λrec=>vS _ b sv vs ((t.trans (tW rec)).tu 36 _ _ _ h.hb) (h.list.keep ((t.trans (tW rec)).tu 83)) (by omega),
  by rintro s A B' k ob rfl e _ _;exact e,λ_ _ _ _ h1 h2=>h1.trans h2,λ_ W r r' e=>(Guard.putObj (T:=[83]) (B:=wc.heap.size+2) e (by omega)).cells 83 (by decide),
  by rintro s A B' hi rfl;exact⟨hi,tr_.g T bm _ _ []⟩,λ_ _ _ _ h=>h.elim,?_,by rintro i v i' W r r' hs _;exact hs,
  λrec=>⟨hA.quiet (tW rec),λi a b=>(h.rW i a b).touch (t.trans (tW rec)),(t.trans (tW rec)).size⟩,?_,?_⟩
 ·rintro i W r r' ⟨h1,h2,h3⟩ hlp;have hg:=OwnS.putObj (T:=OT) (lo:=bm) (B:=0) (ob':=.loop r') hlp (oL r) (by omega) (by have:=h.pd.lt bm (by simp);have:=t.size;omega);exact⟨h1.putObj hlp (oL r),λi a b=>Sl3.keep (h2 i a b) (hg.cells 85 (by decide) (by decide)),by simpa using h3⟩
 ·rintro i v i' W ⟨h1,h2,h3⟩ ⟨hv,rfl⟩;obtain⟨hiv,hve⟩:=l_.1 hv;have hir:i<rows.length:=by omega
  have hrow:=h2 i hiv hir;rw[hve]at hrow;obtain⟨vo,vC,e⟩:=hrow.shape;refine⟨⟨_,_,_,e⟩,?_⟩;have hb1:=h.b1;have hbud:=h.bud1;refine(addSt_add h1 h3 h.oks hir hrow h.few (by omega)).mono ?_;rintro e w1 ⟨rfl,a1,a2⟩;exact⟨rfl,⟨a1,λi a b=>Sl3.keep (h2 i a b) (a2.step.tag (by decide) (by decide)),k_ h3 a2.step.size⟩,a2.step.tag (by decide) (by decide),a2.g T,λk ob e ho=>a2.step.other e ho.1 ho.2⟩
 ·rintro i W r r' rfl ⟨h1,h2,h3⟩ hlp;rw[hlen]at h1;exact⟨rows,rfl,h.few,addSt_end (h1.putObj hlp (oL r)) h.oks hP hPj hPs hfan (by have:=h.fan2;omega) h.c1 (by simpa using h3)⟩
theorem sorted_seq (W0:World)(bq bk bc bl b q:Nat)(tv wv kv sv:Value)(bx bm blk fan bud count cols:Nat)(ks:List K)(vs:List Value)(rows:List (List V))(d:DS)(M:List PF)(P m j j2:Nat)(h:SX W0 bq bk bc bl b q tv wv kv sv bx bm blk fan bud count cols ks vs rows d M)(hl:Left d (2*rows.length+((P*(rows.length+1)+m)+1)) (rows.length+j))(hP:1000000000<=P+j)(hPj:P+j2<=j)(hPs:P<=900000)(hcnt:rows.length<=count) :
  SG 132 #[.pointer (some ⟨bq,0,none⟩),.pointer (some ⟨bk,0,none⟩),.pointer (some ⟨bc,0,none⟩),.pointer (some ⟨bl,0,none⟩)] ([]:List Rec) (SFin bx bm blk cols m j2 ks (λl=>l=rows)) (SStep ks (λl=>l=rows)) [] [] [] bm W0.heap.size (dI bx bm M) W0:=by
 have hfan:2<=min fan (bud/2/blk):=by
  have e1:=h.fan1;have e3:=h.bud1;have e4:=h.b1;have e5:2<=bud/2/blk:=(Nat.le_div_iff_mul_le (by omega)).2 (by omega);omega
 exact sorted_gen [] W0 bq bk bc bl q tv wv kv 162 _ bx bm blk fan bud count cols ks _ _ m j2 h.box (enters_of func162 (by kernel_rfl) rfl) (by simp) (h.pd.lt bm (by simp)) (λl e=>by rw[e];exact hcnt) (λwc ps bs ph p4 p5 p6 t a b=>values_src [] h hl wc ps bs ph p4 p5 p6 t a b hP hPj hPs hfan)
end
end Go.Proofs.YtjoinhljdbljaaaGreat
namespace Go.Proofs.YtjoinhljdbljaaaGreat
open Go.RowKit Go.Proofs.Tryz
variable {D F:List Nat} {N b bL base bc bk bl blk bm bq bud bx cap cols count fan lo n q:Nat} {T:List TypeId} {W W' w w' w1 w2:World} {kv lv rv sv tv v wv:Value} {out rows:List (List V)} {t:TypeId} {vs:List Value}
def T3.list (x:T3):List Value:=[x.1,x.2.1,x.2.2]
def flat3 (L:List T3):List Value:=L.flatMap T3.list
theorem fA (L:List T3):(flat3 L).length=L.length*3:=by
 induction L with
 | nil=>rfl
 | cons x L ih=>simp only[flat3,List.flatMap_cons,c_,List.length_cons]at *;rw[ih];simp[T3.list];omega
theorem f_:∀(L:List T3) (i r:Nat) (h:i<L.length),r<3->(flat3 L)[i*3+r]?=(T3.list L[i])[r]?
 | [],_,_,h,_=>by simp at h
 | x::L,0,r,_,hr=>by
  simp only[flat3,List.flatMap_cons,List.getElem_cons_zero];rw[aa_ (by simp[T3.list];omega)]
  congr 1
  omega
 | x::L,i+1,r,h,hr=>by
  have ih:=f_ L i r (by simpa using h) hr;simp only[flat3,List.flatMap_cons,List.getElem_cons_succ]at *;rw[ae_ (by simp[T3.list];omega),<-ih]
  congr 1
  simp[T3.list];omega
theorem own_sl3 {g:Nat}{l:List T3}(h:w'.ownsRow base t 3 (.slice (some ⟨g,0,none⟩) n cap) l.length (flat3 l)):n=l.length/\base<=g/\Sl3 t w' (.slice (some ⟨g,0,none⟩) l.length cap) l:=by
 rcases h.2 with⟨e,_⟩|⟨g',cap',cur,e,hb,hh,hc,hm,hs,ht⟩
 ·simp at e
 ·simp only[Value.slice.injEq,j_,Addr.mk.injEq,and_true]at e;obtain⟨rfl,rfl,rfl⟩:=e;refine⟨rfl,hb,_,_,rfl,hc,hm,λ_=>⟨g,0,cur,_,rfl,hh,λi hi=>?_⟩⟩;have key:∀r,r<3->cur[i*3+r]?=(T3.list l[i])[r]?:=λr hr=>by
   have:=congrArg (λl=>l[i*3+r]?) ht;simp only[S_,Y_]at this;rw[if_pos (by omega),f_ l i r hi hr]at this;exact this
  have k0:=key 0 (by omega);have k1:=key 1 (by omega);have k2:=key 2 (by omega);rw[U_];exact⟨k0,k1,k2⟩
theorem row_form {l:List Value}(h:w'.ownsRow base t 3 v n l)(hn:1<=n):∃g gy,v=.slice (some ⟨g,0,none⟩) n gy:=by
 rcases h.2 with⟨_,e⟩|⟨g',cap',cur,e,_⟩
 ·omega
 ·exact⟨_,_,e⟩
theorem nilEq83 (a:Addr)(n c:Nat)(w:World):(binOp .eql 83 (.slice (some a) n c) (.slice none 0 0)).run prog w=.ok (.bool false) w:=by kernel_rfl
theorem rowClone_any (w:World)(v:Value)(row:List V)(h:Ro w v row)(h1:1<=row.length)(h2:row.length<=1000000) :
  Calls prog 118 #[v] w λe w'=>∃g cap,e=.returned (.slice (some ⟨g,0,none⟩) row.length cap)/\Ro w' (.slice (some ⟨g,0,none⟩) row.length cap) row/\w.heap.size<=g/\Touch [] w w':=by
 obtain⟨b,off,cap,rfl,hc,hm,hb,hx⟩:=Sl3.open h (by simpa using h1);obtain⟨i0,hi,hz0,hz1,hz2⟩:=info_parts info85;have HN:Hid (∀W,Touch [] w W->∀(j:Nat) (u:Value),(flat3 (row.map V.t))[j]?=some u->W.cell? (Addr.add ⟨b,off,none⟩ j)=some u):=λW hW j u hj=>by
  have hlt:=(l_.1 hj).1;rw[fA]at hlt;obtain⟨i,r,rfl,hr⟩:∃i r,j=i*3+r/\r<3:=⟨j/3,j%3,by omega,by omega⟩;have hi':i<(row.map V.t).length:=by omega
  rw[f_ _ i r hi' hr]at hj;obtain⟨x0,x1,x2⟩:=hx W (hW.tu _) i hi';rw[Addr.add_lit]
  match r,hr with
  | 0,_=>simp[T3.list]at hj;rw[<-Nat.add_assoc,Nat.add_zero,x0];simp[hj]
  | 1,_=>simp[T3.list]at hj;rw[<-Nat.add_assoc,x1];simp[hj]
  | 2,_=>simp[T3.list]at hj;rw[<-Nat.add_assoc,show off+i*3+2=off+i*3+1+1 by omega,x2];simp[hj]
 have HOC:Hid (∀u∈flat3 (row.map V.t),u.oneCell'=true):=λu hu=>by
  obtain⟨x,hx,hu⟩:=ap_.1 hu;obtain⟨y,_,rfl⟩:=z_.1 hx;simp only[T3.list,V.t,a_,i_,or_false]at hu;rcases hu with rfl|rfl|rfl<;>rfl
 simp only[u_]at *;clear h hx;have hne:=nilEq83;go_enter func118,ntmps118
 go_wp2_with (at_builtin;refine wpList_append_grows _ rfl (.tmp 5) (.tmp 6) 83 rfl 85 i0 _ 3 32 underlying83 hi hz0 hz1 hz2 rfl (by decide) _ 0 0 [] rfl (by simp) (by simp) (by intro _ _ j u hj;simp at hj) ⟨b,off,none⟩ row.length cap (flat3 (row.map V.t)) rfl (by rw[fA];simp) (HN.out _ (tr_.alloc _)) HOC.out (by omega) (by unfold maxLen;omega) (by omega) ?_)
 intro v1 w1 hO1 hG1;have hT1:Touch [] w w1:=(tr_.alloc (.cells #[] 85)).grown hG1 (λk hk=>by simp at hk);obtain⟨g,gy,rfl⟩:=row_form hO1 (by omega);have hO2:w1.ownsRow (w.heap.size+1) 85 3 (.slice (some ⟨g,0,none⟩) row.length gy) row.length (flat3 (row.map V.t)):=by simpa using hO1
 have HO:Hid (w1.ownsRow (w.heap.size+1) 85 3 (.slice (some ⟨g,0,none⟩) row.length gy) row.length (flat3 (row.map V.t))):=hO2;clear hO2;clear hO1 hG1;go_wp2;go_ret;have hO:=HO.out;have hl:row.length=(row.map V.t).length:=by simp
 obtain⟨_,h4,h5⟩:=own_sl3 (l:=row.map V.t) (by simpa using hO);refine⟨g,gy,rfl,?_,by omega,hT1⟩;unfold Ro;simpa using h5
variable [Inhabited Ground]
attribute [local go_sem] Oper.semAt_some
theorem info83:(prog.info? 83).map (λi=>(i.zero,i.size,i.bytes))=some (some (.slice none 0 0),1,24):=by kernel_rfl
def LW (w:World)(v:Value)(vs:List Value):Prop:=w.ownsRow 0 83 1 v vs.length vs
theorem LW.keep (h:LW w v vs)(k:KT 83 w w'):LW w' v vs:=by
 obtain⟨h1,h2⟩:=h;refine⟨h1,?_⟩;rcases h2 with h2|⟨g,cap,cur,e,hb,hh,rest⟩
 ·exact .inl h2
 ·exact .inr ⟨g,cap,cur,e,hb,k _ _ _ hh,rest⟩
theorem LW.slice {w:World}{v:Value}{vs:List Value}(h:LW w v vs):∃o n c,v=.slice o n c:=by
 rcases h.2 with⟨rfl,_⟩|⟨g,cap,cur,rfl,_⟩
 ·exact⟨_,_,_,rfl⟩
 ·exact⟨_,_,_,rfl⟩
theorem LW.block (h:LW w v vs):∀k,v.ownBlock=some k->∃cs,w.heap[k]?=some (.cells cs 83 (0,0)):=λk hk=>by
 rcases h.2 with⟨rfl,_⟩|⟨g,cap,cur,rfl,_,hh,_⟩
 ·simp[Value.ownBlock]at hk
 ·simp[Value.ownBlock]at hk;subst hk;exact⟨_,hh⟩
theorem SX.quiet {ks:List K}{d:DS}{M:List PF}(h:SX W bq bk bc bl b q tv wv kv sv bx bm blk fan bud count cols ks vs rows d M)(t:Touch [] W W'):SX W' bq bk bc bl b q tv wv kv sv bx bm blk fan bud count cols ks vs rows d M:=
 { h with hq:=t.tu _ _ _ _ h.hq,hQ:=t.tu _ _ _ _ h.hQ,hk:=t.tu _ _ _ _ h.hk,keys:=h.keys.touch t,hc:=t.tu _ _ _ _ h.hc,hl:=t.tu _ _ _ _ h.hl,hb:=t.tu _ _ _ _ h.hb,list:=h.list.keep (t.tu _),rW:=λi a b=>(h.rW i a b).touch t,pd:=h.pd.away t (by simp) }
structure Kept (lo:Nat)(w W:World):Prop where
 low:Low lo w W
 cells:∀t,t∉OT->t≠5->KT t w W
theorem Kept.trans {lo:Nat}{a b c:World}(h:Kept lo a b)(k:Kept lo b c):Kept lo a c:=⟨h.low.trans k.low,λt ht h5=>(h.cells t ht h5).trans (k.cells t ht h5)⟩
theorem Kept.mono {lo lo':Nat}{a b:World}(h:Kept lo a b)(hl:lo'<=lo):Kept lo' a b:=⟨h.low.mono hl,h.cells⟩
theorem Touch.kept (h:Touch [] W W'):Kept lo W W':=⟨h.low (Hi.nil lo),λt _ _=>h.tu t⟩
theorem Kept.new (h:Kept lo w W)(t:Touch F W W')(hF:∀k∈F,w.heap.size<=k)(hlo:lo<=w.heap.size):Kept lo w W':=by
 refine⟨h.low.trans (t.low (λk hk=>k_ hlo (hF k hk))),λt' ht h5 k cs f e=>?_⟩;have hlt:=(agi.1 e).1;rw[t.block k (by have:=h.low.size;omega) (λhk=>by have:=hF k hk;omega)];exact h.cells t' ht h5 k cs f e
theorem Kept.g (h:Kept lo w W)(o:OG T lo N D F W W')(hN:w.heap.size<=N):Kept lo w W':=
 ⟨h.low.trans o.low,λt h1 h2 k cs f e=>o.cells t h1 h2 k cs f (.inl (s_ (agi.1 e).1 hN)) (h.cells t h1 h2 k cs f e)⟩
theorem LW.keepB (h:LW w v vs)(k:∀g,v.ownBlock=some g->∀(cs:Array Value) (f:Nat×Nat),w.heap[g]?=some (.cells cs 83 f)->w'.heap[g]?=some (.cells cs 83 f)):LW w' v vs:=by
 obtain⟨h1,h2⟩:=h;refine⟨h1,?_⟩;rcases h2 with h2|⟨g,cap,cur,e,hb,hh,rest⟩
 ·exact .inl h2
 ·exact .inr ⟨g,cap,cur,e,hb,k g (by rw[e];simp[Value.ownBlock]) _ _ hh,rest⟩
structure CP (lo:Nat)(F:List Nat)(w W:World)(bL:Nat)(out:List (List V)):Prop where
 st:∃lv vs,W.heap[bL]?=some (.cells #[lv] 36 (0,0))/\LW W lv vs/\vs.length=out.length/\(∀i (_:i<vs.length) (_:i<out.length),Ro W vs[i] out[i])/\(∀k,lv.ownBlock=some k->w.heap.size<=k/\k∉F)/\(F=[]->lv=.slice none 0 0)
 kept:Kept lo w W
 lo_:lo<=w.heap.size
 at_:w.heap.size<=bL
theorem CP.own (h:CP lo F w W bL out)(o:OG T lo N D F W W')(hN:w.heap.size<=N)(hT:∀t∈[36,85],t∉T):CP lo F w W' bL out:=by
 obtain⟨lv,vs,h1,h2,h3,h4,h5,h6⟩:=h.st;refine⟨⟨lv,vs,o.tag (by decide) (by decide) (hT 36 (by decide)) _ _ _ h1,h2.keepB (λg hg cs f e=>o.spec 83 (by decide) g cs f ?_ e),h3,λi a b=>Sl3.keep (h4 i a b) (o.tag (by decide) (by decide) (hT 85 (by decide))),h5,h6⟩,h.kept.g o hN,h.lo_,h.at_⟩;by_cases hF:F=[]
 ·rw[h6 hF]at hg;simp[Value.ownBlock]at hg
 ·exact .inr ⟨hF,(h5 g hg).2⟩
theorem t_ (B:Nat)(t:Touch F W W')(hF:∀k∈F,∃cs t f,W.heap[k]?=some (.cells cs t f)/\t∉T):Guard T B W W'/\∀(k:Nat) (ob:Obj),W.heap[k]?=some ob->Odd ob->W'.heap[k]?=some ob:=by
 have hodd:∀(k:Nat) (ob:Obj),W.heap[k]?=some ob->Odd ob->W'.heap[k]?=some ob:=λk ob e ho=>by
  rw[t.block k (agi.1 e).1 (λhk=>?_)]
  ·exact e
  ·obtain⟨cs,t',f,e',_⟩:=hF k hk;rw[e]at e';cases e';exact ho.1 _ _ _ rfl
 refine⟨⟨t.size,λt' ht=>t.tag (λk hk cs f e=>?_),λk es c e=>?_,λk ob _ e ho=>hodd k ob e ho⟩,hodd⟩
 ·obtain⟨cs',t2,f',e',hn⟩:=hF k hk;rw[e]at e';cases e';exact hn ht
 ·rw[t.block k (agi.1 e).1 (λhk=>?_)]
  ·exact e
  ·obtain⟨cs,t',f,e',_⟩:=hF k hk;rw[e]at e';cases e'
theorem CP.push {g:Nat}{x:List V}(hB:W.heap[bL]?=some (.cells #[lv] 36 (0,0)))(h4:∀i (_:i<vs.length) (_:i<out.length),Ro W vs[i] out[i])(hlen:vs.length=out.length)(hlv:LW W lv vs)(hr:Ro w1 rv x)(t1:Touch [] W w1)(hO:LW w2 (.slice (some ⟨g,0,none⟩) (vs.length+1) cap) (vs++[rv]))(t2:Touch lv.ownBlock.toList w1 w2)(hk:Kept lo w W)(hlo:lo<=w.heap.size)(hat:w.heap.size<=bL)(hnv:∀k,lv.ownBlock=some k->w.heap.size<=k/\k∉F)(hg:lv.ownBlock=some g\/g=w1.heap.size)(hF:F≠[]/\∀k∈F,k<W.heap.size) :
  w2.heap[bL]?=some (.cells #[lv] 36 (0,0))/\CP lo F w (w2.setCell ⟨bL,0,none⟩ (.slice (some ⟨g,0,none⟩) (vs.length+1) cap)) bL (out++[x])/\Touch (bL::lv.ownBlock.toList) W (w2.setCell ⟨bL,0,none⟩ (.slice (some ⟨g,0,none⟩) (vs.length+1) cap)):=by
 have hlv1:=hlv.keep (t1.tu 83);have n2:∀t,(83:TypeId)≠t->NT t w1 lv.ownBlock.toList:=λt ht k hk cs f e=>by
  obtain⟨cs',h'⟩:=hlv1.block k (by simpa using hk);rw[h']at e;simp only[j_,Obj.cells.injEq]at e;exact ht e.2.1
 have hB2:w2.heap[bL]?=some (.cells #[lv] 36 (0,0)):=t2.tag (n2 36 (by decide)) _ _ _ (t1.tu 36 _ _ _ hB);have t3:Touch [bL] w2 (w2.setCell ⟨bL,0,none⟩ (.slice (some ⟨g,0,none⟩) (vs.length+1) cap)):=(Touch.refl [bL] w2).setCell (p:=⟨bL,0,none⟩) (by simp) _;have n3:∀t,(36:TypeId)≠t->NT t w2 [bL]:=λt ht=>nO hB2 ht;have tt:Touch (bL::lv.ownBlock.toList) W (w2.setCell ⟨bL,0,none⟩ (.slice (some ⟨g,0,none⟩) (vs.length+1) cap)):=((t1.mono (by simp)).trans (t2.mono (λk hk=>o_ _ hk))).trans (t3.mono (by simp));refine⟨hB2,⟨⟨_,vs++[rv],?_,hO.keep (t3.tag (n3 83 (by decide))),by simp[hlen],λi a b=>?_,λk hk'=>?_,λe=>absurd e hF.1⟩,hk.new tt (λk hk'=>?_) hlo,hlo,hat⟩,tt⟩
 ·rw[heap_setCell_same w2 bL 0 _ 36 _ hB2];simp
 ·have k85:KT 85 w1 (w2.setCell ⟨bL,0,none⟩ (.slice (some ⟨g,0,none⟩) (vs.length+1) cap)):=(t2.tag (n2 85 (by decide))).trans (t3.tag (n3 85 (by decide)));by_cases hi:i<vs.length
  ·have:=Sl3.keep (h4 i hi (by omega)) ((t1.tu 85).trans k85);rw[G_ hi,G_ (by omega)];exact this
  ·simp only[c_,List.length_singleton]at a b;have e:i=vs.length:=by omega
   subst e;have h1:(vs++[rv])[vs.length]'(by simp)=rv:=by simp
   have h2:(out++[x])[vs.length]'(by simp;omega)=x:=by simp[hlen]
   rw[h1,h2];exact Sl3.keep hr k85
 ·simp[Value.ownBlock]at hk';subst hk';rcases hg with e|e
  ·exact hnv g e
  ·have:=hk.low.size;have:=t1.size;exact⟨by omega,λhm=>by have:=hF.2 g hm;omega⟩
 ·rcases a_.1 hk' with rfl|hk'
  ·exact hat
  ·exact(hnv k (by simpa using hk')).1
theorem sae {F:Fence}{ops:Array Oper}{o:Oper}{a:Act}{K:Act->World->Prop}{Q:Exit->Act->World->Prop}{E:Prop}(hgd:o.guard=none)(s x:Operand)
  (ho:o.op=.call { callee:=.builtin .append,args:=#[s,x],argTypes:=#[36,36] }) (v:Value) (vs:List Value) (hs:a.eval s=v) (hown:LW w v vs)
  (ad:Addr) (y:Value) (c:Nat) (hx:a.eval x=.slice (some ad) 1 c) (hnews:w.cell? ad=some y) (hy:y.oneCell'=true) (hlen:vs.length<=1000000000)
  (h:∀g cap w',LW w' (.slice (some ⟨g,0,none⟩) (vs.length+1) cap) (vs++[y])->w.grownBy w' v.ownBlock->(v.ownBlock=some g\/g=w.heap.size)->K (a.put o.dst (.slice (some ⟨g,0,none⟩) (vs.length+1) cap)) w') :
  if Region.wanted o (yielded ops a.tmps)=true then Oper.wpIn F n prog o a w K Q else E:=by
 have hw:Region.wanted o (yielded ops a.tmps)=true:=by simp[Region.wanted,hgd]
 rw[if_pos hw];obtain⟨i0,hi,hz0,hz1,hz2⟩:=info_parts info83;obtain⟨g,cap,w',hrun,r1,r2,r3,_⟩:=run_append_lies (P:=prog) w 36 o.type 0 83 i0 (.slice none 0 0) 1 24 underlying36 hi hz0 hz1 hz2 rfl (by decide) v vs.length vs hown ad 1 c [y] (by simp) (λj u hj=>by
  match j,hj with
  | 0,hj=>simp at hj;subst hj;exact hnews) (by simpa using hy) (by decide) (by unfold maxLen;omega) (by omega) (x_ _) _ rfl
 unfold Oper.wpIn;refine⟨?_,?_⟩
 ·simp[Oper.about,ho,resolve,Target.leads,Sem.run_pure]
 ·rw[Oper.semAt_plain F _ _ (by rw[ho];intro c hc';cases hc')];simp[execOp,ho,resolve,invoke,builtin,hs,hx,hrun,Result.andThen];refine h g cap w' ?_ r2 r3;unfold LW;rw[c_,List.length_singleton];exact r1
theorem copied_gen {σ:Type}(T K:List TypeId)(X:List Nat)(w:World)(gf:Nat)(lb:Array Value)(s0:σ)(fin:σ->World->Prop)(step:σ->Value->World->σ->Prop)(lo:Nat)(D:List Nat)(rowsOf:σ->List (List V))(hlo:lo<=w.heap.size)(eg:∀args w,(callFunc gf args).run prog w=.ok (.enter gf args) w)(hT:∀t∈[36,85],t∉T)(hK:∀t∈[36,83],t∉K)(hX:∀k∈X,k<w.heap.size)
  (hseq:∀W,Touch [] w W->SG gf lb s0 fin step T K X lo W.heap.size D W) (hs0:rowsOf s0=[])
  (hstep:∀s v W s',step s v W s'->∃r,rowsOf s'=rowsOf s++[r]/\Ro W v r/\1<=r.length/\r.length<=1000/\(rowsOf s').length<=100000)
  (hstepP:∀s v (W:World) s' l r r',step s v W s'->W.heap[l]?=some (.loop r)->step s v (W.putObj l (.loop r')) s')
  (hfin:∀s (W:World) l ob ob',fin s W->W.heap[l]?=some ob->Odd ob->fin s (W.putObj l ob')) :
  Calls prog 82 #[.func (.func gf) #[] lb] w λe w'=>∃lv s,e=.returned lv/\fin s w'/\(∃vs',LW w' lv vs'/\vs'.length=(rowsOf s).length/\∀i (_:i<vs'.length) (_:i<(rowsOf s).length),Ro w' vs'[i] (rowsOf s)[i])/\Kept lo w w':=by
 refine callsIn_wide.1 (callsIn_of_wp_marks (n:=0) func82 rfl trivial (wpIn_wide.2 ?_));simp only[ntmps82,List.size_toArray,List.length_cons,List.length_nil,Nat.reduceAdd,Nat.reduceSub,P_,Array.replicate_zero,List.push_toArray,List.append_toArray,List.nil_append,List.cons_append];go_wp2;have tA:Touch [] w (w.alloc (.cells #[.slice none 0 0] 36)):=tr_.alloc _;have hA:=heap_alloc_new w (.cells #[.slice none 0 0] 36);have hAs:(w.alloc (.cells #[.slice none 0 0] 36)).heap.size=w.heap.size+1:=by simp
 obtain⟨wa,hwa⟩:∃wa,wa=w.alloc (.cells #[.slice none 0 0] 36):=⟨_,rfl⟩;rw[<-hwa]at tA hA hAs ⊢;clear hwa;have tW:∀rec:Loop,Touch [] w ((wa.alloc (.deferred (some []))).alloc (.loop rec)):=λrec=>(tA.alloc _).alloc _;have HSEQ:∀rec:Loop,SG gf lb s0 fin step T K X lo (wa.heap.size+2) D ((wa.alloc (.deferred (some []))).alloc (.loop rec)):=λrec=>by
  have h1:=hseq _ (tW rec);have e:((wa.alloc (.deferred (some []))).alloc (.loop rec)).heap.size=wa.heap.size+2:=by simp
  rw[e]at h1;exact h1
 have hN:w.heap.size<=wa.heap.size+2:=by omega
 refine rG (w:=wa) (gf:=gf) (lb:=lb) rfl eg rfl HSEQ
  (λs A B k ob ho e hk hle=>ho.others k ob (by omega) e (by rcases hk with⟨r,rfl⟩|⟨ds,rfl⟩;exact oL r;exact oD ds))
  (λ_ _ _ _ h1 h2=>h1.trans h2) (λs W r r' e=>(Guard.putObj (T:=Aa++K) e (by omega)).g (λk hk ob e'=>by rw[World.putObj_heap_other (by have:=hX k hk;omega)];exact e') _)
  (λs W=>CP lo s.1 w W w.heap.size (rowsOf s.2)) (λs A B hi ho=>hi.own ho hN hT) (λs s' A hi hm=>by
   rw[hm.2.2.1,<-hm.2.1];obtain⟨lv,vs,h1,h2,h3,h4,h5,h6⟩:=hi.st;exact⟨⟨lv,vs,h1,h2,h3,h4,λk hk=>by rw[h6 hm.1]at hk;simp[Value.ownBlock]at hk,λe=>absurd e hm.2.2.2.1⟩,hi.kept,hi.lo_,hi.at_⟩)
  (λs W r r' hi e=>hi.own (OG.putObj (T:=T) (lo:=lo) (N:=wa.heap.size) (D:=D) (F:=s.1) e (oL r) (by omega) (by omega)) (by omega) hT)
  (λs v s' W r r' hs e=>⟨⟨hs.1.1,λk hk=>by simpa using hs.1.2 k hk⟩,hs.2.1,hstepP _ _ _ _ _ _ _ hs.2.2 e⟩)
  (λrec=>⟨⟨.slice none 0 0,[],((tr_.alloc _).alloc _).tu 36 _ _ _ hA,World.ownsRow_nil _ _ _ _,by rw[hs0];rfl,by simp,by simp[Value.ownBlock],λ_=>rfl⟩,(tW rec).kept,hlo,e_ _⟩)
  (λv=>{ tmps:=#[.func (.func gf) #[] lb,undef,.slice none 0 0,.pointer (some ⟨w.heap.size,0,none⟩),v,.func (.func gf) #[] lb,v,undef,undef,undef,undef,undef,undef],defers:=[] }) ?assign ?body ?done
 case assign=>
  intro v W K hK
  gi_wp2
  exact hK
 case body=>
  rintro st v st' W hi ⟨hst0,hst1,hst2⟩;rw[hst1];have HF0:Hid (st.1≠[]/\∀k∈st.1,k<W.heap.size):=hst0;clear hst0 hst1;obtain⟨x,hout',hr,hx1,hx2,hle⟩:=hstep _ _ _ _ hst2;rw[hout']at hle ⊢;generalize rowsOf st.2=out at *;clear hout';obtain⟨lv,vs1,h1,h2,h3,h4,h5,_⟩:=hi.st;have HKP:=hi.kept;have c0:=bg h1;obtain⟨lvo,ln,lc,rfl⟩:=h2.slice;obtain⟨vo,vC,rfl⟩:=hr.shape;have f0:W.frozen? ⟨w.heap.size,0,none⟩=false:=by simp[World.frozen?,h1]
  have H3:Hid (vs1.length=out.length):=h3;have HCL:Hid (∀W',Touch [] W W'->Calls prog 118 #[.slice vo x.length vC] W' λe w'=>∃g cap,e=.returned (.slice (some ⟨g,0,none⟩) x.length cap)/\Ro w' (.slice (some ⟨g,0,none⟩) x.length cap) x/\W'.heap.size<=g/\Touch [] W' w'):=λW' hW=>rowClone_any W' _ x (hr.touch hW) hx1 (by omega);have hvl:vs1.length<=1000000:=by simp at hle;omega
  clear h3;have HEND:Hid (∀w3,CP lo st.1 w w3 w.heap.size (out++[x])->Touch (w.heap.size::(Value.slice lvo ln lc).ownBlock.toList) W w3->(∀(k:Nat) (ob:Obj),W.heap[k]?=some ob->((∃r,ob=.loop r)\/∃ds,ob=.deferred ds)->(k=wa.heap.size\/k=wa.heap.size+1)->w3.heap[k]?=some ob)/\KG K X (wa.heap.size+2) st.1 W w3/\CP lo st.1 w w3 w.heap.size (out++[x])):=λw3 z2 z3=>by
   obtain⟨g1,g2⟩:=t_ (T:=KeepT++K) (wa.heap.size+2) z3 (λk hk=>by
    rcases a_.1 hk with rfl|hk
    ·exact⟨_,_,_,h1,λhm=>(d_.1 hm).elim (by decide) (hK 36 (by decide))⟩
    ·obtain⟨cs,hc⟩:=h2.block k (by simpa using hk);exact⟨_,_,_,hc,λhm=>(d_.1 hm).elim (by decide) (hK 83 (by decide))⟩)
   refine⟨λk ob e ho _=>g2 k ob e (by rcases ho with⟨r,rfl⟩|⟨ds,rfl⟩;exact oL r;exact oD ds),⟨g1,λt ht k hk cs f e=>?_,λk hk ob e=>?_⟩,z2⟩
   ·rw[z3.block k (agi.1 e).1 (λhm=>?_)]
    ·exact e
    ·rcases a_.1 hm with rfl|hm
     ·rw[h1]at e;simp only[j_,Obj.cells.injEq]at e;rw[<-e.2.1]at ht;exact absurd ht (by decide)
     ·exact(h5 k (by simpa using hm)).2 hk
   ·rw[z3.block k (agi.1 e).1 (λhm=>?_)]
    ·exact e
    ·have h9:=hX k hk;rcases a_.1 hm with rfl|hm
     ·omega
     ·have:=(h5 k (by simpa using hm)).1;omega
  generalize x.length=vn at *
  gi_wp2
  refine wpIn_region_any (by kernel_rfl) ?_;change wpAnyIn _ _ _ _ _ _ _ _ _ (World.drew _);refine wpAnyIn_ready (rs:=[0,1]) (by kernel_rfl) (by simp) (AllReadyIn.cons rfl (λK hK=>?_) (AllReadyIn.cons rfl (λK hK=>?_) (AllReadyIn.nil)))
  ·go_simp;refine hK _ _ ?_;clear hK K;refine wpAnyIn_ready (rs:=[1]) (by kernel_rfl) (by simp) (AllReadyIn.cons rfl (λK hK=>?_) (AllReadyIn.nil));go_simp;refine hK _ _ ?_;clear hK K;refine wpAnyIn_ready (rs:=[2]) (by kernel_rfl) (by simp) (AllReadyIn.cons rfl (λK hK=>?_) (AllReadyIn.nil));go_simp;refine⟨trivial,rfl,(CallsIn.inRound _ (callsIn_wide.2 (HCL.out _ (tr_.drew)))).mono ?_⟩;rintro e w1 ⟨g,gy,rfl,p1,p2,p3⟩;refine hK _ _ ?_;clear hK K;have c1:=cO c0 ((tr_.drew).trans p3);have l1:w.heap.size<w1.heap.size:=lt_of_cell c1;have l2:w.heap.size≠w1.heap.size:=by omega
   refine wpAnyIn_ready (rs:=[3]) (by kernel_rfl) (by simp) (AllReadyIn.cons rfl (λK hK=>?_) (AllReadyIn.nil));go_simp;refine hK _ _ ?_;clear hK K;refine wpAnyIn_ready (rs:=[4]) (by kernel_rfl) (by simp) (AllReadyIn.cons rfl (λK hK=>?_) AllReadyIn.nil);refine sae rfl (.tmp 7) (.tmp 10) rfl (.slice lvo ln lc) vs1 rfl (h2.keep (((tr_.drew).trans (p3.alloc _)).tu 83)) ⟨w1.heap.size,0,none⟩ (.slice (some ⟨g,0,none⟩) vn gy) 1 rfl (by simp) rfl (by omega) ?_;intro g2 cap2 w2 q1 q2 q3;refine hK _ _ ?_;clear hK K;have hT1:Touch [] W (w1.alloc (.cells #[.slice (some ⟨g,0,none⟩) vn gy] 83)):=(tr_.drew).trans (p3.alloc _);have hT2:Touch (Value.slice lvo ln lc).ownBlock.toList (w1.alloc (.cells #[.slice (some ⟨g,0,none⟩) vn gy] 83)) w2:=(Touch.refl _ _).grown q2 (λk hk=>by simp[hk]);obtain⟨z1,z2,z3⟩:=CP.push (x:=x) h1 h4 H3.out h2 (p1.touch (tr_.alloc _)) hT1 q1 hT2 HKP hlo (e_ _) h5 q3 HF0.out;have d0:=bg z1;have g0:w2.frozen? ⟨w.heap.size,0,none⟩=false:=by simp[World.frozen?,z1]
   refine wpAnyIn_ready (rs:=[5]) (by kernel_rfl) (by simp) (AllReadyIn.cons rfl (λK hK=>?_) AllReadyIn.nil);go_simp;refine hK _ _ ?_;clear hK K;refine wpAnyIn_done (by kernel_rfl) ?_ _;exact HEND.out _ z2 z3
  ·go_simp;refine hK _ _ ?_;clear hK K;refine wpAnyIn_ready (rs:=[0,2]) (by kernel_rfl) (by simp) (AllReadyIn.cons rfl (λK hK=>?_) (AllReadyIn.cons rfl (λK hK=>?_) (AllReadyIn.nil)))
   ·go_simp;refine hK _ _ ?_;clear hK K;refine wpAnyIn_ready (rs:=[2]) (by kernel_rfl) (by simp) (AllReadyIn.cons rfl (λK hK=>?_) (AllReadyIn.nil));go_simp;refine⟨trivial,rfl,(CallsIn.inRound _ (callsIn_wide.2 (HCL.out _ (tr_.drew)))).mono ?_⟩;rintro e w1 ⟨g,gy,rfl,p1,p2,p3⟩;refine hK _ _ ?_;clear hK K;have c1:=cO c0 ((tr_.drew).trans p3);have l1:w.heap.size<w1.heap.size:=lt_of_cell c1;have l2:w.heap.size≠w1.heap.size:=by omega
    refine wpAnyIn_ready (rs:=[3]) (by kernel_rfl) (by simp) (AllReadyIn.cons rfl (λK hK=>?_) (AllReadyIn.nil));go_simp;refine hK _ _ ?_;clear hK K;refine wpAnyIn_ready (rs:=[4]) (by kernel_rfl) (by simp) (AllReadyIn.cons rfl (λK hK=>?_) AllReadyIn.nil);refine sae rfl (.tmp 7) (.tmp 10) rfl (.slice lvo ln lc) vs1 rfl (h2.keep (((tr_.drew).trans (p3.alloc _)).tu 83)) ⟨w1.heap.size,0,none⟩ (.slice (some ⟨g,0,none⟩) vn gy) 1 rfl (by simp) rfl (by omega) ?_;intro g2 cap2 w2 q1 q2 q3;refine hK _ _ ?_;clear hK K;have hT1:Touch [] W (w1.alloc (.cells #[.slice (some ⟨g,0,none⟩) vn gy] 83)):=(tr_.drew).trans (p3.alloc _);have hT2:Touch (Value.slice lvo ln lc).ownBlock.toList (w1.alloc (.cells #[.slice (some ⟨g,0,none⟩) vn gy] 83)) w2:=(Touch.refl _ _).grown q2 (λk hk=>by simp[hk]);obtain⟨z1,z2,z3⟩:=CP.push (x:=x) h1 h4 H3.out h2 (p1.touch (tr_.alloc _)) hT1 q1 hT2 HKP hlo (e_ _) h5 q3 HF0.out;have d0:=bg z1;have g0:w2.frozen? ⟨w.heap.size,0,none⟩=false:=by simp[World.frozen?,z1]
    refine wpAnyIn_ready (rs:=[5]) (by kernel_rfl) (by simp) (AllReadyIn.cons rfl (λK hK=>?_) AllReadyIn.nil);go_simp;refine hK _ _ ?_;clear hK K;refine wpAnyIn_done (by kernel_rfl) ?_ _;exact HEND.out _ z2 z3
   ·go_simp;refine⟨trivial,rfl,(CallsIn.inRound _ (callsIn_wide.2 (HCL.out _ (tr_.drew)))).mono ?_⟩;rintro e w1 ⟨g,gy,rfl,p1,p2,p3⟩;refine hK _ _ ?_;clear hK K;have c1:=cO c0 ((tr_.drew).trans p3);have l1:w.heap.size<w1.heap.size:=lt_of_cell c1;have l2:w.heap.size≠w1.heap.size:=by omega
    refine wpAnyIn_ready (rs:=[0,3]) (by kernel_rfl) (by simp) (AllReadyIn.cons rfl (λK hK=>?_) (AllReadyIn.cons rfl (λK hK=>?_) (AllReadyIn.nil)))
    ·go_simp;refine hK _ _ ?_;clear hK K;refine wpAnyIn_ready (rs:=[3]) (by kernel_rfl) (by simp) (AllReadyIn.cons rfl (λK hK=>?_) (AllReadyIn.nil));go_simp;refine hK _ _ ?_;clear hK K;refine wpAnyIn_ready (rs:=[4]) (by kernel_rfl) (by simp) (AllReadyIn.cons rfl (λK hK=>?_) AllReadyIn.nil);refine sae rfl (.tmp 7) (.tmp 10) rfl (.slice lvo ln lc) vs1 rfl (h2.keep (((tr_.drew).trans (p3.alloc _)).tu 83)) ⟨w1.heap.size,0,none⟩ (.slice (some ⟨g,0,none⟩) vn gy) 1 rfl (by simp) rfl (by omega) ?_;intro g2 cap2 w2 q1 q2 q3;refine hK _ _ ?_;clear hK K;have hT1:Touch [] W (w1.alloc (.cells #[.slice (some ⟨g,0,none⟩) vn gy] 83)):=(tr_.drew).trans (p3.alloc _);have hT2:Touch (Value.slice lvo ln lc).ownBlock.toList (w1.alloc (.cells #[.slice (some ⟨g,0,none⟩) vn gy] 83)) w2:=(Touch.refl _ _).grown q2 (λk hk=>by simp[hk]);obtain⟨z1,z2,z3⟩:=CP.push (x:=x) h1 h4 H3.out h2 (p1.touch (tr_.alloc _)) hT1 q1 hT2 HKP hlo (e_ _) h5 q3 HF0.out;have d0:=bg z1;have g0:w2.frozen? ⟨w.heap.size,0,none⟩=false:=by simp[World.frozen?,z1]
     refine wpAnyIn_ready (rs:=[5]) (by kernel_rfl) (by simp) (AllReadyIn.cons rfl (λK hK=>?_) AllReadyIn.nil);go_simp;refine hK _ _ ?_;clear hK K;refine wpAnyIn_done (by kernel_rfl) ?_ _;exact HEND.out _ z2 z3
    ·go_simp;refine hK _ _ ?_;clear hK K;refine wpAnyIn_ready (rs:=[0]) (by kernel_rfl) (by simp) (AllReadyIn.cons rfl (λK hK=>?_) (AllReadyIn.nil));go_simp;refine hK _ _ ?_;clear hK K;refine wpAnyIn_ready (rs:=[4]) (by kernel_rfl) (by simp) (AllReadyIn.cons rfl (λK hK=>?_) AllReadyIn.nil);refine sae rfl (.tmp 7) (.tmp 10) rfl (.slice lvo ln lc) vs1 rfl (h2.keep (((tr_.drew).trans (p3.alloc _)).tu 83)) ⟨w1.heap.size,0,none⟩ (.slice (some ⟨g,0,none⟩) vn gy) 1 rfl (by simp) rfl (by omega) ?_;intro g2 cap2 w2 q1 q2 q3;refine hK _ _ ?_;clear hK K;have hT1:Touch [] W (w1.alloc (.cells #[.slice (some ⟨g,0,none⟩) vn gy] 83)):=(tr_.drew).trans (p3.alloc _);have hT2:Touch (Value.slice lvo ln lc).ownBlock.toList (w1.alloc (.cells #[.slice (some ⟨g,0,none⟩) vn gy] 83)) w2:=(Touch.refl _ _).grown q2 (λk hk=>by simp[hk]);obtain⟨z1,z2,z3⟩:=CP.push (x:=x) h1 h4 H3.out h2 (p1.touch (tr_.alloc _)) hT1 q1 hT2 HKP hlo (e_ _) h5 q3 HF0.out;have d0:=bg z1;have g0:w2.frozen? ⟨w.heap.size,0,none⟩=false:=by simp[World.frozen?,z1]
     refine wpAnyIn_ready (rs:=[5]) (by kernel_rfl) (by simp) (AllReadyIn.cons rfl (λK hK=>?_) AllReadyIn.nil);go_simp;refine hK _ _ ?_;clear hK K;refine wpAnyIn_done (by kernel_rfl) ?_ _;exact HEND.out _ z2 z3
 case done=>
  rintro st W r r' ⟨_,hf⟩ hi hlp hk;have o1:OG T lo wa.heap.size D st.1 W (W.putObj (wa.heap.size+1) (.loop r')):=OG.putObj hlp (oL r) (by omega) (by omega);have hk1:(W.putObj (wa.heap.size+1) (.loop r')).heap[wa.heap.size]?=some (.deferred (some [])):=(World.putObj_heap_other (by omega)).trans hk;have hf':=hfin _ _ _ _ (.loop r') hf hlp (oL r);have hi':=hi.own o1 (by omega) hT;generalize W.putObj (wa.heap.size+1) (.loop r')=W2 at *;clear hf hi hk hlp o1;have o2:OG T lo wa.heap.size D st.1 W2 (W2.putObj wa.heap.size (.deferred none)):=OG.putObj hk1 (oD _) (by omega) (by omega);have hf'':=hfin _ _ _ _ (.deferred none) hf' hk1 (oD _);obtain⟨lv0,_,z1,_⟩:=id hi'.st;obtain⟨lv,vs2,z1',z2',z3,z4',_⟩:=(hi'.own o2 (by omega) hT).st;have hkp:=hi'.kept.g o2 (by omega);have e0:lv0=lv:=by
   have:=o2.tag (by decide) (by decide) (hT 36 (by decide)) _ _ _ z1;rw[z1']at this;simpa using this.symm
  subst e0;have c0:=bg z1;have HZ:Hid (vs2.length=(rowsOf st.2).length):=z3;clear z3 o2 z1';go_wp2;refine⟨by simp,.inl ⟨_,_,rfl,run_takeDeferred hk1,?_⟩⟩;exact⟨_,results_tmp rfl _ _ _,lv0,st.2,rfl,hf'',⟨vs2,z2',HZ.out,z4'⟩,hkp⟩
theorem copied_any (w:World)(bq bk bc bl b q:Nat)(tv wv kv sv:Value)(bx bm blk fan bud count cols:Nat)(ks:List K)(vs:List Value)(rows:List (List V))(d:DS)(M:List PF)(P m j j2:Nat)(h:SX w bq bk bc bl b q tv wv kv sv bx bm blk fan bud count cols ks vs rows d M)(hl:Left d (2*rows.length+((P*(rows.length+1)+m)+1)) (rows.length+j))(hP:1000000000<=P+j)(hPj:P+j2<=j)(hPs:P<=900000)(hcnt:rows.length<=count) :
  Calls prog 82 #[.func (.func 132) #[] #[.pointer (some ⟨bq,0,none⟩),.pointer (some ⟨bk,0,none⟩),.pointer (some ⟨bc,0,none⟩),.pointer (some ⟨bl,0,none⟩)]] w λe w'=>∃lv out,e=.returned lv/\out.Perm (rO rows)/\Srt ks out/\(∃vs',LW w' lv vs'/\vs'.length=out.length/\∀i (_:i<vs'.length) (_:i<out.length),Ro w' vs'[i] out[i].row)/\(∃d' M',RS w' bx bm blk cols d' M' [] none/\Left d' m j2)/\Kept bm w w':=by
 have hbm:bm<w.heap.size:=h.pd.lt bm (by simp);refine(copied_gen [] [] [] w 132 _ ([]:List Rec) _ _ bm (dI bx bm M) (λout=>out.map Rec.row) (Z_ hbm) (enters_of func132 (by kernel_rfl) rfl) (by simp) (by simp) (by simp) (λW hW=>sorted_seq W bq bk bc bl b q tv wv kv sv bx bm blk fan bud count cols ks vs rows d M P m j j2 (h.quiet hW) hl hP hPj hPs hcnt) rfl ?_ ?_ ?_).mono ?_
 ·rintro out v W out' ⟨x,rows',rfl,rfl,hr,_,rest,hp⟩;have hlen:=hp.length_eq;simp only[c_,List.length_singleton,rE]at hlen;obtain⟨i,hi,rfl⟩:=r_ (hp.mem_iff.1 (by simp:x∈out++[x]++rest));have hxl:=(h.oks.ok i hi).len;simp only at hxl;have h1:=h.c1;have h2:=h.c2;have h3:=h.few;exact⟨_,by simp,hr,by simp only;omega,by simp only;omega,by simp;omega⟩
 ·rintro out v W out' l r r' ⟨x,rows',h1,h2,hr,h3⟩ e;exact⟨x,rows',h1,h2,Sl3.keep hr ((OG.putObj (T:=[]) (lo:=0) (N:=0) (D:=[]) (F:=[]) (ob':=.loop r') e (oL r) (x_ _) (x_ _)).tag (by decide) (by decide) (by simp)),h3⟩
 ·rintro out W l ob ob' ⟨h1,h2,d',M',h3,h4⟩ e ho;exact⟨h1,h2,d',M',h3.guard (Guard.putOdd (B:=l+1) e ho (by omega)),h4⟩
 ·rintro e w' ⟨lv,out,rfl,⟨⟨rows',rfl,h1⟩,h2,h3⟩,⟨vs',a,b,c⟩,h5⟩;exact⟨lv,out,rfl,h1,h2,⟨vs',a,by simpa using b,λi hi hj=>by have:=c i hi (by simpa using hj);simpa using this⟩,h3,h5⟩
end Go.Proofs.YtjoinhljdbljaaaGreat
