/- An outer join with the first none of a table's rows, and what follows. -/
import Derived.Test.YtjoinhljdbljaaaGreatJoLToJoS
set_option maxHeartbeats 40000000
set_option maxRecDepth 20000
set_option linter.unusedSectionVars false
namespace Go.Proofs.YtjoinhljdbljaaaGreat
open Go.RowKit Go.Proofs.Tryz
variable [Inhabited Ground]
variable {N b bC bT bc bk blk bm bo bt bud bx fan g gp i j k lc ln:Nat} {W W' w w' w1 w2 wc:World} {c cb cf cu:Int} {f:Nat×Nat} {ks:List K} {l l1 rows:List (List V)} {lo:Option Addr} {lv pv sv tv:Value} {o:Oper} {ob x:Obj} {ou rs:List Rec} {r:List V} {vs:List Value}
section
variable {w:World} {gp:Nat} {sv:Value} {name:ByteArray} {ko:Option Addr} {kn kc:Nat} {n nt:ND} {vs:List Value} {rows:List (List V)} {cols others:List Int} {bx bm blk fan bud:Nat} {XC:List Nat} {d:DS} {M:List PF} {tO:Option Addr} {tn tc file:Nat} {P0 P1 P2 m j0 j1 j2 j3:Nat} {ksT:List K}
theorem answerOuter_any (h:Ak w gp [sN name,sN name,nt,n] (.slice tO tn tc) sv name ko kn kc n vs rows cols others bx bm blk fan bud XC d M)(hop:n.op=5)(hnl:n.l=0)(hnr:n.r=2)(htop:nt.op=3)(htl:nt.l=1)(htr:nt.r=0)(htc:nt.cnt=0)(hts:nt.Slices)(keys:KA w nt.kv ksT)(numT:SL blk fan bud kn ksT rows)(hjr:JRows blk true cols others kn rows [])(hf:(file:Int)=d.last+1)(hlast:d.last<=900000000)
  (hl:Left d (2*rows.length+((P0*(rows.length+1)+((P1*1+(2*rows.length+((P2*(rows.length+1)+m)+1)))+1))+1)) (rows.length+j0+1)) (hP0:1000000000<=P0+j0) (hPj0:P0+j1<=j0) (hPs0:P0<=900000) (hP1:1000000000<=P1+j1) (hPj1:P1+(rows.length+j2)<=j1) (hPs1:P1<=900000) (hP2:1000000000<=P2+j2) (hPj2:P2+j3<=j2) (hPs2:P2<=900000) :
  Calls prog 59 #[.slice tO tn tc,.slice (some ⟨gp,0,none⟩) 4 4,.agg #[.int .i64 (blk:Int),.int .i64 (fan:Int),.int .i64 (bud:Int)],.pointer (some ⟨bx,0,none⟩)] w λe w'=>∃lv,e=.returned lv/\∃out,(∃rs ou,JR (others.map keyOf) [] rs/\First (cols.map keyOf) 20000 (rO rows) ou/\(ou.length=20000\/ou.Perm (rO rows))/\out=jA true cols others kn (rs.map Rec.row) (ou.map Rec.row))/\(∃vs',LW w' lv vs'/\vs'.length=out.length/\∀i (_:i<vs'.length) (_:i<out.length),Ro w' vs'[i] out[i])/\Kept bm w w':=by
 have hkn:kn<=1000:=h.nU.c2;have hbm:bm<w.heap.size:=h.pd.lt bm (by simp);have hmine:gla<(file:Int):=by have:=h.ok.base;omega
 refine answer_gen w gp 4 blk fan bud bx tO tn tc #[z0,.nilFunc,z0,.nilFunc,z0,.nilFunc,z0,.nilFunc] (λk=>if k<=1 then sN name else if k=2 then nt else n) (OuterSt w (w.heap.size+1) (w.heap.size+1+1) gp tO tn tc kn sv name ko kc n nt vs rows cols others bx bm blk fan bud XC file ((P1*1+(2*rows.length+((P2*(rows.length+1)+m)+1)))+1) j1) _ (by omega) (by omega) make163q ⟨?_,(((tr_.alloc _).alloc _).alloc _).keptQ,⟨((tr_.alloc _).alloc _).alloc _,(Below.heap_alloc _ _ _ (by simp)).trans (new2 _ _ _)⟩,rfl⟩ ⟨?_,?_,?_⟩
 ·have:=heap_alloc_new ((w.alloc (.cells #[.int .i64 (blk:Int),.int .i64 (fan:Int),.int .i64 (bud:Int)] 51)).alloc (.cells #[.slice tO tn tc,.int .i64 (blk:Int),.int .i64 (fan:Int),.int .i64 (bud:Int),.pointer (some ⟨bx,0,none⟩),.slice none 0 0] 162)) (.cells #[z0,.nilFunc,z0,.nilFunc,z0,.nilFunc,z0,.nilFunc] 167);rw[World.size_alloc,World.size_alloc]at this;exact this
 ·rintro k cs W hk ⟨_,hkq,_⟩;have hp:Pn W gp [sN name,sN name,nt,n]:=(hkq.kept (by omega)).2 79 (by decide) (by decide) _ _ _ h.plan;rcases k with _|_|_|_|k
  ·exact⟨⟨⟨_,_,_,rfl⟩,⟨_,_,_,rfl⟩,⟨_,_,_,rfl⟩,⟨_,_,_,rfl⟩⟩,hp.cell (k:=0) rfl⟩
  ·exact⟨⟨⟨_,_,_,rfl⟩,⟨_,_,_,rfl⟩,⟨_,_,_,rfl⟩,⟨_,_,_,rfl⟩⟩,hp.cell (k:=1) rfl⟩
  ·exact⟨hts,hp.cell (k:=2) rfl⟩
  ·exact⟨h.sl,hp.cell (k:=3) rfl⟩
  ·omega
 ·rintro k cs W hk ⟨hG,hkq,hst⟩;have tB:Touch [] W (W.alloc (.cells (if k<=1 then sN name else if k=2 then nt else n).cells 79)):=tr_.alloc _;generalize W.alloc (.cells (if k<=1 then sN name else if k=2 then nt else n).cells 79)=WB at *;have hGB:=tB.tu _ _ _ _ hG;have hgB:=(agi.1 hGB).1;have fin:∀(W2:World) (i:Int) (f:Value),Touch [] WB W2->W2.heap[w.heap.size+1+1]?=some (.cells cs 167 (0,0))/\((W2.setCell ⟨w.heap.size+1+1,k*2,none⟩ (.int .i64 i)).setCell ⟨w.heap.size+1+1,k*2+1,none⟩ f).heap[w.heap.size+1+1]?=some (.cells (setR cs k i f) 167 (0,0))/\Touch [w.heap.size+1+1] W2 ((W2.setCell ⟨w.heap.size+1+1,k*2,none⟩ (.int .i64 i)).setCell ⟨w.heap.size+1+1,k*2+1,none⟩ f)/\KQ bm (w.heap.size+1) w ((W2.setCell ⟨w.heap.size+1+1,k*2,none⟩ (.int .i64 i)).setCell ⟨w.heap.size+1+1,k*2+1,none⟩ f):=λW2 i f t2=>by
   have e2:=t2.tu _ _ _ _ hGB;obtain⟨e3,t3⟩:=resSet e2 k i f;exact⟨e2,e3,t3,((hkq.trans tB.keptQ).trans t2.keptQ).new t3 (λj hj=>by rw[ms_ hj];omega) (by omega)⟩
  have fin0:Touch [] w W->W.heap[w.heap.size+1]?=some (.cells (QC (.slice tO tn tc) blk fan bud bx (.slice none 0 0)) 162 (0,0))->∀(W2 W3:World) (cs:Array Value),Touch [] WB W2->W2.heap[w.heap.size+1+1]?=some (.cells cs 167 (0,0))->Touch [w.heap.size+1+1] W2 W3->Touch [] w W3/\W3.heap[w.heap.size+1]?=some (.cells (QC (.slice tO tn tc) blk fan bud bx (.slice none 0 0)) 162 (0,0)):=λt hQ W2 W3 cs t2 e2 t3=>
   ⟨((t.trans tB).trans t2).more t3 (λj hj=>.inr (by rw[ms_ hj];omega)),t3.tag (nO e2 (by decide)) _ _ _ ((tB.trans t2).tu _ _ _ _ hQ)⟩
  rcases k with _|_|_|_|k
  ·obtain⟨⟨t,hQ⟩,rfl⟩:=hst;refine(rY WB _ _ 4 kn name sv 0 .nilFunc (.inl rfl) (by omega) hgB (by simp[World.cell?,hGB,z0]) (by simp[World.cell?,hGB]) ((h.quiet (t.trans tB)).scan (tB.tu _ _ _ _ hQ))).mono ?_;rintro e W2 ⟨b,rfl,hb,t2⟩;obtain⟨e2,e3,t3,t4⟩:=fin W2 kn (fV b) t2;have t5:=fin0 t hQ W2 _ _ t2 e2 t3;refine⟨_,_,_,_,rfl,e2,rfl,false,(wI _ gp 4 0 (by omega) (by omega) (.inr ((h.plan.quiet t5.1).cell (k:=0) rfl).1)).mono ?_⟩;rintro e W4 ⟨rfl,rfl⟩;exact⟨rfl,.inl ⟨rfl,e3,t4,t5,b,rfl,t3.tag (nO e2 (by decide)) _ _ _ hb⟩⟩
  ·obtain⟨⟨t,hQ⟩,b,rfl,hb⟩:=hst;refine(rY WB _ _ 4 kn name sv kn (fV b) (.inr ⟨_,_,_,rfl⟩) (by omega) hgB (by simp[World.cell?,hGB,kV]) (by simp[World.cell?,hGB]) ((h.quiet (t.trans tB)).scan (tB.tu _ _ _ _ hQ))).mono ?_;rintro e W2 ⟨c,rfl,hc,t2⟩;obtain⟨e2,e3,t3,t4⟩:=fin W2 kn (fV c) t2;have t5:=fin0 t hQ W2 _ _ t2 e2 t3;refine⟨_,_,_,_,rfl,e2,rfl,false,(wI _ gp 4 1 (by omega) (by omega) (.inr ((h.plan.quiet t5.1).cell (k:=1) rfl).1)).mono ?_⟩;rintro e W4 ⟨rfl,rfl⟩;exact⟨rfl,.inl ⟨rfl,e3,t4,t5,b,c,rfl,t3.tag (nO e2 (by decide)) _ _ _ ((tB.trans t2).tu _ _ _ _ hb),t3.tag (nO e2 (by decide)) _ _ _ hc⟩⟩
  ·obtain⟨⟨t,hQ⟩,b,c,rfl,hb,hc⟩:=hst;refine(resultTop_any WB (w.heap.size+1) (w.heap.size+1+1) 4 1 162 kn nt kn (fV b) #[.pointer (some ⟨c,0,none⟩)] 0 hts htop (by simp[htl]) htr (by simp[htc]) ⟨_,_,_,rfl⟩ (by omega) hgB (by simp[World.cell?,hGB,kV]) (by simp[World.cell?,hGB,fV]) (by simp[World.cell?,hGB,kV]) (by simp[World.cell?,hGB])).mono ?_;rintro e W2 ⟨bq,bk,bc,bl,rfl,z1,z2,z3,z4,t2⟩;obtain⟨e2,e3,t3,t4⟩:=fin W2 kn (.func (.func 132) #[] #[.pointer (some ⟨bq,0,none⟩),.pointer (some ⟨bk,0,none⟩),.pointer (some ⟨bc,0,none⟩),.pointer (some ⟨bl,0,none⟩)]) t2;have t5:=fin0 t hQ W2 _ _ t2 e2 t3;have hp5:=h.plan.quiet t5.1;obtain⟨x0,x1,x2,x3,x4,x5,x6,x7,x8⟩:=hp5.cell (k:=3) rfl;refine⟨_,_,_,_,rfl,e2,rfl,true,(waits_yes _ gp 4 2 n nt.op (by omega) (by omega) (hp5.cell (k:=2) rfl).1 (by rw[htop];decide) h.sl (by rw[hnl];decide) x0 x1 x2 x3 x4 x5 x6 x7 x8).mono ?_⟩;rintro e W4 ⟨rfl,t6⟩;have k3:∀{t:TypeId},(167:TypeId)≠t->KT t W2 _:=λht=>t3.tag (nO e2 ht);have tw4:=t5.1.trans t6;have hQ4:=t6.tu _ _ _ _ t5.2;refine⟨rfl,.inr ⟨rfl,t6.tu _ _ _ _ e3,((h.quiet tw4).none hQ4 (by omega) (t6.tu _ _ _ _ (k3 (by decide) _ _ _ ((tB.trans t2).tu _ _ _ _ hc))) (t6.tu _ _ _ _ (k3 (by decide) _ _ _ z1)) (t6.tu _ _ _ _ (k3 (by decide) _ _ _ z2)) (t6.tu _ _ _ _ (k3 (by decide) _ _ _ z3)) (t6.tu _ _ _ _ (k3 (by decide) _ _ _ z4)) (keys.touch tw4) numT hf hl hP0 hPj0 hPs0 hlast).mono ?_⟩⟩;rintro e W5 ⟨wb,r,g,cap,rfl,hw,⟨d2,M2,g1,g2,g3,g4,g5⟩,hk5⟩;have kt:∀{t:TypeId},t∉OT->t≠5->(162:TypeId)≠t->KT t W4 W5:=λa b c=>hk5.tag hQ4 a b c;have e5:=kt (by decide) (by decide) (by decide) _ _ _ (t6.tu _ _ _ _ e3);have t7:Touch [w.heap.size+1+1] W5 (W5.setCell ⟨w.heap.size+1+1,2*2+1,none⟩ (fW wb)):=(Touch.refl [w.heap.size+1+1] W5).setCell (p:=⟨w.heap.size+1+1,2*2+1,none⟩) (by simp) _;have k7:∀{t:TypeId},(167:TypeId)≠t->KT t W5 (W5.setCell ⟨w.heap.size+1+1,2*2+1,none⟩ (fW wb)):=λht=>t7.tag (nO e5 ht);refine⟨_,_,_,rfl,e5,?_,((t4.trans t6.keptQ).trans hk5).new t7 (λj hj=>by rw[ms_ hj];omega) (by omega),b,c,wb,r,g,cap,d2,M2,rfl,k7 (by decide) _ _ _ (kt (by decide) (by decide) (by decide) _ _ _ (t6.tu _ _ _ _ (k3 (by decide) _ _ _ ((tB.trans t2).tu _ _ _ _ hb)))),hw.res e5 t7,(h.quiet tw4).kept (λt ht=>?_) (g1.away t7 (λk hk e=>by rw[ms_ e]at hk;exact(g1.nT (t:=167) (by decide) (by decide)).not_mem e5 hk)) g2 g3 g5,g4⟩
   ·show(W5.setCell ⟨w.heap.size+1+1,2*2+1,none⟩ (fW wb)).heap[w.heap.size+1+1]?=_;rw[heap_setCell_same W5 (w.heap.size+1+1) (2*2+1) _ 167 _ e5];rfl
   ·have h1:=(by decide:∀t∈([79,70,83,85,3]:List TypeId),t∉OT/\t≠5/\(162:TypeId)≠t/\(167:TypeId)≠t) t ht;exact(kt h1.1 h1.2.1 h1.2.2.1).trans (k7 h1.2.2.2)
  ·obtain⟨b,c,wb,r,g,cap,d2,M2,rfl,hb,hw,hA,hl2⟩:=hst;refine(rab WB (w.heap.size+1) (w.heap.size+1+1) 4 0 2 162 115 n kn kn #[.pointer (some ⟨b,0,none⟩)] #[.pointer (some ⟨wb,0,none⟩)] (OuterMade (w.heap.size+1) kn b wb n) h.sl (.inr hop) (by simp[hnl]) (by simp[hnr]) (by omega) (by omega) hkn hkn hgB (by simp[World.cell?,hGB,kV]) (by simp[World.cell?,hGB,fV]) (by simp[World.cell?,hGB,kV]) (by simp[World.cell?,hGB,fW]) (λW5 t5=>?_) (λlb W5 W6 B hm hB t=>?_) (λlb W5 W6 hm t=>?_)).mono ?_
   ·refine(outer_any W5 _ n 162 _ kn 115 _ hop h.sl).mono ?_;rintro e W6 ⟨bq,bn,br,bl,rfl,g1,t6⟩;exact⟨_,rfl,⟨bq,bn,br,bl,rfl,g1⟩,t6⟩
   ·obtain⟨bq,bn,br,bl,rfl,g1⟩:=hm;exact⟨bq,bn,br,bl,rfl,g1.set hB (by simp) t⟩
   ·obtain⟨bq,bn,br,bl,rfl,g1⟩:=hm;exact⟨bq,bn,br,bl,rfl,g1.quiet t⟩
   ·rintro e W2 ⟨cl,cq,lb,rfl,g1,g2,⟨bq,bn,br,bl,rfl,g3⟩,t2⟩;obtain⟨e2,e3,t3,t4⟩:=fin W2 ((kn+kn:Nat):Int) (.func (.func 140) #[] #[.pointer (some ⟨cl,0,none⟩),.pointer (some ⟨cq,0,none⟩)]) t2;have k3:∀{t:TypeId},(167:TypeId)≠t->KT t W2 _:=λht=>t3.tag (nO e2 ht);have hA2:=hA.quiet (tB.trans t2);refine⟨_,_,_,_,rfl,e2,rfl,false,(wI _ gp 4 3 (by omega) (by omega) (.inl rfl)).mono ?_⟩;rintro e W4 ⟨rfl,rfl⟩;exact⟨rfl,.inl ⟨rfl,e3,t4,b,c,wb,r,g,cap,d2,M2,_,cl,cq,_,rfl,k3 (by decide) _ _ _ ((tB.trans t2).tu _ _ _ _ hb),(hw.quiet (tB.trans t2)).res e2 t3,hA2.kept (λt ht=>k3 ((by decide:∀t∈([79,70,83,85,3]:List TypeId),(167:TypeId)≠t) t ht)) (hA2.pd.away t3 (λk hk e=>by rw[ms_ e]at hk;exact(hA2.pd.nT (t:=167) (by decide) (by decide)).not_mem e2 hk)) hA2.ok hA2.b3 hA2.hi,hl2,k3 (by decide) _ _ _ g1,k3 (by decide) _ _ _ g2,bq,bn,br,bl,rfl,g3.set e2 (by simp) t3⟩⟩
  ·omega
 ·rintro cs W ⟨hG,hkq,b,c,wb,r,g,cap,d2,M2,i,cl,cq,lb,rfl,hb,hw,hA,hl2,g1,g2,⟨bq,bn,br,bl,rfl,g3⟩⟩;obtain⟨cur,hg,hg0⟩:=hw.list;have nt:∀{t:TypeId} {k:Nat} {cs:Array Value} {f:Nat×Nat},W.heap[k]?=some (.cells cs t f)->117≠t->9≠t->k∉dI bx bm M2:=λe a b=>(hA.pd.nT a b).not_mem e;refine⟨hG,_,_,_,rfl,(copiedJoinZ_any W cl cq (w.heap.size+1) _ _ _ bx bm blk fan bud XC (dI bx bm M2) m j3 true cols others kn rows [] [(wb,#[.pointer (some ⟨r,0,none⟩)],194),(r,rC bx blk file 0 0 (.slice none 0 0),223),(g,cur,194)] (λz hz=>?_) (λz hz=>?_) g1 hw.hQ g2 hA.nU.b2 (by have:=hkq.low.size;omega) hA.cak hjr (λW' t'=>?_)).mono ?_⟩
  ·simp only[a_,i_,or_false]at hz;rcases hz with rfl|rfl|rfl
   ·exact hw.box
   ·exact hw.run
   ·exact hg
  ·simp only[a_,i_,or_false]at hz;rcases hz with rfl|rfl|rfl
   ·exact⟨nt hw.box (by decide) (by decide),by simp⟩
   ·exact⟨nt hw.run (by decide) (by decide),by simp⟩
   ·exact⟨nt hg (by decide) (by decide),by simp⟩
  ·have hB:=hA.quiet t';exact outer_seq (w:=W') ⟨hB.ctx (t'.tu _ _ _ _ hw.hQ),g3.quiet t',hB.in_ (t'.tu _ _ _ _ hb),t'.tu _ _ _ _ hw.box,t'.tu _ _ _ _ hw.run,hmine,hop⟩ hl2 hP1 hPj1 hPs1 hP2 hPj2 hPs2
  ·rintro e W' ⟨lv,out,rfl,⟨⟨x0,d3,M3,x1,x2⟩,x3⟩,⟨vs',y1,y2,y3⟩,x5⟩;have hw':Waits W' (w.heap.size+1) (.slice tO tn tc) blk fan bud bx file wb r g cap:=⟨x5.2 162 (by decide) (by decide) _ _ _ hw.hQ,x3 (wb,#[.pointer (some ⟨r,0,none⟩)],194) I_,x3 (r,rC bx blk file 0 0 (.slice none 0 0),223) (by simp only[a_,true_or,or_true]),⟨cur,x3 (g,cur,194) (by simp only[a_,true_or,or_true]),hg0⟩,hw.cap1,hw.cap2⟩;refine⟨lv,rfl,(giveBack_one W' (w.heap.size+1) bx bm blk fan bud file wb r g cap _ d3 M3 hw' x1.pd x1.ok hmine (by have a:=x2.used;have b:=x2.small;omega) x1.block).mono ?_⟩;rintro e u w7 ⟨rfl,rfl,_,t7⟩;have k7:∀{t:TypeId},(117:TypeId)≠t->(9:TypeId)≠t->KT t W' w7:=λa b=>t7.tag ((x1.pd.nT a b).sub (λk hk=>by
    simp only[a_,i_,or_false]at hk;rcases hk with rfl|rfl<;>simp[dI]))
   refine⟨rfl,rfl,out,x0,⟨vs',y1.keep (k7 (by decide) (by decide)),y2,λi a b=>Sl3.keep (y3 i a b) (k7 (by decide) (by decide))⟩,((hkq.kept (by omega)).trans x5).trans ⟨t7.low (λk hk=>?_),λt a b=>k7 (λe=>a (by rw[<-e];decide)) (λe=>a (by rw[<-e];decide))⟩⟩;simp only[a_,i_,or_false]at hk;rcases hk with rfl|rfl
   ·exact hA.hi _ (by simp[dI])
   ·exact e_ _
end
theorem oU {a b:List Rec}(ha:a.Perm (rO rows))(hb:b.Perm (rO rows))(sa:Srt ks a)(sb:Srt ks b):a=b:=by
 refine List.Perm.eq_of_pairwise (le:=λa b=>aB ks b a=false) ?_ sa sb (ha.trans hb.symm);intro x y hx hy hxy hyx;have h2:=(cmpR_cmp ks).anti x.row y.row;rw[aH]at hxy hyx;obtain⟨i,hi,rfl⟩:=r_ (ha.mem_iff.1 hx);obtain⟨j,hj,rfl⟩:=r_ (hb.mem_iff.1 hy);simp only at h2 hxy hyx;have hz:cmpR ks rows[i] rows[j]=0:=by
  split at hxy
  ·split at hyx
   ·simp at hxy hyx;omega
   ·omega
  ·omega
 rw[if_neg (by omega)]at hxy hyx;simp at hxy hyx;have:i=j:=by omega
 subst this;rfl
def kOne:List K:=[keyOf 1]
def oneN (r:List V):Int:=(r.getD 1 V0).n
theorem tN {raw:List Int}(h:TR raw i r):r.getD 1 V0=⟨1,(i:Int),⟨#[]⟩⟩/\oneN r=i:=by
 obtain⟨s,_,rfl⟩:=h;exact⟨rfl,rfl⟩
theorem code_one {raw:List Int}{a b:List V}(ha:TR raw i a)(hb:TR raw j b):cZ [1] [1] a b=cag i j/\cmpR kOne a b=cag i j:=by
 have h1:a.getD (Int.toNat 1) V0=⟨1,(i:Int),⟨#[]⟩⟩:=(tN ha).1;have h2:b.getD (Int.toNat 1) V0=⟨1,(j:Int),⟨#[]⟩⟩:=(tN hb).1;have hS:cmpS ⟨#[]⟩ ⟨#[]⟩=0:=cmpS_cmp.self _;constructor
 ·simp only[cZ,h1,h2,caq,KZ,ng];by_cases e:cag i j=0<;>simp[e,hS]
 ·simp only[kOne,cmpR,keyOf,tH,h1,h2,cmpV,cmpNull,cmpBody,ng,solid];by_cases e:cag i j=0<;>simp[e,hS,car.self]
theorem oN {raw:List Int}(h:∀i (h:i<rows.length),TR raw i rows[i]):Srt kOne (rO rows):=by
 unfold Srt;rw[List.pairwise_iff_getElem];intro i j hi hj hij;rw[rE]at hi hj;have e1:(rO rows)[i]'(by rw[rE];exact hi)=⟨(i:Int),rows[i]⟩:=by simp[rO]
 have e2:(rO rows)[j]'(by rw[rE];exact hj)=⟨(j:Int),rows[j]⟩:=by simp[rO]
 rw[e1,e2,aH];have:=(code_one (h j hj) (h i hi)).2;have e3:cag (j:Int) (i:Int)=1:=by unfold cag;rw[if_neg (by omega),if_pos (by omega)]
 simp[this,e3]
theorem jall_self:∀(L P:List (List V)) (f:List V->Nat),(∀a∈P++L,∀b∈P++L,cZ [1] [1] a b=cag (f a) (f b))->(P++L).Pairwise (λa b=>f a<f b)->∀rc,jA false [1] [1] rc (P++L) L=L.map λr=>r++r
 | [],P,f,_,_,_=>rfl
 | l::L,P,f,hc,hp,rc=>by
  have hd:(P++l::L).dropWhile (bH [1] [1] l)=l::L:=by
   rw[List.dropWhile_append_of_pos (λa ha=>?_),List.dropWhile_cons_of_neg]
   ·simp only[bH,hc l (by simp) l (by simp),car.self];decide
   ·have h1:=(av_.1 hp).2.2 a ha l (by simp);simp only[bH,hc l (by simp) a (by simp[ha]),cag];rw[if_neg (by omega),if_pos (by omega)];decide
  have hh:hits [1] [1] l (l::L)=[l]:=by
   unfold hits;rw[aw_ (by simp only[isB,hc l (by simp) l (by simp),car.self];decide)]
   congr 1
   cases L with
   | nil=>rfl
   | cons l2 L=>
    refine am_ ?_;have h1:=(List.pairwise_cons.1 (av_.1 hp).2.1).1 l2 (by simp);simp only[isB,hc l (by simp) l2 (by simp),cag];rw[if_pos (by omega)];decide
  rw[jA,hd,jR,if_neg (by simp),hh];have ih:=jall_self L [l] f (λa ha b hb=>hc a (y_ _ (by simpa using ha)) b (y_ _ (by simpa using hb))) (by simpa using(av_.1 hp).2.1) rc;simp only[List.singleton_append]at ih;rw[ih];rfl
theorem jall_mem {outer:Bool}{cols others:List Int}{rc:Nat}:∀{ls rs:List (List V)} {x:List V},x∈jA outer cols others rc rs ls->∃l∈ls,x=l++List.replicate rc V0\/∃r∈rs,x=l++r
 | [],_,_,h=>by simp[jA]at h
 | l::ls,rs,x,h=>by
  rw[jA,d_]at h;rcases h with h|h
  ·unfold jR at h
   split at h
   ·exact⟨l,by simp,.inl (by simpa using h)⟩
   ·obtain⟨r,hr,rfl⟩:=z_.1 h;exact⟨l,by simp,.inr ⟨r,dW (hits_mem hr),rfl⟩⟩
  ·obtain⟨l',h1,h2⟩:=jall_mem h;exact⟨l',o_ _ h1,h2.imp id (λ⟨r,a,b⟩=>⟨r,dW a,b⟩)⟩
theorem jall_few {cols others:List Int}{rc:Nat}:∀(ls rs:List (List V)),(∀l∈ls,∀t,t.Sublist rs->(hits cols others l t).length<=1)->(jA false cols others rc rs ls).length<=ls.length
 | [],_,_=>by simp[jA]
 | l::ls,rs,h=>by
  rw[jA,c_,List.length_cons];have h1:=h l (by simp) _ (List.dropWhile_sublist (bH cols others l));have h2:=jall_few (rc:=rc) ls (rs.dropWhile (bH cols others l)) (λl' hl t ht=>h l' (o_ _ hl) t (ht.trans (List.dropWhile_sublist _)));have h3:(jR false cols others rc l (rs.dropWhile (bH cols others l))).length=(hits cols others l (rs.dropWhile (bH cols others l))).length:=by simp[jR]
  omega
theorem saa (a b:List V):sZ (a++b)+8=sZ a+sZ b:=by simp[sZ];omega
theorem trow_in {raw:List Int}(h:∀i (h:i<rows.length),TR raw i rows[i])(hn:rows.length<=1000)(hr:r∈rows):(∀v∈r,Fair v)/\sZ r<=40/\r.length=4:=by
 obtain⟨i,hi,rfl⟩:=A_ hr;obtain⟨s,hs,e⟩:=h i hi;rw[e];exact⟨rowOf_fair _ i s hs (by omega),rowOf_size _ i s hs,rfl⟩
theorem fM (h:First ks 20000 (rO rows) ou){l:List V}(hl:l∈ou.map Rec.row):l∈rows:=by
 obtain⟨x,hx,rfl⟩:=z_.1 hl;obtain⟨r,h1,_⟩:=h.rest;obtain⟨i,hi,rfl⟩:=r_ (h1.mem_iff.1 (C_ _ hx));exact m_ _
theorem right_mem (h:JR ks rows rs){l:List V}(hl:l∈rs.map Rec.row):l∈rows:=by
 obtain⟨x,hx,rfl⟩:=z_.1 hl;obtain⟨i,hi,rfl⟩:=r_ (h.1.mem_iff.1 hx);exact m_ _
theorem first_len (h:First ks 20000 (rO rows) ou):ou.length<=rows.length:=by
 obtain⟨r,h1,_⟩:=h.rest;have:=h1.length_eq;rw[c_,rE]at this;omega
theorem recsOf_rows (rows:List (List V)):(rO rows).map Rec.row=rows:=by
 apply List.ext_getElem
 ·simp[rO]
 ·intro i a b;simp[rO]
section
variable {raw:List Int} {rows:List (List V)}
theorem one_pair (h:∀i (h:i<rows.length),TR raw i rows[i])(_:rows.length<=1000):rows.Pairwise (λa b=>(oneN a).toNat<(oneN b).toNat):=by
 rw[List.pairwise_iff_getElem];intro i j hi hj hij;rw[(tN (h i hi)).2,(tN (h j hj)).2];omega
theorem rows_cmp (h:∀i (h:i<rows.length),TR raw i rows[i])(_:rows.length<=1000):∀a∈rows,∀b∈rows,cZ [1] [1] a b=cag ((oneN a).toNat:Nat) ((oneN b).toNat:Nat):=λa ha b hb=>by
 obtain⟨i,hi,rfl⟩:=A_ ha;obtain⟨j,hj,rfl⟩:=A_ hb;rw[(code_one (h i hi) (h j hj)).1,(tN (h i hi)).2,(tN (h j hj)).2];simp
theorem self_rows (h:∀i (h:i<rows.length),TR raw i rows[i])(hn:rows.length<=1000)(blk:Nat)(hb:192<=blk):JRows blk false [1] [1] 4 rows rows:=by
 have key:∀rs,JR kOne rows rs->rs.map Rec.row=rows:=λrs hr=>by
  rw[oU hr.1 (List.Perm.refl _) hr.2 (oN h),recsOf_rows]
 refine⟨λrs ou hr hf=>?_,λrs ou r hr hf hm=>?_⟩
 ·have h1:(jA false [1] [1] 4 (rs.map Rec.row) (ou.map Rec.row)).length<=(ou.map Rec.row).length:=jall_few _ _ (λl hl t ht=>by
   rw[key rs hr]at ht;have hp:=(one_pair h hn).sublist ht;have hs:∀a∈t,a∈rows:=λa ha=>ht.subset ha;have hl':=fM hf hl;unfold hits
   match t,hp,hs with
   | [],_,_=>simp
   | [a],_,_=>exact k_ (List.takeWhile_prefix _).length_le (by simp)
   | a::b::t,hp,hs=>
    by_cases e:isB [1] [1] l a=true
    ·rw[aw_ e,am_]
     ·simp
     ·have h1:=(List.pairwise_cons.1 hp).1 b (by simp);simp only[isB,rows_cmp h hn l hl' a (hs a (by simp)),rows_cmp h hn l hl' b (hs b (by simp)),cag,beq_iff_eq]at e ⊢
      split at e
      ·cases e
      ·split at e
       ·cases e
       ·rw[if_pos (by omega)];decide
    ·rw[am_ e];simp)
  have h2:=first_len hf;rw[u_]at h1;omega
 ·obtain⟨l,hl,h2⟩:=jall_mem hm;obtain⟨a1,a2,a3⟩:=trow_in h hn (fM hf hl);rcases h2 with rfl|⟨x,hx,rfl⟩
  ·have:=saa l (List.replicate 4 V0);have e:sZ (List.replicate 4 V0)=12:=rfl;refine⟨λv hv=>(d_.1 hv).elim (a1 v) (λhv=>by rw[(List.mem_replicate.1 hv).2];exact .inl ⟨rfl,rfl,rfl⟩),by omega,by simp only[c_,ai_];omega,by simp only[c_,ai_];omega⟩
  ·obtain⟨b1,b2,b3⟩:=trow_in h hn (right_mem hr hx);have:=saa l x;exact⟨λv hv=>(d_.1 hv).elim (a1 v) (b1 v),by omega,by rw[c_];omega,by rw[c_];omega⟩
theorem self_out (h:∀i (h:i<rows.length),TR raw i rows[i])(hn:rows.length<=1000)(hr:JR kOne rows rs)(hf:First kOne 20000 (rO rows) ou)(ho:ou.length=20000\/ou.Perm (rO rows)):jA false [1] [1] 4 (rs.map Rec.row) (ou.map Rec.row)=rows.map λr=>r++r:=by
 have hp:=hf.all ho (by rw[rE];omega);rw[oU hr.1 (List.Perm.refl _) hr.2 (oN h),oU hp (List.Perm.refl _) hf.sorted (oN h),recsOf_rows];have:=jall_self rows [] (λa=>(oneN a).toNat) (λa ha b hb=>rows_cmp h hn a (by simpa using ha) b (by simpa using hb)) (by simpa using one_pair h hn) 4;simpa using this
theorem outer_rows (h:∀i (h:i<rows.length),TR raw i rows[i])(hn:rows.length<=1000)(blk:Nat)(hb:192<=blk):JRows blk true [0] [0] 4 rows []:=by
 have key:∀rs,JR ([0].map keyOf) [] rs->rs=[]:=λrs hr=>List.perm_nil.1 hr.1;refine⟨λrs ou hr hf=>?_,λrs ou r hr hf hm=>?_⟩
 ·rw[key rs hr,List.map_nil,jl,u_,u_];have:=first_len hf;omega
 ·rw[key rs hr,List.map_nil,jl]at hm;obtain⟨l,hl,rfl⟩:=z_.1 hm;obtain⟨a1,a2,a3⟩:=trow_in h hn (fM hf hl);have:=saa l (List.replicate 4 V0);have e:sZ (List.replicate 4 V0)=12:=rfl;exact⟨λv hv=>(d_.1 hv).elim (a1 v) (λhv=>by rw[(List.mem_replicate.1 hv).2];exact .inl ⟨rfl,rfl,rfl⟩),by omega,by simp only[c_,ai_];omega,by simp only[c_,ai_];omega⟩
theorem outer_out (h:∀i (h:i<rows.length),TR raw i rows[i])(hn:rows.length<=1000)(hr:JR ([0].map keyOf) [] rs)(hf:First ([0].map keyOf) 20000 (rO rows) ou)(ho:ou.length=20000\/ou.Perm (rO rows)):(jA true [0] [0] 4 (rs.map Rec.row) (ou.map Rec.row)).length=rows.length/\∀r∈jA true [0] [0] 4 (rs.map Rec.row) (ou.map Rec.row),∃l,l.length=4/\r=l++List.replicate 4 V0:=by
 have hp:=hf.all ho (by rw[rE];omega);rw[List.perm_nil.1 hr.1,List.map_nil,jl];refine⟨by rw[u_,u_,hp.length_eq,rE],λr hm=>?_⟩;obtain⟨l,hl,rfl⟩:=z_.1 hm;exact⟨l,(trow_in h hn (fM hf hl)).2.2,rfl⟩
end
def sO:Old.VN:=⟨1,0,0,nM,[],0,[],[],[]⟩
def pJ:List Old.VN:=[sO,sO,⟨4,0,1,⟨#[]⟩,[],0,[1],[1],[]⟩]
def pO:List Old.VN:=[sO,sO,⟨3,1,0,⟨#[]⟩,[⟨1,false,false⟩],0,[],[],[]⟩,⟨5,0,2,⟨#[]⟩,[],0,[0],[0],[]⟩]
def tC (rows:List (List V)):List Old.VT:=[⟨nM,[1,1,2,3],oO rows⟩]
theorem taa {raw:List Int}(h:∀i (h:i<rows.length),TR raw i rows[i]):Old.Na (tC rows)/\Old.TA (tC rows):=by
 refine⟨λi j hi hj hij=>?_,λi hi=>?_⟩
 ·simp[tC]at hi hj;omega
 ·have:i=0:=by simp[tC]at hi;omega
  subst this;refine⟨⟨by simp[tC],by simp[tC],λj hj=>?_⟩,λj hj=>?_⟩
  ·simp only[tC,List.getElem_cons_zero,List.length_cons,List.length_nil]at hj
   match j,hj with
   | 0,_=>simp[tC,Old.KN]
   | 1,_=>simp[tC,Old.KN]
   | 2,_=>simp[tC,Old.KN]
   | 3,_=>simp[tC,Old.KN]
  ·simp only[tC,List.getElem_cons_zero,oO,u_]at hj;simp only[tC,List.getElem_cons_zero,oO,ax_];exact row_pair (h j hj)
theorem tabK_t (rows:List (List V)):Old.tY (tC rows) nM=[1,1,2,3]:=by simp[Old.tY,tC]
theorem valid_self {raw:List Int}(h:∀i (h:i<rows.length),TR raw i rows[i]):Old.VO (tC rows) pJ:=by
 have htab:=tabK_t rows;have hcol1:Old.caf (tC rows) (List.take 1 pJ)=[[1,1,2,3]]:=by simp[pJ,sO,Old.caf,Old.grow,Old.nD,htab]
 have hcol2:Old.caf (tC rows) (List.take 2 pJ)=[[1,1,2,3],[1,1,2,3]]:=by simp[pJ,sO,Old.caf,Old.grow,Old.nD,htab]
 refine⟨⟨by simp[pJ],by simp[pJ]⟩,(taa h).1,(taa h).2,⟨λi hi=>?_,λj hj=>?_,λi hi=>?_⟩,λi hi=>?_⟩
 ·simp only[pJ,List.length_cons,List.length_nil]at hi
  match i,hi with
  | 0,_=>exact⟨⟨by simp[pJ,sO],by simp[pJ,sO,Old.BN,Old.BR]⟩,λx hx=>by simp[pJ,sO,Old.ins]at hx⟩
  | 1,_=>exact⟨⟨by simp[pJ,sO],by simp[pJ,sO,Old.BN,Old.BR]⟩,λx hx=>by simp[pJ,sO,Old.ins]at hx⟩
  | 2,_=>exact⟨⟨by simp[pJ],by simp[pJ,Old.BN,Old.BR,ni]⟩,λx hx=>by simp[pJ,Old.ins]at hx;omega⟩
 ·simp only[pJ,List.length_cons,List.length_nil]at hj
  match j,hj with
  | 0,_=>simp[pJ,sO,Old.asks,Old.ins]
  | 1,_=>simp[pJ,sO,Old.asks,Old.ins]
 ·simp only[pJ,List.length_cons,List.length_nil]at hi
  match i,hi with
  | 0,_=>simp[pJ,sO,Old.hF,Old.hts,Old.grow,Old.hOf]
  | 1,_=>simp[pJ,sO,Old.hF,Old.hts,Old.grow,Old.hOf]
  | 2,_=>simp[pJ,sO,Old.hF,Old.hts,Old.grow,Old.hOf]
 ·simp only[pJ,List.length_cons,List.length_nil]at hi
  match i,hi with
  | 0,_=>
   intro _;rw[show Old.caf (tC rows) (List.take 0 pJ)=[] from rfl];exact⟨⟨0,by simp[tC],rfl⟩,by simp[pJ,sO,Old.nD,htab],by simp[pJ,sO,Old.nD,htab]⟩
  | 1,_=>
   intro _;rw[hcol1];exact⟨⟨0,by simp[tC],rfl⟩,by simp[pJ,sO,Old.nD,htab],by simp[pJ,sO,Old.nD,htab]⟩
  | 2,_=>
   intro _;rw[hcol2];refine⟨⟨by simp[pJ],by simp[pJ],by simp[pJ],λi h1 h2=>?_⟩,by simp[pJ,Old.nD,Old.cac,Old.cao],by simp[pJ,Old.nD,Old.cac,Old.cao]⟩;have:i=0:=by simp[pJ]at h1;omega
   subst this;simp[pJ,Old.IC,Old.cac,Old.cao,Old.cam]
theorem valid_outer {raw:List Int}(h:∀i (h:i<rows.length),TR raw i rows[i]):Old.VO (tC rows) pO:=by
 have htab:=tabK_t rows;have hcol1:Old.caf (tC rows) (List.take 1 pO)=[[1,1,2,3]]:=by simp[pO,sO,Old.caf,Old.grow,Old.nD,htab]
 have hcol2:Old.caf (tC rows) (List.take 2 pO)=[[1,1,2,3],[1,1,2,3]]:=by simp[pO,sO,Old.caf,Old.grow,Old.nD,htab]
 have hcol3:Old.caf (tC rows) (List.take 3 pO)=[[1,1,2,3],[1,1,2,3],[1,1,2,3]]:=by simp[pO,sO,Old.caf,Old.grow,Old.nD,htab,Old.cac]
 refine⟨⟨by simp[pO],by simp[pO]⟩,(taa h).1,(taa h).2,⟨λi hi=>?_,λj hj=>?_,λi hi=>?_⟩,λi hi=>?_⟩
 ·simp only[pO,List.length_cons,List.length_nil]at hi
  match i,hi with
  | 0,_=>exact⟨⟨by simp[pO,sO],by simp[pO,sO,Old.BN,Old.BR]⟩,λx hx=>by simp[pO,sO,Old.ins]at hx⟩
  | 1,_=>exact⟨⟨by simp[pO,sO],by simp[pO,sO,Old.BN,Old.BR]⟩,λx hx=>by simp[pO,sO,Old.ins]at hx⟩
  | 2,_=>exact⟨⟨by simp[pO],by simp[pO,Old.BN,Old.BR,ni]⟩,λx hx=>by simp[pO,Old.ins]at hx;omega⟩
  | 3,_=>exact⟨⟨by simp[pO],by simp[pO,Old.BN,Old.BR,ni]⟩,λx hx=>by simp[pO,Old.ins]at hx;omega⟩
 ·simp only[pO,List.length_cons,List.length_nil]at hj
  match j,hj with
  | 0,_=>simp[pO,sO,Old.asks,Old.ins]
  | 1,_=>simp[pO,sO,Old.asks,Old.ins]
  | 2,_=>simp[pO,sO,Old.asks,Old.ins]
 ·simp only[pO,List.length_cons,List.length_nil]at hi
  match i,hi with
  | 0,_=>simp[pO,sO,Old.hF,Old.hts,Old.grow,Old.hOf]
  | 1,_=>simp[pO,sO,Old.hF,Old.hts,Old.grow,Old.hOf]
  | 2,_=>simp[pO,sO,Old.hF,Old.hts,Old.grow,Old.hOf]
  | 3,_=>simp[pO,sO,Old.hF,Old.hts,Old.grow,Old.hOf]
 ·simp only[pO,List.length_cons,List.length_nil]at hi
  match i,hi with
  | 0,_=>
   intro _;rw[show Old.caf (tC rows) (List.take 0 pO)=[] from rfl];exact⟨⟨0,by simp[tC],rfl⟩,by simp[pO,sO,Old.nD,htab],by simp[pO,sO,Old.nD,htab]⟩
  | 1,_=>
   intro _;rw[hcol1];exact⟨⟨0,by simp[tC],rfl⟩,by simp[pO,sO,Old.nD,htab],by simp[pO,sO,Old.nD,htab]⟩
  | 2,_=>
   intro _;rw[hcol2];refine⟨⟨⟨λi h1=>?_,by simp[pO,Old.cae],by simp[pO,Old.cae]⟩,by simp[pO],by simp[pO]⟩,by simp[pO,Old.nD,Old.cac],by simp[pO,Old.nD,Old.cac]⟩;have:i=0:=by simp[pO,Old.cae]at h1;omega
   subst this;simp[pO,Old.cac,Old.cae]
  | 3,_=>
   intro _;rw[hcol3];refine⟨⟨by simp[pO],by simp[pO],by simp[pO],λi h1 h2=>?_⟩,by simp[pO,Old.nD,Old.cac,Old.cao],by simp[pO,Old.nD,Old.cac,Old.cao]⟩;have:i=0:=by simp[pO]at h1;omega
   subst this;simp[pO,Old.IC,Old.cac,Old.cao,Old.cam]
theorem valid_call {N:List Old.VN}(hT:TabAt W tv nM (.slice (some ⟨bk,0,none⟩) 4 4) sv)(hk:W.heap[bk]?=some (.cells kC 3 (0,0)))(hL:LW W sv vs)(hlen:vs.length=rows.length)(hr:∀i (_:i<vs.length) (_:i<rows.length),Ro W vs[i] rows[i])(hp:Old.NI W [] pv N)(hval:Old.VO (tC rows) N)(hN:N.length<=1048576)(hfew:rows.length<=20000)(hsm:∀i (h:i<N.length),N[i].keys.length<=1048576/\N[i].cols.length<=1048576/\N[i].others.length<=1048576/\N[i].sums.length<=1048576) :
  Calls prog 56 #[tv,pv] W λe w'=>e=.returned (.bool true)/\Touch [] W w':=by
 refine(Old.pvalid_any W _ _ (tC rows) N (hT.old (kinds_in hk) (hL.at.1.old hlen hr hL.at.2)) hp ⟨by simp[tC],hN,λi hi=>?_,λi hi=>hsm i hi⟩).mono ?_
 ·have:i=0:=by simp[tC]at hi;omega
  subst this;exact⟨by simp[tC],by simp[tC,oO];omega⟩
 ·rintro e w' ⟨b,rfl,hb,hB⟩;obtain rfl:b=true:=hb.2 hval;exact⟨rfl,bW hB hB.size⟩
def joinND (op r:Int)(bc bo:Nat):ND:=⟨op,0,r,⟨#[]⟩,.slice none 0 0,0,.slice (some ⟨bc,0,none⟩) 1 1,.slice (some ⟨bo,0,none⟩) 1 1,.slice none 0 0⟩
def topND (bt:Nat):ND:=⟨3,1,0,⟨#[]⟩,.slice (some ⟨bt,0,none⟩) 1 1,0,.slice none 0 0,.slice none 0 0,.slice none 0 0⟩
def CB (w:World)(bc:Nat)(c:Int):Prop:=w.heap[bc]?=some (.cells #[.int .i64 c] 3 (0,0))
def KeyAt (w:World)(bt:Nat):Prop:=w.heap[bt]?=some (.cells #[.int .i64 1,.bool false,.bool false] 73 (0,0))
theorem CB.raw (h:CB w bc c)(hc:I64 c):Rt w (.slice (some ⟨bc,0,none⟩) 1 1) [c]:=by
 refine⟨by simpa using hc,by simp,_,_,rfl,λ_=>⟨bc,0,rfl,λj hj=>?_⟩⟩;have:j=0:=by simp at hj;omega
 subst this;exact bg h
theorem CB.old (h:CB w bc c):Old.IntsIn w [] (.slice (some ⟨bc,0,none⟩) 1 1) [c]:=by
 refine⟨_,_,rfl,by simp,by unfold maxLen;omega,by simp[Old.ints],λ_=>⟨bc,0,rfl,by simp,λj u hj=>?_⟩⟩;have hj':=(l_.1 hj).1;have:j=0:=by simp[Old.ints]at hj';omega
 subst this;simp[Old.ints]at hj;subst hj;exact bg h
theorem KeyAt.at {w:World}{bt:Nat}(h:KeyAt w bt):KA w (.slice (some ⟨bt,0,none⟩) 1 1) kOne:=by
 refine⟨_,_,rfl,e_ _,by simp[maxLen],λ_=>⟨bt,0,_,_,rfl,h,λi hi=>?_⟩⟩;have:i=0:=by simp[kOne]at hi;omega
 subst this;exact⟨rfl,rfl,rfl⟩
theorem self_old (h:Pn w gp [sN nM,sN nM,joinND 4 1 bc bo])(hc:CB w bc 1)(ho:CB w bo 1):Old.NI w [] (.slice (some ⟨gp,0,none⟩) 3 3) pJ:=by
 refine⟨[(.slice none 0 0,.slice none 0 0,.slice none 0 0,.slice none 0 0),(.slice none 0 0,.slice none 0 0,.slice none 0 0,.slice none 0 0),(.slice none 0 0,.slice (some ⟨bc,0,none⟩) 1 1,.slice (some ⟨bo,0,none⟩) 1 1,.slice none 0 0)],rfl,⟨_,_,rfl,e_ _,by unfold maxLen;omega,rfl,λ_=>⟨gp,0,rfl,by simp,λj u hj=>?_⟩⟩,λi n p hn hp=>?_⟩
 ·rw[U_];unfold Pn at h;simp only[World.cell?,h,List.getElem?_toArray];exact hj
 ·match i,hn,hp with
  | 0,hn,hp=>
   simp[pJ,sO]at hn hp;subst hn;subst hp;exact⟨keys_nil w,iT w,iT w,sU w⟩
  | 1,hn,hp=>
   simp[pJ,sO]at hn hp;subst hn;subst hp;exact⟨keys_nil w,iT w,iT w,sU w⟩
  | 2,hn,hp=>
   simp[pJ]at hn hp;subst hn;subst hp;exact⟨keys_nil w,hc.old,ho.old,sU w⟩
  | n+3,hn,hp=>simp[pJ]at hn
theorem outer_old (h:Pn w gp [sN nM,sN nM,topND bt,joinND 5 2 bc bo])(hc:CB w bc 0)(ho:CB w bo 0)(ht:KeyAt w bt):Old.NI w [] (.slice (some ⟨gp,0,none⟩) 4 4) pO:=by
 refine⟨[(.slice none 0 0,.slice none 0 0,.slice none 0 0,.slice none 0 0),(.slice none 0 0,.slice none 0 0,.slice none 0 0,.slice none 0 0),(.slice (some ⟨bt,0,none⟩) 1 1,.slice none 0 0,.slice none 0 0,.slice none 0 0),(.slice none 0 0,.slice (some ⟨bc,0,none⟩) 1 1,.slice (some ⟨bo,0,none⟩) 1 1,.slice none 0 0)],rfl,⟨_,_,rfl,e_ _,by unfold maxLen;omega,rfl,λ_=>⟨gp,0,rfl,by simp,λj u hj=>?_⟩⟩,λi n p hn hp=>?_⟩
 ·rw[U_];unfold Pn at h;simp only[World.cell?,h,List.getElem?_toArray];exact hj
 ·match i,hn,hp with
  | 0,hn,hp=>
   simp[pO,sO]at hn hp;subst hn;subst hp;exact⟨keys_nil w,iT w,iT w,sU w⟩
  | 1,hn,hp=>
   simp[pO,sO]at hn hp;subst hn;subst hp;exact⟨keys_nil w,iT w,iT w,sU w⟩
  | 2,hn,hp=>
   simp[pO]at hn hp;subst hn;subst hp;exact⟨ht.at.old,iT w,iT w,sU w⟩
  | 3,hn,hp=>
   simp[pO]at hn hp;subst hn;subst hp;exact⟨keys_nil w,hc.old,ho.old,sU w⟩
  | n+4,hn,hp=>simp[pO]at hn
theorem key_good (h1:0<=c)(h2:c<4):gK ([c].map keyOf) 4:=λy hy=>by
 obtain rfl:=ms_ (show y∈[keyOf c] from hy);exact⟨h1,h2⟩
structure JIn (w:World)(gp bk:Nat)(sv:Value)(ns:List ND)(op r c:Int)(bc bo:Nat)(blk fan bud:Nat)(raw:List Int)(vs:List Value)(rows:List (List V)):Prop where
 plan:Pn w gp ns
 col:CB w bc c
 oth:CB w bo c
 kinds:w.heap[bk]?=some (.cells kC 3 (0,0))
 list:LW w sv vs
 len:vs.length=rows.length
 rW:∀i (_:i<vs.length) (_:i<rows.length),Ro w vs[i] rows[i]
 tJ:∀i (h:i<rows.length),TR raw i rows[i]
 num:rows.length<=1000
 c1:0<=c
 c2:c<4
 b1:192<=blk
 b2:blk<=4096
 f1:2<=fan
 f2:fan<=16
 u1:4*blk<=bud
 u2:bud<=1000000
section
variable {w w':World} {gp bk bc bo:Nat} {sv:Value} {ns:List ND} {op r c:Int} {blk fan bud:Nat} {raw:List Int} {vs:List Value} {rows:List (List V)}
theorem JIn.quiet (h:JIn w gp bk sv ns op r c bc bo blk fan bud raw vs rows)(t:Touch [] w w'):JIn w' gp bk sv ns op r c bc bo blk fan bud raw vs rows:=
 { h with plan:=h.plan.quiet t,col:=t.tu _ _ _ _ h.col,oth:=t.tu _ _ _ _ h.oth,kinds:=t.tu _ _ _ _ h.kinds,list:=h.list.keep (t.tu _),rW:=λi a b=>(h.rW i a b).touch t }
theorem JIn.numS (h:JIn w gp bk sv ns op r c bc bo blk fan bud raw vs rows)(hk:gK ks 4):SL blk fan bud 4 ks rows:=by
 have:=h.b1;have:=h.b2;have:=h.f1;have:=h.f2;have:=h.u1;have:=h.u2;have:=h.num;exact⟨rows_ok blk (by omega) h.num h.tJ hk,by omega,by omega,by omega,by omega,by omega,by omega,by omega,by omega,by omega⟩
theorem JIn.ask (h:JIn w gp bk sv ns op r c bc bo blk fan bud raw vs rows)(hg:w.heap[g]?=some (.cells #[.string nM,.slice (some ⟨bk,0,none⟩) 4 4,sv] 70 (0,0)))(hp:PD w bx bm (newS 4096 ((1048576+8192*rows.length:Nat):Int)) [])(hlow:bm<=bx) :
  @Ak nR w gp ns (.slice (some ⟨g,0,none⟩) 1 1) sv nM (some ⟨bk,0,none⟩) 4 4 (joinND op r bc bo) vs rows [c] [c] bx bm blk fan bud [bc,bo] (newS 4096 ((1048576+8192*rows.length:Nat):Int)) []:=by
 letI:Inhabited Ground:=nR
 have h1:=h.c1;have h2:=h.c2;have hb:=h.b2;have hI:I64 c:=i64_of (by omega) (by omega);have hin:∀x∈[c],0<=x/\x<((4:Nat):Int):=λx hx=>by obtain rfl:=ms_ hx;exact⟨h1,h2⟩
 refine⟨h.plan,⟨⟨g,0,1,_,rfl,hg,by unfold maxLen;omega,by omega,rfl,rfl,rfl⟩⟩,h.list.at.1,h.len,h.rW,⟨h.col.raw hI,h.oth.raw hI,rfl,hin,hin,by simp⟩,?_,?_,⟨⟨_,_,_,rfl⟩,⟨_,_,_,rfl⟩,⟨_,_,_,rfl⟩,⟨_,_,_,rfl⟩⟩,h.numS (key_good h1 h2),hp,newS_ok _,?_,λk hk=>by simp[dI,rowsOf]at hk;omega⟩
 ·rintro v (rfl|rfl) b off k c e<;>cases e<;>simp
 ·intro k hk;simp only[a_,i_,or_false]at hk;rcases hk with rfl|rfl
  ·exact⟨_,_,h.col⟩
  ·exact⟨_,_,h.oth⟩
 ·simp[newS];omega
end
theorem nn_all {raw:List Int}(h:∀i (h:i<rows.length),TR raw i rows[i]):nN [1] rows=rows:=by
 unfold nN;rw[List.filter_eq_self];intro a ha;obtain⟨i,hi,rfl⟩:=A_ ha;obtain⟨s,_,e⟩:=h i hi;rw[e];rfl
theorem left_new (hk:k<=1048576+8192*N)(hN:N<=1000)(hj:j<=1000000000):Left (newS 4096 ((1048576+8192*N:Nat):Int)) k j:=by
 refine⟨?_,?_,?_,?_⟩
 ·simp[newS,uO]
 ·show(0:Int)+(k:Int)<=max ((1048576+8192*N:Nat):Int) 0;omega
 ·show(0:Int)+(k:Int)<=1000000000;omega
 ·show(0:Int)+(j:Int)<=1000000000;omega
theorem room_self (h:N<=1000):2*N+((N*(N+1)+(2*N+((3*N*(N+1)+0)+1)))+1)<=1048576+8192*N:=by
 have:N*(N+1)<=1000*(N+1):=an_ _ h;have e:3*N*(N+1)=3*(N*(N+1)):=Nat.mul_assoc _ _ _;omega
theorem room_outer (h:N<=1000):2*N+(((N+1)*(N+1)+(((2*N+2)*1+(2*N+(((5*N+4)*(N+1)+0)+1)))+1))+1)<=1048576+8192*N:=by
 have h1:(N+1)*(N+1)<=1001*(N+1):=an_ _ (by omega);have h2:(5*N+4)*(N+1)<=5004*(N+1):=an_ _ (by omega);omega
theorem askSelf_any (w:World)(gp bk bc bo:Nat)(sv:Value)(blk fan bud:Nat)(raw:List Int)(vs:List Value)(rows:List (List V))(h:JIn w gp bk sv [sN nM,sN nM,joinND 4 1 bc bo] 4 1 1 bc bo blk fan bud raw vs rows) :
  Calls prog 32 #[.agg #[.string nM,.slice (some ⟨bk,0,none⟩) 4 4,sv],.slice (some ⟨gp,0,none⟩) 3 3,.agg #[.int .i64 (blk:Int),.int .i64 (fan:Int),.int .i64 (bud:Int)]] w λe w'=>∃lv l,e=.returned (.tuple #[lv,.int .i64 0])/\Ans (λl=>l=rows.map λr=>r++r) w.heap.size w w' lv l:=by
 letI:Inhabited Ground:=nR
 have hb1:=h.b1;have hn:=h.num;refine ask_gen _ w gp 3 bk sv blk fan bud vs rows h.list h.len h.num (λW g bx bm t hg hp hlow=>?_);have hi:=h.quiet t;refine query_gen _ W gp 3 _ 1 1 bx bm blk fan bud _ [] hp (by omega) h.b2 h.f1 h.f2 h.u1 (by have:=h.b2;simp[newS];omega) (λW' t'=>?_) (λW' t'=>?_)
 ·have hi':=hi.quiet t';exact valid_call ⟨⟨g,0,1,_,rfl,t'.tu _ _ _ _ hg,by unfold maxLen;omega,by omega,rfl,rfl,rfl⟩⟩ hi'.kinds hi'.list hi'.len hi'.rW (self_old hi'.plan hi'.col hi'.oth) (valid_self h.tJ) (by simp[pJ]) (by omega) (λi hi=>by
   simp only[pJ,List.length_cons,List.length_nil]at hi
   match i,hi with
   | 0,_=>simp[pJ,sO]
   | 1,_=>simp[pJ,sO]
   | 2,_=>simp[pJ])
 ·have hA:=(hi.ask hg hp hlow).quiet t';have hk:gK ([(1:Int)].map keyOf) 4:=key_good (by omega) (by omega);refine(answerSelf_any (P1:=rows.length) (P2:=3*rows.length) (m:=0) (j1:=1000000000-rows.length) (j2:=1000000000-3*rows.length) (j3:=0) hA rfl rfl rfl (h.numS hk) (nn_all h.tJ) (nn_all h.tJ) (self_rows h.tJ hn blk hb1) (left_new (room_self hn) hn (by omega)) (by omega) (by omega) (by omega) (by omega) (by omega) (by omega)).mono ?_;rintro e w' ⟨lv,rfl,_,⟨⟨rs,ou,hr,hf,ho,rfl⟩,_⟩,h2,h3⟩;exact⟨lv,_,rfl,self_out h.tJ hn hr hf ho,h2,h3⟩
theorem askOuter_any (w:World)(gp bk bc bo bt:Nat)(sv:Value)(blk fan bud:Nat)(raw:List Int)(vs:List Value)(rows:List (List V))(h:JIn w gp bk sv [sN nM,sN nM,topND bt,joinND 5 2 bc bo] 5 2 0 bc bo blk fan bud raw vs rows)(ht:KeyAt w bt) :
  Calls prog 32 #[.agg #[.string nM,.slice (some ⟨bk,0,none⟩) 4 4,sv],.slice (some ⟨gp,0,none⟩) 4 4,.agg #[.int .i64 (blk:Int),.int .i64 (fan:Int),.int .i64 (bud:Int)]] w λe w'=>∃lv l,e=.returned (.tuple #[lv,.int .i64 0])/\Ans (λl=>l.length=rows.length/\∀r∈l,∃a:List V,a.length=4/\r=a++List.replicate 4 V0) w.heap.size w w' lv l:=by
 letI:Inhabited Ground:=nR
 have hb1:=h.b1;have hn:=h.num;refine ask_gen _ w gp 4 bk sv blk fan bud vs rows h.list h.len h.num (λW g bx bm t hg hp hlow=>?_);have hi:=h.quiet t;refine query_gen _ W gp 4 _ 1 1 bx bm blk fan bud _ [] hp (by omega) h.b2 h.f1 h.f2 h.u1 (by have:=h.b2;simp[newS];omega) (λW' t'=>?_) (λW' t'=>?_)
 ·have hi':=hi.quiet t';exact valid_call ⟨⟨g,0,1,_,rfl,t'.tu _ _ _ _ hg,by unfold maxLen;omega,by omega,rfl,rfl,rfl⟩⟩ hi'.kinds hi'.list hi'.len hi'.rW (outer_old hi'.plan hi'.col hi'.oth ((t.trans t').tu _ _ _ _ ht)) (valid_outer h.tJ) (by simp[pO]) (by omega) (λi hi=>by
   simp only[pO,List.length_cons,List.length_nil]at hi
   match i,hi with
   | 0,_=>simp[pO,sO]
   | 1,_=>simp[pO,sO]
   | 2,_=>simp[pO]
   | 3,_=>simp[pO])
 ·have hA:=(hi.ask hg hp hlow).quiet t';have hk:gK kOne 4:=key_good (c:=1) (by omega) (by omega);refine(answerOuter_any (nt:=topND bt) (ksT:=kOne) (file:=1) (P0:=rows.length+1) (P1:=2*rows.length+2) (P2:=5*rows.length+4) (m:=0) (j0:=1000000000-rows.length-1) (j1:=1000000000-2*rows.length-2) (j2:=1000000000-5*rows.length-4) (j3:=0) hA rfl rfl rfl rfl rfl rfl rfl ⟨⟨_,_,_,rfl⟩,⟨_,_,_,rfl⟩,⟨_,_,_,rfl⟩,⟨_,_,_,rfl⟩⟩ (KeyAt.at ((t.trans t').tu _ _ _ _ ht)) (h.numS hk) (outer_rows h.tJ hn blk hb1) rfl (by simp[newS]) (left_new (room_outer hn) hn (by omega)) (by omega) (by omega) (by omega) (by omega) (by omega) (by omega) (by omega) (by omega) (by omega)).mono ?_;rintro e w' ⟨lv,rfl,_,⟨rs,ou,hr,hf,ho,rfl⟩,h2,h3⟩;exact⟨lv,_,rfl,outer_out h.tJ hn hr hf ho,h2,h3⟩
structure Ci (w W:World)(bC bT bk:Nat)(sv:Value)(cb cf cu:Int)(raw:List Int)(vs:List Value)(rows:List (List V)):Prop where
 cfg:W.heap[bC]?=some (.cells #[.int .i64 cb,.int .i64 cf,.int .i64 cu] 51 (0,0))
 tab:W.heap[bT]?=some (.cells #[.string nM,.slice (some ⟨bk,0,none⟩) 4 4,sv] 70 (0,0))
 kinds:W.heap[bk]?=some (.cells kC 3 (0,0))
 list:LW W sv vs
 len:vs.length=rows.length
 rW:∀i (_:i<vs.length) (_:i<rows.length),Ro W vs[i] rows[i]
 tJ:∀i (h:i<rows.length),TR raw i rows[i]
 num:rows.length<=1000
 low:Low w.heap.size w W
section
variable {w W W':World} {bC bT bk:Nat} {sv:Value} {cb cf cu:Int} {raw:List Int} {vs:List Value} {rows:List (List V)}
theorem Ci.kept {lo:Nat}(h:Ci w W bC bT bk sv cb cf cu raw vs rows)(k:Kept lo W W')(hlo:w.heap.size<=lo):Ci w W' bC bT bk sv cb cf cu raw vs rows:=
 { h with cfg:=k.cells 51 (by decide) (by decide) _ _ _ h.cfg,tab:=k.cells 70 (by decide) (by decide) _ _ _ h.tab,kinds:=k.cells 3 (by decide) (by decide) _ _ _ h.kinds,list:=h.list.keep (k.cells 83 (by decide) (by decide)),rW:=λi a b=>Sl3.keep (h.rW i a b) (k.cells 85 (by decide) (by decide)),low:=h.low.trans (k.low.mono hlo) }
theorem Ci.quiet (h:Ci w W bC bT bk sv cb cf cu raw vs rows)(t:Touch [] W W'):Ci w W' bC bT bk sv cb cf cu raw vs rows:=h.kept (t.kept (lo:=w.heap.size)) (e_ _)
def AL (W:World)(lv:Value)(l:List (List V)):Prop:=∃vs',LW W lv vs'/\vs'.length=l.length/\∀i (_:i<vs'.length) (_:i<l.length),Ro W vs'[i] l[i]
theorem AL.kept {lo:Nat}(h:AL W lv l)(k:Kept lo W W'):AL W' lv l:=by
 obtain⟨vs',a,b,c⟩:=h;exact⟨vs',a.keep (k.cells 83 (by decide) (by decide)),b,λi hi hj=>Sl3.keep (c i hi hj) (k.cells 85 (by decide) (by decide))⟩
theorem AL.len (h:AL W (.slice lo ln lc) l):ln=l.length:=by
 obtain⟨vs',a,b,_⟩:=h;obtain⟨o,cap,e,_⟩:=a.at.1;simp only[Value.slice.injEq]at e;rw[e.2.1,b]
theorem AL.quiet (h:AL W lv l)(t:Touch [] W W'):AL W' lv l:=h.kept (t.kept (lo:=0))
theorem AL.row (h:AL W (.slice lo ln lc) l)(hk:k<l.length)(h1:1<=l[k].length):∃g off rb roff rP,lo=some ⟨g,off,none⟩/\W.cell? ⟨g,off+k,none⟩=some (.slice (some ⟨rb,roff,none⟩) l[k].length rP)/\(l[k].length<=rP/\rP<=maxLen)/\(ln<=lc/\lc<=maxLen)/\∀j (hj:j<l[k].length),W.cell? ⟨rb,roff+j*3,none⟩=some (.int .i64 l[k][j].k)/\W.cell? ⟨rb,roff+j*3+1,none⟩=some (.int .i64 l[k][j].n)/\W.cell? ⟨rb,roff+j*3+1+1,none⟩=some (.string l[k][j].s):=by
 obtain⟨vs',a,b,c⟩:=h;obtain⟨o,cap,e,hx⟩:=a.at.1;have hcap:=a.at.2 _ _ _ rfl;simp only[Value.slice.injEq]at e;obtain⟨e1,e2,e3⟩:=e;rcases hx with hx|⟨g,off,cs,h2,h3,h4,h5,h6⟩
 ·rw[hx]at b;simp at b;omega
 ·obtain⟨rb,roff,rP,e,f1,f2,f3⟩:=(c k (by omega) hk).cells h1;refine⟨g,off,rb,roff,rP,by rw[e1,h2],?_,⟨f1,f2⟩,hcap,f3⟩;rw[<-e];simp only[World.cell?,h3];exact h6 k (by omega)
def OutO (n:Nat)(l:List (List V)):Prop:=l.length=n/\∀r∈l,∃a:List V,a.length=4/\r=a++List.replicate 4 V0
theorem Ci.self (h:Ci w wc bC bT bk sv cb cf cu raw vs rows)(hB:Hid ((192<=blk/\blk<=640)/\(2<=fan/\fan<=16)/\(4*blk<=bud/\6400<=bud/\bud<=110000)))(hP:W.heap[gp]?=some (.cells #[.int .i64 1,.int .i64 0,.int .i64 0,.string ⟨#[116]⟩,.slice none 0 0,.int .i64 0,.slice none 0 0,.slice none 0 0,.slice none 0 0,.int .i64 1,.int .i64 0,.int .i64 0,.string ⟨#[116]⟩,.slice none 0 0,.int .i64 0,.slice none 0 0,.slice none 0 0,.slice none 0 0,.int .i64 4,.int .i64 0,.int .i64 1,.string ⟨#[]⟩,.slice none 0 0,.int .i64 0,.slice (some ⟨bc,0,none⟩) 1 1,.slice (some ⟨bo,0,none⟩) 1 1,.slice none 0 0] 79 (0,0)))(hc:W.heap[bc]?=some (.cells #[.int .i64 1] 3 (0,0)))(ho:W.heap[bo]?=some (.cells #[.int .i64 1] 3 (0,0)))(t:Touch [] wc W) :
  Calls prog 32 #[.agg #[.string nM,.slice (some ⟨bk,0,none⟩) 4 4,sv],.slice (some ⟨gp,0,none⟩) 3 3,.agg #[.int .i64 (blk:Int),.int .i64 (fan:Int),.int .i64 (bud:Int)]] W λe w'=>∃lo ln lc,e=.returned (.tuple #[.slice lo ln lc,.int .i64 0])/\Hid (AL w' (.slice lo ln lc) (rows.map λr=>r++r)/\Ci w w' bC bT bk sv cb cf cu raw vs rows):=by
 have h':=h.quiet t;obtain⟨b,f,u⟩:=hB.out;refine(askSelf_any W gp bk bc bo sv blk fan bud raw vs rows ⟨hP,hc,ho,h'.kinds,h'.list,h'.len,h'.rW,h'.tJ,h'.num,by omega,by omega,b.1,by omega,f.1,f.2,u.1,by omega⟩).mono ?_;rintro e w' ⟨lv,l,rfl,hA⟩;obtain⟨lo,ln,lc,rfl⟩:=hA.list.elim λ_ h=>h.1.slice;obtain rfl:=hA.good;exact⟨lo,ln,lc,rfl,hA.list,h'.kept hA.kept h'.low.size⟩
theorem Ci.outer (h:Ci w wc bC bT bk sv cb cf cu raw vs rows)(h1:AL wc (.slice lo ln lc) l1)(hB:Hid ((192<=blk/\blk<=640)/\(2<=fan/\fan<=16)/\(4*blk<=bud/\6400<=bud/\bud<=110000)))(hP:W.heap[gp]?=some (.cells #[.int .i64 1,.int .i64 0,.int .i64 0,.string ⟨#[116]⟩,.slice none 0 0,.int .i64 0,.slice none 0 0,.slice none 0 0,.slice none 0 0,.int .i64 1,.int .i64 0,.int .i64 0,.string ⟨#[116]⟩,.slice none 0 0,.int .i64 0,.slice none 0 0,.slice none 0 0,.slice none 0 0,.int .i64 3,.int .i64 1,.int .i64 0,.string ⟨#[]⟩,.slice (some ⟨bt,0,none⟩) 1 1,.int .i64 0,.slice none 0 0,.slice none 0 0,.slice none 0 0,.int .i64 5,.int .i64 0,.int .i64 2,.string ⟨#[]⟩,.slice none 0 0,.int .i64 0,.slice (some ⟨bc,0,none⟩) 1 1,.slice (some ⟨bo,0,none⟩) 1 1,.slice none 0 0] 79 (0,0)))(hc:W.heap[bc]?=some (.cells #[.int .i64 0] 3 (0,0)))(ho:W.heap[bo]?=some (.cells #[.int .i64 0] 3 (0,0)))(hk:W.heap[bt]?=some (.cells #[.int .i64 1,.bool false,.bool false] 73 (0,0)))(t:Touch [] wc W) :
  Calls prog 32 #[.agg #[.string nM,.slice (some ⟨bk,0,none⟩) 4 4,sv],.slice (some ⟨gp,0,none⟩) 4 4,.agg #[.int .i64 (blk:Int),.int .i64 (fan:Int),.int .i64 (bud:Int)]] W λe w'=>∃mo mn mc,e=.returned (.tuple #[.slice mo mn mc,.int .i64 0])/\Hid (AL w' (.slice lo ln lc) l1/\(∃l,OutO rows.length l/\AL w' (.slice mo mn mc) l)/\Ci w w' bC bT bk sv cb cf cu raw vs rows):=by
 have h':=h.quiet t;obtain⟨b,f,u⟩:=hB.out;refine(askOuter_any W gp bk bc bo bt sv blk fan bud raw vs rows ⟨hP,hc,ho,h'.kinds,h'.list,h'.len,h'.rW,h'.tJ,h'.num,by omega,by omega,b.1,by omega,f.1,f.2,u.1,by omega⟩ hk).mono ?_;rintro e w' ⟨lv,l,rfl,hA⟩;obtain⟨mo,mn,mc,rfl⟩:=hA.list.elim λ_ h=>h.1.slice;exact⟨mo,mn,mc,rfl,(h1.quiet t).kept hA.kept,⟨l,hA.good,hA.list⟩,h'.kept hA.kept h'.low.size⟩
theorem ctSt_start (hTab:∃vs rows,Td (w.alloc (.cells #[.int .i64 cb,.int .i64 cf,.int .i64 cu] 51)) w1 raw bk sv vs rows)(hK:Kept (w1.alloc (.cells #[.string nM,.slice (some ⟨bk,0,none⟩) 4 4,sv] 70)).heap.size (w1.alloc (.cells #[.string nM,.slice (some ⟨bk,0,none⟩) 4 4,sv] 70)) w2) :
  ∃vs rows,Ci w w2 w.heap.size w1.heap.size bk sv cb cf cu raw vs rows:=by
 obtain⟨vs,rows,h⟩:=hTab;refine⟨vs,rows,?_⟩;have t0:Touch [] w w1:=(tr_.alloc _).trans h.touch;have t1:Touch [] w1 (w1.alloc (.cells #[.string nM,.slice (some ⟨bk,0,none⟩) 4 4,sv] 70)):=tr_.alloc _;refine Ci.kept (W:=w1.alloc (.cells #[.string nM,.slice (some ⟨bk,0,none⟩) 4 4,sv] 70)) ⟨t1.tu _ _ _ _ (h.touch.tu _ _ _ _ (heap_alloc_new w _)),heap_alloc_new w1 _,t1.tu _ _ _ _ h.kinds,h.list.keep (t1.tu _),h.len,λi a b=>(h.rW i a b).touch t1,h.tJ,by have:=h.num;omega,(t0.trans t1).low (Hi.nil _)⟩ hK (t0.trans t1).size
end
theorem alloc_at (h:k=W.heap.size):(W.alloc ob).heap[k]?=some ob:=by rw[h];exact heap_alloc_new W ob
theorem alloc_old (h:W.heap[k]?=some x):(W.alloc ob).heap[k]?=some x:=(Below.heap_alloc W ob k (agi.1 h).1).trans h
theorem dA {x:Option Obj}(h:W.heap[k]?=x):W.drew.heap[k]?=x:=h
theorem tK {cs:Array Value}{t:TypeId}(h:Touch [] w w')(e:w.heap[k]?=some (.cells cs t f)):w'.heap[k]?=some (.cells cs t f):=h.tu _ _ _ _ e
theorem step_vals {ops:Array Oper}{a:Act}{K:Act->World->Prop}{Q:Exit->Act->World->Prop}{E:Prop}(hgd:o.guard=none)(s x:Operand)
  (ho:o.op=.call { callee:=.builtin .append,args:=#[s,x],argTypes:=#[83,83] }) (v:Value) (l:List V) (hs:a.eval s=v) (hown:Vw w v l)
  (b off c n:Nat) (l2:List V) (hx:a.eval x=.slice (some ⟨b,off,none⟩) n c) (hn:n=l2.length) (hr:Ro w (.slice (some ⟨b,off,none⟩) n c) l2) (hm:1<=l2.length) (hlen:l.length+l2.length<=1000000)
  (h:∀g cap w',Vw w' (.slice (some ⟨g,0,none⟩) (l.length+l2.length) cap) (l++l2)->w.grownBy w' v.ownBlock->(v.ownBlock=some g\/g=w.heap.size)->g<w'.heap.size->K (a.put o.dst (.slice (some ⟨g,0,none⟩) (l.length+l2.length) cap)) w') :
  if Region.wanted o (yielded ops a.tmps)=true then Oper.wp prog o a w K Q else E:=by
 obtain⟨i0,hi,hz0,hz1,hz2⟩:=info_parts info85;subst hn;refine step_append_lies w hgd s x 83 ho 0 85 i0 (.agg #[.int .i64 0,.int .i64 0,.string ⟨#[]⟩]) 3 32 underlying83 hi hz0 hz1 hz2 rfl (by decide) v _ _ hs hown ⟨b,off,none⟩ l2.length c (flat3 (l2.map V.t)) hx (by rw[fA];simp) (hr.news hm) (flat3_cells l2) hm ?_ ?_ (x_ _) _ rfl ?_
 ·unfold maxLen;omega
 ·omega
 ·intro g cap w' h1 h2 h3 h4;refine h g cap w' ?_ h2 h3 h4;unfold Vw;rw[c_,w_,show flat3 (l.map V.t++l2.map V.t)=flat3 (l.map V.t)++flat3 (l2.map V.t) by simp[flat3]];exact h1
theorem AL.at {W:World}{lo:Option Addr}{ln lc:Nat}{l:List (List V)}(h:AL W (.slice lo ln lc) l){k:Nat}(hk:k<l.length)(h1:1<=l[k].length):∃g off rb roff rP,lo=some ⟨g,off,none⟩/\W.cell? ⟨g,off+k,none⟩=some (.slice (some ⟨rb,roff,none⟩) l[k].length rP)/\Ro W (.slice (some ⟨rb,roff,none⟩) l[k].length rP) l[k]/\(l[k].length<=rP/\rP<=maxLen)/\(ln<=lc/\lc<=maxLen):=by
 obtain⟨vs',a,b,c⟩:=h;obtain⟨o,cap,e,hx⟩:=a.at.1;have hcap:=a.at.2 _ _ _ rfl;simp only[Value.slice.injEq]at e;obtain⟨e1,e2,e3⟩:=e;rcases hx with hx|⟨g,off,cs,h2,h3,h4,h5,h6⟩
 ·rw[hx]at b;simp at b;omega
 ·have hr:=c k (by omega) hk;obtain⟨rb,roff,rP,e,f1,f2,f3⟩:=hr.cells h1;refine⟨g,off,rb,roff,rP,by rw[e1,h2],?_,by rw[<-e];exact hr,⟨f1,f2⟩,hcap⟩;rw[<-e];simp only[World.cell?,h3];exact h6 k (by omega)
theorem Ci.ru {raw:List Int}(h:Ci w W bC bT bk sv cb cf cu raw vs rows):AL W sv rows:=⟨vs,h.list,h.len,h.rW⟩
theorem trow_len {raw:List Int}(h:∀i (h:i<rows.length),TR raw i rows[i])(hk:k<rows.length):rows[k].length=4:=by
 obtain⟨s,_,e⟩:=h k hk;rw[e];rfl
theorem vown_new (h:W.heap[b]?=some (.cells #[] 85 (0,0))):Vw W (.slice (some ⟨b,0,none⟩) 0 0) []:=
 ⟨by simp[flat3],Or.inr ⟨b,0,#[],rfl,x_ _,h,x_ _,x_ _,by simp,by simp[flat3]⟩⟩
theorem sH {ops:Array Oper}{a:Act}{wr:World}{K:Act->World->Prop}{Q:Exit->Act->World->Prop}{E:Prop}(hgd:o.guard=none)(s x:Operand)
  (ho:o.op=.call { callee:=.builtin .append,args:=#[s,x],argTypes:=#[83,83] }) (g0 n0 c0:Nat) (l:List V) (hs:a.eval s=.slice (some ⟨g0,0,none⟩) n0 c0) (hown:Rw wr w (.slice (some ⟨g0,0,none⟩) n0 c0) l)
  (b off c n m:Nat) (l2:List V) (hx:a.eval x=.slice (some ⟨b,off,none⟩) n c) (hn:l2.length=n) (hr:Ro wr (.slice (some ⟨b,off,none⟩) n c) l2) (hm:1<=n) (hlen:l.length+n=m) (hm2:m<=1000000)
  (h:∀g cap w',Rw wr w' (.slice (some ⟨g,0,none⟩) m cap) (l++l2)->(∀k ob,k≠g0->w.heap[k]?=some ob->w'.heap[k]?=some ob)->(g=g0\/g=w.heap.size)->g<w'.heap.size->K (a.put o.dst (.slice (some ⟨g,0,none⟩) m cap)) w') :
  if Region.wanted o (yielded ops a.tmps)=true then Oper.wp prog o a w K Q else E:=by
 subst hn;subst hlen;refine step_vals hgd s x ho _ l hs hown.own b off c _ l2 hx rfl (hr.touch hown.touch) hm hm2 ?_;intro g cap w' q1 q2 q3 q4;refine h g cap w' (hown.grow q1 q2 q3) (λk ob hk e=>?_) ?_ q4
 ·have t:Touch [g0] w w':=(Touch.refl _ _).grown q2 (λk hk=>by simpa[Value.ownBlock]using hk.symm);exact(t.block k (agi.1 e).1 (by simpa using hk)).trans e
 ·rcases q3 with e|e
  ·left;simpa[Value.ownBlock]using e.symm
  ·exact .inr e
def hasR (n:Nat):Code->Bool
 | .region i _ _=>i == n
 | .seq a b=>hasR n a || hasR n b
 | _=>false
def restR (n:Nat):Code->Option Code
 | .seq a b=>if hasR n a then some b else restR n b
 | .block _ c=>restR n c
 | .scope c=>restR n c
 | _=>none
def rest7 (f : Func) : Code := (f.body.bind (restR 4)).getD .skip
theorem Rw.ne {n c:Nat}{l:List V}{x:Array Value}(h:Rw W W' (.slice (some ⟨g,0,none⟩) n c) l)(e:W'.heap[b]?=some (.cells x 83 f)):b≠g:=by
 rintro rfl;obtain⟨cs,h2⟩:=h.own.block b (by simp[Value.ownBlock]);rw[e]at h2;simp at h2
theorem pairedRest (w wc:World)(raw:List Int)(cb cf cu:Int)(bC bT bk ln lc mn mc sc:Nat)(so lo mo:Option Addr)(vs:List Value)(rows l2:List (List V))(hB1:AL wc (.slice lo ln lc) (rows.map λr=>r++r))(hO:OutO rows.length l2)(hB2:AL wc (.slice mo mn mc) l2)(hS7:Ci w wc bC bT bk (.slice so rows.length sc) cb cf cu raw vs rows)
  (u0 u1 u2 u3 u11 u12 u13 u14 u15 u16 u17 u18 u19 u20 u21 u22 u23 u24 u25 u26 u27 u28 u29 u30 u31 u32 u33 u34 u35 u36 u37 u38 u39 u40 u41 u42 u43 u44 u45 u46 u47 u48 u49 u50 u51 u52 u53 u54 u55 u56 u57 u58 u59 u60 u61 u62 u63 u64 u65 u66 u67 u68 u69 u70 u71 u72 u73 u74 u75 u76 u77 u78 u79 u80 u81 u82 u83 u84 u85 u86 u87 u88 u89 u90 u91 u92 u93 u94 u95 u96 u97 u98 u99 u100 u101 u102 u103 u104 u105 u106 u107 u108 u109 u110 u111 u112 u113 u114 u115 u116 u117 u118 u119 u120 u121 u122 u123 u124 u125 u126:Value) :
  Code.wp prog (rest7 f7) (bodyPost prog f7 λe w'=>e=.returned (.bool true)/\Low w.heap.size w w') ⟨#[u0,u1,u2,u3,.bool false,.pointer (some ⟨bT,0,none⟩),.bool true,.slice lo ln lc,.int .i64 0,.slice mo mn mc,.int .i64 0,u11,u12,u13,u14,u15,u16,u17,u18,u19,u20,u21,u22,u23,u24,u25,u26,u27,u28,u29,u30,u31,u32,u33,u34,u35,u36,u37,u38,u39,u40,u41,u42,u43,u44,u45,u46,u47,u48,u49,u50,u51,u52,u53,u54,u55,u56,u57,u58,u59,u60,u61,u62,u63,u64,u65,u66,u67,u68,u69,u70,u71,u72,u73,u74,u75,u76,u77,u78,u79,u80,u81,u82,u83,u84,u85,u86,u87,u88,u89,u90,u91,u92,u93,u94,u95,u96,u97,u98,u99,u100,u101,u102,u103,u104,u105,u106,u107,u108,u109,u110,u111,u112,u113,u114,u115,u116,u117,u118,u119,u120,u121,u122,u123,u124,u125,u126],[]⟩ wc:=by
 obtain⟨hO1,hO2⟩:=hO
 conv=>arg 2;whnf
 have hnum:=hS7.num;have hln:ln=rows.length:=hB1.len.trans (by simp);have hmn:mn=rows.length:=hB2.len.trans hO1;subst hln;subst hmn;have HS7:Hid (Ci w wc bC bT bk (.slice so rows.length sc) cb cf cu raw vs rows):=hS7;have HL1:Hid (AL wc (.slice lo rows.length lc) (rows.map λr=>r++r)):=hB1;have HL2:Hid (AL wc (.slice mo rows.length mc) l2):=hB2;have HO1:Hid (l2.length=rows.length):=hO1;have HO2:Hid (∀r∈l2,∃a:List V,a.length=4/\r=a++List.replicate 4 V0):=hO2;clear hB1 hB2 hS7 hO1 hO2;obtain⟨c0,c1,c2⟩:=bD HS7.out.tab;clear c0 c1;go_wp2
 go_loopw [11,12] (λi _ wr=>∃k:Nat,k<=rows.length/\i=.int .i64 (k:Int)/\Touch [] wc wr) (λi _ _=>rows.length-(intOf i).toNat)
 case atStart=>exact⟨0,by omega,rfl,tr_⟩
 case round=>
  obtain⟨k,hk,rfl,hT⟩:=hrel;have hc2:=cO c2 hT;by_cases hlt:k<rows.length
  ·
   have hrl:rows[k].length=4:=trow_len HS7.out.tJ hlt;obtain⟨g,off,rb,roff,rP,rfl,d0,dR,⟨d1,d2⟩,⟨d3,d4⟩⟩:=(HL1.out.quiet hT).at (k:=k) (by simpa using hlt) (by simp[hrl]);obtain⟨g2,off2,sb,soff,scap,rfl,f0,fR,⟨f1,f2⟩,⟨f3,f4⟩⟩:=(HS7.out.quiet hT).ru.at (k:=k) hlt (by omega);have hk2:k<l2.length:=by rw[HO1.out];exact hlt
   obtain⟨ar,ha4,hae⟩:=HO2.out _ (m_ hk2);have hl8:l2[k].length=8:=by rw[hae];simp[ha4]
   obtain⟨g3,off3,tb,toff,tcap,rfl,x0,⟨x1,x2⟩,⟨x3,x4⟩,x5⟩:=(HL2.out.quiet hT).row (k:=k) hk2 (by omega);have z4:=x5 4 (by omega);have z7:=x5 7 (by omega);have v4:l2[k][4]=V0:=by simp[hae,ha4]
   have v7:l2[k][7]=V0:=by simp[hae,ha4]
   rw[v4]at z4;rw[v7]at z7;rw[hl8]at x0 x1;have hm8:((rows.map λr=>r++r)[k]'(by simpa using hlt)).length=8:=by simp[hrl]
   rw[hm8]at d0 d1 dR;rw[hrl]at f0 f1 fR;simp only[ax_]at dR;have HDR:Hid (Ro wr (.slice (some ⟨rb,roff,none⟩) 8 rP) (rows[k]++rows[k])):=dR;have HFR:Hid (Ro wr (.slice (some ⟨sb,soff,none⟩) 4 scap) rows[k]):=fR;have HRL:Hid (rows[k].length=4):=hrl;clear dR fR hrl x5 hae v4 v7 hl8 hm8 ha4;obtain⟨z40,z41,z42⟩:=z4;obtain⟨z70,z71,z72⟩:=z7;have HT:Hid (Touch [] wc wr):=hT;clear hT
   go_upto_region 10 with fail
   go_cut [12] from 71 to 126 (λa wx=>a=.bool true/\Touch [] wr wx)
   case first=>
    have HSK:Hid (∀W,Touch [] wr W->W.cell? ⟨g,off+k,none⟩=some (.slice (some ⟨rb,roff,none⟩) 8 rP)/\W.cell? ⟨bT,2,none⟩=some (.slice (some ⟨g2,off2,none⟩) rows.length sc)/\W.cell? ⟨g2,off2+k,none⟩=some (.slice (some ⟨sb,soff,none⟩) 4 scap)):=λW t=>⟨cO d0 t,cO hc2 t,cO f0 t⟩;clear d0 hc2 f0 x0 x1 x2 x3 x4 z40 z41 z42 z70 z71 z72 d1 d2 f1 f2 HL1 HL2 HS7 HO1 HO2 hk2 c2 HT;have HT0:Hid (Touch [] wr wr.drew):=tr_.drew;refine wR (λw'=>w'.cell? ⟨g,off+k,none⟩=some (.slice (some ⟨rb,roff,none⟩) 8 rP)/\w'.cell? ⟨bT,2,none⟩=some (.slice (some ⟨g2,off2,none⟩) rows.length sc)/\w'.cell? ⟨g2,off2+k,none⟩=some (.slice (some ⟨sb,soff,none⟩) 4 scap)) (by kernel_rfl) rfl (lastTo_spec (by kernel_rfl)) (HSK.out _ HT0.out) (λhHeld=>?_);generalize wr.drew=W0 at *;simp only[List.pop_toArray,List.dropLast];generalize hQB:Behind prog _ _=QB;have haa:∀c (a:Act) d v w,QB (.panic c) (a.put d v) w->QB (.panic c) a w:=by{ rw[<-hQB];intro _ _ d _ _ h;cases d<;>exact h }
    have HQB:Hid (Behind prog _ _=QB):=hQB;clear hQB;refine wpAnyH_take (i:=0) (v:=.slice (some ⟨g,off,none⟩) rows.length lc) rfl (by kernel_rfl) (by kernel_rfl) (by kernel_rfl) (λ_ _ _ h=>haa _ _ _ _ _ h) (Or.inl ⟨by rfl,λwz hz=>?_⟩) hHeld ?_
    ·obtain⟨hz0,hz1,hz2⟩:=hz;go_simp
    simp only[Act.put,List.setIfInBounds_toArray];refine wpAnyH_take (i:=1) (v:=.int .i64 (k:Int)) rfl (by kernel_rfl) (by kernel_rfl) (by kernel_rfl) (λ_ _ _ h=>haa _ _ _ _ _ h) (Or.inl ⟨by rfl,λwz hz=>?_⟩) hHeld ?_
    ·obtain⟨hz0,hz1,hz2⟩:=hz;go_simp
    simp only[Act.put];refine wpAnyH_take (i:=2) (v:=.pointer (some ⟨g,off+k,none⟩)) rfl (by kernel_rfl) (by kernel_rfl) (by kernel_rfl) (λ_ _ _ h=>haa _ _ _ _ _ h) (Or.inl ⟨by rfl,λwz hz=>?_⟩) hHeld ?_
    ·obtain⟨hz0,hz1,hz2⟩:=hz;go_simp
    simp only[Act.put];refine wpAnyH_take (i:=3) (v:=.slice (some ⟨rb,roff,none⟩) 8 rP) rfl (by kernel_rfl) (by kernel_rfl) (by kernel_rfl) (λ_ _ _ h=>haa _ _ _ _ _ h) (Or.inl ⟨by rfl,λwz hz=>?_⟩) hHeld ?_
    ·obtain⟨hz0,hz1,hz2⟩:=hz;go_simp
    simp only[Act.put];refine wpAnyH_take (i:=6) (v:=.pointer (some ⟨bT,2,none⟩)) rfl (by kernel_rfl) (by kernel_rfl) (by kernel_rfl) (λ_ _ _ h=>haa _ _ _ _ _ h) (Or.inl ⟨by rfl,λwz hz=>?_⟩) hHeld ?_
    ·obtain⟨hz0,hz1,hz2⟩:=hz;go_simp
    simp only[Act.put];refine wpAnyH_take (i:=7) (v:=.slice (some ⟨g2,off2,none⟩) rows.length sc) rfl (by kernel_rfl) (by kernel_rfl) (by kernel_rfl) (λ_ _ _ h=>haa _ _ _ _ _ h) (Or.inl ⟨by rfl,λwz hz=>?_⟩) hHeld ?_
    ·obtain⟨hz0,hz1,hz2⟩:=hz;go_simp
    simp only[Act.put];refine wpAnyH_take (i:=8) (v:=.int .i64 (k:Int)) rfl (by kernel_rfl) (by kernel_rfl) (by kernel_rfl) (λ_ _ _ h=>haa _ _ _ _ _ h) (Or.inl ⟨by rfl,λwz hz=>?_⟩) hHeld ?_
    ·obtain⟨hz0,hz1,hz2⟩:=hz;go_simp
    simp only[Act.put];refine wpAnyH_take (i:=9) (v:=.pointer (some ⟨g2,off2+k,none⟩)) rfl (by kernel_rfl) (by kernel_rfl) (by kernel_rfl) (λ_ _ _ h=>haa _ _ _ _ _ h) (Or.inl ⟨by rfl,λwz hz=>?_⟩) hHeld ?_
    ·obtain⟨hz0,hz1,hz2⟩:=hz;go_simp
    simp only[Act.put];refine wpAnyH_take (i:=10) (v:=.slice (some ⟨sb,soff,none⟩) 4 scap) rfl (by kernel_rfl) (by kernel_rfl) (by kernel_rfl) (λ_ _ _ h=>haa _ _ _ _ _ h) (Or.inl ⟨by rfl,λwz hz=>?_⟩) hHeld ?_
    ·obtain⟨hz0,hz1,hz2⟩:=hz;go_simp
    simp only[Act.put];refine wpAnyH_take (i:=12) (v:=.pointer (some ⟨bT,2,none⟩)) rfl (by kernel_rfl) (by kernel_rfl) (by kernel_rfl) (λ_ _ _ h=>haa _ _ _ _ _ h) (Or.inl ⟨by rfl,λwz hz=>?_⟩) hHeld ?_
    ·obtain⟨hz0,hz1,hz2⟩:=hz;go_simp
    simp only[Act.put];refine wpAnyH_take (i:=13) (v:=.slice (some ⟨g2,off2,none⟩) rows.length sc) rfl (by kernel_rfl) (by kernel_rfl) (by kernel_rfl) (λ_ _ _ h=>haa _ _ _ _ _ h) (Or.inl ⟨by rfl,λwz hz=>?_⟩) hHeld ?_
    ·obtain⟨hz0,hz1,hz2⟩:=hz;go_simp
    simp only[Act.put];refine wpAnyH_take (i:=14) (v:=.int .i64 (k:Int)) rfl (by kernel_rfl) (by kernel_rfl) (by kernel_rfl) (λ_ _ _ h=>haa _ _ _ _ _ h) (Or.inl ⟨by rfl,λwz hz=>?_⟩) hHeld ?_
    ·obtain⟨hz0,hz1,hz2⟩:=hz;go_simp
    simp only[Act.put];refine wpAnyH_take (i:=15) (v:=.pointer (some ⟨g2,off2+k,none⟩)) rfl (by kernel_rfl) (by kernel_rfl) (by kernel_rfl) (λ_ _ _ h=>haa _ _ _ _ _ h) (Or.inl ⟨by rfl,λwz hz=>?_⟩) hHeld ?_
    ·obtain⟨hz0,hz1,hz2⟩:=hz;go_simp
    simp only[Act.put];refine wpAnyH_take (i:=16) (v:=.slice (some ⟨sb,soff,none⟩) 4 scap) rfl (by kernel_rfl) (by kernel_rfl) (by kernel_rfl) (λ_ _ _ h=>haa _ _ _ _ _ h) (Or.inl ⟨by rfl,λwz hz=>?_⟩) hHeld ?_
    ·obtain⟨hz0,hz1,hz2⟩:=hz;go_simp
    simp only[Act.put];refine wpAnyH_ready (rs:=[4,5]) (by kernel_rfl) (by simp) (AllReadyH.cons rfl (λK hK=>?_) (AllReadyH.cons rfl (λK hK=>?_) AllReadyH.nil))
    ·skip
     go_simp;refine hK.out _ _ (HSK.out _ (HT0.out.alloc _)) (λhH1=>?_);have HT1:Hid (Touch [] wr (W0.alloc (.cells #[.slice (some ⟨rb,roff,none⟩) 8 rP] 83))):=HT0.out.alloc _;have HB1:Hid ((W0.alloc (.cells #[.slice (some ⟨rb,roff,none⟩) 8 rP] 83)).heap[W0.heap.size]?=some (.cells #[.slice (some ⟨rb,roff,none⟩) 8 rP] 83 (0,0))):=heap_alloc_new _ _;clear hK K HT0 hHeld;generalize W0.alloc (.cells #[.slice (some ⟨rb,roff,none⟩) 8 rP] 83)=W1 at *;generalize W0.heap.size=b4 at *;refine wpAnyH_ready (rs:=[5]) (by kernel_rfl) (by simp) (AllReadyH.cons rfl (λK hK=>?_) AllReadyH.nil);go_simp;refine hK.out _ _ (HSK.out _ (HT1.out.alloc _)) (λhH2=>?_);have HT2:Hid (Touch [] wr (W1.alloc (.cells #[] 85))):=HT1.out.alloc _;have HB2:Hid ((W1.alloc (.cells #[] 85)).heap[b4]?=some (.cells #[.slice (some ⟨rb,roff,none⟩) 8 rP] 83 (0,0))):=alloc_old HB1.out;have HR2:Hid (Rw wr (W1.alloc (.cells #[] 85)) (.slice (some ⟨W1.heap.size,0,none⟩) 0 0) []):=⟨vown_new (heap_alloc_new _ _),λb hb=>(by have:=HT1.out.size;simp[Value.ownBlock]at hb;omega),HT2.out⟩;clear hK K HT1 hH1 HB1;generalize W1.alloc (.cells #[] 85)=W2 at *;generalize W1.heap.size=b0 at *;refine wpAnyH_ready (rs:=[11]) (by kernel_rfl) (by simp) (AllReadyH.cons rfl (λK hK=>?_) AllReadyH.nil);refine sH (wr:=wr) rfl (.tmp 82) (.tmp 87) rfl _ _ _ [] rfl HR2.out sb soff scap 4 4 rows[k] rfl HRL.out HFR.out (by omega) (by simp) (by omega) ?_;intro ga gac W3 hg hk1 _ _;refine hK.out _ _ (HSK.out _ hg.touch) (λhH3=>?_);have HR3:Hid (Rw wr W3 (.slice (some ⟨ga,0,none⟩) 4 gac) rows[k]):=hg;have HT3:Hid (Touch [] wr W3):=hg.touch;have HB3:Hid (W3.heap[b4]?=some (.cells #[.slice (some ⟨rb,roff,none⟩) 8 rP] 83 (0,0))):=hk1 _ _ (HR2.out.ne HB2.out) HB2.out;clear hK K hg hk1 HT2 hH2 HR2 HB2;simp only[Act.put,List.setIfInBounds_toArray];refine wpAnyH_ready (rs:=[17]) (by kernel_rfl) (by simp) (AllReadyH.cons rfl (λK hK=>?_) AllReadyH.nil);refine sH (wr:=wr) rfl (.tmp 88) (.tmp 93) rfl _ _ _ rows[k] rfl HR3.out sb soff scap 4 8 rows[k] rfl HRL.out HFR.out (by omega) (by rw[HRL.out]) (by omega) ?_;intro gb gbc W4 hg hk1 _ _;refine hK.out _ _ (HSK.out _ hg.touch) (λhH4=>?_);have HR4:Hid (Rw wr W4 (.slice (some ⟨gb,0,none⟩) 8 gbc) (rows[k]++rows[k])):=hg;have HT4:Hid (Touch [] wr W4):=hg.touch;have HB4:Hid (W4.heap[b4]?=some (.cells #[.slice (some ⟨rb,roff,none⟩) 8 rP] 83 (0,0))):=hk1 _ _ (HR3.out.ne HB3.out) HB3.out;clear hK K hg hk1 HT3 hH3 HR3 HB3;simp only[Act.put];refine wpAnyH_ready (rs:=[18]) (by kernel_rfl) (by simp) (AllReadyH.cons rfl (λK hK=>?_) AllReadyH.nil);go_simp;refine hK.out _ _ (HSK.out _ (HT4.out.alloc _)) (λhH5=>?_);have HT5:Hid (Touch [] wr (W4.alloc (.cells #[.slice (some ⟨gb,0,none⟩) 8 gbc] 83))):=HT4.out.alloc _;have HB5:Hid ((W4.alloc (.cells #[.slice (some ⟨gb,0,none⟩) 8 gbc] 83)).heap[b4]?=some (.cells #[.slice (some ⟨rb,roff,none⟩) 8 rP] 83 (0,0))):=alloc_old HB4.out;have HR5:Hid (Rw wr (W4.alloc (.cells #[.slice (some ⟨gb,0,none⟩) 8 gbc] 83)) (.slice (some ⟨gb,0,none⟩) 8 gbc) (rows[k]++rows[k])):=HR4.out.quiet (tr_.alloc _);have HC5:Hid ((W4.alloc (.cells #[.slice (some ⟨gb,0,none⟩) 8 gbc] 83)).heap[W4.heap.size]?=some (.cells #[.slice (some ⟨gb,0,none⟩) 8 gbc] 83 (0,0))):=heap_alloc_new _ _;clear hK K HT4 hH4 HB4 HR4;generalize W4.alloc (.cells #[.slice (some ⟨gb,0,none⟩) 8 gbc] 83)=W5 at *;generalize W4.heap.size=b5 at *;refine wpAnyH_ready (rs:=[19]) (by kernel_rfl) (by simp) (AllReadyH.cons rfl (λK hK=>?_) AllReadyH.nil);go_simp;refine Calls.mono (saf W5 b4 0 1 b5 0 1 (.slice (some ⟨rb,roff,none⟩) 8 rP) (.slice (some ⟨gb,0,none⟩) 8 gbc) (rows[k]++rows[k]) (bg HB5.out) (bg HC5.out) (HDR.out.touch HT5.out) HR5.out.own.row (by simp[HRL.out]) (by simp[HRL.out])) ?_;rintro e w9 ⟨rfl,hT9⟩;have HT9:Hid (Touch [] wr w9):=HT5.out.trans hT9;refine hK.out _ _ (HSK.out _ HT9.out) (λhH9=>?_);clear hK K hT9 hH5 HSK HB5 HC5 HR5 HT5 HDR HFR;refine wpAnyH_done (by kernel_rfl) ?_ _;rw[<-HQB.out];unfold Behind;change Oper.wp _ _ _ _ _ _;go_simp
     go_wp2_with fail
     go_meet
     case rel=>exact⟨rfl,HT9.out⟩
    ·skip
     go_simp;refine hK.out _ _ (HSK.out _ (HT0.out.alloc _)) (λhH6=>?_);have HT6:Hid (Touch [] wr (W0.alloc (.cells #[] 85))):=HT0.out.alloc _;have HR6:Hid (Rw wr (W0.alloc (.cells #[] 85)) (.slice (some ⟨W0.heap.size,0,none⟩) 0 0) []):=⟨vown_new (heap_alloc_new _ _),λb hb=>(by have:=HT0.out.size;simp[Value.ownBlock]at hb;omega),HT6.out⟩;clear hK K HT0 hHeld;generalize W0.alloc (.cells #[] 85)=W6 at *;generalize W0.heap.size=b0 at *;refine wpAnyH_ready (rs:=[4,11]) (by kernel_rfl) (by simp) (AllReadyH.cons rfl (λK hK=>?_) (AllReadyH.cons rfl (λK hK=>?_) AllReadyH.nil))
     ·skip
      go_simp;refine hK.out _ _ (HSK.out _ (HT6.out.alloc _)) (λhH7=>?_);have HT7:Hid (Touch [] wr (W6.alloc (.cells #[.slice (some ⟨rb,roff,none⟩) 8 rP] 83))):=HT6.out.alloc _;have HB7:Hid ((W6.alloc (.cells #[.slice (some ⟨rb,roff,none⟩) 8 rP] 83)).heap[W6.heap.size]?=some (.cells #[.slice (some ⟨rb,roff,none⟩) 8 rP] 83 (0,0))):=heap_alloc_new _ _;have HR7:Hid (Rw wr (W6.alloc (.cells #[.slice (some ⟨rb,roff,none⟩) 8 rP] 83)) (.slice (some ⟨b0,0,none⟩) 0 0) []):=HR6.out.quiet (tr_.alloc _);clear hK K HT6 hH6 HR6;generalize W6.alloc (.cells #[.slice (some ⟨rb,roff,none⟩) 8 rP] 83)=W7 at *;generalize W6.heap.size=b4 at *;refine wpAnyH_ready (rs:=[11]) (by kernel_rfl) (by simp) (AllReadyH.cons rfl (λK hK=>?_) AllReadyH.nil);refine sH (wr:=wr) rfl (.tmp 82) (.tmp 87) rfl _ _ _ [] rfl HR7.out sb soff scap 4 4 rows[k] rfl HRL.out HFR.out (by omega) (by simp) (by omega) ?_;intro ga gac W8 hg hk1 _ _;refine hK.out _ _ (HSK.out _ hg.touch) (λhH8=>?_);have HR8:Hid (Rw wr W8 (.slice (some ⟨ga,0,none⟩) 4 gac) rows[k]):=hg;have HT8:Hid (Touch [] wr W8):=hg.touch;have HB8:Hid (W8.heap[b4]?=some (.cells #[.slice (some ⟨rb,roff,none⟩) 8 rP] 83 (0,0))):=hk1 _ _ (HR7.out.ne HB7.out) HB7.out;clear hK K hg hk1 HT7 hH7 HR7 HB7;simp only[Act.put,List.setIfInBounds_toArray];refine wpAnyH_ready (rs:=[17]) (by kernel_rfl) (by simp) (AllReadyH.cons rfl (λK hK=>?_) AllReadyH.nil);refine sH (wr:=wr) rfl (.tmp 88) (.tmp 93) rfl _ _ _ rows[k] rfl HR8.out sb soff scap 4 8 rows[k] rfl HRL.out HFR.out (by omega) (by rw[HRL.out]) (by omega) ?_;intro gb gbc W9 hg hk1 _ _;refine hK.out _ _ (HSK.out _ hg.touch) (λhH9=>?_);have HR9:Hid (Rw wr W9 (.slice (some ⟨gb,0,none⟩) 8 gbc) (rows[k]++rows[k])):=hg;have HT9:Hid (Touch [] wr W9):=hg.touch;have HB9:Hid (W9.heap[b4]?=some (.cells #[.slice (some ⟨rb,roff,none⟩) 8 rP] 83 (0,0))):=hk1 _ _ (HR8.out.ne HB8.out) HB8.out;clear hK K hg hk1 HT8 hH8 HR8 HB8;simp only[Act.put];refine wpAnyH_ready (rs:=[18]) (by kernel_rfl) (by simp) (AllReadyH.cons rfl (λK hK=>?_) AllReadyH.nil);go_simp;refine hK.out _ _ (HSK.out _ (HT9.out.alloc _)) (λhH10=>?_);have HT10:Hid (Touch [] wr (W9.alloc (.cells #[.slice (some ⟨gb,0,none⟩) 8 gbc] 83))):=HT9.out.alloc _;have HB10:Hid ((W9.alloc (.cells #[.slice (some ⟨gb,0,none⟩) 8 gbc] 83)).heap[b4]?=some (.cells #[.slice (some ⟨rb,roff,none⟩) 8 rP] 83 (0,0))):=alloc_old HB9.out;have HR10:Hid (Rw wr (W9.alloc (.cells #[.slice (some ⟨gb,0,none⟩) 8 gbc] 83)) (.slice (some ⟨gb,0,none⟩) 8 gbc) (rows[k]++rows[k])):=HR9.out.quiet (tr_.alloc _);have HC10:Hid ((W9.alloc (.cells #[.slice (some ⟨gb,0,none⟩) 8 gbc] 83)).heap[W9.heap.size]?=some (.cells #[.slice (some ⟨gb,0,none⟩) 8 gbc] 83 (0,0))):=heap_alloc_new _ _;clear hK K HT9 hH9 HB9 HR9;generalize W9.alloc (.cells #[.slice (some ⟨gb,0,none⟩) 8 gbc] 83)=W10 at *;generalize W9.heap.size=b5 at *;refine wpAnyH_ready (rs:=[19]) (by kernel_rfl) (by simp) (AllReadyH.cons rfl (λK hK=>?_) AllReadyH.nil);go_simp;refine Calls.mono (saf W10 b4 0 1 b5 0 1 (.slice (some ⟨rb,roff,none⟩) 8 rP) (.slice (some ⟨gb,0,none⟩) 8 gbc) (rows[k]++rows[k]) (bg HB10.out) (bg HC10.out) (HDR.out.touch HT10.out) HR10.out.own.row (by simp[HRL.out]) (by simp[HRL.out])) ?_;rintro e w9 ⟨rfl,hT9⟩;have HT9:Hid (Touch [] wr w9):=HT10.out.trans hT9;refine hK.out _ _ (HSK.out _ HT9.out) (λhH9=>?_);clear hK K hT9 hH10 HSK HB10 HC10 HR10 HT10 HDR HFR;refine wpAnyH_done (by kernel_rfl) ?_ _;rw[<-HQB.out];unfold Behind;change Oper.wp _ _ _ _ _ _;go_simp
      go_wp2_with fail
      go_meet
      case rel=>exact⟨rfl,HT9.out⟩
     ·skip
      refine sH (wr:=wr) rfl (.tmp 82) (.tmp 87) rfl _ _ _ [] rfl HR6.out sb soff scap 4 4 rows[k] rfl HRL.out HFR.out (by omega) (by simp) (by omega) ?_;intro ga gac W11 hg hk1 _ _;refine hK.out _ _ (HSK.out _ hg.touch) (λhH11=>?_);have HR11:Hid (Rw wr W11 (.slice (some ⟨ga,0,none⟩) 4 gac) rows[k]):=hg;have HT11:Hid (Touch [] wr W11):=hg.touch;clear hK K hg hk1 HT6 hH6 HR6;simp only[Act.put,List.setIfInBounds_toArray];refine wpAnyH_ready (rs:=[4,17]) (by kernel_rfl) (by simp) (AllReadyH.cons rfl (λK hK=>?_) (AllReadyH.cons rfl (λK hK=>?_) AllReadyH.nil))
      ·skip
       go_simp;refine hK.out _ _ (HSK.out _ (HT11.out.alloc _)) (λhH12=>?_);have HT12:Hid (Touch [] wr (W11.alloc (.cells #[.slice (some ⟨rb,roff,none⟩) 8 rP] 83))):=HT11.out.alloc _;have HB12:Hid ((W11.alloc (.cells #[.slice (some ⟨rb,roff,none⟩) 8 rP] 83)).heap[W11.heap.size]?=some (.cells #[.slice (some ⟨rb,roff,none⟩) 8 rP] 83 (0,0))):=heap_alloc_new _ _;have HR12:Hid (Rw wr (W11.alloc (.cells #[.slice (some ⟨rb,roff,none⟩) 8 rP] 83)) (.slice (some ⟨ga,0,none⟩) 4 gac) rows[k]):=HR11.out.quiet (tr_.alloc _);clear hK K HT11 hH11 HR11;generalize W11.alloc (.cells #[.slice (some ⟨rb,roff,none⟩) 8 rP] 83)=W12 at *;generalize W11.heap.size=b4 at *;refine wpAnyH_ready (rs:=[17]) (by kernel_rfl) (by simp) (AllReadyH.cons rfl (λK hK=>?_) AllReadyH.nil);refine sH (wr:=wr) rfl (.tmp 88) (.tmp 93) rfl _ _ _ rows[k] rfl HR12.out sb soff scap 4 8 rows[k] rfl HRL.out HFR.out (by omega) (by rw[HRL.out]) (by omega) ?_;intro gb gbc W13 hg hk1 _ _;refine hK.out _ _ (HSK.out _ hg.touch) (λhH13=>?_);have HR13:Hid (Rw wr W13 (.slice (some ⟨gb,0,none⟩) 8 gbc) (rows[k]++rows[k])):=hg;have HT13:Hid (Touch [] wr W13):=hg.touch;have HB13:Hid (W13.heap[b4]?=some (.cells #[.slice (some ⟨rb,roff,none⟩) 8 rP] 83 (0,0))):=hk1 _ _ (HR12.out.ne HB12.out) HB12.out;clear hK K hg hk1 HT12 hH12 HR12 HB12;simp only[Act.put,List.setIfInBounds_toArray];refine wpAnyH_ready (rs:=[18]) (by kernel_rfl) (by simp) (AllReadyH.cons rfl (λK hK=>?_) AllReadyH.nil);go_simp;refine hK.out _ _ (HSK.out _ (HT13.out.alloc _)) (λhH14=>?_);have HT14:Hid (Touch [] wr (W13.alloc (.cells #[.slice (some ⟨gb,0,none⟩) 8 gbc] 83))):=HT13.out.alloc _;have HB14:Hid ((W13.alloc (.cells #[.slice (some ⟨gb,0,none⟩) 8 gbc] 83)).heap[b4]?=some (.cells #[.slice (some ⟨rb,roff,none⟩) 8 rP] 83 (0,0))):=alloc_old HB13.out;have HR14:Hid (Rw wr (W13.alloc (.cells #[.slice (some ⟨gb,0,none⟩) 8 gbc] 83)) (.slice (some ⟨gb,0,none⟩) 8 gbc) (rows[k]++rows[k])):=HR13.out.quiet (tr_.alloc _);have HC14:Hid ((W13.alloc (.cells #[.slice (some ⟨gb,0,none⟩) 8 gbc] 83)).heap[W13.heap.size]?=some (.cells #[.slice (some ⟨gb,0,none⟩) 8 gbc] 83 (0,0))):=heap_alloc_new _ _;clear hK K HT13 hH13 HB13 HR13;generalize W13.alloc (.cells #[.slice (some ⟨gb,0,none⟩) 8 gbc] 83)=W14 at *;generalize W13.heap.size=b5 at *;refine wpAnyH_ready (rs:=[19]) (by kernel_rfl) (by simp) (AllReadyH.cons rfl (λK hK=>?_) AllReadyH.nil);go_simp;refine Calls.mono (saf W14 b4 0 1 b5 0 1 (.slice (some ⟨rb,roff,none⟩) 8 rP) (.slice (some ⟨gb,0,none⟩) 8 gbc) (rows[k]++rows[k]) (bg HB14.out) (bg HC14.out) (HDR.out.touch HT14.out) HR14.out.own.row (by simp[HRL.out]) (by simp[HRL.out])) ?_;rintro e w9 ⟨rfl,hT9⟩;have HT9:Hid (Touch [] wr w9):=HT14.out.trans hT9;refine hK.out _ _ (HSK.out _ HT9.out) (λhH9=>?_);clear hK K hT9 hH14 HSK HB14 HC14 HR14 HT14 HDR HFR;refine wpAnyH_done (by kernel_rfl) ?_ _;rw[<-HQB.out];unfold Behind;change Oper.wp _ _ _ _ _ _;go_simp
       go_wp2_with fail
       go_meet
       case rel=>exact⟨rfl,HT9.out⟩
      ·skip
       refine sH (wr:=wr) rfl (.tmp 88) (.tmp 93) rfl _ _ _ rows[k] rfl HR11.out sb soff scap 4 8 rows[k] rfl HRL.out HFR.out (by omega) (by rw[HRL.out]) (by omega) ?_;intro gb gbc W15 hg hk1 _ _;refine hK.out _ _ (HSK.out _ hg.touch) (λhH15=>?_);have HR15:Hid (Rw wr W15 (.slice (some ⟨gb,0,none⟩) 8 gbc) (rows[k]++rows[k])):=hg;have HT15:Hid (Touch [] wr W15):=hg.touch;clear hK K hg hk1 HT11 hH11 HR11;simp only[Act.put];refine wpAnyH_ready (rs:=[4,18]) (by kernel_rfl) (by simp) (AllReadyH.cons rfl (λK hK=>?_) (AllReadyH.cons rfl (λK hK=>?_) AllReadyH.nil))
       ·skip
        go_simp;refine hK.out _ _ (HSK.out _ (HT15.out.alloc _)) (λhH16=>?_);have HT16:Hid (Touch [] wr (W15.alloc (.cells #[.slice (some ⟨rb,roff,none⟩) 8 rP] 83))):=HT15.out.alloc _;have HB16:Hid ((W15.alloc (.cells #[.slice (some ⟨rb,roff,none⟩) 8 rP] 83)).heap[W15.heap.size]?=some (.cells #[.slice (some ⟨rb,roff,none⟩) 8 rP] 83 (0,0))):=heap_alloc_new _ _;have HR16:Hid (Rw wr (W15.alloc (.cells #[.slice (some ⟨rb,roff,none⟩) 8 rP] 83)) (.slice (some ⟨gb,0,none⟩) 8 gbc) (rows[k]++rows[k])):=HR15.out.quiet (tr_.alloc _);clear hK K HT15 hH15 HR15;generalize W15.alloc (.cells #[.slice (some ⟨rb,roff,none⟩) 8 rP] 83)=W16 at *;generalize W15.heap.size=b4 at *;refine wpAnyH_ready (rs:=[18]) (by kernel_rfl) (by simp) (AllReadyH.cons rfl (λK hK=>?_) AllReadyH.nil);go_simp;refine hK.out _ _ (HSK.out _ (HT16.out.alloc _)) (λhH17=>?_);have HT17:Hid (Touch [] wr (W16.alloc (.cells #[.slice (some ⟨gb,0,none⟩) 8 gbc] 83))):=HT16.out.alloc _;have HB17:Hid ((W16.alloc (.cells #[.slice (some ⟨gb,0,none⟩) 8 gbc] 83)).heap[b4]?=some (.cells #[.slice (some ⟨rb,roff,none⟩) 8 rP] 83 (0,0))):=alloc_old HB16.out;have HR17:Hid (Rw wr (W16.alloc (.cells #[.slice (some ⟨gb,0,none⟩) 8 gbc] 83)) (.slice (some ⟨gb,0,none⟩) 8 gbc) (rows[k]++rows[k])):=HR16.out.quiet (tr_.alloc _);have HC17:Hid ((W16.alloc (.cells #[.slice (some ⟨gb,0,none⟩) 8 gbc] 83)).heap[W16.heap.size]?=some (.cells #[.slice (some ⟨gb,0,none⟩) 8 gbc] 83 (0,0))):=heap_alloc_new _ _;clear hK K HT16 hH16 HB16 HR16;generalize W16.alloc (.cells #[.slice (some ⟨gb,0,none⟩) 8 gbc] 83)=W17 at *;generalize W16.heap.size=b5 at *;refine wpAnyH_ready (rs:=[19]) (by kernel_rfl) (by simp) (AllReadyH.cons rfl (λK hK=>?_) AllReadyH.nil);go_simp;refine Calls.mono (saf W17 b4 0 1 b5 0 1 (.slice (some ⟨rb,roff,none⟩) 8 rP) (.slice (some ⟨gb,0,none⟩) 8 gbc) (rows[k]++rows[k]) (bg HB17.out) (bg HC17.out) (HDR.out.touch HT17.out) HR17.out.own.row (by simp[HRL.out]) (by simp[HRL.out])) ?_;rintro e w9 ⟨rfl,hT9⟩;have HT9:Hid (Touch [] wr w9):=HT17.out.trans hT9;refine hK.out _ _ (HSK.out _ HT9.out) (λhH9=>?_);clear hK K hT9 hH17 HSK HB17 HC17 HR17 HT17 HDR HFR;refine wpAnyH_done (by kernel_rfl) ?_ _;rw[<-HQB.out];unfold Behind;change Oper.wp _ _ _ _ _ _;go_simp
        go_wp2_with fail
        go_meet
        case rel=>exact⟨rfl,HT9.out⟩
       ·skip
        go_simp;refine hK.out _ _ (HSK.out _ (HT15.out.alloc _)) (λhH18=>?_);have HT18:Hid (Touch [] wr (W15.alloc (.cells #[.slice (some ⟨gb,0,none⟩) 8 gbc] 83))):=HT15.out.alloc _;have HR18:Hid (Rw wr (W15.alloc (.cells #[.slice (some ⟨gb,0,none⟩) 8 gbc] 83)) (.slice (some ⟨gb,0,none⟩) 8 gbc) (rows[k]++rows[k])):=HR15.out.quiet (tr_.alloc _);have HC18:Hid ((W15.alloc (.cells #[.slice (some ⟨gb,0,none⟩) 8 gbc] 83)).heap[W15.heap.size]?=some (.cells #[.slice (some ⟨gb,0,none⟩) 8 gbc] 83 (0,0))):=heap_alloc_new _ _;clear hK K HT15 hH15 HR15;generalize W15.alloc (.cells #[.slice (some ⟨gb,0,none⟩) 8 gbc] 83)=W18 at *;generalize W15.heap.size=b5 at *;refine wpAnyH_ready (rs:=[4]) (by kernel_rfl) (by simp) (AllReadyH.cons rfl (λK hK=>?_) AllReadyH.nil);go_simp;refine hK.out _ _ (HSK.out _ (HT18.out.alloc _)) (λhH19=>?_);have HT19:Hid (Touch [] wr (W18.alloc (.cells #[.slice (some ⟨rb,roff,none⟩) 8 rP] 83))):=HT18.out.alloc _;have HB19:Hid ((W18.alloc (.cells #[.slice (some ⟨rb,roff,none⟩) 8 rP] 83)).heap[W18.heap.size]?=some (.cells #[.slice (some ⟨rb,roff,none⟩) 8 rP] 83 (0,0))):=heap_alloc_new _ _;have HR19:Hid (Rw wr (W18.alloc (.cells #[.slice (some ⟨rb,roff,none⟩) 8 rP] 83)) (.slice (some ⟨gb,0,none⟩) 8 gbc) (rows[k]++rows[k])):=HR18.out.quiet (tr_.alloc _);have HC19:Hid ((W18.alloc (.cells #[.slice (some ⟨rb,roff,none⟩) 8 rP] 83)).heap[b5]?=some (.cells #[.slice (some ⟨gb,0,none⟩) 8 gbc] 83 (0,0))):=alloc_old HC18.out;clear hK K HT18 hH18 HR18 HC18;generalize W18.alloc (.cells #[.slice (some ⟨rb,roff,none⟩) 8 rP] 83)=W19 at *;generalize W18.heap.size=b4 at *;refine wpAnyH_ready (rs:=[19]) (by kernel_rfl) (by simp) (AllReadyH.cons rfl (λK hK=>?_) AllReadyH.nil);go_simp;refine Calls.mono (saf W19 b4 0 1 b5 0 1 (.slice (some ⟨rb,roff,none⟩) 8 rP) (.slice (some ⟨gb,0,none⟩) 8 gbc) (rows[k]++rows[k]) (bg HB19.out) (bg HC19.out) (HDR.out.touch HT19.out) HR19.out.own.row (by simp[HRL.out]) (by simp[HRL.out])) ?_;rintro e w9 ⟨rfl,hT9⟩;have HT9:Hid (Touch [] wr w9):=HT19.out.trans hT9;refine hK.out _ _ (HSK.out _ HT9.out) (λhH9=>?_);clear hK K hT9 hH19 HSK HB19 HC19 HR19 HT19 HDR HFR;refine wpAnyH_done (by kernel_rfl) ?_ _;rw[<-HQB.out];unfold Behind;change Oper.wp _ _ _ _ _ _;go_simp
        go_wp2_with fail
        go_meet
        case rel=>exact⟨rfl,HT9.out⟩
   case rest=>
    obtain⟨rfl,hTx⟩:=hcut;have n0:=cO x0 hTx;have n40:=cO z40 hTx;have n41:=cO z41 hTx;have n42:=cO z42 hTx;have n70:=cO z70 hTx;have n71:=cO z71 hTx;have n72:=cO z72 hTx;simp only[V0]at n40 n41 n42 n70 n71 n72;have HTX:Hid (Touch [] wr wc):=hTx;have hw3:IntKind.i64.wrap ((k:Int)+1)=(k:Int)+1:=wrap_small _ (by omega) (by omega);clear d0 f0 x0 z40 z41 z42 z70 z71 z72 hTx hc2 c2;go_wp2;exact⟨⟨k+1,by omega,by simp,HT.out.trans HTX.out⟩,by simp only[intOf];omega⟩
  ·obtain rfl:k=rows.length:=by omega
   go_wp2;go_ret;exact⟨by simp,(HS7.out.quiet hT).low⟩
def findR (n:Nat):Code->Option Code
 | .region i o d=>if i == n then some (.region i o d)else none
 | .seq a b=>match findR n a with
  | some c=>some c
  | none=>findR n b
 | .block _ c=>findR n c
 | .scope c=>findR n c
 | _=>none
def reg7 (f : Func) (n : Nat) : Code := (f.body.bind (findR n)).getD .skip
theorem pairedSelf (w w2:World)(raw:List Int)(cb cf cu:Int)(bC bT bk sc:Nat)(so:Option Addr)(vs:List Value)(rows:List (List V))(hb:I64 cb)(hf:I64 cf)(hu:I64 cu)(HS2:Hid (Ci w w2 bC bT bk (.slice so rows.length sc) cb cf cu raw vs rows))(K:Act->World->Prop)(Φ:Ending->World->Prop)
  (u0 u1 u2 u4 u6 u7 u8 u9 u10 u11 u12 u13 u14 u15 u16 u17 u18 u19 u20 u21 u22 u23 u24 u25 u26 u27 u28 u29 u30 u31 u32 u33 u34 u35 u36 u37 u38 u39 u40 u41 u42 u43 u44 u45 u46 u47 u48 u49 u50 u51 u52 u53 u54 u55 u56 u57 u58 u59 u60 u61 u62 u63 u64 u65 u66 u67 u68 u69 u70 u71 u72 u73 u74 u75 u76 u77 u78 u79 u80 u81 u82 u83 u84 u85 u86 u87 u88 u89 u90 u91 u92 u93 u94 u95 u96 u97 u98 u99 u100 u101 u102 u103 u104 u105 u106 u107 u108 u109 u110 u111 u112 u113 u114 u115 u116 u117 u118 u119 u120 u121 u122 u123 u124 u125 u126:Value)
  (hK:Hid (∀(lo:Option Addr) (ln lc:Nat) (t16 t17 t18 t19 t20 t21 t22 t23 t24 t25 t26 t27 t28:Value) (wx:World),AL wx (.slice lo ln lc) (rows.map λr=>r++r)/\Ci w wx bC bT bk (.slice so rows.length sc) cb cf cu raw vs rows->K ⟨#[u0,u1,u2,.pointer (some ⟨bC,0,none⟩),u4,.pointer (some ⟨bT,0,none⟩),u6,.slice lo ln lc,.int .i64 0,u9,u10,u11,u12,u13,u14,u15,t16,t17,t18,t19,t20,t21,t22,t23,t24,t25,t26,t27,t28,u29,u30,u31,u32,u33,u34,u35,u36,u37,u38,u39,u40,u41,u42,u43,u44,u45,u46,u47,u48,u49,u50,u51,u52,u53,u54,u55,u56,u57,u58,u59,u60,u61,u62,u63,u64,u65,u66,u67,u68,u69,u70,u71,u72,u73,u74,u75,u76,u77,u78,u79,u80,u81,u82,u83,u84,u85,u86,u87,u88,u89,u90,u91,u92,u93,u94,u95,u96,u97,u98,u99,u100,u101,u102,u103,u104,u105,u106,u107,u108,u109,u110,u111,u112,u113,u114,u115,u116,u117,u118,u119,u120,u121,u122,u123,u124,u125,u126],[]⟩ wx)) :
  Code.wp prog (reg7 f7 3) (Exit.then K (bodyPost prog f7 Φ)) ⟨#[u0,u1,u2,.pointer (some ⟨bC,0,none⟩),u4,.pointer (some ⟨bT,0,none⟩),u6,u7,u8,u9,u10,u11,u12,u13,u14,u15,u16,u17,u18,u19,u20,u21,u22,u23,u24,u25,u26,u27,u28,u29,u30,u31,u32,u33,u34,u35,u36,u37,u38,u39,u40,u41,u42,u43,u44,u45,u46,u47,u48,u49,u50,u51,u52,u53,u54,u55,u56,u57,u58,u59,u60,u61,u62,u63,u64,u65,u66,u67,u68,u69,u70,u71,u72,u73,u74,u75,u76,u77,u78,u79,u80,u81,u82,u83,u84,u85,u86,u87,u88,u89,u90,u91,u92,u93,u94,u95,u96,u97,u98,u99,u100,u101,u102,u103,u104,u105,u106,u107,u108,u109,u110,u111,u112,u113,u114,u115,u116,u117,u118,u119,u120,u121,u122,u123,u124,u125,u126],[]⟩ w2:=by
 conv=>arg 2;whnf
 have HR:Hid (∀W,Calls prog 37 #[.agg #[.int .i64 cb,.int .i64 cf,.int .i64 cu]] W λe w'=>∃blk fan bud:Nat,e=.returned (.agg #[.int .i64 (blk:Int),.int .i64 (fan:Int),.int .i64 (bud:Int)])/\Hid ((192<=blk/\blk<=640)/\(2<=fan/\fan<=16)/\(4*blk<=bud/\6400<=bud/\bud<=110000))/\Touch [] W w'):=λW=>by
  refine(roomy_any W cb cf cu hb hf hu).mono ?_;rintro e w' ⟨blk,fan,bud,rfl,h1,h2,h3,h4⟩;exact⟨blk,fan,bud,rfl,⟨h1,h2,h3⟩,h4⟩
 have HC:Hid (∀W,Ci w W bC bT bk (.slice so rows.length sc) cb cf cu raw vs rows->(W.cell? ⟨bT,0,none⟩=some (.string nM)/\W.cell? ⟨bT,1,none⟩=some (.slice (some ⟨bk,0,none⟩) 4 4)/\W.cell? ⟨bT,2,none⟩=some (.slice so rows.length sc))/\(W.cell? ⟨bC,0,none⟩=some (.int .i64 cb)/\W.cell? ⟨bC,1,none⟩=some (.int .i64 cf)/\W.cell? ⟨bC,2,none⟩=some (.int .i64 cu))):=λW t=>⟨bD t.tab,bD t.cfg⟩;obtain⟨⟨c0,c1,c2⟩,⟨c3,c4,c5⟩⟩:=HC.out w2 HS2.out;have hltC:bC<w2.heap.size:=lt_of_cell c3;have hltT:bT<w2.heap.size:=lt_of_cell c0
 go_region_held3 (λw'=>(w'.cell? ⟨bT,0,none⟩=some (.string nM)/\w'.cell? ⟨bT,1,none⟩=some (.slice (some ⟨bk,0,none⟩) 4 4)/\w'.cell? ⟨bT,2,none⟩=some (.slice so rows.length sc))/\(w'.cell? ⟨bC,0,none⟩=some (.int .i64 cb)/\w'.cell? ⟨bC,1,none⟩=some (.int .i64 cf)/\w'.cell? ⟨bC,2,none⟩=some (.int .i64 cu))) (first|(refine HC.out _ (HS2.out.quiet ?_);(repeat (first|with_reducible exact Touch.refl _ _|with_reducible refine Touch.alloc ?_ _|with_reducible refine Touch.drew ?_));done)|(refine HC.out _ (HS2.out.quiet (Touch.trans HU6.out ?_));(repeat (first|with_reducible exact Touch.refl _ _|with_reducible refine Touch.alloc ?_ _|with_reducible refine Touch.drew ?_));done)|go_keep) (first|(go_at_call 37;refine(HR.out _).mono ?_;rintro e w6 ⟨blk,fan,bud,rfl,HBF,hT⟩;have HK6:Hid (Touch [] _ w6):=hT;have HU6:Hid (Touch [] w2 w6):=(by refine Touch.trans ?_ hT;(repeat (first|with_reducible exact Touch.refl _ _|with_reducible refine Touch.alloc ?_ _|with_reducible refine Touch.drew ?_)));obtain⟨⟨q0,q1,q2⟩,⟨q3,q4,q5⟩⟩:=HC.out w6 (HS2.out.quiet HU6.out);have hlC6:bC<w6.heap.size:=lt_of_cell q3;have hlT6:bT<w6.heap.size:=lt_of_cell q0;clear hT)|(go_at_call 32;refine Calls.mono (Ci.self HS2.out HBF (by(repeat (first|(with_reducible refine alloc_at ?_;first|with_reducible rfl|(simp[World.size_alloc];done))|with_reducible refine alloc_old ?_|with_reducible refine dA ?_|with_reducible refine tK HK6.out ?_))) (by(repeat (first|(with_reducible refine alloc_at ?_;first|with_reducible rfl|(simp[World.size_alloc];done))|with_reducible refine alloc_old ?_|with_reducible refine dA ?_|with_reducible refine tK HK6.out ?_))) (by(repeat (first|(with_reducible refine alloc_at ?_;first|with_reducible rfl|(simp[World.size_alloc];done))|with_reducible refine alloc_old ?_|with_reducible refine dA ?_|with_reducible refine tK HK6.out ?_))) (by first|with_reducible exact HU6.out|(refine Touch.trans HU6.out ?_;(repeat (first|with_reducible exact Touch.refl _ _|with_reducible refine Touch.alloc ?_ _|with_reducible refine Touch.drew ?_))))) ?_;rintro e w7 ⟨lo,ln,lc,rfl,HA⟩;obtain⟨⟨r0,r1,r2⟩,⟨r3,r4,r5⟩⟩:=HC.out w7 HA.out.2))
 all_goals
  go_wp2_with fail
  exact hK.out lo ln lc _ _ _ _ _ _ _ _ _ _ _ _ _ w7 HA.out
end Go.Proofs.YtjoinhljdbljaaaGreat
