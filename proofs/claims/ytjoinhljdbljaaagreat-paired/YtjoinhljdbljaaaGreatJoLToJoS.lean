/- A table joined with itself, and what follows. -/
import Derived.Test.YtjoinhljdbljaaaGreatJoCToJoK
set_option maxHeartbeats 4000000
set_option maxRecDepth 20000
set_option linter.unusedSectionVars false
namespace Go.Proofs.YtjoinhljdbljaaaGreat
open Go.RowKit Go.Proofs.Tryz
variable [Inhabited Ground]
variable {A B W W' W0 w:World} {D X:List Nat} {M M':List PF} {N N' N2 b blk bm bx gf gl gp gr k l lo q rc:Nat} {T:List TypeId} {Z:List (Nat×Array Value×TypeId)} {cs lb ll lr:Array Value} {d d':DS} {ob ob':Obj} {t:TypeId} {wv:Value}
def Pn (w:World)(gp:Nat)(ns:List ND):Prop:=w.heap[gp]?=some (.cells (ns.flatMap λn=>n.cells.toList).toArray 79 (0,0))
theorem plan_get:∀(ns:List ND) (k:Nat) (n:ND),ns[k]?=some n->∀j,j<9->(ns.flatMap λn=>n.cells.toList)[k*9+j]?=n.cells.toList[j]?
 | [],k,n,h,j,hj=>by simp at h
 | a::ns,0,n,h,j,hj=>by
  simp only[List.getElem?_cons_zero,j_]at h;subst h;rw[List.flatMap_cons,Nat.zero_mul,U_,aa_ (by simp[ND.cells];omega)]
 | a::ns,k+1,n,h,j,hj=>by
  have:=plan_get ns k n (by simpa using h) j hj;rw[List.flatMap_cons,ae_ (by simp[ND.cells];omega)];rw[<-this]
  congr 1
  simp[ND.cells];omega
theorem Pn.cell {w:World}{gp:Nat}{ns:List ND}(h:Pn w gp ns){k:Nat}{n:ND}(hk:ns[k]?=some n):w.cell? ⟨gp,k*9,none⟩=some (.int .i64 n.op)/\w.cell? ⟨gp,k*9+1,none⟩=some (.int .i64 n.l)/\w.cell? ⟨gp,k*9+2,none⟩=some (.int .i64 n.r)/\w.cell? ⟨gp,k*9+3,none⟩=some (.string n.tb)/\w.cell? ⟨gp,k*9+4,none⟩=some n.kv/\w.cell? ⟨gp,k*9+5,none⟩=some (.int .i64 n.cnt)/\w.cell? ⟨gp,k*9+6,none⟩=some n.cv/\w.cell? ⟨gp,k*9+7,none⟩=some n.ov/\w.cell? ⟨gp,k*9+8,none⟩=some n.sv:=by
 have e:∀j,j<9->w.cell? ⟨gp,k*9+j,none⟩=n.cells.toList[j]?:=λj hj=>by
  rw[<-plan_get ns k n hk j hj];unfold Pn at h;simp[World.cell?,h]
 exact⟨e 0 (by omega),e 1 (by omega),e 2 (by omega),e 3 (by omega),e 4 (by omega),e 5 (by omega),e 6 (by omega),e 7 (by omega),e 8 (by omega)⟩
theorem Pn.quiet {ns:List ND}(h:Pn w gp ns)(t:Touch [] w W):Pn W gp ns:=t.tu 79 _ _ _ h
structure Ak (w:World)(gp:Nat)(ns:List ND)(tv sv:Value)(name:ByteArray)(ko:Option Addr)(kn kc:Nat)(n:ND)(vs:List Value)(rows:List (List V))(cols others:List Int)(bx bm blk fan bud:Nat)(XC:List Nat)(d:DS)(M:List PF):Prop where
 plan:Pn w gp ns
 tab:TabAt w tv name (.slice ko kn kc) sv
 list:LAt w sv vs
 len:vs.length=rows.length
 rW:∀i (_:i<vs.length) (_:i<rows.length),Ro w vs[i] rows[i]
 sides:Si w n cols others kn kn
 inX:InX XC n
 cak:∀k∈XC,∃cs f,w.heap[k]?=some (.cells cs 3 f)
 sl:n.Slices
 nU:SL blk fan bud kn (cols.map keyOf) rows
 pd:PD w bx bm d M
 ok:Di d
 b3:(blk:Int)<=d.block
 hi:Hi bm (dI bx bm M)
section
variable {w W:World} {gp:Nat} {ns:List ND} {tv sv:Value} {name:ByteArray} {ko:Option Addr} {kn kc:Nat} {n:ND} {vs:List Value} {rows:List (List V)} {cols others:List Int} {bx bm blk fan bud:Nat} {XC:List Nat} {d:DS} {M:List PF}
theorem Ak.quiet (h:Ak w gp ns tv sv name ko kn kc n vs rows cols others bx bm blk fan bud XC d M)(t:Touch [] w W):Ak W gp ns tv sv name ko kn kc n vs rows cols others bx bm blk fan bud XC d M:=
 { h with plan:=h.plan.quiet t,tab:=h.tab.keep (t.tu _),list:=h.list.keep (t.tu _),rW:=λi a b=>(h.rW i a b).touch t,sides:=h.sides.touch t,cak:=λk hk=>(h.cak k hk).imp λ_ h=>h.imp λ_ h=>t.tu _ _ _ _ h,pd:=h.pd.away t (by simp) }
theorem Ak.rl (h:Ak w gp ns tv sv name ko kn kc n vs rows cols others bx bm blk fan bud XC d M):∀r∈rows,r.length=kn:=λr hr=>by
 obtain⟨i,hi,rfl⟩:=A_ hr;exact(h.nU.oks.ok i hi).len
theorem Ak.ctx (h:Ak w gp ns tv sv name ko kn kc n vs rows cols others bx bm blk fan bud XC d M)(hQ:w.heap[q]?=some (.cells #[tv,.int .i64 (blk:Int),.int .i64 (fan:Int),.int .i64 (bud:Int),.pointer (some ⟨bx,0,none⟩),wv] 162 (0,0))):JCtx w q tv wv sv n vs rows cols others kn bx bm blk fan bud XC d M:=
 ⟨hQ,h.sides,h.inX,h.cak,h.sl,h.nU,h.pd,h.ok,h.b3,h.hi,h.rl⟩
theorem Ak.in_ (h:Ak w gp ns tv sv name ko kn kc n vs rows cols others bx bm blk fan bud XC d M)(hb:w.heap[b]?=some (.cells #[sv] 36 (0,0))):TB w b sv vs rows:=⟨hb,h.list,h.len,h.rW⟩
theorem Ak.scan (h:Ak w gp ns tv sv name ko kn kc n vs rows cols others bx bm blk fan bud XC d M)(hQ:w.heap[q]?=some (.cells #[tv,.int .i64 (blk:Int),.int .i64 (fan:Int),.int .i64 (bud:Int),.pointer (some ⟨bx,0,none⟩),wv] 162 (0,0))) :
  Hid (∀W,Touch [] w W->Calls prog 105 #[.pointer (some ⟨q,0,none⟩),.string name] W λe w'=>∃b,e=.returned (.agg #[.int .i64 (kn:Int),.func (.func 162) #[] #[.pointer (some ⟨b,0,none⟩)]])/\w'.heap[b]?=some (.cells #[sv] 36 (0,0))/\Touch [] W w'):=λW hW=>by
 have hA:=h.quiet hW;exact sS W q tv wv bx blk fan bud name kn kc ko sv vs rows (hW.tu _ _ _ _ hQ) hA.tab hA.list hA.len hA.rW (λr hr v hv=>by
  obtain⟨i,hi,rfl⟩:=A_ hr;exact(hA.nU.oks.ok i hi).fair v hv) (λr hr=>by
  obtain⟨i,hi,rfl⟩:=A_ hr;have e1:=(hA.nU.oks.ok i hi).size;have e2:=(hA.nU.oks.ok i hi).len;have e3:=hA.nU.c2;simp only at e1 e2;exact⟨e1,by omega⟩) hA.nU.b2 hA.nU.few
end
theorem resSet (h:W.heap[gr]?=some (.cells cs 167 (0,0)))(k:Nat)(i:Int)(f:Value):((W.setCell ⟨gr,k*2,none⟩ (.int .i64 i)).setCell ⟨gr,k*2+1,none⟩ f).heap[gr]?=some (.cells (setR cs k i f) 167 (0,0))/\Touch [gr] W ((W.setCell ⟨gr,k*2,none⟩ (.int .i64 i)).setCell ⟨gr,k*2+1,none⟩ f):=by
 refine⟨?_,((Touch.refl [gr] W).setCell (p:=⟨gr,k*2,none⟩) (by simp) _).setCell (p:=⟨gr,k*2+1,none⟩) (by simp) _⟩;rw[heap_setCell_same _ gr (k*2+1) _ 167 _ (heap_setCell_same W gr (k*2) _ 167 _ h)];rfl
def fV (b:Nat):Value:=.func (.func 162) #[] #[.pointer (some ⟨b,0,none⟩)]
def z0:Value:=.int .i64 0
def QC (tv:Value)(blk fan bud bx:Nat)(wv:Value):Array Value:=#[tv,.int .i64 (blk:Int),.int .i64 (fan:Int),.int .i64 (bud:Int),.pointer (some ⟨bx,0,none⟩),wv]
def SE (q kn bL bR:Nat)(sv:Value)(n:ND)(lb:Array Value)(W:World):Prop:=
 ∃bq bn br bl b1 b2,lb=#[.pointer (some ⟨bq,0,none⟩),.pointer (some ⟨bn,0,none⟩),.pointer (some ⟨br,0,none⟩),.pointer (some ⟨bl,0,none⟩)]/\JM W q n 178 #[.pointer (some ⟨b1,0,none⟩),.pointer (some ⟨b2,0,none⟩)] kn 162 #[.pointer (some ⟨bR,0,none⟩)] bq bn br bl/\W.heap[b1]?=some (.cells #[fV bL] 165 (0,0))/\W.heap[b2]?=some (.cells #[n.cv] 37 (0,0))/\W.heap[bL]?=some (.cells #[sv] 36 (0,0))/\W.heap[bR]?=some (.cells #[sv] 36 (0,0))
theorem JM.set {n:ND}{bq bn br bl B:Nat}(h:JM W q n gl ll rc gr lr bq bn br bl)(hB:W.heap[B]?=some (.cells cs 167 (0,0)))(hcs:cs≠#[.int .i64 (rc:Int),.func (.func gr) #[] lr])(t:Touch [B] W W'):JM W' q n gl ll rc gr lr bq bn br bl:=by
 have k:∀t',(167:TypeId)≠t'->KT t' W W':=λt' ht=>t.tag (nO hB ht);refine⟨k _ (by decide) _ _ _ h.hq,k _ (by decide) _ _ _ h.hn,t.u.keep h.hr (by decide) (λe=>hcs ?_),k _ (by decide) _ _ _ h.hl⟩;have:=h.hr;rw[ms_ e,hB]at this;simpa using this
theorem SE.set {W W':World}{q kn bL bR B:Nat}{sv:Value}{n:ND}{lb cs:Array Value}(h:SE q kn bL bR sv n lb W)(hB:W.heap[B]?=some (.cells cs 167 (0,0)))(hcs:cs≠#[.int .i64 (kn:Int),fV bR])(t:Touch [B] W W'):SE q kn bL bR sv n lb W':=by
 have k:∀t',(167:TypeId)≠t'->KT t' W W':=λt' ht=>t.tag (nO hB ht);obtain⟨bq,bn,br,bl,b1,b2,e,h1,h2,h3,h4,h5⟩:=h;exact⟨bq,bn,br,bl,b1,b2,e,h1.set hB hcs t,k _ (by decide) _ _ _ h2,k _ (by decide) _ _ _ h3,k _ (by decide) _ _ _ h4,k _ (by decide) _ _ _ h5⟩
theorem SE.quiet {W W':World}{q kn bL bR:Nat}{sv:Value}{n:ND}{lb:Array Value}(h:SE q kn bL bR sv n lb W)(t:Touch [] W W'):SE q kn bL bR sv n lb W':=by
 obtain⟨bq,bn,br,bl,b1,b2,e,h1,h2,h3,h4,h5⟩:=h;exact⟨bq,bn,br,bl,b1,b2,e,h1.quiet t,t.tu _ _ _ _ h2,t.tu _ _ _ _ h3,t.tu _ _ _ _ h4,t.tu _ _ _ _ h5⟩
def SelfSt (w:World)(q gr:Nat)(Q:Array Value)(kn:Nat)(sv:Value)(n:ND)(k:Nat)(cs:Array Value)(W:World):Prop:=
 Touch [] w W/\W.heap[q]?=some (.cells Q 162 (0,0))/\W.heap[gr]?=some (.cells cs 167 (0,0))/\match k with
 | 0=>cs=#[z0,.nilFunc,z0,.nilFunc,z0,.nilFunc]
 | 1=>∃b,cs=#[.int .i64 (kn:Int),fV b,z0,.nilFunc,z0,.nilFunc]/\W.heap[b]?=some (.cells #[sv] 36 (0,0))
 | 2=>∃b c,cs=#[.int .i64 (kn:Int),fV b,.int .i64 (kn:Int),fV c,z0,.nilFunc]/\W.heap[b]?=some (.cells #[sv] 36 (0,0))/\W.heap[c]?=some (.cells #[sv] 36 (0,0))
 | _=>∃b c i cl cq lb,cs=#[.int .i64 (kn:Int),fV b,.int .i64 (kn:Int),fV c,.int .i64 i,.func (.func 140) #[] #[.pointer (some ⟨cl,0,none⟩),.pointer (some ⟨cq,0,none⟩)]]/\W.heap[cq]?=some (.cells #[.pointer (some ⟨q,0,none⟩)] 159 (0,0))/\W.heap[cl]?=some (.cells #[.func (.func 149) #[] lb] 165 (0,0))/\SE q kn b c sv n lb W
theorem make163t (W:World):(Instr.makeSlice 163 (.int .i64 ((3:Nat):Int)) (.int .i64 ((3:Nat):Int))).run prog W=.ok (.slice (some ⟨W.heap.size,0,none⟩) 3 3) (W.alloc (.cells #[z0,.nilFunc,z0,.nilFunc,z0,.nilFunc] 167)):=by kernel_rfl
section
variable {w:World} {gp:Nat} {sv:Value} {name:ByteArray} {ko:Option Addr} {kn kc:Nat} {n:ND} {vs:List Value} {rows:List (List V)} {cols others:List Int} {bx bm blk fan bud:Nat} {XC:List Nat} {d:DS} {M:List PF} {tO:Option Addr} {tn tc:Nat} {P1 P2 m j1 j2 j3:Nat}
theorem answerSelf_any (h:Ak w gp [sN name,sN name,n] (.slice tO tn tc) sv name ko kn kc n vs rows cols others bx bm blk fan bud XC d M)(hop:n.op=4)(hnl:n.l=0)(hnr:n.r=1)(numR:SL blk fan bud kn (others.map keyOf) rows)(nnL:nN cols rows=rows)(nnR:nN others rows=rows)(hjr:JRows blk false cols others kn rows rows)
  (hl:Left d (2*rows.length+((P1*(rows.length+1)+(2*rows.length+((P2*(rows.length+1)+m)+1)))+1)) (rows.length+j1)) (hP1:1000000000<=P1+j1) (hPj1:P1+(rows.length+j2)<=j1) (hPs1:P1<=900000) (hP2:1000000000<=P2+j2) (hPj2:P2+j3<=j2) (hPs2:P2<=900000) :
  Calls prog 59 #[.slice tO tn tc,.slice (some ⟨gp,0,none⟩) 3 3,.agg #[.int .i64 (blk:Int),.int .i64 (fan:Int),.int .i64 (bud:Int)],.pointer (some ⟨bx,0,none⟩)] w λe w'=>∃lv,e=.returned lv/\∃out,JFin bx bm blk m j3 false cols others kn rows rows out w'/\(∃vs',LW w' lv vs'/\vs'.length=out.length/\∀i (_:i<vs'.length) (_:i<out.length),Ro w' vs'[i] out[i])/\Kept bm w w':=by
 have hkn:kn<=1000:=h.nU.c2;have hbm:bm<w.heap.size:=h.pd.lt bm (by simp);refine answer_gen w gp 3 blk fan bud bx tO tn tc #[z0,.nilFunc,z0,.nilFunc,z0,.nilFunc] (λk=>if k<=1 then sN name else n) (SelfSt w (w.heap.size+1) (w.heap.size+1+1) (QC (.slice tO tn tc) blk fan bud bx (.slice none 0 0)) kn sv n) _ (by omega) (by omega) make163t ⟨(((tr_.alloc _).alloc _).alloc _),(Below.heap_alloc _ _ _ (by simp)).trans (new2 _ _ _),?_,rfl⟩ ⟨?_,?_,?_⟩
 ·have:=heap_alloc_new ((w.alloc (.cells #[.int .i64 (blk:Int),.int .i64 (fan:Int),.int .i64 (bud:Int)] 51)).alloc (.cells #[.slice tO tn tc,.int .i64 (blk:Int),.int .i64 (fan:Int),.int .i64 (bud:Int),.pointer (some ⟨bx,0,none⟩),.slice none 0 0] 162)) (.cells #[z0,.nilFunc,z0,.nilFunc,z0,.nilFunc] 167);rw[World.size_alloc,World.size_alloc]at this;exact this
 ·rintro k cs W hk ⟨t,_⟩;have hp:=h.plan.quiet t;rcases k with _|_|_|k
  ·exact⟨⟨⟨_,_,_,rfl⟩,⟨_,_,_,rfl⟩,⟨_,_,_,rfl⟩,⟨_,_,_,rfl⟩⟩,hp.cell (k:=0) rfl⟩
  ·exact⟨⟨⟨_,_,_,rfl⟩,⟨_,_,_,rfl⟩,⟨_,_,_,rfl⟩,⟨_,_,_,rfl⟩⟩,hp.cell (k:=1) rfl⟩
  ·exact⟨h.sl,hp.cell (k:=2) rfl⟩
  ·omega
 ·rintro k cs W hk ⟨t,hQ,hG,hst⟩;have tB:Touch [] W (W.alloc (.cells (if k<=1 then sN name else n).cells 79)):=tr_.alloc _;generalize W.alloc (.cells (if k<=1 then sN name else n).cells 79)=WB at *;have tWB:=t.trans tB;have hQB:=tB.tu _ _ _ _ hQ;have hGB:=tB.tu _ _ _ _ hG;have hgB:=(agi.1 hGB).1;have fin:∀(W2:World) (i:Int) (f:Value),Touch [] WB W2->W2.heap[w.heap.size+1+1]?=some (.cells cs 167 (0,0))/\((W2.setCell ⟨w.heap.size+1+1,k*2,none⟩ (.int .i64 i)).setCell ⟨w.heap.size+1+1,k*2+1,none⟩ f).heap[w.heap.size+1+1]?=some (.cells (setR cs k i f) 167 (0,0))/\Touch [w.heap.size+1+1] W2 ((W2.setCell ⟨w.heap.size+1+1,k*2,none⟩ (.int .i64 i)).setCell ⟨w.heap.size+1+1,k*2+1,none⟩ f)/\Touch [] w ((W2.setCell ⟨w.heap.size+1+1,k*2,none⟩ (.int .i64 i)).setCell ⟨w.heap.size+1+1,k*2+1,none⟩ f)/\((W2.setCell ⟨w.heap.size+1+1,k*2,none⟩ (.int .i64 i)).setCell ⟨w.heap.size+1+1,k*2+1,none⟩ f).heap[w.heap.size+1]?=some (.cells (QC (.slice tO tn tc) blk fan bud bx (.slice none 0 0)) 162 (0,0)):=λW2 i f t2=>by
   have e2:=t2.tu _ _ _ _ hGB;obtain⟨e3,t3⟩:=resSet e2 k i f;exact⟨e2,e3,t3,(tWB.trans t2).more t3 (λj hj=>.inr (by rw[ms_ hj];omega)),t3.tag (nO e2 (by decide)) _ _ _ (t2.tu _ _ _ _ hQB)⟩
  rcases k with _|_|_|k
  ·obtain rfl:=hst;refine(rY WB _ _ 3 kn name sv 0 .nilFunc (.inl rfl) (by omega) hgB (by simp[World.cell?,hGB,z0]) (by simp[World.cell?,hGB]) ((h.quiet tWB).scan hQB)).mono ?_;rintro e W2 ⟨b,rfl,hb,t2⟩;obtain⟨e2,e3,t3,t4,q4⟩:=fin W2 kn (fV b) t2;refine⟨_,_,_,_,rfl,e2,rfl,false,(wI _ gp 3 0 (by omega) (by omega) (.inr ((h.plan.quiet t4).cell (k:=0) rfl).1)).mono ?_⟩;rintro e W4 ⟨rfl,rfl⟩;exact⟨rfl,.inl ⟨rfl,t4,q4,e3,b,rfl,t3.tag (nO e2 (by decide)) _ _ _ hb⟩⟩
  ·obtain⟨b,rfl,hb⟩:=hst;refine(rY WB _ _ 3 kn name sv kn (fV b) (.inr ⟨_,_,_,rfl⟩) (by omega) hgB (by simp[World.cell?,hGB]) (by simp[World.cell?,hGB]) ((h.quiet tWB).scan hQB)).mono ?_;rintro e W2 ⟨c,rfl,hc,t2⟩;obtain⟨e2,e3,t3,t4,q4⟩:=fin W2 kn (fV c) t2;refine⟨_,_,_,_,rfl,e2,rfl,false,(wI _ gp 3 1 (by omega) (by omega) (.inr ((h.plan.quiet t4).cell (k:=1) rfl).1)).mono ?_⟩;rintro e W4 ⟨rfl,rfl⟩;exact⟨rfl,.inl ⟨rfl,t4,q4,e3,b,c,rfl,t3.tag (nO e2 (by decide)) _ _ _ ((tB.trans t2).tu _ _ _ _ hb),t3.tag (nO e2 (by decide)) _ _ _ hc⟩⟩
  ·obtain⟨b,c,rfl,hb,hc⟩:=hst;refine(rab WB (w.heap.size+1) (w.heap.size+1+1) 3 0 1 162 162 n kn kn #[.pointer (some ⟨b,0,none⟩)] #[.pointer (some ⟨c,0,none⟩)] (SE (w.heap.size+1) kn b c sv n) h.sl (.inl hop) (by simp[hnl]) (by simp[hnr]) (by omega) (by omega) hkn hkn hgB (by simp[World.cell?,hGB]) (by simp[World.cell?,hGB,fV]) (by simp[World.cell?,hGB]) (by simp[World.cell?,hGB,fV]) (λW5 t5=>?_) (λlb W5 W6 B hm hB t=>hm.set hB (by simp[fV]) t) (λlb W5 W6 hm t=>hm.quiet t)).mono ?_
   ·refine(inner_any W5 _ n 162 _ kn 162 _ hop h.sl).mono ?_;rintro e W6 ⟨bq,bn,br,bl,b1,b2,rfl,g1,g2,g3,t6⟩;exact⟨_,rfl,⟨bq,bn,br,bl,b1,b2,rfl,g1,g2,g3,((tB.trans t5).trans t6).tu _ _ _ _ hb,((tB.trans t5).trans t6).tu _ _ _ _ hc⟩,t6⟩
   ·rintro e W2 ⟨cl,cq,lb,rfl,g1,g2,g3,t2⟩;obtain⟨e2,e3,t3,t4,q4⟩:=fin W2 ((kn+kn:Nat):Int) (.func (.func 140) #[] #[.pointer (some ⟨cl,0,none⟩),.pointer (some ⟨cq,0,none⟩)]) t2;refine⟨_,_,_,_,rfl,e2,rfl,false,(wI _ gp 3 2 (by omega) (by omega) (.inl rfl)).mono ?_⟩;rintro e W4 ⟨rfl,rfl⟩;exact⟨rfl,.inl ⟨rfl,t4,q4,e3,b,c,_,cl,cq,lb,rfl,t3.tag (nO e2 (by decide)) _ _ _ g1,t3.tag (nO e2 (by decide)) _ _ _ g2,g3.set e2 (by simp[fV]) t3⟩⟩
  ·omega
 ·rintro cs W ⟨t,hQ,hG,b,c,i,cl,cq,lb,rfl,g1,g2,⟨bq,bn,br,bl,b1,b2,rfl,g3,g4,g5,g6,g7⟩⟩;have hA:=h.quiet t;refine⟨hG,_,_,_,rfl,(copiedJoin_any W cl cq (w.heap.size+1) _ _ _ bx bm blk fan bud XC (dI bx bm M) m j3 false cols others kn rows rows g1 hQ g2 hA.nU.b2 (by have:=t.size;omega) hA.cak hjr (λW' t'=>?_)).mono ?_⟩
  ·have hB:=hA.quiet t';exact self_seq (w:=W') ⟨hB.ctx (t'.tu _ _ _ _ hQ),g3.quiet t',t'.tu _ _ _ _ g4,t'.tu _ _ _ _ g5,hB.in_ (t'.tu _ _ _ _ g6),hB.in_ (t'.tu _ _ _ _ g7),numR,nnL,nnR,hop⟩ hl hP1 hPj1 hPs1 hP2 hPj2 hPs2
  ·rintro e W' ⟨lv,out,rfl,x1,x2,x5⟩;refine⟨lv,rfl,(gX W' (w.heap.size+1) _ _ _ _ _ .returning (x5.2 162 (by decide) (by decide) _ _ _ hQ)).mono ?_⟩;rintro e u w7 ⟨rfl,rfl,rfl⟩;exact⟨rfl,rfl,out,x1,x2,t.kept.trans x5⟩
end
attribute [local go_sem] Oper.semAt_some
def Still (Z:List (Nat×Array Value×TypeId))(W:World):Prop:=∀z∈Z,W.heap[z.1]?=some (.cells z.2.1 z.2.2 (0,0))
theorem Still.odd (h:Still Z W)(e:W.heap[l]?=some ob)(ho:Odd ob):Still Z (W.putObj l ob'):=λz hz=>by
 have h1:=h z hz;rw[World.putObj_heap_other (λe2=>by rw[e2]at h1;rw[h1]at e;cases e;exact ho.1 _ _ _ rfl)];exact h1
theorem Still.quiet (h:Still Z W)(t:Touch [] W W'):Still Z W':=λz hz=>t.tu _ _ _ _ (h z hz)
theorem Still.old {Z:List (Nat×Array Value×TypeId)}{T:List TypeId}{lo N:Nat}{D F:List Nat}{W W':World}(h:Still Z W)(o:OG T lo N D F W W')(hZ:∀z∈Z,z.1<N/\z.1∉D/\z.2.2≠5):Still Z W':=λz hz=>by
 obtain⟨h1,h2,h3⟩:=hZ z hz;exact o.old _ _ h1 h2 (h z hz) (λ_ _ e=>by simp only[Obj.cells.injEq]at e;exact h3 e.2.1)
theorem SG.more {σ:Type}{s0:σ}{fin:σ->World->Prop}{step:σ->Value->World->σ->Prop}{K:List TypeId}(h:SG gf lb s0 fin step T K X lo N D W0)(Z:List (Nat×Array Value×TypeId))(h0:Still Z W0)(hZ:∀z∈Z,z.1<N/\z.1∉D/\z.2.2≠5):SG gf lb s0 (λs W=>fin s W/\Still Z W) step T K (X++Z.map Prod.fst) lo N D W0:=λl J h1 h2 h3 h4=>by
 refine(h l (λs W=>J s W/\Still Z W) (λs A B a b=>⟨h1 s A B a.1 b,a.2.old b hZ⟩) (λs s' A a b=>⟨h2 s s' A a.1 b,a.2⟩) (λs v s' W a b=>?_) ⟨h4,h0⟩).mono ?_
 ·refine(h3 s v s' W a.1 b).mono ?_;rintro e W' ⟨rfl,h5,h6⟩;exact⟨rfl,⟨h5,λz hz=>h6.blocks z.1 (y_ _ (T_ hz)) _ (a.2 z hz)⟩,h6.mono (λ_ h=>h) (λ_ h=>C_ _ h) (e_ _)⟩
 ·rintro e W' ⟨a,s,b,c⟩;exact⟨a,s,⟨b.1,b.2,c.2⟩,c.1⟩
theorem resultTop_any (w:World)(q gr N l gl kl:Nat)(n:ND)(k0:Int)(f0:Value)(ll:Array Value)(cnt:Nat)(hS:n.Slices)(hop:n.op=3)(hl:n.l=(l:Int))(hr:n.r=0)(hcnt:n.cnt=(cnt:Int))(hf:∃fn fa fc,f0=.func fn fa fc)(hlN:l<N)(hg:gr<w.heap.size)
  (r0:w.cell? ⟨gr,l*2,none⟩=some (.int .i64 (kl:Int))) (r1:w.cell? ⟨gr,l*2+1,none⟩=some (.func (.func gl) #[] ll)) (r2:w.cell? ⟨gr,0,none⟩=some (.int .i64 k0)) (r3:w.cell? ⟨gr,1,none⟩=some f0) :
  Calls prog 79 #[.pointer (some ⟨q,0,none⟩),.agg n.cells,.slice (some ⟨gr,0,none⟩) N N] w λe w'=>∃bq bk bc bl,e=.returned (.agg #[.int .i64 (kl:Int),.func (.func 132) #[] #[.pointer (some ⟨bq,0,none⟩),.pointer (some ⟨bk,0,none⟩),.pointer (some ⟨bc,0,none⟩),.pointer (some ⟨bl,0,none⟩)]])/\w'.heap[bq]?=some (.cells #[.pointer (some ⟨q,0,none⟩)] 159 (0,0))/\w'.heap[bl]?=some (.cells #[.func (.func gl) #[] ll] 165 (0,0))/\w'.heap[bk]?=some (.cells #[n.kv] 74 (0,0))/\w'.heap[bc]?=some (.cells #[.int .i64 (cnt:Int)] 3 (0,0))/\Touch [] w w':=by
 obtain⟨op,nl,nr,tb,kv,ct,cv,ov,sv⟩:=n;obtain⟨⟨k1,k2,k3,rfl⟩,⟨k4,k5,k6,rfl⟩,⟨k7,k8,k9,rfl⟩,⟨k10,k11,k12,rfl⟩⟩:=hS;obtain⟨fn,fa,fc,rfl⟩:=hf;simp only at hop hl hr hcnt;subst hl hr hop hcnt;unfold ND.cells at *;simp only;have hl':((l:Int)<(N:Int)):=by omega
 have hn0:0<N:=by omega
 go_enter func79,ntmps79;go_wp2;obtain⟨hB4,hB6⟩:=fE w (.cells #[.int .i64 3,.int .i64 (l:Int),.int .i64 0,.string tb,.slice k1 k2 k3,.int .i64 (cnt:Int),.slice k4 k5 k6,.slice k7 k8 k9,.slice k10 k11 k12] 79) (.cells #[.int .i64 0,.nilFunc] 167);have tA:Touch [] w ((w.alloc (.cells #[.int .i64 3,.int .i64 (l:Int),.int .i64 0,.string tb,.slice k1 k2 k3,.int .i64 (cnt:Int),.slice k4 k5 k6,.slice k7 k8 k9,.slice k10 k11 k12] 79)).alloc (.cells #[.int .i64 0,.nilFunc] 167)):=(tr_.alloc _).alloc _;have hsz:w.heap.size+2<=((w.alloc (.cells #[.int .i64 3,.int .i64 (l:Int),.int .i64 0,.string tb,.slice k1 k2 k3,.int .i64 (cnt:Int),.slice k4 k5 k6,.slice k7 k8 k9,.slice k10 k11 k12] 79)).alloc (.cells #[.int .i64 0,.nilFunc] 167)).heap.size:=by simp
 replace r0:=cO r0 tA;replace r1:=cO r1 tA;replace r2:=cO r2 tA;replace r3:=cO r3 tA;generalize (w.alloc (.cells #[.int .i64 3,.int .i64 (l:Int),.int .i64 0,.string tb,.slice k1 k2 k3,.int .i64 (cnt:Int),.slice k4 k5 k6,.slice k7 k8 k9,.slice k10 k11 k12] 79)).alloc (.cells #[.int .i64 0,.nilFunc] 167)=wa at *;have c1:wa.cell? ⟨w.heap.size,1,none⟩=some (.int .i64 (l:Int)):=by simp[World.cell?,hB4]
 have c2:wa.cell? ⟨w.heap.size,2,none⟩=some (.int .i64 0):=by simp[World.cell?,hB4]
 have l1:w.heap.size<wa.heap.size:=by omega
 have l2:gr<wa.heap.size:=by omega
 have l3:wa.heap.size≠w.heap.size:=by omega
 have l4:wa.heap.size≠gr:=by omega
 have l5:wa.heap.size+1≠w.heap.size:=by omega
 have l6:wa.heap.size+1≠gr:=by omega
 have HSZ:Hid (w.heap.size+2<=wa.heap.size):=hsz;have HB4:Hid _:=hB4;have HB6:Hid _:=hB6;clear hB4 hB6 hsz
 go_cut [7,8] from 9 (λa b wx=>∃B7 B8,a=.pointer (some ⟨B7,0,none⟩)/\b=.pointer (some ⟨B8,0,none⟩)/\wx.heap[B7]?=some (.cells #[.int .i64 (kl:Int),.func (.func gl) #[] ll] 167 (0,0))/\Touch [] wa wx/\wa.heap.size<=B7)
 case first=>
  go_region_held3 (λw'=>w'.cell? ⟨w.heap.size,1,none⟩=some (.int .i64 (l:Int))/\w'.cell? ⟨w.heap.size,2,none⟩=some (.int .i64 0)/\w'.cell? ⟨gr,l*2,none⟩=some (.int .i64 (kl:Int))/\w'.cell? ⟨gr,l*2+1,none⟩=some (.func (.func gl) #[] ll)/\w'.cell? ⟨gr,0,none⟩=some (.int .i64 k0)/\w'.cell? ⟨gr,1,none⟩=some (.func fn fa fc)) (go_keep) (fail)
  all_goals
   go_wp2_with fail
   go_meet
   case rel=>
    first
     | exact⟨_,_,rfl,rfl,(fE wa _ _).1,((tr_.alloc _).alloc _).drew,by omega⟩
     | exact⟨_,_,rfl,rfl,(fE wa _ _).2,((tr_.alloc _).alloc _).drew,by omega⟩
 case rest=>
  obtain⟨B7,B8,rfl,rfl,hB7,tc,l7⟩:=hcut;have hw:=HSZ.out;have tw:=tA.trans tc;have n1:w.heap.size+1≠w.heap.size:=by omega
  have n2:w.heap.size+1≠B7:=by omega
  have HK:Hid (∀W,Touch [] wc W->W.cell? ⟨w.heap.size,0,none⟩=some (.int .i64 3)/\W.cell? ⟨w.heap.size,4,none⟩=some (.slice k1 k2 k3)/\W.cell? ⟨w.heap.size,5,none⟩=some (.int .i64 (cnt:Int))/\W.cell? ⟨B7,0,none⟩=some (.int .i64 (kl:Int))/\W.cell? ⟨B7,1,none⟩=some (.func (.func gl) #[] ll)):=λW hW=>by
   obtain⟨y0,y1,y2,y3,y4,y5,y6,y7,y8⟩:=box9 (n:=⟨3,l,0,tb,.slice k1 k2 k3,cnt,.slice k4 k5 k6,.slice k7 k8 k9,.slice k10 k11 k12⟩) ((tc.trans hW).tu 79 _ _ _ HB4.out);obtain⟨x0,x1⟩:=bF hB7;exact⟨y0,y4,y5,cO x0 hW,cO x1 hW⟩
  have H6:Hid (wc.heap[w.heap.size+1]?=some (.cells #[.int .i64 0,.nilFunc] 167 (0,0))):=tc.tu 167 _ _ _ HB6.out;obtain⟨j0,j1,j2,j3,j4⟩:=HK.out wc tr_;clear c1 c2 r0 r1 r2 r3 HB4 HB6 hB7;go_wp2
  go_cut [] from 19 (λwx=>∃bq bk bc bl,wx.heap[w.heap.size+1]?=some (.cells #[.int .i64 (kl:Int),.func (.func 132) #[] #[.pointer (some ⟨bq,0,none⟩),.pointer (some ⟨bk,0,none⟩),.pointer (some ⟨bc,0,none⟩),.pointer (some ⟨bl,0,none⟩)]] 167 (0,0))/\wx.heap[bq]?=some (.cells #[.pointer (some ⟨q,0,none⟩)] 159 (0,0))/\wx.heap[bl]?=some (.cells #[.func (.func gl) #[] ll] 165 (0,0))/\wx.heap[bk]?=some (.cells #[.slice k1 k2 k3] 74 (0,0))/\wx.heap[bc]?=some (.cells #[.int .i64 (cnt:Int)] 3 (0,0))/\Touch [w.heap.size+1] wc wx)
  case first=>
   go_region_held3 (λW=>W.cell? ⟨w.heap.size,0,none⟩=some (.int .i64 3)/\W.cell? ⟨w.heap.size,4,none⟩=some (.slice k1 k2 k3)/\W.cell? ⟨w.heap.size,5,none⟩=some (.int .i64 (cnt:Int))/\W.cell? ⟨B7,0,none⟩=some (.int .i64 (kl:Int))/\W.cell? ⟨B7,1,none⟩=some (.func (.func gl) #[] ll)) (go_keep) (first
    | (go_at_call 106;refine(sorted_any _ q gl ll cnt k1 k2 k3).mono ?_;rintro e w4 ⟨bq,bk,bc,bl,rfl,z1,z2,z3,z4,t4⟩;have HT4:Hid (Touch [] wc w4):=(tr_.drew).trans t4;obtain⟨j0,j1,j2,j3,j4⟩:=HK.out w4 HT4.out;have HZ:Hid _:=And.intro z1 (And.intro z2 (And.intro z3 z4));have h6:=HT4.out.tu 167 _ _ _ H6.out;have g0:w4.frozen? ⟨w.heap.size+1,0,none⟩=false:=(by simp[World.frozen?,h6]);have g1:w4.frozen? ⟨w.heap.size+1,1,none⟩=false:=(by simp[World.frozen?,h6]);obtain⟨y0,y1⟩:=bF h6;have HB6d:Hid (w4.heap[w.heap.size+1]?=some (.cells #[.int .i64 0,.nilFunc] 167 (0,0))):=h6;clear h6 z1 z2 z3 z4 t4))
   all_goals
    go_wp2_with fail
    go_meet
    case rel=>
     obtain⟨e6,t5⟩:=resStore HB6d.out (kl:Int) (.func (.func 132) #[] #[.pointer (some ⟨bq,0,none⟩),.pointer (some ⟨bk,0,none⟩),.pointer (some ⟨bc,0,none⟩),.pointer (some ⟨bl,0,none⟩)]);have n5:∀t,(167:TypeId)≠t->KT t w4 _:=λt ht=>t5.tag (nO HB6d.out ht);obtain⟨z1,z2,z3,z4⟩:=HZ.out;exact⟨bq,bk,bc,bl,e6,n5 159 (by decide) _ _ _ z1,n5 165 (by decide) _ _ _ z2,n5 74 (by decide) _ _ _ z3,n5 3 (by decide) _ _ _ z4,(HT4.out.mono (by simp)).trans t5⟩
  case rest=>
   obtain⟨bq,bk,bc,bl,p0,p1,p2,p3,p4,t5⟩:=hcut;obtain⟨z0,z1⟩:=bF p0;clear j0 j1 j2 j3 j4;go_wp2;exact bodyPost_ret (v:=.agg #[.int .i64 (kl:Int),.func (.func 132) #[] #[.pointer (some ⟨bq,0,none⟩),.pointer (some ⟨bk,0,none⟩),.pointer (some ⟨bc,0,none⟩),.pointer (some ⟨bl,0,none⟩)]]) (by simp[results,results79,go_sem,z0,z1]) rfl ⟨bq,bk,bc,bl,rfl,p1,p2,p3,p4,tw.more t5 (λi hi=>.inr (by rw[ms_ hi];omega))⟩
theorem Tt.zero {bx bm:Nat}{ks:List K}{Q:List (List V)->Prop}{out out':List Rec}{v:Value}{W:World}(h:Tt bx bm ks 0 Q out v W out'):False:=by
 obtain⟨⟨x,_,rfl,_,_,h1⟩,_⟩:=h;have:=h1.few;simp at this
theorem runEnd_none (w:World)(r bx blk file:Nat)(h:w.heap[r]?=some (.cells (rC bx blk file 0 0 (.slice none 0 0)) 223 (0,0))) :
  Calls prog 114 #[.pointer (some ⟨r,0,none⟩)] w λe w'=>e=.returned (.tuple #[])/\w'.heap[r]?=some (.cells (rC bx blk file 0 0 (.slice none 0 0)) 223 (0,0))/\Touch [r] w w':=by
 have e5:w.cell? ⟨r,5,none⟩=some (.slice none 0 0):=by simp[World.cell?,h,rC]
 have f5:w.frozen? ⟨r,5,none⟩=false:=by simp[World.frozen?,h]
 have H:Hid _:=h;clear h;go_enter func114,ntmps114;go_wp2
 first|go_end0|refine bodyPost_ret (results_none rfl _ _ _) rfl ?_
 exact⟨rfl,end_cell H.out,(Touch.refl [r] w).setCell (p:=⟨r,5,none⟩) (by simp) _⟩
structure Waits (W:World)(q:Nat)(tv:Value)(blk fan bud bx file br r g cap:Nat):Prop where
 hQ:W.heap[q]?=some (.cells (QC tv blk fan bud bx (.slice (some ⟨g,0,none⟩) 1 cap)) 162 (0,0))
 box:W.heap[br]?=some (.cells #[.pointer (some ⟨r,0,none⟩)] 194 (0,0))
 run:W.heap[r]?=some (.cells (rC bx blk file 0 0 (.slice none 0 0)) 223 (0,0))
 list:∃cur,W.heap[g]?=some (.cells cur 194 (0,0))/\cur[0]?=some (.pointer (some ⟨r,0,none⟩))
 cap1:1<=cap
 cap2:cap<=maxLen
structure KQ (lo q:Nat)(w W:World):Prop where
 low:Low lo w W
 cells:∀t,t∉OT->t≠5->∀k cs f,k≠q->w.heap[k]?=some (.cells cs t f)->W.heap[k]?=some (.cells cs t f)
theorem stored_none (w:World)(q bx bm blk fan bud gf file cols:Nat)(tO:Option Addr)(tn tc:Nat)(lb:Array Value)(d:DS)(M:List PF)(ks:List K)(rows:List (List V))(m j:Nat)(hQ:w.heap[q]?=some (.cells (QC (.slice tO tn tc) blk fan bud bx (.slice none 0 0)) 162 (0,0)))(pd:PD w bx bm d M)(ok:Di d)(hl:d.last<=900000000)(hf:(file:Int)=d.last+1)(b1:16<=blk)(hbq:bm<=q)(hi:Hi bm (dI bx bm M))(eg:∀args w,(callFunc gf args).run prog w=.ok (.enter gf args) w)
  (hseq:∀W d1 M1,PD W bx bm d1 M1->Di d1->DStep d d1 file (some [])->d1.last=d.last+1->d1.wrote=d.wrote->uO d1.files=uO d.files->rowsOf M1=rowsOf M->KQ bm q w W->(∃g cap,W.heap[q]?=some (.cells (QC (.slice tO tn tc) blk fan bud bx (.slice (some ⟨g,0,none⟩) 1 cap)) 162 (0,0)))->SG gf lb ([]:List Rec) (@TFin ⟨⟨d1.last,gq d1.files⟩⟩ bx bm blk cols m j ks 0 (λl=>l=rows)) (@Tt ⟨⟨d1.last,gq d1.files⟩⟩ bx bm ks 0 (λl=>l=rows)) [] [] [] bm W.heap.size (dI bx bm M1) W) :
  Calls prog 81 #[.pointer (some ⟨q,0,none⟩),.func (.func gf) #[] lb] w λe w'=>∃br r g cap,e=.returned (.func (.func 115) #[] #[.pointer (some ⟨br,0,none⟩)])/\Waits w' q (.slice tO tn tc) blk fan bud bx file br r g cap/\(∃d2 M2,PD w' bx bm d2 M2/\Di d2/\(blk:Int)<=d2.block/\Left d2 m j/\Hi bm (dI bx bm M2))/\KQ bm q w w':=by
 have Ho:Hid (∀W,Touch [] w W->Calls prog 112 #[.agg #[.pointer (some ⟨bx,0,none⟩),.int .i64 (blk:Int)]] W λe w'=>∃r,e=.returned (.pointer (some ⟨r,0,none⟩))/\Hid (W.heap.size<=r/\w'.heap[r]?=some (.cells (rC bx blk file 0 0 (.slice none 0 0)) 223 (0,0))/\∃d' M',PD w' bx bm d' M'/\DStep d d' file (some [])/\d'.last=d.last+1/\d'.wrote=d.wrote/\uO d'.files=uO d.files/\rowsOf M'=rowsOf M)/\Touch [bx,bm] W w'):=λW hW=>by
  refine(sad W bx bm blk file d M (pd.away hW (by simp)) ok (by omega) hf b1).mono ?_;rintro e w' ⟨r,rfl,p1,d',M',p2,p3,p4,p5,p6,p7,_,p8,p9⟩;exact⟨r,rfl,⟨p1,p2.run.cell,d',M',p3,p4,p5,p6,p7,p8⟩,p9⟩
 have q0:w.cell? ⟨q,1,none⟩=some (.int .i64 (blk:Int)):=by simp[World.cell?,hQ,QC]
 have q4:w.cell? ⟨q,4,none⟩=some (.pointer (some ⟨bx,0,none⟩)):=by simp[World.cell?,hQ,QC]
 have hq:=(agi.1 hQ).1;have hne:w.heap.size≠q:=by omega
 have hqd:q∉dI bx bm M:=(pd.nT (t:=162) (by decide) (by decide)).not_mem hQ;have hqb:∀W,Touch [bx,bm] w W->W.heap[q]?=some (.cells (QC (.slice tO tn tc) blk fan bud bx (.slice none 0 0)) 162 (0,0)):=λW t=>t.u.keep hQ (by decide) (λe=>hqd (by simp only[a_,i_,or_false]at e;rcases e with rfl|rfl<;>simp[dI]));have HQB:Hid (∀W,Touch [bx,bm] w W->W.heap[q]?=some (.cells (QC (.slice tO tn tc) blk fan bud bx (.slice none 0 0)) 162 (0,0))):=hqb;have HPD:Hid _:=pd;clear hqb hQ pd;refine callsIn_wide.1 (callsIn_of_wp_marks (n:=0) func81 rfl trivial (wpIn_wide.2 ?_));simp only[ntmps81,List.size_toArray,List.length_cons,List.length_nil,Nat.reduceAdd,Nat.reduceSub,P_,Array.replicate_zero,List.push_toArray,List.append_toArray,List.nil_append,List.cons_append];go_wp2
 go_cut [5] from 6 (λa wx=>∃B r,a=.pointer (some ⟨B,0,none⟩)/\wx.heap[B]?=some (.cells #[.pointer (some ⟨r,0,none⟩)] 194 (0,0))/\w.heap.size<=B/\w.heap.size<=r/\wx.heap[r]?=some (.cells (rC bx blk file 0 0 (.slice none 0 0)) 223 (0,0))/\(∃d' M',PD wx bx bm d' M'/\DStep d d' file (some [])/\d'.last=d.last+1/\d'.wrote=d.wrote/\uO d'.files=uO d.files/\rowsOf M'=rowsOf M)/\Touch [bx,bm] w wx)
 case first=>
  clear hseq
  go_region_held3 (λw'=>w'.cell? ⟨q,1,none⟩=some (.int .i64 (blk:Int))/\w'.cell? ⟨q,4,none⟩=some (.pointer (some ⟨bx,0,none⟩))) (go_keep) (first
   | (go_at_call 112;refine(Ho.out _ (tr_.drew)).mono ?_;rintro e w1 ⟨r,rfl,hA,hT1⟩;have HT1:Hid (Touch [bx,bm] w w1):=((Touch.refl [bx,bm] _).drew).trans hT1;have hq1:=HQB.out w1 HT1.out;have k0:w1.cell? ⟨q,1,none⟩=some (.int .i64 (blk:Int)):=(by simp[World.cell?,hq1,QC]);have k1:w1.cell? ⟨q,4,none⟩=some (.pointer (some ⟨bx,0,none⟩)):=(by simp[World.cell?,hq1,QC]);clear hT1 hq1)
   | (go_at_call 112;refine(Ho.out _ ((tr_.alloc _).drew)).mono ?_;rintro e w1 ⟨r,rfl,hA,hT1⟩;have HT1:Hid (Touch [bx,bm] w w1):=(((Touch.refl [bx,bm] _).alloc _).drew).trans hT1;have hq1:=HQB.out w1 HT1.out;have k0:w1.cell? ⟨q,1,none⟩=some (.int .i64 (blk:Int)):=(by simp[World.cell?,hq1,QC]);have k1:w1.cell? ⟨q,4,none⟩=some (.pointer (some ⟨bx,0,none⟩)):=(by simp[World.cell?,hq1,QC]);have hlt:=HPD.out.lt;have hbx:w1.heap[w.heap.size]?=some (.cells #[.pointer none] 194 (0,0)):=(hT1.block w.heap.size (by simp) (by simp only[a_,i_,or_false];have h1:=hlt bx (by simp);have h2:=hlt bm (by simp);omega)).trans (heap_alloc_new w _);have x0:=bg hbx;have z0:w1.frozen? ⟨w.heap.size,0,none⟩=false:=(by simp[World.frozen?,hbx]);have HBX:Hid _:=hbx;clear hT1 hq1 hbx hlt))
  ·go_wp2_with fail
   go_meet
   case rel=>
    obtain⟨a1,a2,d',M',a3,a4⟩:=hA.out;have t2:Touch [] w1 (w1.alloc (.cells #[.pointer (some ⟨r,0,none⟩)] 194)):=tr_.alloc _;exact⟨_,r,rfl,heap_alloc_new w1 _,HT1.out.size,a1,t2.tu _ _ _ _ a2,⟨d',M',a3.away t2 (by simp),a4⟩,HT1.out.trans (t2.mono (by simp))⟩
  ·go_wp2_with fail
   go_meet
   case rel=>
    obtain⟨a1,a2,d',M',a3,a4⟩:=hA.out;have t2:Touch [w.heap.size] w1 (w1.setCell ⟨w.heap.size,0,none⟩ (.pointer (some ⟨r,0,none⟩))):=(Touch.refl [w.heap.size] w1).setCell (p:=⟨w.heap.size,0,none⟩) (by simp) _;have a1':w.heap.size+1<=r:=by simpa using a1
    refine⟨_,r,rfl,?_,e_ _,by omega,t2.tag (nO HBX.out (by decide)) _ _ _ a2,⟨d',M',a3.away t2 (λk hk e=>by rw[ms_ e]at hk;exact(a3.nT (t:=194) (by decide) (by decide)).not_mem HBX.out hk),a4⟩,HT1.out.more t2 (λi hi=>.inr (by rw[ms_ hi];exact e_ _))⟩;rw[heap_setCell_same w1 w.heap.size 0 _ 194 _ HBX.out];simp
 case rest=>
  obtain⟨B,r,rfl,hB,hBn,hrn,hr,⟨d1,M1,p1,p2,p3,p4,p5,p6⟩,tB⟩:=hcut;have cB:=bg hB;have hqc:=HQB.out wc tB;have q5:wc.cell? ⟨q,5,none⟩=some (.slice none 0 0):=by simp[World.cell?,hqc,QC]
  have f5:wc.frozen? ⟨q,5,none⟩=false:=by simp[World.frozen?,hqc]
  have hszc:=tB.size;have HC:Hid (wc.heap[B]?=some (.cells #[.pointer (some ⟨r,0,none⟩)] 194 (0,0))/\wc.heap[r]?=some (.cells (rC bx blk file 0 0 (.slice none 0 0)) 223 (0,0))/\PD wc bx bm d1 M1/\DStep d d1 file (some [])/\Touch [bx,bm] w wc):=⟨hB,hr,p1,p2,tB⟩;have HQC:Hid (wc.heap[q]?=some (.cells (QC (.slice tO tn tc) blk fan bud bx (.slice none 0 0)) 162 (0,0))):=hqc;clear hB hr p1 p2 tB hqc q0 q4 Ho HQB;have hqlt:q<wc.heap.size:=by omega
  go_wp2;refine wp_region_noPanic ?_;refine wR (λw'=>w'.cell? ⟨B,0,none⟩=some (.pointer (some ⟨r,0,none⟩))/\w'.cell? ⟨q,5,none⟩=some (.slice none 0 0)) (by kernel_rfl) rfl (lastTo_spec (by kernel_rfl)) ⟨cB,q5⟩ (λhHeld=>?_);simp only[List.pop_toArray,List.dropLast];generalize hQB:Behind prog _ _=QB;have haa:∀c (a:Act) d v w,QB (.panic c) (a.put d v) w->QB (.panic c) a w:=by{ rw[<-hQB];intro _ _ d _ _ h;cases d<;>exact h }
  have HQB2:Hid (Behind prog _ _=QB):=hQB;clear hQB;refine wpAnyH_take (i:=0) (v:=.pointer (some ⟨q,0,none⟩)) rfl (by kernel_rfl) (by kernel_rfl) (by kernel_rfl) (λ_ _ _ h=>haa _ _ _ _ _ h) (Or.inl ⟨by rfl,λwz hz=>?_⟩) hHeld ?_
  ·obtain⟨hz0,hz1⟩:=hz;go_simp
  simp only[Act.put,List.setIfInBounds_toArray];refine wpAnyH_take (i:=1) (v:=.pointer (some ⟨q,0,none⟩)) rfl (by kernel_rfl) (by kernel_rfl) (by kernel_rfl) (λ_ _ _ h=>haa _ _ _ _ _ h) (Or.inl ⟨by rfl,λwz hz=>?_⟩) hHeld ?_
  ·obtain⟨hz0,hz1⟩:=hz;go_simp
  simp only[Act.put];refine wpAnyH_take (i:=2) (v:=.pointer (some ⟨q,0,none⟩)) rfl (by kernel_rfl) (by kernel_rfl) (by kernel_rfl) (λ_ _ _ h=>haa _ _ _ _ _ h) (Or.inl ⟨by rfl,λwz hz=>?_⟩) hHeld ?_
  ·obtain⟨hz0,hz1⟩:=hz;go_simp
  simp only[Act.put];refine wpAnyH_take (i:=3) (v:=.pointer (some ⟨q,5,none⟩)) rfl (by kernel_rfl) (by kernel_rfl) (by kernel_rfl) (λ_ _ _ h=>haa _ _ _ _ _ h) (Or.inl ⟨by rfl,λwz hz=>?_⟩) hHeld ?_
  ·obtain⟨hz0,hz1⟩:=hz;go_simp
  simp only[Act.put];refine wpAnyH_take (i:=4) (v:=.slice none 0 0) rfl (by kernel_rfl) (by kernel_rfl) (by kernel_rfl) (λ_ _ _ h=>haa _ _ _ _ _ h) (Or.inl ⟨by rfl,λwz hz=>?_⟩) hHeld ?_
  ·obtain⟨hz0,hz1⟩:=hz;go_simp
  simp only[Act.put];refine wpAnyH_take (i:=5) (v:=.pointer (some ⟨r,0,none⟩)) rfl (by kernel_rfl) (by kernel_rfl) (by kernel_rfl) (λ_ _ _ h=>haa _ _ _ _ _ h) (Or.inl ⟨by rfl,λwz hz=>?_⟩) hHeld ?_
  ·obtain⟨hz0,hz1⟩:=hz;go_simp
  simp only[Act.put];refine wpAnyH_ready (rs:=[6]) (by kernel_rfl) (by simp) (AllReadyH.cons rfl (λK hK=>?_) AllReadyH.nil);go_simp;refine hK.out _ _ ⟨cO cB ((tr_.alloc _).drew),cO q5 ((tr_.alloc _).drew)⟩ (λhHeld2=>?_);clear hK K hHeld;refine wpAnyH_ready (rs:=[7]) (by kernel_rfl) (by simp) (AllReadyH.cons rfl (λK hK=>?_) AllReadyH.nil);refine step_ptr rfl (.tmp 22) (.tmp 24) rfl (.slice none 0 0) [] (by simp[Act.eval]) (World.ownsRow_nil _ _ _ _) ⟨wc.heap.size,0,none⟩ ⟨r,file,0,.slice none 0 0,[],[]⟩ 1 (by simp[Act.eval]) (by exact(bg (heap_alloc_new wc _))) (by simp) ?_;intro g cp w4 hP4 hG4 hat4 hlt4;have t4:Touch [] wc w4:=((tr_.alloc _).drew).trans (tr_.grown hG4 (λk hk=>by simp[Value.ownBlock]at hk));have k5:=cO q5 t4;have g5:w4.frozen? ⟨q,5,none⟩=false:=(by simp[World.frozen?,t4.tu _ _ _ _ HQC.out]);have HT4:Hid (Touch [] wc w4):=t4;have HP4:Hid (PW w4 (.slice (some ⟨g,0,none⟩) 1 cp) [⟨r,file,0,.slice none 0 0,[],[]⟩]):=hP4;refine hK.out _ _ ⟨cO cB t4,k5⟩ (λhHeld3=>?_);clear hK K hHeld2 t4 hP4 hG4;simp only[Act.put];refine wpAnyH_take (i:=8) (v:=.pointer (some ⟨q,0,none⟩)) rfl (by kernel_rfl) (by kernel_rfl) (by kernel_rfl) (λ_ _ _ h=>haa _ _ _ _ _ h) (Or.inl ⟨by rfl,λwz hz=>?_⟩) hHeld3 ?_
  ·obtain⟨hz0,hz1⟩:=hz;go_simp
  simp only[Act.put];refine wpAnyH_take (i:=9) (v:=.pointer (some ⟨q,5,none⟩)) rfl (by kernel_rfl) (by kernel_rfl) (by kernel_rfl) (λ_ _ _ h=>haa _ _ _ _ _ h) (Or.inl ⟨by rfl,λwz hz=>?_⟩) hHeld3 ?_
  ·obtain⟨hz0,hz1⟩:=hz;go_simp
  simp only[Act.put];refine wpAnyH_done (by kernel_rfl) ?_ _;rw[<-HQB2.out];unfold Behind;change Oper.wp _ _ _ _ _ _;go_simp;refine NoPanic.normal ?_;obtain⟨hB,hr,pdc,hst,tB⟩:=HC.out;have hq4:=HT4.out.tu _ _ _ _ HQC.out;have tq:Touch [q] w4 (w4.setCell ⟨q,5,none⟩ (.slice (some ⟨g,0,none⟩) 1 cp)):=(Touch.refl [q] w4).setCell (p:=⟨q,5,none⟩) (by simp) _;have kq:∀{t:TypeId},(162:TypeId)≠t->KT t w4 (w4.setCell ⟨q,5,none⟩ (.slice (some ⟨g,0,none⟩) 1 cp)):=λht=>tq.tag (nO hq4 ht);have hqx:(w4.setCell ⟨q,5,none⟩ (.slice (some ⟨g,0,none⟩) 1 cp)).heap[q]?=some (.cells (QC (.slice tO tn tc) blk fan bud bx (.slice (some ⟨g,0,none⟩) 1 cp)) 162 (0,0)):=by
   rw[heap_setCell_same w4 q 5 _ 162 _ hq4];simp[QC]
  have hpx:PD (w4.setCell ⟨q,5,none⟩ (.slice (some ⟨g,0,none⟩) 1 cp)) bx bm d1 M1:=(pdc.away HT4.out (by simp)).away tq (λk hk e=>by rw[ms_ e]at hk;exact(pdc.nT (t:=162) (by decide) (by decide)).not_mem HQC.out hk);have hBx:=kq (by decide) _ _ _ (HT4.out.tu _ _ _ _ hB);have hrx:=kq (by decide) _ _ _ (HT4.out.tu _ _ _ _ hr);obtain⟨cur,hgx,hg0,hc1,hc2⟩:∃cur,(w4.setCell ⟨q,5,none⟩ (.slice (some ⟨g,0,none⟩) 1 cp)).heap[g]?=some (.cells cur 194 (0,0))/\cur[0]?=some (.pointer (some ⟨r,0,none⟩))/\1<=cp/\cp<=maxLen:=by
   rcases HP4.out.shape with⟨e,_⟩|⟨g',cap',cur,e,e1,e2,e3,e4,e5⟩
   ·cases e
   ·cases e;exact⟨cur,kq (by decide) _ _ _ e1,by simpa[RI.ptr]using e5 0 (by simp),by simpa using e2,e3⟩
  have hkx:KQ bm q w (w4.setCell ⟨q,5,none⟩ (.slice (some ⟨g,0,none⟩) 1 cp)):=by
   have tt:Touch [q,bx,bm] w (w4.setCell ⟨q,5,none⟩ (.slice (some ⟨g,0,none⟩) 1 cp)):=((tB.mono (λk hk=>o_ _ hk)).trans (HT4.out.mono (by simp))).trans (tq.mono (by simp));refine⟨tt.low (λk hk=>?_),λt ht h5 k cs f hk e=>?_⟩
   ·simp only[a_,i_,or_false]at hk;rcases hk with rfl|rfl|rfl
    ·exact hbq
    ·exact hi _ (by simp[dI])
    ·exact e_ _
   ·rw[tt.block k (agi.1 e).1 (λhm=>?_)]
    ·exact e
    ·simp only[a_,i_,or_false]at hm;rcases hm with rfl|rfl|rfl
     ·exact hk rfl
     ·have:=HPD.out.disk;rw[this]at e;simp only[j_,Obj.cells.injEq]at e;exact ht (by rw[<-e.2.1];decide)
     ·obtain⟨es,c,hm2,_⟩:=HPD.out.map;rw[hm2]at e;cases e
  have hokx:=hst.ok;clear hB hr pdc tB hq4 kq tq HC HQC HP4 HT4 k5 g5 q5 f5 cB hHeld3 haa HQB2;generalize w4.setCell ⟨q,5,none⟩ (.slice (some ⟨g,0,none⟩) 1 cp)=wx at *;go_wp2;have hZ:∀z∈([(B,#[.pointer (some ⟨r,0,none⟩)],194),(r,rC bx blk file 0 0 (.slice none 0 0),223),(g,cur,194),(q,QC (.slice tO tn tc) blk fan bud bx (.slice (some ⟨g,0,none⟩) 1 cp),162)]:List (Nat×Array Value×TypeId)),z.1<wx.heap.size+2/\z.1∉dI bx bm M1/\z.2.2≠5:=by
   have nt:∀{t:TypeId} {k:Nat} {cs:Array Value} {f:Nat×Nat},wx.heap[k]?=some (.cells cs t f)->117≠t->9≠t->k<wx.heap.size+2/\k∉dI bx bm M1:=λe a b=>⟨by have:=(agi.1 e).1;omega,(hpx.nT a b).not_mem e⟩;intro z hz;simp only[a_,i_,or_false]at hz;rcases hz with rfl|rfl|rfl|rfl
   ·exact⟨(nt hBx (by decide) (by decide)).1,(nt hBx (by decide) (by decide)).2,by simp⟩
   ·exact⟨(nt hrx (by decide) (by decide)).1,(nt hrx (by decide) (by decide)).2,by simp⟩
   ·exact⟨(nt hgx (by decide) (by decide)).1,(nt hgx (by decide) (by decide)).2,by simp⟩
   ·exact⟨(nt hqx (by decide) (by decide)).1,(nt hqx (by decide) (by decide)).2,by simp⟩
  have hS0:Still [(B,#[.pointer (some ⟨r,0,none⟩)],194),(r,rC bx blk file 0 0 (.slice none 0 0),223),(g,cur,194),(q,QC (.slice tO tn tc) blk fan bud bx (.slice (some ⟨g,0,none⟩) 1 cp),162)] wx:=by
   intro z hz;simp only[a_,i_,or_false]at hz;rcases hz with rfl|rfl|rfl|rfl
   ·exact hBx
   ·exact hrx
   ·exact hgx
   ·exact hqx
  have tW:∀rec:Loop,Touch [] wx ((wx.alloc (.deferred (some []))).alloc (.loop rec)):=λrec=>(tr_.alloc _).alloc _;have HSEQ:∀rec:Loop,SG gf lb ([]:List Rec) (@TFin ⟨⟨d1.last,gq d1.files⟩⟩ bx bm blk cols m j ks 0 (λl=>l=rows)) (@Tt ⟨⟨d1.last,gq d1.files⟩⟩ bx bm ks 0 (λl=>l=rows)) [] [] [] bm (wx.heap.size+2) (dI bx bm M1) ((wx.alloc (.deferred (some []))).alloc (.loop rec)):=λrec=>by
   have h1:=hseq _ d1 M1 (hpx.away (tW rec) (by simp)) hokx hst p3 p4 p5 p6 ⟨hkx.low.trans ((tW rec).low (Hi.nil bm)),λt ht h5 k cs f hk e=>(tW rec).tu _ _ _ _ (hkx.cells t ht h5 k cs f hk e)⟩ ⟨g,cp,(tW rec).tu _ _ _ _ hqx⟩;have e:((wx.alloc (.deferred (some []))).alloc (.loop rec)).heap.size=wx.heap.size+2:=by simp
   rw[e]at h1;exact h1
  have hmf:∀(fn:Fn) (first cap:Array Value) (w:World),(Instr.makeFunc fn first cap).run prog w=.ok (.func fn first cap) w:=λ_ _ _ _=>rfl;have hwx:=hkx.low.size;go_wp2;refine rG (w:=wx) (gf:=gf) (lb:=lb) rfl eg rfl HSEQ
   (λs A B k ob ho e hk hle=>ho.others k ob (by omega) e (by rcases hk with⟨r,rfl⟩|⟨ds,rfl⟩;exact oL r;exact oD ds))
   (λ_ _ _ _ h1 h2=>h1.trans h2) (λs W r r' e=>(Guard.putObj (T:=Aa++[]) e (by omega)).g (by simp) _)
   (λs W=>Still [(B,#[.pointer (some ⟨r,0,none⟩)],194),(r,rC bx blk file 0 0 (.slice none 0 0),223),(g,cur,194),(q,QC (.slice tO tn tc) blk fan bud bx (.slice (some ⟨g,0,none⟩) 1 cp),162)] W/\KQ bm q w W)
   (λs A B' h1 ho=>⟨h1.1.old ho hZ,h1.2.low.trans ho.low,λt ht h5 k cs f hk e=>ho.cells t ht h5 k cs f (.inr (by simp)) (h1.2.cells t ht h5 k cs f hk e)⟩) (λs s' A h1 _=>h1) ?hIp ?hSp ?h0 (λv=>{ tmps:=#[.pointer (some ⟨q,0,none⟩),.func (.func gf) #[] lb,undef,undef,.nilFunc,.pointer (some ⟨B,0,none⟩),v,u7,u8,u9,u10,u11,u12,u13,u14,u15,u16,u17,.pointer (some ⟨q,0,none⟩),.pointer (some ⟨q,0,none⟩),.pointer (some ⟨q,0,none⟩),.pointer (some ⟨q,5,none⟩),.slice none 0 0,.pointer (some ⟨r,0,none⟩),.slice (some ⟨wc.heap.size,0,none⟩) 1 1,.slice (some ⟨g,0,none⟩) 1 cp,.pointer (some ⟨q,0,none⟩),.pointer (some ⟨q,5,none⟩),.func (.func gf) #[] lb,v,u30,u31,u32,u33,u34,u35,u36],defers:=[] }) ?assign ?body ?done
  case hIp=>
   rintro s W r1 r2 ⟨h1,h2⟩ hl2;have hg:=OG.putObj (T:=[]) (lo:=bm) (N:=wx.heap.size+1) (D:=[]) (F:=[]) (ob':=.loop r2) hl2 (oL r1) (by omega) (by omega);exact⟨h1.odd hl2 (oL r1),h2.low.trans hg.low,λt ht h5 k cs f hk e=>hg.cells t ht h5 k cs f (.inr (by simp)) (h2.cells t ht h5 k cs f hk e)⟩
  case hSp=>
   rintro s v s' W r1 r2 ⟨_,_,hs⟩ _;exact(@Tt.zero ⟨⟨d1.last,gq d1.files⟩⟩ _ _ _ _ _ _ _ _ hs).elim
  case h0=>
   intro rec;exact⟨hS0.quiet (tW rec),hkx.low.trans ((tW rec).low (Hi.nil bm)),λt ht h5 k cs f hk e=>(tW rec).tu _ _ _ _ (hkx.cells t ht h5 k cs f hk e)⟩
  case assign=>
   intro v W K hK
   gi_wp2
   exact hK
  case body=>
   rintro s v s' W _ ⟨_,_,hs⟩;exact(@Tt.zero ⟨⟨d1.last,gq d1.files⟩⟩ _ _ _ _ _ _ _ _ hs).elim
  case done=>
   rintro⟨F,o⟩ W r1 r2 ⟨_,hfin⟩ ⟨j1,j2⟩ hl2 hk2;have hg:=OG.putObj (T:=[]) (lo:=bm) (N:=wx.heap.size+1) (D:=[]) (F:=[]) (ob':=.loop r2) hl2 (oL r1) (by omega) (by omega);have j1':=j1.odd (ob':=.loop r2) hl2 (oL r1);have j2':KQ bm q w (W.putObj (wx.heap.size+1) (.loop r2)):=⟨j2.low.trans hg.low,λt ht h5 k cs f hk e=>hg.cells t ht h5 k cs f (.inr (by simp)) (j2.cells t ht h5 k cs f hk e)⟩;have hfin':=@TFin.loop ⟨⟨d1.last,gq d1.files⟩⟩ _ _ _ _ _ _ _ _ _ _ _ _ _ (.loop r2) hfin hl2 (oL r1);have hk':(W.putObj (wx.heap.size+1) (.loop r2)).heap[wx.heap.size]?=some (.deferred (some [])):=(World.putObj_heap_other (by omega)).trans hk2;generalize W.putObj (wx.heap.size+1) (.loop r2)=W9 at *;clear hg j1 j2 hfin hk2 hl2 HSEQ hseq;have hB9:W9.heap[B]?=some (.cells #[.pointer (some ⟨r,0,none⟩)] 194 (0,0)):=j1' (B,_,_) (by simp);have hr9:W9.heap[r]?=some (.cells (rC bx blk file 0 0 (.slice none 0 0)) 223 (0,0)):=j1' (r,rC bx blk file 0 0 (.slice none 0 0),223) (o_ _ I_);have cB9:=bg hB9;have hre:=runEnd_none W9 r bx blk file hr9
   go_wp2_with (first|(go_at_call 114;refine hre.mono ?_;rintro e w10 ⟨rfl,hr10,t10⟩))
   have hrne:r≠wx.heap.size:=by have:=(hZ (r,rC bx blk file 0 0 (.slice none 0 0),223) (o_ _ I_)).1;have:=(agi.1 hrx).1;omega
   have hk10:w10.heap[wx.heap.size]?=some (.deferred (some [])):=by
    rw[t10.block _ (agi.1 hk').1 (by simpa using λe=>hrne e.symm)];exact hk'
   obtain⟨_,d2,M2,z1,z2,z3⟩:=hfin';obtain⟨y1,y2,y3⟩:=@RS.bare ⟨⟨d1.last,gq d1.files⟩⟩ _ _ _ _ _ _ _ z1;have y4:=(hokx.back y2).1;have kr:∀{t:TypeId},(223:TypeId)≠t->KT t W9 w10:=λht=>t10.tag (nO hr9 ht);have pd10:PD w10 bx bm d2 M2:=y1.away t10 (λk hk e=>by rw[ms_ e]at hk;exact(y1.nT (t:=223) (by decide) (by decide)).not_mem hr9 hk);have hrw:w.heap.size<=r:=hrn;have g11:Guard Aa (wx.heap.size+1) w10 (w10.putObj wx.heap.size (.deferred none)):=Guard.putOdd hk10 (oD _) (by omega);have hg11:=OG.putObj (T:=[]) (lo:=bm) (N:=wx.heap.size) (D:=[]) (F:=[]) (ob':=.deferred none) hk10 (oD _) (by omega) (by omega);have kp:∀{t:TypeId} {k:Nat} {cs:Array Value} {f:Nat×Nat},w10.heap[k]?=some (.cells cs t f)->(w10.putObj wx.heap.size (.deferred none)).heap[k]?=some (.cells cs t f):=λ{t k cs f} e=>by
    rw[World.putObj_heap_other (λe2=>by rw[e2,hk10]at e;cases e)];exact e
   refine⟨by simp,.inl ⟨_,_,rfl,run_takeDeferred hk10,?_⟩⟩;refine⟨_,results_tmp rfl _ _ _,B,r,g,cp,rfl,⟨kp (kr (by decide) _ _ _ (j1' (q,QC (.slice tO tn tc) blk fan bud bx (.slice (some ⟨g,0,none⟩) 1 cp),162) (by simp only[a_,true_or,or_true]))),kp (kr (by decide) _ _ _ hB9),kp hr10,⟨cur,kp (kr (by decide) _ _ _ (j1' (g,cur,194) (by simp))),hg0⟩,hc1,hc2⟩,⟨d2,M2,pd10.guard (g11.mono (by decide) (e_ _)),y4,y3,z2,λk hk=>?_⟩,(j2'.low.trans (t10.low (λk hk=>by rw[ms_ hk];omega))).trans hg11.low,λt ht h5 k cs f hk e=>kp (kr (λe2=>ht (by rw[<-e2];decide)) _ _ _ (j2'.cells t ht h5 k cs f hk e))⟩;simp only[dI,a_]at hk;rcases hk with rfl|rfl|hk
   ·exact hi _ (by simp[dI])
   ·exact e_ _
   ·exact z3 k hk
theorem delete_deferred (w:World)(r bx bm blk file:Nat)(d:DS)(M:List PF)(u:FrameMode)(hR:w.heap[r]?=some (.cells (rC bx blk file 0 0 (.slice none 0 0)) 223 (0,0)))(hP:PD w bx bm d M)(ok:Di d)(hm:gla<(file:Int))(haf:uO d.files<=1000000000) :
  CallsD prog 104 #[.pointer (some ⟨r,0,none⟩)] u w λe u' w'=>u'=u/\e=.returned (.tuple #[])/\∃d' M',PD w' bx bm d' M'/\DStep d d' file none/\d'.last=d.last/\d'.wrote=d.wrote/\uO d'.files<=uO d.files/\List.Sublist (rowsOf M') (rowsOf M)/\Touch [bx,bm] w w':=by
 have HDE:Hid (∀W,Touch [] w W->Calls prog 128 #[.pointer (some ⟨bx,0,none⟩),.int .i64 (file:Int)] W λe w'=>(∃c,e=.returned (.int .i64 c))/\∃d' M',PD w' bx bm d' M'/\DStep d d' file none/\d'.last=d.last/\d'.wrote=d.wrote/\uO d.files=uO d'.files+((gq d.files file).getD []).length/\List.Sublist (rowsOf M') (rowsOf M)/\Touch [bx,bm] W w'):=λW hW=>disk_delete W bx bm d M file (hP.away hW (by simp)) ok hm haf;have hrb:r∉[bx,bm]:=λe=>(hP.nT (t:=223) (by decide) (by decide)).not_mem hR (by simp only[a_,i_,or_false]at e;rcases e with e|e<;>simp[dI,e]);have Hl:Hid (∀W,Touch [bx,bm] w W->W.heap[r]?=some (.cells (rC bx blk file 0 0 (.slice none 0 0)) 223 (0,0))):=λW hW=>by
  rw[hW.block r (agi.1 hR).1 hrb];exact hR
 obtain⟨c0,c1,c2,c3,c4,c5,cf⟩:=bI hR;clear hR hP ok cf
 go_enter_d func104,ntmps104
 go_wp2
 go_region_held3 (λw'=>w'.cell? ⟨r,0,none⟩=some (.pointer (some ⟨bx,0,none⟩))/\w'.cell? ⟨r,2,none⟩=some (.int .i64 (file:Int))) (go_keep) (first|(go_at_call 128;refine(HDE.out _ (tr_.drew)).mono ?_;rintro e w1 ⟨⟨cc,rfl⟩,d',M',p1,p2,p3,p4,p5,p6,p7⟩;obtain⟨a0,a1,a2,a3,a4,a5,_⟩:=bI (Hl.out w1 (((Touch.refl [bx,bm] w).drew).trans p7))))
 all_goals
  go_wp2
  go_end0
  exact⟨rfl,d',M',p1,p2,p3,p4,by omega,p6,((Touch.refl [bx,bm] w).drew).trans p7⟩
def Even (bx bm:Nat)(W:World):Prop:=(∃cs f,W.heap[bx]?=some (.cells cs 117 f))/\∃es c,W.heap[bm]?=some (.map es c)
theorem PD.evn (hp:PD A bx bm d M):Even bx bm A:=by
 obtain⟨es,c,hb,_⟩:=hp.map;exact⟨⟨_,_,hp.disk⟩,es,c,hb⟩
structure OD (bx bm N:Nat)(A B:World):Prop where
 os:B.os=A.os
 tape:B.tape=A.tape
 output:B.output=A.output
 size:A.heap.size<=B.heap.size
 keep:∀(k:Nat) (ob:Obj),A.heap[k]?=some ob->(Odd ob\/(k≠bx/\k≠bm))->(Odd ob->k<N)->B.heap[k]?=some ob
 even:Even bx bm A->Even bx bm B
theorem PD.even (hp:PD A bx bm d M)(e:A.heap[k]?=some ob)(ho:Odd ob):k≠bx/\k≠bm:=by
 refine⟨λh=>?_,λh=>?_⟩
 ·rw[h,hp.disk]at e;cases e;exact ho.1 _ _ _ rfl
 ·obtain⟨es,c,hb,_⟩:=hp.map;rw[h,hb]at e;cases e;exact ho.2 _ _ rfl
theorem Touch.ownD (h:Touch [bx,bm] A B)(hp:PD A bx bm d M)(hp':PD B bx bm d' M')(N:Nat):OD bx bm N A B:=⟨h.os,h.tape,h.output,h.size,λk ob e h1 _=>by
 obtain⟨h1,h2⟩:=h1.elim (hp.even e) id;exact(h.block k (agi.1 e).1 (by simp[h1,h2])).trans e,λ_=>hp'.evn⟩
theorem OD.putObj {bx bm N:Nat}{W:World}{l:Nat}{ob ob':Obj}(h:W.heap[l]?=some ob)(ho:Odd ob)(hl:N<=l):OD bx bm N W (W.putObj l ob'):=by
 refine⟨rfl,rfl,rfl,by simp,λk o e _ hk=>?_,λ⟨⟨cs,f,h1⟩,es,c,h2⟩=>⟨⟨cs,f,?_⟩,es,c,?_⟩⟩;rw[World.putObj_heap_other (λe2=>?_)]
 ·exact e
 ·rw[e2,h]at e;cases e;have:=hk ho;omega
 ·rw[World.putObj_heap_other (λe2=>by rw[e2,h]at h1;cases h1;exact ho.1 _ _ _ rfl)];exact h1
 ·rw[World.putObj_heap_other (λe2=>by rw[e2,h]at h2;cases h2;exact ho.2 _ _ rfl)];exact h2
theorem OD.mono (h:OD bx bm N' A B)(hN:N<=N'):OD bx bm N A B:=⟨h.os,h.tape,h.output,h.size,λk ob e h1 h2=>h.keep k ob e h1 (λho=>s_ (h2 ho) hN),h.even⟩
theorem OD.tag {f:Nat×Nat}(h:OD bx bm N A B)(e:A.heap[k]?=some (.cells cs t f))(h1:k≠bx)(h2:k≠bm):B.heap[k]?=some (.cells cs t f):=h.keep k _ e (.inr ⟨h1,h2⟩) (λho=>absurd rfl (ho.1 _ _ _))
theorem OD.tags (h:OD bx bm N A B)(he:Even bx bm A)(ht:(117:TypeId)≠t):KT t A B:=λk cs f e=>by
 obtain⟨⟨c1,f1,h1⟩,es,c,h2⟩:=he;refine h.tag e (λe2=>?_) (λe2=>?_)
 ·rw[e2,h1]at e;cases e;exact ht rfl
 ·rw[e2,h2]at e;cases e
theorem OD.g (h:OD bx bm N2 A B)(he:Even bx bm A)(hN:N<=N2)(hb:bm<=bx)(hbN:bm<=N2)(h1:bx∈D)(h2:bm∈D):OG T bm N D [] A B:=
 ⟨h.size,λt ht _ k cs f _ e=>h.tags he (λe2=>ht (by rw[<-e2];decide)) k cs f e,λt ht k cs f _ e=>h.tags he (λe2=>(by rw[<-e2]at ht;exact absurd ht (by decide))) k cs f e,λk ob hk e ho=>h.keep k ob e (.inl ho) (λ_=>by omega),λk ob hk hD e _=>h.keep k ob e (.inr ⟨λe2=>hD (e2▸h1),λe2=>hD (e2▸h2)⟩) (λ_=>by omega),⟨h.os,h.tape,h.output,h.size,λk hk hlt=>by
  have e:A.heap[k]?=some A.heap[k]:=q_ hlt;rw[h.keep k _ e (.inr ⟨by omega,by omega⟩) (λ_=>by omega)];exact e.symm⟩⟩
def Gone (bx bm blk:Nat)(d:DS)(M:List PF)(W:World):Prop:=∃d' M',PD W bx bm d' M'/\Di d'/\d'.last=d.last/\d'.wrote=d.wrote/\uO d'.files<=uO d.files/\d'.block=d.block/\d'.blocks=d.blocks/\List.Sublist (rowsOf M') (rowsOf M)/\(blk:Int)<=d'.block
theorem Gone.loop (h:Gone bx bm blk d M W)(e:W.heap[l]?=some ob)(ho:Odd ob):Gone bx bm blk d M (W.putObj l ob'):=by
 obtain⟨d',M',h1,h2⟩:=h;have g:Guard Aa (l+1) W (W.putObj l ob'):=Guard.putOdd e ho (by omega);exact⟨d',M',h1.guard (g.mono (by decide) (e_ _)),h2⟩
theorem waits_seq (W0:World)(br r bx bm blk file N:Nat)(d:DS)(M:List PF)(hb:W0.heap[br]?=some (.cells #[.pointer (some ⟨r,0,none⟩)] 194 (0,0)))(hR:W0.heap[r]?=some (.cells (rC bx blk file 0 0 (.slice none 0 0)) 223 (0,0)))(hP:PD W0 bx bm d M)(ok:Di d)(hm:gla<(file:Int))(haf:uO d.files<=1000000000)(b3:(blk:Int)<=d.block) :
  SQ 115 #[.pointer (some ⟨br,0,none⟩)] () (λ_ W=>Gone bx bm blk d M W) (λ_ _ _ _=>False) (λ_ _=>False) (λ_ A B=>OD bx bm N A B) (λ_ _ _=>True) W0:=by
 intro l J hJ hM hY h0;have hrb:r∉[bx,bm]:=λe=>(hP.nT (t:=223) (by decide) (by decide)).not_mem hR (by simp only[a_,i_,or_false]at e;rcases e with e|e<;>simp[dI,e]);have cb:=bg hb;have hrd:=rZ W0 r ([]:List (List Rec));have HX:Hid (∀W,Touch [] W0 W->W.heap[r]?=some (.cells (rC bx blk file 0 0 (.slice none 0 0)) 223 (0,0))/\PD W bx bm d M/\W.cell? ⟨br,0,none⟩=some (.pointer (some ⟨r,0,none⟩))):=λW t=>⟨t.tu _ _ _ _ hR,hP.away t (by simp),cO cb t⟩;have HNX:Hid (∀W q,Touch [] W0 W->Rj W q r ([]:List (List Rec)) []->Calls prog 117 #[.pointer (some ⟨q,0,none⟩)] W λe w'=>e=.returned (.tuple #[.agg #[.int .i64 0,.slice none 0 0],.bool false])/\Touch [] W w'):=λW q t hq=>by
  obtain⟨k,rest,h1,h2,h3⟩:=hq;have h4:=au_.1 h2.symm;rw[h4.1]at h1;exact next_end W q r k 0 bx blk file 0 (.slice none 0 0) h1 (t.tu _ _ _ _ hR) (by simpa using h3)
 have HP:Hid _:=hP;clear hR hP hb
 go_enter_defers func115,ntmps115
 go_wp2_with (first|(go_at_call 116;refine hrd.mono ?_;rintro e w1 ⟨rfl,q1,q2,q3⟩))
 have HN1:=HNX.out w1 W0.heap.size q3 q1;refine wp_loop_rounds 1 ?_;rw[rounds_succ]
 go_wp2_with (first|(go_at_call 117;refine HN1.mono ?_;rintro e w2 ⟨rfl,t2⟩))
 have t3:Touch [] W0 (w2.alloc (.cells #[.int .i64 0,.slice none 0 0] 205)):=(q3.trans t2).alloc _;obtain⟨g1,g2,_⟩:=HX.out _ t3;have hJ3:=hJ _ _ _ h0 ((t3.mono (by simp)).ownD HP.out g2 N);refine leaves_cons (f:=104) (args:=#[.pointer (some ⟨r,0,none⟩)]) (by simp) (by simp[go_sem]) ?_;refine(delete_deferred _ r bx bm blk file d M .returning g1 g2 ok hm haf).mono ?_;rintro e u' w4 ⟨rfl,rfl,d',M',p1,p2,p3,p4,p5,p6,p7⟩;exact⟨_,results_none rfl _ _ _,⟨_,rfl⟩,(),⟨d',M',p1,p2.ok,p3,p4,p5,p2.block,p2.blocks,p6,by rw[p2.block];exact b3⟩,hJ _ _ _ hJ3 (p7.ownD g2 p1 N)⟩
theorem nn_none (W0:World)(b1 b2 br r bx bm blk file N:Nat)(d:DS)(M:List PF)(h1:W0.heap[b1]?=some (.cells #[.func (.func 115) #[] #[.pointer (some ⟨br,0,none⟩)]] 165 (0,0)))(hb:W0.heap[br]?=some (.cells #[.pointer (some ⟨r,0,none⟩)] 194 (0,0)))(hR:W0.heap[r]?=some (.cells (rC bx blk file 0 0 (.slice none 0 0)) 223 (0,0)))(hP:PD W0 bx bm d M)(ok:Di d)(hm:gla<(file:Int))(haf:uO d.files<=1000000000)(b3:(blk:Int)<=d.block)(hN:N<=W0.heap.size) :
  SQ 178 #[.pointer (some ⟨b1,0,none⟩),.pointer (some ⟨b2,0,none⟩)] () (λ_ W=>Gone bx bm blk d M W) (λ_ _ _ _=>False) (λ_ _=>False) (λ_ A B=>OD bx bm N A B) (λ_ _ _=>True) W0:=by
 intro l J hJ hM hY h0;have c0:=bg h1;have n1:=(agi.1 h1).1;have tA:Touch [] W0 (W0.alloc (.cells #[.func (.yield l) #[] #[]] 206)):=tr_.alloc _;have hJ1:=hJ _ _ _ h0 ((tA.mono (by simp)).ownD hP (hP.away tA (by simp)) N);have hb1:=tA.tu _ _ _ _ hb;have hR1:=tA.tu _ _ _ _ hR;have hP1:=hP.away tA (by simp);have hws:(W0.alloc (.cells #[.func (.yield l) #[] #[]] 206)).heap.size=W0.heap.size+1:=by simp
 refine callsIn_wide.1 (callsIn_of_wp_marks (n:=0) func178 rfl trivial (wpIn_wide.2 ?_));simp only[ntmps178,List.size_toArray,List.length_cons,List.length_nil,Nat.reduceAdd,Nat.reduceSub,P_,Array.replicate_zero,List.push_toArray,List.append_toArray,List.nil_append,List.cons_append];go_wp2;clear c0 h1 hb hR hP h0 tA n1;generalize W0.alloc (.cells #[.func (.yield l) #[] #[]] 206)=wa at *;have tW:∀rec:Loop,Touch [] wa ((wa.alloc (.deferred (some []))).alloc (.loop rec)):=λrec=>(tr_.alloc _).alloc _;refine range_box (w:=wa) (gf:=115) (lb:=#[.pointer (some ⟨br,0,none⟩)]) rfl (enters_of func115 (by kernel_rfl) rfl) rfl
  (λrec=>waits_seq _ br r bx bm blk file (wa.heap.size+2) d M ((tW rec).tu _ _ _ _ hb1) ((tW rec).tu _ _ _ _ hR1) (hP1.away (tW rec) (by simp)) ok hm haf b3)
  (λs A B' k ob h e ho hk=>h.keep k ob e (.inl (by rcases ho with⟨r,rfl⟩|⟨ds,rfl⟩;exact oL r;exact oD ds)) (λ_=>by omega)) (λ_ _ _ _ _ _=>trivial) (λ_ _ _ _ _=>trivial)
  (λs W=>J s W/\wa.heap.size<=W.heap.size)
  (λs A B' h1 h2=>⟨hJ _ _ _ h1.1 (h2.mono (by omega)),k_ h1.2 h2.size⟩) (λ_ _ _ _ h=>h.elim) ?hIp (λ_ _ _ _ _ _ h=>h.elim) ?h0 (λ_ W=>W) (λ_ _=>{ tmps:=#[],defers:=[] }) (λ_ _ _=>True)
  (λ_ _ _ _ e _=>e) (λ_ _ _ _ _ h=>h.elim) (λ_ _ _ _ _ _ _=>trivial) (λ_ _ _ _ _ h=>h.elim) (λ_ _ _ _ _ _ h=>h.elim) ?done
 case hIp=>
  rintro s W r1 r2 ⟨h1,h2⟩ hl;exact⟨hJ _ _ _ h1 (OD.putObj hl (oL r1) (by omega)),by simpa using h2⟩
 case h0=>
  intro rec;exact⟨hJ _ _ _ hJ1 (((tW rec).mono (by simp)).ownD hP1 (hP1.away (tW rec) (by simp)) N),(tW rec).size⟩
 case done=>
  rintro s W r1 r2 hf ⟨hJ2,hWs⟩ hl hk;have hk1:(W.putObj (wa.heap.size+1) (.loop r2)).heap[wa.heap.size]?=some (.deferred (some [])):=(World.putObj_heap_other (by omega)).trans hk;have hJ3:=hJ _ _ _ hJ2 (OD.putObj (ob':=.loop r2) hl (oL r1) (by omega));have hf2:=hf.loop (ob':=.loop r2) hl (oL r1);generalize W.putObj (wa.heap.size+1) (.loop r2)=W2 at *;have hJ4:=hJ _ _ _ hJ3 (OD.putObj (ob':=.deferred none) hk1 (oD _) (by omega));have HF:Hid _:=hf2.loop (ob':=.deferred none) hk1 (oD _);clear hJ2 hl hk hf hb1 hR1 hP1 hJ1 tW hf2;go_wp2;refine⟨by simp,.inl ⟨_,_,rfl,run_takeDeferred hk1,?_⟩⟩;exact⟨_,results_none rfl _ _ _,⟨_,rfl⟩,(),HF.out,hJ4⟩
theorem giveBack_one (w:World)(q bx bm blk fan bud file br r g cap:Nat)(tv:Value)(d:DS)(M:List PF)(hW:Waits w q tv blk fan bud bx file br r g cap)(hP:PD w bx bm d M)(ok:Di d)(hm:gla<(file:Int))(haf:uO d.files<=1000000000)(b3:(blk:Int)<=d.block) :
  CallsD prog 78 #[.pointer (some ⟨q,0,none⟩)] .returning w λe u w'=>u=.returning/\e=.returned (.tuple #[])/\Gone bx bm blk d M w'/\Touch [bx,bm] w w':=by
 obtain⟨cur,hg,hg0⟩:=hW.list;have q5:w.cell? ⟨q,5,none⟩=some (.slice (some ⟨g,0,none⟩) 1 cap):=by simp[World.cell?,hW.hQ,QC]
 have c0:w.cell? ⟨g,0,none⟩=some (.pointer (some ⟨r,0,none⟩)):=by simp[World.cell?,hg,hg0]
 have hd:=delete_any w r bx bm blk file 0 0 (.slice none 0 0) d M hW.run hP ok hm haf;clear hW hP
 go_enter_d func78,ntmps78
 go_wp2;refine wp_loop_rounds 2 ?_;rw[rounds_succ]
 go_wp2_with (first|(go_at_call 104;refine hd.mono ?_;rintro e w1 ⟨rfl,d',M',p1,p2,p3,p4,p5,p6,p7⟩))
 rw[rounds_succ];go_wp2
 go_end0
 exact⟨rfl,⟨d',M',p1,p2.ok,p3,p4,by omega,p2.block,p2.blocks,p6,by rw[p2.block];exact b3⟩,p7⟩
end Go.Proofs.YtjoinhljdbljaaaGreat
namespace Go.Proofs.YtjoinhljdbljaaaGreat
open Go.RowKit Go.Proofs.Tryz
variable [Inhabited Ground]
variable {D F XC:List Nat} {M:List PF} {N P P1 P2 b1 b2 bL bl blk bm bn bq br bs bud bx cap cols fan file j j1 j2 j3 k lo m ph ps q r rc wb:Nat} {W W' a b w wc:World} {cs:Array Value} {d d':DS} {ks:List K} {kv sv tv wv:Value} {rows:List (List V)} {vs:List Value}
theorem Left.gone (h:Left d k j)(h1:d'.last=d.last)(h2:d'.wrote=d.wrote)(h3:uO d'.files<=uO d.files)(h4:d'.blocks=d.blocks):Left d' k j:=by
 obtain⟨a,b,c,e⟩:=h;exact⟨by omega,by omega,by omega,by omega⟩
theorem none_one 
  (p4:Sr wc ps (SC.new bx blk fan bud 20000 kv ph)) (p5:HeadAt wc ph (.slice none 0 0) bs) (p6:wc.heap[bs]?=some (.cells #[.pointer (some ⟨ps,0,none⟩)] 228 (0,0))) (keys:KA wc kv ks) (h1:wc.heap[b1]?=some (.cells #[.func (.func 115) #[] #[.pointer (some ⟨br,0,none⟩)]] 165 (0,0))) (hb:wc.heap[br]?=some (.cells #[.pointer (some ⟨r,0,none⟩)] 194 (0,0))) (hR:wc.heap[r]?=some (.cells (rC bx blk file 0 0 (.slice none 0 0)) 223 (0,0))) (hps:N<=ps) (hph:N<=ph) (hN:N<=wc.heap.size) (hbm:bm<=N)
  (num:SL blk fan bud cols ks []) (pd:PD wc bx bm d M) (ok:Di d) (hm:gla<(file:Int)) (b3:(blk:Int)<=d.block) (hi:Hi bm (dI bx bm M)) (hl:Left d ((P*1+m)+1) j) (hP:1000000000<=P+j) (hPj:P+j2<=j) (hPs:P<=900000) (T:List TypeId) :
  Src T bm N (dI bx bm M) wc 178 #[.pointer (some ⟨b1,0,none⟩),.pointer (some ⟨b2,0,none⟩)] ps (FinOne N (dI bx bm M) ps bx bm blk cols m j2 ks []):=by
 have tW:∀rec:Loop,Touch [] wc ((wc.alloc (.deferred (some []))).alloc (.loop rec)):=λrec=>(tr_.alloc _).alloc _;have haf:uO d.files<=1000000000:=by have a:=hl.used;have b:=hl.small;omega
 have hbx:bm<=bx:=hi _ (by simp[dI]);obtain⟨f1,f2,f3⟩:=num.fan;refine⟨Unit,(),λ_ W=>Gone bx bm blk d M W,λ_ _ _ _=>False,λ_ _=>False,λ_ A B=>OD bx bm (wc.heap.size+2) A B,λ_ _ _=>True,
  λ_ W=>Even bx bm W/\Sr W ps (SC.new bx blk fan bud 20000 kv ph)/\HeadAt W ph (.slice none 0 0) bs/\W.heap[bs]?=some (.cells #[.pointer (some ⟨ps,0,none⟩)] 228 (0,0))/\KA W kv ks/\N<=W.heap.size,
  λrec=>nn_none _ b1 b2 br r bx bm blk file (wc.heap.size+2) d M ((tW rec).tu _ _ _ _ h1) ((tW rec).tu _ _ _ _ hb) ((tW rec).tu _ _ _ _ hR) (pd.away (tW rec) (by simp)) ok hm haf b3 (by simp),
  λs A B k ob h e ho hk=>h.keep k ob e (.inl (by rcases ho with⟨r,rfl⟩|⟨ds,rfl⟩;exact oL r;exact oD ds)) (λ_=>by omega),λ_ _ _ _ _ _=>trivial,λ_ _ _ _ _=>trivial,
  ?_,λ_ _ _ _ h=>h.elim,?_,λ_ _ _ _ _ _ h=>h.elim,λrec=>⟨(pd.away (tW rec) (by simp)).evn,(tW rec).tu _ _ _ _ p4,(tW rec).tu _ _ _ _ p5,(tW rec).tu _ _ _ _ p6,keys.touch (tW rec),k_ hN (tW rec).size⟩,λ_ _ _ _ _ h=>h.elim,?_⟩
 ·rintro s A B ⟨a0,a1,a2,a3,a4,a5⟩ o;exact⟨⟨o.even a0,o.tags a0 (by decide) _ _ _ a1,o.tags a0 (by decide) _ _ _ a2,o.tags a0 (by decide) _ _ _ a3,Sl3.keep a4 (o.tags a0 (by decide)),k_ a5 o.size⟩,o.g a0 (by omega) hbx (by omega) (by simp[dI]) (by simp[dI])⟩
 ·rintro s W r1 r2 ⟨a0,a1,a2,a3,a4,a5⟩ hlp;have o:OD bx bm (wc.heap.size+1) W (W.putObj (wc.heap.size+1) (.loop r2)):=OD.putObj hlp (oL r1) (e_ _);exact⟨o.even a0,o.tags a0 (by decide) _ _ _ a1,o.tags a0 (by decide) _ _ _ a2,o.tags a0 (by decide) _ _ _ a3,Sl3.keep a4 (o.tags a0 (by decide)),by simpa using a5⟩
 ·rintro s W r1 r2 hg ⟨a0,a1,a2,a3,a4,a5⟩ hlp;have o:OD bx bm (wc.heap.size+1) W (W.putObj (wc.heap.size+1) (.loop r2)):=OD.putObj hlp (oL r1) (e_ _);obtain⟨d',M',g1,g2,g3,g4,g5,g6,g7,g8,g9⟩:=hg.loop (ob':=.loop r2) hlp (oL r1);have hsub:∀k∈dI bx bm M',k∈dI bx bm M:=λk hk=>by
   simp only[dI,a_]at hk ⊢;exact hk.imp id (Or.imp id (λh=>g8.subset h))
  have hl':=hl.gone g3 g4 g5 g7;have hA:=aT (N:=N) (D:=dI bx bm M) (rows:=[]) (o.tags a0 (by decide) _ _ _ a1) (o.tags a0 (by decide) _ _ _ a2) (o.tags a0 (by decide) _ _ _ a3) (Sl3.keep a4 (o.tags a0 (by decide))) g1 g2 num.b1 num.b2 g9 num.c2 (λk hk=>hi k (hsub k hk)) (λk hk=>.inr (hsub k hk)) hps hph hbm (mm:=(P*([]:List (List V)).length.succ+m)+1) (j:=j) (by simpa using hl');exact addSt_one (rows:=[]) hA num.oks hP hPj hPs f1 f2 num.c1 (by simpa using a5) (by simp)
theorem val_end {b count:Nat}
  (p4:Sr wc ps (SC.new bx blk fan bud count kv ph)) (p5:HeadAt wc ph (.slice none 0 0) bs) (p6:wc.heap[bs]?=some (.cells #[.pointer (some ⟨ps,0,none⟩)] 228 (0,0))) (keys:KA wc kv ks) (hps:N<=ps) (hph:N<=ph) (hN:N<=wc.heap.size) (hbm:bm<=N)
  (tab:TB wc b sv vs rows) (num:SL blk fan bud cols ks rows) (pd:PD wc bx bm d M) (ok:Di d) (b3:(blk:Int)<=d.block) (hi:Hi bm (dI bx bm M)) (hD:∀k∈dI bx bm M,N<=k\/k∈D) (hl:Left d (2*rows.length+((P*(rows.length+1)+m)+1)) (rows.length+j)) (hP:1000000000<=P+j) (hPj:P+j2<=j) (hPs:P<=900000) (T:List TypeId) :
  Src T bm N D wc 162 #[.pointer (some ⟨b,0,none⟩)] ps (FI N D ps bx bm blk count cols m j2 ks (λl=>l=rows)):=by
 have hA:=aT (N:=N) (D:=D) (rows:=rows) p4 p5 p6 keys pd ok num.b1 num.b2 b3 num.c2 hi hD hps hph hbm hl;obtain⟨f1,f2,f3⟩:=num.fan;have hfw:=num.few;have hlen:=tab.len;have tW:∀rec:Loop,Touch [] wc ((wc.alloc (.deferred (some []))).alloc (.loop rec)):=λrec=>(tr_.alloc _).alloc _;refine⟨Nat,0,λs _=>s=vs.length,λi v _ i'=>vs[i]?=some v/\i'=i+1,λ_ _=>False,λ_ A B=>A=B,λ_ W W'=>KT 83 W W',
  λi W=>Ad N D W ps bs bx bm blk count (min fan (bud/2/blk)) (bud/2) cols ((P*(rows.length+1)+m)+1) j ks rows i/\(∀i (_:i<vs.length) (_:i<rows.length),Ro W vs[i] rows[i])/\N<=W.heap.size,
  λrec=>vS _ b sv vs ((tW rec).tu 36 _ _ _ tab.hb) (tab.list.keep ((tW rec).tu 83)) (by omega),
  by rintro s A B' k ob rfl e _ _;exact e,λ_ _ _ _ h1 h2=>h1.trans h2,λ_ W r r' e=>(Guard.putObj (T:=[83]) (B:=wc.heap.size+2) e (by omega)).cells 83 (by decide),
  by rintro s A B' hi rfl;exact⟨hi,tr_.g T bm _ _ []⟩,λ_ _ _ _ h=>h.elim,?_,by rintro i v i' W r r' hs _;exact hs,
  λrec=>⟨hA.quiet (tW rec),λi a b=>(tab.rW i a b).touch (tW rec),k_ hN (tW rec).size⟩,?_,?_⟩
 ·rintro i W r r' ⟨h1,h2,h3⟩ hlp;have hg:=OwnS.putObj (T:=OT) (lo:=bm) (B:=0) (ob':=.loop r') hlp (oL r) (by omega) (by omega);exact⟨h1.putObj hlp (oL r),λi a b=>Sl3.keep (h2 i a b) (hg.cells 85 (by decide) (by decide)),by simpa using h3⟩
 ·rintro i v i' W ⟨h1,h2,h3⟩ ⟨hv,rfl⟩;obtain⟨hiv,hve⟩:=l_.1 hv;have hir:i<rows.length:=by omega
  have hrow:=h2 i hiv hir;rw[hve]at hrow;obtain⟨vo,vC,e⟩:=hrow.shape;refine⟨⟨_,_,_,e⟩,(addSt_add h1 h3 num.oks hir hrow (by omega) f3).mono ?_⟩;rintro e w1 ⟨rfl,a1,a2⟩;exact⟨rfl,⟨a1,λi a b=>Sl3.keep (h2 i a b) (a2.step.tag (by decide) (by decide)),k_ h3 a2.step.size⟩,a2.step.tag (by decide) (by decide),a2.g T,λk ob e ho=>a2.step.other e ho.1 ho.2⟩
 ·rintro i W r r' rfl ⟨h1,h2,h3⟩ hlp;rw[hlen]at h1;exact⟨rows,rfl,by omega,addSt_end (h1.putObj hlp (oL r)) num.oks hP hPj hPs f1 f2 num.c1 (by simpa using h3)⟩
structure OuterJ (w:World)(q bq bn br bl bL wb r file:Nat)(tv wv sv:Value)(n:ND)(vs:List Value)(rows:List (List V))(cols others:List Int)(rc bx bm blk fan bud:Nat)(XC:List Nat)(d:DS)(M:List PF):Prop where
 ctx:JCtx w q tv wv sv n vs rows cols others rc bx bm blk fan bud XC d M
 made:JM w q n 162 #[.pointer (some ⟨bL,0,none⟩)] rc 115 #[.pointer (some ⟨wb,0,none⟩)] bq bn br bl
 tabL:TB w bL sv vs rows
 hb:w.heap[wb]?=some (.cells #[.pointer (some ⟨r,0,none⟩)] 194 (0,0))
 hR:w.heap[r]?=some (.cells (rC bx blk file 0 0 (.slice none 0 0)) 223 (0,0))
 hm:gla<(file:Int)
 op:n.op=5
theorem outer_seq {n:ND}{cols others:List Int}(h:OuterJ w q bq bn br bl bL wb r file tv wv sv n vs rows cols others rc bx bm blk fan bud XC d M)
  (hl:Left d ((P1*1+(2*rows.length+((P2*(rows.length+1)+m)+1)))+1) j1) (hP1:1000000000<=P1+j1) (hPj1:P1+(rows.length+j2)<=j1) (hPs1:P1<=900000) (hP2:1000000000<=P2+j2) (hPj2:P2+j3<=j2) (hPs2:P2<=900000) :
  SG 149 #[.pointer (some ⟨bq,0,none⟩),.pointer (some ⟨bn,0,none⟩),.pointer (some ⟨br,0,none⟩),.pointer (some ⟨bl,0,none⟩)] ([]:List (List V)) (JFin bx bm blk m j3 true cols others rc rows []) (Jt true cols others rc rows []) JnT JnK XC bm w.heap.size (dI bx bm M) w:=by
 have hbm:bm<w.heap.size:=h.ctx.pd.lt bm (by simp);have c:=h.ctx;have numR:SL blk fan bud rc (others.map keyOf) []:={ c.nU with oks:=⟨λi hi=>by simp at hi,λr hr=>by simp at hr⟩,few:=by simp };refine joined_seq w bq bn br bl q tv wv n 115 162 _ _ cols others rc rc bx bm blk fan bud XC (dI bx bm M) true rows [] (2*rows.length+((P2*(rows.length+1)+m)+1)) (rows.length+j2) rc m j3 ⟨h.made.hq,c.hQ,h.made.hn,h.made.hr,h.made.hl,c.sides,c.inX,c.cak,c.sl,by have:=c.nU.b1;omega,c.nU.bud2,c.nU.c1,c.nU.c2,c.nU.c1,c.nU.c2⟩ hbm (.inr ⟨h.op,rfl,rfl⟩) c.rl (by simp) ?_ ?_
 ·intro wc ps bs ph kv c1 c2 p4 p5 p6 keys e1 e2 t s1 s2;have hq:=h.ctx.quiet t;exact none_one p4 p5 p6 keys e1 (t.tu _ _ _ _ h.hb) (t.tu _ _ _ _ h.hR) s1 s2 t.size (Z_ hbm) numR hq.pd hq.ok h.hm hq.b3 hq.hi hl hP1 hPj1 hPs1 JnT
 ·intro W d' M' c1 bk bc c2 kv pd' ok' blk' left' hi' ho e1 ek ec e2 keys';have oks:=ok'.self;have hsz:=ho.size;have tb:=h.tabL.own ho (by decide) (h.tabL.off c.pd tr_);have num:=c.nU;have hQ:=ho.tag (t:=162) (by decide) (by decide) (by decide) _ _ _ c.hQ;clear h c ho
  letI:Inhabited Ground:=⟨⟨d'.last,gq d'.files⟩⟩
  refine sab [] W c1 bk bc c2 q tv wv kv 162 _ bx bm blk fan bud 20000 rc (cols.map keyOf) (λl=>l=rows) (dI bx bm M') m j3 ⟨e1,hQ,ek,keys'.slice,ec,e2,by have:=num.b1;omega,num.bud2⟩ (enters_of func162 (by kernel_rfl) rfl) (by simp) (by omega) (λwc ps bs ph p4 p5 p6 t s1 s2=>?_);exact val_end p4 p5 p6 (keys'.touch t) s1 s2 t.size (by omega) (tb.quiet t) num (pd'.away t (by simp)) oks blk' hi' (λk hk=>.inr hk) left' hP2 hPj2 hPs2 []
theorem KQ.tag (h:KQ lo q w W)(hq:w.heap[q]?=some (.cells cs 162 (0,0))){t:TypeId}(h1:t∉OT)(h2:t≠5)(h3:(162:TypeId)≠t):KT t w W:=λk c f e=>h.cells t h1 h2 k c f (λe2=>by rw[e2,hq]at e;cases e;exact h3 rfl) e
theorem KQ.trans {lo q:Nat}{a b c:World}(h:KQ lo q a b)(k:KQ lo q b c):KQ lo q a c:=⟨h.low.trans k.low,λt h1 h2 i cs f h3 e=>k.cells t h1 h2 i cs f h3 (h.cells t h1 h2 i cs f h3 e)⟩
theorem Touch.keptQ (t:Touch [] a b):KQ lo q a b:=⟨t.low (Hi.nil lo),λ_ _ _ _ _ _ _ e=>t.tu _ _ _ _ e⟩
theorem KQ.new (h:KQ lo q w a)(t:Touch F a b)(hF:∀k∈F,w.heap.size<=k)(hlo:lo<=w.heap.size):KQ lo q w b:=
 ⟨h.low.trans (t.low (λk hk=>k_ hlo (hF k hk))),λty h1 h2 k cs f h3 e=>by
  have e1:=h.cells ty h1 h2 k cs f h3 e;rw[t.block k (agi.1 e1).1 (λhm=>by have:=(agi.1 e).1;have:=hF k hm;omega)];exact e1⟩
theorem KQ.kept (h:KQ lo q w W)(hq:w.heap.size<=q):Kept lo w W:=⟨h.low,λt h1 h2 k cs f e=>h.cells t h1 h2 k cs f (by have:=(agi.1 e).1;omega) e⟩
theorem Waits.quiet {g:Nat}(h:Waits W q tv blk fan bud bx file br r g cap)(t:Touch [] W W'):Waits W' q tv blk fan bud bx file br r g cap:=
 { h with hQ:=t.tu _ _ _ _ h.hQ,box:=t.tu _ _ _ _ h.box,run:=t.tu _ _ _ _ h.run,list:=by obtain⟨c,a,b⟩:=h.list;exact⟨c,t.tu _ _ _ _ a,b⟩ }
theorem Waits.res {g gr:Nat}(h:Waits W q tv blk fan bud bx file br r g cap)(hg:W.heap[gr]?=some (.cells cs 167 (0,0)))(t:Touch [gr] W W'):Waits W' q tv blk fan bud bx file br r g cap:=by
 have k:∀{t':TypeId},(167:TypeId)≠t'->KT t' W W':=λht=>t.tag (nO hg ht);exact{ h with hQ:=k (by decide) _ _ _ h.hQ,box:=k (by decide) _ _ _ h.box,run:=k (by decide) _ _ _ h.run,list:=by obtain⟨c,a,b⟩:=h.list;exact⟨c,k (by decide) _ _ _ a,b⟩ }
section
variable {w W:World} {gp:Nat} {ns:List ND} {tv sv:Value} {name:ByteArray} {ko:Option Addr} {kn kc:Nat} {n:ND} {vs:List Value} {rows:List (List V)} {cols others:List Int} {bx bm blk fan bud:Nat} {XC:List Nat} {d d':DS} {M M':List PF}
theorem Ak.kept (h:Ak w gp ns tv sv name ko kn kc n vs rows cols others bx bm blk fan bud XC d M)(k:∀t∈([79,70,83,85,3]:List TypeId),KT t w W)(pd:PD W bx bm d' M')(ok:Di d')(b3:(blk:Int)<=d'.block)(hi:Hi bm (dI bx bm M')):Ak W gp ns tv sv name ko kn kc n vs rows cols others bx bm blk fan bud XC d' M':=by
 refine⟨k 79 (by decide) _ _ _ h.plan,h.tab.keep (k 70 (by decide)),h.list.keep (k 83 (by decide)),h.len,λi a b=>Sl3.keep (h.rW i a b) (k 85 (by decide)),h.sides.blocks h.inX (λi hi ob e=>?_),h.inX,λi hi=>(h.cak i hi).imp λ_ h=>h.imp λ_ h=>k 3 (by decide) _ _ _ h,h.sl,h.nU,pd,ok,b3,hi⟩;obtain⟨cs,f,e1⟩:=h.cak i hi;rw[e]at e1;rw[e1];rw[e1]at e;exact k 3 (by decide) _ _ _ e
end
theorem copiedJoinZ_any (w:World)(cl cq q:Nat)(lb:Array Value)(tv wv:Value)(bx bm blk:Nat)(fan bud:Int)(XC D:List Nat)(m j:Nat)(outer:Bool)(cols others:List Int)(rc:Nat)(ru rD:List (List V))(Z:List (Nat×Array Value×TypeId))(hZ0:Still Z w)(hZ:∀z∈Z,z.1∉D/\z.2.2≠5)(hq:w.heap[cq]?=some (.cells #[.pointer (some ⟨q,0,none⟩)] 159 (0,0)))(hQ:w.heap[q]?=some (.cells #[tv,.int .i64 (blk:Int),.int .i64 fan,.int .i64 bud,.pointer (some ⟨bx,0,none⟩),wv] 162 (0,0)))(hl:w.heap[cl]?=some (.cells #[.func (.func 149) #[] lb] 165 (0,0)))(b2:blk<=4096)(hlo:bm<=w.heap.size)(hX:∀k∈XC,∃cs f,w.heap[k]?=some (.cells cs 3 f))(hr:JRows blk outer cols others rc ru rD)
  (hseq:∀W,Touch [] w W->SG 149 lb ([]:List (List V)) (JFin bx bm blk m j outer cols others rc ru rD) (Jt outer cols others rc ru rD) JnT JnK XC bm W.heap.size D W) :
  Calls prog 82 #[.func (.func 140) #[] #[.pointer (some ⟨cl,0,none⟩),.pointer (some ⟨cq,0,none⟩)]] w λe w'=>∃lv out,e=.returned lv/\(JFin bx bm blk m j outer cols others rc ru rD out w'/\Still Z w')/\(∃vs',LW w' lv vs'/\vs'.length=out.length/\∀i (_:i<vs'.length) (_:i<out.length),Ro w' vs'[i] out[i])/\Kept bm w w':=by
 have hZlt:∀z∈Z,z.1<w.heap.size:=λz hz=>(agi.1 (hZ0 z hz)).1;have hXlt:∀k∈XC++Z.map Prod.fst,k<w.heap.size:=λk hk=>by
  rcases d_.1 hk with hk|hk
  ·obtain⟨_,_,e⟩:=hX k hk;exact(agi.1 e).1
  ·obtain⟨z,hz,rfl⟩:=z_.1 hk;exact hZlt z hz
 refine(copied_gen JcT JcK (XC++Z.map Prod.fst) w 140 _ ([]:List (List V)) _ _ bm D (λP=>P) hlo (enters_of func140 (by kernel_rfl) rfl) (by decide) (by decide) hXlt (λW hW=>(jC W cl cq q lb tv wv bx bm blk fan bud XC D m j outer cols others rc ru rD (hW.tu _ _ _ _ hq) (hW.tu _ _ _ _ hQ) (hW.tu _ _ _ _ hl) b2 (k_ hlo hW.size) (λk hk=>(hX k hk).imp λ_ h=>h.imp λ_ h=>hW.tu _ _ _ _ h) hr (λW' t=>hseq W' (hW.trans t))).more Z (hZ0.quiet hW) (λz hz=>⟨s_ (hZlt z hz) hW.size,hZ z hz⟩)) rfl ?_ ?_ ?_).mono ?_
 ·rintro P v W P' hst;obtain⟨r,e,h0,h1,h2,h3,h5,h4⟩:=hst.rows hr;exact⟨r,e,h1,h5,h4,by omega⟩
 ·rintro P v W P' l r r' hst e;exact hst.stay ((OG.putObj (T:=[]) (lo:=0) (N:=0) (D:=[]) (F:=[]) (ob':=.loop r') e (oL r) (x_ _) (x_ _)).tag (by decide) (by decide) (by simp))
 ·rintro P W l ob ob' h1 e ho;exact⟨h1.1.odd e ho,h1.2.odd e ho⟩
 ·rintro e w' ⟨lv,P,rfl,h1,h2,h5⟩;exact⟨lv,P,rfl,h1,h2,h5⟩
def OuterMade (q kn b wb:Nat)(n:ND)(lb:Array Value)(W:World):Prop:=
 ∃bq bn br bl,lb=#[.pointer (some ⟨bq,0,none⟩),.pointer (some ⟨bn,0,none⟩),.pointer (some ⟨br,0,none⟩),.pointer (some ⟨bl,0,none⟩)]/\JM W q n 162 #[.pointer (some ⟨b,0,none⟩)] kn 115 #[.pointer (some ⟨wb,0,none⟩)] bq bn br bl
def fW (b:Nat):Value:=.func (.func 115) #[] #[.pointer (some ⟨b,0,none⟩)]
def kV (kn:Nat):Value:=.int .i64 (kn:Int)
theorem make163q (W:World):(Instr.makeSlice 163 (.int .i64 ((4:Nat):Int)) (.int .i64 ((4:Nat):Int))).run prog W=.ok (.slice (some ⟨W.heap.size,0,none⟩) 4 4) (W.alloc (.cells #[z0,.nilFunc,z0,.nilFunc,z0,.nilFunc,z0,.nilFunc] 167)):=by kernel_rfl
section
variable {w:World} {gp:Nat} {sv:Value} {name:ByteArray} {ko:Option Addr} {kn kc:Nat} {n nt:ND} {vs:List Value} {rows:List (List V)} {cols others:List Int} {bx bm blk fan bud:Nat} {XC:List Nat} {d:DS} {M:List PF} {tO:Option Addr} {tn tc file:Nat} {P0 P1 P2 m j0 j1 j2 j3:Nat} {ksT:List K}
def OuterSt (w:World)(q gr gp:Nat)(tO:Option Addr)(tn tc kn:Nat)(sv:Value)(name:ByteArray)(ko:Option Addr)(kc:Nat)(n nt:ND)(vs:List Value)(rows:List (List V))(cols others:List Int)(bx bm blk fan bud:Nat)(XC:List Nat)(file m0 jb:Nat)(k:Nat)(cs:Array Value)(W:World):Prop:=
 W.heap[gr]?=some (.cells cs 167 (0,0))/\KQ bm q w W/\match k with
 | 0=>(Touch [] w W/\W.heap[q]?=some (.cells (QC (.slice tO tn tc) blk fan bud bx (.slice none 0 0)) 162 (0,0)))/\cs=#[z0,.nilFunc,z0,.nilFunc,z0,.nilFunc,z0,.nilFunc]
 | 1=>(Touch [] w W/\W.heap[q]?=some (.cells (QC (.slice tO tn tc) blk fan bud bx (.slice none 0 0)) 162 (0,0)))/\∃b,cs=#[kV kn,fV b,z0,.nilFunc,z0,.nilFunc,z0,.nilFunc]/\W.heap[b]?=some (.cells #[sv] 36 (0,0))
 | 2=>(Touch [] w W/\W.heap[q]?=some (.cells (QC (.slice tO tn tc) blk fan bud bx (.slice none 0 0)) 162 (0,0)))/\∃b c,cs=#[kV kn,fV b,kV kn,fV c,z0,.nilFunc,z0,.nilFunc]/\W.heap[b]?=some (.cells #[sv] 36 (0,0))/\W.heap[c]?=some (.cells #[sv] 36 (0,0))
 | 3=>∃b c wb r g cap d2 M2,cs=#[kV kn,fV b,kV kn,fV c,kV kn,fW wb,z0,.nilFunc]/\W.heap[b]?=some (.cells #[sv] 36 (0,0))/\Waits W q (.slice tO tn tc) blk fan bud bx file wb r g cap/\Ak W gp [sN name,sN name,nt,n] (.slice tO tn tc) sv name ko kn kc n vs rows cols others bx bm blk fan bud XC d2 M2/\Left d2 m0 jb
 | _=>∃b c wb r g cap d2 M2 i cl cq lb,cs=#[kV kn,fV b,kV kn,fV c,kV kn,fW wb,.int .i64 i,.func (.func 140) #[] #[.pointer (some ⟨cl,0,none⟩),.pointer (some ⟨cq,0,none⟩)]]/\W.heap[b]?=some (.cells #[sv] 36 (0,0))/\Waits W q (.slice tO tn tc) blk fan bud bx file wb r g cap/\Ak W gp [sN name,sN name,nt,n] (.slice tO tn tc) sv name ko kn kc n vs rows cols others bx bm blk fan bud XC d2 M2/\Left d2 m0 jb/\W.heap[cq]?=some (.cells #[.pointer (some ⟨q,0,none⟩)] 159 (0,0))/\W.heap[cl]?=some (.cells #[.func (.func 149) #[] lb] 165 (0,0))/\OuterMade q kn b wb n lb W
theorem Ak.none (h:Ak w gp [sN name,sN name,nt,n] (.slice tO tn tc) sv name ko kn kc n vs rows cols others bx bm blk fan bud XC d M){q bq bk bc bl c m0 jb:Nat}(hQ:w.heap[q]?=some (.cells (QC (.slice tO tn tc) blk fan bud bx (.slice none 0 0)) 162 (0,0)))(hbq:bm<=q)(hc:w.heap[c]?=some (.cells #[sv] 36 (0,0)))(z1:w.heap[bq]?=some (.cells #[.pointer (some ⟨q,0,none⟩)] 159 (0,0)))(z2:w.heap[bl]?=some (.cells #[fV c] 165 (0,0)))(z3:w.heap[bk]?=some (.cells #[nt.kv] 74 (0,0)))(z4:w.heap[bc]?=some (.cells #[.int .i64 ((0:Nat):Int)] 3 (0,0)))(keys:KA w nt.kv ksT)(num:SL blk fan bud kn ksT rows)(hf:(file:Int)=d.last+1)
  (hl:Left d (2*rows.length+((P0*(rows.length+1)+m0)+1)) (rows.length+j0+1)) (hP:1000000000<=P0+j0) (hPj:P0+jb<=j0) (hPs:P0<=900000) (hlast:d.last<=900000000) :
  Calls prog 81 #[.pointer (some ⟨q,0,none⟩),.func (.func 132) #[] #[.pointer (some ⟨bq,0,none⟩),.pointer (some ⟨bk,0,none⟩),.pointer (some ⟨bc,0,none⟩),.pointer (some ⟨bl,0,none⟩)]] w λe w'=>∃br r g cap,e=.returned (.func (.func 115) #[] #[.pointer (some ⟨br,0,none⟩)])/\Waits w' q (.slice tO tn tc) blk fan bud bx file br r g cap/\(∃d2 M2,PD w' bx bm d2 M2/\Di d2/\(blk:Int)<=d2.block/\Left d2 m0 jb/\Hi bm (dI bx bm M2))/\KQ bm q w w':=by
 have hbm:bm<w.heap.size:=h.pd.lt bm (by simp);refine stored_none w q bx bm blk fan bud 132 file kn tO tn tc _ d M ksT rows m0 jb hQ h.pd h.ok hlast hf h.nU.b1 hbq h.hi (enters_of func132 (by kernel_rfl) rfl) ?_;intro W d1 M1 pd1 ok1 hst e1 e2 e3 e4 hk ⟨g,cap,hQW⟩;have tg:∀t∈([159,165,74,3,73,36,83,85]:List TypeId),KT t w W:=λt ht=>by
  have h1:=(by decide:∀t∈([159,165,74,3,73,36,83,85]:List TypeId),t∉OT/\t≠5/\(162:TypeId)≠t) t ht;exact hk.tag hQ h1.1 h1.2.1 h1.2.2
 have oks:=ok1.self;have hhi:Hi bm (dI bx bm M1):=by unfold dI;rw[e4];exact h.hi
 have hb3:(blk:Int)<=d1.block:=by rw[hst.block];exact h.b3
 have tab:TB W c sv vs rows:=⟨tg 36 (by decide) _ _ _ hc,h.list.keep (tg 83 (by decide)),h.len,λi a b=>Sl3.keep (h.rW i a b) (tg 85 (by decide))⟩;have keysW:KA W nt.kv ksT:=Sl3.keep keys (tg 73 (by decide));have hl1:Left d1 (2*rows.length+((P0*(rows.length+1)+m0)+1)) (rows.length+j0):=by
  obtain⟨a,b,c,e⟩:=hl;have hbs:=hst.blocks;exact⟨by omega,by omega,by omega,by omega⟩
 have hbW:=hk.low.size;have y1:=tg 159 (by decide) _ _ _ z1;have y2:=tg 165 (by decide) _ _ _ z2;have y3:=tg 74 (by decide) _ _ _ z3;have y4:=tg 3 (by decide) _ _ _ z4;clear hst ok1 h hl
 letI:Inhabited Ground:=⟨⟨d1.last,gq d1.files⟩⟩
 refine sab [] W bq bk bc bl q _ _ nt.kv 162 _ bx bm blk fan bud 0 kn ksT (λl=>l=rows) (dI bx bm M1) m0 jb ⟨y1,hQW,y3,keysW.slice,y4,y2,by have:=num.b1;omega,num.bud2⟩ (enters_of func162 (by kernel_rfl) rfl) (by simp) (by omega) (λwc ps bs ph p4 p5 p6 t s1 s2=>?_);exact val_end p4 p5 p6 (keysW.touch t) s1 s2 t.size (by omega) (tab.quiet t) num (pd1.away t (by simp)) oks hb3 hhi (λk hk=>.inr hk) hl1 hP hPj hPs []
end
end Go.Proofs.YtjoinhljdbljaaaGreat
