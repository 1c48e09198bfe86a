/- What the steps of spill do, and what follows. -/
import Derived.Test.YtjoinhljdbljaaaGreatRunEToSrtE
set_option maxHeartbeats 2000000
set_option maxRecDepth 20000
set_option linter.unusedSectionVars false
namespace Go.Proofs.YtjoinhljdbljaaaGreat
open Go.RowKit Go.Proofs.Tryz
variable [Inhabited Ground]
variable {B aC al blk bm bs bx cols j k m ps:Nat} {L L1:List EV} {M M' M2 M3:List PF} {W Wb a b c w w' w1 w2 w3 w4 w5 w6 wx:World} {an asz au:Int} {ao:Option Addr} {cur' rows:List Rec} {d d' d2 d3:DS} {hv hv1 v v':Value} {ks:List K} {lr:Rec} {o:Option RI} {pR pre pre2:List RI} {s s1 s3:SC} {x:EV} {x3 y:RI}
structure Same (s s':SC):Prop where
 bx:s'.bx=s.bx
 blk:s'.blk=s.blk
 kv:s'.kv=s.kv
 count:s'.count=s.count
 most:s'.most=s.most
 fan:s'.fan=s.fan
 ph:s'.ph=s.ph
 came:s'.came=s.came
 mg:s'.mg=s.mg
 given:s'.given=s.given
theorem Same.refl (s:SC):Same s s:=⟨rfl,rfl,rfl,rfl,rfl,rfl,rfl,rfl,rfl,rfl⟩
theorem Same.trans {a b c:SC}(h:Same a b)(k:Same b c):Same a c:=⟨k.bx.trans h.bx,k.blk.trans h.blk,k.kv.trans h.kv,k.count.trans h.count,k.most.trans h.most,k.fan.trans h.fan,k.ph.trans h.ph,k.came.trans h.came,k.mg.trans h.mg,k.given.trans h.given⟩
def Sub (w:World)(F' F:List Nat):Prop:=∀k∈F',k∈F\/w.heap.size<=k
theorem Sub.refl (w:World)(F:List Nat):Sub w F F:=λ_ h=>.inl h
theorem Sub.trans {A B C:List Nat}(h:Sub w B A)(k:Sub w' C B)(hs:w.heap.size<=w'.heap.size):Sub w C A:=λi hi=>by
 rcases k i hi with hi|hi
 ·exact h i hi
 ·exact .inr (k_ hs hi)
theorem He.map {α β:Type}{lt:β->β->Bool}(f:α->β){l:List α}(h:He (λa b=>lt (f a) (f b)) l):He lt (l.map f):=λi hi h0=>by
 have:=h i (by simpa using hi) h0;simpa using this
theorem haC (h:He (lT ks) L):He (lN ks) (L.map Prod.fst):=He.map Prod.fst h
theorem RS.added {x:RI}{y:Rec}{cs':List (List Rec)}(h:RS w bx bm blk cols d M pre (some x))(hy:Rh blk cols y)(hn:x.recs.length<1000000)(hE:Rn w' x.r bx blk x.file cols v' cs' cur' d')(hr:cs'.flatten++cur'=x.cs.flatten++x.cur++[y])
  (hW:Wrote w w' bx bm d M x.file (textsOf x.file cs') d' M' k) (t:TU (x.r::dI bx bm M) w w'):RS w' bx bm blk cols d' M' pre (some ⟨x.r,x.file,cols,v',cs',cur'⟩):=by
 have hrec:RI.recs ⟨x.r,x.file,cols,v',cs',cur'⟩=x.recs++[y]:=by simp[RI.recs,hr]
 have hxm:x∈pre++(some x).toList:=by simp
 have hfne:∀y∈pre,y.file≠x.file:=λy hy=>by
  have:=h.files;simp only[w_,Option.toList_some,List.map_cons,List.map_nil]at this;exact nodup_last this _ (T_ hy)
 have hsub:∀z∈pre++(some (⟨x.r,x.file,cols,v',cs',cur'⟩:RI)).toList,z∈pre\/z=⟨x.r,x.file,cols,v',cs',cur'⟩:=λz hz=>by
  rcases d_.1 hz with hz|hz
  ·exact .inl hz
  ·exact .inr (by simpa using hz)
 refine⟨hW.pd,hW.step.ok,λz hz=>?_,λz hz=>by simp at hz;subst hz;exact hE,?_,λz hz u hu=>?_,λz hz=>?_,λz hz=>?_,λz hz hn=>?_,by have:=hW.step.block;have:=h.block;omega,h.b2,h.b1,h.c2⟩
 ·refine(h.done z hz).keep t (λe=>?_) hW.step (by have:=hfne z hz;omega);rcases a_.1 e with e|e
  ·exact hfne z hz (h.boxes (by simp[hz]) hxm e)
  ·exact h.r_disk (by simp[hz]) e
 ·have:=h.files;simpa using this
 ·rcases hsub z hz with hz|rfl
  ·exact h.recs z (by simp[hz]) u hu
  ·rw[hrec]at hu;rcases d_.1 hu with hu|hu
   ·exact h.recs x hxm u hu
   ·rw[ms_ hu];exact hy
 ·rcases hsub z hz with hz|rfl
  ·rw[hW.last];exact h.known z (by simp[hz])
  ·rw[hW.last];exact h.known x hxm
 ·rcases hsub z hz with hz|rfl
  ·exact h.len z (by simp[hz])
  ·rw[hrec,c_,List.length_singleton];refine⟨?_,by omega⟩;have h1:=len_flatten (λc hc=>(hE.full c hc).1);have h2:=congrArg List.length hr;simp only[c_,List.length_singleton]at h2;simp only[RI.recs,c_];show cs'.length<=_;omega
 ·rcases hsub z hz with hz|rfl
  ·exact h.col z (by simp[hz]) hn
  ·rfl
section
variable {w w':World} {ps bs:Nat} {s:SC} {hv:Value} {ks:List K} {L:List EV} {bm cols:Nat} {d:DS} {M:List PF} {pre:List RI} {o:Option RI}
theorem sbEndRun_any (m j:Nat)(h:SB w ps bs s hv ks L bm cols d M pre o)(hn:o=none->pre=[])(hl:Left d (m+1) j) :
  Calls prog 197 #[.pointer (some ⟨ps,0,none⟩)] w λe w'=>e=.returned (.tuple #[])/\∃pre' d' M',SB w' ps bs s hv ks L bm cols d' M' pre' none/\pre'.map RI.recs=(pre++o.toList).map RI.recs/\pre'.map RI.r=(pre++o.toList).map RI.r/\Left d' m j/\d'.last=d.last/\Sub w (rowsOf M') (rowsOf M)/\Touch (rF s.bx bm M (pre++o.toList)) w w':=by
 cases o with
 | none=>
  have hp:=hn rfl;subst hp;have hv0:∃ao cap,s.rv=.slice ao 0 cap:=by
   rcases h.own.shape with⟨e,_⟩|⟨g,cap,cur,e,hh,hc,hm,hsz,hx⟩
   ·exact⟨_,_,e⟩
   ·exact⟨_,_,e⟩
  obtain⟨ao,cap,hv0⟩:=hv0;refine(endRun_none w ps s ao cap h.sorter hv0).mono ?_;rintro e w' ⟨rfl,rfl⟩;exact⟨rfl,[],d,M,h,rfl,rfl,hl.mono (by omega) (e_ _),rfl,Sub.refl _ _,Touch.refl _ _⟩
 | some x=>
  refine(endRun_some w ps bm cols m j s d M pre x h.sorter h.own h.runs hl).mono ?_;rintro e w' ⟨rfl,x',d',M',p1,p2,p3,p4,p5,p6,p7,p8⟩;have hsub:∀k∈x.r::dI s.bx bm M,k∈rF s.bx bm M (pre++(some x).toList):=λk hk=>by
   rcases a_.1 hk with rfl|hk
   ·simp[rF]
   ·simp only[rF,d_];exact .inr hk
  refine⟨rfl,pre++[x'],d',M',h.turnRuns p8.u (λk hk=>.inl (hsub k hk)) p5 ?_,?_,?_,p6,p4,p7,p8.mono hsub⟩
  ·simp[RI.ptr,p1]
  ·simp[p3]
  ·simp[p1]
theorem sbNew_any (m j:Nat)(h:SB w ps bs s hv ks L bm cols d M pre none)(hl:Left d m (j+1)) :
  Calls prog 112 #[.agg #[.pointer (some ⟨s.bx,0,none⟩),.int .i64 (s.blk:Int)]] w λe w'=>∃x:RI,e=.returned x.ptr/\w.heap.size<=x.r/\x.recs=[]/\∃d' M',RS w' s.bx bm s.blk cols d' M' pre (some x)/\Left d' m j/\d'.last=d.last+1/\rowsOf M'=rowsOf M/\Touch [s.bx,bm] w w':=by
 have h1:=hl.last;have h2:=h.runs.ok.last;obtain⟨file,hf⟩:∃file:Nat,(file:Int)=d.last+1:=⟨(d.last+1).toNat,by omega⟩;refine(sad w s.bx bm s.blk file d M h.runs.pd h.runs.ok (by omega) hf h.runs.b1).mono ?_;rintro e w' ⟨r,rfl,hr,d',M',p1,p2,p3,p4,p5,p6,p7,p8,p9⟩;refine⟨⟨r,file,0,.slice none 0 0,[],[]⟩,rfl,hr,rfl,d',M',h.runs.fresh p1 p2 p3 p4 hf p9,?_,p4,p8,p9⟩;obtain⟨a,b,c,e⟩:=hl;have:=p3.blocks;exact⟨by omega,by omega,by omega,by omega⟩
theorem sbAdd_any (m j:Nat){x:RI}(y:Rec)(rv:Value)(h:SB w ps bs s hv ks L bm cols d M pre (some x))(hy:Rh s.blk cols y)(hrow:Ro w rv y.row)(hn:x.recs.length<1000000)(hl:Left d (m+1) j) :
  Calls prog 113 #[x.ptr,.agg #[.int .i64 y.no,rv]] w λe w'=>e=.returned (.tuple #[])/\∃(x':RI) (d':DS) (M':List PF),SB w' ps bs s hv ks L bm cols d' M' pre (some x')/\x'.r=x.r/\x'.recs=x.recs++[y]/\Left d' m j/\d'.last=d.last/\Sub w (rowsOf M') (rowsOf M)/\TU (rF s.bx bm M (pre++[x])) w w':=by
 have hxm:x∈pre++(some x).toList:=by simp
 have h1:=hl.last;have h2:=h.runs.known x hxm;have h3:=h.runs.len x hxm;refine(add_any w x.r s.bx bm s.blk x.file cols x.cols x.v rv x.cs x.cur y d M (h.runs.opn x rfl) h.runs.pd h.runs.ok hrow hy (λz hz=>h.runs.recs x hxm z hz) h.runs.c2 h.runs.block h.runs.b2 (by omega) (by omega) (hl.mono (by omega) (e_ _):Left d 1 j).roomy).mono ?_;rintro e w' ⟨rfl,v',cs',cur',d',M',k,hk,p1,p2,p3,p4,p5⟩;have hsub:∀k∈x.r::dI s.bx bm M,k∈rF s.bx bm M (pre++(some x).toList):=λk hk=>by
  rcases a_.1 hk with rfl|hk
  ·simp[rF]
  ·simp only[rF,d_];exact .inr hk
 refine⟨rfl,⟨x.r,x.file,cols,v',cs',cur'⟩,d',M',h.turnRuns p5 (λk hk=>.inl (hsub k hk)) (h.runs.added hy hn p1 p2 p4 p5) ?_,rfl,?_,(hl.mono (by omega) (e_ _):Left d (m+k) j).wrote p4,p4.last,p4.rows,p5.mono hsub⟩
 ·simp[RI.ptr]
 ·simp only[RI.recs];exact p2
end
structure SS (w:World)(ps bs:Nat)(s:SC)(hv:Value)(ks:List K)(L:List EV)(bm cols:Nat)(d:DS)(M:List PF)(pre:List RI)(o:Option RI)(rows:List Rec)(lr:Rec):Prop where
 sb:SB w ps bs s hv ks L bm cols d M pre o
 lists:SI ks s.count rows (L.map Prod.fst) s.run ((pre++o.toList).map RI.recs) lr
 last:pre++o.toList≠[]->lr.no=s.lno/\Ro w s.lv lr.row/\AB ks lr.row
 length:∀x,o=some x->s.length=x.recs.length
 none:o=none->pre=[]
 few:rows.length<=100000
 most:∀x∈pre++o.toList,x.recs.length<=s.count
 run:0<=s.run/\s.run<=d.last
 many:((pre++o.toList).length:Int)<=d.last
theorem SB.lt {w:World}{ps bs:Nat}{s:SC}{hv:Value}{ks:List K}{L:List EV}{bm cols:Nat}{d:DS}{M:List PF}{pre:List RI}{o:Option RI}(h:SB w ps bs s hv ks L bm cols d M pre o):∀k∈sbF ps s hv bm M (pre++o.toList),k<w.heap.size:=by
 intro k hk;simp only[sbF,h_,rF,a_,d_,z_,bb_]at hk;rcases hk with rfl|((rfl|hk)|hk)|⟨x,hx,rfl⟩|hk
 ·exact(agi.1 h.sorter).1
 ·exact(agi.1 h.heap.head).1
 ·obtain⟨cs,f,hc⟩:=h.heap.items.tag k hk;exact(agi.1 hc).1
 ·obtain⟨cs,hc⟩:=h.own.block k hk;exact(agi.1 hc).1
 ·obtain⟨n,v,hc⟩:=h.runs.cell (x:=x) (by simpa using hx);exact(agi.1 hc).1
 ·exact h.runs.pd.lt k hk
def Eo (w:World)(B:Nat)(an:Int)(ao:Option Addr)(al aC:Nat)(au asz:Int):Prop:=w.heap[B]?=some (.cells #[.int .i64 an,.slice ao al aC,.int .i64 au,.int .i64 asz] 263 (0,0))
structure Mid (w:World)(ps bs:Nat)(s:SC)(hv:Value)(ks:List K)(bm cols:Nat)(M:List PF)(R:List RI)(rows:List Rec)(m j:Nat)(hv1:Value)(L1:List EV)(x:EV)(B:Nat)(an:Int)(ao:Option Addr)(al aC:Nat)(au asz:Int)(s3:SC)(d3:DS)(M3:List PF)(pR:List RI)(x3:RI)(wx:World):Prop where
 sb:SB wx ps bs s3 hv1 ks L1 bm cols d3 M3 pR (some x3)
 lists:s3.length<s3.count->SI ks s3.count rows (L1.map Prod.fst) s3.run (pR.map RI.recs++[x3.recs++[x.1.rc]]) x.1.rc
 skip:s3.count<=s3.length->SI ks s3.count rows (L1.map Prod.fst) s3.run (pR.map RI.recs++[x3.recs]) x.1.rc
 most:∀x∈pR++[x3],x.recs.length<=s3.count
 length:s3.length=x3.recs.length
 same:Same s s3
 left:Left d3 (m+1) j
 row:Ro wx x.2 x.1.rc.row
 touch:TU (sbF ps s hv bm M R) w wx
 sub:Sub w (sbF ps s3 hv1 bm M3 (pR++[x3])) (sbF ps s hv bm M R)
 run:0<=s3.run/\s3.run<=d3.last
 many:((pR++[x3]).length:Int)<=d3.last
 box:Eo wx B an ao al aC au asz
 new:w.heap.size<=B
 far:B∉sbF ps s3 hv1 bm M3 (pR++[x3])
theorem TU.onto {F G:List Nat}(h:TU F a b)(k:TU G b c)(hG:∀i∈G,i∈F\/a.heap.size<=i):TU F a c:=h.more k hG
theorem mid_fresh 
  (hS:SS w ps bs s hv ks L bm cols d M pre o rows lr) (h0:L[0]?=some x) (hp:(x::L1).Perm L) (ok1:SB w1 ps bs s1 hv1 ks L1 bm cols d M pre o) (same:Same s s1) (hrow:Ro w1 x.2 x.1.rc.row) (t1:Touch (ps::h_ s.ph hv) w w1) (hF:sbF ps s1 hv1 bm M (pre++o.toList)=sbF ps s hv bm M (pre++o.toList)) (hc:(pre++o.toList).length=0\/s.run<x.1.run) (harun:x.1.run=au)
  (tb:Touch [] w1 Wb) (hWb:w1.heap.size<Wb.heap.size) (r2:pre2.map RI.recs=(pre++o.toList).map RI.recs) (r3:pre2.map RI.r=(pre++o.toList).map RI.r) (r5:d2.last=d.last) (r6:Sub Wb (rowsOf M2) (rowsOf M)) (r7:Touch (rF s1.bx bm M (pre++o.toList)) Wb w2)
  (y1:w2.heap.size<=y.r) (y2:y.recs=[]) (y4:Left d3 (m+1) j) (y5:d3.last=d2.last+1) (y6:rowsOf M3=rowsOf M2) (sb5:SB w5 ps bs { s1 with rv:=v' } hv1 ks L1 bm cols d3 M3 pre2 (some y)) (t5:Touch (ps::s1.bx::bm::s1.rv.ownBlock.toList) w2 w5) (hat:∀g,v'.ownBlock=some g->s1.rv.ownBlock=some g\/w2.heap.size<=g) (box5:Eo w5 w1.heap.size an ao al aC au asz) :
  Mid w ps bs s hv ks bm cols M (pre++o.toList) rows m j hv1 L1 x w1.heap.size an ao al aC au asz { s1 with rv:=v',run:=au,length:=0 } d3 M3 pre2 y ((w5.setCell ⟨ps,9,none⟩ (.int .i64 au)).setCell ⟨ps,10,none⟩ (.int .i64 0)):=by
 have t6:Touch [ps] w5 ((w5.setCell ⟨ps,9,none⟩ (.int .i64 au)).setCell ⟨ps,10,none⟩ (.int .i64 0)):=((Touch.refl [ps] w5).setCell (p:=⟨ps,9,none⟩) (by simp) _).setCell (p:=⟨ps,10,none⟩) (by simp) _;have hS6:Sr ((w5.setCell ⟨ps,9,none⟩ (.int .i64 au)).setCell ⟨ps,10,none⟩ (.int .i64 0)) ps { s1 with rv:=v',run:=au,length:=0 }:=(sb5.sorter.setRun au).setLength 0;have sb6:=sb5.cells hS6 t6 rfl rfl rfl rfl rfl rfl;have hr:Sub Wb (sbF ps { s1 with rv:=v',run:=au,length:=0 } hv1 bm M3 (pre2++[y])) (sbF ps s1 hv1 bm M (pre++o.toList)):=by
  intro k hk;simp only[sbF,rF,dI,w_,List.map_cons,List.map_nil,a_,d_,i_,or_false,bb_]at hk ⊢;rcases hk with hk|(hk|hk)|(hk|hk)|hk|hk|hk
  ·exact .inl (.inl hk)
  ·exact .inl (.inr (.inl (.inl hk)))
  ·rcases hat k hk with h|h
   ·exact .inl (.inr (.inl (.inr h)))
   ·exact .inr (k_ r7.size h)
  ·rw[r3,w_]at hk;exact .inl (.inr (.inr (.inl (d_.1 hk))))
  ·exact .inr (by rw[hk];exact k_ r7.size y1)
  ·exact .inl (.inr (.inr (.inr (.inl hk))))
  ·exact .inl (.inr (.inr (.inr (.inr (.inl hk)))))
  ·rw[y6]at hk;rcases r6 k hk with h|h
   ·exact .inl (.inr (.inr (.inr (.inr (.inr h)))))
   ·exact .inr h
 have T16:TU (sbF ps s1 hv1 bm M (pre++o.toList)) w1 ((w5.setCell ⟨ps,9,none⟩ (.int .i64 au)).setCell ⟨ps,10,none⟩ (.int .i64 0)):=by
  refine((((tb.mono (by simp)).trans (r7.mono (λk hk=>?_))).trans (t5.mono (λk hk=>?_))).trans (t6.mono (by simp[sbF]))).u
  ·simp only[sbF,a_,d_];exact .inr (.inr hk)
  ·simp only[a_]at hk;simp only[sbF,rF,dI,a_,d_];rcases hk with hk|hk|hk|hk
   ·exact .inl hk
   ·exact .inr (.inr (.inr (.inl hk)))
   ·exact .inr (.inr (.inr (.inr (.inl hk))))
   ·exact .inr (.inl (.inr hk))
 have hx1:=hS.lists.who x.1 (T_ (v_ h0));have hrun:=hS.run;refine⟨sb6,λ_=>?_,λhz=>?_,λz hz=>?_,?_,⟨same.bx,same.blk,same.kv,same.count,same.most,same.fan,same.ph,same.came,same.mg,same.given⟩,y4,Sl3.keep hrow (T16.tag (by decide) (ok1.nT (by decide) (by decide) (by decide) (by decide) (by decide) (by decide) (by decide))),?_,λk hk=>?_,⟨?_,?_⟩,?_,?_,t1.size,λe=>?_⟩
 ·have:=hS.lists.fresh (e:=x.1) (rest:=L1.map Prod.fst) (by simp[h0]) (by simpa using hp.map Prod.fst) (haC sb5.heap.ok) (by
   rcases hc with hc|hc
   ·left;rw[D_.1 hc];rfl
   ·exact .inr hc)
  rw[r2,y2];rw[harun,<-same.count]at this;exact this
 ·have:=hS.lists.fresh0 (e:=x.1) (rest:=L1.map Prod.fst) (by simp[h0]) (by simpa using hp.map Prod.fst) (haC sb5.heap.ok) (by
   rcases hc with hc|hc
   ·left;rw[D_.1 hc];rfl
   ·exact .inr hc) (by have h1:=same.count;have h2:s1.count<=0:=hz;omega)
  rw[r2,y2];rw[harun,<-same.count]at this;exact this
 ·show z.recs.length<=s1.count;rw[same.count];rcases d_.1 hz with hz|hz
  ·have h1:z.recs∈pre2.map RI.recs:=T_ hz;rw[r2]at h1;obtain⟨u,hu,e⟩:=z_.1 h1;rw[<-e];exact hS.most u hu
  ·rw[ms_ hz,y2];exact x_ _
 ·show 0=y.recs.length;rw[y2];rfl
 ·rw[<-hF];exact((t1.mono (λk hk=>by rw[hF];simp only[sbF,a_,d_]at hk ⊢;rcases hk with hk|hk;exact .inl hk;exact .inr (.inl (.inl hk)))).u).trans T16
 ·rcases hr k hk with h|h
  ·exact .inl (by rw[<-hF];exact h)
  ·exact .inr (k_ t1.size (k_ tb.size h))
 ·show 0<=au;omega
 ·show au<=d3.last;omega
 ·have h1:=congrArg List.length r3;rw[u_,u_]at h1;have:=hS.many;rw[c_,List.length_singleton];omega
 ·unfold Eo at box5 ⊢;exact t6.u.keep box5 (by decide) (λe=>by
   have:=(agi.1 ok1.sorter).1;rw[<-ms_ e]at this;omega)
 ·rcases hr _ e with h|h
  ·have:=ok1.lt _ h;omega
  ·omega
theorem mid_same 
  (hS:SS w ps bs s hv ks L bm cols d M pre o rows lr) (h0:L[0]?=some x) (hl:Left d (m+2) (j+1)) (hp:(x::L1).Perm L) (ok1:SB w1 ps bs s1 hv1 ks L1 bm cols d M pre o) (same:Same s s1) (hrun1:s1.run=s.run) (hlen1:s1.length=s.length) (hrow:Ro w1 x.2 x.1.rc.row) (t1:Touch (ps::h_ s.ph hv) w w1) (hF:sbF ps s1 hv1 bm M (pre++o.toList)=sbF ps s hv bm M (pre++o.toList)) (hc:¬((pre++o.toList).length=0\/s.run<x.1.run))
  (tb:Touch [] w1 Wb) (hb:Eo Wb w1.heap.size an ao al aC au asz) :
  ∃s3 d3 M3 pR x3,Mid w ps bs s hv ks bm cols M (pre++o.toList) rows m j hv1 L1 x w1.heap.size an ao al aC au asz s3 d3 M3 pR x3 Wb:=by
 cases o with
 | none=>
  have:=hS.none rfl;subst this;exact absurd (.inl rfl) hc
 | some x3=>
  refine⟨s1,d,M,pre,x3,ok1.quiet tb (by simp) (λk hk=>by simp at hk) (λk hk=>by simp at hk) (λk hk=>by simp at hk) (λk hk=>by simp at hk),λ_=>?_,λhz=>?_,λz hz=>by rw[same.count];exact hS.most z (by simpa using hz),?_,same,hl.mono (by omega) (by omega),hrow.touch tb,?_,λk hk=>.inl ?_,?_,hS.many,hb,t1.size,λe=>?_⟩
  ·have:=hS.lists;rw[w_]at this;have:=this.same (e:=x.1) (rest:=L1.map Prod.fst) (by simp[h0]) (by simpa using hp.map Prod.fst) (haC ok1.heap.ok) (λh=>hc (.inr h));rw[hrun1,same.count];exact this
  ·have h1:=hS.lists;rw[w_]at h1;have:=h1.skip (e:=x.1) (rest:=L1.map Prod.fst) (by simp[h0]) (by simpa using hp.map Prod.fst) (haC ok1.heap.ok) (λh=>hc (.inr h)) (by have h1:=hS.length x3 rfl;have h2:=same.count;omega);rw[hrun1,same.count];exact this
  ·rw[hlen1];exact hS.length x3 rfl
  ·rw[<-hF];exact((t1.mono (λk hk=>by rw[hF];simp only[sbF,a_,d_]at hk ⊢;rcases hk with hk|hk;exact .inl hk;exact .inr (.inl (.inl hk)))).trans (tb.mono (by simp))).u
  ·rw[<-hF];exact hk
  ·rw[hrun1];exact hS.run
  ·have:=ok1.lt _ e;omega
theorem mid_count 
  (hS:SS w ps bs s hv ks L bm cols d M pre o rows lr) (hM:Mid w ps bs s hv ks bm cols M (pre++o.toList) rows m j hv1 L1 x B an ao al aC au asz s3 d3 M3 pR x3 wx) (hlt:s3.length<s3.count):x3.recs.length<100000:=by
 have h1:=(hM.lists hlt).perm.len;simp only[c_,u_,ab_,List.flatten_cons,List.flatten_nil,List.length_nil,List.length_cons]at h1;have h2:=hS.few;omega
theorem mid_end {n:Nat}{x':RI}
  (hS:SS w ps bs s hv ks L bm cols d M pre o rows lr) (h0:L[0]?=some x) (hx:x.2=.slice ao al aC) (han:x.1.rc.no=an) (hM:Mid w ps bs s hv ks bm cols M (pre++o.toList) rows m j hv1 L1 x B an ao al aC au asz s3 d3 M3 pR x3 wx)
  (q1:SB w6 ps bs { s3 with lno:=an,lv:=.slice ao al aC } hv1 ks L1 bm cols d' M' pR (some x')) (q2:x'.r=x3.r) (q3:x'.recs=x3.recs++[x.1.rc]) (q4:Left d' m j) (q5:d'.last=d3.last) (q6:Sub wx (rowsOf M') (rowsOf M3)) (q7:TU (ps::rF s3.bx bm M3 (pR++[x3])) wx w6) (hn:n=s3.length+1) (hlt:s3.length<s3.count) (hp:(x::L1).Perm L) :
  SS (w6.setCell ⟨ps,10,none⟩ (.int .i64 (n:Int))) ps bs { s3 with lno:=an,lv:=.slice ao al aC,length:=n } hv1 ks L1 bm cols d' M' pR (some x') rows x.1.rc/\Same s { s3 with lno:=an,lv:=.slice ao al aC,length:=n }/\L1.length+1=L.length/\Left d' m j/\TU (sbF ps s hv bm M (pre++o.toList)) w (w6.setCell ⟨ps,10,none⟩ (.int .i64 (n:Int)))/\Sub w (sbF ps { s3 with lno:=an,lv:=.slice ao al aC,length:=n } hv1 bm M' (pR++[x'])) (sbF ps s hv bm M (pre++o.toList)):=by
 have t7:Touch [ps] w6 (w6.setCell ⟨ps,10,none⟩ (.int .i64 (n:Int))):=(Touch.refl [ps] w6).setCell (p:=⟨ps,10,none⟩) (by simp) _;have hS7:=q1.sorter.setLength n;have sb7:=q1.cells hS7 t7 rfl rfl rfl rfl rfl rfl;have hsub3:∀k∈ps::rF s3.bx bm M3 (pR++[x3]),k∈sbF ps s3 hv1 bm M3 (pR++[x3]):=λk hk=>by
  simp only[sbF,a_,d_]at hk ⊢;rcases hk with hk|hk
  ·exact .inl hk
  ·exact .inr (.inr hk)
 have T:TU (sbF ps s3 hv1 bm M3 (pR++[x3])) wx (w6.setCell ⟨ps,10,none⟩ (.int .i64 (n:Int))):=(q7.mono hsub3).trans ((t7.mono (by simp[sbF])).u);have hsame:Same s { s3 with lno:=an,lv:=.slice ao al aC,length:=n }:=⟨hM.same.bx,hM.same.blk,hM.same.kv,hM.same.count,hM.same.most,hM.same.fan,hM.same.ph,hM.same.came,hM.same.mg,hM.same.given⟩;refine⟨⟨sb7,?_,λ_=>⟨han,?_,(hS.sb.heap.rows x (v_ h0)).2⟩,λz hz=>?_,by simp,hS.few,?_,?_,?_⟩,hsame,?_,q4,hM.touch.onto T hM.sub,λk hk=>?_⟩
 ·have:=hM.lists hlt;rw[<-q3]at this;simpa using this
 ·show Ro _ (.slice ao al aC) _;rw[<-hx];exact Sl3.keep hM.row (T.tag (by decide) (hM.sb.nT (by decide) (by decide) (by decide) (by decide) (by decide) (by decide) (by decide)))
 ·simp at hz;subst hz;show n=_;rw[q3,c_,List.length_singleton,hn,hM.length]
 ·intro z hz;show z.recs.length<=s3.count;rcases d_.1 hz with hz|hz
  ·exact hM.most z (by simp[hz])
  ·simp at hz;subst hz;have:=hM.length;rw[q3,c_,List.length_singleton];omega
 ·show 0<=s3.run/\s3.run<=d'.last;rw[q5];exact hM.run
 ·rw[q5];have:=hM.many;simpa using this
 ·have:=hp.length_eq;simpa using this
 ·have h1:k∈sbF ps s3 hv1 bm M3 (pR++[x3])\/wx.heap.size<=k:=by
   simp only[sbF,rF,dI,w_,List.map_cons,List.map_nil,a_,d_,i_,or_false]at hk ⊢;rcases hk with hk|hk|(hk|hk)|hk|hk|hk
   ·exact .inl (.inl hk)
   ·exact .inl (.inr (.inl hk))
   ·exact .inl (.inr (.inr (.inl (.inl hk))))
   ·exact .inl (.inr (.inr (.inl (.inr (by rw[<-q2];exact hk)))))
   ·exact .inl (.inr (.inr (.inr (.inl hk))))
   ·exact .inl (.inr (.inr (.inr (.inr (.inl hk)))))
   ·rcases q6 k hk with h|h
    ·exact .inl (.inr (.inr (.inr (.inr (.inr h)))))
    ·exact .inr h
  rcases h1 with h|h
  ·exact hM.sub k h
  ·exact .inr (k_ hM.touch.size h)
theorem mid_skip 
  (hS:SS w ps bs s hv ks L bm cols d M pre o rows lr) (h0:L[0]?=some x) (hx:x.2=.slice ao al aC) (han:x.1.rc.no=an) (hM:Mid w ps bs s hv ks bm cols M (pre++o.toList) rows m j hv1 L1 x B an ao al aC au asz s3 d3 M3 pR x3 wx) (hge:s3.count<=s3.length) (hp:(x::L1).Perm L) (hW:Touch [] ((wx.setCell ⟨ps,11,none⟩ (.int .i64 an)).setCell ⟨ps,12,none⟩ (.slice ao al aC)) W) :
  SS W ps bs { s3 with lno:=an,lv:=.slice ao al aC } hv1 ks L1 bm cols d3 M3 pR (some x3) rows x.1.rc/\Same s { s3 with lno:=an,lv:=.slice ao al aC }/\L1.length+1=L.length/\Left d3 m j/\TU (sbF ps s hv bm M (pre++o.toList)) w W/\Sub w (sbF ps { s3 with lno:=an,lv:=.slice ao al aC } hv1 bm M3 (pR++[x3])) (sbF ps s hv bm M (pre++o.toList)):=by
 have t7:Touch [ps] wx ((wx.setCell ⟨ps,11,none⟩ (.int .i64 an)).setCell ⟨ps,12,none⟩ (.slice ao al aC)):=((Touch.refl [ps] wx).setCell (p:=⟨ps,11,none⟩) (by simp) _).setCell (p:=⟨ps,12,none⟩) (by simp) _;have t8:Touch [ps] wx W:=t7.trans (hW.mono (by simp));have sb7:=(hM.sb.cells ((hM.sb.sorter.setLno an).setLv (.slice ao al aC)) t7 rfl rfl rfl rfl rfl rfl).quiet hW (by simp) (λk hk=>by simp at hk) (λk hk=>by simp at hk) (λk hk=>by simp at hk) (λk hk=>by simp at hk);refine⟨⟨sb7,?_,λ_=>⟨han,?_,(hS.sb.heap.rows x (v_ h0)).2⟩,λz hz=>?_,by simp,hS.few,hM.most,hM.run,hM.many⟩,⟨hM.same.bx,hM.same.blk,hM.same.kv,hM.same.count,hM.same.most,hM.same.fan,hM.same.ph,hM.same.came,hM.same.mg,hM.same.given⟩,by simpa using hp.length_eq,hM.left.mono (by omega) (e_ _),hM.touch.onto (t8.mono (F':=sbF ps s3 hv1 bm M3 (pR++[x3])) (by simp[sbF])).u hM.sub,hM.sub⟩
 ·have:=hM.skip hge;simpa using this
 ·show Ro _ (.slice ao al aC) _;rw[<-hx];exact Sl3.keep hM.row (t8.tag (nO (t:=85) hM.sb.sorter (by decide)))
 ·simp at hz;subst hz;exact hM.length
theorem bg {a:Value}{t:TypeId}(h:w.heap[k]?=some (.cells #[a] t (0,0))):w.cell? ⟨k,0,none⟩=some a:=by simp[World.cell?,h]
theorem push_mid4 {ob:Obj}(h:SB w2 ps bs s1 hv ks L bm cols d2 M2 pre2 none)(hB:Eo w2 B an ao al aC au asz)(hv0:s1.rv=v)(hR3:RS w3 s1.bx bm s1.blk cols d3 M3 pre2 (some y))(t3:Touch [s1.bx,bm] w2 w3)(hP:PW w4 v' (pre2++[y]))(hG:(w3.alloc ob).grownBy w4 v.ownBlock) :
  Sr w4 ps s1/\SB (w4.setCell ⟨ps,13,none⟩ v') ps bs { s1 with rv:=v' } hv ks L bm cols d3 M3 pre2 (some y)/\Touch (ps::s1.bx::bm::s1.rv.ownBlock.toList) w2 (w4.setCell ⟨ps,13,none⟩ v')/\Eo w4 B an ao al aC au asz/\Eo (w4.setCell ⟨ps,13,none⟩ v') B an ao al aC au asz:=by
 subst hv0;have t4:Touch s1.rv.ownBlock.toList w3 w4:=((Touch.refl s1.rv.ownBlock.toList w3).alloc ob).grown hG (λk hk=>by simp[hk]);obtain⟨h1,h2,h3⟩:=h.pushRun hR3 t3 t4 hP;have hBS:B≠ps:=λe=>by
  have:=h.sorter;unfold Sr at this;unfold Eo at hB;rw[e,this]at hB;simp at hB
 have n2:NT 263 w2 [s1.bx,bm]:=(h.runs.nT (t:=263) (by decide) (by decide) (by decide)).sub (λk hk=>by
  simp only[a_,i_,or_false]at hk;rcases hk with rfl|rfl<;>simp[rF,dI])
 have hB4:Eo w4 B an ao al aC au asz:=by
  have hT:Touch (s1.bx::bm::s1.rv.ownBlock.toList) w2 w4:=(t3.mono (by simp)).trans (t4.mono (λk hk=>by simp at hk;simp[hk]));refine hT.u.keep hB (by decide) (λe=>?_);simp only[a_,bb_]at e;rcases e with e|e|e
  ·exact n2.not_mem hB (by simp[e])
  ·exact n2.not_mem hB (by simp[e])
  ·exact(h.own.nT (t:=263) (by decide)).not_mem hB (by simp[e])
 refine⟨h1,h2,h3,hB4,?_⟩;have t5:Touch [ps] w4 (w4.setCell ⟨ps,13,none⟩ v'):=(Touch.refl [ps] w4).setCell (p:=⟨ps,13,none⟩) (by simp) v';exact t5.u.keep hB4 (by decide) (by simpa using hBS)
theorem spill_any (w:World)(ps bs:Nat)(s:SC)(hv:Value)(ks:List K)(L:List EV)(bm cols:Nat)(d:DS)(M:List PF)(pre:List RI)(o:Option RI)(rows:List Rec)(lr:Rec)(m j:Nat)(h:SS w ps bs s hv ks L bm cols d M pre o rows lr)(hL:L≠[])(hl:Left d (m+2) (j+1)) :
  Calls prog 167 #[.pointer (some ⟨ps,0,none⟩)] w λe w'=>e=.returned (.tuple #[])/\∃s' hv' L' d' M' pre' x' lr',SS w' ps bs s' hv' ks L' bm cols d' M' pre' (some x') rows lr'/\Same s s'/\L'.length+1=L.length/\Left d' m j/\TU (sbF ps s hv bm M (pre++o.toList)) w w'/\Sub w (sbF ps s' hv' bm M' (pre'++[x'])) (sbF ps s hv bm M (pre++o.toList)):=by
 obtain⟨x,h0⟩:∃x,L[0]?=some x:=by
  cases L with
  | nil=>exact absurd rfl hL
  | cons a l=>exact⟨a,rfl⟩
 have hlen:L.length<=rows.length:=by
  have:=h.lists.perm.len;simp only[c_,u_]at this;omega
 have hfew:=h.few;have hxm:x∈L:=v_ h0;obtain⟨ao,aC,ea⟩:=(h.sb.heap.rows x hxm).1.shape;have HV:Hid (x.val=.agg #[.int .i64 x.1.rc.no,.slice ao x.1.rc.row.length aC,.int .i64 x.1.run,.int .i64 x.1.size]):=by show _=_;unfold EV.val eP;rw[ea]
 have HPOP:Hid (Calls prog 174 #[.pointer (some ⟨ps,0,none⟩)] w λe w'=>e=.returned (.agg #[.int .i64 x.1.rc.no,.slice ao x.1.rc.row.length aC,.int .i64 x.1.run,.int .i64 x.1.size])/\∃hv' L' s1,SB w' ps bs s1 hv' ks L' bm cols d M pre o/\Same s s1/\s1.run=s.run/\s1.length=s.length/\s1.rv=s.rv/\(x::L').Perm L/\Ro w' x.2 x.1.rc.row/\Touch (ps::h_ s.ph hv) w w'/\sbF ps s1 hv' bm M (pre++o.toList)=sbF ps s hv bm M (pre++o.toList)):=by
  have:=sbPop_any w ps bs s hv ks L bm cols d M pre o x h.sb h0 (by omega);rw[HV.out]at this;refine this.mono ?_;rintro e w' ⟨rfl,hv',L',n,p1,p2,p3,p4,p5⟩;exact⟨rfl,hv',L',_,p1,⟨rfl,rfl,rfl,rfl,rfl,rfl,rfl,rfl,rfl,rfl⟩,rfl,rfl,rfl,p2,p3,p5,by simp[sbF,h_,p4]⟩
 have HX:Hid (x.2=.slice ao x.1.rc.row.length aC):=ea;have HS:Hid (SS w ps bs s hv ks L bm cols d M pre o rows lr/\L[0]?=some x/\Left d (m+2) (j+1)):=⟨h,h0,hl⟩;have hrv:∃vo cap,s.rv=.slice vo (pre++o.toList).length cap/\((pre++o.toList).length=0->True):=by
  rcases h.sb.own.shape with⟨e1,e2⟩|⟨g,cap,cur,e,_⟩
  ·exact⟨none,0,by rw[e1,e2];rfl,λ_=>trivial⟩
  ·exact⟨_,cap,e,λ_=>trivial⟩
 obtain⟨vo,vC,hrv,_⟩:=hrv;clear h h0 hxm ea HV hL hl hlen hfew;generalize hal:x.1.rc.row.length=al at *;generalize han:x.1.rc.no=an at *;generalize harun:x.1.run=au at *;generalize hasz:x.1.size=asz at *;have HE:Hid (x.1.rc.row.length=al/\x.1.rc.no=an/\x.1.run=au/\x.1.size=asz):=⟨hal,han,harun,hasz⟩;clear hal han harun hasz;generalize hq:(pre++o.toList).length=q at *;have HQ:Hid ((pre++o.toList).length=q):=hq;clear hq;go_enter func167,ntmps167
 go_wp2_with (go_at_call 174;refine HPOP.out.mono ?_;rintro e w1 ⟨rfl,hv1,L1,s1,p1,p2,p3,p4,p5,p6,p7,p8,p9⟩;have HP1:Hid _:=p1;have HP2:Hid (Same s s1):=p2;obtain⟨c0,c1,c2,c3,c4,c5,c6,c7,c8,c9,c10,c11,c12,c13,c14,c15,cf⟩:=p1.sorter.cell;have HP5:Hid (s1.rv=s.rv):=p5;rw[p5,hrv]at c13;have HP3:Hid (s1.run=s.run):=p3;rw[p3]at c9;have HP4:Hid (s1.length=s.length):=p4;have hps1:=(agi.1 p1.sorter).1;have HT:Hid _:=p8;have HF9:Hid _:=p9;clear p1 p2 p3 p4 p5 p8 p9 cf)
 go_cut [19] from 5 (λc wx=>c=.bool (decide (q=0\/s.run<au))/\∃k,wx=((w1.alloc (.cells #[.int .i64 an,.slice ao al aC,.int .i64 au,.int .i64 asz] 263))).drewN k)
 case first=>
  by_cases hq0:q=0
  ·subst hq0
   go_big_quiet (fail)
   go_wp2;go_meet
   case rel=>exact⟨by simp,_,rfl⟩
  ·have b1:((q:Int) == 0)=false:=by simp;omega
   have b2:(q == 0)=false:=by simp;omega
   have b3:¬(q:Int)=0:=by omega
   by_cases hlt:s.run<au
   ·go_big_quiet (fail)
    go_wp2;go_meet
    case rel=>exact⟨by simp[hlt],_,rfl⟩
   ·go_big_quiet (fail)
    go_wp2;go_meet
    case rel=>exact⟨by simp[hlt,hq0],_,rfl⟩
 case rest=>
  obtain⟨rfl,kd,rfl⟩:=hcut;have HT1:Hid (Touch [] w1 ((w1.alloc (.cells #[.int .i64 an,.slice ao al aC,.int .i64 au,.int .i64 asz] 263)).drewN kd)):=(tr_.alloc _).drewN kd
  go_upto_if 19 with fail
  go_cut [] from 19 (λwx=>∃s3 d3 M3 pR x3,Mid w ps bs s hv ks bm cols M (pre++o.toList) rows m j hv1 L1 x w1.heap.size an ao al aC au asz s3 d3 M3 pR x3 wx)
  case first=>
   by_cases hc:q=0\/s.run<au
   ·have hd:decide (q=0\/s.run<au)=true:=by simpa using hc
    have HEND:Hid (∀W,Touch [] w1 W->Calls prog 197 #[.pointer (some ⟨ps,0,none⟩)] W λe w'=>e=.returned (.tuple #[])/\∃pre' d' M',SB w' ps bs s1 hv1 ks L1 bm cols d' M' pre' none/\pre'.map RI.recs=(pre++o.toList).map RI.recs/\pre'.map RI.r=(pre++o.toList).map RI.r/\Left d' (m+1) (j+1)/\d'.last=d.last/\Sub W (rowsOf M') (rowsOf M)/\Touch (rF s1.bx bm M (pre++o.toList)) W w'):=λW hW=>
     sbEndRun_any (m+1) (j+1) (HP1.out.quiet hW (by simp) (λk hk=>by simp at hk) (λk hk=>by simp at hk) (λk hk=>by simp at hk) (λk hk=>by simp at hk)) HS.out.1.none HS.out.2.2
    have HAF1:Hid (∀w2,Touch (rF s1.bx bm M (pre++o.toList)) ((w1.alloc (.cells #[.int .i64 an,.slice ao al aC,.int .i64 au,.int .i64 asz] 263)).drewN kd) w2->Eo w2 w1.heap.size an ao al aC au asz):=λw2 ht=>by
     have hb:Eo ((w1.alloc (.cells #[.int .i64 an,.slice ao al aC,.int .i64 au,.int .i64 asz] 263)).drewN kd) w1.heap.size an ao al aC au asz:=heap_alloc_new w1 _;exact ht.u.keep hb (by decide) (λe=>by have:=HP1.out.lt w1.heap.size (by simp only[sbF,a_,d_];exact .inr (.inr e));omega)
    go_wp2_with (go_at_call 197;refine(HEND.out _ HT1.out).mono ?_;rintro e w2 ⟨rfl,pre2,d2,M2,r1,r2,r3,r4,r5,r6,r7⟩;have hbox:=HAF1.out _ r7;have HR1:Hid _:=r1;have HBOX:Hid (Eo w2 w1.heap.size an ao al aC au asz):=hbox;obtain⟨x0,x1,x2,x3⟩:=bJ hbox;clear c0 c1 c2 c3 c4 c5 c6 c7 c8 c9 c10 c11 c12 c13 c14 c15;obtain⟨c0,c1,c2,c3,c4,c5,c6,c7,c8,c9,c10,c11,c12,c13,c14,c15,cf⟩:=r1.sorter.cell;rw[HP5.out,hrv]at c13;have f9:=cf 9;have f10:=cf 10;have f13:=cf 13;have hps2:=(agi.1 r1.sorter).1;have HR2:Hid _:=r2;have HR3:Hid _:=r3;have HR7:Hid _:=r7;clear r1 r2 r3 r7 cf hbox)
    have Ho:Hid (∀W,Touch [] w2 W->Calls prog 112 #[.agg #[.pointer (some ⟨s1.bx,0,none⟩),.int .i64 (s1.blk:Int)]] W λe w'=>∃y:RI,e=.returned (.pointer (some ⟨y.r,0,none⟩))/\w2.heap.size<=y.r/\y.recs=[]/\∃d' M',RS w' s1.bx bm s1.blk cols d' M' pre2 (some y)/\Left d' (m+1) j/\d'.last=d2.last+1/\rowsOf M'=rowsOf M2/\Touch [s1.bx,bm] w2 w'):=λW hW=>by
     refine(sbNew_any (m+1) j (HR1.out.quiet hW (by simp) (λk hk=>by simp at hk) (λk hk=>by simp at hk) (λk hk=>by simp at hk) (λk hk=>by simp at hk)) r4).mono ?_;rintro e w' ⟨y,rfl,y1,y2,d',M',y3,y4,y5,y6,y7⟩;exact⟨y,rfl,k_ hW.size y1,y2,d',M',y3,y4,y5,y6,(hW.mono (by simp)).trans y7⟩
    have HL2:Hid (pre2.length=q):=by have:=congrArg List.length HR3.out;rw[u_,u_,HQ.out]at this;exact this
    have HAF3:Hid (∀w3,Touch [s1.bx,bm] w2 w3->Sr w3 ps s1/\PW w3 (.slice vo q vC) pre2/\Eo w3 w1.heap.size an ao al aC au asz):=λw3 ht=>by
     have n2:∀t,(117:TypeId)≠t->(9:TypeId)≠t->(223:TypeId)≠t->NT t w2 [s1.bx,bm]:=λt h1 h2 h3=>(HR1.out.runs.nT h1 h2 h3).sub (λk hk=>by
      simp only[a_,i_,or_false]at hk;rcases hk with rfl|rfl<;>simp[rF,dI])
     refine⟨HR1.out.sorter.u ht.u ((n2 260 (by decide) (by decide) (by decide)).not_mem HR1.out.sorter),?_,ht.u.keep HBOX.out (by decide) ((n2 263 (by decide) (by decide) (by decide)).not_mem HBOX.out)⟩;have h1:=HR1.out.own;simp only[Option.toList_none,H_]at h1;rw[HP5.out,hrv]at h1;exact h1.u ht.u (λk hk e=>(n2 194 (by decide) (by decide) (by decide)).not_mem (h1.block k hk).choose_spec e)
    have HQS:Hid (q<=1000000000):=by
     have h1:=HS.out.1.many;have h2:=HS.out.2.2.last;rw[HQ.out]at h1;show q<=1000000000;omega
    go_region_law (first|(refine step_ptr rfl (.tmp 26) (.tmp 32) rfl (.slice vo q vC) pre2 (by simp[Act.eval]) (by exact World.ownsRow.alloc HOWN3.out _) ⟨w3.heap.size,0,none⟩ y 1 (by simp[Act.eval]) (by exact(bg (heap_alloc_new w3 _))) (by rw[HL2.out];exact HQS.out) ?_;intro g cp w4 hP4 hG4 hat4 hlt4;obtain⟨s4,sb4,t4,bx4,bx5⟩:=HAF4.out _ _ _ hP4 hG4;obtain⟨a0,a1,a2,a3,a4,a5,a6,a7,a8,a9,a10,a11,a12,a13,a14,a15,af⟩:=s4.cell;have g9:=af 9;have g10:=af 10;have g13:=af 13;obtain⟨e0,e1,e2,e3⟩:=bJ bx4;have HSB4:Hid _:=sb4;have HT4:Hid _:=t4;have HBX5:Hid _:=bx5;have HS4:Hid _:=s4;rw[HP5.out,hrv]at a13;clear sb4 t4 bx4 bx5 s4 af)|(go_simp;go_at_call 112;refine(Ho.out _ (tr_.drew)).mono ?_;rintro e w3 ⟨y,rfl,y1,y2,d3,M3,y3,y4,y5,y6,y7⟩;obtain⟨s3,own3,bx3⟩:=HAF3.out _ y7;have HOWN3:Hid _:=own3;have HAF4:Hid (∀g cp w4,PW w4 (.slice (some ⟨g,0,none⟩) (pre2.length+1) cp) (pre2++[y])->(w3.alloc (.cells #[.pointer (some ⟨y.r,0,none⟩)] 194)).grownBy w4 (Value.slice vo q vC).ownBlock->_):=(λg cp w4 hP hG=>push_mid4 HR1.out HBOX.out (HP5.out.trans hrv) y3 y7 hP hG);obtain⟨b0,b1,b2,b3,b4,b5,b6,b7,b8,b9,b10,b11,b12,b13,b14,b15,bf⟩:=s3.cell;rw[HP5.out,hrv]at b13;have hps3:=(agi.1 s3).1;have HY3:Hid _:=y3;have HY7:Hid _:=y7;clear own3 bx3 s3 bf y3 y7))
    all_goals
     go_wp2;go_meet
     case rel=>
      refine⟨_,_,_,_,_,mid_fresh HS.out.1 HS.out.2.1 p6 HP1.out HP2.out p7 HT.out HF9.out (by rw[HQ.out,HE.out.2.2.1];exact hc) HE.out.2.2.1 HT1.out (by show w1.heap.size<_;simp[World.drewN]) HR2.out HR3.out r5 r6 HR7.out y1 y2 y4 y5 y6 HSB4.out HT4.out (λg' hg'=>?_) HBX5.out⟩;simp only[Value.ownBlock,j_]at hg';subst hg';rcases hat4 with h|h
      ·exact .inl (by rw[HP5.out,hrv];exact h)
      ·exact .inr (by have:=HY7.out.size;rw[h];simp;omega)
   ·have hd:decide (q=0\/s.run<au)=false:=by simpa using hc
    go_wp2;go_meet
    case rel=>exact mid_same HS.out.1 HS.out.2.1 HS.out.2.2 p6 HP1.out HP2.out HP3.out HP4.out p7 HT.out HF9.out (by rw[HQ.out,HE.out.2.2.1];exact hc) HT1.out (heap_alloc_new w1 _)
  case rest=>
   obtain⟨s3,d3,M3,pR,x3,hM⟩:=hcut;have HM:Hid (Mid w ps bs s hv ks bm cols M (pre++o.toList) rows m j hv1 L1 x w1.heap.size an ao al aC au asz s3 d3 M3 pR x3 wc):=hM;clear c0 c1 c2 c3 c4 c5 c6 c7 c8 c9 c10 c11 c12 c13 c14 c15 hps1;obtain⟨c0,c1,c2,c3,c4,c5,c6,c7,c8,c9,c10,c11,c12,c13,c14,c15,cf⟩:=hM.sb.sorter.cell;obtain⟨x0,x1,x2,x3c⟩:=bJ hM.box;have f11:=cf 11;have f12:=cf 12;have hBp:w1.heap.size≠ps:=λe=>hM.far (by rw[e];simp[sbF]);have hBp2:ps≠w1.heap.size:=λe=>hBp e.symm;rcases hM.sb.own.shape with⟨_,e⟩|⟨g,cap,cur,hv3,hh,hgc,hgm,hsz,hx⟩
   ·simp at e
   have hlast:=hx pR.length (by simp);have hlc:wc.cell? ⟨g,pR.length,none⟩=some (.pointer (some ⟨x3.r,0,none⟩)):=by
    simp only[World.cell?,hh];rw[hlast];simp[RI.ptr]
   have hgp:g≠ps:=λe=>by
    have:=hM.sb.sorter;unfold Sr at this;rw[e,this]at hh;simp at hh
   have hgB:g≠w1.heap.size:=λe=>by
    have:=hM.box;unfold Eo at this;rw[e,this]at hh;simp at hh
   rw[hv3]at c13;simp only[Option.toList_some,c_,List.length_cons,List.length_nil,U_]at c13 hgc;have hlm:pR.length+1<=maxLen:=k_ hgc hgm;by_cases hlt:s3.length<s3.count
   rotate_left
   ·have HGE:Hid (s3.count<=s3.length):=by show _<=_;omega
    have hcz:¬((s3.length:Int)<(s3.count:Int)):=by omega
    have hcz2:decide ((s3.length:Int)<(s3.count:Int))=false:=by simpa using hcz
    clear hx hh hlast hsz hM cf hlt hv3 hlc hgp hgB hlm hgc hgm;go_wp2
    go_big_quiet (fail)
    go_wp2
    go_end0
    exact⟨rfl,_,_,_,_,_,_,_,_,mid_skip HS.out.1 HS.out.2.1 HX.out HE.out.2.1 HM.out HGE.out p6 (by first|exact tr_.drewN _|exact Touch.refl [] _)⟩
   have hrl:=mid_count HS.out.1 hM hlt;have hcz:(s3.length:Int)<(s3.count:Int):=by omega
   have HLT:Hid (s3.length<s3.count):=hlt;have hs3:s3.length<100000:=by have:=hM.length;omega
   have HADD:Hid (∀W,Touch [] ((wc.setCell ⟨ps,11,none⟩ (.int .i64 an)).setCell ⟨ps,12,none⟩ (.slice ao al aC)) W->Calls prog 113 #[.pointer (some ⟨x3.r,0,none⟩),.agg #[.int .i64 an,.slice ao al aC]] W λe w'=>e=.returned (.tuple #[])/\∃(x':RI) (d':DS) (M':List PF),SB w' ps bs { s3 with lno:=an,lv:=.slice ao al aC } hv1 ks L1 bm cols d' M' pR (some x')/\x'.r=x3.r/\x'.recs=x3.recs++[x.1.rc]/\Left d' m j/\d'.last=d3.last/\Sub wc (rowsOf M') (rowsOf M3)/\TU (ps::rF s3.bx bm M3 (pR++[x3])) wc w'):=λW hW=>by
    have t5:Touch [ps] wc ((wc.setCell ⟨ps,11,none⟩ (.int .i64 an)).setCell ⟨ps,12,none⟩ (.slice ao al aC)):=((Touch.refl [ps] wc).setCell (p:=⟨ps,11,none⟩) (by simp) _).setCell (p:=⟨ps,12,none⟩) (by simp) _;have sb5:=(HM.out.sb.cells ((HM.out.sb.sorter.setLno an).setLv (.slice ao al aC)) t5 rfl rfl rfl rfl rfl rfl).quiet hW (by simp) (λk hk=>by simp at hk) (λk hk=>by simp at hk) (λk hk=>by simp at hk) (λk hk=>by simp at hk);have T5:Touch [ps] wc W:=t5.trans (hW.mono (by simp));have hrow:Ro W (.slice ao al aC) x.1.rc.row:=by
     rw[<-HX.out];exact Sl3.keep HM.out.row (T5.tag (nO HM.out.sb.sorter (by decide)))
    have:=sbAdd_any m j x.1.rc (.slice ao al aC) sb5 (by have h1:=(HS.out.1.sb.ents x (v_ HS.out.2.1)).2;rw[<-HM.out.same.blk]at h1;exact h1) hrow (by omega) HM.out.left;rw[HE.out.2.1]at this;refine this.mono ?_;rintro e w' ⟨rfl,x',d',M',p1,p2,p3,p4,p5,p6,p7⟩;exact⟨rfl,x',d',M',p1,p2,p3,p4,p5,λk hk=>by rcases p6 k hk with h|h;exact .inl h;exact .inr (k_ T5.size h),(T5.u.mono (by simp)).trans (p7.mono (λk hk=>o_ _ hk))⟩
   have HAF:Hid (∀W,TU (ps::rF s3.bx bm M3 (pR++[x3])) wc W->W.cell? ⟨g,pR.length,none⟩=some (.pointer (some ⟨x3.r,0,none⟩))/\Eo W w1.heap.size an ao al aC au asz):=λW hW=>by
    have nt:∀t,260≠t->117≠t->9≠t->223≠t->NT t wc (ps::rF s3.bx bm M3 (pR++[x3])):=λt h0 h1 h2 h3=>(HM.out.sb.runs.nT h1 h2 h3).cons HM.out.sb.sorter h0;refine⟨?_,hW.keep HM.out.box (by decide) ((nt 263 (by decide) (by decide) (by decide) (by decide)).not_mem HM.out.box)⟩;have h1:=hW.keep hh (by decide) ((nt 194 (by decide) (by decide) (by decide) (by decide)).not_mem hh);simp only[World.cell?,h1];rw[hlast];simp[RI.ptr]
   clear hx hh hlast hsz hM cf hlt;generalize hnn:pR.length=n at *;have HN:Hid (pR.length=n):=hnn;clear hnn;have hlm2:n+1<=9223372036854775807:=by unfold maxLen at hlm;omega
   have hw1:IntKind.i64.wrap ((n:Int)+1-1)=(n:Int):=by rw[wrap_small _ (by omega) (by omega)];omega
   have hw2:IntKind.i64.wrap (n:Int)=(n:Int):=wrap_small _ (by omega) (by omega);have hpos:(0:Int)<(n:Int)+1:=by omega
   have hn1:(n:Int)<(n:Int)+1:=by omega
   have hn2:n<n+1:=by omega
   have HV3:Hid (s3.rv=.slice (some ⟨g,0,none⟩) (n+1) cap):=by have:=hv3;simp only[Option.toList_some,c_,List.length_cons,List.length_nil,U_]at this;exact HN.out▸this
   clear hv3;have k1:((wc.setCell ⟨ps,11,none⟩ (.int .i64 an)).setCell ⟨ps,12,none⟩ (.slice ao al aC)).cell? ⟨ps,13,none⟩=some (.slice (some ⟨g,0,none⟩) (n+1) cap):=by simp[c13,go_sem]
   have k2:((wc.setCell ⟨ps,11,none⟩ (.int .i64 an)).setCell ⟨ps,12,none⟩ (.slice ao al aC)).cell? ⟨g,n,none⟩=some (.pointer (some ⟨x3.r,0,none⟩)):=by simp[hlc,go_sem]
   go_wp2
   go_big_quiet (fail)
   go_wp2
   go_region_held3 (λw'=>w'.cell? ⟨ps,13,none⟩=some (.slice (some ⟨g,0,none⟩) (n+1) cap)/\w'.cell? ⟨g,n,none⟩=some (.pointer (some ⟨x3.r,0,none⟩))/\w'.cell? ⟨w1.heap.size,0,none⟩=some (.int .i64 an)/\w'.cell? ⟨w1.heap.size,1,none⟩=some (.slice ao al aC)) (go_keep) (first|(go_at_call 113;refine(HADD.out _ (by first|exact(tr_.drewN _).drew|exact tr_.drew)).mono ?_;rintro e w6 ⟨rfl,x',d',M',q1,q2,q3,q4,q5,q6,q7⟩;obtain⟨a1,a2⟩:=HAF.out _ q7;obtain⟨z0,z1,z2,z3⟩:=bJ a2;obtain⟨b0,b1,b2,b3,b4,b5,b6,b7,b8,b9,b10,b11,b12,b13,b14,b15,bf⟩:=q1.sorter.cell;have g10:=bf 10;have b13':=b13.trans (congrArg some HV3.out);have HQ1:Hid _:=q1;have HQ7:Hid _:=q7;clear q1 q7 a2 b13 bf))
   all_goals
    go_wp2
    go_end0
    exact⟨rfl,_,_,_,_,_,_,_,_,mid_end HS.out.1 HS.out.2.1 HX.out HE.out.2.1 HM.out HQ1.out q2 q3 q4 q5 q6 HQ7.out rfl HLT.out p6⟩
end Go.Proofs.YtjoinhljdbljaaaGreat
