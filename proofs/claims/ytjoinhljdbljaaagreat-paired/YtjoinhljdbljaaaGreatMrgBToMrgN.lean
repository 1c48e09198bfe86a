/- A run deleted; the walk of deleteAll, and what follows. -/
import Derived.Test.YtjoinhljdbljaaaGreatMrgA
import Derived.Defers
set_option maxHeartbeats 4000000
set_option maxRecDepth 20000
set_option linter.unusedSectionVars false
namespace Go.Proofs.YtjoinhljdbljaaaGreat
open Go.RowKit Go.Proofs.Tryz
variable [Inhabited Ground]
variable {B C bf blk bm bx cap cap' cols g g' i j k len lo m n o' of p ph pm ps:Nat} {F Fm Gm:List Nat} {G R R' pre rest:List RI} {L:List CU} {M M':List PF} {W w w' w2 w3 w4 wr:World} {a b c e gv hv v:Value} {cs:Array Value} {d d':DS} {ks:List K} {l out rows:List Rec} {o:Option RI} {o1 o2 ob:Obj} {s s':SC} {t:TypeId} {u:CU} {x:RI} {y:Rec}
theorem RS.deleted (h:RS w bx bm blk cols d M (x::pre) none)(hP:PD w' bx bm d' M')(hD:DStep d d' x.file none)(hl:d'.last=d.last)(t:Touch [bx,bm] w w'):RS w' bx bm blk cols d' M' pre none:=by
 have hf:=h.files;simp only[Option.toList_none,H_,List.map_cons,R_]at hf;have hs:∀y∈pre++(none:Option RI).toList,y∈(x::pre)++(none:Option RI).toList:=λy hy=>by simp at hy ⊢;exact .inr hy
 refine⟨hP,hD.ok,λy hy=>(h.done y (by simp[hy])).keep t.u (λe=>?_) hD (λe=>?_),by simp,by simpa using hf.2,λy hy=>h.recs y (hs y hy),λy hy=>by rw[hl];exact h.known y (hs y hy),λy hy=>h.len y (hs y hy),λy hy=>h.col y (hs y hy),by have:=hD.block;have:=h.block;omega,h.b2,h.b1,h.c2⟩
 ·exact h.r_disk (x:=y) (by simp[hy]) (by simp only[a_,i_,or_false]at e;rcases e with e|e<;>simp[dI,e])
 ·exact hf.1 (z_.2 ⟨y,hy,by omega⟩)
theorem Left.deleted (h:Left d k j)(h1:d'.last=d.last)(h2:d'.wrote=d.wrote)(h3:uO d.files=uO d'.files+n)(h4:d'.blocks=d.blocks):Left d' k j:=by
 obtain⟨a,b,c,e⟩:=h;exact⟨by omega,by omega,by omega,by omega⟩
structure DL (w:World)(bx bm blk cols:Nat)(d:DS)(M:List PF)(gv:Value)(G rest:List RI)(k j i:Nat)(wr:World):Prop where
 st:∃d' M',RS wr bx bm blk cols d' M' (G.drop i++rest) none/\Left d' k j/\d'.last=d.last/\Sub w (rowsOf M') (rowsOf M)
 own:PO wr gv G
 touch:Touch [bx,bm] w wr
theorem DL.step (h:DL w bx bm blk cols d M gv G rest k j i wr)(hi:i<G.length) :
  Calls prog 104 #[G[i].ptr] wr λe w'=>e=.returned (.tuple #[])/\DL w bx bm blk cols d M gv G rest k j (i+1) w':=by
 obtain⟨d1,M1,hR,hL,hl,hS⟩:=h.st;have hd:G.drop i++rest=G[i]::(G.drop (i+1)++rest):=by rw[J_ hi];rfl
 rw[hd]at hR;obtain⟨n,v,hc⟩:=hR.cell (x:=G[i]) (by simp);have hu:=hL.used;have hsm:=hL.small;refine(delete_any wr G[i].r bx bm blk G[i].file G[i].cols n v d1 M1 hc hR.pd hR.ok (hR.mine (x:=G[i]) (by simp)) (by omega)).mono ?_;rintro e w' ⟨rfl,d2,M2,p1,p2,p3,p4,p5,p6,p7⟩;have nt:NT 194 wr [bx,bm]:=(hR.pd.nT (t:=194) (by decide) (by decide)).sub (λx hx=>by
  simp only[a_,i_,or_false]at hx;rcases hx with rfl|rfl<;>simp[dI])
 refine⟨rfl,⟨d2,M2,hR.deleted p1 p2 p3 p7,hL.deleted p3 p4 p5 p2.blocks,p3.trans hl,?_⟩,h.own.keep (p7.tag nt),h.touch.trans p7⟩;intro x hx;exact hS x (p6.subset hx)
structure MN (w w2:World)(lo pm ph bf ps:Nat)(ks:List K)(R:List RI)(L:List CU)(u:CU)(bx bm blk cols:Nat)(d:DS)(M:List PF)(pre:List RI)(o:Option RI):Prop where
 st:∃hv' L',MG w2 lo pm ph hv' bf ps ks R L'/\∀all out,Me ks all (L.map CU.cur) out->Me ks all (L'.map CU.cur) (out++[u.first])
 runs:RS w2 bx bm blk cols d M pre o
 touch:∃F,Touch F w w2/\MT w bx lo F
theorem PD.other (h:PD w bx bm d M)(ht:Touch F w w')(hF:∀k∈F,∃cs t f,w.heap[k]?=some (.cells cs t f)/\(117:TypeId)≠t/\(9:TypeId)≠t):PD w' bx bm d M:=
 h.away ht (λk hk e=>by
  obtain⟨cs,t,f,hc,h1,h2⟩:=hF k e;exact h.nT h1 h2 k hk cs f hc)
section
variable {w:World} {lo pm ph:Nat} {hv:Value} {bf ps:Nat} {ks:List K} {R:List RI} {u:CU} {T:List CU} {bx bm blk cols:Nat} {d:DS} {M:List PF} {pre:List RI} {o:Option RI}
theorem MG.mt (h:MG w lo pm ph hv bf ps ks R (u::T))(hA:Ce w ph g cap bf ps ks (u::T))(hg:lo<=g)(hbx:∃cs f,w.heap[bx]?=some (.cells cs 117 f)):MT w bx lo [u.ptr,u.rd,bx,ph,g]:=by
 intro k hk;simp only[a_,i_,or_false]at hk;obtain⟨c,hc⟩:=(h.cad.rds u (by simp)).cell;obtain⟨cs,f,hb⟩:=hbx;obtain⟨cur,hcur,_⟩:=hA.items;have hn:=h.newC u (by simp);rcases hk with rfl|rfl|rfl|rfl|rfl
 ·exact⟨_,_,_,(h.heap.rows u (by simp)).box,by decide,.inr hn.1⟩
 ·exact⟨_,_,_,hc,by decide,.inr hn.2⟩
 ·exact⟨_,_,_,hb,by decide,.inl rfl⟩
 ·exact⟨_,_,_,h.heap.head,by decide,.inr h.newH⟩
 ·exact⟨_,_,_,hcur,by decide,.inr hg⟩
theorem RS.bx117 (h:RS w bx bm blk cols d M pre o):∃cs f,w.heap[bx]?=some (.cells cs 117 f):=⟨_,_,h.pd.disk⟩
theorem mstep_nil (h:MG w lo pm ph hv bf ps ks R (u::T))(hR:RS w bx bm blk cols d M pre o)(hsub:∀x∈R,x∈pre)(hsmall:T.length<=10000000)(hr:u.rest=[]) :
  Calls prog 201 #[.pointer (some ⟨u.ptr,0,none⟩)] w λe w1=>e=.returned (.bool false)/\Touch [u.ptr] w w1/\w1.heap[pm]?=some (.cells #[.pointer (some ⟨ph,0,none⟩)] 310 (0,0)) /\
   Calls prog 206 #[.pointer (some ⟨ph,0,none⟩)] w1 λe w2=>e=.returned (.pointer (some ⟨u.ptr,0,none⟩))/\MN w w2 lo pm ph bf ps ks R (u::T) u bx bm blk cols d M pre o:=by
 have hrd:=h.cad.rds u (by simp);rw[hr]at hrd;have hbox:=(h.heap.rows u (by simp)).box;obtain⟨g,cap,rfl,hA⟩:=h.heap.at (by simp);have hmt:=h.mt hA (h.newV g rfl) hR.bx117;refine(advance_nil w u.ptr u.rd u.run.r bx blk u.run.file u.run.cols u.first.no u.rv u.run.cs d hbox (hR.done u.run (hsub _ (h.cad.mem u (by simp)))).1 hrd).mono ?_;rintro e w1 ⟨rfl,p1,t1⟩;obtain⟨q1,q2,q3⟩:=h.ended hA t1;refine⟨rfl,t1,q3,?_⟩;refine(cpop_at w1 ph g cap bf ps ks (u::T) T.length q1 h.heap.ok (by simp) (by simp;omega)).mono ?_;rintro e w2 ⟨rfl,L',r1,r2,t2⟩;have hF0:Touch [u.ptr,ph,g] w w2:=(t1.mono (by simp)).trans (t2.mono (by simp));have hF:Touch [u.ptr,u.rd,bx,ph,g] w w2:=hF0.mono (λk hk=>by simp only[a_,i_,or_false]at hk ⊢;omega);have hp:L'.Perm T:=(List.perm_cons u).1 r2;obtain⟨cur,hcur,_⟩:=q1.items;have n2:∀t':TypeId,(331:TypeId)≠t'->(305:TypeId)≠t'->NT t' w1 [ph,g]:=λt' h1 h2=>(nO hcur h2).cons q1.head h1;refine⟨rfl,⟨_,L',⟨t2.tag (n2 310 (by decide) (by decide)) _ _ _ q3,r1,(q2.keep (t2.tag (n2 241 (by decide) (by decide)))).perm hp,h.newH,λk hk=>h.newV k hk,λx hx=>h.newC x (by simp[hp.mem_iff.1 hx])⟩,λall out hm=>cur_drop hm hr r2 r1.ok⟩,?_,⟨_,hF,hmt⟩⟩;refine hR.turned (hR.pd.other hF0 (λk hk=>?_)) hF (hmt.nT (by decide)) (hmt.nT (by decide));obtain⟨cur0,hcur0,_⟩:=hA.items;simp only[a_,i_,or_false]at hk;rcases hk with rfl|rfl|rfl
 ·exact⟨_,_,_,hbox,by decide,by decide⟩
 ·exact⟨_,_,_,hA.head,by decide,by decide⟩
 ·exact⟨_,_,_,hcur0,by decide,by decide⟩
theorem mstep_cons (h:MG w lo pm ph hv bf ps ks R (u::T))(hR:RS w bx bm blk cols d M pre o)(hsub:∀x∈R,x∈pre)(hsmall:T.length<=10000000)(hc1:1<=cols)(hlast:d.last<=1000000000)(hr:u.rest=y::l) :
  Calls prog 201 #[.pointer (some ⟨u.ptr,0,none⟩)] w λe w1=>e=.returned (.bool true)/\Touch [u.ptr,u.rd,bx] w w1/\w1.heap[pm]?=some (.cells #[.pointer (some ⟨ph,0,none⟩)] 310 (0,0)) /\
   Calls prog 205 #[.pointer (some ⟨ph,0,none⟩),.pointer (some ⟨u.ptr,0,none⟩)] w1 λe w2=>e=.returned (.tuple #[])/\MN w w2 lo pm ph bf ps ks R (u::T) u bx bm blk cols d M pre o:=by
 have hrd:=h.cad.rds u (by simp);rw[hr]at hrd;have hbox:=(h.heap.rows u (by simp)).box;have hm:=hsub _ (h.cad.mem u (by simp));have hmo:u.run∈pre++o.toList:=by simp[hm]
 obtain⟨done,hdn⟩:=h.cad.part u (by simp);have hne:u.run.recs≠[]:=by rw[hdn];simp
 have hall:∀z∈y::l,Rh blk u.run.cols z:=λz hz=>by
  rw[hR.col u.run hmo hne];exact hR.recs u.run hmo z (by rw[hdn,hr];simp only[d_,a_];simp only[a_]at hz;exact .inr (.inr hz))
 have hD:=hR.done u.run hm;have hlen:=hR.len u.run hmo;have hkn:=hR.known u.run hmo;have hcol:=hR.col u.run hmo hne;have hc2:=hR.c2;have hb2:=hR.b2;obtain⟨g,cap,rfl,hA⟩:=h.heap.at (by simp);have hmt:=h.mt hA (h.newV g rfl) hR.bx117;refine(aV w u.ptr u.rd u.run.r bx bm blk u.run.file u.run.cols u.first.no u.rv u.run.cs d M y l hbox hD.1 hrd hR.pd hR.ok hall (by omega) (by omega) (by omega) (by omega) (λc hc=>by have:=(hD.1.full c hc).2;omega)).mono ?_;rintro e w1 ⟨r,rfl,p1,p2,p3,p4,t1⟩;obtain⟨q1,q2,q3⟩:=h.stepped hA hR.bx117 t1 hr p1 p2 p3;refine⟨rfl,t1,q3,?_⟩;refine(creplace_any w1 ph g cap bf ps ks (u.on r u.run.cols y l::T) (u.on r u.run.cols y l) q1 (by have:=DI.first h.heap.ok (u.on r u.run.cols y l);exact this) (by simp) (by simp;omega)).mono ?_;rintro e w2 ⟨rfl,L',r1,r2,t2⟩;have hF:Touch [u.ptr,u.rd,bx,ph,g] w w2:=(t1.mono (λk hk=>by simp only[a_,i_,or_false]at hk ⊢;omega)).trans (t2.mono (by simp));obtain⟨cur,hcur,_⟩:=q1.items;have n2:∀t':TypeId,(305:TypeId)≠t'->NT t' w1 [g]:=λt' h2=>nO hcur h2;refine⟨rfl,⟨_,L',⟨t2.tag (n2 310 (by decide)) _ _ _ q3,r1,(q2.keep (t2.tag (n2 241 (by decide)))).perm r2,h.newH,λk hk=>h.newV k hk,λx hx=>?_⟩,λall out hm=>cur_next hm hr r2 r1.ok⟩,?_,⟨_,hF,hmt⟩⟩
 ·rcases a_.1 (r2.mem_iff.1 hx)with rfl|hx
  ·exact h.newC u (by simp)
  ·exact h.newC x (by simp[hx])
 ·refine hR.turned (p4.other t2 (λk hk=>?_)) hF (hmt.nT (by decide)) (hmt.nT (by decide));rw[ms_ hk];exact⟨_,_,_,hcur,by decide,by decide⟩
end
theorem mnext_nil (w:World)(lo pm ph:Nat)(hv:Value)(bf ps:Nat)(ks:List K)(R:List RI)(h:MG w lo pm ph hv bf ps ks R []) :
  Calls prog 172 #[.pointer (some ⟨pm,0,none⟩)] w λe w'=>e=.returned (.tuple #[.agg #[.int .i64 0,.slice none 0 0],.bool false])/\Touch [] w w':=by
 have b0:=bg h.box;have hpm:=(agi.1 h.box).1;have HL:Hid (∀W,Touch [] w W->Calls prog 203 #[.pointer (some ⟨ph,0,none⟩)] W λe w'=>e=.returned (.int .i64 0)/\w'=W):=λW hW=>(clen_any W ph hv bf ps ks [] (h.quiet hW).heap);clear h;go_enter func172,ntmps172
 go_wp2_with (go_at_call 203;refine(HL.out _ (tr_.alloc _)).mono ?_;rintro e w1 ⟨rfl,rfl⟩)
 exact bodyPost_ret (v:=.tuple #[.agg #[.int .i64 0,.slice none 0 0],.bool false]) (by simp[results,results172,go_sem]) rfl ⟨rfl,tr_.alloc _⟩
theorem MG.box205 (h:MG w lo pm ph hv bf ps ks R L)(hp:w.heap[p]?=some (.cells cs 205 (0,0)))(t:Touch [p] w w'):MG w' lo pm ph hv bf ps ks R L:=
 h.keep ⟨t.tag (nO hp (by decide)),t.tag (nO hp (by decide)),t.tag (nO hp (by decide)),t.tag (nO hp (by decide)),t.tag (nO hp (by decide)),t.tag (nO hp (by decide)),t.tag (nO hp (by decide)),t.tag (nO hp (by decide)),(t.tag (nO hp (by decide))).key ps⟩
theorem MN.box205 {w w2 w3:World}{lo pm ph bf ps:Nat}{ks:List K}{R:List RI}{L:List CU}{u:CU}{bx bm blk cols:Nat}{d:DS}{M:List PF}{pre:List RI}{o:Option RI}{p:Nat}{cs:Array Value}(h:MN w w2 lo pm ph bf ps ks R L u bx bm blk cols d M pre o)(hp:w2.heap[p]?=some (.cells cs 205 (0,0)))(hn:w.heap.size<=p)(t:Touch [p] w2 w3):MN w w3 lo pm ph bf ps ks R L u bx bm blk cols d M pre o:=by
 obtain⟨hv',L',h1,h2⟩:=h.st;obtain⟨F,h3,h4⟩:=h.touch;exact⟨⟨hv',L',h1.box205 hp t,h2⟩,h.runs.turned (h.runs.pd.other t (λk hk=>by rw[ms_ hk];exact⟨_,_,_,hp,by decide,by decide⟩)) t (nO hp (by decide)) (nO hp (by decide)),F,h3.more t (λi hi=>.inr (by rw[ms_ hi];exact hn)),h4⟩
theorem MN.from (h:MN W w2 lo pm ph bf ps ks R L u bx bm blk cols d M pre o)(t:Touch [] w W)(hs:∀k cs t f,W.heap[k]?=some (.cells cs t f)->t∈[117,307,331,305,241]->k<w.heap.size):MN w w2 lo pm ph bf ps ks R L u bx bm blk cols d M pre o:=by
 obtain⟨F,h3,h4⟩:=h.touch;refine⟨h.st,h.runs,F,(t.mono (by simp)).trans h3,λk hk=>?_⟩;obtain⟨cs,t',f,h5,h6,h7⟩:=h4 k hk;have hlt:=hs k cs t' f h5 h6;exact⟨cs,t',f,by rw[<-t.block k hlt (by simp)];exact h5,h6,h7⟩
theorem MN.rec205 (h:MN w w2 lo pm ph bf ps ks R L u bx bm blk cols d M pre o):KT 205 w w2/\KT 85 w w2:=by
 obtain⟨F,h3,h4⟩:=h.touch;exact⟨h3.tag (h4.nT (by decide)),h3.tag (h4.nT (by decide))⟩
theorem two205 (k:KT 205 ((w.alloc (.cells #[a,b] 205)).alloc (.cells #[c,e] 205)) w2):w2.heap[w.heap.size]?=some (.cells #[a,b] 205 (0,0))/\w2.heap[w.heap.size+1]?=some (.cells #[c,e] 205 (0,0)):=by
 refine⟨k _ _ _ ?_,k _ _ _ ?_⟩
 ·rw[Below.heap_alloc _ _ _ (by simp),heap_alloc_new w _]
 ·have:=heap_alloc_new (w.alloc (.cells #[a,b] 205)) (.cells #[c,e] 205);rw[World.size_alloc]at this;exact this
theorem new205 (h1:∃cs,o1=.cells cs 205 (0,0))(h2:∃cs,o2=.cells cs 205 (0,0)):∀k cs t f,((w.alloc o1).alloc o2).heap[k]?=some (.cells cs t f)->t∈[117,307,331,305,241]->k<w.heap.size:=λk cs t f e ht=>by
 obtain⟨c1,rfl⟩:=h1;obtain⟨c2,rfl⟩:=h2;have hlt:=(agi.1 e).1;simp only[World.size_alloc]at hlt;by_cases h1:k=w.heap.size+1
 ·subst h1;have:=heap_alloc_new (w.alloc (.cells c1 205)) (.cells c2 205);rw[World.size_alloc]at this;rw[this]at e;simp only[j_,Obj.cells.injEq]at e;obtain⟨_,rfl,_⟩:=e;exact absurd ht (by decide)
 ·by_cases h2:k=w.heap.size
  ·subst h2;rw[Below.heap_alloc _ _ _ (by simp),heap_alloc_new w _]at e;simp only[j_,Obj.cells.injEq]at e;obtain⟨_,rfl,_⟩:=e;exact absurd ht (by decide)
  ·omega
theorem mnext_cons (w:World)(lo pm ph:Nat)(hv:Value)(bf ps:Nat)(ks:List K)(R:List RI)(u:CU)(T:List CU)(bx bm blk cols:Nat)(d:DS)(M:List PF)(pre:List RI)(o:Option RI)(h:MG w lo pm ph hv bf ps ks R (u::T))(hR:RS w bx bm blk cols d M pre o)(hsub:∀x∈R,x∈pre)(hsmall:T.length<=10000000)(hc1:1<=cols)(hlast:d.last<=1000000000) :
  Calls prog 172 #[.pointer (some ⟨pm,0,none⟩)] w λe w'=>e=.returned (.tuple #[.agg #[.int .i64 u.first.no,u.rv],.bool true])/\Ro w' u.rv u.first.row/\MN w w' lo pm ph bf ps ks R (u::T) u bx bm blk cols d M pre o:=by
 have b0:=bg h.box;have hpm:=(agi.1 h.box).1;have hub:=(h.heap.rows u (by simp));obtain⟨x0,x1,x2⟩:=bD hub.box;have hup:=(agi.1 hub.box).1;have hrow:=hub.row;obtain⟨ao,aC,ea⟩:=hrow.shape;have HL:Hid (∀W,Touch [] w W->Calls prog 203 #[.pointer (some ⟨ph,0,none⟩)] W λe w'=>e=.returned (.int .i64 ((T.length+1:Nat):Int))/\w'=W):=λW hW=>(clen_any W ph hv bf ps ks (u::T) (h.quiet hW).heap);have HLE:Hid (∀W,Touch [] w W->Calls prog 204 #[.pointer (some ⟨ph,0,none⟩)] W λe w'=>e=.returned (.pointer (some ⟨u.ptr,0,none⟩))/\w'=W):=λW hW=>(cleast_any W ph hv bf ps ks (u::T) u (h.quiet hW).heap (by simp));have hz:¬((T.length+1:Nat):Int)=0:=by omega
 rw[ea]at x2 ⊢;cases hr:u.rest with
 | nil=>
  have HS:Hid (∀W,Touch [] w W->(∀k cs t f,W.heap[k]?=some (.cells cs t f)->t∈[117,307,331,305,241]->k<w.heap.size)->Calls prog 201 #[.pointer (some ⟨u.ptr,0,none⟩)] W λe w1=>e=.returned (.bool false)/\Touch [u.ptr] W w1/\w1.heap[pm]?=some (.cells #[.pointer (some ⟨ph,0,none⟩)] 310 (0,0)) /\
   Calls prog 206 #[.pointer (some ⟨ph,0,none⟩)] w1 λe w2=>e=.returned (.pointer (some ⟨u.ptr,0,none⟩))/\MN w w2 lo pm ph bf ps ks R (u::T) u bx bm blk cols d M pre o/\MN W w2 lo pm ph bf ps ks R (u::T) u bx bm blk cols d M pre o):=λW hW hn=>by
   refine(mstep_nil (h.quiet hW) (hR.turned (hR.pd.away hW (by simp)) hW (by intro k hk;simp at hk) (by intro k hk;simp at hk)) hsub hsmall hr).mono ?_;rintro e w1 ⟨rfl,p1,p2,p3⟩;refine⟨rfl,p1,p2,p3.mono ?_⟩;rintro e w2 ⟨rfl,q⟩;exact⟨rfl,q.from hW hn,q⟩
  have HR:Hid (Ro w (.slice ao u.first.row.length aC) u.first.row):=by rw[ea]at hrow;exact hrow
  clear h hR hsub hrow hub;generalize u.first.no=an at *;generalize u.first.row.length=al at *;go_enter func172,ntmps172
  go_wp2_with (first|(go_at_call 203;refine(HL.out _ (tr_.alloc _)).mono ?_;rintro e w1 ⟨rfl,rfl⟩)|(go_at_call 204;refine(HLE.out _ (tr_.alloc _)).mono ?_;rintro e w1 ⟨rfl,rfl⟩)|(go_at_call 201;refine(HS.out _ ((tr_.alloc _).alloc _) (new205 ⟨_,rfl⟩ ⟨_,rfl⟩)).mono ?_;rintro e w3 ⟨rfl,t3,hb3,hc3⟩;have c3:=bg hb3;clear t3 hb3)|(go_at_call 206;refine hc3.mono ?_;rintro e w4 ⟨rfl,q1,q2⟩;obtain⟨k1,k2⟩:=two205 q2.rec205.1;obtain⟨y0,y1⟩:=bF k1;obtain⟨z0,z1⟩:=bF k2;have f0:w4.frozen? ⟨w.heap.size,0,none⟩=false:=(by simp[World.frozen?,k1]);have f1:w4.frozen? ⟨w.heap.size,1,none⟩=false:=(by simp[World.frozen?,k1]);have K1:Hid _:=k1;have hk85:KT 85 _ w4:=q2.rec205.2;clear q2 k1 k2 hc3))
  refine bodyPost_ret (v:=.tuple #[.agg #[.int .i64 an,.slice ao al aC],.bool true]) (by simp[results,results172,go_sem,y0,y1]) rfl ⟨rfl,?_,?_⟩
  ·exact Sl3.keep (Sl3.keep (HR.out.touch ((tr_.alloc _).alloc _)) hk85) (((Touch.refl [w.heap.size] w4).setCell (p:=⟨w.heap.size,0,none⟩) (by simp) _).setCell (p:=⟨w.heap.size,1,none⟩) (by simp) _ |>.tag (nO K1.out (by decide)))
  ·exact q1.box205 K1.out (e_ _) (((Touch.refl [w.heap.size] w4).setCell (p:=⟨w.heap.size,0,none⟩) (by simp) _).setCell (p:=⟨w.heap.size,1,none⟩) (by simp) _)
 | cons y l=>
  have HS:Hid (∀W,Touch [] w W->(∀k cs t f,W.heap[k]?=some (.cells cs t f)->t∈[117,307,331,305,241]->k<w.heap.size)->Calls prog 201 #[.pointer (some ⟨u.ptr,0,none⟩)] W λe w1=>e=.returned (.bool true)/\Touch [u.ptr,u.rd,bx] W w1/\w1.heap[pm]?=some (.cells #[.pointer (some ⟨ph,0,none⟩)] 310 (0,0)) /\
   Calls prog 205 #[.pointer (some ⟨ph,0,none⟩),.pointer (some ⟨u.ptr,0,none⟩)] w1 λe w2=>e=.returned (.tuple #[])/\MN w w2 lo pm ph bf ps ks R (u::T) u bx bm blk cols d M pre o/\MN W w2 lo pm ph bf ps ks R (u::T) u bx bm blk cols d M pre o):=λW hW hn=>by
   refine(mstep_cons (h.quiet hW) (hR.turned (hR.pd.away hW (by simp)) hW (by intro k hk;simp at hk) (by intro k hk;simp at hk)) hsub hsmall hc1 hlast hr).mono ?_;rintro e w1 ⟨rfl,p1,p2,p3⟩;refine⟨rfl,p1,p2,p3.mono ?_⟩;rintro e w2 ⟨rfl,q⟩;exact⟨rfl,q.from hW hn,q⟩
  have HR:Hid (Ro w (.slice ao u.first.row.length aC) u.first.row):=by rw[ea]at hrow;exact hrow
  clear h hR hsub hrow hub;generalize u.first.no=an at *;generalize u.first.row.length=al at *;go_enter func172,ntmps172
  go_wp2_with (first|(go_at_call 203;refine(HL.out _ (tr_.alloc _)).mono ?_;rintro e w1 ⟨rfl,rfl⟩)|(go_at_call 204;refine(HLE.out _ (tr_.alloc _)).mono ?_;rintro e w1 ⟨rfl,rfl⟩)|(go_at_call 201;refine(HS.out _ ((tr_.alloc _).alloc _) (new205 ⟨_,rfl⟩ ⟨_,rfl⟩)).mono ?_;rintro e w3 ⟨rfl,t3,hb3,hc3⟩;have c3:=bg hb3;clear t3 hb3)|(go_at_call 205;refine hc3.mono ?_;rintro e w4 ⟨rfl,q1,q2⟩;obtain⟨k1,k2⟩:=two205 q2.rec205.1;obtain⟨y0,y1⟩:=bF k1;obtain⟨z0,z1⟩:=bF k2;have f0:w4.frozen? ⟨w.heap.size,0,none⟩=false:=(by simp[World.frozen?,k1]);have f1:w4.frozen? ⟨w.heap.size,1,none⟩=false:=(by simp[World.frozen?,k1]);have K1:Hid _:=k1;have hk85:KT 85 _ w4:=q2.rec205.2;clear q2 k1 k2 hc3))
  refine bodyPost_ret (v:=.tuple #[.agg #[.int .i64 an,.slice ao al aC],.bool true]) (by simp[results,results172,go_sem,y0,y1]) rfl ⟨rfl,?_,?_⟩
  ·exact Sl3.keep (Sl3.keep (HR.out.touch ((tr_.alloc _).alloc _)) hk85) (((Touch.refl [w.heap.size] w4).setCell (p:=⟨w.heap.size,0,none⟩) (by simp) _).setCell (p:=⟨w.heap.size,1,none⟩) (by simp) _ |>.tag (nO K1.out (by decide)))
  ·exact q1.box205 K1.out (e_ _) (((Touch.refl [w.heap.size] w4).setCell (p:=⟨w.heap.size,0,none⟩) (by simp) _).setCell (p:=⟨w.heap.size,1,none⟩) (by simp) _)
theorem DL.start (hown:PO w gv G)(hR:RS w bx bm blk cols d M (G++rest) none)(hl:Left d k j):DL w bx bm blk cols d M gv G rest k j 0 w:=
 ⟨⟨d,M,hR,hl,rfl,Sub.refl _ _⟩,hown,Touch.refl _ _⟩
structure Deleted (w w':World)(bx bm blk cols:Nat)(d:DS)(M:List PF)(rest:List RI)(k j:Nat):Prop where
 st:∃d' M',RS w' bx bm blk cols d' M' rest none/\Left d' k j/\d'.last=d.last/\Sub w (rowsOf M') (rowsOf M)
 touch:Touch [bx,bm] w w'
theorem DL.end (h:DL w bx bm blk cols d M gv G rest k j i wr)(hi:G.length<=i):Deleted w wr bx bm blk cols d M rest k j:=by
 obtain⟨d',M',h1,h2⟩:=h.st;rw[List.drop_eq_nil_of_le hi,List.nil_append]at h1;exact⟨⟨d',M',h1,h2⟩,h.touch⟩
theorem deleteAll_any (w:World)(bx bm blk cols:Nat)(d:DS)(M:List PF)(gv:Value)(G rest:List RI)(m j:Nat)(hown:PO w gv G)(hR:RS w bx bm blk cols d M (G++rest) none)(hl:Left d m j) :
  Calls prog 166 #[gv] w λe w'=>e=.returned (.tuple #[])/\Deleted w w' bx bm blk cols d M rest m j:=by
 have H0:Hid (DL w bx bm blk cols d M gv G rest m j 0 w):=DL.start hown hR hl;obtain⟨g,o,cap,cur,rfl,_⟩:=hown;obtain⟨_,hc1,hc2,_⟩:=H0.out.own.cell;unfold maxLen at hc2;clear hR hl;go_enter func166,ntmps166;go_wp2
 go_loopw [6] (λi wr=>∃k:Nat,k<=G.length/\i=.int .i64 k/\DL w bx bm blk cols d M (.slice (some ⟨g,o,none⟩) G.length cap) G rest m j k wr) (λi _=>G.length-(intOf i).toNat)
 case atStart=>exact⟨0,by omega,rfl,H0.out⟩
 case round=>
  obtain⟨k,hk,rfl,hI⟩:=hrel;by_cases hlt:k<G.length
  ·have c0:=hI.own.cell.2.2.2 k hlt;have hst:=hI.step hlt;unfold RI.ptr at c0 hst
   go_wp2_with (go_at_call 104;refine hst.mono ?_;rintro e w1 ⟨rfl,hI1⟩)
   go_roundw
   case rel=>exact⟨k+1,by omega,by go_num,hI1⟩
   case measure=>simp[intOf];omega
  ·go_wp2
   go_end0
   exact⟨rfl,hI.end (by omega)⟩
theorem dL (w:World)(bx bm blk cols:Nat)(d:DS)(M:List PF)(gv:Value)(G rest:List RI)(m j:Nat)(u:FrameMode)(hown:PO w gv G)(hR:RS w bx bm blk cols d M (G++rest) none)(hl:Left d m j) :
  CallsD prog 166 #[gv] u w λe u' w'=>u'=u/\e=.returned (.tuple #[])/\Deleted w w' bx bm blk cols d M rest m j:=by
 have H0:Hid (DL w bx bm blk cols d M gv G rest m j 0 w):=DL.start hown hR hl;obtain⟨g,o,cap,cur,rfl,_⟩:=hown;obtain⟨_,hc1,hc2,_⟩:=H0.out.own.cell;unfold maxLen at hc2;clear hR hl
 go_enter_d func166,ntmps166
 go_wp2
 go_loopw [6] (λi wr=>∃k:Nat,k<=G.length/\i=.int .i64 k/\DL w bx bm blk cols d M (.slice (some ⟨g,o,none⟩) G.length cap) G rest m j k wr) (λi _=>G.length-(intOf i).toNat)
 case atStart=>exact⟨0,by omega,rfl,H0.out⟩
 case round=>
  obtain⟨k,hk,rfl,hI⟩:=hrel;by_cases hlt:k<G.length
  ·have c0:=hI.own.cell.2.2.2 k hlt;have hst:=hI.step hlt;unfold RI.ptr at c0 hst
   go_wp2_with (go_at_call 104;refine hst.mono ?_;rintro e w1 ⟨rfl,hI1⟩)
   go_roundw
   case rel=>exact⟨k+1,by omega,by go_num,hI1⟩
   case measure=>simp[intOf];omega
  ·go_wp2
   go_end0
   exact⟨rfl,hI.end (by omega)⟩
structure NM (w:World)(pm ph bf ps:Nat)(ks:List K)(bx bm blk cols:Nat)(d:DS)(M:List PF)(pre:List RI)(o:Option RI)(gv:Value)(G:List RI)(i:Nat)(wr:World):Prop where
 st:∃hv L,MG wr w.heap.size pm ph hv bf ps ks G L/\((L.map CU.cur).map Cur.left).flatten.Perm ((G.take i).map RI.recs).flatten/\L.length<=i
 runs:RS wr bx bm blk cols d M pre o
 own:PO wr gv G
 touch:Touch [bx] w wr
theorem Cj.push {x:CU}(h:Cj w ks R L)(h1:Rj w x.rd x.run.r x.run.cs x.rest)(h2:x.run∈R)(h3:∃done,x.run.recs=done++x.first::x.rest)(h4:∀u∈L,u.ptr≠x.ptr)(h5:∀u∈L,u.rd≠x.rd):Cj w ks R (L++[x]):=by
 refine⟨λu hu=>?_,λu hu=>?_,λu hu=>?_,h.able,?_,?_⟩
 ·rcases d_.1 hu with hu|hu
  ·exact h.rds u hu
  ·rw[ms_ hu];exact h1
 ·rcases d_.1 hu with hu|hu
  ·exact h.mem u hu
  ·rw[ms_ hu];exact h2
 ·rcases d_.1 hu with hu|hu
  ·exact h.part u hu
  ·rw[ms_ hu];exact h3
 ·rw[w_];refine ad_.2 ⟨h.ptrs,by simp,λa ha b hb e=>?_⟩;obtain⟨u,hu,rfl⟩:=z_.1 ha;simp at hb;exact h4 u hu (e.trans hb)
 ·rw[w_];refine ad_.2 ⟨h.reads,by simp,λa ha b hb e=>?_⟩;obtain⟨u,hu,rfl⟩:=z_.1 ha;simp at hb;exact h5 u hu (e.trans hb)
section
variable {w wr:World} {pm ph bf ps:Nat} {ks:List K} {bx bm blk cols:Nat} {d:DS} {M:List PF} {pre:List RI} {o:Option RI} {gv:Value} {G:List RI} {i:Nat}
theorem RS.mgKeep (h:RS wr bx bm blk cols d M pre o)(t:Touch [bx] wr w')(ps:Nat):MgKeep ps wr w':=by
 have hb:=h.pd.disk;have k:∀t',(117:TypeId)≠t'->KT t' wr w':=λt' ht=>t.tag (nO hb ht);exact⟨k _ (by decide),k _ (by decide),k _ (by decide),k _ (by decide),k _ (by decide),k _ (by decide),k _ (by decide),k _ (by decide),(k _ (by decide)).key ps⟩
theorem NM.read (h:NM w pm ph bf ps ks bx bm blk cols d M pre o gv G i wr)(t:Touch [bx] wr w')(hP:PD w' bx bm d M):NM w pm ph bf ps ks bx bm blk cols d M pre o gv G i w':=by
 obtain⟨hv,L,h1,h2⟩:=h.st;have hb:=h.runs.pd.disk;have k:∀t',(117:TypeId)≠t'->KT t' wr w':=λt' ht=>t.tag (nO hb ht);exact⟨⟨hv,L,h1.keep (h.runs.mgKeep t ps),h2⟩,h.runs.turned hP t (nO hb (by decide)) (nO hb (by decide)),h.own.keep (k _ (by decide)),h.touch.trans t⟩
theorem NM.quiet (h:NM w pm ph bf ps ks bx bm blk cols d M pre o gv G i wr)(t:Touch [] wr w'):NM w pm ph bf ps ks bx bm blk cols d M pre o gv G i w':=
 h.read (t.mono (by simp)) (h.runs.pd.away t (by simp))
theorem take_recs (hi:i<G.length):((G.take (i+1)).map RI.recs).flatten=((G.take i).map RI.recs).flatten++G[i].recs:=by
 rw[take_snoc' G i hi,w_,ab_];simp only[List.map_cons,List.map_nil,List.flatten_cons,List.flatten_nil,H_]
theorem NM.empty (h:NM w pm ph bf ps ks bx bm blk cols d M pre o gv G i wr)(hi:i<G.length)(he:G[i].recs=[]):NM w pm ph bf ps ks bx bm blk cols d M pre o gv G (i+1) wr:=by
 obtain⟨hv,L,h1,h2,h3⟩:=h.st;exact⟨⟨hv,L,h1,by rw[take_recs hi,he,H_];exact h2,by omega⟩,h.runs,h.own,h.touch⟩
theorem RI.Done.recs {w:World}{bx blk:Nat}{d:DS}{x:RI}(h:x.Done w bx blk d):x.recs=x.cs.flatten:=by simp[RI.recs,h.2]
theorem nm_nil (h:NM w pm ph bf ps ks bx bm blk cols d M pre o gv G i wr)(hsub:∀x∈G,x∈pre)(hi:i<G.length)(he:G[i].recs=[]) :
  Calls prog 116 #[G[i].ptr] wr λe w1=>e=.returned (.pointer (some ⟨wr.heap.size,0,none⟩)) /\
   Calls prog 201 #[.pointer (some ⟨w1.heap.size,0,none⟩)] (w1.alloc (.cells #[.pointer (some ⟨wr.heap.size,0,none⟩),.int .i64 0,.slice none 0 0] 307)) λe w2=>e=.returned (.bool false)/\NM w pm ph bf ps ks bx bm blk cols d M pre o gv G (i+1) w2:=by
 have hD:=h.runs.done G[i] (hsub _ (m_ hi));refine(rZ wr G[i].r G[i].cs).mono ?_;rintro e w1 ⟨rfl,p1,p2,t1⟩;refine⟨rfl,?_⟩;have t1':Touch [] wr (w1.alloc (.cells #[.pointer (some ⟨wr.heap.size,0,none⟩),.int .i64 0,.slice none 0 0] 307)):=t1.alloc _;have h1:=h.quiet t1';rw[<-hD.recs,he]at p1;refine(advance_nil _ w1.heap.size wr.heap.size G[i].r bx blk G[i].file G[i].cols 0 (.slice none 0 0) G[i].cs d (heap_alloc_new w1 _) (h1.runs.done G[i] (hsub _ (m_ hi))).1 (p1.touch (tr_.alloc _).u (by simp))).mono ?_;rintro e w2 ⟨rfl,_,t2⟩;exact⟨rfl,(h.quiet (t1'.more t2 (λk hk=>.inr (by rw[ms_ hk];omega)))).empty hi he⟩
theorem nm_cons (h:NM w pm ph bf ps ks bx bm blk cols d M pre o gv G i wr)(hsub:∀x∈G,x∈pre)(hi:i<G.length)(hsm:G.length<=10000000)(hc1:1<=cols)(hlast:d.last<=1000000000)(he:G[i].recs=y::l) :
  Calls prog 116 #[G[i].ptr] wr λe w1=>e=.returned (.pointer (some ⟨wr.heap.size,0,none⟩)) /\
   Calls prog 201 #[.pointer (some ⟨w1.heap.size,0,none⟩)] (w1.alloc (.cells #[.pointer (some ⟨wr.heap.size,0,none⟩),.int .i64 0,.slice none 0 0] 307)) λe w2=>e=.returned (.bool true)/\w2.heap[pm]?=some (.cells #[.pointer (some ⟨ph,0,none⟩)] 310 (0,0)) /\
    Calls prog 202 #[.pointer (some ⟨ph,0,none⟩),.pointer (some ⟨w1.heap.size,0,none⟩)] w2 λe w3=>e=.returned (.tuple #[])/\NM w pm ph bf ps ks bx bm blk cols d M pre o gv G (i+1) w3:=by
 have hm:=hsub _ (m_ hi);have hmo:G[i]∈pre++o.toList:=by simp[hm]
 have hD:=h.runs.done G[i] hm;have hne:G[i].recs≠[]:=by rw[he];simp
 have hall:∀z∈y::l,Rh blk G[i].cols z:=λz hz=>by
  rw[h.runs.col G[i] hmo hne];exact h.runs.recs G[i] hmo z (by rw[he];exact hz)
 have hlen:=h.runs.len G[i] hmo;have hkn:=h.runs.known G[i] hmo;have hcol:=h.runs.col G[i] hmo hne;have hc2:=h.runs.c2;have hb2:=h.runs.b2;refine(rZ wr G[i].r G[i].cs).mono ?_;rintro e w1 ⟨rfl,p1,p2,t1⟩;refine⟨rfl,?_⟩;have t1':Touch [] wr (w1.alloc (.cells #[.pointer (some ⟨wr.heap.size,0,none⟩),.int .i64 0,.slice none 0 0] 307)):=t1.alloc _;have h1:=h.quiet t1';have hD1:=h1.runs.done G[i] hm;rw[<-hD.recs,he]at p1;refine(aV _ w1.heap.size wr.heap.size G[i].r bx bm blk G[i].file G[i].cols 0 (.slice none 0 0) G[i].cs d M y l (heap_alloc_new w1 _) hD1.1 (p1.touch (tr_.alloc _).u (by simp)) h1.runs.pd h1.runs.ok hall (by omega) (by omega) (by omega) (by omega) (λc hc=>by have:=(hD1.1.full c hc).2;omega)).mono ?_;rintro e w2 ⟨r,rfl,q1,q2,q3,q4,t2⟩;have t2':Touch [bx] wr w2:=(t1'.mono (by simp)).more t2 (λk hk=>by
  simp only[a_,i_,or_false]at hk;rcases hk with rfl|rfl|rfl
  ·exact .inr (by omega)
  ·exact .inr (e_ _)
  ·exact .inl (by simp))
 have h2:=h.read t2' q4;obtain⟨hv,L,a1,a2,a3⟩:=h.st;have b1:=a1.keep (h.runs.mgKeep t2' ps);refine⟨rfl,b1.box,?_⟩;have hold:∀u∈L,u.ptr<wr.heap.size/\u.rd<wr.heap.size:=λu hu=>⟨(agi.1 (a1.heap.rows u hu).box).1,by
  obtain⟨c,hc⟩:=(a1.cad.rds u hu).cell;exact(agi.1 hc).1⟩
 have hx:CBox w2 ks ⟨w1.heap.size,wr.heap.size,.slice (some ⟨r,0,none⟩) G[i].cols G[i].cols,G[i],y,l⟩:=⟨q1,q2,a1.cad.able G[i] (m_ hi) y (by rw[he];simp)⟩;refine(cpush_any w2 ph hv bf ps ks L ⟨w1.heap.size,wr.heap.size,.slice (some ⟨r,0,none⟩) G[i].cols G[i].cols,G[i],y,l⟩ b1.heap hx (by omega)).mono ?_;rintro e w3 ⟨rfl,v',L',r1,r2,t3,r4⟩;have nt:∀t':TypeId,(331:TypeId)≠t'->(305:TypeId)≠t'->NT t' w2 (h_ ph hv):=λt' e1 e2=>b1.heap.nT e1 e2;have hcs:=(b1.cad.push (x:=⟨w1.heap.size,wr.heap.size,.slice (some ⟨r,0,none⟩) G[i].cols G[i].cols,G[i],y,l⟩) q3 (m_ hi) ⟨[],by simp[he]⟩ (λu hu e=>by have:=hold u hu;simp only at e;omega) (λu hu e=>by have:=hold u hu;simp only at e;omega)).keep (t3.tag (nt 241 (by decide) (by decide)));have hwr:=h.touch.size;have hnew:∀k∈h_ ph hv,w.heap.size<=k:=λk hk=>by
  rcases a_.1 hk with rfl|hk
  ·exact a1.newH
  ·exact a1.newV k (by simpa using hk)
 have hdisk:PD w3 bx bm d M:=h2.runs.pd.other t3 (λk hk=>by
  rcases a_.1 hk with rfl|hk
  ·exact⟨_,_,_,b1.heap.head,by decide,by decide⟩
  ·obtain⟨cs,f,hc⟩:=b1.heap.items.tag k (by simpa using hk);exact⟨_,_,_,hc,by decide,by decide⟩)
 refine⟨rfl,⟨v',L',⟨t3.tag (nt 310 (by decide) (by decide)) _ _ _ b1.box,r1,hcs.perm r2,a1.newH,λk hk=>?_,λu hu=>?_⟩,?_,?_⟩,h2.runs.turned hdisk t3 (nt _ (by decide) (by decide)) (nt _ (by decide) (by decide)),h2.own.keep (t3.tag (nt _ (by decide) (by decide))),h2.touch.more t3 (λk hk=>.inr (hnew k hk))⟩
 ·rcases r4 k hk with e|e
  ·exact a1.newV k e
  ·have:=t2'.size;omega
 ·rcases d_.1 (r2.mem_iff.1 hu)with hu|hu
  ·exact a1.newC u hu
  ·rw[ms_ hu];exact⟨by show _<=w1.heap.size;omega,hwr⟩
 ·rw[take_recs hi];have hq:=((r2.map CU.cur).map Cur.left).flatten;refine hq.trans ?_;simp only[w_,List.map_cons,List.map_nil,ab_,List.flatten_cons,List.flatten_nil,H_];refine List.Perm.append a2 ?_;rw[he];exact List.Perm.refl _
 ·rw[r2.length_eq];simp;omega
end
theorem cheapsNew_any (w:World)(bf:Nat):Calls prog 199 #[.func (.func 200) #[] #[.pointer (some ⟨bf,0,none⟩)]] w λe w'=>e=.returned (.pointer (some ⟨w.heap.size,0,none⟩))/\w'=w.alloc (.cells (caj (.slice none 0 0) bf) 331):=by
 go_enter func199,ntmps199;go_wp2;go_ret;exact⟨rfl,rfl⟩
theorem NM.start (hS:Sr w ps s)(hK:KA w s.kv ks)(hR:RS w bx bm blk cols d M pre o)(hown:PO w gv G)(hable:∀x∈G,∀y∈x.recs,AB ks y.row) :
  NM w (w.heap.size+2) (w.heap.size+1) w.heap.size ps ks bx bm blk cols d M pre o gv G 0 (((w.alloc (.cells #[.func (.func 165) #[.pointer (some ⟨ps,0,none⟩)] #[]] 264)).alloc (.cells (caj (.slice none 0 0) w.heap.size) 331)).alloc (.cells #[.pointer (some ⟨w.heap.size+1,0,none⟩)] 310)):=by
 have t:Touch [] w (((w.alloc (.cells #[.func (.func 165) #[.pointer (some ⟨ps,0,none⟩)] #[]] 264)).alloc (.cells (caj (.slice none 0 0) w.heap.size) 331)).alloc (.cells #[.pointer (some ⟨w.heap.size+1,0,none⟩)] 310)):=((tr_.alloc _).alloc _).alloc _;have e2:((w.alloc (.cells #[.func (.func 165) #[.pointer (some ⟨ps,0,none⟩)] #[]] 264)).alloc (.cells (caj (.slice none 0 0) w.heap.size) 331)).heap.size=w.heap.size+2:=by simp
 have e1:(w.alloc (.cells #[.func (.func 165) #[.pointer (some ⟨ps,0,none⟩)] #[]] 264)).heap.size=w.heap.size+1:=by simp
 have b0:=heap_alloc_new w (.cells #[.func (.func 165) #[.pointer (some ⟨ps,0,none⟩)] #[]] 264);have b1:=heap_alloc_new (w.alloc (.cells #[.func (.func 165) #[.pointer (some ⟨ps,0,none⟩)] #[]] 264)) (.cells (caj (.slice none 0 0) w.heap.size) 331);have b2:=heap_alloc_new ((w.alloc (.cells #[.func (.func 165) #[.pointer (some ⟨ps,0,none⟩)] #[]] 264)).alloc (.cells (caj (.slice none 0 0) w.heap.size) 331)) (.cells #[.pointer (some ⟨w.heap.size+1,0,none⟩)] 310);rw[e1]at b1;rw[e2]at b2;refine⟨⟨.slice none 0 0,[],⟨b2,⟨?_,CW.nil _,⟨?_,s.cells,(0,0),s.kv,t.tu _ _ _ _ hS,by simp[SC.cells],Sl3.keep hK (t.tu _)⟩,by simp,He.nil⟩,⟨by simp,by simp,by simp,hable,by simp,by simp⟩,by omega,by simp[Value.ownBlock],by simp⟩,by simp,by simp⟩,hR.turned (hR.pd.away t (by simp)) t (by intro k hk;simp at hk) (by intro k hk;simp at hk),hown.keep (t.tu _),t.mono (by simp)⟩
 ·exact(Below.heap_alloc _ _ _ (by simp)).trans b1
 ·exact(Below.heap_alloc _ _ _ (by simp;omega)).trans ((Below.heap_alloc _ _ _ (by simp)).trans b0)
structure MgReady (w w':World)(ps:Nat)(ks:List K)(bx bm blk cols:Nat)(d:DS)(M:List PF)(pre:List RI)(o:Option RI)(G:List RI)(pm:Nat):Prop where
 st:∃ph hv bf L,MG w' w.heap.size pm ph hv bf ps ks G L/\Me ks (G.map RI.recs).flatten (L.map CU.cur) []/\L.length<=G.length
 runs:RS w' bx bm blk cols d M pre o
 touch:Touch [bx] w w'
theorem NM.ready (h:NM w pm ph bf ps ks bx bm blk cols d M pre o gv G i wr)(hi:i=G.length)(hs:∀x∈G,Srt ks x.recs):MgReady w wr ps ks bx bm blk cols d M pre o G pm:=by
 subst hi;obtain⟨hv,L,h1,h2,h3⟩:=h.st;rw[bf_]at h2;refine⟨⟨ph,hv,bf,L,h1,(Me.start (heap_cur h1.heap.ok) (λc hc=>?_)).of_perm h2,h3⟩,h.runs,h.touch⟩;obtain⟨u,hu,rfl⟩:=z_.1 hc;obtain⟨dn,hd⟩:=h1.cad.part u hu;have:=hs u.run (h1.cad.mem u hu);rw[hd]at this;exact(av_.1 this).2.1
theorem nY (w:World)(ps:Nat)(s:SC)(ks:List K)(bx bm blk cols:Nat)(d:DS)(M:List PF)(pre:List RI)(o:Option RI)(gv:Value)(G:List RI)(hS:Sr w ps s)(hK:KA w s.kv ks)(hR:RS w bx bm blk cols d M pre o)(hown:PO w gv G)(hable:∀x∈G,∀y∈x.recs,AB ks y.row)(hsub:∀x∈G,x∈pre)(hsm:G.length<=10000000)(hc1:1<=cols)(hlast:d.last<=1000000000)(hs:∀x∈G,Srt ks x.recs) :
  Calls prog 171 #[gv,.func (.func 165) #[.pointer (some ⟨ps,0,none⟩)] #[]] w λe w'=>e=.returned (.pointer (some ⟨w.heap.size+2,0,none⟩))/\MgReady w w' ps ks bx bm blk cols d M pre o G (w.heap.size+2):=by
 have H0:=NM.start hS hK hR hown hable;obtain⟨g,of,cap,cur,rfl,_⟩:=hown;obtain⟨_,hp1,hp2,_⟩:=H0.own.cell;unfold maxLen at hp2;have hmf:∀(fn:Fn) (first cap:Array Value) (w:World),(Instr.makeFunc fn first cap).run prog w=.ok (.func fn first cap) w:=λ_ _ _ _=>rfl;have HS:Hid (∀x∈G,Srt ks x.recs):=hs;have HSUB:Hid (∀x∈G,x∈pre):=hsub;clear hS hK hR hable hs hsub;go_enter func171,ntmps171
 go_wp2_with (go_at_call 199;refine(cheapsNew_any _ w.heap.size).mono ?_;rintro e w1 ⟨rfl,rfl⟩)
 go_loopw [15] (λi wr=>∃k:Nat,k<=G.length/\i=.int .i64 k/\NM w (w.heap.size+2) (w.heap.size+1) w.heap.size ps ks bx bm blk cols d M pre o (.slice (some ⟨g,of,none⟩) G.length cap) G k wr) (λi _=>G.length-(intOf i).toNat)
 case atStart=>exact⟨0,by omega,rfl,H0⟩
 case round=>
  clear H0;obtain⟨k,hk,rfl,hI⟩:=hrel;by_cases hlt:k<G.length
  ·have c0:=hI.own.cell.2.2.2 k hlt;cases hr:G[k].recs with
   | nil=>
    have hst:=nm_nil hI HSUB.out hlt hr;unfold RI.ptr at c0 hst
    go_wp2_with (first|(go_at_call 116;refine hst.mono ?_;rintro e w1 ⟨rfl,hst1⟩)|(go_at_call 201;refine hst1.mono ?_;rintro e w2 ⟨rfl,hI2⟩))
    go_roundw
    case rel=>exact⟨k+1,by omega,by go_num,hI2⟩
    case measure=>simp[intOf];omega
   | cons y l=>
    have hst:=nm_cons hI HSUB.out hlt hsm hc1 hlast hr;unfold RI.ptr at c0 hst
    go_wp2_with (first|(go_at_call 116;refine hst.mono ?_;rintro e w1 ⟨rfl,hst1⟩)|(go_at_call 201;refine hst1.mono ?_;rintro e w2 ⟨rfl,hb2,hst2⟩;have q0:=bg hb2)|(go_at_call 202;refine hst2.mono ?_;rintro e w3 ⟨rfl,hI3⟩))
    go_roundw
    case rel=>exact⟨k+1,by omega,by go_num,hI3⟩
    case measure=>simp[intOf];omega
  ·go_wp2;go_ret;exact⟨rfl,hI.ready (by omega) HS.out⟩
section
variable {w w':World} {bx bm blk cols:Nat} {d:DS} {M:List PF} {pre:List RI} {o:Option RI}
theorem runsNew_any (m j:Nat)(h:RS w bx bm blk cols d M pre none)(hl:Left d m (j+1)) :
  Calls prog 112 #[.agg #[.pointer (some ⟨bx,0,none⟩),.int .i64 (blk:Int)]] w λe w'=>∃x:RI,e=.returned x.ptr/\w.heap.size<=x.r/\x.recs=[]/\∃d' M',RS w' bx bm blk cols d' M' pre (some x)/\Left d' m j/\d'.last=d.last+1/\rowsOf M'=rowsOf M/\Touch [bx,bm] w w':=by
 have h1:=hl.last;have h2:=h.ok.last;obtain⟨file,hf⟩:∃file:Nat,(file:Int)=d.last+1:=⟨(d.last+1).toNat,by omega⟩;refine(sad w bx bm blk file d M h.pd h.ok (by omega) hf h.b1).mono ?_;rintro e w' ⟨r,rfl,hr,d',M',p1,p2,p3,p4,p5,p6,p7,p8,p9⟩;refine⟨⟨r,file,0,.slice none 0 0,[],[]⟩,rfl,hr,rfl,d',M',h.fresh p1 p2 p3 p4 hf p9,?_,p4,p8,p9⟩;obtain⟨a,b,c,e⟩:=hl;have:=p3.blocks;exact⟨by omega,by omega,by omega,by omega⟩
theorem runsAdd_any (m j:Nat)(y:Rec)(rv:Value)(h:RS w bx bm blk cols d M pre (some x))(hy:Rh blk cols y)(hrow:Ro w rv y.row)(hn:x.recs.length<1000000)(hl:Left d (m+1) j) :
  Calls prog 113 #[x.ptr,.agg #[.int .i64 y.no,rv]] w λe w'=>e=.returned (.tuple #[])/\∃(x':RI) (d':DS) (M':List PF),RS w' bx bm blk cols d' M' pre (some x')/\x'.r=x.r/\x'.recs=x.recs++[y]/\Left d' m j/\d'.last=d.last/\Sub w (rowsOf M') (rowsOf M)/\TU (x.r::dI bx bm M) w w':=by
 have hxm:x∈pre++(some x).toList:=by simp
 have h1:=hl.last;have h2:=h.known x hxm;have h3:=h.len x hxm;refine(add_any w x.r bx bm blk x.file cols x.cols x.v rv x.cs x.cur y d M (h.opn x rfl) h.pd h.ok hrow hy (λz hz=>h.recs x hxm z hz) h.c2 h.block h.b2 (by omega) (by omega) (hl.mono (by omega) (e_ _):Left d 1 j).roomy).mono ?_;rintro e w' ⟨rfl,v',cs',cur',d',M',k,hk,p1,p2,p3,p4,p5⟩;refine⟨rfl,⟨x.r,x.file,cols,v',cs',cur'⟩,d',M',h.added hy hn p1 p2 p4 p5,rfl,?_,(hl.mono (by omega) (e_ _):Left d (m+k) j).wrote p4,p4.last,p4.rows,p5⟩;simp only[RI.recs];exact p2
theorem runsEnd_any (m j:Nat)(h:RS w bx bm blk cols d M pre (some x))(hl:Left d (m+1) j) :
  Calls prog 114 #[x.ptr] w λe w'=>e=.returned (.tuple #[])/\∃(x':RI) (d':DS) (M':List PF),RS w' bx bm blk cols d' M' (pre++[x']) none/\x'.r=x.r/\x'.recs=x.recs/\Left d' m j/\d'.last=d.last/\Sub w (rowsOf M') (rowsOf M)/\Touch (x.r::dI bx bm M) w w':=by
 have hxm:x∈pre++(some x).toList:=by simp
 have hk:=h.known x hxm;have hll:=hl.last;have hlen:=h.len x hxm;refine(runEnd_any w x.r bx bm blk x.file x.cols x.v x.cs x.cur d M (h.opn x rfl) h.pd h.ok (λy hy=>(h.recs x hxm y (by simp[RI.recs,hy])).fair) h.block h.b2 (by omega) (by omega) (hl.mono (by omega) (e_ _):Left d 1 j).roomy).mono ?_;rintro e w' ⟨rfl,cs',d',M',k,hk1,p1,p2,p3,p4,p5⟩;exact⟨rfl,⟨x.r,x.file,x.cols,.slice none 0 0,cs',[]⟩,d',M',h.ended p1 p2 p4 p5,rfl,by simp[RI.recs,p2],(hl.mono (by omega) (e_ _):Left d (m+k) j).wrote p4,p4.last,p4.rows,p5⟩
theorem RS.runTag (h:RS w bx bm blk cols d M pre (some x))(h1:117≠t)(h2:9≠t)(h3:223≠t):NT t w (x.r::dI bx bm M):=
 (h.nT h1 h2 h3).sub (λk hk=>by
  rcases a_.1 hk with rfl|hk
  ·simp[rF]
  ·simp only[rF,d_];exact .inr hk)
theorem RS.mgKeepU (h:RS w bx bm blk cols d M pre (some x))(t:TU (x.r::dI bx bm M) w w')(ps:Nat):MgKeep ps w w':=by
 have k:∀t',t'≠5->(117:TypeId)≠t'->(9:TypeId)≠t'->(223:TypeId)≠t'->KT t' w w':=λt' h5 h1 h2 h3=>t.tag h5 (h.runTag h1 h2 h3);exact⟨k _ (by decide) (by decide) (by decide) (by decide),k _ (by decide) (by decide) (by decide) (by decide),k _ (by decide) (by decide) (by decide) (by decide),k _ (by decide) (by decide) (by decide) (by decide),k _ (by decide) (by decide) (by decide) (by decide),k _ (by decide) (by decide) (by decide) (by decide),k _ (by decide) (by decide) (by decide) (by decide),k _ (by decide) (by decide) (by decide) (by decide),(k _ (by decide) (by decide) (by decide) (by decide)).key ps⟩
end
theorem PO.ptrs (h:PO w v R)(e:R'.map RI.ptr=R.map RI.ptr):PO w v R':=by
 have hl:R'.length=R.length:=by simpa using congrArg List.length e
 obtain⟨g,o,cap,cur,h1,h2,h3,h4,h5,h6⟩:=h;refine⟨g,o,cap,cur,by rw[hl];exact h1,h2,by omega,h4,h5,λi hi=>?_⟩;rw[h6 i (by omega)];have:(R'.map RI.ptr)[i]?=(R.map RI.ptr)[i]?:=by rw[e]
 simp only[M_,p_ hi,p_ (show i<R.length by omega),Option.map_some,j_]at this;rw[this]
structure MF (w0:World)(F:List Nat)(lo ps:Nat)(s:SC)(ks:List K)(bm cols pm ph bf:Nat)(pre G:List RI)(gv:Value)(rest:List RI)(r m j:Nat)(la:Int)(all:List Rec)(k:Nat)(wr:World):Prop where
 st:∃hv L out x d M,MG wr lo pm ph hv bf ps ks G L/\Me ks all (L.map CU.cur) out/\out.length=k/\L.length<=1000000/\RS wr s.bx bm s.blk cols d M pre (some x)/\x.r=r/\x.recs=out/\Left d (all.length-k+(m+1)) j/\d.last=la/\Sub w0 (dI s.bx bm M) F/\(x.r∈F\/w0.heap.size<=x.r)
 sorter:Sr wr ps s
 keys:KA wr s.kv ks
 own:∃x0:RI,x0.r=r/\PO wr s.rv (rest++[x0])
 grp:PO wr gv G
 touch:TU F w0 wr
theorem flat_len (L:List CU):L.length<=((L.map CU.cur).map Cur.left).flatten.length:=by
 induction L with
 | nil=>simp
 | cons u T ih=>simp only[List.map_cons,List.flatten_cons,c_,List.length_cons,Cur.left,CU.cur];omega
section
variable {w0 wr:World} {F:List Nat} {lo ps:Nat} {s:SC} {ks:List K} {bm cols pm ph bf:Nat} {pre G:List RI} {gv:Value} {rest:List RI} {r m j:Nat} {la:Int} {all:List Rec} {k:Nat}
theorem MF.quiet {w':World}(h:MF w0 F lo ps s ks bm cols pm ph bf pre G gv rest r m j la all k wr)(t:Touch [] wr w'):MF w0 F lo ps s ks bm cols pm ph bf pre G gv rest r m j la all k w':=by
 obtain⟨hv,L,out,x,d,M,h1,h2,h3,h4,h5,h6⟩:=h.st;obtain⟨x0,e0,h0⟩:=h.own;exact⟨⟨hv,L,out,x,d,M,h1.quiet t,h2,h3,h4,h5.quiet t (by simp) (λk hk=>by simp at hk),h6⟩,h.sorter.u t.u (by simp),Sl3.keep h.keys (t.tu _),⟨x0,e0,h0.keep (t.tu _)⟩,h.grp.keep (t.tu _),h.touch.more t.u (by simp)⟩
theorem Me.full {L:List Cur}(h:Me ks all L out)(hl:all.length<=out.length):L=[]:=by
 cases L with
 | nil=>rfl
 | cons c t=>have:=h.count (by simp);omega
theorem mf_next (h:MF w0 F lo ps s ks bm cols pm ph bf pre G gv rest r m j la all k wr)(hsub:∀x∈G,x∈pre)(hc1:1<=cols)(hsm:all.length<=900000)(hlo:w0.heap.size<=lo)(hbx:s.bx∈F)(hlt:k<all.length) :
  Calls prog 172 #[.pointer (some ⟨pm,0,none⟩)] wr λe w1=>∃(no:Int) (ao:Option Addr) (n cap:Nat),e=.returned (.tuple #[.agg #[.int .i64 no,.slice ao n cap],.bool true]) /\
   ∀W,Touch [] w1 W->Calls prog 113 #[.pointer (some ⟨r,0,none⟩),.agg #[.int .i64 no,.slice ao n cap]] W λe w2=>e=.returned (.tuple #[])/\MF w0 F lo ps s ks bm cols pm ph bf pre G gv rest r m j la all (k+1) w2:=by
 obtain⟨hv,L,out,x,d,M,h1,h2,h3,h4,h5,h6,h7,h8,h9,h10,h11⟩:=h.st;obtain⟨x0,e0,h0⟩:=h.own;cases L with
 | nil=>
  have:=h2.end.1.length_eq;omega
 | cons u T=>
  have hl8:=h8.last;have hd0:=h5.ok.last;simp only[List.length_cons]at h4;have hu:=h1.cad.mem u (by simp);obtain⟨dn,hdn⟩:=h1.cad.part u (by simp);have hrec:Rh s.blk cols u.first:=h5.recs u.run (by simp[hsub _ hu]) u.first (by rw[hdn];simp);refine(mnext_cons wr lo pm ph hv bf ps ks G u T s.bx bm s.blk cols d M pre (some x) h1 h5 hsub (by omega) hc1 (by omega)).mono ?_;rintro e w1 ⟨rfl,hrow,hN⟩;obtain⟨ao,cap,ea⟩:=hrow.shape;refine⟨u.first.no,ao,u.first.row.length,cap,by rw[ea],λW hW=>?_⟩;rw[<-ea];obtain⟨hv1,L1,a1,a2⟩:=hN.st;have a3:=a2 all out h2;obtain⟨FF,t1,mt⟩:=hN.touch;have k1:∀t,t∉[117,307,331,305,241]->KT t wr W:=λt ht=>(t1.tag (mt.nT ht)).trans (hW.tu t);have b1:=a1.quiet hW;have b2:=hN.runs.quiet hW (by simp) (λk hk=>by simp at hk);have hlen1:L1.length<=1000000:=by
   have e1:=a3.perm.length_eq;have:L1.length<=((L1.map CU.cur).map Cur.left).flatten.length:=by
    have:=flat_len L1;exact this
   rw[c_]at e1;omega
  have hxl:x.recs.length<1000000:=by rw[h7];omega
  subst h6;refine(runsAdd_any (m:=all.length-(k+1)+(m+1)) (j:=j) u.first u.rv b2 hrec (Sl3.keep hrow (hW.tu _)) hxl (h8.mono (by omega) (e_ _))).mono ?_;rintro e w2 ⟨rfl,x',d',M',q1,q2,q3,q4,q5,q6,t2⟩;have k2:∀t,t≠5->(117:TypeId)≠t->(9:TypeId)≠t->(223:TypeId)≠t->KT t W w2:=λt e5 e1 e2 e3=>t2.tag e5 (b2.runTag e1 e2 e3);have t1':TU F w0 W:=(h.touch.more t1.u (λi hi=>by
   obtain⟨_,_,_,_,_,e⟩:=mt i hi;rcases e with rfl|e
   ·exact .inl hbx
   ·exact .inr (by omega))).more hW.u (by simp)
  have t2':TU F w0 w2:=t1'.more t2 (λi hi=>by
   rcases a_.1 hi with rfl|hi
   ·exact h11
   ·exact h10 i hi)
  refine⟨rfl,⟨hv1,L1,out++[u.first],x',d',M',b1.keep (b2.mgKeepU t2 ps),a3,by rw[c_,h3];rfl,hlen1,q1,q2,by rw[q3,h7],q4,q5.trans h9,λi hi=>?_,by rw[q2];exact h11⟩,?_,?_,⟨x0,e0,?_⟩,?_,t2'⟩
  ·simp only[dI,a_]at hi;rcases hi with rfl|rfl|hi
   ·exact .inl hbx
   ·exact h10 _ (by simp[dI])
   ·rcases q6 i hi with hi|hi
    ·exact h10 _ (by simp[dI,hi])
    ·exact .inr (k_ t1'.size hi)
  ·exact k2 260 (by decide) (by decide) (by decide) (by decide) _ _ _ (k1 260 (by decide) _ _ _ h.sorter)
  ·exact Sl3.keep h.keys ((k1 73 (by decide)).trans (k2 73 (by decide) (by decide) (by decide) (by decide)))
  ·exact h0.keep ((k1 194 (by decide)).trans (k2 194 (by decide) (by decide) (by decide) (by decide)))
  ·exact h.grp.keep ((k1 194 (by decide)).trans (k2 194 (by decide) (by decide) (by decide) (by decide)))
theorem mf_over (h:MF w0 F lo ps s ks bm cols pm ph bf pre G gv rest r m j la all k wr)(hlt:k=all.length) :
  Calls prog 172 #[.pointer (some ⟨pm,0,none⟩)] wr λe w1=>e=.returned (.tuple #[.agg #[.int .i64 0,.slice none 0 0],.bool false])/\MF w0 F lo ps s ks bm cols pm ph bf pre G gv rest r m j la all k w1:=by
 obtain⟨hv,L,out,x,d,M,h1,h2,h3,_⟩:=h.st;have hL:=h2.full (by omega);rw[List.map_eq_nil_iff]at hL;subst hL;refine(mnext_nil wr lo pm ph hv bf ps ks G h1).mono ?_;rintro e w1 ⟨rfl,t⟩;exact⟨rfl,h.quiet t⟩
end
structure MfDone (w0:World)(F:List Nat)(ps:Nat)(s:SC)(ks:List K)(bm cols:Nat)(rest:List RI)(r m j:Nat)(la:Int)(all:List Rec)(w':World):Prop where
 st:∃x d M,SM w' ps s ks bm cols d M (rest++[x]) none (rest++[x])/\x.r=r/\Cut ks s.count all x.recs/\Srt ks x.recs/\Left d m j/\d.last=la/\Sub w0 (dI s.bx bm M) F
 touch:TU F w0 w'
section
variable {w0 wr:World} {F:List Nat} {lo ps:Nat} {s:SC} {ks:List K} {bm cols pm ph bf:Nat} {pre G:List RI} {gv:Value} {rest:List RI} {r m j:Nat} {la:Int} {all:List Rec} {k:Nat}
theorem mf_end (h:MF w0 F lo ps s ks bm cols pm ph bf pre G gv rest r m j la all k wr)(hlt:k=all.length\/s.count<=k)(hpre:pre=G++rest)(hbx:s.bx∈F)(hbm:bm∈F) :
  Calls prog 114 #[.pointer (some ⟨r,0,none⟩)] wr λe w1=>e=.returned (.tuple #[]) /\
   CallsD prog 166 #[gv] .returning w1 λe u' w2=>u'=.returning/\e=.returned (.tuple #[])/\MfDone w0 F ps s ks bm cols rest r m j la all w2:=by
 obtain⟨hv,L,out,x,d,M,h1,h2,h3,h4,h5,h6,h7,h8,h9,h10,h11⟩:=h.st;obtain⟨x0,e0,h0⟩:=h.own;have z1:Cut ks s.count all out:=h2.cut (by
  rcases hlt with hlt|hlt
  ·exact .inr (h2.full (by omega))
  ·exact .inl (by omega))
 have z2:=h2.sorted;subst h6;refine(runsEnd_any (m:=m) (j:=j) h5 (h8.mono (by omega) (e_ _))).mono ?_;rintro e w1 ⟨rfl,x',d',M',q1,q2,q3,q4,q5,q6,t1⟩;refine⟨rfl,?_⟩;have k1:∀t,(117:TypeId)≠t->(9:TypeId)≠t->(223:TypeId)≠t->KT t wr w1:=λt e1 e2 e3=>t1.tag (h5.runTag e1 e2 e3);have hR:RS w1 s.bx bm s.blk cols d' M' (G++(rest++[x'])) none:=by rw[<-F_,<-hpre];exact q1
 have t1':TU F w0 w1:=h.touch.more t1.u (λi hi=>by
  rcases a_.1 hi with rfl|hi
  ·exact h11
  ·exact h10 i hi)
 have hS1:Sub w0 (dI s.bx bm M') F:=λi hi=>by
  simp only[dI,a_]at hi;rcases hi with rfl|rfl|hi
  ·exact .inl hbx
  ·exact .inl hbm
  ·rcases q6 i hi with hi|hi
   ·exact h10 _ (by simp[dI,hi])
   ·exact .inr (k_ h.touch.size hi)
 refine(dL w1 s.bx bm s.blk cols d' M' gv G (rest++[x']) m j .returning (h.grp.keep (k1 194 (by decide) (by decide) (by decide))) hR q4).mono ?_;rintro e u' w2 ⟨rfl,rfl,hD⟩;obtain⟨d2,M2,r1,r2,r3,r4⟩:=hD.st;have k2:∀t,(117:TypeId)≠t->(9:TypeId)≠t->KT t w1 w2:=λt e1 e2=>hD.touch.tag ((q1.pd.nT e1 e2).sub (λi hi=>by
  simp only[a_,i_,or_false]at hi;rcases hi with rfl|rfl<;>simp[dI]))
 refine⟨rfl,rfl,⟨x',d2,M2,⟨?_,?_,r1,?_⟩,q2,by rw[q3,h7];exact z1,by rw[q3,h7];exact z2,r2,r3.trans (q5.trans h9),λi hi=>?_⟩,?_⟩
 ·exact k2 260 (by decide) (by decide) _ _ _ (k1 260 (by decide) (by decide) (by decide) _ _ _ h.sorter)
 ·exact Sl3.keep h.keys ((k1 73 (by decide) (by decide) (by decide)).trans (k2 73 (by decide) (by decide)))
 ·exact(h0.keep ((k1 194 (by decide) (by decide) (by decide)).trans (k2 194 (by decide) (by decide)))).ptrs (by simp[RI.ptr,q2,e0])
 ·simp only[dI,a_]at hi;rcases hi with rfl|rfl|hi
  ·exact .inl hbx
  ·exact .inl hbm
  ·rcases r4 i hi with hi|hi
   ·exact hS1 _ (by simp[dI,hi])
   ·exact .inr (k_ t1'.size hi)
 ·exact t1'.more hD.touch.u (λi hi=>by
   simp only[a_,i_,or_false]at hi;rcases hi with rfl|rfl
   ·exact .inl hbx
   ·exact .inl hbm)
theorem mf_start (hG:MgReady w3 w4 ps ks s.bx bm s.blk cols d M pre (some x) G pm)(hR3:RS w3 s.bx bm s.blk cols d M pre (some x))(hS:Sr w3 ps s)(hK:KA w3 s.kv ks)(hown:PO w3 s.rv (rest++[x]))(hgrp:PO w3 gv G)(hx:x.recs=[])(hl:Left d (((G.map RI.recs).flatten).length+(m+1)) j)(hla:d.last=la)(hsm:G.length<=900000)(ht:TU F w0 w3)(hbx:s.bx∈F)(hdf:Sub w0 (dI s.bx bm M) F)(hxr:x.r∈F\/w0.heap.size<=x.r) :
  ∃ph bf,MF w0 F w3.heap.size ps s ks bm cols pm ph bf pre G gv rest x.r m j la (G.map RI.recs).flatten 0 w4:=by
 obtain⟨ph,hv,bf,L,a1,a2,a3⟩:=hG.st;have k1:∀t,(117:TypeId)≠t->KT t w3 w4:=λt e1=>hG.touch.tag (nO hR3.pd.disk e1);exact⟨ph,bf,⟨hv,L,[],x,d,M,a1,a2,rfl,by omega,hG.runs,rfl,hx,by simpa using hl,hla,hdf,hxr⟩,k1 260 (by decide) _ _ _ hS,Sl3.keep hK (k1 73 (by decide)),⟨x,rfl,hown.keep (k1 194 (by decide))⟩,hgrp.keep (k1 194 (by decide)),ht.more hG.touch.u (λi hi=>by rw[ms_ hi];exact .inl hbx)⟩
end
theorem wpList_off {ops:Array Oper}{rest:List Oper}{o:Oper}{a:Act}{Q:Exit->Act->World->Prop}(hgd:o.guard=none)(s x:Operand)
  (ho:o.op=.call { callee:=.builtin .append,args:=#[s,x],argTypes:=#[160,160] }) (g of len cap:Nat) (R:List RI) (hs:a.eval s=.slice (some ⟨g,of,none⟩) len cap) (hown:PO w (.slice (some ⟨g,of,none⟩) len cap) R)
  (ad:Addr) (y:RI) (c:Nat) (hx:a.eval x=.slice (some ad) 1 c) (hnews:w.cell? ad=some y.ptr) (hlen:R.length<=1000000000)
  (h:∀g' o' cap' w',PO w' (.slice (some ⟨g',o',none⟩) (len+1) cap') (R++[y])->Touch [g] w w'->KR g (of+len) w w'->(g'=g\/w.heap.size<=g')->wpList prog ops Q rest (a.put o.dst (.slice (some ⟨g',o',none⟩) (len+1) cap')) w') :
  wpList prog ops Q (o::rest) a w:=by
 obtain rfl:=hown.cell.1;refine wpList_plain hgd λK hK=>?_;have hw:Region.wanted o (yielded ops a.tmps)=true:=by simp[Region.wanted,hgd]
 have:=step_off (E:=True) (ops:=ops) (K:=K) (Q:=Q) hgd s x ho g of R.length cap R hs hown ad y c hx hnews hlen (λg' o' cap' w' h1 h2 h3 h4=>hK _ _ (h g' o' cap' w' h1 h2 h3 h4));rw[if_pos hw]at this;exact this
theorem mf_laid (h:SM w ps s ks bm cols d M pre none pre)(hrv:s.rv=.slice (some ⟨g,of,none⟩) pre.length cap)(hn:n<=pre.length)(hR2:RS w2 s.bx bm s.blk cols d' M' pre (some x))(t2:Touch [s.bx,bm] w w2)
  (hP:PO w4 (.slice (some ⟨g',o',none⟩) (pre.length-n+1) cap') (pre.drop n++[x])) (t4:Touch [g] (w2.alloc (.cells #[x.ptr] 194)) w4) (hk:KR g (of+n+(pre.length-n)) (w2.alloc (.cells #[x.ptr] 194)) w4) :
  Sr w4 ps s/\Sr (w4.setCell ⟨ps,13,none⟩ (.slice (some ⟨g',o',none⟩) (pre.length-n+1) cap')) ps { s with rv:=.slice (some ⟨g',o',none⟩) (pre.length-n+1) cap' }/\KA (w4.setCell ⟨ps,13,none⟩ (.slice (some ⟨g',o',none⟩) (pre.length-n+1) cap')) s.kv ks/\RS (w4.setCell ⟨ps,13,none⟩ (.slice (some ⟨g',o',none⟩) (pre.length-n+1) cap')) s.bx bm s.blk cols d' M' pre (some x)/\PO (w4.setCell ⟨ps,13,none⟩ (.slice (some ⟨g',o',none⟩) (pre.length-n+1) cap')) (.slice (some ⟨g',o',none⟩) (pre.length-n+1) cap') (pre.drop n++[x])/\PO (w4.setCell ⟨ps,13,none⟩ (.slice (some ⟨g',o',none⟩) (pre.length-n+1) cap')) (.slice (some ⟨g,of,none⟩) n n) (pre.take n)/\Touch [ps,g,s.bx,bm] w (w4.setCell ⟨ps,13,none⟩ (.slice (some ⟨g',o',none⟩) (pre.length-n+1) cap')):=by
 have n2:∀t,(117:TypeId)≠t->(9:TypeId)≠t->NT t w [s.bx,bm]:=λt h1 h2=>(h.runs.pd.nT h1 h2).sub (λk hk=>by
  simp only[a_,i_,or_false]at hk;rcases hk with rfl|rfl<;>simp[dI])
 have k2:∀t,(117:TypeId)≠t->(9:TypeId)≠t->KT t w (w2.alloc (.cells #[x.ptr] 194)):=λt h1 h2=>(t2.tag (n2 t h1 h2)).trans ((tr_.alloc _).tu t);have hown:=h.own;rw[hrv]at hown;have hown2:=hown.keep (k2 194 (by decide) (by decide));obtain⟨cs,hg2⟩:=hown2.block g rfl;have k4:∀t,(194:TypeId)≠t->KT t (w2.alloc (.cells #[x.ptr] 194)) w4:=λt h1=>t4.tag (nO hg2 h1);have hS4:Sr w4 ps s:=k4 260 (by decide) _ _ _ (k2 260 (by decide) (by decide) _ _ _ h.sorter);have t5:Touch [ps] w4 (w4.setCell ⟨ps,13,none⟩ (.slice (some ⟨g',o',none⟩) (pre.length-n+1) cap')):=(Touch.refl [ps] w4).setCell (p:=⟨ps,13,none⟩) (by simp) _;have k5:∀t,(260:TypeId)≠t->KT t w4 (w4.setCell ⟨ps,13,none⟩ (.slice (some ⟨g',o',none⟩) (pre.length-n+1) cap')):=λt h1=>t5.tag (nO hS4 h1);have hR2':=hR2.quiet (tr_.alloc (.cells #[x.ptr] 194)) (by simp) (λk hk=>by simp at hk);have hR4:=hR2'.turned (hR2'.pd.other t4 (λk hk=>by rw[ms_ hk];exact⟨_,_,_,hg2,by decide,by decide⟩)) t4 (nO hg2 (by decide)) (nO hg2 (by decide));refine⟨hS4,hS4.setRv _,?_,hR4.turned (hR4.pd.other t5 (λk hk=>by rw[ms_ hk];exact⟨_,_,_,hS4,by decide,by decide⟩)) t5 (nO hS4 (by decide)) (nO hS4 (by decide)),hP.keep (k5 194 (by decide)),?_,?_⟩
 ·exact Sl3.keep h.keys (((k2 73 (by decide) (by decide)).trans (k4 73 (by decide))).trans (k5 73 (by decide)))
 ·exact((hown2.first n hn).row hk (by omega)).keep (k5 194 (by decide))
 ·exact((t2.mono (F':=[ps,g,s.bx,bm]) (by simp)).more (tr_.alloc (.cells #[x.ptr] 194)) (by simp)).trans ((t4.mono (by simp)).trans (t5.mono (by simp)))
theorem sac (ps:Nat)(s:SC)(bm:Nat)(M:List PF)(R:List RI):s.bx∈smF ps s bm M R:=by simp[smF,rF,dI]
theorem smF_bm (ps:Nat)(s:SC)(bm:Nat)(M:List PF)(R:List RI):bm∈smF ps s bm M R:=by simp[smF,rF,dI]
theorem smF_disk (ps:Nat)(s:SC)(bm:Nat)(R:List RI)(e:rowsOf M'=rowsOf M)(hi:i∈dI s.bx bm M'):i∈smF ps s bm M R:=by
 simp only[dI,e]at hi;simp only[smF,rF,dI,a_,d_]at hi ⊢;exact .inr (.inr (.inr hi))
theorem mf_front (h:s.rv=.slice (some ⟨g,of,none⟩) len cap):∀k∈[ps,g,s.bx,bm],k∈smF ps s bm M R:=λk hk=>by
 simp only[a_,i_,or_false]at hk;rcases hk with rfl|rfl|rfl|rfl<;>simp[smF,rF,dI,h,Value.ownBlock]
theorem mergeFirst_any (w:World)(ps:Nat)(s:SC)(ks:List K)(bm cols:Nat)(d:DS)(M:List PF)(pre:List RI)(n m j:Nat)(all:List Rec)(hal:((pre.take n).map RI.recs).flatten=all)(h:SM w ps s ks bm cols d M pre none pre)(hn:n<pre.length)(hable:∀x∈pre,∀y∈x.recs,AB ks y.row)(hs:∀x∈pre,Srt ks x.recs)(hc1:1<=cols)(hl:Left d (all.length+(m+1)) (j+1))(hall:all.length<=900000)(hpl:pre.length<=900000) :
  Calls prog 182 #[.pointer (some ⟨ps,0,none⟩),.int .i64 (n:Int)] w λe w'=>e=.returned (.tuple #[])/\∃g' o' cap' r,MfDone w (smF ps s bm M pre) ps { s with rv:=.slice (some ⟨g',o',none⟩) (pre.length-n+1) cap' } ks bm cols (pre.drop n) r m j (d.last+1) all w'/\(s.rv.ownBlock=some g'\/w.heap.size<=g')/\w.heap.size<=r:=by
 have HH:=h;obtain⟨g,of,cap,cur,hrv,hcur,hp1,hp2,hp3,hp4⟩:=h.own;unfold maxLen at hp3;have hnc:n<cap:=by omega
 obtain⟨c0,c1,c2,c3,c4,c5,c6,c7,c8,c9,c10,c11,c12,c13,c14,c15,cf⟩:=h.sorter.cell;rw[hrv]at c13;have Ho:Hid (Calls prog 112 #[.agg #[.pointer (some ⟨s.bx,0,none⟩),.int .i64 (s.blk:Int)]] w λe w'=>∃x:RI,e=.returned (.pointer (some ⟨x.r,0,none⟩))/\w'.cell? ⟨ps,13,none⟩=some (.slice (some ⟨g,of,none⟩) pre.length cap)/\PO (w'.alloc (.cells #[.pointer (some ⟨x.r,0,none⟩)] 194)) (.slice (some ⟨g,of+n,none⟩) (pre.length-n) (cap-n)) (pre.drop n)/\Hid (w.heap.size<=x.r/\x.recs=[]/\∃d' M',RS w' s.bx bm s.blk cols d' M' pre (some x)/\Left d' (all.length+(m+1)) j/\d'.last=d.last+1/\rowsOf M'=rowsOf M/\Touch [s.bx,bm] w w')):=by
  refine(runsNew_any _ _ h.runs hl).mono ?_;rintro e w' ⟨x,rfl,p1,p2,d',M',p3,p4,p5,p6,p7⟩;have n2:∀t,(117:TypeId)≠t->(9:TypeId)≠t->NT t w [s.bx,bm]:=λt h1 h2=>(h.runs.pd.nT h1 h2).sub (λk hk=>by
   simp only[a_,i_,or_false]at hk;rcases hk with rfl|rfl<;>simp[dI])
  have ho:=h.own;rw[hrv]at ho;exact⟨x,rfl,cah c13 p7 ((n2 260 (by decide) (by decide)).not_mem h.sorter),(((ho.keep (p7.tag (n2 194 (by decide) (by decide)))).keep ((tr_.alloc (.cells #[.pointer (some ⟨x.r,0,none⟩)] 194)).tu _)).rest n (by omega)),p1,p2,d',M',p3,p4,p5,p6,p7⟩
 have hmf:∀(fn:Fn) (first cap:Array Value) (w:World),(Instr.makeFunc fn first cap).run prog w=.ok (.func fn first cap) w:=λ_ _ _ _=>rfl;have HAL:Hid (((pre.take n).map RI.recs).flatten=all):=hal;have HAB:Hid (∀x∈pre,∀y∈x.recs,AB ks y.row):=hable;have HS:Hid (∀x∈pre,Srt ks x.recs):=hs;have HHH:Hid (SM w ps s ks bm cols d M pre none pre):=HH;have HRV:Hid (s.rv=.slice (some ⟨g,of,none⟩) pre.length cap):=hrv;clear hal h HH hable hs hl hcur hp2 hp4 hrv cf
 go_enter_defers func182,ntmps182
 go_wp2_with (first|(go_at_call 112;refine Ho.out.mono ?_;rintro e w2 ⟨x,rfl,y13,hO2,HX⟩)|(at_builtin;refine wpList_off rfl (.tmp 28) (.tmp 30) rfl g (of+n) (pre.length-n) (cap-n) (pre.drop n) rfl hO2 ⟨w2.heap.size,0,none⟩ x 1 rfl (by simp[RI.ptr]) (by simp;omega) ?_;intro g' o' cap' w4 q1 q2 q3 q4;have HZ:=HX.out;obtain⟨hx1,hx2,d',M',hR2,hl2,hla2,hM2,t2⟩:=HZ;have HL:=mf_laid HHH.out HRV.out (by omega) hR2 t2 q1 q2 q3;obtain⟨z1,HL2⟩:=HL;obtain⟨_,_,_,v3,_,_,_,_,_,_,_,_,_,v13,_,_,vf⟩:=z1.cell;have f13:=vf 13;have HQ:Hid (g'=g\/(w2.alloc (.cells #[.pointer (some ⟨x.r,0,none⟩)] 194)).heap.size<=g'):=q4;clear q1 q2 q3 q4 vf z1 hO2 y13)|(go_at_call 171;obtain⟨z2,z3,z4,z5,z6,z7⟩:=HL2;refine(nY _ ps { s with rv:=.slice (some ⟨g',o',none⟩) (pre.length-n+1) cap' } ks s.bx bm s.blk cols d' M' pre (some x) (.slice (some ⟨g,of,none⟩) n n) (pre.take n) z2 z3 z4 z6 (λy hy=>HAB.out y (L_ hy)) (λy hy=>L_ hy) (by simp;omega) hc1 (by have:=hl2.last;omega) (λy hy=>HS.out y (L_ hy))).mono ?_;rintro e w6 ⟨rfl,hG⟩;obtain⟨ph,bf,hI⟩:=mf_start (s:={ s with rv:=.slice (some ⟨g',o',none⟩) (pre.length-n+1) cap' }) (w0:=w) (F:=smF ps s bm M pre) (rest:=pre.drop n) (m:=m) (j:=j) (la:=d.last+1) hG z4 z2 z3 z5 z6 hx2 (by rw[HAL.out];exact hl2) hla2 (by simp;omega) (z7.u.mono (mf_front HRV.out)) (sac ps s bm M pre) (λi hi=>.inl (smF_disk ps s bm pre hM2 hi)) (.inr hx1);rw[HAL.out]at hI;obtain⟨_,_,_,u3,_⟩:=hI.sorter.cell;clear hG z2 z3 z4 z5 z6 hl2 v3 v13 f13 hR2 t2))
 have HGG:Hid (s.rv.ownBlock=some g'\/w.heap.size<=g'):=by
  rcases HQ.out with e|e
  ·exact .inl (by rw[HRV.out,e];rfl)
  ·obtain⟨_,_,_,_,_,_,_,_,tt⟩:=HX.out;have:=tt.size;rw[World.size_alloc]at e;exact .inr (by omega)
 have HRD:Hid (pre=pre.take n++pre.drop n):=(X_ n pre).symm;have hsz:(w4.setCell ⟨ps,13,none⟩ (.slice (some ⟨g',o',none⟩) (pre.length-n+1) cap')).heap.size=w4.heap.size:=by simp
 rw[hsz]at hI;have HLO:Hid (w.heap.size<=w4.heap.size):=by have:=z7.size;rw[hsz]at this;exact this
 clear hsz;clear z7 hx2 hla2 hM2
 go_loopw [42] (λi wr=>∃k:Nat,k<=all.length/\i=.int .i64 k/\MF w (smF ps s bm M pre) w4.heap.size ps { s with rv:=.slice (some ⟨g',o',none⟩) (pre.length-n+1) cap' } ks bm cols (w4.heap.size+2) ph bf pre (pre.take n) (.slice (some ⟨g,of,none⟩) n n) (pre.drop n) x.r m j (d.last+1) all k wr) (λi _=>all.length-(intOf i).toNat)
 case atStart=>exact⟨0,by omega,rfl,hI⟩
 case round=>
  clear hI u3;obtain⟨k,hk,rfl,hI⟩:=hrel;have HB:Hid (s.bx∈smF ps s bm M pre/\bm∈smF ps s bm M pre):=⟨sac ps s bm M pre,smF_bm ps s bm M pre⟩;by_cases hkc:(k:Int)<(s.count:Int)
  ·by_cases hlt:k<all.length
   ·have hst:=mf_next hI (λy hy=>L_ hy) hc1 hall HLO.out HB.out.1 hlt;have hks:k<=900000:=by omega
    go_wp2_with (first|(go_at_call 172;refine hst.mono ?_;rintro e w7 ⟨no,ao,an,aC,rfl,hst2⟩)|(go_at_call 113;refine(hst2 _ (tr_.alloc _)).mono ?_;rintro e w8 ⟨rfl,hI8⟩))
    go_roundw
    case rel=>exact⟨k+1,by omega,by go_num,hI8⟩
    case measure=>simp[intOf];omega
   ·have hke:k=all.length:=by omega
    have hst:=mf_over hI hke;have HKE:Hid (k=all.length):=hke;clear hke
    go_wp2_with (first|(go_at_call 172;refine hst.mono ?_;rintro e w7 ⟨rfl,hI7⟩;have hst2:=mf_end (hI7.quiet (tr_.alloc (.cells #[.int .i64 0,.slice none 0 0] 205))) (.inl HKE.out) HRD.out HB.out.1 HB.out.2)|(go_at_call 114;refine hst2.mono ?_;rintro e w8 ⟨rfl,hD8⟩))
    refine leaves_cons (f:=166) (args:=#[.slice (some ⟨g,of,none⟩) n n]) (by simp) (by simp[go_sem]) ?_;refine hD8.mono ?_;rintro e u' w9 ⟨rfl,rfl,hD9⟩;exact⟨_,results_none rfl _ _ _,rfl,g',o',cap',x.r,hD9,HGG.out,hx1⟩
  ·have hst2:=mf_end hI (.inr (by show s.count<=k;omega)) HRD.out HB.out.1 HB.out.2
   go_wp2_with (go_at_call 114;refine hst2.mono ?_;rintro e w8 ⟨rfl,hD8⟩)
   refine leaves_cons (f:=166) (args:=#[.slice (some ⟨g,of,none⟩) n n]) (by simp) (by simp[go_sem]) ?_;refine hD8.mono ?_;rintro e u' w9 ⟨rfl,rfl,hD9⟩;exact⟨_,results_none rfl _ _ _,rfl,g',o',cap',x.r,hD9,HGG.out,hx1⟩
structure MB (w:World)(ps:Nat)(s:SC)(ks:List K)(bm cols:Nat)(rows:List Rec)(F:List Nat)(m j:Nat)(pre:List RI)(s':SC)(d':DS)(M':List PF)(wr:World):Prop where
 sm:SM wr ps s' ks bm cols d' M' pre none pre
 runs:Runs ks s.count rows (pre.map RI.recs)
 same:∃v,s'={ s with rv:=v }
 left:Left d' (pre.length*(rows.length+1)+m) (pre.length+j)
 touch:TU F w wr
 sub:Sub w (smF ps s' bm M' pre) F
 few:pre.length<=900000
theorem take_flat_le {l:List (List Rec)}(n:Nat):((l.take n).flatten).length<=l.flatten.length:=by
 have:l.flatten=(l.take n).flatten++(l.drop n).flatten:=by rw[<-ab_,X_]
 rw[this,c_];omega
theorem mt_step (h:MB w ps s ks bm cols rows F m j pre s' d' M' wr)(hf:2<=s.fan)(hlt:s.fan<pre.length)(hc1:1<=cols)(hable:∀y∈rows,AB ks y.row)(hrows:rows.length<=900000) :
  Calls prog 182 #[.pointer (some ⟨ps,0,none⟩),.int .i64 ((min s.fan (pre.length-s.fan+1):Nat):Int)] wr λe w'=>e=.returned (.tuple #[])/\∃pre2 s2 d2 M2,MB w ps s ks bm cols rows F m j pre2 s2 d2 M2 w'/\pre2.length<pre.length/\s.fan<=pre2.length:=by
 obtain⟨n,hn⟩:∃n,n=min s.fan (pre.length-s.fan+1):=⟨_,rfl⟩;rw[<-hn];have hn2:2<=n/\n<=pre.length-s.fan+1/\n<=s.fan:=by omega
 obtain⟨v,hsame⟩:=h.same;have hmem:∀x∈pre,∀y∈x.recs,y∈rows:=λx hx y hy=>h.runs.perm.mem (bg_.2 ⟨x.recs,T_ hx,hy⟩);have htot:(((pre.take n).map RI.recs).flatten).length<=rows.length:=by
  have h1:=take_flat_le (l:=pre.map RI.recs) n;have h2:=h.runs.perm.len;rw[List.map_take];omega
 have hlen2:(pre.drop n).length+1=pre.length-n+1:=by simp
 obtain⟨q,hq⟩:∃q,pre.length-n+1+q+1=pre.length:=⟨n-2,by omega⟩;have hq2:(pre.length-n+1+q+1)*(rows.length+1)=(pre.length-n+1)*(rows.length+1)+q*(rows.length+1)+(rows.length+1):=by rw[Nat.add_mul,Nat.add_mul];omega
 rw[hq]at hq2;have hleft:Left d' ((((pre.take n).map RI.recs).flatten).length+(((pre.length-n+1)*(rows.length+1)+m)+1)) ((pre.length-n+1+j)+1):=h.left.mono (by omega) (by omega);have hcnt:s'.count=s.count:=by rw[hsame]
 refine(mergeFirst_any wr ps s' ks bm cols d' M' pre n ((pre.length-n+1)*(rows.length+1)+m) (pre.length-n+1+j) _ rfl h.sm (by omega) (λx hx y hy=>hable y (hmem x hx y hy)) (λx hx=>h.runs.runs x.recs (T_ hx)) hc1 hleft (by omega) h.few).mono ?_;rintro e w' ⟨rfl,g',o',cap',r,hD,hg',hr⟩;obtain⟨x,d2,M2,p1,p2,p3,p4,p5,p6,p7⟩:=hD.st;have hpl:(pre.drop n++[x]).length=pre.length-n+1:=by simp
 refine⟨rfl,pre.drop n++[x],_,d2,M2,⟨p1,?_,⟨_,by rw[hsame]⟩,by rw[hpl];exact p5,h.touch.more hD.touch h.sub,?_,by have:=h.few;omega⟩,by omega,by omega⟩
 ·have:=h.runs.merge n (out:=x.recs) (by rw[<-List.map_take,<-hcnt];exact p3) p4;rw[w_,List.map_drop];exact this
 ·intro i hi;have hsz:=h.touch.size;simp only[smF,rF,a_,d_,w_,List.map_cons,List.map_nil,Value.ownBlock,Option.toList_some,i_,or_false]at hi;rcases hi with rfl|rfl|(hi|rfl)|hi
  ·exact h.sub _ (by simp[smF])
  ·rcases hg' with e|e
   ·exact h.sub _ (by simp[smF,e])
   ·exact .inr (by omega)
  ·obtain⟨z,hz,rfl⟩:=z_.1 hi;exact h.sub _ (by simp only[smF,rF,a_,d_];exact .inr (.inr (.inl (T_ (ak_ hz)))))
  ·exact .inr (by omega)
  ·rcases p7 i hi with e|e
   ·exact h.sub _ e
   ·exact .inr (by omega)
theorem MB.quiet {w wr w':World}{ps:Nat}{s s':SC}{ks:List K}{bm cols:Nat}{rows:List Rec}{F:List Nat}{m j:Nat}{pre:List RI}{d':DS}{M':List PF}(h:MB w ps s ks bm cols rows F m j pre s' d' M' wr)(t:Touch [] wr w'):MB w ps s ks bm cols rows F m j pre s' d' M' w':=
 ⟨⟨h.sm.sorter.u t.u (by simp),Sl3.keep h.sm.keys (t.tu _),h.sm.runs.quiet t (by simp) (λk hk=>by simp at hk),h.sm.own.keep (t.tu _)⟩,h.runs,h.same,h.left,h.touch.more t.u (by simp),h.sub,h.few⟩
theorem mG (w:World)(ps:Nat)(s:SC)(ks:List K)(bm cols:Nat)(rows:List Rec)(F:List Nat)(m j:Nat)(pre:List RI)(s0:SC)(d:DS)(M:List PF)(w0:World)(h:MB w0 ps s ks bm cols rows F m j pre s0 d M w)(hne:pre≠[])(hf:2<=s.fan)(hfs:s.fan<=1000000)(hc1:1<=cols)(hable:∀y∈rows,AB ks y.row)(hrows:rows.length<=900000) :
  Calls prog 170 #[.pointer (some ⟨ps,0,none⟩)] w λe w'=>e=.returned (.tuple #[])/\∃pre2 s2 d2 M2,MB w0 ps s ks bm cols rows F m j pre2 s2 d2 M2 w'/\pre2≠[]:=by
 have H0:Hid (∃pre2 s2 d2 M2,MB w0 ps s ks bm cols rows F m j pre2 s2 d2 M2 w/\pre2≠[]/\pre2.length=pre.length):=⟨pre,s0,d,M,h,hne,rfl⟩;have HAB:Hid (∀y∈rows,AB ks y.row):=hable;clear h hne hable;go_enter func170,ntmps170;go_wp2
 go_loopg [] (pre.length) (λg wr=>∃pre2 s2 d2 M2,MB w0 ps s ks bm cols rows F m j pre2 s2 d2 M2 wr/\pre2≠[]/\pre2.length=g)
 case atStart=>exact H0.out
 case round=>
  clear H0;obtain⟨pre2,s2,d2,M2,hI,hne,hg⟩:=hrel;obtain⟨v,hsame⟩:=hI.same;obtain⟨g,of,cap,cur,hrv,hcur,hp1,hp2,hp3,hp4⟩:=hI.sm.own;obtain⟨c0,c1,c2,c3,c4,c5,c6,c7,c8,c9,c10,c11,c12,c13,c14,c15,cf⟩:=hI.sm.sorter.cell;have hfan:s2.fan=s.fan:=by rw[hsame]
  rw[hrv]at c13;rw[hfan]at c5;have hfew:=hI.few;have HI:Hid (MB w0 ps s ks bm cols rows F m j pre2 s2 d2 M2 wr/\pre2≠[]/\pre2.length=gk):=⟨hI,hne,hg⟩;by_cases hlt:s.fan<pre2.length
  ·have HST:Hid (∀W,Touch [] wr W->Calls prog 182 #[.pointer (some ⟨ps,0,none⟩),.int .i64 (min (s.fan:Int) ((pre2.length:Int)-(s.fan:Int)+1))] W λe w'=>e=.returned (.tuple #[])/\∃pR s3 d3 M3,MB w0 ps s ks bm cols rows F m j pR s3 d3 M3 w'/\pR.length<pre2.length/\s.fan<=pR.length):=λW hW=>by
    have:=mt_step (hI.quiet hW) hf hlt hc1 HAB.out hrows;have e:((min s.fan (pre2.length-s.fan+1):Nat):Int)=min (s.fan:Int) ((pre2.length:Int)-(s.fan:Int)+1):=by omega
    rw[e]at this;exact this
   have hlt2:(s.fan:Int)<(pre2.length:Int):=by omega
   clear hI hne hg hsame hrv hcur hp2 hp4 cf hfan;go_wp2
   go_region
   all_goals go_wp2
   have hwr:IntKind.i64.wrap (IntKind.i64.wrap ((pre2.length:Int)-(s.fan:Int))+1)=(pre2.length:Int)-(s.fan:Int)+1:=by rw[wrap_small ((pre2.length:Int)-(s.fan:Int)) (by omega) (by omega),wrap_small _ (by omega) (by omega)]
   go_region_with (first|(go_at_call 182;refine(HST.out _ ((tr_.drew).drew)).mono ?_;rintro e w3 ⟨rfl,pR,s3,d3,M3,q1,q2,q3⟩))
   all_goals
    go_wp2
    go_roundg (pR.length)
    case measure=>have:=HI.out.2.2;omega
    case rel=>exact⟨pR,s3,d3,M3,q1,(λe=>by rw[e]at q3;simp at q3;omega),rfl⟩
  ·have hlt2:¬(s.fan:Int)<(pre2.length:Int):=by omega
   clear hI hne hg hsame hrv hcur hp2 hp4 cf hfan;go_wp2
   go_region
   all_goals go_wp2
   go_end0
   obtain⟨hI,hne,hg⟩:=HI.out;exact⟨rfl,pre2,s2,d2,M2,hI.quiet (tr_.drew),hne⟩
def OT:List TypeId:=[260,302,263,194,117,9,223,307,331,305,241]
def OwnF (w:World)(F:List Nat):Prop:=∀k∈F,(∃cs t f,w.heap[k]?=some (.cells cs t f)/\t∈OT)\/∃es c,w.heap[k]?=some (.map es c)
def Hi (B:Nat)(F:List Nat):Prop:=∀k∈F,B<=k
theorem Hi.sub {G:List Nat}(h:Hi B F)(s:Sub w G F)(hB:B<=w.heap.size):Hi B G:=λk hk=>by
 rcases s k hk with e|e
 ·exact h k e
 ·exact k_ hB e
structure Low (B:Nat)(w w':World):Prop where
 os:w'.os=w.os
 tape:w'.tape=w.tape
 output:w'.output=w.output
 size:w.heap.size<=w'.heap.size
 block:∀k,k<B->k<w.heap.size->w'.heap[k]?=w.heap[k]?
theorem Low.trans {B:Nat}{a b c:World}(h:Low B a b)(k:Low B b c):Low B a c:=⟨k.os.trans h.os,k.tape.trans h.tape,k.output.trans h.output,k_ h.size k.size,λi h1 h2=>(k.block i h1 (s_ h2 h.size)).trans (h.block i h1 h2)⟩
theorem Low.mono {a b:World}(h:Low B a b)(hC:C<=B):Low C a b:=⟨h.os,h.tape,h.output,h.size,λk h1 h2=>h.block k (s_ h1 hC) h2⟩
theorem Low.below (h:Low w.heap.size w w'):Below w.heap.size w w':=⟨h.os,h.tape,h.output,h.size,λk hk=>h.block k hk hk⟩
theorem TU.low (t:TU F w w')(h:Hi B F):Low B w w':=⟨t.os,t.tape,t.output,t.size,λk h1 h2=>t.block k h2 (λe=>by have:=h k e;omega) (λ⟨r,hr,hrk⟩=>by have:=h r hr;omega)⟩
theorem Touch.low {B:Nat}{F:List Nat}{w w':World}(t:Touch F w w')(h:Hi B F):Low B w w':=t.u.low h
theorem Hi.nil (B:Nat):Hi B []:=λk hk=>by simp at hk
def OW (B:Nat)(w w':World):Prop:=∃F,TU F w w'/\OwnF w F/\Hi B F
def SpT:List TypeId:=[260,302,263]
def OM [Inhabited Range](B:Nat)(Fm:List Nat)(w w':World):Prop:=∃F,TU F w w'/\OwnF w F/\Hi B F/\(∀k∈F,Mine k)/\∀k∈F,k∈Fm\/∀cs t f,w.heap[k]?=some (.cells cs t f)->t∉SpT
theorem OM.step [Inhabited Range]{B:Nat}{Fm:List Nat}{w w':World}(h:OM B Fm w w'):OW B w w':=by
 obtain⟨F,h1,h2,h3,_⟩:=h;exact⟨F,h1,h2,h3⟩
theorem OM.mono [Inhabited Range](h:OM B Fm w w')(hs:∀k∈Fm,k∈Gm):OM B Gm w w':=by
 obtain⟨F,h1,h2,h3,h0,h4⟩:=h;exact⟨F,h1,h2,h3,h0,λk hk=>(h4 k hk).imp (hs k) id⟩
theorem OM.spec [Inhabited Range](h:OM B Fm w w'){f:Nat×Nat}(hk:w.heap[k]?=some (.cells cs t f))(ht:t∈SpT)(hn:k∉Fm):w'.heap[k]?=some (.cells cs t f):=by
 obtain⟨F,h1,_,_,_,h4⟩:=h;rw[h1.block k (agi.1 hk).1 (λe=>?_) (λ_ cs' f' e=>?_)]
 ·exact hk
 ·rcases h4 k e with h4|h4
  ·exact hn h4
  ·exact h4 _ _ _ hk ht
 ·rw[hk]at e;simp only[j_,Obj.cells.injEq]at e;rw[e.2.1]at ht;exact absurd ht (by decide)
theorem OwnF.nT (h:OwnF w F)(ht:t∉OT):NT t w F:=λk hk cs f e=>by
 rcases h k hk with⟨cs',t',f',h1,h2⟩|⟨es,c,h1⟩
 ·rw[h1]at e;simp only[j_,Obj.cells.injEq]at e;obtain⟨_,rfl,_⟩:=e;exact ht h2
 ·rw[h1]at e;simp at e
theorem OW.tag {B:Nat}{w w':World}(h:OW B w w'){t:TypeId}(ht:t∉OT)(h5:t≠5):KT t w w':=by
 obtain⟨F,h1,h2,_⟩:=h;exact h1.tag h5 (h2.nT ht)
theorem OW.low {B:Nat}{w w':World}(h:OW B w w'):Low B w w':=by
 obtain⟨F,h1,_,h3⟩:=h;exact h1.low h3
theorem OW.size {B:Nat}{w w':World}(h:OW B w w'):w.heap.size<=w'.heap.size:=by
 obtain⟨F,h1,_⟩:=h;exact h1.size
theorem OW.other (h:OW B w w')(hk:w.heap[k]?=some ob)(h1:∀cs t f,ob≠.cells cs t f)(h2:∀es c,ob≠.map es c):w'.heap[k]?=some ob:=by
 obtain⟨F,t,hF,_⟩:=h;rw[t.block k (agi.1 hk).1 (λe=>?_) (λ_ cs f e=>?_)]
 ·exact hk
 ·rcases hF k e with⟨cs,t',f,e1,_⟩|⟨es,c,e1⟩
  ·rw[hk]at e1;simp at e1;exact h1 _ _ _ e1
  ·rw[hk]at e1;simp at e1;exact h2 _ _ e1
 ·rw[hk]at e;simp at e;exact h1 _ _ _ e
theorem Touch.ownM [Inhabited Range](h:Touch [] w w'):OM B Fm w w':=⟨[],h.u,λk hk=>by simp at hk,Hi.nil B,λk hk=>by simp at hk,λk hk=>by simp at hk⟩
theorem PD.ownF (h:PD w bx bm d M):OwnF w (dI bx bm M):=λk hk=>by
 simp only[dI,a_]at hk;rcases hk with rfl|rfl|hk
 ·exact .inl ⟨_,_,_,h.disk,by decide⟩
 ·obtain⟨es,c,hb,_⟩:=h.map;exact .inr ⟨es,c,hb⟩
 ·obtain⟨m,hm,hk⟩:=ap_.1 hk;rcases(h.rows m hm).2 with⟨e2,_⟩|⟨g,cap,cur,e2,_,hg,_⟩
  ·rw[e2]at hk;simp[Value.ownBlock]at hk
  ·rw[e2]at hk;simp[Value.ownBlock]at hk;subst hk;exact .inl ⟨_,_,_,hg,by decide⟩
theorem RS.ownF {w:World}{bx bm blk cols:Nat}{d:DS}{M:List PF}{pre:List RI}{o:Option RI}(h:RS w bx bm blk cols d M pre o):OwnF w (rF bx bm M (pre++o.toList)):=λk hk=>by
 rcases d_.1 hk with hk|hk
 ·obtain⟨x,hx,rfl⟩:=z_.1 hk;obtain⟨n,v,hc⟩:=h.cell hx;exact .inl ⟨_,_,_,hc,by decide⟩
 ·exact h.pd.ownF k hk
theorem SB.ownF {w:World}{ps bs:Nat}{s:SC}{hv:Value}{ks:List K}{L:List EV}{bm cols:Nat}{d:DS}{M:List PF}{pre:List RI}{o:Option RI}(h:SB w ps bs s hv ks L bm cols d M pre o):OwnF w (sbF ps s hv bm M (pre++o.toList)):=λk hk=>by
 simp only[sbF,h_,a_,d_,bb_]at hk;rcases hk with rfl|((rfl|hk)|hk)|hk
 ·exact .inl ⟨_,_,_,h.sorter,by decide⟩
 ·exact .inl ⟨_,_,_,h.heap.head,by decide⟩
 ·obtain⟨cs,f,hc⟩:=h.heap.items.tag k hk;exact .inl ⟨_,_,_,hc,by decide⟩
 ·obtain⟨cs,hc⟩:=h.own.block k hk;exact .inl ⟨_,_,_,hc,by decide⟩
 ·exact h.runs.ownF k hk
theorem MT.ownF (h:MT w bx lo F):OwnF w F:=λk hk=>by
 obtain⟨cs,t,f,h1,h2,_⟩:=h k hk;refine .inl ⟨cs,t,f,h1,?_⟩;simp only[a_,i_,or_false]at h2;rcases h2 with rfl|rfl|rfl|rfl|rfl<;>decide
structure Sv [Inhabited Range](w:World)(ps bx bm blk cols m j:Nat):Prop where
 hi:bm<=bx
 own:Mine bx/\Mine bm
 st:∃s d M pre,s.bx=bx/\s.blk=blk/\Sr w ps s/\RS w bx bm blk cols d M pre none/\(PO w s.rv pre\/(pre=[]/\∃ao cap,s.rv=.slice ao 0 cap))/\Left d m j/\Hi bm (rowsOf M)
theorem deleteNone_any (w:World)(ao:Option Addr)(cap:Nat):Calls prog 166 #[.slice ao 0 cap] w λe w'=>e=.returned (.tuple #[])/\w'=w:=by
 go_enter func166,ntmps166;go_wp2;refine wp_loop_rounds 1 ?_;rw[rounds_succ];go_wp2
 first|go_end0|refine bodyPost_ret (results_none rfl _ _ _) rfl ?_
 exact⟨rfl,rfl⟩
structure Closed [Inhabited Range](w w':World)(bx bm blk cols m j:Nat):Prop where
 st:∃d M,RS w' bx bm blk cols d M [] none/\Left d m j/\Hi bm (rowsOf M)
 step:OM bm [] w w'
theorem Sv.delete [Inhabited Range](h:Sv w ps bx bm blk cols m j):∃s,Sr w ps s/\Calls prog 166 #[s.rv] w λe w'=>e=.returned (.tuple #[])/\Closed w w' bx bm blk cols m j:=by
 obtain⟨s,d,M,pre,rfl,rfl,h1,h2,h3,h4,hr⟩:=h.st;refine⟨s,h1,?_⟩;rcases h3 with h3|⟨rfl,ao,cap,e⟩
 ·refine(deleteAll_any w s.bx bm s.blk cols d M s.rv pre [] m j h3 (by rw[H_];exact h2) h4).mono ?_;rintro e w' ⟨rfl,hD⟩;obtain⟨d',M',p1,p2,_,p3⟩:=hD.st;have hi:=h.hi;have hbm:bm<w.heap.size:=h2.pd.lt bm (by simp);exact⟨rfl,⟨d',M',p1,p2,hr.sub p3 (Z_ hbm)⟩,_,hD.touch.u,λk hk=>h2.pd.ownF k (by
   simp only[a_,i_,or_false]at hk;rcases hk with rfl|rfl<;>simp[dI]),λk hk=>by
   simp only[a_,i_,or_false]at hk;rcases hk with rfl|rfl<;>omega,λk hk=>by
   simp only[a_,i_,or_false]at hk;rcases hk with rfl|rfl
   ·exact h.own.1
   ·exact h.own.2,λk hk=>.inr (λcs t f e=>by
   simp only[a_,i_,or_false]at hk;rcases hk with rfl|rfl
   ·have:=h2.pd.disk;rw[this]at e;simp only[j_,Obj.cells.injEq]at e;rw[<-e.2.1];decide
   ·obtain⟨es,c,hb,_⟩:=h2.pd.map;rw[hb]at e;cases e)⟩
 ·rw[e];refine(deleteNone_any w ao cap).mono ?_;rintro e w' ⟨rfl,rfl⟩;exact⟨rfl,⟨d,M,h2,h4,hr⟩,tr_.ownM⟩
end Go.Proofs.YtjoinhljdbljaaaGreat
namespace Go.Proofs.YtjoinhljdbljaaaGreat
open Go.RowKit Go.Proofs.Tryz
variable [Inhabited Ground] [Inhabited Range]
variable {M:List PF} {P bm bs cols j j2 m pm ps:Nat} {d:DS} {hv:Value} {ks:List K} {pre:List RI} {rows:List Rec} {s:SC} {w w1 w2 w3:World}
structure OA (w:World)(ps bs:Nat)(s:SC)(hv:Value)(ks:List K)(L:List EV)(bm cols:Nat)(d:DS)(M:List PF)(rows out:List Rec):Prop where
 sb:SB w ps bs s hv ks L bm cols d M [] none
 give:Giving ks rows (L.map Prod.fst) out
 mg:s.mg=.pointer none
 given:s.given=out.length
 few:L.length<=100000
 hi:Hi bm (ps::s.bx::h_ s.ph hv)
 own:∀k∈ps::s.bx::bm::h_ s.ph hv,Mine k
 hr:Hi bm (rowsOf M)
structure OB (w:World)(lo ps:Nat)(s:SC)(ks:List K)(bm cols:Nat)(d:DS)(M:List PF)(pre:List RI)(pm ph:Nat)(hv:Value)(bf:Nat)(L:List CU)(rows out:List Rec):Prop where
 sm:SM w ps s ks bm cols d M pre none pre
 st:MG w lo pm ph hv bf ps ks pre L
 mrg:Me ks rows (L.map CU.cur) out
 mg:s.mg=.pointer (some ⟨pm,0,none⟩)
 given:s.given=out.length
 few:L.length<=1000000
 last:d.last<=1000000000
 c1:1<=cols
 hi:bm<=ps/\bm<=s.bx/\bm<=lo
 own:Mine ps/\Mine s.bx/\Mine bm/\gN<=lo
 hr:Hi bm (rowsOf M)
structure Sj (w:World)(ps bx bm blk cols count m j:Nat)(ks:List K)(rows out:List Rec)(Fm:List Nat)(tot:Nat):Prop where
 lim:out.length<=tot
 st:∃s d M,s.bx=bx/\s.blk=blk/\s.count=count/\Left d m j/\((∃bs hv L,ps::h_ s.ph hv=Fm/\tot=min count rows.length/\OA w ps bs s hv ks L bm cols d M rows out)\/([ps]=Fm/\∃all,Cut ks count rows all/\tot=min count all.length/\∃lo pre pm ph hv bf L,OB w lo ps s ks bm cols d M pre pm ph hv bf L all out))
theorem end_laid (h:SM w2 ps s ks bm cols d M pre none pre)(hG:MgReady w2 w3 ps ks s.bx bm s.blk cols d M pre none pre pm)(hg:s.given=0)(hp:pre.length<=1000000)(hl:d.last<=1000000000)(c1:1<=cols)(hi:bm<=ps/\bm<=s.bx/\bm<=w2.heap.size)(hmn:Mine ps/\Mine s.bx/\Mine bm/\gN<=w2.heap.size)(hr:Hi bm (rowsOf M)) :
  Sr w3 ps s/\∃ph hv bf L,OB (w3.setCell ⟨ps,14,none⟩ (.pointer (some ⟨pm,0,none⟩))) w2.heap.size ps { s with mg:=.pointer (some ⟨pm,0,none⟩) } ks bm cols d M pre pm ph hv bf L (pre.map RI.recs).flatten []:=by
 obtain⟨ph,hv,bf,L,a1,a2,a3⟩:=hG.st;have k3:∀t,(117:TypeId)≠t->KT t w2 w3:=λt ht=>hG.touch.tag (nO h.runs.pd.disk ht);have hS3:Sr w3 ps s:=k3 260 (by decide) _ _ _ h.sorter;have hS4:=hS3.setMg (.pointer (some ⟨pm,0,none⟩));have t4:Touch [ps] w3 (w3.setCell ⟨ps,14,none⟩ (.pointer (some ⟨pm,0,none⟩))):=(Touch.refl [ps] w3).setCell (p:=⟨ps,14,none⟩) (by simp) _;have k4:∀t,(260:TypeId)≠t->KT t w3 (w3.setCell ⟨ps,14,none⟩ (.pointer (some ⟨pm,0,none⟩))):=λt ht=>t4.tag (nO hS3 ht);refine⟨hS3,ph,hv,bf,L,⟨hS4,Sl3.keep h.keys ((k3 73 (by decide)).trans (k4 73 (by decide))),hG.runs.turned (hG.runs.pd.other t4 (λk hk=>by rw[ms_ hk];exact⟨_,_,_,hS3,by decide,by decide⟩)) t4 (nO hS3 (by decide)) (nO hS3 (by decide)),h.own.keep ((k3 194 (by decide)).trans (k4 194 (by decide)))⟩,a1.keep ⟨k4 _ (by decide),k4 _ (by decide),k4 _ (by decide),k4 _ (by decide),k4 _ (by decide),k4 _ (by decide),k4 _ (by decide),k4 _ (by decide),KE.of hS3 hS4 rfl⟩,a2,rfl,by simpa using hg,by omega,hl,c1,hi,hmn,hr⟩
theorem SB.mt {F:List Nat}(h:SB w1 ps bs s hv ks [] bm cols d M pre none)(hr:Runs ks s.count rows (pre.map RI.recs))(hne:pre≠[])(hl:Left d (pre.length*(rows.length+1)+m) (pre.length+j))(ht:TU F w w1)(hs:Sub w (sbF ps s hv bm M pre) F)(hf:pre.length<=900000):MB w ps s ks bm cols rows F m j pre s d M w1:=by
 refine⟨⟨h.sorter,h.keys,h.runs,?_⟩,hr,⟨s.rv,rfl⟩,hl,ht,λk hk=>hs k ?_,hf⟩
 ·have:=h.own;simp only[Option.toList_none,H_]at this;exact this.off hne
 ·simp only[smF,sbF,a_,d_]at hk ⊢;rcases hk with hk|hk|hk
  ·exact .inl hk
  ·exact .inr (.inl (.inr hk))
  ·exact .inr (.inr hk)
structure Ended (w w':World)(F:List Nat)(ps bx bm blk cols count m j:Nat)(ks:List K)(rows:List Rec):Prop where
 st:∃Fm tot,Sj w' ps bx bm blk cols count m j ks rows [] Fm tot/\Fm≠[]/\∀k∈Fm,k∈F
 touch:TU F w w'
theorem end_chain {L:List EV}{o:Option RI}{lr:Rec}(h:SS w ps bs s hv ks L bm cols d M pre o rows lr)(hne:pre++o.toList≠[])(hl:Left d (2*L.length+((P*(rows.length+1)+m)+1)) (L.length+j))(hP:1000000000<=P+j)(hPj:P+j2<=j)(hPs:P<=900000)(hf:2<=s.fan)(hfs:s.fan<=1000000)(hc1:1<=cols)(hable:∀y∈rows,AB ks y.row)(hg:s.given=0)(hhi:Hi bm (sbF ps s hv bm M (pre++o.toList)))(hmn:∀k∈sbF ps s hv bm M (pre++o.toList),Mine k)(hgn:gN<=w.heap.size) :
  Calls prog 169 #[.pointer (some ⟨ps,0,none⟩)] w λe w1=>e=.returned (.tuple #[]) /\
   Calls prog 170 #[.pointer (some ⟨ps,0,none⟩)] w1 λe w2=>e=.returned (.tuple #[])/\∃g of n cap,w2.cell? ⟨ps,13,none⟩=some (.slice (some ⟨g,of,none⟩) n cap) /\
    Calls prog 171 #[.slice (some ⟨g,of,none⟩) n cap,.func (.func 165) #[.pointer (some ⟨ps,0,none⟩)] #[]] w2 λe w3=>∃pm v14,e=.returned (.pointer (some ⟨pm,0,none⟩))/\w3.cell? ⟨ps,14,none⟩=some v14/\w3.frozen? ⟨ps,14,none⟩=false /\
     Ended w (w3.setCell ⟨ps,14,none⟩ (.pointer (some ⟨pm,0,none⟩))) (sbF ps s hv bm M (pre++o.toList)) ps s.bx bm s.blk cols s.count m j2 ks rows:=by
 have hfew:=h.few;refine(spillAll_any w ps bs s hv ks L bm cols d M pre o rows lr _ j h hl).mono ?_;rintro e w1 ⟨rfl,s1,hv1,d1,M1,pre1,p1,p2,p3,p4,p5,p6,p7,p8⟩;refine⟨rfl,?_⟩;have hne1:=p6 hne;have hlast:=p4.last;have hlen:pre1.length<=P:=by omega
 have hmul:pre1.length*(rows.length+1)<=P*(rows.length+1):=an_ _ hlen;have hI:=p1.mt (by rw[p3.count];exact p2) hne1 (m:=m) (j:=j2) (p4.mono (by omega) (by omega)) p7 p8 (by omega);have e1:=p3.fan;have e2:=p3.count;refine(mG w1 ps s1 ks bm cols rows _ m j2 pre1 s1 d1 M1 w hI hne1 (by omega) (by omega) hc1 hable (by omega)).mono ?_;rintro e w2 ⟨rfl,pre2,s2,d2,M2,q1,q2⟩;obtain⟨v2,hs2⟩:=q1.same;obtain⟨g,of,cap,cur,hrv,_⟩:=q1.sm.own;obtain⟨_,_,_,_,_,_,_,_,_,_,_,_,_,c13,_⟩:=q1.sm.sorter.cell;refine⟨rfl,g,of,pre2.length,cap,by rw[<-hrv];exact c13,?_⟩;have hmem:∀x∈pre2,∀y∈x.recs,y∈rows:=λx hx y hy=>q1.runs.perm.mem (bg_.2 ⟨x.recs,T_ hx,hy⟩);have hl2:=q1.left.last;have hf2:=q1.few;rw[<-hrv];refine(nY w2 ps s2 ks s2.bx bm s2.blk cols d2 M2 pre2 none s2.rv pre2 q1.sm.sorter q1.sm.keys q1.sm.runs q1.sm.own (λx hx y hy=>hable y (hmem x hx y hy)) (λx hx=>hx) (by omega) hc1 (by omega) (λx hx=>q1.runs.runs x.recs (T_ hx))).mono ?_;rintro e w3 ⟨rfl,hG⟩;have hbm:bm<w.heap.size:=h.sb.runs.pd.lt bm (by simp);have hlow:bm<=ps/\bm<=s2.bx/\bm<=w2.heap.size:=by
  have hsub:=hhi.sub q1.sub (Z_ hbm);have:=q1.touch.size;exact⟨hsub ps (by simp[smF]),hsub s2.bx (sac ps s2 bm M2 pre2),by omega⟩
 have hmine:∀k∈smF ps s2 bm M2 pre2,Mine k:=λk hk=>by
  rcases q1.sub k hk with h1|h1
  ·exact hmn k h1
  ·exact .inl (k_ hgn h1)
 obtain⟨z1,ph,hv3,bf,L3,z2⟩:=end_laid q1.sm hG (by rw[hs2];exact p3.given.trans hg) (by omega) (by omega) hc1 hlow ⟨hmine ps (by simp[smF]),hmine _ (sac ps s2 bm M2 pre2),hmine _ (smF_bm ps s2 bm M2 pre2),by have:=q1.touch.size;exact k_ hgn this⟩ (λk hk=>hhi.sub q1.sub (Z_ hbm) k (by simp only[smF,rF,dI,a_,d_];exact .inr (.inr (.inr (.inr (.inr hk))))));obtain⟨_,_,_,_,_,_,_,_,_,_,_,_,_,_,u14,_,uf⟩:=z1.cell;refine⟨_,_,rfl,u14,uf 14,⟨[ps],_,⟨by simp,_,d2,M2,?_,?_,?_,q1.left.mono (by omega) (by omega),.inr ⟨rfl,_,by rw[<-p3.count];exact q1.runs.perm,rfl,_,pre2,_,ph,hv3,bf,L3,z2⟩⟩,by simp,λk hk=>by rw[ms_ hk];simp[sbF]⟩,?_⟩
 ·show s2.bx=s.bx;rw[hs2];exact p3.bx
 ·show s2.blk=s.blk;rw[hs2];exact p3.blk
 ·show s2.count=s.count;rw[hs2];exact p3.count
 ·have hb2:s2.bx∈smF ps s2 bm M2 pre2:=sac ps s2 bm M2 pre2;have hps:ps∈smF ps s2 bm M2 pre2:=by simp[smF]
  exact(q1.touch.more hG.touch.u (λk hk=>by rw[ms_ hk];exact q1.sub _ hb2)).more (((Touch.refl [ps] w3).setCell (p:=⟨ps,14,none⟩) (by simp) _).u) (λk hk=>by rw[ms_ hk];exact q1.sub _ hps)
theorem end_any (w:World)(ps bs:Nat)(s:SC)(hv:Value)(ks:List K)(L:List EV)(bm cols:Nat)(d:DS)(M:List PF)(pre:List RI)(o:Option RI)(rows:List Rec)(lr:Rec)(P m j j2:Nat)(h:SS w ps bs s hv ks L bm cols d M pre o rows lr)(hl:Left d (2*L.length+((P*(rows.length+1)+m)+1)) (L.length+j))(hP:1000000000<=P+j)(hPj:P+j2<=j)(hPs:P<=900000)(hf:2<=s.fan)(hfs:s.fan<=1000000)(hc1:1<=cols)(hable:∀y∈rows,AB ks y.row)(hg:s.given=0)(hmg:s.mg=.pointer none)(hL:L.length<=100000)(hhi:Hi bm (sbF ps s hv bm M (pre++o.toList)))(hmn:∀k∈sbF ps s hv bm M (pre++o.toList),Mine k)(hgn:gN<=w.heap.size) :
  Calls prog 136 #[.pointer (some ⟨ps,0,none⟩)] w λe w'=>e=.returned (.tuple #[])/\Ended w w' (sbF ps s hv bm M (pre++o.toList)) ps s.bx bm s.blk cols s.count m j2 ks rows:=by
 obtain⟨c0,c1,c2,c3,c4,c5,c6,c7,c8,c9,c10,c11,c12,c13,c14,c15,cf⟩:=h.sb.sorter.cell;have hmf:∀(fn:Fn) (first cap:Array Value) (w:World),(Instr.makeFunc fn first cap).run prog w=.ok (.func fn first cap) w:=λ_ _ _ _=>rfl;by_cases hne:pre++o.toList=[]
 ·obtain⟨hpre,ho⟩:=au_.1 hne;have ho':o=none:=by cases o with|none=>rfl|some x=>simp at ho
  subst hpre;subst ho';have hrv:∃ao cap,s.rv=.slice ao 0 cap:=by
   rcases h.sb.own.shape with⟨e,_⟩|⟨g,cap,cur,e,_⟩
   ·exact⟨_,_,e⟩
   ·exact⟨_,_,e⟩
  obtain⟨ao,cap,hrv⟩:=hrv;rw[hrv]at c13;have HE:Hid (Ended w w (sbF ps s hv bm M ([]++(none:Option RI).toList)) ps s.bx bm s.blk cols s.count m j2 ks rows):=⟨⟨_,_,⟨by simp,s,d,M,rfl,rfl,rfl,hl.mono (by omega) (by omega),.inl ⟨bs,hv,L,rfl,rfl,h.sb,SI.giving (by simpa using h.lists),hmg,by simpa using hg,hL,λk hk=>hhi k (by simp only[a_]at hk;rcases hk with rfl|rfl|hk;exact I_;exact o_ _ (y_ _ (by simp[rF,dI]));exact o_ _ (C_ _ (C_ _ hk))),λk hk=>hmn k (by simp only[a_]at hk;rcases hk with rfl|rfl|rfl|hk;exact I_;exact o_ _ (y_ _ (by simp[rF,dI]));exact o_ _ (y_ _ (by simp[rF,dI]));exact o_ _ (C_ _ (C_ _ hk))),λk hk=>hhi k (o_ _ (y_ _ (by simp[rF,dI,hk])))⟩⟩,by simp,λk hk=>(by rcases a_.1 hk with rfl|hk;exact I_;exact o_ _ (C_ _ (C_ _ hk)))⟩,TU.refl _ _⟩;clear h hl hable cf hrv;go_enter func136,ntmps136;go_wp2
  first|go_end0|refine bodyPost_ret (results_none rfl _ _ _) rfl ?_
  exact⟨rfl,HE.out⟩
 ·have hch:=end_chain h hne hl hP hPj hPs hf hfs hc1 hable hg hhi hmn hgn;have hrv:∃g cap n,s.rv=.slice (some ⟨g,0,none⟩) (n+1) cap:=by
   rcases h.sb.own.shape with⟨_,e⟩|⟨g,cap,cur,e,_⟩
   ·exact absurd e hne
   ·refine⟨g,cap,(pre++o.toList).length-1,?_⟩;have:0<(pre++o.toList).length:=ay_.2 hne;rw[e]
    congr 1
    omega
  obtain⟨g0,cap0,n0,hrv⟩:=hrv;rw[hrv]at c13;have hz:¬((n0+1:Nat):Int)=0:=by omega
  clear h hl hable cf hrv hne;go_enter func136,ntmps136
  go_wp2_with (first|(go_at_call 169;refine hch.mono ?_;rintro e w1 ⟨rfl,hch1⟩)|(go_at_call 170;refine hch1.mono ?_;rintro e w2 ⟨rfl,g,of,n,cap,d13,hch2⟩)|(go_at_call 171;refine hch2.mono ?_;rintro e w3 ⟨pm,v14,rfl,e14,f14,hch3⟩))
  first|go_end0|refine bodyPost_ret (results_none rfl _ _ _) rfl ?_
  exact⟨rfl,hch3⟩
end Go.Proofs.YtjoinhljdbljaaaGreat
