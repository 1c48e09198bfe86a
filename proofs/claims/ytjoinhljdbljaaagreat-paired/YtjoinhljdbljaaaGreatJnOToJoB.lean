/- The last merge, and what follows. -/
import Derived.Test.YtjoinhljdbljaaaGreatCntCToJnN
set_option maxHeartbeats 4000000
set_option maxRecDepth 20000
set_option linter.unusedSectionVars false
namespace Go.Proofs.YtjoinhljdbljaaaGreat
open Go.RowKit Go.Proofs.Tryz
variable [Inhabited Ground]
variable {D F:List Nat} {L:List EV} {M:List PF} {N P bm bs cols j j2 lo m ps q:Nat} {R pre:List RI} {a b c e f hv:Value} {d:DS} {ks:List K} {lr:Rec} {rows:List Rec} {s s2:SC} {w w0 w00:World}
theorem slice_rest (g of of2 len cap n:Nat)(hn:n<=len)(hof:(n<cap/\of2=of+n)\/(n=cap/\len=n/\of2=of))(W:World):(Instr.sliceAt 160 (.slice (some ⟨g,of,none⟩) len cap) (some (.int .i64 (n:Int))) none none).run prog W=.ok (.slice (some ⟨g,of2,none⟩) (len-n) (cap-n)) W:=by
 have hsz:(sizeOf (prog.elem 160)).run prog W=.ok 1 W:=by kernel_rfl
 rw[run_sliceAt_slice _ _ _ _ _ _ (by kernel_rfl),run_slice_l W 160 _ len cap (by kernel_rfl) .i64 (n:Int) (by omega) (by omega),hsz];show Result.ok (sliced _ _ _ _ _) W=_;unfold sliced;rw[Int.toNat_natCast];rcases hof with⟨h1,rfl⟩|⟨h1,h2,rfl⟩
 ·have e1:¬cap=n:=by omega
  have e3:(⟨g,of,none⟩:Addr).add n=⟨g,of+n,none⟩:=by
   unfold Addr.add;by_cases h0:n=0
   ·rw[if_pos h0,h0];rfl
   ·rw[if_neg h0]
  rw[if_neg e1,Option.map_some,Nat.mul_one,e3]
 ·rw[if_pos h1.symm]
theorem PO.rest2 {g of of2 cap:Nat}(h:PO w (.slice (some ⟨g,of,none⟩) R.length cap) R)(n:Nat)(hn:n<=R.length)(hof:(n<cap/\of2=of+n)\/(n=cap/\R.length=n/\of2=of)):PO w (.slice (some ⟨g,of2,none⟩) (R.length-n) (cap-n)) (R.drop n):=by
 rcases hof with⟨_,rfl⟩|⟨rfl,h2,rfl⟩
 ·exact h.rest n hn
 ·obtain⟨g',o',cap',cur,e,hh,h3,h4,h5,h6⟩:=h;simp only[Value.slice.injEq,j_,Addr.mk.injEq,and_true]at e;obtain⟨⟨rfl,rfl⟩,_,rfl⟩:=e;have hd:R.drop n=[]:=O_ (by omega);refine⟨g,of2,n-n,cur,by rw[List.length_drop],hh,by rw[hd];simp,by omega,by omega,λi hi=>by rw[hd]at hi;simp at hi⟩
theorem info194':(prog.info? 194).map (λi=>(i.zero,i.size,i.bytes))=some (some (.pointer none),1,8):=by kernel_rfl
theorem wpList_offX {ops:Array Oper}{rest:List Oper}{o:Oper}{a:Act}{Q:Exit->Act->World->Prop}(hgd:o.guard=none)(s x:Operand)
  (ho:o.op=.call { callee:=.builtin .append,args:=#[s,x],argTypes:=#[160,160] }) (g of len cap:Nat) (R:List RI) (hs:a.eval s=.slice (some ⟨g,of,none⟩) len cap) (hown:PO w (.slice (some ⟨g,of,none⟩) len cap) R)
  (ad:Addr) (y:RI) (c:Nat) (hx:a.eval x=.slice (some ad) 1 c) (hnews:w.cell? ad=some y.ptr) (hlen:R.length<=1000000000) (kk:Nat) (hkk:(0<cap/\of+len=kk)\/(len=0/\cap=0))
  (h:∀g' o' cap' w',PO w' (.slice (some ⟨g',o',none⟩) (len+1) cap') (R++[y])->Touch [g] w w'->KR g kk w w'->(g'=g\/w.heap.size<=g')->wpList prog ops Q rest (a.put o.dst (.slice (some ⟨g',o',none⟩) (len+1) cap')) w') :
  wpList prog ops Q (o::rest) a w:=by
 rcases hkk with⟨_,rfl⟩|⟨rfl,rfl⟩
 ·exact wpList_off hgd s x ho g of len cap R hs hown ad y c hx hnews hlen h
 ·obtain⟨i0,hi,hz0,hz1,hz2⟩:=info_parts info194';obtain⟨_,_,_,_,e,_⟩:=hown;simp only[Value.slice.injEq]at e;obtain rfl:R=[]:=D_.1 e.2.1.symm;refine wpList_append_grows w hgd s x 160 ho 194 i0 (.pointer none) 1 8 underlying160 hi hz0 hz1 hz2 rfl (by decide) _ 0 0 [] hs (by simp) (by simp) (by intro _ _ j u hj;simp at hj) ad 1 c [y.ptr] hx (by simp) (λj u hj=>?_) (by simp[RI.ptr,Value.oneCell']) (by omega) (by unfold maxLen;omega) (by omega) ?_
  ·match j,hj with
   | 0,hj=>simp at hj;subst hj;exact hnews
  ·intro v' w' h1 h2;have t:Touch [] w w':=tr_.grown h2 (λk hk=>by simp at hk);rcases h1.2 with⟨_,e⟩|⟨g',cap',cur,rfl,hb,hh,hc,hm,hsz,ht⟩
   ·omega
   ·refine h g' 0 cap' w' ⟨g',0,cap',cur,rfl,hh,by simpa using hc,by omega,hm,λi hi=>?_⟩ (t.mono (by simp)) (λcur2 e=>⟨cur2,by rw[t.block g (agi.1 e).1 (by simp)];exact e,rfl,λ_ _=>rfl⟩) (.inr hb);simp only[List.nil_append,List.length_singleton]at hi;obtain rfl:i=0:=by omega
    have:=congrArg (λl=>l[0]?) ht;simp only[S_,Y_]at this;simpa using this
theorem mergeFirst_all (w:World)(ps:Nat)(s:SC)(ks:List K)(bm cols:Nat)(d:DS)(M:List PF)(pre:List RI)(n m j:Nat)(all:List Rec)(hal:((pre.take n).map RI.recs).flatten=all)(h:SM w ps s ks bm cols d M pre none pre)(hn:n<=pre.length)(hn1:1<=n)(hable:∀x∈pre,∀y∈x.recs,AB ks y.row)(hs:∀x∈pre,Srt ks x.recs)(hc1:1<=cols)(hl:Left d (all.length+(m+1)) (j+1))(hall:all.length<=900000)(hpl:pre.length<=900000) :
  Calls prog 182 #[.pointer (some ⟨ps,0,none⟩),.int .i64 (n:Int)] w λe w'=>e=.returned (.tuple #[])/\∃g' o' cap' r,MfDone w (smF ps s bm M pre) ps { s with rv:=.slice (some ⟨g',o',none⟩) (pre.length-n+1) cap' } ks bm cols (pre.drop n) r m j (d.last+1) all w'/\(s.rv.ownBlock=some g'\/w.heap.size<=g')/\w.heap.size<=r:=by
 have HH:=h;obtain⟨g,of,cap,cur,hrv,hcur,hp1,hp2,hp3,hp4⟩:=h.own;unfold maxLen at hp3;obtain⟨of2,hof⟩:∃of2,(n<cap/\of2=of+n)\/(n=cap/\pre.length=n/\of2=of):=by
  by_cases e:n<cap
  ·exact⟨of+n,.inl ⟨e,rfl⟩⟩
  ·exact⟨of,.inr ⟨by omega,by omega,rfl⟩⟩
 have hsl:∀W,(Instr.sliceAt 160 (.slice (some ⟨g,of,none⟩) pre.length cap) (some (.int .i64 (n:Int))) none none).run prog W=.ok (.slice (some ⟨g,of2,none⟩) (pre.length-n) (cap-n)) W:=λW=>slice_rest g of of2 pre.length cap n hn hof W;obtain⟨c0,c1,c2,c3,c4,c5,c6,c7,c8,c9,c10,c11,c12,c13,c14,c15,cf⟩:=h.sorter.cell;rw[hrv]at c13;have Ho:Hid (Calls prog 112 #[.agg #[.pointer (some ⟨s.bx,0,none⟩),.int .i64 (s.blk:Int)]] w λe w'=>∃x:RI,e=.returned (.pointer (some ⟨x.r,0,none⟩))/\w'.cell? ⟨ps,13,none⟩=some (.slice (some ⟨g,of,none⟩) pre.length cap)/\PO (w'.alloc (.cells #[.pointer (some ⟨x.r,0,none⟩)] 194)) (.slice (some ⟨g,of2,none⟩) (pre.length-n) (cap-n)) (pre.drop n)/\Hid (w.heap.size<=x.r/\x.recs=[]/\∃d' M',RS w' s.bx bm s.blk cols d' M' pre (some x)/\Left d' (all.length+(m+1)) j/\d'.last=d.last+1/\rowsOf M'=rowsOf M/\Touch [s.bx,bm] w w')):=by
  refine(runsNew_any _ _ h.runs hl).mono ?_;rintro e w' ⟨x,rfl,p1,p2,d',M',p3,p4,p5,p6,p7⟩;have n2:∀t,(117:TypeId)≠t->(9:TypeId)≠t->NT t w [s.bx,bm]:=λt h1 h2=>(h.runs.pd.nT h1 h2).sub (λk hk=>by
   simp only[a_,i_,or_false]at hk;rcases hk with rfl|rfl<;>simp[dI])
  have ho:=h.own;rw[hrv]at ho;exact⟨x,rfl,cah c13 p7 ((n2 260 (by decide) (by decide)).not_mem h.sorter),(((ho.keep (p7.tag (n2 194 (by decide) (by decide)))).keep ((tr_.alloc (.cells #[.pointer (some ⟨x.r,0,none⟩)] 194)).tu _)).rest2 n hn hof),p1,p2,d',M',p3,p4,p5,p6,p7⟩
 have hmf:∀(fn:Fn) (first cap:Array Value) (w:World),(Instr.makeFunc fn first cap).run prog w=.ok (.func fn first cap) w:=λ_ _ _ _=>rfl;have HAL:Hid (((pre.take n).map RI.recs).flatten=all):=hal;have HAB:Hid (∀x∈pre,∀y∈x.recs,AB ks y.row):=hable;have HS:Hid (∀x∈pre,Srt ks x.recs):=hs;have HHH:Hid (SM w ps s ks bm cols d M pre none pre):=HH;have HRV:Hid (s.rv=.slice (some ⟨g,of,none⟩) pre.length cap):=hrv;have HKK:Hid ((0<cap-n/\of2+(pre.length-n)=of+n+(pre.length-n))\/(pre.length-n=0/\cap-n=0)):=by show _\/_;omega
 clear hal h HH hable hs hl hcur hp2 hp4 hrv cf hof
 go_enter_defers func182,ntmps182
 go_wp2_with (first|(go_at_call 112;refine Ho.out.mono ?_;rintro e w2 ⟨x,rfl,y13,hO2,HX⟩)|(at_builtin;refine wpList_offX rfl (.tmp 28) (.tmp 30) rfl g of2 (pre.length-n) (cap-n) (pre.drop n) rfl hO2 ⟨w2.heap.size,0,none⟩ x 1 rfl (by simp[RI.ptr]) (by simp;omega) (of+n+(pre.length-n)) (HKK.out) ?_;intro g' o' cap' w4 q1 q2 q3 q4;have HZ:=HX.out;obtain⟨hx1,hx2,d',M',hR2,hl2,hla2,hM2,t2⟩:=HZ;have HL:=mf_laid HHH.out HRV.out (by omega) hR2 t2 q1 q2 q3;obtain⟨z1,HL2⟩:=HL;obtain⟨_,_,_,v3,_,_,_,_,_,_,_,_,_,v13,_,_,vf⟩:=z1.cell;have f13:=vf 13;have HQ:Hid (g'=g\/(w2.alloc (.cells #[.pointer (some ⟨x.r,0,none⟩)] 194)).heap.size<=g'):=q4;clear q1 q2 q3 q4 vf z1 hO2 y13)|(go_at_call 171;obtain⟨z2,z3,z4,z5,z6,z7⟩:=HL2;refine(nY _ ps { s with rv:=.slice (some ⟨g',o',none⟩) (pre.length-n+1) cap' } ks s.bx bm s.blk cols d' M' pre (some x) (.slice (some ⟨g,of,none⟩) n n) (pre.take n) z2 z3 z4 z6 (λy hy=>HAB.out y (L_ hy)) (λy hy=>L_ hy) (by simp;omega) hc1 (by have:=hl2.last;omega) (λy hy=>HS.out y (L_ hy))).mono ?_;rintro e w6 ⟨rfl,hG⟩;obtain⟨ph,bf,hI⟩:=mf_start (s:={ s with rv:=.slice (some ⟨g',o',none⟩) (pre.length-n+1) cap' }) (w0:=w) (F:=smF ps s bm M pre) (rest:=pre.drop n) (m:=m) (j:=j) (la:=d.last+1) hG z4 z2 z3 z5 z6 hx2 (by rw[HAL.out];exact hl2) hla2 (by simp;omega) (z7.u.mono (mf_front HRV.out)) (sac ps s bm M pre) (λi hi=>.inl (smF_disk ps s bm pre hM2 hi)) (.inr hx1);rw[HAL.out]at hI;obtain⟨_,_,_,u3,_⟩:=hI.sorter.cell;clear hG z2 z3 z4 z5 z6 hl2 v3 v13 f13 hR2 t2))
 have HGG:Hid (s.rv.ownBlock=some g'\/w.heap.size<=g'):=by
  rcases HQ.out with e|e
  ·exact .inl (by rw[HRV.out,e];rfl)
  ·obtain⟨_,_,_,_,_,_,_,_,tt⟩:=HX.out;have:=tt.size;rw[World.size_alloc]at e;exact .inr (by omega)
 have HRD:Hid (pre=pre.take n++pre.drop n):=(X_ n pre).symm;have hsz:(w4.setCell ⟨ps,13,none⟩ (.slice (some ⟨g',o',none⟩) (pre.length-n+1) cap')).heap.size=w4.heap.size:=by simp
 rw[hsz]at hI;have HLO:Hid (w.heap.size<=w4.heap.size):=by have:=z7.size;rw[hsz]at this;exact this
 clear hsz;clear z7 hx2 hla2 hM2
 go_loopw [42] (λi wr=>∃k:Nat,k<=all.length/\i=.int .i64 k/\MF w (smF ps s bm M pre) w4.heap.size ps { s with rv:=.slice (some ⟨g',o',none⟩) (pre.length-n+1) cap' } ks bm cols (w4.heap.size+2) ph bf pre (pre.take n) (.slice (some ⟨g,of,none⟩) n n) (pre.drop n) x.r m j (d.last+1) all k wr) (λi _=>all.length-(intOf i).toNat)
 case atStart=>exact⟨0,by omega,rfl,hI⟩
 case round=>
  clear hI u3;obtain⟨k,hk,rfl,hI⟩:=hrel;have HB:Hid (s.bx∈smF ps s bm M pre/\bm∈smF ps s bm M pre):=⟨sac ps s bm M pre,smF_bm ps s bm M pre⟩;by_cases hkc:(k:Int)<(s.count:Int)
  ·by_cases hlt:k<all.length
   ·have hst:=mf_next hI (λy hy=>L_ hy) hc1 hall HLO.out HB.out.1 hlt;have hks:k<=900000:=by omega
    go_wp2_with (first|(go_at_call 172;refine hst.mono ?_;rintro e w7 ⟨no,ao,an,aC,rfl,hst2⟩)|(go_at_call 113;refine(hst2 _ (tr_.alloc _)).mono ?_;rintro e w8 ⟨rfl,hI8⟩))
    go_roundw
    case rel=>exact⟨k+1,by omega,by go_num,hI8⟩
    case measure=>simp[intOf];omega
   ·have hke:k=all.length:=by omega
    have hst:=mf_over hI hke;have HKE:Hid (k=all.length):=hke;clear hke
    go_wp2_with (first|(go_at_call 172;refine hst.mono ?_;rintro e w7 ⟨rfl,hI7⟩;have hst2:=mf_end (hI7.quiet (tr_.alloc (.cells #[.int .i64 0,.slice none 0 0] 205))) (.inl HKE.out) HRD.out HB.out.1 HB.out.2)|(go_at_call 114;refine hst2.mono ?_;rintro e w8 ⟨rfl,hD8⟩))
    refine leaves_cons (f:=166) (args:=#[.slice (some ⟨g,of,none⟩) n n]) (by simp) (by simp[go_sem]) ?_;refine hD8.mono ?_;rintro e u' w9 ⟨rfl,rfl,hD9⟩;exact⟨_,results_none rfl _ _ _,rfl,g',o',cap',x.r,hD9,HGG.out,hx1⟩
  ·have hst2:=mf_end hI (.inr (by show s.count<=k;omega)) HRD.out HB.out.1 HB.out.2
   go_wp2_with (go_at_call 114;refine hst2.mono ?_;rintro e w8 ⟨rfl,hD8⟩)
   refine leaves_cons (f:=166) (args:=#[.slice (some ⟨g,of,none⟩) n n]) (by simp) (by simp[go_sem]) ?_;refine hD8.mono ?_;rintro e u' w9 ⟨rfl,rfl,hD9⟩;exact⟨_,results_none rfl _ _ _,rfl,g',o',cap',x.r,hD9,HGG.out,hx1⟩
structure Oe (w0:World)(F:List Nat)(ps:Nat)(s:SC)(ks:List K)(bm cols:Nat)(rows:List Rec)(m j:Nat)(x:RI)(s2:SC)(d:DS)(M:List PF)(w:World):Prop where
 sm:SM w ps s2 ks bm cols d M [x] none [x]
 cut:Cut ks s.count rows x.recs
 srt:Srt ks x.recs
 same:∃s1 v,Same s s1/\s2={ s1 with rv:=v }
 left:Left d m j
 touch:TU F w0 w
 sub:Sub w0 (smF ps s2 bm M [x]) F
theorem Oe.at {w0 w:World}{F:List Nat}{ps:Nat}{s:SC}{ks:List K}{bm cols:Nat}{rows:List Rec}{m j:Nat}{x:RI}{s2:SC}{d:DS}{M:List PF}(h:Oe w0 F ps s ks bm cols rows m j x s2 d M w):∃g of cap,w.cell? ⟨ps,13,none⟩=some (.slice (some ⟨g,of,none⟩) 1 cap)/\w.cell? ⟨g,of,none⟩=some (.pointer (some ⟨x.r,0,none⟩)):=by
 obtain⟨g,of,cap,cur,hrv,hcur,hp1,hp2,hp3,hp4⟩:=h.sm.own;obtain⟨_,_,_,_,_,_,_,_,_,_,_,_,_,c13,_⟩:=h.sm.sorter.cell;refine⟨g,of,cap,by rw[c13,hrv];rfl,?_⟩;have:=hp4 0 (by simp);simp only[Nat.add_zero,List.getElem_cons_zero]at this;simp[World.cell?,hcur,this,RI.ptr]
theorem one_chain {o:Option RI}(h:SS w ps bs s hv ks L bm cols d M pre o rows lr)(hne:pre++o.toList≠[])(hl:Left d (2*L.length+((P*(rows.length+1)+m)+1)) (L.length+j))(hP:1000000000<=P+j)(hPj:P+j2<=j)(hPs:P<=900000)(hf:2<=s.fan)(hfs:s.fan<=1000000)(hc1:1<=cols)(hable:∀y∈rows,AB ks y.row) :
  Calls prog 169 #[.pointer (some ⟨ps,0,none⟩)] w λe w1=>e=.returned (.tuple #[]) /\
   Calls prog 170 #[.pointer (some ⟨ps,0,none⟩)] w1 λe w2=>e=.returned (.tuple #[])/\∃g of n cap,w2.cell? ⟨ps,13,none⟩=some (.slice (some ⟨g,of,none⟩) (n+1) cap) /\
    ((n=0/\Hid (∃x s2 d2 M2,Oe w (sbF ps s hv bm M (pre++o.toList)) ps s ks bm cols rows m j2 x s2 d2 M2 w2))\/(1<=n /\
    Calls prog 182 #[.pointer (some ⟨ps,0,none⟩),.int .i64 ((n+1:Nat):Int)] w2 λe w3=>e=.returned (.tuple #[])/\Hid (∃x s2 d2 M2,Oe w (sbF ps s hv bm M (pre++o.toList)) ps s ks bm cols rows m j2 x s2 d2 M2 w3))):=by
 letI:Inhabited Range:=⟨⟨0,[]⟩⟩
 have hfew:=h.few;refine(spillAll_any w ps bs s hv ks L bm cols d M pre o rows lr _ j h hl).mono ?_;rintro e w1 ⟨rfl,s1,hv1,d1,M1,pre1,p1,p2,p3,p4,p5,p6,p7,p8⟩;refine⟨rfl,?_⟩;have hne1:=p6 hne;have hlast:=p4.last;have hlen:pre1.length<=P:=by omega
 have hmul:pre1.length*(rows.length+1)<=P*(rows.length+1):=an_ _ hlen;have hI:=p1.mt (by rw[p3.count];exact p2) hne1 (m:=m) (j:=j2) (p4.mono (by omega) (by omega)) p7 p8 (by omega);have e1:=p3.fan;have e2:=p3.count;refine(mG w1 ps s1 ks bm cols rows _ m j2 pre1 s1 d1 M1 w hI hne1 (by omega) (by omega) hc1 hable (by omega)).mono ?_;rintro e w2 ⟨rfl,pre2,s2,d2,M2,q1,q2⟩;obtain⟨v2,hs2⟩:=q1.same;obtain⟨g,of,cap,cur,hrv,_⟩:=q1.sm.own;obtain⟨_,_,_,_,_,_,_,_,_,_,_,_,_,c13,_⟩:=q1.sm.sorter.cell;obtain⟨n,hn⟩:∃n,pre2.length=n+1:=⟨pre2.length-1,by have:=ay_.2 q2;omega⟩;refine⟨rfl,g,of,n,cap,by rw[<-hn,<-hrv];exact c13,?_⟩;have hmem:∀x∈pre2,∀y∈x.recs,y∈rows:=λx hx y hy=>q1.runs.perm.mem (bg_.2 ⟨x.recs,T_ hx,hy⟩);have hcut:Cut ks s.count rows (pre2.map RI.recs).flatten:=by rw[<-p3.count];exact q1.runs.perm
 have hl2:Left d2 (rows.length+1+m) (1+j2):=by
  have:=q1.left;rw[hn,Nat.add_mul]at this;exact this.mono (by omega) (by omega)
 by_cases h0:n=0
 ·subst h0;refine .inl ⟨rfl,?_⟩;obtain⟨x,rfl⟩:=List.length_eq_one_iff.1 hn;refine⟨x,s2,d2,M2,q1.sm,by simpa using hcut,q1.runs.runs x.recs (by simp),⟨s1,v2,p3,hs2⟩,hl2.mono (by omega) (by omega),q1.touch,q1.sub⟩
 ·refine .inr ⟨by omega,?_⟩;have htot:=hcut.len;have hall:((pre2.take (n+1)).map RI.recs).flatten=(pre2.map RI.recs).flatten:=by rw[<-hn,bf_]
  refine(mergeFirst_all w2 ps s2 ks bm cols d2 M2 pre2 (n+1) m j2 _ hall q1.sm (by omega) (by omega) (λx hx y hy=>hable y (hmem x hx y hy)) (λx hx=>q1.runs.runs x.recs (T_ hx)) hc1 (hl2.mono (by omega) (by omega)) (by omega) q1.few).mono ?_;rintro e w3 ⟨rfl,g',o',cap',r,hD,hg',hr⟩;obtain⟨x,d3,M3,z1,z2,z3,z4,z5,z6,z7⟩:=hD.st;have hdr:pre2.drop (n+1)=[]:=by rw[<-hn,List.drop_length]
  rw[hdr]at z1;have hcnt:s2.count=s1.count:=by rw[hs2]
  have hmg:=(q1.runs.merge (n+1) (out:=x.recs) (by rw[<-List.map_take,hall,<-hcnt];exact z3) z4).perm;rw[<-List.map_drop,hdr,p3.count]at hmg;refine⟨rfl,x,_,d3,M3,z1,by simpa using hmg,z4,⟨s1,_,p3,by rw[hs2]⟩,z5,q1.touch.more hD.touch q1.sub,?_⟩;intro i hi;have hsz:=q1.touch.size;simp only[smF,rF,a_,d_,List.map_cons,List.map_nil,Value.ownBlock,Option.toList_some,i_,or_false]at hi;rcases hi with rfl|rfl|rfl|hi
  ·exact q1.sub _ (by simp[smF])
  ·rcases hg' with e|e
   ·exact q1.sub _ (by simp[smF,e])
   ·exact .inr (by omega)
  ·exact .inr (by omega)
  ·rcases z7 i hi with e|e
   ·exact q1.sub _ e
   ·exact .inr (by omega)
theorem reader_cells (w:World)(r:Nat):Calls prog 116 #[.pointer (some ⟨r,0,none⟩)] w λe w'=>e=.returned (.pointer (some ⟨w.heap.size,0,none⟩))/\w'.cell? ⟨w.heap.size,0,none⟩=some (.pointer (some ⟨r,0,none⟩))/\w'.cell? ⟨w.heap.size,1,none⟩=some (.int .i64 0)/\w'.cell? ⟨w.heap.size,2,none⟩=some (.string (BA []))/\w.heap.size<w'.heap.size/\Touch [] w w':=by
 refine(rZ w r []).mono ?_;rintro e w' ⟨rfl,⟨k,rest,q1,e1,e2⟩,q2,q3⟩;obtain rfl:k=0:=by simpa using e2
 obtain rfl:rest=[]:=by simpa using e1.symm
 unfold RD at q1;refine⟨rfl,?_,?_,?_,q2,q3⟩<;>simp[World.cell?,q1,encs,rV]
theorem Oe.quiet {w0 w w':World}{F:List Nat}{ps:Nat}{s:SC}{ks:List K}{bm cols:Nat}{rows:List Rec}{m j:Nat}{x:RI}{s2:SC}{d:DS}{M:List PF}(h:Oe w0 F ps s ks bm cols rows m j x s2 d M w)(t:Touch [] w w'):Oe w0 F ps s ks bm cols rows m j x s2 d M w':=
 ⟨⟨h.sm.sorter.u t.u (by simp),Sl3.keep h.sm.keys (t.tu _),h.sm.runs.quiet t (by simp) (λk hk=>by simp at hk),h.sm.own.keep (t.tu _)⟩,h.cut,h.srt,h.same,h.left,h.touch.more t.u (by simp),h.sub⟩
theorem boxPass (h:w.heap[q]?=some (.cells #[a,b,c,e,f] 243)):w.cell? ⟨q,0,none⟩=some a/\w.cell? ⟨q,1,none⟩=some b/\w.cell? ⟨q,2,none⟩=some c/\w.cell? ⟨q,3,none⟩=some e/\w.cell? ⟨q,4,none⟩=some f/\∀o,w.frozen? ⟨q,o,none⟩=false:=by
 simp[World.cell?,World.frozen?,h]
theorem boxPass_set (h:w.heap[q]?=some (.cells #[a,b,c,e,f] 243))(a' b' c' e' f':Value):(((((w.setCell ⟨q,0,none⟩ a').setCell ⟨q,1,none⟩ b').setCell ⟨q,2,none⟩ c').setCell ⟨q,3,none⟩ e').setCell ⟨q,4,none⟩ f').heap[q]?=some (.cells #[a',b',c',e',f'] 243)/\Touch [q] w (((((w.setCell ⟨q,0,none⟩ a').setCell ⟨q,1,none⟩ b').setCell ⟨q,2,none⟩ c').setCell ⟨q,3,none⟩ e').setCell ⟨q,4,none⟩ f'):=by
 refine⟨?_,(((((Touch.refl [q] w).setCell (p:=⟨q,0,none⟩) (by simp) _).setCell (p:=⟨q,1,none⟩) (by simp) _).setCell (p:=⟨q,2,none⟩) (by simp) _).setCell (p:=⟨q,3,none⟩) (by simp) _).setCell (p:=⟨q,4,none⟩) (by simp) _⟩;have h1:=heap_setCell_same _ q 0 _ 243 a' h;have h2:=heap_setCell_same _ q 1 _ 243 b' h1;have h3:=heap_setCell_same _ q 2 _ 243 c' h2;have h4:=heap_setCell_same _ q 3 _ 243 e' h3;have h5:=heap_setCell_same _ q 4 _ 243 f' h4;simpa using h5
theorem Oe.other {w0 w w':World}{F:List Nat}{ps:Nat}{s:SC}{ks:List K}{bm cols:Nat}{rows:List Rec}{m j:Nat}{x:RI}{s2:SC}{d:DS}{M:List PF}{q:Nat}{cs:Array Value}(h:Oe w0 F ps s ks bm cols rows m j x s2 d M w)(hq:w.heap[q]?=some (.cells cs 243))(t:Touch [q] w w')(hq0:w0.heap.size<=q):Oe w0 F ps s ks bm cols rows m j x s2 d M w':=by
 have k:∀t',(243:TypeId)≠t'->KT t' w w':=λt' ht=>t.tag (nO hq ht);exact⟨⟨k 260 (by decide) _ _ _ h.sm.sorter,Sl3.keep h.sm.keys (k 73 (by decide)),h.sm.runs.turned (h.sm.runs.pd.other t (λk hk=>by rw[ms_ hk];exact⟨_,_,_,hq,by decide,by decide⟩)) t (nO hq (by decide)) (nO hq (by decide)),h.sm.own.keep (k 194 (by decide))⟩,h.cut,h.srt,h.same,h.left,h.touch.more t.u (λi hi=>by rw[ms_ hi];exact .inr hq0),h.sub⟩
theorem Oe.base {x:RI}(h:Oe w0 F ps s ks bm cols rows m j x s2 d M w)(t:Touch [] w00 w0):Oe w00 F ps s ks bm cols rows m j x s2 d M w:=
 ⟨h.sm,h.cut,h.srt,h.same,h.left,(t.u.mono (by simp)).more h.touch (λi hi=>.inl hi),λk hk=>(h.sub k hk).imp_right (λe=>k_ t.size e)⟩
theorem one_spilled (w:World)(ps bs:Nat)(s:SC)(hv:Value)(ks:List K)(L:List EV)(bm cols:Nat)(d:DS)(M:List PF)(pre:List RI)(o:Option RI)(rows:List Rec)(lr:Rec)(P m j j2:Nat)(h:SS w ps bs s hv ks L bm cols d M pre o rows lr)(hne:pre++o.toList≠[])(hl:Left d (2*L.length+((P*(rows.length+1)+m)+1)) (L.length+j))(hP:1000000000<=P+j)(hPj:P+j2<=j)(hPs:P<=900000)(hf:2<=s.fan)(hfs:s.fan<=1000000)(hc1:1<=cols)(hable:∀y∈rows,AB ks y.row) :
  Calls prog 150 #[.pointer (some ⟨ps,0,none⟩)] w λe w'=>∃x s2 d2 M2,e=.returned (.agg #[.slice none 0 0,.pointer (some ⟨x.r,0,none⟩),.int .i64 0,.string (BA []),.bool true])/\Oe w (sbF ps s hv bm M (pre++o.toList)) ps s ks bm cols rows m j2 x s2 d2 M2 w':=by
 obtain⟨c0,c1,c2,c3,c4,c5,c6,c7,c8,c9,c10,c11,c12,c13,c14,c15,cf⟩:=h.sb.sorter.cell;have hrv:∃g cap n,s.rv=.slice (some ⟨g,0,none⟩) (n+1) cap:=by
  rcases h.sb.own.shape with⟨_,e⟩|⟨g,cap,cur,e,_⟩
  ·exact absurd e hne
  ·refine⟨g,cap,(pre++o.toList).length-1,?_⟩;have:0<(pre++o.toList).length:=ay_.2 hne;rw[e]
   congr 1
   omega
 obtain⟨g0,cap0,n0,hrv⟩:=hrv;rw[hrv]at c13;have hz:¬((n0+1:Nat):Int)=0:=by omega
 have hsb:=h.sb.lt;have hps:ps<w.heap.size:=hsb ps (by simp[sbF]);have HCH:=λ(w1:World) (t:Touch [] w w1)=>one_chain (h.qU t) hne hl hP hPj hPs hf hfs hc1 hable;have HC:Hid (∀(w1:World) (t:Touch [] w w1),_):=HCH;have HS:Hid (∀k∈sbF ps s hv bm M (pre++o.toList),k<w.heap.size):=hsb;have HB:Hid (∀(x:RI) (s2:SC) (d2:DS) (M2:List PF) (w3:World),Oe (w.alloc (.cells #[.slice none 0 0,.pointer none,.int .i64 0,.string { data:=#[] },.bool false] 243)) (sbF ps s hv bm M (pre++o.toList)) ps s ks bm cols rows m j2 x s2 d2 M2 w3->w3.heap[w.heap.size]?=some (.cells #[.slice none 0 0,.pointer none,.int .i64 0,.string { data:=#[] },.bool false] 243)):=λx s2 d2 M2 w3 hO=>hO.touch.keep (heap_alloc_new w _) (by decide) (λhk=>absurd (hsb _ hk) (by omega));clear h hl hable cf hrv hne HCH hsb c0 c1 c2 c3 c4 c5 c6 c7 c8 c9 c10 c11 c12 c14 c15;go_enter func150,ntmps150
 go_wp2_with (first|(go_at_call 169;refine(HC.out _ (tr_.alloc _)).mono ?_;rintro e w1 ⟨rfl,hch1⟩)|(go_at_call 170;refine hch1.mono ?_;rintro e w2 ⟨rfl,g,of,n,cap,d13,hch2⟩;rcases hch2 with⟨rfl,hO⟩|⟨hn,hch3⟩;(obtain⟨x,s2,d2,M2,hO⟩:=hO.out;obtain⟨g2,of2,cap2,u13,ux⟩:=hO.at;have HO:Hid _:=hO;have HB3:Hid _:=HB.out _ _ _ _ _ hO;clear hO d13 hch1))|(go_at_call 182;refine hch3.mono ?_;rintro e w3 ⟨rfl,hO⟩;obtain⟨x,s2,d2,M2,hO⟩:=hO.out;obtain⟨g2,of2,cap2,u13,ux⟩:=hO.at;have HO:Hid _:=hO;have HB3:Hid _:=HB.out _ _ _ _ _ hO;clear hO)|(go_at_call 116;refine(reader_cells _ _).mono ?_;rintro e w4 ⟨rfl,r0,r1,r2,r3,r4⟩;have hb4:=r4.u.keep HB3.out (by decide) (by simp);obtain⟨y0,y1,y2,y3,y4,yf⟩:=boxPass hb4;have HB4:Hid _:=hb4;have R4:Hid _:=r4;clear hb4 r4))
 all_goals obtain⟨z1,z2⟩:=boxPass_set HB4.out (.slice none 0 0) (.pointer (some ⟨x.r,0,none⟩)) (.int .i64 0) (.string (BA [])) (.bool true)
 all_goals refine bodyPost_ret (results_cell_row rfl _ _ w.heap.size 243 _ _ _ rfl z1 underlying243 rfl (by kernel_rfl)) rfl ?_
 all_goals exact⟨x,s2,d2,M2,rfl,((HO.out.base (tr_.alloc _)).quiet R4.out).other HB4.out z2 (e_ _)⟩
theorem OG.newBox {T:List TypeId}{W X Y:World}(h:OG T lo N D F W X)(t:Touch [q] X Y)(hq:W.heap.size<=q)(hlo:lo<=q):OG T lo N D F W Y:=by
 have st:∀(k:Nat) (ob ob':Obj),W.heap[k]?=some ob->X.heap[k]?=some ob'->Y.heap[k]?=some ob':=λk ob ob' e e'=>by
  rw[t.block k (agi.1 e').1 (λhk=>by have:=(agi.1 e).1;rw[ms_ hk]at this;omega)];exact e'
 exact⟨k_ h.size t.size,λt1 a b k cs f c e=>st k _ _ e (h.cells t1 a b k cs f c e),λt1 a k cs f c e=>st k _ _ e (h.spec t1 a k cs f c e),λk ob a e c=>st k _ _ e (h.others k ob a e c),λk ob a b e c=>st k _ _ e (h.old k ob a b e c),h.low.trans (t.low (λk hk=>by rw[ms_ hk];exact hlo))⟩
theorem spst_held (h:SS w ps bs s hv ks L bm cols d M [] none rows lr)(hl:Left d m j)(hg:s.given=0)(hmg:s.mg=.pointer none)(hL:L.length<=100000)(hhi:Hi bm (sbF ps s hv bm M []))(hmn:∀k∈sbF ps s hv bm M [],@Mine ⟨⟨N,D⟩⟩ k):@SA _ ⟨⟨N,D⟩⟩ d M bs w ps s.bx bm s.blk cols s.count m j ks rows [] (ps::h_ s.ph hv) (min s.count rows.length):=by
 letI:Inhabited Range:=⟨⟨N,D⟩⟩
 exact⟨by simp,s,hv,L,rfl,rfl,rfl,hl,rfl,rfl,h.sb,SI.giving (by simpa using h.lists),hmg,by simpa using hg,hL,λk hk=>hhi k (by simp only[a_]at hk;rcases hk with rfl|rfl|hk;exact I_;exact o_ _ (y_ _ (by simp[rF,dI]));exact o_ _ (C_ _ (C_ _ hk))),λk hk=>hmn k (by simp only[a_]at hk;rcases hk with rfl|rfl|rfl|hk;exact I_;exact o_ _ (y_ _ (by simp[rF,dI]));exact o_ _ (y_ _ (by simp[rF,dI]));exact o_ _ (C_ _ (C_ _ hk))),λk hk=>hhi k (o_ _ (y_ _ (by simp[rF,dI,hk])))⟩
theorem one_held (w:World)(N:Nat)(D:List Nat)(ps bs:Nat)(s:SC)(hv:Value)(ks:List K)(L:List EV)(bm cols:Nat)(d:DS)(M:List PF)(rows:List Rec)(lr:Rec)(m j:Nat)(h:SS w ps bs s hv ks L bm cols d M [] none rows lr)(hl:Left d m j)(hg:s.given=0)(hmg:s.mg=.pointer none)(hL:L.length<=100000)(hhi:Hi bm (sbF ps s hv bm M []))(hmn:∀k∈sbF ps s hv bm M [],@Mine ⟨⟨N,D⟩⟩ k)(hN:N<=w.heap.size) :
  Calls prog 150 #[.pointer (some ⟨ps,0,none⟩)] w λe w'=>∃lv out vs,e=.returned (.agg #[lv,.pointer none,.int .i64 0,.string { data:=#[] },.bool false])/\LW w' lv vs/\vs.length=out.length/\(∀i (_:i<vs.length) (_:i<out.length),Ro w' vs[i] out[i].row)/\First ks s.count rows out/\(out.length=s.count\/out.Perm rows)/\SEndM d M w' ps s.bx bm s.blk cols/\OO bm N D w w'/\∀k,lv.ownBlock=some k->w.heap.size<=k:=by
 obtain⟨_,_,_,_,_,_,_,_,_,_,_,_,_,c13,_⟩:=h.sb.sorter.cell;have hrv:∃ao cap,s.rv=.slice ao 0 cap:=by
  rcases h.sb.own.shape with⟨e,_⟩|⟨g,cap,cur,e,_⟩
  ·exact⟨_,_,e⟩
  ·exact⟨_,_,e⟩
 obtain⟨ao,cap,hrv⟩:=hrv;rw[hrv]at c13;have hps:ps<w.heap.size:=h.sb.lt ps (by simp[sbF]);have hbm:bm<w.heap.size:=h.sb.runs.pd.lt bm (by simp);have HR:Hid (∀w1:World,Touch [] w w1->Calls prog 181 #[.pointer (some ⟨ps,0,none⟩)] w1 λe w'=>∃lo ln lc out vs,e=.returned (.slice lo ln lc)/\LW w' (.slice lo ln lc) vs/\vs.length=out.length/\(∀i (_:i<vs.length) (_:i<out.length),Ro w' vs[i] out[i].row)/\First ks s.count rows out/\(out.length=s.count\/out.Perm rows)/\SEndM d M w' ps s.bx bm s.blk cols/\OO bm N D w1 w'/\∀k,(Value.slice lo ln lc).ownBlock=some k->w1.heap.size<=k):=λw1 t=>by
  have hsz:=t.size;refine(rest_any w1 N D ps s.bx bm s.blk cols s.count m j ks rows _ _ (spst_held (h.qU t) hl hg hmg hL hhi hmn) h.few (by omega) (by omega)).mono ?_;rintro e w' ⟨lv,out,vs,rfl,a1,a2⟩;rcases a1.2 with⟨rfl,_⟩|⟨g,cap,cur,rfl,_⟩
  ·exact⟨_,_,_,out,vs,rfl,a1,a2⟩
  ·exact⟨_,_,_,out,vs,rfl,a1,a2⟩
 clear h hl hg hmg hL hhi hmn hrv;go_enter func150,ntmps150
 go_wp2_with (first|(go_at_call 181;refine(HR.out _ (tr_.alloc _)).mono ?_;rintro e w1 ⟨lo,ln,lc,out,vs,rfl,a1,a2,a3,a4,a5,a6,a7,a8⟩;have hb1:=a7.1.tag (t:=243) (by decide) (by decide) (by decide) _ _ _ (heap_alloc_new w _);obtain⟨y0,y1,y2,y3,y4,yf⟩:=boxPass hb1;have HA:Hid (LW w1 (.slice lo ln lc) vs/\vs.length=out.length/\(∀i (_:i<vs.length) (_:i<out.length),Ro w1 vs[i] out[i].row)/\First ks s.count rows out/\(out.length=s.count\/out.Perm rows)/\SEndM d M w1 ps s.bx bm s.blk cols/\∀k,(Value.slice lo ln lc).ownBlock=some k->w.heap.size<=k):=⟨a1,a2,a3,a4,a5,a6,λk hk=>by have:=a8 k hk;rw[World.size_alloc]at this;omega⟩;have HB1:Hid _:=hb1;have HO:Hid _:=a7;clear a1 a2 a3 a4 a5 a6 a7 a8 hb1))
 obtain⟨z1,z2⟩:=boxPass_set HB1.out (.slice lo ln lc) (.pointer none) (.int .i64 0) (.string { data:=#[] }) (.bool false);refine bodyPost_ret (results_cell_row rfl _ _ w.heap.size 243 _ _ _ rfl z1 underlying243 rfl (by kernel_rfl)) rfl ?_;obtain⟨a1,a2,a3,a4,a5,a6,a8⟩:=HA.out;have kt:∀t',(243:TypeId)≠t'->KT t' w1 _:=λt' ht=>z2.tag (nO HB1.out ht);have gd:=(t_ (T:=Aa) 0 z2 (λk hk=>by
  obtain rfl:=ms_ hk;exact⟨_,_,_,HB1.out,by decide⟩)).1
 letI:Inhabited Range:=⟨⟨N,D⟩⟩
 refine⟨.slice lo ln lc,out,vs,rfl,a1.keep (kt 83 (by decide)),a2,λi p q=>Sl3.keep (a3 i p q) (kt 85 (by decide)),a4,a5,(by obtain⟨s',e1,e2,e3,e4,e5⟩:=a6;exact⟨s',e1,e2,gd.cells 260 (by decide) _ _ _ e3,e4.guard (gd.mono (by decide) (e_ _)),e5⟩),⟨(((tr_.alloc _).g [83] bm N D []).trans HO.out.1).newBox z2 (e_ _) (Z_ hbm),λk ob e ho=>?_⟩,a8⟩;have e1:=HO.out.2 k ob ((tr_.alloc _).o bm N D |>.2 k ob e ho) ho;rw[z2.block k (agi.1 e1).1 (λhk=>?_)]
 ·exact e1
 ·have:=(agi.1 e).1;rw[ms_ hk]at this;omega
end Go.Proofs.YtjoinhljdbljaaaGreat
namespace Go.Proofs.YtjoinhljdbljaaaGreat
open Go.RowKit Go.Proofs.Tryz
variable [Inhabited Ground] {X:List Nat}
variable {A B W W' w w0 wc:World} {D F:List Nat} {M:List PF} {N N2 P b bc blk bm br bs bx c cols count fan i j j2 lo m mm most ps rc:Nat} {cv lv sv:Value} {d:DS} {ks:List K} {rows:List (List V)} {s s2:SC} {vs:List Value} {x:RI}
theorem wH (w:World)(fn:Fn)(fa fc:Array Value)(co:Option Addr)(cl cc:Nat) :
  Calls prog 148 #[.func fn fa fc,.slice co cl cc] w λe w'=>∃br bc,e=.returned (.func (.func 178) #[] #[.pointer (some ⟨br,0,none⟩),.pointer (some ⟨bc,0,none⟩)])/\w'.heap[br]?=some (.cells #[.func fn fa fc] 165)/\w'.heap[bc]?=some (.cells #[.slice co cl cc] 37)/\w.heap.size<=br/\w.heap.size<=bc/\Touch [] w w':=by
 have hmf:∀(fn:Fn) (first cap:Array Value) (w:World),(Instr.makeFunc fn first cap).run prog w=.ok (.func fn first cap) w:=λ_ _ _ _=>rfl;go_enter func148,ntmps148;go_wp2;go_ret;exact⟨_,_,rfl,heap_alloc2_old w _ _,heap_alloc2_new w _ _,by omega,by omega,(tr_.alloc _).alloc _⟩
theorem Oe.pass {rows:List Rec}(h:Oe w0 F ps s ks bm cols rows m j x s2 d M w)(hc1:1<=cols)(hX:x.r∈X)(lo:Option Addr)(ln lc:Nat)(row:Value)(ok:Bool):@PV ⟨⟨d.last,gq d.files⟩⟩ X w s2.bx s2.blk cols d ⟨.slice lo ln lc,.pointer (some ⟨x.r,0,none⟩),0,BA [],true,row,ok⟩ (x.recs.map Rec.row):=by
 obtain⟨h1,h2⟩:=h.sm.runs.done x (by simp);have hk:=h.sm.runs.known x (by simp);have hl:=h.left.last;have hn:=h.sm.runs.len x (by simp);have hr:x.recs=x.cs.flatten:=by simp[RI.recs,h2]
 have hrec:=h.sm.runs.recs x (by simp);have hcol:=h.sm.runs.col x (by simp);have hb2:=h.sm.runs.b2;have hc2:=h.sm.runs.c2;obtain⟨g1,_,g2,g3⟩:=h1;clear h
 letI:Inhabited Ground:=⟨⟨d.last,gq d.files⟩⟩
 refine .inr ⟨rfl,⟨_,_,_,rfl⟩,⟨x.r,x.file,x.cols,x.cs,[],⟨rfl,hX⟩,by simp[encs],x_ _,by simp[hr],λy hy=>hrec y (by simpa[hr]using hy),λhne=>hcol (λe=>hne (by simp[e])),g1,⟨hk,g2⟩,g3,by omega,by omega⟩,hb2,hc1,hc2⟩
theorem Oe.ended {rows:List Rec}(h:Oe w0 F ps s ks bm cols rows m j x s2 d M w)(hhi:Hi bm F)(hmn:∀k∈F,@Mine ⟨⟨N,D⟩⟩ k)(hN:N<=w0.heap.size)(hbm:bm<=w0.heap.size):@Sv _ ⟨⟨N,D⟩⟩ w ps s.bx bm s.blk cols m j:=by
 letI:Inhabited Range:=⟨⟨N,D⟩⟩
 obtain⟨s1,v,e1,e2⟩:=h.same;have b1:s2.bx=s.bx:=by rw[e2];exact e1.bx
 have b2:s2.blk=s.blk:=by rw[e2];exact e1.blk
 have mine:∀k∈smF ps s2 bm M [x],Mine k:=λk hk=>(h.sub k hk).elim (hmn k) (λe=>.inl (k_ hN e));have m1:=mine _ (sac ps s2 bm M [x]);have hi1:bm<=s2.bx:=(h.sub _ (sac ps s2 bm M [x])).elim (hhi _) (λe=>k_ hbm e);have hr:=h.sm.runs;rw[b1]at m1 hi1;rw[b1,b2]at hr;exact⟨hi1,⟨m1,mine _ (smF_bm ps s2 bm M [x])⟩,s2,d,M,[x],b1,b2,h.sm.sorter,hr,.inl h.sm.own,h.left,λk hk=>(h.sub k (by simp only[smF,rF,dI,a_,d_];exact .inr (.inr (.inr (.inr (.inr hk)))))).elim (hhi k) (λe=>k_ hbm e)⟩
variable [Inhabited Ground]
theorem Cut.all {rows kept:List Rec}(h:Cut ks c rows kept)(hl:rows.length<=c):kept.Perm rows:=by
 obtain⟨dr,h1,h2⟩:=h;cases dr with
 | nil=>simpa using h1
 | cons x t=>
  have h3:=h2 x (by simp);have h4:=k_ h3 List.countP_le_length;have h5:=h1.length_eq;simp only[c_,List.length_cons]at h5;omega
structure IE (X:List Nat)(w:World)(N:Nat)(D:List Nat)(ps bx bm blk cols m j:Nat)(ks:List K)(rows:List Rec)(lv rp:Value)(s:ByteArray)(sp:Bool)(out:List Rec)(sc:SC)(d:DS)(M:List PF)(pre:List RI):Prop where
 perm:out.Perm rows
 srt:Srt ks out
 hi:bm<=bx
 own:@Mine ⟨⟨N,D⟩⟩ bx/\@Mine ⟨⟨N,D⟩⟩ bm
 ebx:sc.bx=bx
 eblk:sc.blk=blk
 sorter:Sr w ps sc
 runs:RS w bx bm blk cols d M pre none
 rv:PO w sc.rv pre\/(pre=[]/\∃ao cap,sc.rv=.slice ao 0 cap)
 left:Left d m j
 pass:∀row ok,@PV ⟨⟨d.last,gq d.files⟩⟩ X w bx blk cols d ⟨lv,rp,0,s,sp,row,ok⟩ (out.map Rec.row)
 new:∀k∈X,(N<=k\/k∈D)/\∃cs t,w.heap[k]?=some (.cells cs t (0,0))/\(t=83\/t=223)
 lvS:∃o n c,lv=.slice o n c
 dsk:∀k∈dI bx bm M,(N<=k\/k∈D)/\bm<=k
 rpS:∃a,rp=.pointer a
theorem Oe.inOne {rows:List Rec}(h:Oe w0 F ps s ks bm cols rows m j x s2 d M w)(hc1:1<=cols)(hl:rows.length<=s.count)(hhi:Hi bm F)(hmn:∀k∈F,@Mine ⟨⟨N,D⟩⟩ k)(hN:N<=w0.heap.size)(hbm:bm<=w0.heap.size):IE [x.r] w N D ps s.bx bm s.blk cols m j ks rows (.slice none 0 0) (.pointer (some ⟨x.r,0,none⟩)) (BA []) true x.recs s2 d M [x]:=by
 obtain⟨s1,v,e1,e2⟩:=h.same;have b1:s2.bx=s.bx:=by rw[e2];exact e1.bx
 have b2:s2.blk=s.blk:=by rw[e2];exact e1.blk
 have hp:=λrow ok=>h.pass (X:=[x.r]) hc1 (by simp) none 0 0 row ok;have hr:=h.sm.runs
 letI:Inhabited Range:=⟨⟨N,D⟩⟩
 have hen:=h.ended hhi hmn hN hbm;rw[b1,b2]at hp hr;refine⟨h.cut.all hl,h.srt,hen.hi,hen.own,b1,b2,h.sm.sorter,hr,.inl h.sm.own,h.left,hp,λk hk=>?_,⟨_,_,_,rfl⟩,λk hk=>?_,⟨_,rfl⟩⟩
 ·rw[ms_ hk];exact⟨(h.sub x.r (by simp[smF,rF])).elim (hmn _) (λe=>.inl (k_ hN e)),_,223,(h.sm.runs.done x (by simp)).1.cell,.inr rfl⟩
 ·have hm:k∈smF ps s2 bm M [x]:=by
   rw[<-b1]at hk;simp only[smF,rF,a_,d_];exact .inr (.inr (.inr hk))
  rcases h.sub k hm with e|e
  ·exact⟨hmn k e,hhi k e⟩
  ·exact⟨.inl (k_ hN e),k_ hbm e⟩
theorem inOne_held {rows out:List Rec}(h1:LW w lv vs)(h2:vs.length=out.length)(h3:∀i (_:i<vs.length) (_:i<out.length),Ro w vs[i] out[i].row)(h4:First ks count rows out)(h5:out.length=count\/out.Perm rows)(h6:SEndM d M w ps bx bm blk cols)(hlf:Left d m j)(hdk:∀k∈dI bx bm M,(N<=k\/k∈D)/\bm<=k)(hl:rows.length<=count)(hf:rows.length<=100000)(hnew:∀k,lv.ownBlock=some k->N<=k):∃sc,IE lv.ownBlock.toList w N D ps bx bm blk cols m j ks rows lv (.pointer none) { data:=#[] } false out sc d M []:=by
 have hp:=h4.all h5 hl;have hn:=hp.length_eq;obtain⟨s,e1,e2,e3,e4,e5⟩:=h6;refine⟨s,hp,h4.sorted,(hdk bx (by simp[dI])).2,⟨(hdk bx (by simp[dI])).1,(hdk bm (by simp[dI])).1⟩,e1,e2,e3,e4,.inr ⟨rfl,e5⟩,hlf,λrow ok=>.inl ⟨rfl,by simp only[u_];omega,λg off n c e=>by rw[show lv=_ from e];simp[Value.ownBlock],vs,(LW.at h1).1,by simpa using h2,λi a b=>?_⟩,λk hk=>?_,h1.slice,hdk,⟨_,rfl⟩⟩
 ·simp only[u_]at b;simpa using h3 i a b
 ·have hk':lv.ownBlock=some k:=by simpa using hk
  obtain⟨cs,e⟩:=h1.block k hk';exact⟨.inl (hnew k hk'),cs,83,e,.inl rfl⟩
theorem addSt_one (h:Ad N D W ps bs bx bm blk count fan most cols ((P*(rows.length+1)+m)+1) j ks rows rows.length)(hok:Rf blk cols ks rows)(hP:1000000000<=P+j)(hPj:P+j2<=j)(hPs:P<=900000)(hf:2<=fan)(hfs:fan<=1000000)(hc1:1<=cols)(hN:N<=W.heap.size)(hcnt:rows.length<=count) :
  Calls prog 150 #[.pointer (some ⟨ps,0,none⟩)] W λe W'=>∃X lv rp s sp out sc d' M' pre',e=.returned (.agg #[lv,rp,.int .i64 0,.string s,.bool sp])/\IE X W' N D ps bx bm blk cols m j2 ks (rO rows) lv rp s sp out sc d' M' pre'/\OO bm N D W W':=by
 obtain⟨s,hv,L,d,M,pre,o,lr,h1,hhi,hND,h2,h3,h4⟩:=h.st;have hl:=rE rows;have ht:(rO rows).take rows.length=rO rows:=N_ (by omega);rw[ht]at h1;have e1:=h3.fan;have e2:=h3.count;have hLl:L.length<=(rO rows).length:=by
  have:=h1.lists.perm.len;simp only[c_,u_]at this;omega
 have hfew:=h1.few;have hab:∀y∈rO rows,AB ks y.row:=λy hy=>by
  obtain⟨i,hi,rfl⟩:=r_ hy;exact hok.able _ (m_ _)
 have hbm:bm<W.heap.size:=h1.sb.runs.pd.lt bm (by simp);by_cases hne:pre++o.toList=[]
 ·obtain⟨hpre,ho⟩:=au_.1 hne;have ho':o=none:=by cases o with|none=>rfl|some x=>simp at ho
  subst hpre;subst ho';refine(one_held W N D ps bs s hv ks L bm cols d M (rO rows) lr m j2 h1 (h4.mono (by omega) (by omega)) h3.given h3.mg (by omega) (by simpa using hhi) (λk hk=>hND k (by simpa using hk)) hN).mono ?_;rintro e W' ⟨lv,out,vs,rfl,a1,a2,a3,a4,a5,a6,a7,a8⟩;obtain⟨sc,this⟩:=inOne_held (N:=N) (D:=D) (m:=m) (j:=j2) a1 a2 a3 a4 a5 a6 (h4.mono (by omega) (by omega)) (λk hk=>by
   have hm:k∈sbF ps s hv bm M ([]++(none:Option RI).toList):=o_ _ (y_ _ (by simpa[rF]using hk));exact⟨hND k hm,hhi k hm⟩) (by omega) (by omega) (λk hk=>k_ hN (a8 k hk))
  rw[h3.bx,h3.blk]at this;exact⟨_,lv,_,_,_,out,sc,d,M,[],rfl,this,a7⟩
 ·refine(one_spilled W ps bs s hv ks L bm cols d M pre o (rO rows) lr P m j j2 h1 hne (by rw[hl];exact h4.mono (by omega) (by omega)) hP hPj hPs (by omega) (by omega) hc1 hab).mono ?_;rintro e W' ⟨x,s2,d2,M2,rfl,hO⟩;have:=hO.inOne (N:=N) (D:=D) hc1 (by omega) hhi hND hN (Z_ hbm);rw[h3.bx,h3.blk]at this;exact⟨_,_,_,_,_,_,_,_,_,_,rfl,this,OwnA.o ⟨_,hO.touch,h1.sb.ownF,hhi,hND⟩⟩
def nN (cols:List Int)(rows:List (List V)):List (List V):=rows.filter λr=>!nI cols r
def stay (cols:List Int)(rows:List (List V))(i:Nat):Nat:=(nN cols (rows.take i)).length
theorem stay_zero (cols:List Int)(rows:List (List V)):stay cols rows 0=0:=by simp[stay,nN]
theorem stay_all (cols:List Int)(rows:List (List V)):stay cols rows rows.length=(nN cols rows).length:=by simp[stay]
theorem stay_skip {cols:List Int}(h:i<rows.length)(hn:nI cols rows[i]=true):stay cols rows (i+1)=stay cols rows i:=by
 unfold stay nN;rw[List.take_add_one,p_ h,List.filter_append,c_];simp[hn]
theorem stay_next {cols:List Int}(h:i<rows.length)(hn:nI cols rows[i]=false):stay cols rows (i+1)=stay cols rows i+1:=by
 unfold stay nN;rw[List.take_add_one,p_ h,List.filter_append,c_];simp[hn]
theorem stay_at {cols:List Int}(h:i<rows.length)(hn:nI cols rows[i]=false):∃hs:stay cols rows i<(nN cols rows).length,(nN cols rows)[stay cols rows i]=rows[i]:=by
 have e:rows=rows.take i++rows[i]::rows.drop (i+1):=by rw[<-J_ h,X_]
 have e2:nN cols rows=nN cols (rows.take i)++rows[i]::nN cols (rows.drop (i+1)):=by
  have:=congrArg (nN cols) e;rw[this];simp only[nN,List.filter_append,List.filter_cons,hn,Bool.not_false,if_true]
 have e3:(nN cols rows)[stay cols rows i]?=some rows[i]:=by
  rw[e2,ae_ (by simp[stay])];simp[stay]
 exact⟨(l_.1 e3).1,(l_.1 e3).2⟩
theorem QN.touch (h:QN N A B):∃F,Touch F A B/\∀k∈F,∀ob,A.heap[k]?=some ob->Odd ob:=by
 refine⟨(List.range A.heap.size).filter (λk=>match A.heap[k]? with|some (.cells _ _ _)=>false|some (.map _ _)=>false|_=>true),⟨h.os,h.tape,h.output,h.size,λk hk hn=>?_⟩,λk hk ob e=>?_⟩
 ·obtain⟨ob,e⟩:∃ob,A.heap[k]?=some ob:=⟨_,q_ hk⟩;rw[e];refine h.keep k ob e (λho=>absurd ?_ hn);refine List.mem_filter.2 ⟨List.mem_range.2 hk,?_⟩;rw[e];cases ob<;>first|rfl|exact absurd rfl (ho.1 _ _ _)|exact absurd rfl (ho.2 _ _)
 ·have:=(List.mem_filter.1 hk).2;rw[e]at this;refine⟨λcs t f e2=>?_,λes c e2=>?_⟩<;>subst e2<;>simp at this
theorem Ad.qN (h:Ad N D W ps bs bx bm blk count fan most cols mm j ks rows i)(hq:QN N2 W W'):Ad N D W' ps bs bx bm blk count fan most cols mm j ks rows i:=by
 obtain⟨F,t,hF⟩:=hq.touch;obtain⟨s,hv,L,d,M,pre,o,lr,h1,h2⟩:=h.st;have nt:∀t,NT t W F:=λt k hk cs f e=>absurd rfl ((hF k hk _ e).1 _ _ _);refine⟨s,hv,L,d,M,pre,o,lr,h1.quiet t (λk hk e=>?_) (nt _) (nt _) (nt _) (nt _),h2⟩;rcases h1.sb.ownF k e with⟨cs,t,f,e1,_⟩|⟨es,c,e1⟩
 ·exact(hF k hk _ e1).1 _ _ _ rfl
 ·exact(hF k hk _ e1).2 _ _ rfl
theorem QN.g (h:QN N2 A B)(T:List TypeId)(D F:List Nat)(hN:N<=N2)(hlo:lo<=N2):OG T lo N D F A B:=by
 refine⟨h.size,λt _ _ k cs f _ e=>h.tag t k cs f e,λt _ k cs f _ e=>h.tag t k cs f e,λk ob hk e _=>h.keep k ob e (λ_=>by omega),λk ob hk _ e _=>h.keep k ob e (λ_=>by omega),⟨h.os,h.tape,h.output,h.size,λk h1 h2=>?_⟩⟩;have e:A.heap[k]?=some A.heap[k]:=q_ h2;rw[h.keep k _ e (λ_=>by omega)];exact e.symm
theorem nn_src (T:List TypeId){X:List Nat}{nc:List Int}(Fin:World->Prop)
  (hA:Ad N D wc ps bs bx bm blk count fan most cols mm j ks (nN nc rows) 0) (hr:wc.heap[br]?=some (.cells #[.func (.func 162) #[] #[.pointer (some ⟨b,0,none⟩)]] 165 (0,0))) (hc:wc.heap[bc]?=some (.cells #[cv] 37 (0,0))) (hb:wc.heap[b]?=some (.cells #[sv] 36 (0,0))) (hL:LAt wc sv vs) (hsm:vs.length<=1000000000) (hlen:vs.length=rows.length) (hrows:∀i (_:i<vs.length) (_:i<rows.length),Ro wc vs[i] rows[i]) (hraw:Rt wc cv nc) (hin:∀c∈nc,0<=c/\c<(rc:Int)) (hrl:∀r∈rows,r.length=rc) (hfew:nc.length<=1000) (hX:∀b off n c,cv=.slice (some ⟨b,off,none⟩) n c->b∈X) (hX3:∀k∈X,∃cs f,wc.heap[k]?=some (.cells cs 3 f))
  (hok:Rf blk cols ks (nN nc rows)) (hn:(nN nc rows).length<=100000) (hmost:blk<=most) (hN:N<=wc.heap.size) (hbm:bm<=wc.heap.size)
  (hFin:∀W,Ad N D W ps bs bx bm blk count fan most cols mm j ks (nN nc rows) (nN nc rows).length->N<=W.heap.size->Fin W) :
  Src T bm N D wc 178 #[.pointer (some ⟨br,0,none⟩),.pointer (some ⟨bc,0,none⟩)] ps Fin:=by
 have tW:∀rec:Loop,Touch [] wc ((wc.alloc (.deferred (some []))).alloc (.loop rec)):=λrec=>(tr_.alloc _).alloc _;refine⟨Nat,0,λs _=>s=vs.length,λi v W i'=>vs[i]?=some v/\i'=i+1/\∃h:i<rows.length,Ro W v rows[i]/\nI nc rows[i]=false,λi i'=>i'=i+1/\∃h:i<rows.length,nI nc rows[i]=true,λ_ A B=>QN (wc.heap.size+2) A B,λ_ W W'=>KeepN (wc.heap.size+2) X W W',
  λi W=>Ad N D W ps bs bx bm blk count fan most cols mm j ks (nN nc rows) (stay nc rows i)/\(∀k∈X,∃cs f,W.heap[k]?=some (.cells cs 3 f))/\N<=W.heap.size,
  λrec=>nn_seq _ X br bc b sv cv vs rows nc rc (wc.heap.size+2) ((tW rec).tu _ _ _ _ hr) ((tW rec).tu _ _ _ _ hc) ((tW rec).tu _ _ _ _ hb) (hL.keep ((tW rec).tu 83)) hsm hlen (λi a b=>(hrows i a b).touch (tW rec)) (hraw.touch (tW rec)) hin hrl hfew hX (by simp),
  λs A B k ob h e _ hk=>h.keep k ob e (λ_=>by omega),
  λ_ _ _ _ h k=>⟨k_ h.size k.size,λt ht=>(h.cells t ht).trans (k.cells t ht),λi ob hi e ho=>k.others i ob hi (h.others i ob hi e ho) ho,λi hi ob e=>k.blocks i hi ob (h.blocks i hi ob e)⟩,?_,
  ?_,?_,?_,?_,λrec=>⟨by rw[stay_zero];exact hA.quiet (tW rec),λk hk=>(hX3 k hk).imp λcs h=>h.imp λf h=>(tW rec).tu _ _ _ _ h,k_ hN (tW rec).size⟩,?_,?_⟩
 ·intro i W r r' hlp;have hq:=QN.putObj (N:=wc.heap.size+1) (ob':=.loop r') hlp (oL r) (by omega);have ht:∀(k:Nat) (ob:Obj),k≠wc.heap.size+1->W.heap[k]?=some ob->(W.putObj (wc.heap.size+1) (.loop r')).heap[k]?=some ob:=λk ob hk e=>((Touch.putObj (W:=W) (wc.heap.size+1) (.loop r')).block k (agi.1 e).1 (by simpa using hk)).trans e;refine⟨hq.size,λt _=>hq.tag t,λk ob hk e _=>ht k ob (by omega) e,λk hk ob e=>ht k ob ?_ e⟩;obtain⟨cs,f,e2⟩:=hX3 k hk;have:=(agi.1 e2).1;omega
 ·rintro i A B ⟨h1,h2,h3⟩ hq;exact⟨⟨h1.qN hq,λk hk=>(h2 k hk).imp λcs h=>h.imp λf h=>hq.tag _ _ _ _ h,k_ h3 hq.size⟩,hq.g T D [] (by omega) (by omega)⟩
 ·rintro i i' A ⟨h1,h2,h3⟩ ⟨rfl,hi,hnu⟩;exact⟨by rw[stay_skip hi hnu];exact h1,h2,h3⟩
 ·rintro i W r r' ⟨h1,h2,h3⟩ hlp;have hq:=QN.putObj (N:=wc.heap.size+1) (ob':=.loop r') hlp (oL r) (by omega);exact⟨h1.qN hq,λk hk=>(h2 k hk).imp λcs h=>h.imp λf h=>hq.tag _ _ _ _ h,k_ h3 hq.size⟩
 ·rintro i v i' W r r' ⟨h1,h2,hi,h3,h4⟩ hlp;have hq:=QN.putObj (N:=wc.heap.size+1) (ob':=.loop r') hlp (oL r) (by omega);exact⟨h1,h2,hi,Sl3.keep h3 (hq.tag 85),h4⟩
 ·rintro i v i' W ⟨h1,h2,h3⟩ ⟨hv,rfl,hi,hrow,hnu⟩;obtain⟨vo,vC,e⟩:=hrow.shape;refine⟨⟨_,_,_,e⟩,?_⟩;obtain⟨hs,hse⟩:=stay_at hi hnu;refine(addSt_add h1 h3 hok hs (by rw[hse];exact hrow) hn hmost).mono ?_;rintro e w1 ⟨rfl,a1,a2⟩;refine⟨rfl,⟨by rw[stay_next hi hnu];exact a1,λk hk=>(h2 k hk).imp λcs h=>h.imp λf h=>a2.step.tag (by decide) (by decide) _ _ _ h,k_ h3 a2.step.size⟩,⟨a2.step.size,λt ht=>?_,λk ob _ e ho=>a2.step.other e ho.1 ho.2,λk hk ob e=>?_⟩,a2.g T,λk ob e ho=>a2.step.other e ho.1 ho.2⟩
  ·simp only[a_,i_,or_false]at ht;rcases ht with rfl|rfl|rfl|rfl<;>exact a2.step.tag (by decide) (by decide)
  ·obtain⟨cs,f,e2⟩:=h2 k hk;rw[e2]at e;cases e;exact a2.step.tag (by decide) (by decide) _ _ _ e2
 ·rintro i W r r' rfl ⟨h1,h2,h3⟩ hlp;rw[hlen,stay_all]at h1;exact hFin _ (h1.putObj hlp (oL r)) (by simpa using h3)
end Go.Proofs.YtjoinhljdbljaaaGreat
namespace Go.Proofs.YtjoinhljdbljaaaGreat
open Go.RowKit
variable {A B W W' w:World} {D D' F F':List Nat} {M M':List PF} {N N' NL blk bm bx cols cols' j j' k lc ln lo m m' ps q:Nat} {T T':List TypeId} {d d':DS} {given rs:List (List V)} {ks:List K} {l left x:List V} {lv rp:Value} {out rows:List Rec} {outer sp:Bool} {pre:List RI} {s:ByteArray} {sc:SC}
def jR (outer:Bool)(cols others:List Int)(rc:Nat)(l:List V)(rs:List (List V)):List (List V):=
 if(outer && !atB cols others l rs)=true then[l++List.replicate rc V0]else(hits cols others l rs).map (l++·)
def jr (cols others:List Int)(rs ls:List (List V)):List (List V):=ls.foldl (λrs l=>rs.dropWhile (bH cols others l)) rs
def jA (outer:Bool)(cols others:List Int)(rc:Nat):List (List V)->List (List V)->List (List V)
 | _,[]=>[]
 | rs,l::ls=>jR outer cols others rc l (rs.dropWhile (bH cols others l))++jA outer cols others rc (rs.dropWhile (bH cols others l)) ls
theorem jrest_snoc (cols others:List Int)(rs ls:List (List V))(l:List V):jr cols others rs (ls++[l])=(jr cols others rs ls).dropWhile (bH cols others l):=by simp[jr]
theorem jall_snoc (outer:Bool)(cols others:List Int)(rc:Nat):∀(ls rs:List (List V)) (l:List V),jA outer cols others rc rs (ls++[l])=jA outer cols others rc rs ls++jR outer cols others rc l (jr cols others rs (ls++[l]))
 | [],rs,l=>by simp[jA,jr]
 | a::ls,rs,l=>by
  have:=jall_snoc outer cols others rc ls (rs.dropWhile (bH cols others a)) l;simp only[List.cons_append,jA,this,F_,jr,List.foldl_cons]
theorem dW {α:Type}{p:α->Bool}:∀{l:List α} {x:α},x∈l.dropWhile p->x∈l
 | [],_,h=>by simp at h
 | a::l,x,h=>by
  rw[List.dropWhile_cons]at h
  split at h
  ·exact o_ _ (dW h)
  ·exact h
theorem jrest_mem {cols others:List Int}:∀{ls rs:List (List V)} {x:List V},x∈jr cols others rs ls->x∈rs
 | [],_,_,h=>h
 | _::_,_,_,h=>dW (jrest_mem h)
theorem hits_mem {cols others:List Int}(h:x∈hits cols others l rs):x∈rs:=(List.takeWhile_prefix _).subset h
theorem jl (cols others:List Int)(rc:Nat):∀ls:List (List V),jA true cols others rc [] ls=ls.map (·++List.replicate rc V0)
 | []=>rfl
 | l::ls=>by simp[jA,jR,atB,jl cols others rc ls]
variable [Inhabited Ground]
theorem Touch.gO (h:Touch F W W')(hF:∀k∈F,N<=k/\∀ob:Obj,W.heap[k]?=some ob->(Odd ob\/∃cs t f,ob=.cells cs t f/\t∈T/\t∉SpG))(hlo:lo<=N)(D F':List Nat):OG T lo N D F' W W':=by
 have stay:∀(k:Nat) (ob:Obj),W.heap[k]?=some ob->k∉F->W'.heap[k]?=some ob:=λk ob e hn=>(h.block k (agi.1 e).1 hn).trans e;have cel:∀(k:Nat) (cs:Array Value) (t:TypeId) (f:Nat×Nat),W.heap[k]?=some (Obj.cells cs t f)->k∈F->t∈T/\t∉SpG:=λk cs t f e hk=>by
  rcases(hF k hk).2 _ e with h2|⟨cs',t',f',e2,ht⟩
  ·exact absurd rfl (h2.1 _ _ _)
  ·simp only[Obj.cells.injEq]at e2;rw[e2.2.1];exact ht
 refine⟨h.size,λt _ _ k cs f hk e=>stay k _ e (λhm=>?_),λt ht k cs f _ e=>stay k _ e (λhm=>(cel k cs t f e hm).2 ht),λk ob hk e ho=>stay k ob e (λhm=>by have:=(hF k hm).1;omega),λk ob hk _ e _=>stay k ob e (λhm=>by have:=(hF k hm).1;omega),h.low (λk hk=>k_ hlo (hF k hk).1)⟩;rcases hk with hk|hk
 ·have:=(hF k hm).1;omega
 ·exact hk (cel k cs t f e hm).1
theorem OG.up {X Y:World}(h:OG T lo N D F X Y)(hT:∀t∈T,t∈T')(hN:N'<=N)(hD:∀k∈D,N'<=k\/k∈D')(hF:∀k∈F,k∈F')(hF':F=[]->F'=[]):OG T' lo N' D' F' X Y:=by
 have hd:∀k,k<N'->k∉D'->k∉D:=λk h1 h2 h3=>(hD k h3).elim (λh=>by omega) h2;refine⟨h.size,λt h1 h2 i cs f h3 e=>h.cells t h1 h2 i cs f (h3.imp (λx=>s_ x hN) (λx y=>x (hT t y))) e,λt h1 i cs f h2 e=>h.spec t h1 i cs f ?_ e,λi ob hB e ho=>h.others i ob (s_ hB hN) e ho,λi ob a b e ho=>h.old i ob (s_ a hN) (hd i a b) e ho,h.low⟩;by_cases e0:F=[]
 ·rcases h2 with⟨_,a,b⟩|⟨a,_⟩
  ·exact .inl ⟨e0,s_ a hN,hd i a b⟩
  ·exact absurd (hF' e0) a
 ·rcases h2 with⟨a,_⟩|⟨_,b⟩
  ·exact absurd (Q_.2 λk hk=>by have:=hF k hk;rw[a]at this;simp at this) e0
  ·exact .inr ⟨e0,λhk=>b (hF i hk)⟩
structure Ri (W:World)(ps:Nat)(sc:SC)(bx blk:Nat)(pre:List RI)(X:List Nat):Prop where
 sorter:Sr W ps sc
 cells:∀x∈pre,W.heap[x.r]?=some (.cells (rC bx blk x.file x.cols x.cs.length (.slice none 0 0)) 223 (0,0))
 rv:PO W sc.rv pre\/(pre=[]/\∃ao cap,sc.rv=.slice ao 0 cap)
 list:∀k∈X,∃cs t,W.heap[k]?=some (.cells cs t (0,0))/\(t=83\/t=223)
structure RG (N:Nat)(D:List Nat)(ps:Nat)(sc:SC)(pre:List RI)(X:List Nat):Prop where
 ps_:ps<N/\ps∉D
 runs:∀x∈pre,x.r<N/\x.r∉D
 rv:(∀g o n c,sc.rv=.slice (some ⟨g,o,none⟩) n c->g<N/\g∉D)\/(pre=[]/\∃ao cap,sc.rv=.slice ao 0 cap)
 list:∀k∈X,k<N/\k∉D
section
variable {W W':World} {ps:Nat} {sc:SC} {bx bm blk cols:Nat} {pre:List RI} {X:List Nat}
theorem Ri.below (h:Ri W ps sc bx blk pre X)(hp:PD W bx bm d M):RG W.heap.size (dI bx bm M) ps sc pre X:=by
 have nt:∀{t:TypeId} {k:Nat} {cs:Array Value} {f:Nat×Nat},W.heap[k]?=some (.cells cs t f)->117≠t->9≠t->k<W.heap.size/\k∉dI bx bm M:=λe a b=>⟨(agi.1 e).1,(hp.nT a b).not_mem e⟩;refine⟨nt h.sorter (by decide) (by decide),λx hx=>nt (h.cells x hx) (by decide) (by decide),?_,λk hk=>?_⟩
 ·rcases h.rv with⟨g,o,cap,cur,e,hh,_⟩|h
  ·refine .inl (λg' o' n c e'=>?_);rw[e]at e';cases e';exact nt hh (by decide) (by decide)
  ·exact .inr h
 ·obtain⟨cs,t,e,ht⟩:=h.list k hk;exact nt e (by rcases ht with rfl|rfl<;>decide) (by rcases ht with rfl|rfl<;>decide)
theorem Ri.own (h:Ri W ps sc bx blk pre X)(b:RG N D ps sc pre X)(o:OG T lo N D F W W'):Ri W' ps sc bx blk pre X:=by
 have st:∀{t:TypeId} {k:Nat} {cs:Array Value} {f:Nat×Nat},W.heap[k]?=some (.cells cs t f)->t≠5->(k<N/\k∉D)->W'.heap[k]?=some (.cells cs t f):=λe h5 hk=>o.old _ _ hk.1 hk.2 e (λ_ _ e'=>by cases e';exact h5 rfl);refine⟨st h.sorter (by decide) b.ps_,λx hx=>st (h.cells x hx) (by decide) (b.runs x hx),?_,λk hk=>?_⟩
 ·rcases b.rv with hb|hb
  ·rcases h.rv with⟨g,o,cap,cur,e,hh,rest⟩|h
   ·exact .inl ⟨g,o,cap,cur,e,st hh (by decide) (hb g o _ cap e),rest⟩
   ·exact .inr h
  ·exact .inr hb
 ·obtain⟨cs,t,e,ht⟩:=h.list k hk;exact⟨cs,t,st e (by rcases ht with rfl|rfl<;>decide) (b.list k hk),ht⟩
theorem Ri.keep {T:List TypeId}{A:List Nat}{B:Nat}{F:List Nat}(h:Ri W ps sc bx blk pre X)(k:KG T A B F W W')(h1:ps∈F)(h2:∀i∈X,i∈F):Ri W' ps sc bx blk pre X:=by
 refine⟨k.spec 260 (by decide) _ h1 _ _ h.sorter,λx hx=>k.k.cells 223 (by decide) _ _ _ (h.cells x hx),h.rv.imp (λh=>h.keep (k.k.cells 194 (by decide))) id,λi hi=>?_⟩;obtain⟨cs,t,e,ht⟩:=h.list i hi;refine⟨cs,t,?_,ht⟩;rcases ht with rfl|rfl
 ·exact k.spec 83 (by decide) _ (h2 i hi) _ _ e
 ·exact k.k.cells 223 (by decide) _ _ _ e
theorem Ri.tags (h:Ri W ps sc bx blk pre X)(k:∀t∈([260,223,194,83]:List TypeId),KT t W W'):Ri W' ps sc bx blk pre X:=by
 refine⟨k 260 (by decide) _ _ _ h.sorter,λx hx=>k 223 (by decide) _ _ _ (h.cells x hx),h.rv.imp (λh=>h.keep (k 194 (by decide))) id,λi hi=>?_⟩;obtain⟨cs,t,e,ht⟩:=h.list i hi;exact⟨cs,t,by rcases ht with rfl|rfl<;>exact k _ (by decide) _ _ _ e,ht⟩
end
theorem IE.right {X:List Nat}(h:IE X w N D ps bx bm blk cols m j ks rows lv rp s sp out sc d M pre):Ri w ps sc bx blk pre X:=
 ⟨h.sorter,λx hx=>(h.runs.done x hx).1.cell,h.rv,λk hk=>(h.new k hk).2⟩
theorem Di.bare {d:DS}(h:Di d):(d.f1=0/\d.f2=0/\d.f3=0/\Nums d.files/\(∀f∈d.files,f.1<=d.last)/\0<=d.last/\0<=d.wrote)/\(∀j,j<=gla->gq d.files j=gold j)/\gla<=d.last:=⟨⟨h.f1,h.f2,h.f3,h.nums,h.known,h.last,h.wrote⟩,h.keep,h.base⟩
theorem RS.bare {w:World}{bx bm blk cols:Nat}{d:DS}{M:List PF}(h:RS w bx bm blk cols d M [] none):PD w bx bm d M/\Di d/\(blk:Int)<=d.block:=⟨h.pd,h.ok,h.block⟩
theorem Di.back (h:Di d)(h':@Di ⟨⟨d.last,gq d.files⟩⟩ d'):Di d'/\(∀j:Int,j<=d.last->gq d'.files j=gq d.files j)/\d.last<=d'.last:=by
 obtain⟨⟨a,b,c,e,f,g,i⟩,hk,hb⟩:=@Di.bare ⟨⟨d.last,gq d.files⟩⟩ d' h';have hkeep:∀j:Int,j<=d.last->gq d'.files j=gq d.files j:=hk;have hbase:d.last<=d'.last:=hb;exact⟨⟨a,b,c,e,f,g,i,λj hj=>(hkeep j (Int.le_trans hj h.base)).trans (h.keep j hj),Int.le_trans h.base hbase⟩,hkeep,hbase⟩
theorem IE.close {X:List Nat}(h:IE X w N D ps bx bm blk cols m j ks rows lv rp s sp out sc d M pre)(hR:Ri W ps sc bx blk pre X)(hS:@RS ⟨⟨d.last,gq d.files⟩⟩ W bx bm blk cols' d' M' [] none)(hl:Left d' m' j')(hrw:Hi bm (rowsOf M')):@Sv _ ⟨⟨N,D⟩⟩ W ps bx bm blk cols m' j':=by
 obtain⟨hpd,hok,hblk⟩:=@RS.bare ⟨⟨d.last,gq d.files⟩⟩ W bx bm blk cols' d' M' hS;obtain⟨ok,hkeep,hbase⟩:=h.runs.ok.back hok
 letI:Inhabited Range:=⟨⟨N,D⟩⟩
 refine⟨h.hi,h.own,sc,d',M',pre,h.ebx,h.eblk,hR.sorter,⟨hpd,ok,λx hx=>?_,(λx hx=>by cases hx),h.runs.files,h.runs.recs,λx hx=>Int.le_trans (h.runs.known x hx) hbase,h.runs.len,h.runs.col,hblk,h.runs.b2,h.runs.b1,h.runs.c2⟩,hR.rv,hl,hrw⟩;obtain⟨h1,h2⟩:=h.runs.done x hx;exact⟨⟨hR.cells x hx,h1.mine,(hkeep _ (h.runs.known x (by simpa using hx))).trans h1.got,h1.full⟩,h2⟩
open Go.Proofs.Tryz
structure JP where
 bn:Nat
 br:Nat
 qm:Nat
 yb:Nat
 l:Nat
 n:ND
 cols:List Int
 others:List Int
 la:Nat
 rc:Nat
 rf:Value
 ps:Nat
 sc:SC
 pre:List RI
 XR:List Nat
 XC:List Nat
 bx:Nat
 bm:Nat
 blk:Nat
 d:DS
def JP.X (p:JP):List Nat:=p.XR++p.XC
structure JB (p:JP)(rs:List (List V))(W:World):Prop where
 node:W.heap[p.bn]?=some (.cells p.n.cells 79 (0,0))
 right:W.heap[p.br]?=some (.cells #[.int .i64 (p.rc:Int),p.rf] 167 (0,0))
 yld:W.heap[p.yb]?=some (.cells #[.func (.yield p.l) #[] #[]] 206 (0,0))
 sorter:Ri W p.ps p.sc p.bx p.blk p.pre p.XR
 mark:MS p.X W p.qm p.bx p.blk p.rc p.d rs
 cak:∀k∈p.XC,∃cs f,W.heap[k]?=some (.cells cs 3 f)
 sides:Si W p.n p.cols p.others p.la p.rc
 inX:InX p.XC p.n
 sl:p.n.Slices
theorem MS.any {X:List Nat}{l:List (List V)}(h:MS X w q bx blk cols d l)(d':DS):MS X w q bx blk cols d' l:=by
 have hp:∀{m l},PV X w bx blk cols d m l->PV X w bx blk cols d' m l:=λh=>h.imp id (λh=>⟨h.1,h.2.1,⟨h.2.2.st,h.2.2.b2,h.2.2.c1,h.2.2.c2⟩⟩);obtain⟨m,h1,h2⟩:=h;exact⟨m,h1,h2.imp (λ⟨a,b,c⟩=>⟨a,b,hp c⟩) (λ⟨x,t,a,b,c,e⟩=>⟨x,t,a,b,c,hp e⟩)⟩
section
variable {p:JP} {rs:List (List V)} {W W':World}
theorem JB.apart (h:JB p rs W):Apart p.qm p.n:=λv hv b off k c e hb=>by
 obtain⟨cs,f,e1⟩:=h.cak b (h.inX v hv b off k c e);obtain⟨m,h1,_⟩:=h.mark;unfold MR at h1;rw[hb,h1]at e1;simp at e1
theorem JB.step (h:JB p rs W)(hc:∀t∈([79,167,206,85]:List TypeId),KT t W W')(hm:∀cs,W.heap[p.qm]?=some (.cells cs 246 (0,0))->W'.heap[p.qm]?=some (.cells cs 246 (0,0)))(hR:Ri W' p.ps p.sc p.bx p.blk p.pre p.XR)(hX:∀k∈p.X,∀cs t f,W.heap[k]?=some (.cells cs t f)->W'.heap[k]?=some (.cells cs t f)):JB p rs W':=by
 obtain⟨m,h1,h2⟩:=h.mark;have h3:∀k∈p.XC,∃cs f,W.heap[k]?=some (.cells cs 3 f)/\W'.heap[k]?=some (.cells cs 3 f):=λk hk=>by
  obtain⟨cs,f,e⟩:=h.cak k hk;exact⟨cs,f,e,hX k (y_ _ hk) _ _ _ e⟩
 refine⟨hc 79 (by decide) _ _ _ h.node,hc 167 (by decide) _ _ _ h.right,hc 206 (by decide) _ _ _ h.yld,hR,⟨m,hm _ h1,h2.keep hX (hc 85 (by decide))⟩,λk hk=>?_,h.sides.blocks h.inX (λk hk ob e=>?_),h.inX,h.sl⟩
 ·obtain⟨cs,f,_,e⟩:=h3 k hk;exact⟨cs,f,e⟩
 ·obtain⟨cs,f,e1,e2⟩:=h3 k hk;rw[e]at e1;rw[e2,e1]
theorem JB.all (h:JB p rs W)(k:∀(i:Nat) cs t f,W.heap[i]?=some (.cells cs t f)->W'.heap[i]?=some (.cells cs t f)):JB p rs W':=
 h.step (λ_ _ _ _ _ e=>k _ _ _ _ e) (λ_ e=>k _ _ _ _ e) (h.sorter.tags (λ_ _ _ _ _ e=>k _ _ _ _ e)) (λ_ _ _ _ _ e=>k _ _ _ _ e)
theorem JB.own {T:List TypeId}{lo N:Nat}{D F:List Nat}(h:JB p rs W)(b:RG N D p.ps p.sc p.pre p.XR)(o:OG T lo N D F W W')(hT:∀t∈([79,167,206,85,246,3]:List TypeId),t∉T):JB p rs W':=by
 have tg:∀t∈([79,167,206,85,246,3]:List TypeId),KT t W W':=λt ht=>o.tag ((by decide:∀t∈([79,167,206,85,246,3]:List TypeId),t∉OT) t ht) ((by decide:∀t∈([79,167,206,85,246,3]:List TypeId),t≠5) t ht) (hT t ht);refine h.step (λt ht=>tg t ((by decide:∀t∈([79,167,206,85]:List TypeId),t∈([79,167,206,85,246,3]:List TypeId)) t ht)) (λ_ e=>tg 246 (by decide) _ _ _ e) (h.sorter.own b o) (λk hk cs t f e=>?_);rcases d_.1 hk with hk|hk
 ·obtain⟨cs',t',e',ht⟩:=h.sorter.list k hk;rw[e]at e';cases e';exact o.old _ _ (b.list k hk).1 (b.list k hk).2 e (λ_ _ e2=>by cases e2;rcases ht with ht|ht<;>exact absurd ht (by decide))
 ·obtain⟨cs',f',e'⟩:=h.cak k hk;rw[e]at e';cases e';exact tg 3 (by decide) _ _ _ e
theorem JB.keep {K:List TypeId}{A:List Nat}{B:Nat}{F:List Nat}(h:JB p rs W)(k:KG K A B F W W')(hK:∀t∈([79,167,206,246]:List TypeId),t∈K)(h1:p.ps∈F)(h2:∀i∈p.XR,i∈F)(h3:∀i∈p.XC,i∈A):JB p rs W':=by
 have tg:∀t∈([79,167,206,246]:List TypeId),KT t W W':=λt ht=>k.guard.cells t (y_ _ (hK t ht));refine h.step (λt ht=>?_) (λ_ e=>tg 246 (by decide) _ _ _ e) (h.sorter.keep k h1 h2) (λi hi cs t f e=>?_)
 ·simp only[a_,i_,or_false]at ht;rcases ht with rfl|rfl|rfl|rfl
  ·exact tg _ (by decide)
  ·exact tg _ (by decide)
  ·exact tg _ (by decide)
  ·exact k.k.cells 85 (by decide)
 ·rcases d_.1 hi with hi|hi
  ·obtain⟨cs',t',e',ht⟩:=h.sorter.list i hi;rw[e]at e';cases e';rcases ht with rfl|rfl
   ·exact k.spec 83 (by decide) _ (h2 i hi) _ _ e
   ·exact k.k.cells 223 (by decide) _ _ _ e
  ·exact k.blocks i (h3 i hi) _ e
theorem JB.other (h:JB p rs W)(t:Touch [k] W W')(hk:∀ob,W.heap[k]?=some ob->∃cs f,ob=.cells cs 246 f)(hq:k≠p.qm):JB p rs W':=by
 have kp:∀(i:Nat) cs (t:TypeId) f,t≠246->W.heap[i]?=some (.cells cs t f)->W'.heap[i]?=some (.cells cs t f):=λi cs t' f ht e=>by
  rw[t.block i (agi.1 e).1 (λhi=>?_)]
  ·exact e
  ·rw[ms_ hi]at e;obtain⟨cs',f',e'⟩:=hk _ e;simp only[Obj.cells.injEq]at e';exact ht e'.2.1
 refine h.step (λt' ht i cs f e=>kp i cs t' f ((by decide:∀t∈([79,167,206,85]:List TypeId),t≠246) t' ht) e) (λcs e=>?_) (h.sorter.tags (λt' ht i cs f e=>kp i cs t' f ((by decide:∀t∈([260,223,194,83]:List TypeId),t≠246) t' ht) e)) (λi hi cs t' f e=>?_)
 ·rw[t.block _ (agi.1 e).1 (λhi=>hq (ms_ hi).symm)];exact e
 ·refine kp i cs t' f ?_ e;rcases d_.1 hi with hi|hi
  ·obtain⟨cs',t2,e',ht⟩:=h.sorter.list i hi;rw[e]at e';cases e';rcases ht with rfl|rfl<;>decide
  ·obtain⟨cs',f',e'⟩:=h.cak i hi;rw[e]at e';cases e';decide
theorem JB.adv (h:JB p rs W){d:DS}{M:List PF}(hP:PD W p.bx p.bm d M)(ok:Di d){lo:Option Addr}{ln lc:Nat}{left:List V}(hl:Ro W (.slice lo ln lc) left)(hla:left.length=p.la)(hlen:∀x∈rs,x.length=p.rc) :
  Calls prog 152 #[.pointer (some ⟨p.qm,0,none⟩),.agg p.n.cells,.slice lo ln lc] W λe w1=>e=.returned (.tuple #[])/\JB p (rs.dropWhile (bH p.cols p.others left)) w1/\PD w1 p.bx p.bm d M/\Touch [p.qm] W w1/\Ro w1 (.slice lo ln lc) left:=by
 refine(advanceTo_any W p.qm p.bx p.bm p.blk p.rc d M p.n lo ln lc p.cols p.others left rs (by rw[hla];exact h.sides) hl (h.mark.any d) hlen h.sl hP ok h.apart).mono ?_;rintro e w1 ⟨rfl,h1,h2,h3⟩;obtain⟨m,hm,_⟩:=h.mark;have nt:∀{t:TypeId},(246:TypeId)≠t->KT t W w1:=λht=>h3.tag (nO hm ht);refine⟨rfl,⟨nt (by decide) _ _ _ h.node,nt (by decide) _ _ _ h.right,nt (by decide) _ _ _ h.yld,h.sorter.tags (λt ht=>nt ?_),h1.any _,λk hk=>?_,h.sides.touchF h3 h.apart,h.inX,h.sl⟩,h2,h3,Sl3.keep hl (nt (by decide))⟩
 ·exact(by decide:∀t∈([260,223,194,83]:List TypeId),(246:TypeId)≠t) t ht
 ·obtain⟨cs,f,e⟩:=h.cak k hk;exact⟨cs,f,nt (by decide) _ _ _ e⟩
end
theorem keepG_other (N:Nat)(F:List Nat)(t:Touch [k] A B)(hk:∀ob,A.heap[k]?=some ob->∃cs f,ob=.cells cs 246 f):KG [] [] N F A B:=by
 have kp:∀(i:Nat) (ob:Obj),(∀cs f,ob≠.cells cs 246 f)->A.heap[i]?=some ob->B.heap[i]?=some ob:=λi ob ht e=>by
  rw[t.block i (agi.1 e).1 (λhi=>?_)]
  ·exact e
  ·rw[ms_ hi]at e;obtain⟨cs',f',e'⟩:=hk _ e;exact ht _ _ e'
 refine⟨⟨t.size,λt' ht i cs f e=>kp i _ (λcs' f' e'=>?_) e,λi es c e=>kp i _ (λ_ _ e'=>by cases e') e,λi ob _ e ho=>kp i ob (ho.1 · 246 ·) e⟩,λt' ht i _ cs f e=>kp i _ (λcs' f' e'=>?_) e,λi hi=>by simp at hi⟩
 ·simp only[Obj.cells.injEq]at e';rw[e'.2.1]at ht;exact absurd ht (by decide)
 ·simp only[Obj.cells.injEq]at e';rw[e'.2.1]at ht;exact absurd ht (by decide)
theorem JB.join {p:JP}{K:List TypeId}{A gh:List Nat}{m:MV}{lo:Option Addr}{J:List (List V)->World->Prop}
  (h:JB p rs w) (hm:MR w p.qm m) (hmv:Md p.X w p.bx p.blk p.rc p.d m rs) (hcase:(p.n.op≠5/\outer=false)\/(p.n.op=5/\outer=true/\atB p.cols p.others left rs=false)) (hP:PD w p.bx p.bm d M) (ok:Di d) (hl:Ro w (.slice lo ln lc) left) (hla:left.length=p.la) (hlen:∀x∈rs,x.length=p.rc) (hl1:1<=p.la) (hl2:p.la<=1000) (hrc1:1<=p.rc) (hrc2:p.rc<=1000)
  (hK:∀t∈([79,167,206,246]:List TypeId),t∈K) (g1:p.ps∈gh) (g2:∀i∈p.XR,i∈gh) (g3:∀i∈p.XC,i∈A) (hNL:N<=NL) (hqN:N<=w.heap.size)
  (hJo:∀s A B k,J s A->Touch [k] A B->N<=k->(∀ob,A.heap[k]?=some ob->∃cs f,ob=.cells cs 246 f)->J s B) (hJ0:J given w)
  (hY:∀i v W' r,(jR outer p.cols p.others p.rc left rs)[i]?=some r->J (given++(jR outer p.cols p.others p.rc left rs).take i) W'->JB p rs W'->w.heap.size<=W'.heap.size->(∃o i c,v=.slice o i c)->Ro W' v r->YieldAt Fence.wide 0 prog p.l #[v] W' λe W''=>e=.returned (.bool true)/\J (given++(jR outer p.cols p.others p.rc left rs).take (i+1)) W''/\KG K A N gh W' W'') :
  Calls prog 153 #[.agg p.n.cells,.slice lo ln lc,.agg m.cells,.int .i64 (p.rc:Int),.func (.yield p.l) #[] #[]] w λe w'=>e=.returned (.bool true)/\J (given++jR outer p.cols p.others p.rc left rs) w'/\JB p rs w'/\KG [] [] NL gh w w'/\PD w' p.bx p.bm d M:=by
 have hmd:Md p.X w p.bx p.blk p.rc d m rs:=by
  have hp:∀{m l},PV p.X w p.bx p.blk p.rc p.d m l->PV p.X w p.bx p.blk p.rc d m l:=λh=>h.imp id (λh=>⟨h.1,h.2.1,⟨h.2.2.st,h.2.2.b2,h.2.2.c1,h.2.2.c2⟩⟩);exact hmv.imp (λ⟨a,b,c⟩=>⟨a,b,hp c⟩) (λ⟨x,t,a,b,c,e⟩=>⟨x,t,a,b,c,hp e⟩)
 have hqlt:p.qm<w.heap.size:=(agi.1 hm).1;have inX:InX p.X p.n:=λv hv b off k c e=>y_ _ (h.inX v hv b off k c e);have sides:Si w p.n p.cols p.others left.length p.rc:=by rw[hla];exact h.sides
 have hO:OwnJ w (KG [] [] NL gh) (λk W=>J (given++(jR outer p.cols p.others p.rc left rs).take k) W/\JB p rs W):=λX Y t hs hk=>
  ⟨keepG_other NL gh t hk,λk hj=>⟨hJo _ _ _ _ hj.1 t (by omega) hk,hj.2.other t hk (by omega)⟩⟩
 have kj:∀X Y,JB p rs X->KG K A N gh X Y->KeepJ p.X X Y:=λX Y hb g=>by
  refine⟨g.guard.size,λt ht=>?_,g.guard.maps,λk hk ob e=>?_⟩
  ·simp only[JT,a_,i_,or_false]at ht;rcases ht with rfl|rfl|rfl|rfl|rfl|rfl
   ·exact g.guard.cells _ (y_ _ (hK _ (by decide)))
   ·exact g.guard.cells _ (y_ _ (hK _ (by decide)))
   all_goals exact g.k.cells _ (by decide)
  ·rcases d_.1 hk with hk|hk
   ·obtain⟨cs',t',e',ht⟩:=hb.sorter.list k hk;rw[e]at e';cases e';rcases ht with rfl|rfl
    ·exact g.spec 83 (by decide) _ (g2 k hk) _ _ e
    ·exact g.k.cells 223 (by decide) _ _ _ e
   ·exact g.blocks k (g3 k hk) _ e
 have tr:∀X Y,KG K A N gh X Y->KG [] [] NL gh X Y:=λX Y g=>g.mono (by simp) (by simp) hNL;rcases hcase with⟨hop,rfl⟩|⟨hop,rfl,hat⟩
 ·have hj:jR false p.cols p.others p.rc left rs=(hits p.cols p.others left rs).map (left++·):=by simp[jR]
  refine(joinRow_hits w p.X p.bx p.bm p.blk p.rc d M p.n m lo ln lc p.cols p.others left rs p.rc p.l (KG [] [] NL gh) (λk W=>J (given++(jR false p.cols p.others p.rc left rs).take k) W/\JB p rs W) hop sides hl hmd hlen h.sl hP ok inX (λk hk=>?_) (by omega) (by omega) hrc1 hrc2 (λ_ _ _ a b=>a.trans b) hO ⟨by simpa using hJ0,h⟩ (λ_ _ a=>a.guard.size) ?_).mono ?_
  ·rcases d_.1 hk with hk|hk
   ·obtain⟨_,_,e,_⟩:=h.sorter.list k hk;exact(agi.1 e).1
   ·obtain⟨_,_,e⟩:=h.cak k hk;exact(agi.1 e).1
  ·rintro k v W' hk ⟨j1,j2⟩ hsz _ hv hr;refine(hY k v W' _ (by rw[hj,M_,p_ hk];rfl) j1 j2 hsz hv hr).mono ?_;rintro e W'' ⟨rfl,j3,g⟩;exact⟨rfl,⟨j3,j2.keep g hK g1 g2 g3⟩,kj _ _ j2 g,tr _ _ g⟩
  ·rintro e w' ⟨rfl,⟨j1,j2⟩,g,hp⟩;refine⟨rfl,?_,j2,g,hp⟩;rwa[N_ (by rw[hj,u_];exact e_ _)]at j1
 ·have hj:jR true p.cols p.others p.rc left rs=[left++List.replicate p.rc V0]:=by simp[jR,hat]
  refine(joinRow_null w p.X p.bx p.bm p.blk p.rc d M p.n m lo ln lc p.cols p.others left rs p.l (KG [] [] NL gh) (λk W=>J (given++(jR true p.cols p.others p.rc left rs).take k) W/\JB p rs W) hop hat sides hl hmd hlen h.sl hP (by omega) (by omega) hrc1 hrc2 (λ_ _ _ a b=>a.trans b) hO ⟨by simpa using hJ0,h⟩ ?_).mono ?_
  ·rintro v W' ⟨j1,j2⟩ hsz _ hv hr;refine(hY 0 v W' _ (by rw[hj];rfl) j1 j2 hsz hv hr).mono ?_;rintro e W'' ⟨rfl,j3,g⟩;exact⟨rfl,⟨j3,j2.keep g hK g1 g2 g3⟩,kj _ _ j2 g,tr _ _ g⟩
  ·rintro e w' ⟨rfl,⟨j1,j2⟩,g,hp⟩;refine⟨rfl,?_,j2,g,hp⟩;rwa[N_ (by rw[hj];simp)]at j1
theorem Di.self (h:Di d):@Di ⟨⟨d.last,gq d.files⟩⟩ d:=by
 obtain⟨⟨a,b,c,e,f,g,i⟩,_,_⟩:=h.bare
 letI:Inhabited Ground:=⟨⟨d.last,gq d.files⟩⟩
 exact⟨a,b,c,e,f,g,i,λ_ _=>rfl,Int.le_refl _⟩
theorem MS.mono {X X':List Nat}{w:World}{q bx blk cols:Nat}{d:DS}{l:List (List V)}(h:MS X w q bx blk cols d l)(hX:∀k∈X,k∈X'):MS X' w q bx blk cols d l:=by
 obtain⟨m,h1,h2⟩:=h;exact⟨m,h1,h2.imp (λ⟨a,b,c⟩=>⟨a,b,c.mono hX⟩) (λ⟨x,t,a,b,c,e⟩=>⟨x,t,a,b,c,e.mono hX⟩)⟩
def ghF (ps:Nat)(X F:List Nat):List Nat:=if F=[]then[]else F++ps::X
theorem gI {X:List Nat}(h:F≠[]):ghF ps X F=F++ps::X:=by simp[ghF,h]
theorem ghF_sub (ps:Nat)(X F:List Nat):∀k∈F,k∈ghF ps X F:=λk hk=>by
 rw[gI (List.ne_nil_of_mem hk)];exact C_ _ hk
theorem ghF_nil (ps:Nat)(X F:List Nat)(h:F=[]):ghF ps X F=[]:=by simp[ghF,h]
theorem RG.mono {X:List Nat}(h:RG N D ps sc pre X)(hN:N<=N'):RG N' D ps sc pre X:=
 ⟨⟨s_ h.ps_.1 hN,h.ps_.2⟩,λx hx=>⟨s_ (h.runs x hx).1 hN,(h.runs x hx).2⟩,h.rv.imp (λh g o n c e=>⟨s_ (h g o n c e).1 hN,(h g o n c e).2⟩) id,λk hk=>⟨s_ (h.list k hk).1 hN,(h.list k hk).2⟩⟩
theorem Tt.loop {bx bm:Nat}{ks:List K}{count:Nat}{Q:List (List V)->Prop}{out out':List Rec}{v:Value}{W:World}{l:Nat}{r r':Loop}(h:Tt bx bm ks count Q out v W out')(e:W.heap[l]?=some (.loop r)):Tt bx bm ks count Q out v (W.putObj l (.loop r')) out':=by
 obtain⟨⟨x,rows,h1,h2,h3,h4⟩,d,M,h5,h6⟩:=h;have g:Guard Aa (l+1) W (W.putObj l (.loop r')):=Guard.putObj e (by omega);exact⟨⟨x,rows,h1,h2,Sl3.keep h3 (g.cells 85 (by decide)),h4⟩,d,M,h5.guard (g.mono (by decide) (e_ _)),h6⟩
theorem TFin.loop {bx bm blk cols m j:Nat}{ks:List K}{count:Nat}{Q:List (List V)->Prop}{out:List Rec}{W:World}{l:Nat}{ob ob':Obj}(h:TFin bx bm blk cols m j ks count Q out W)(e:W.heap[l]?=some ob)(ho:Odd ob):TFin bx bm blk cols m j ks count Q out (W.putObj l ob'):=by
 obtain⟨h1,d,M,h2,h3⟩:=h;have g:Guard Aa (l+1) W (W.putObj l ob'):=Guard.putOdd e ho (by omega);exact⟨h1,d,M,h2.guard (g.mono (by decide) (e_ _)),h3⟩
theorem JB.odd {p:JP}{rs:List (List V)}{W:World}{l:Nat}{ob ob':Obj}(h:JB p rs W)(e:W.heap[l]?=some ob)(ho:Odd ob):JB p rs (W.putObj l ob'):=by
 refine h.all (λi cs t f e'=>?_);rw[World.putObj_heap_other (λe2=>by subst e2;rw[e]at e';cases e';exact ho.1 _ _ _ rfl)];exact e'
theorem KG.sub {X:List Nat}{B:Nat}(h:KG T X B F W W')(hF:∀k∈F',k∈F):KG T X B F' W W':=⟨h.guard,λt ht k hk=>h.spec t ht k (hF k hk),h.blocks⟩
theorem prefix_take {α:Type}(g l:List α)(i:Nat):g++l.take i <+: g++l:=by
 refine⟨l.drop i,?_⟩;rw[F_,X_]
theorem IE.first {X:List Nat}(h:IE X w N D ps bx bm blk cols m j ks rows lv rp s sp out sc d M pre) :
  Calls prog 151 #[.pointer (some ⟨w.heap.size,0,none⟩)] (w.alloc (.cells #[lv,rp,.int .i64 0,.string s,.bool sp,.slice none 0 0,.bool false] 246)) λe w'=>e=.returned (.tuple #[])/\Hid (@MS ⟨⟨d.last,gq d.files⟩⟩ X w' w.heap.size bx blk cols d (out.map Rec.row)/\Ri w' ps sc bx blk pre X/\PD w' bx bm d M)/\Touch [] w w':=by
 have hs:=h.runs.ok.self;have hR:=h.right;have hp:=h.pass (.slice none 0 0) false;have hpd:=h.runs.pd
 letI:Inhabited Ground:=⟨⟨d.last,gq d.files⟩⟩
 have t:Touch [] w (w.alloc (.cells #[lv,rp,.int .i64 0,.string s,.bool sp,.slice none 0 0,.bool false] 246)):=tr_.alloc _;have hm:MR (w.alloc (.cells #[lv,rp,.int .i64 0,.string s,.bool sp,.slice none 0 0,.bool false] 246)) w.heap.size ⟨lv,rp,0,s,sp,.slice none 0 0,false⟩:=heap_alloc_new w _;refine(aA _ w.heap.size bx bm blk cols d M _ (out.map Rec.row) hm (PV.touch (F:=[]) hp t (λk hk=>by simp at hk) (λk hk=>by simp at hk) (λk hk=>by simp at hk)) (hpd.away t (by simp)) hs).mono ?_;rintro e w' ⟨rfl,p1,p2,p3⟩;have t2:Touch [] w w':=t.more p3 (λi hi=>.inr (by rw[ms_ hi];exact e_ _));exact⟨rfl,⟨p1,hR.tags (λt _=>t2.tu t),p2⟩,t2⟩
end Go.Proofs.YtjoinhljdbljaaaGreat
