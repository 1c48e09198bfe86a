/- A block whose first cells are known, and what follows. -/
import Derived.Test.YtjoinhljdbljaaaGreatOValDToOValK
set_option maxHeartbeats 4000000
set_option maxRecDepth 20000
namespace Go.Proofs.YtjoinhljdbljaaaGreat.Old
open Go.RowKit
variable {B base cap g i k n p q:Nat} {F F':List Nat} {N:List VN} {a cs xs:List Value} {d l:List Int} {e:TypeId} {m:Int} {w w':World}
def PA (w:World)(g:Nat)(e:TypeId)(n:Nat)(cs:List Value):Prop:=
 ∃cur:Array Value,w.heap[g]?=some (.cells cur e (0,0))/\cur.size=n/\∀(i:Nat) (u:Value),cs[i]?=some u->cur[i]?=some u
theorem PA.made {N sz:Nat}(h:w.ownsRow base e sz (.slice (some ⟨g,0,none⟩) N cap) N xs)(hc:cap=N):PA w g e (N*sz) xs:=by
 subst hc;rcases h.2 with⟨h,_⟩|⟨g',cap',cur,h,_,hg,_,_,hs,ht⟩
 ·simp at h
 ·simp only[Value.slice.injEq,j_,Addr.mk.injEq,and_true,true_and]at h;obtain⟨rfl,rfl⟩:=h;refine⟨cur,hg,hs,λi u hi=>?_⟩;rw[<-ht,S_]at hi
  split at hi
  ·simpa using hi
  ·cases hi
theorem PA.pre {b:List Value}(h:PA w g e n (a++b)):PA w g e n a:=by
 obtain⟨cur,h1,h2,h3⟩:=h;refine⟨cur,h1,h2,λi u hi=>h3 i u ?_⟩;rw[aa_ (l_.1 hi).1];exact hi
theorem PA.nil (h:PA w g e n a):PA w g e n []:=PA.pre (a:=[]) (b:=a) h
theorem PA.lt (h:PA w g e n cs):g<w.heap.size:=by
 obtain⟨cur,hh,r⟩:=h;exact(agi.1 hh).1
theorem PA.cell {w:World}{g:Nat}{e:TypeId}{n:Nat}{cs:List Value}(h:PA w g e n cs){i:Nat}{u:Value}(hi:cs[i]?=some u):w.cell? ⟨g,i,none⟩=some u:=by
 obtain⟨cur,hh,_,r⟩:=h;simp[World.cell?,hh,r i u hi]
theorem PA.place (h:PA w g e n cs)(o:Nat)(ho:o<n):(∃v,w.cell? ⟨g,o,none⟩=some v)/\w.frozen? ⟨g,o,none⟩=false:=by
 obtain⟨cur,hh,hs,r⟩:=h;have:o<cur.size:=by omega
 exact⟨⟨cur[o],by simp[World.cell?,hh,this]⟩,by simp[World.frozen?,hh]⟩
theorem PA.below (h:PA w g e n cs)(hb:Below B w w')(hg:g<B):PA w' g e n cs:=by
 obtain⟨cur,hh,r⟩:=h;exact⟨cur,by rw[hb.block g hg];exact hh,r⟩
theorem PA.b (h:PA w g e n cs)(hb:Below w.heap.size w w'):PA w' g e n cs:=h.below hb h.lt
theorem PA.set {w:World}{g:Nat}{e:TypeId}{n:Nat}{cs:List Value}(h:PA w g e n cs)(i:Nat)(hi:i<cs.length)(v:Value):PA (w.setCell ⟨g,i,none⟩ v) g e n (cs.set i v):=by
 obtain⟨cur,hh,hs,r⟩:=h;refine⟨_,heap_setCell_same _ _ _ _ _ _ hh,by simpa using hs,λj u hj=>?_⟩;have hi2:i<cur.size:=by
  have:=r i _ (p_ hi);exact(agi.1 this).1
 rw[List.getElem?_set]at hj;rw[E_]
 split
 ·subst_vars;simp_all
 ·rename_i hne;rw[if_neg hne]at hj;exact r j u hj
theorem ig (h:i<l.length):(ints l)[i]?=some (.int .i64 l[i]):=by simp[ints,h]
theorem ints_set (l:List Int)(i:Nat)(q:Int):ints (l.set i q)=(ints l).set i (.int .i64 q):=by simp[ints,List.map_set]
theorem IntsIn.less {v:Value}(h:IntsIn w F v l)(hF:∀k∈F',k∈F):IntsIn w F' v l:=by
 obtain⟨ao,cap,rfl,hc,hm,hl,hx⟩:=h;refine⟨ao,cap,rfl,hc,hm,hl,λhn=>?_⟩;obtain⟨b,off,rfl,hb,hx⟩:=hx hn;exact⟨b,off,rfl,λe=>hb (hF _ e),hx⟩
open Go.Proofs.Tryz
theorem inputsAhead_any (w:World)(n:VN)(p:NP)(i:Nat):Calls prog 99 #[nV n p,.int .i64 (i:Int)] w (BP (Ahead n i) w):=by
 have HIN:Hid (∀w,Calls prog 124 #[nV n p] w (LP (ins n) w)):=λw=>iP w n p;have hA:Ahead n i↔∀k (h:k<(ins n).length),0<=(ins n)[k]/\(ins n)[k]<(i:Int):=by
  unfold Ahead;constructor
  ·intro h k hk;exact h _ (m_ hk)
  ·intro h x hx;obtain⟨k,hk,rfl⟩:=List.mem_iff_getElem.1 hx;exact h k hk
 have hl:(ins n).length<=2:=by unfold ins;split<;>(try split)<;>simp
 have HA:Hid _:=hA;generalize Ahead n i=A at *;generalize ins n=L at *;clear hA;obtain⟨op,lf,rt,tb,ks,ct,cols,ots,sums⟩:=n;obtain⟨kv,cv,ov,sv⟩:=p;unfold nV at *;simp only at *;go_enter func99,ntmps99
 go_wp2_with (go_at_call 124;refine(HIN.out _).mono ?_;rintro e w1 ⟨ao,cap,rfl,hin,hB1⟩)
 have HI:Hid (IntsIn w1 [] (.slice ao L.length cap) L):=hin [] (by simp);have hB:=up1 hB1;clear hin hB1
 go_loopw [10] (λj wr=>∃k:Nat,k<=L.length/\j=.int .i64 k/\(∀i' (h:i'<L.length),i'<k->0<=L[i']/\L[i']<(i:Int))/\wr=w1) (λj _=>L.length-(intOf j).toNat)
 case atStart=>exact⟨0,by omega,rfl,λi _ h=>by omega,rfl⟩
 case round=>
  obtain⟨k,hk,rfl,hall,hw⟩:=hrel;subst hw;by_cases hlt:k<L.length
  ·obtain⟨b,off,hao,hcell⟩:=HI.out.cells (by omega);subst hao;have c0:=hcell k hlt;by_cases hq:0<=L[k]/\L[k]<(i:Int)
   ·have HN:Hid (∀i' (h:i'<L.length),i'<k+1->0<=L[i']/\L[i']<(i:Int)):=sJ (P:=λq=>0<=q/\q<(i:Int)) hlt hall hq;have d1:decide (L[k]<0)=false:=decide_eq_false (by omega);have d2:decide ((i:Int)<=L[k])=false:=decide_eq_false (by omega);generalize L[k]=q at *;clear hcell hall;go_wp2
    go_roundw
    case rel=>exact⟨k+1,by omega,by go_num,HN.out,trivial⟩
    case measure=>simp[intOf];omega
   ·have HF:Hid (¬A):=λh=>hq (HA.out.1 h k hlt);generalize L[k]=q at *;clear hcell hall;by_cases h0:q<0
    ·have d1:decide (q<0)=true:=decide_eq_true h0;go_wp2;go_ret;exact BP.no HF.out hB
    ·have d1:decide (q<0)=false:=decide_eq_false h0;have d2:decide ((i:Int)<=q)=true:=decide_eq_true (by omega);go_wp2;go_ret;exact BP.no HF.out hB
  ·have HT:Hid A:=HA.out.2 λk' h=>hall k' h (by omega);clear hall;go_wp2;go_ret;exact BP.yes HT.out hB
theorem NI.cells9 {ao:Option Addr}{l:List VN}(h:NI w F (.slice ao n cap) l)(hn:1<=l.length):∃b off,ao=some ⟨b,off,none⟩ /\
  ∀i (h:i<l.length),∃p:NP,Nb w F p l[i]/\w.cell? ⟨b,off+i*9,none⟩=some (.int .i64 l[i].op)/\w.cell? ⟨b,off+i*9+1,none⟩=some (.int .i64 l[i].left)/\w.cell? ⟨b,off+i*9+1+1,none⟩=some (.int .i64 l[i].right)/\w.cell? ⟨b,off+i*9+1+1+1,none⟩=some (.string l[i].table) /\
   w.cell? ⟨b,off+i*9+1+1+1+1,none⟩=some p.1/\w.cell? ⟨b,off+i*9+1+1+1+1+1,none⟩=some (.int .i64 l[i].count)/\w.cell? ⟨b,off+i*9+1+1+1+1+1+1,none⟩=some p.2.1/\w.cell? ⟨b,off+i*9+1+1+1+1+1+1+1,none⟩=some p.2.2.1/\w.cell? ⟨b,off+i*9+1+1+1+1+1+1+1+1,none⟩=some p.2.2.2:=by
 obtain⟨b,off,hao,hx⟩:=h.cells hn;refine⟨b,off,hao,λi hi=>?_⟩;obtain⟨p,hp,hx⟩:=hx i hi;exact⟨p,hp,hx 0 _ rfl,hx 1 _ rfl,hx 2 _ rfl,hx 3 _ rfl,hx 4 _ rfl,hx 5 _ rfl,hx 6 _ rfl,hx 7 _ rfl,hx 8 _ rfl⟩
def cntL (N:Nat)(A:List Int):List Int:=(List.range N).map λ(j:Nat)=>((A.count (j:Int):Nat):Int)
theorem cntL_length (N:Nat)(A:List Int):(cntL N A).length=N:=by simp[cntL]
theorem cntL_get (N:Nat)(A:List Int)(j:Nat)(h:j<(cntL N A).length):(cntL N A)[j]=((A.count (j:Int):Nat):Int):=by simp[cntL]
theorem cntL_snoc (N:Nat)(A:List Int)(x:Int)(h0:0<=x)(h1:x<(N:Int)):cntL N (A++[x])=(cntL N A).set x.toNat (((A.count x:Nat):Int)+1):=by
 apply List.ext_getElem
 ·simp[cntL]
 ·intro j h2 h3;rw[cntL_get];rw[List.getElem_set]
  split
  ·rename_i e;have:x=(j:Int):=by omega
   subst this;simp
  ·rename_i e;rw[cntL_get,List.count_append];have:¬(x=(j:Int)):=by omega
   simp[this]
theorem asks_len (N:List VN):(asks N).length<=2*N.length:=by
 induction N with
 | nil=>simp[asks]
 | cons n N ih=>
  have:(ins n).length<=2:=by unfold ins;split<;>(try split)<;>simp
  simp only[asks,List.flatMap_cons,c_,List.length_cons]at *;omega
theorem asks_snoc (h:k<N.length):asks (N.take (k+1))=asks (N.take k)++ins N[k]:=by
 unfold asks;rw[take_snoc' N k h,List.flatMap_append];simp
theorem madeZeros (n:Nat):(madeCells (Value.int .i64 0).cells (n*1)).toList=ints (List.replicate n 0):=by
 apply List.ext_getElem
 ·simp[madeCells,ints]
 ·intro i h1 h2;simp[madeCells,ints,Nat.mod_one,Value.cells]
theorem cntL_nil (N:Nat):cntL N []=List.replicate N 0:=by
 apply List.ext_getElem
 ·simp[cntL]
 ·intro i h1 h2;simp[cntL]
theorem ins_len (n:VN):(ins n).length<=2:=by unfold ins;split<;>(try split)<;>simp
theorem Touch.up {a:World}(ht:Touch F w w')(h:Below a.heap.size a w)(hF:∀k∈F,a.heap.size<=k):Below a.heap.size a w':=
 ⟨ht.os.trans h.os,ht.tape.trans h.tape,ht.output.trans h.output,k_ h.size ht.size,λk hk=>(ht.block k (s_ hk h.size) (λe=>by have:=hF k e;omega)).trans (h.block k hk)⟩
theorem eachAskedOnce_any (w:World)(v:Value)(N:List VN)(h:NI w [] v N)(hl1:1<=N.length)(hl:N.length<=12)(ha:AA N) :
  Calls prog 100 #[v] w (BP (Once N) w):=by
 obtain⟨i0,hi0,hz0,hz1,hz2⟩:=info_parts info3;have HI0:Hid (prog.info? 3=some i0/\i0.zero=some (.int .i64 0)/\i0.size=1/\i0.bytes=8):=⟨hi0,hz0,hz1,hz2⟩;clear hi0 hz0 hz1 hz2;obtain⟨ao,cap,rfl,hc,hm,hx⟩:=h.open;have HV:Hid (NI w [] (.slice ao N.length cap) N):=h;have HA:Hid (AA N):=ha;clear h hx ha;have HIN:Hid (∀n p w,Calls prog 124 #[nV n p] w (LP (ins n) w)):=λn p w=>iP w n p;go_enter func100,ntmps100
 go_wp2_with (at_make;refine wpList_make_full _ rfl (.tmp 11) (.tmp 11) 37 rfl w.heap.size 3 i0 (.int .i64 0) 1 underlying37 HI0.out.1 HI0.out.2.1 HI0.out.2.2.1 .i64 .i64 _ _ N.length rfl rfl (by omega) (by omega) (by rw[HI0.out.2.2.2];omega) (by unfold maxLen;omega) (e_ _) ?_;intro w1 ho1 hg1;have hp1:=PA.made ho1 rfl;have hB1:=(Below.refl w.heap.size w).grown hg1 (e_ _) (λk hk=>by simp at hk);clear ho1 hg1)
 rw[madeZeros,<-cntL_nil,Nat.mul_one]at hp1;have HP1:Hid (PA w1 w.heap.size 3 N.length (ints (cntL N.length []))):=hp1;clear hp1
 go_loopw [15] (λj wr=>∃k:Nat,k<=N.length/\j=.int .i64 k/\PA wr w.heap.size 3 N.length (ints (cntL N.length (asks (N.take k))))/\Below w.heap.size w wr) (λj _=>N.length-(intOf j).toNat)
 case atStart=>exact⟨0,by omega,rfl,HP1.out,hB1⟩
 case round=>
  obtain⟨k,hk,rfl,hP,hB⟩:=hrel;clear HP1 hB1 w1;have hsz:=hB.size;by_cases hlt:k<N.length
  ·obtain⟨b,off,hao,hcell⟩:=(HV.out.step (su hB)).cells9 (by omega);subst hao;obtain⟨p,hp,c0,c1,c2,c3,c4,c5,c6,c7,c8⟩:=hcell k hlt;have HIk:Hid (∀w,Calls prog 124 #[nV N[k] p] w (LP (ins N[k]) w)):=λw=>HIN.out _ _ _;have HS:Hid (asks (N.take (k+1))=asks (N.take k)++ins N[k]):=asks_snoc hlt;have HL:Hid (∀i (h:i<(ins N[k]).length),0<=(ins N[k])[i]/\(ins N[k])[i]<(k:Int)):=λi h=>HA.out k hlt _ (m_ h);have hL2:=ins_len N[k];have hA2:(asks (N.take k)).length<=24:=by have:=asks_len (N.take k);simp at this;omega
   have hPl:=hP.lt;have HP:Hid (PA wr w.heap.size 3 N.length (ints (cntL N.length (asks (N.take k))))):=hP;clear hcell hP;generalize asks (N.take k)=A at *;generalize ins N[k]=L at *;generalize N[k]=n at *;obtain⟨op,lf,rt,tb,ks,ct,cols,ots,sums⟩:=n;obtain⟨kv,cv,ov,sv⟩:=p;unfold nV at HIk;obtain⟨hp1,hp2,hp3,hp4⟩:=hp;simp only at *;obtain⟨ko,kP,rfl,_,_,g1⟩:=hp1.open;clear g1;obtain⟨co,ccap,rfl,_,_,g2⟩:=hp2.open;clear g2;obtain⟨oo,oC,rfl,_,_,g3⟩:=hp3.open;clear g3;obtain⟨so,scap,rfl,_,_,g4⟩:=hp4.open;clear g4 hp1 hp2 hp3 hp4
   go_wp2_with (go_at_call 124;refine(HIk.out _).mono ?_;rintro e w2 ⟨ao2,cap2,rfl,hin,hB2⟩)
   have hB3:Below wr.heap.size wr w2:=Below.trans (by repeat (first|exact Below.refl _ _|refine Below.alloc ?_ (by first|exact e_ _|simp) _|refine Below.setCell ?_ (by simp) _)) (hB2.mono (by simp));have HI:Hid (IntsIn w2 [w.heap.size] (.slice ao2 L.length cap2) L):=hin [w.heap.size] (by simp;omega);have HP2:Hid (PA w2 w.heap.size 3 N.length (ints (cntL N.length A))):=HP.out.b hB3;have hB4:Below w.heap.size w w2:=bG hB (hB3);have hsz2:=hB4.size;clear hin hB2 HP hB3 c0 c1 c2 c3 c4 c5 c6 c7 c8
   go_loopw [22] (λj wz=>∃k2:Nat,k2<=L.length/\j=.int .i64 k2/\PA wz w.heap.size 3 N.length (ints (cntL N.length (A++L.take k2)))/\Touch [w.heap.size] w2 wz) (λj _=>L.length-(intOf j).toNat)
   case atStart=>exact⟨0,by omega,rfl,by rw[List.take_zero,H_];exact HP2.out,Touch.refl _ _⟩
   case round=>
    obtain⟨k2,hk2,rfl,hP3,hT⟩:=hrel;by_cases hlt2:k2<L.length
    ·obtain⟨b2,off2,hao2,hcell2⟩:=(HI.out.step (F':=[w.heap.size]) ⟨hT,λk hk=>Or.inl hk⟩).cells (by omega);subst hao2;have d0:=hcell2 k2 hlt2;have hx:=HL.out k2 hlt2;obtain⟨c,hce⟩:∃c:Nat,L[k2]=(c:Int):=⟨L[k2].toNat,by omega⟩;have HT2:Hid (A++L.take (k2+1)=(A++L.take k2)++[(c:Int)]):=by show _=_;rw[take_snoc' L k2 hlt2,hce,F_]
     rw[hce]at d0 hx;have hcN:c<(cntL N.length (A++L.take k2)).length:=by rw[cntL_length];omega
     have d1:=hP3.cell (ig hcN);rw[cntL_get]at d1;have d2:=(hP3.place c (by omega)).2;have hq:(A++L.take k2).count (c:Int)<=26:=by
      have:=List.count_le_length (a:=(c:Int)) (l:=A++L.take k2);rw[c_,W_]at this;omega
     have HP4:=hP3.set c (by rw[ints_len];exact hcN) (.int .i64 (((A++L.take k2).count (c:Int):Nat)+1));rw[<-ints_set]at HP4;have e:=cntL_snoc N.length (A++L.take k2) (c:Int) (by omega) (by omega);rw[Int.toNat_natCast]at e;rw[<-e,<-HT2.out]at HP4;have HP5:Hid (PA (wr.setCell ⟨w.heap.size,c,none⟩ (.int .i64 (((A++L.take k2).count (c:Int):Nat)+1))) w.heap.size 3 N.length (ints (cntL N.length (A++L.take (k2+1))))):=HP4;clear HP4 e hP3 hcell2;generalize (A++L.take k2).count (c:Int)=q at *;go_wp2
     go_roundw
     case rel=>exact⟨k2+1,by omega,by go_num,HP5.out,hT.setCell (by simp) _⟩
     case measure=>simp[intOf];omega
    ·have HP6:Hid (PA wr w.heap.size 3 N.length (ints (cntL N.length (asks (N.take (k+1)))))):=by
      rw[N_ (by omega)]at hP3;rw[HS.out];exact hP3
     clear hP3;go_wp2
     go_roundw
     case rel=>exact⟨k+1,by omega,by go_num,HP6.out,hT.up hB4 (by simp)⟩
     case measure=>simp[intOf];omega
  ·rw[N_ (by omega)]at hP;have HP:Hid (PA wr w.heap.size 3 N.length (ints (cntL N.length (asks N)))):=hP;clear hP;obtain⟨m,hm1⟩:∃m,N.length=m+1:=⟨N.length-1,by omega⟩;have HM:Hid (N.length=m+1):=hm1;have HCN:Hid (∀j (h:j<m),wr.cell? ⟨w.heap.size,j,none⟩=some (.int .i64 (((asks N).count (j:Int):Nat):Int))):=by
    intro j hj;have:=HP.out.cell (ig (l:=cntL N.length (asks N)) (i:=j) (by rw[cntL_length];omega));rw[cntL_get]at this;exact this
   go_wp2
   go_loopw [40] (λj wz=>∃k:Nat,k<=m/\j=.int .i64 k/\(∀i:Nat,i<k->(asks N).count (i:Int)=1)/\wz=wr) (λj _=>m-(intOf j).toNat)
   case atStart=>exact⟨0,by omega,rfl,λi h=>by omega,rfl⟩
   case round=>
    obtain⟨k3,hk3,rfl,hall,hw⟩:=hrel;subst hw;by_cases hlt3:k3<m
    ·have d0:=HCN.out k3 hlt3;by_cases hq:(asks N).count (k3:Int)=1
     ·have HN:Hid (∀i:Nat,i<k3+1->(asks N).count (i:Int)=1):=by
       intro i hi;by_cases e:i=k3
       ·subst e;exact hq
       ·exact hall i (by omega)
      rw[hq]at d0;clear hall hq;go_wp2
      go_roundw
      case rel=>exact⟨k3+1,by omega,by go_num,HN.out,trivial⟩
      case measure=>simp[intOf];omega
     ·have HF:Hid (¬Once N):=λh=>hq (h k3 (by omega));have hd:((((asks N).count (k3:Int):Nat):Int) != 1)=true:=by rw[bne_iff_ne];omega
      clear hall hq;go_wp2;go_ret;exact BP.no HF.out hB
    ·have HT:Hid (Once N):=λj hj=>hall j (by omega);clear hall;go_wp2;go_ret;exact BP.yes HT.out hB
def dF (d:List Int)(q:Nat):Int:=d.getD q 0
theorem dF_get (h:q<d.length):d[q]=dF d q:=by simp[dF,h]
def sF (d:List Int)(L:List Int)(v:Int):List Int:=L.foldl (λd x=>d.set x.toNat v) d
theorem setAll_len (v:Int):∀(L d:List Int),(sF d L v).length=d.length
 | [],d=>rfl
 | x::L,d=>by
  show(sF (d.set x.toNat v) L v).length=_;rw[setAll_len v L];simp
theorem setAll_get (v:Int)(y:Nat):∀(L d:List Int),(∀x∈L,0<=x/\x.toNat<d.length)->dF (sF d L v) y=if(y:Int)∈L then v else dF d y
 | [],d,_=>by simp[sF]
 | x::L,d,h=>by
  show dF (sF (d.set x.toNat v) L v) y=_;rw[setAll_get v y L _ (λz hz=>by have:=h z (by simp[hz]);simpa using this)];have hx:=h x (by simp);by_cases hm:(y:Int)∈L
  ·simp[hm]
  ·by_cases he:(y:Int)=x
   ·have:x.toNat=y:=by omega
    subst this;have hy:=hx.2;simp only[a_,he,true_or,if_true];rw[if_neg (by rw[<-he];exact hm)];simp[dF,hy]
   ·have:x.toNat≠y:=by omega
    simp[hm,he,dF,this]
theorem setAll_snoc (d L:List Int)(v:Int)(k:Nat)(h:k<L.length):sF d (L.take (k+1)) v=(sF d (L.take k) v).set L[k].toNat v:=by
 unfold sF;rw[take_snoc' L k h,List.foldl_append];rfl
def DInv (N:List VN)(p:Nat)(d:List Int)(m:Int):Prop:=d.length=N.length/\dF d (N.length-1)=1/\(∀q (h:q<N.length),p<=q->∀x∈ins N[q],dF d x.toNat=dF d q+1)/\(∀q,q<N.length->p<=q->dF d q<=m)/\(m=1\/∃q,q<N.length/\p<=q/\dF d q=m)/\(∀q,0<=dF d q/\dF d q+p<=N.length+1)/\1<=m/\m<=N.length+1
theorem DInv.first (hl:1<=N.length):DInv N N.length ((List.replicate N.length 0).set (N.length-1) 1) 1:=by
 have hg:∀q,dF ((List.replicate N.length 0).set (N.length-1) 1) q=if q=N.length-1 then 1 else 0:=by
  intro q;unfold dF;rw[V_,List.getElem?_set];by_cases h:N.length-1=q
  ·simp only[h,if_true,ai_];rw[if_pos (by omega)];rfl
  ·rw[if_neg h,if_neg (by omega),List.getElem?_replicate]
   split<;>rfl
 refine⟨by simp,by rw[hg];simp,λq h hq=>by omega,λq h hq=>by omega,Or.inl rfl,λq=>?_,by omega,by omega⟩;rw[hg]
 split<;>omega
theorem DInv.next (ha:AA N)(ho:Once N)(hp:p<N.length)(h:DInv N (p+1) d m):DInv N p (sF d (ins N[p]) (dF d p+1)) (max m (dF d p)):=by
 obtain⟨h1,h2,h3,h4,h5,h6,h7,h8⟩:=h;have hL:∀x∈ins N[p],0<=x/\x.toNat<d.length:=λx hx=>by have:=ha p hp x hx;omega
 have hLp:∀x∈ins N[p],0<=x/\x<(p:Int):=λx hx=>ha p hp x hx;have hg:∀y,dF (sF d (ins N[p]) (dF d p+1)) y=if(y:Int)∈ins N[p]then dF d p+1 else dF d y:=λy=>setAll_get _ y _ _ hL
 have hge:∀y,p<=y->dF (sF d (ins N[p]) (dF d p+1)) y=dF d y:=λy hy=>by
  rw[hg,if_neg (λhm=>by have:=hLp _ hm;omega)]
 have hp6:=h6 p;refine⟨by rw[setAll_len];exact h1,by rw[hge _ (by omega)];exact h2,λq hq hpq x hx=>?_,λq hq hpq=>?_,?_,λq=>?_,by omega,by omega⟩
 ·by_cases e:q=p
  ·subst e;rw[hge q (e_ _),hg,if_pos];have:=hLp x hx;rw[show((x.toNat:Nat):Int)=x from by omega];exact hx
  ·rw[hge q hpq,hg,if_neg,h3 q hq (by omega) x hx];intro hm;have hx0:=ha q hq x hx;rw[show((x.toNat:Nat):Int)=x from by omega]at hm;exact e (asks_one ha ho hq hp hx hm)
 ·rw[hge q hpq];by_cases e:q=p
  ·subst e;omega
  ·have:=h4 q hq (by omega);omega
 ·by_cases hm:m<=dF d p
  ·exact Or.inr ⟨p,hp,e_ _,by rw[hge p (e_ _)];omega⟩
  ·rcases h5 with h5|⟨q,hq,hpq,h5⟩
   ·left;omega
   ·exact Or.inr ⟨q,hq,by omega,by rw[hge q (by omega)];omega⟩
 ·rw[hg]
  split
  ·omega
  ·have:=h6 q;omega
theorem DInv.last (h:DInv N 0 d m):DeepRel N (dF d) m:=by
 obtain⟨h1,h2,h3,h4,h5,h6,h7,h8⟩:=h;refine⟨h2,λq hq x hx=>h3 q hq (by omega) x hx,λq hq=>h4 q hq (by omega),?_⟩;rcases h5 with h5|⟨q,hq,_,h5⟩
 ·exact Or.inl h5
 ·exact Or.inr ⟨q,hq,h5⟩
def DeepPost (P:Prop)(w:World):Ending->World->Prop:=λe w'=>∃m:Int,e=.returned (.int .i64 m)/\(m<=8↔P)/\Below w.heap.size w w'
theorem deepest_any (w:World)(v:Value)(N:List VN)(h:NI w [] v N)(hl1:1<=N.length)(hl:N.length<=12)(ha:AA N)(ho:Once N) :
  Calls prog 101 #[v] w (DeepPost (HighOK N) w):=by
 obtain⟨i0,hi0,hz0,hz1,hz2⟩:=info_parts info3;have HI0:Hid (prog.info? 3=some i0/\i0.zero=some (.int .i64 0)/\i0.size=1/\i0.bytes=8):=⟨hi0,hz0,hz1,hz2⟩;clear hi0 hz0 hz1 hz2;obtain⟨ao,cap,rfl,hc,hm,hx⟩:=h.open;have HV:Hid (NI w [] (.slice ao N.length cap) N):=h;have HA:Hid (AA N):=ha;have HO:Hid (Once N):=ho;have HD1:Hid (DInv N N.length ((List.replicate N.length 0).set (N.length-1) 1) 1):=DInv.first hl1;clear h hx ha ho;have HIN:Hid (∀n p w,Calls prog 124 #[nV n p] w (LP (ins n) w)):=λn p w=>iP w n p;obtain⟨m0,hm0⟩:∃m,N.length=m+1:=⟨N.length-1,by omega⟩;go_enter func101,ntmps101
 go_wp2_with (at_make;refine wpList_make_full _ rfl (.tmp 10) (.tmp 10) 37 rfl w.heap.size 3 i0 (.int .i64 0) 1 underlying37 HI0.out.1 HI0.out.2.1 HI0.out.2.2.1 .i64 .i64 _ _ N.length rfl rfl (by omega) (by omega) (by rw[HI0.out.2.2.2];omega) (by unfold maxLen;omega) (e_ _) ?_;intro w1 ho1 hg1;have hp1:=PA.made ho1 rfl;have hB1:=(Below.refl w.heap.size w).grown hg1 (e_ _) (λk hk=>by simp at hk);clear ho1 hg1;obtain⟨⟨v0,hv0⟩,hf0⟩:=hp1.place m0 (by omega))
 rw[madeZeros,Nat.mul_one]at hp1;have hp2:=hp1.set m0 (by simp[ints];omega) (.int .i64 1);rw[<-ints_set,show m0=N.length-1 from by omega]at hp2;have HP1:Hid (PA (w1.setCell ⟨w.heap.size,m0,none⟩ (.int .i64 1)) w.heap.size 3 N.length (ints ((List.replicate N.length 0).set (N.length-1) 1))):=by
  rw[show m0=N.length-1 from by omega];exact hp2
 clear hp1 hp2 hv0 hf0
 go_loopw [5,6] (λmo j wr=>∃(p:Nat) (z m:Int) (d:List Int),p<=N.length/\z=(p:Int)-1/\j=.int .i64 z/\mo=.int .i64 m/\DInv N p d m/\PA wr w.heap.size 3 N.length (ints d)/\Below w.heap.size w wr) (λ_ j _=>(intOf j+1).toNat)
 case atStart=>exact⟨N.length,(m0:Int),1,_,e_ _,by omega,rfl,rfl,HD1.out,HP1.out,hB1.setCell (e_ _) _⟩
 case round=>
  obtain⟨p,z,m,d,hp,hz,rfl,rfl,hD,hP,hB⟩:=hrel;clear HP1 hB1 w1 HD1;have hsz:=hB.size;by_cases hpos:0<=z
  ·obtain⟨q,rfl⟩:∃q:Nat,z=(q:Int):=⟨z.toNat,by omega⟩;obtain rfl:p=q+1:=by omega
   have hlt:q<N.length:=by omega
   clear hz hpos;obtain⟨b,off,hao,hcell⟩:=(HV.out.step (su hB)).cells9 (by omega);subst hao;obtain⟨p,hp,c0,c1,c2,c3,c4,c5,c6,c7,c8⟩:=hcell q hlt;have HIk:Hid (∀w,Calls prog 124 #[nV N[q] p] w (LP (ins N[q]) w)):=λw=>HIN.out _ _ _;have HL:Hid (∀i (h:i<(ins N[q]).length),0<=(ins N[q])[i]/\(ins N[q])[i]<(q:Int)):=λi h=>HA.out q hlt _ (m_ h);have HLm:Hid (∀x∈ins N[q],0<=x/\x<(q:Int)):=λx h=>HA.out q hlt _ h;have hL2:=ins_len N[q];have HDN:Hid (DInv N q (sF d (ins N[q]) (dF d q+1)) (max m (dF d q))):=hD.next HA.out HO.out hlt;have hPl:=hP.lt;have HDL:Hid (d.length=N.length):=hD.1;have hdl:=HDL.out;have hmb1:1<=m:=hD.2.2.2.2.2.2.1;have hmb2:m<=13:=by have:=hD.2.2.2.2.2.2.2;omega
   have hdb1:0<=dF d q:=(hD.2.2.2.2.2.1 q).1;have hdb2:dF d q<=13:=by have:=(hD.2.2.2.2.2.1 q).2;omega
   have r0:=hP.cell (ig (l:=d) (i:=q) (by omega));rw[dF_get]at r0;have HP:Hid (PA wr w.heap.size 3 N.length (ints d)):=hP;clear hcell hP hD hdl;generalize ins N[q]=L at *;generalize N[q]=n at *;generalize hv:dF d q=dq at *;obtain⟨op,lf,rt,tb,ks,ct,cols,ots,sums⟩:=n;obtain⟨kv,cv,ov,sv⟩:=p;unfold nV at HIk;obtain⟨hp1,hp2,hp3,hp4⟩:=hp;simp only at *;obtain⟨ko,kP,rfl,_,_,g1⟩:=hp1.open;clear g1;obtain⟨co,ccap,rfl,_,_,g2⟩:=hp2.open;clear g2;obtain⟨oo,oC,rfl,_,_,g3⟩:=hp3.open;clear g3;obtain⟨so,scap,rfl,_,_,g4⟩:=hp4.open;clear g4 hp1 hp2 hp3 hp4;have HV2:Hid (dF d q=dq):=hv;clear hv;have HMX:Hid (∃mx,(if m<dq then dq else m)=mx/\mx=max m dq):=⟨_,rfl,by split<;>omega⟩;obtain⟨mx,hmx,hmx2⟩:=HMX.out;rw[<-hmx2]at HDN;clear HMX hmx2
   go_wp2_with (go_at_call 124;refine(HIk.out _).mono ?_;rintro e w2 ⟨ao2,cap2,rfl,hin,hB2⟩)
   have hB3:Below wr.heap.size wr w2:=hB2;have HI:Hid (IntsIn w2 [w.heap.size] (.slice ao2 L.length cap2) L):=hin [w.heap.size] (by simp;omega);have HP2:Hid (PA w2 w.heap.size 3 N.length (ints d)):=HP.out.b hB3;have hB4:Below w.heap.size w w2:=bG hB hB3;have hsz2:=hB4.size;clear hin hB2 HP hB3 c0 c1 c2 c3 c4 c5 c6 c7 c8 hmx r0
   go_loopw [35] (λj wz=>∃k2:Nat,k2<=L.length/\j=.int .i64 k2/\PA wz w.heap.size 3 N.length (ints (sF d (L.take k2) (dq+1)))/\Touch [w.heap.size] w2 wz) (λj _=>L.length-(intOf j).toNat)
   case atStart=>exact⟨0,by omega,rfl,by rw[List.take_zero];exact HP2.out,Touch.refl _ _⟩
   case round=>
    obtain⟨k2,hk2,rfl,hP3,hT⟩:=hrel;by_cases hlt2:k2<L.length
    ·obtain⟨b2,off2,hao2,hcell2⟩:=(HI.out.step (F':=[w.heap.size]) ⟨hT,λk hk=>Or.inl hk⟩).cells (by omega);subst hao2;have d0:=hcell2 k2 hlt2;have hx:=HL.out k2 hlt2;obtain⟨c,hce⟩:∃c:Nat,L[k2]=(c:Int):=⟨L[k2].toNat,by omega⟩;have hlen:(sF d (L.take k2) (dq+1)).length=N.length:=by rw[setAll_len];exact HDL.out
     have r0:=hP3.cell (ig (l:=sF d (L.take k2) (dq+1)) (i:=q) (by rw[hlen];exact hlt));rw[dF_get,setAll_get _ q _ _ (λx hx=>by have:=HLm.out x (L_ hx);have:=HDL.out;omega),if_neg (λhm=>by have:=HLm.out _ (L_ hm);omega),HV2.out]at r0;have HS:=setAll_snoc d L (dq+1) k2 hlt2;rw[hce]at d0 hx HS;rw[Int.toNat_natCast]at HS;obtain⟨⟨v2,r1⟩,r2⟩:=hP3.place c (by omega);have HP4:=hP3.set c (by rw[ints_len,hlen];omega) (.int .i64 (dq+1));rw[<-ints_set,<-HS]at HP4;have HP5:Hid (PA (wr.setCell ⟨w.heap.size,c,none⟩ (.int .i64 (dq+1))) w.heap.size 3 N.length (ints (sF d (L.take (k2+1)) (dq+1)))):=HP4;clear HP4 hP3 hcell2 HS hlen hce;go_wp2
     go_roundw
     case rel=>exact⟨k2+1,by omega,by go_num,HP5.out,hT.setCell (by simp) _⟩
     case measure=>simp[intOf];omega
    ·rw[N_ (by omega)]at hP3;have HP6:Hid (PA wr w.heap.size 3 N.length (ints (sF d L (dq+1)))):=hP3;clear hP3;go_wp2
     go_roundw
     case rel=>exact⟨q,(q:Int)-1,mx,_,by omega,rfl,by go_num,rfl,HDN.out,HP6.out,hT.up hB4 (by simp)⟩
     case measure=>simp[intOf]
  ·obtain rfl:p=0:=by omega
   have HT:Hid (m<=8↔HighOK N):=deep_iff HA.out HO.out hl1 hD.last;clear hD;have hd:decide (0<=z)=false:=decide_eq_false hpos;go_wp2;go_ret;exact⟨m,rfl,HT.out,hB⟩
end Go.Proofs.YtjoinhljdbljaaaGreat.Old
