/- The columns of all nodes, by the program, and what follows. -/
import Derived.Test.YtjoinhljdbljaaaGreatOValYToOValZ
import Derived.Test.YtjoinhljdbljaaaGreatOValW
set_option maxHeartbeats 8000000
set_option maxRecDepth 20000
namespace Go.Proofs.YtjoinhljdbljaaaGreat.Old
open Go.RowKit Go.Proofs.Tryz
variable {cs:List (List Int)} {g k n:Nat} {l:List Int} {w:World}
theorem info70:(prog.info? 37).map (λi=>(i.zero,i.size,i.bytes))=some (some (.slice none 0 0),1,24):=by kernel_rfl
theorem colsL_snoc (T:List VT)(N:List VN)(k:Nat)(h:k<N.length):caf T (N.take (k+1))=caf T (N.take k)++[nD T (caf T (N.take k)) N[k]]:=grow_snoc _ N k h
theorem colsL_len (T:List VT)(N:List VN)(k:Nat)(h:k<=N.length):(caf T (N.take k)).length=k:=by unfold caf;rw[gG];simp;omega
theorem getD_snoc12 (h:∀j,(cs.getD j []).length<=12)(hl:l.length<=12):∀j,((cs++[l]).getD j []).length<=12:=by
 intro j;by_cases h1:j<cs.length
 ·have:=h j;simp only[V_]at *;rw[aa_ h1];exact this
 ·by_cases h2:j=cs.length
  ·subst h2;simp[hl]
  ·simp only[V_];rw[List.getElem?_eq_none (by simp;omega)];simp
theorem PA.setNil {e:TypeId}(h:PA w g e n [])(k:Nat)(v:Value):PA (w.setCell ⟨g,k,none⟩ v) g e n []:=by
 obtain⟨cur,hh,hs,r⟩:=h;exact⟨_,heap_setCell_same _ _ _ _ _ _ hh,by simpa using hs,λj u hj=>by simp at hj⟩
theorem KL.put (h:KL w [g] g cs){v:Value}(hv:IntsIn w [g] v l)(hk:k=cs.length)(hp:∃u,w.cell? ⟨g,k,none⟩=some u):KL (w.setCell ⟨g,k,none⟩ v) [g] g (cs++[l]):=by
 have hst:Step [g] [g] w (w.setCell ⟨g,k,none⟩ v):=⟨(Touch.refl _ _).setCell (by simp) _,λ_ h=>Or.inl h⟩;refine⟨by simpa using h.1,λj hj=>?_⟩;simp at hj;by_cases e:j=k
 ·subst e;refine⟨v,?_,?_⟩
  ·obtain⟨u,hu⟩:=hp;exact World.cell?_setCell_same (w:=w) (a:=⟨g,j,none⟩) (v:=v) hu
  ·have:(cs++[l])[j]'(by simp;omega)=l:=by simp[hk]
   rw[this];exact hv.step hst
 ·obtain⟨u,hu,hi⟩:=h.2 j (by omega);refine⟨u,?_,?_⟩
  ·rw[World.cell?_setCell_other (w:=w) (a:=⟨g,k,none⟩) (b:=⟨g,j,none⟩) (v:=v) (by intro h;simp at h;all_goals exact e h.symm)];exact hu
  ·have:(cs++[l])[j]'(by simp;omega)=cs[j]'(by omega):=by rw[G_]
   rw[this];exact hi.step hst
theorem goodColumns_any (w:World)(tv pv:Value)(T:List VT)(N:List VN)(bm:Nat)(ht:TI w [] tv T)(hM:MI w bm (nS T))(hN:Na T)(hp:NI w [] pv N)(hno:Ns N)(hl:N.length<=12)(hT:T.length<=1048576)(hs:∀i (h:i<N.length),NS N[i]) :
  Calls prog 77 #[tv,.map (some bm),pv] w (BP (CO T N) w):=by
 obtain⟨i0,hi0,hz0,hz1,hz2⟩:=info_parts info70;have HI0:Hid (prog.info? 37=some i0/\i0.zero=some (.slice none 0 0)/\i0.size=1/\i0.bytes=24):=⟨hi0,hz0,hz1,hz2⟩;clear hi0 hz0 hz1 hz2;obtain⟨tao,tcap,rfl,htc,htm,g1⟩:=ht.open;obtain⟨ao,cap,rfl,hc,hm,g2⟩:=hp.open;clear g1 g2;have HT:Hid (TI w [] (.slice tao T.length tcap) T):=ht;have HV:Hid (NI w [] (.slice ao N.length cap) N):=hp;have HM:Hid (MI w bm (nS T)):=hM;have HNA:Hid (Na T):=hN;have HNO:Hid (Ns N):=hno;have HS:Hid (∀i (h:i<N.length),NS N[i]):=hs;clear ht hp hM hN hno hs;have HSC:Hid (∀w F v T bm nm,TI w F v T->MI w bm (nS T)->Na T->T.length<=1048576->Calls prog 102 #[v,.map (some bm),.string nm] w (PI F (Hg T nm) (tY T nm) w)):=sS;go_enter func77,ntmps77
 go_wp2_with (at_make;refine wpList_make_full _ rfl (.tmp 12) (.tmp 12) 118 rfl w.heap.size 37 i0 (.slice none 0 0) 1 underlying118 HI0.out.1 HI0.out.2.1 HI0.out.2.2.1 .i64 .i64 _ _ N.length rfl rfl (by omega) (by omega) (by rw[HI0.out.2.2.2];omega) (by unfold maxLen;omega) (e_ _) ?_;intro w1 ho1 hg1;have hp1:=(PA.made ho1 rfl).nil;have hB1:=(Below.refl w.heap.size w).grown hg1 (e_ _) (λk hk=>by simp at hk);clear ho1 hg1)
 rw[Nat.mul_one]at hp1;have HP1:Hid (PA w1 w.heap.size 37 N.length []):=hp1;clear hp1
 go_loopw [16] (λj wr=>∃k:Nat,k<=N.length/\j=.int .i64 k/\(∀i,i<k->Sl T N i)/\(∀j,((caf T (N.take k)).getD j []).length<=12)/\KL wr [w.heap.size] w.heap.size (caf T (N.take k))/\PA wr w.heap.size 37 N.length []/\Below w.heap.size w wr) (λj _=>N.length-(intOf j).toNat)
 case atStart=>exact⟨0,by omega,rfl,λi h=>by omega,λj=>by simp[caf,grow],⟨HP1.out.lt,λj hj=>by simp[caf,grow]at hj⟩,HP1.out,hB1⟩
 case round=>
  obtain⟨k,hk,rfl,hall,h12,hKL,hP,hB⟩:=hrel;clear HP1 hB1 w1;have hsz:=hB.size;by_cases hlt:k<N.length
  ·obtain⟨b,off,hao,hcell⟩:=(HV.out.step (su hB)).cells9 (by omega);subst hao;obtain⟨p,hp,c0,c1,c2,c3,c4,c5,c6,c7,c8⟩:=hcell k hlt;have hst:Step [] [w.heap.size] w wr:=⟨Below.t hB,λk hk=>Or.inr (by simp at hk;omega)⟩;have HTW:Hid (∀W,Below wr.heap.size wr W->TI W [w.heap.size] (.slice tao T.length tcap) T):=λW hW=>(HT.out.step hst).step (su hW);have HMW:Hid (∀W,Below wr.heap.size wr W->MI W bm (nS T)):=λW hW=>(HM.out.b hB).b hW;have HKW:Hid (∀W,Below wr.heap.size wr W->KL W [w.heap.size] w.heap.size (caf T (N.take k))):=λW hW=>hKL.b hW;have HPW:Hid (∀W,Below wr.heap.size wr W->PA W w.heap.size 37 N.length []):=λW hW=>hP.b hW;have HNI:Hid (∀W,Below wr.heap.size wr W->Nb W [] p N[k]):=λW hW=>hp.step (su hW);have HSN:Hid (caf T (N.take (k+1))=caf T (N.take k)++[nD T (caf T (N.take k)) N[k]]):=colsL_snoc T N k hlt;have HLN:Hid ((caf T (N.take k)).length=k):=colsL_len T N k hk;have H12:Hid (∀j,((caf T (N.take k)).getD j []).length<=12):=h12;have HAL:Hid (∀i,i<k->Sl T N i):=hall;have HSK:Hid (Sl T N k->∀i,i<k+1->Sl T N i):=by
    intro hq i hi;by_cases e:i=k
    ·subst e;exact hq
    ·exact HAL.out i (by omega)
   have HST:Hid (Sl T N k↔NK T (caf T (N.take k)) N[k]/\1<=(nD T (caf T (N.take k)) N[k]).length/\(nD T (caf T (N.take k)) N[k]).length<=12):=⟨λh=>h hlt,λh _=>h⟩;have HF:Hid (¬Sl T N k->¬CO T N):=λhq h=>hq (h k hlt);have HSm:Hid (NS N[k]):=HS.out k hlt;have HBA:Hid (BO N[k]/\Ahead N[k] k):=HNO.out k hlt;have hPl:=hP.lt;clear hcell hall h12 hKL hP hst;generalize caf T (N.take k)=cs at *;generalize Sl T N k=SK at *;generalize N[k]=n at *;obtain⟨op,lf,rt,tb,ks,ct,cols,ots,sums⟩:=n;obtain⟨kv,cv,ov,sv⟩:=p;obtain⟨hp1,hp2,hp3,hp4⟩:=hp;simp only at *;obtain⟨ko,kP,rfl,_,_,g1⟩:=hp1.open;obtain⟨co,ccap,rfl,_,_,g2⟩:=hp2.open;obtain⟨oo,oC,rfl,_,_,g3⟩:=hp3.open;obtain⟨so,scap,rfl,_,_,g4⟩:=hp4.open;clear g1 g2 g3 g4 hp1 hp2 hp3 hp4;by_cases hop:op=1
   ·subst hop;have e1:NK T cs ⟨1,lf,rt,tb,ks,ct,cols,ots,sums⟩=Hg T tb:=by simp[NK]
    have e2:nD T cs ⟨1,lf,rt,tb,ks,ct,cols,ots,sums⟩=tY T tb:=by simp[nD]
    rw[e1,e2]at HST;rw[e2]at HSN;clear e1 e2
    go_wp2_with fail
    refine calls_at (λW=>Below wr.heap.size wr W) ((Below.refl _ _).alloc (e_ _) _) ?_;intro W hBW;refine(HSC.out W [w.heap.size] _ T bm tb (HTW.out W hBW) (HMW.out W hBW) HNA.out hT).mono ?_;rintro e w1 ⟨ao5,m5,cap5,b1,rfl,hb1,hin1,hB1⟩;have hB2:=bG hBW hB1;have hB3:=bG hB hB2;have hK2:=HKW.out w1 hB2;have hP2:=HPW.out w1 hB2;obtain⟨⟨v6,hv6⟩,hf6⟩:=hP2.place k hlt;have HB4:Hid (∀u,Below w.heap.size w (w1.setCell ⟨w.heap.size,k,none⟩ u)):=λu=>hB3.setCell (e_ _) u;clear hBW hB1 c0 c1 c2 c3 c4 c5 c6 c7 c8 HKW HPW HTW HMW HNI;by_cases hq:Hg T tb
    ·obtain rfl:b1=true:=hb1.2 hq;have hin2:=hin1 hq;obtain⟨ao6,cap6,e6,_,_,g6⟩:=hin2.open;obtain⟨rfl,rfl,rfl⟩:=slice_inj e6;have HK4:=hK2.put hin2 (k:=k) HLN.out.symm ⟨v6,hv6⟩;rw[<-HSN.out]at HK4;have HK5:Hid (KL (w1.setCell ⟨w.heap.size,k,none⟩ (.slice ao5 (tY T tb).length cap5)) [w.heap.size] w.heap.size (caf T (N.take (k+1)))):=HK4;have HP5:Hid (PA (w1.setCell ⟨w.heap.size,k,none⟩ (.slice ao5 (tY T tb).length cap5)) w.heap.size 37 N.length []):=hP2.setNil _ _;have HQ:Hid (Hg T tb):=hq;clear g6 hb1 hin1 hK2 hP2 hq hin2 HK4 e6;by_cases h12:1<=(tY T tb).length/\(tY T tb).length<=12
     ·have HS2:=HSK.out (HST.out.2 ⟨HQ.out,h12⟩);have HS3:Hid (∀i,i<k+1->Sl T N i):=HS2;have H13:=getD_snoc12 H12.out h12.2;rw[<-HSN.out]at H13;have H14:Hid (∀j,((caf T (N.take (k+1))).getD j []).length<=12):=H13;clear HS2 H13;have d1:decide (((tY T tb).length:Int)<1)=false:=decide_eq_false (by omega);have d2:decide ((12:Int)<((tY T tb).length:Int))=false:=decide_eq_false (by omega);generalize (tY T tb).length=lm at *;go_wp2
      go_roundw
      case rel=>exact⟨k+1,by omega,by go_num,HS3.out,H14.out,HK5.out,HP5.out,HB4.out _⟩
      case measure=>simp[intOf];omega
     ·have HF2:=HF.out (λh=>h12 (HST.out.1 h).2);have HF3:Hid (¬CO T N):=HF2;clear HF2;generalize (tY T tb).length=lm at *;by_cases h1:lm<1
      ·have d1:decide ((lm:Int)<1)=true:=decide_eq_true (by omega);go_wp2;go_ret;exact BP.no HF3.out (HB4.out _)
      ·have d1:decide ((lm:Int)<1)=false:=decide_eq_false (by omega);have d2:decide ((12:Int)<(lm:Int))=true:=decide_eq_true (by omega);go_wp2;go_ret;exact BP.no HF3.out (HB4.out _)
    ·obtain rfl:b1=false:=by rw[<-Bool.not_eq_true,hb1];exact hq
     have HF2:=HF.out (λh=>hq (HST.out.1 h).1);have HF3:Hid (¬CO T N):=HF2;clear HF2 hb1 hin1 hK2 hP2 hq;go_wp2;go_ret;exact BP.no HF3.out (HB4.out _)
   ·have hd:(op == 1)=false:=by simp[hop]
    have HCO:Hid (∀W,Below wr.heap.size wr W->Calls prog 103 #[nV ⟨op,lf,rt,tb,ks,ct,cols,ots,sums⟩ (.slice ko ks.length kP,.slice co cols.length ccap,.slice oo ots.length oC,.slice so sums.length scap),.slice (some ⟨w.heap.size,0,none⟩) N.length N.length] W (PI [w.heap.size] (NK T cs ⟨op,lf,rt,tb,ks,ct,cols,ots,sums⟩) (nD T cs ⟨op,lf,rt,tb,ks,ct,cols,ots,sums⟩) W)):=λW hW=>
     columns_any W T [w.heap.size] (λk hk=>by simp at hk;have:=hW.size;omega) _ _ cs w.heap.size N.length (HNI.out W hW) HSm.out (HKW.out W hW) (by have:=HLN.out;omega) hl H12.out (by have h1:=HBA.out.1.1;simp only at h1;show 2<=op/\op<=7;omega) (by have h2:=HBA.out.2;rw[HLN.out];exact h2)
    unfold nV at HCO;simp only at HCO
    go_wp2_with fail
    refine calls_at (λW=>Below wr.heap.size wr W) ((Below.refl _ _).alloc (e_ _) _) ?_;intro W hBW;refine(HCO.out W hBW).mono ?_;rintro e w1 ⟨ao5,m5,cap5,b1,rfl,hb1,hin1,hB1⟩;have hB2:=bG hBW hB1;have hB3:=bG hB hB2;have hK2:=HKW.out w1 hB2;have hP2:=HPW.out w1 hB2;obtain⟨⟨v6,hv6⟩,hf6⟩:=hP2.place k hlt;have HB4:Hid (∀u,Below w.heap.size w (w1.setCell ⟨w.heap.size,k,none⟩ u)):=λu=>hB3.setCell (e_ _) u;clear hBW hB1 c0 c1 c2 c3 c4 c5 c6 c7 c8 HKW HPW HTW HMW HNI;by_cases hq:NK T cs ⟨op,lf,rt,tb,ks,ct,cols,ots,sums⟩
    ·obtain rfl:b1=true:=hb1.2 hq;have hin2:=hin1 hq;obtain⟨ao6,cap6,e6,_,_,g6⟩:=hin2.open;obtain⟨rfl,rfl,rfl⟩:=slice_inj e6;have HK4:=hK2.put hin2 (k:=k) HLN.out.symm ⟨v6,hv6⟩;rw[<-HSN.out]at HK4;have HK5:Hid (KL (w1.setCell ⟨w.heap.size,k,none⟩ (.slice ao5 (nD T cs ⟨op,lf,rt,tb,ks,ct,cols,ots,sums⟩).length cap5)) [w.heap.size] w.heap.size (caf T (N.take (k+1)))):=HK4;have HP5:Hid (PA (w1.setCell ⟨w.heap.size,k,none⟩ (.slice ao5 (nD T cs ⟨op,lf,rt,tb,ks,ct,cols,ots,sums⟩).length cap5)) w.heap.size 37 N.length []):=hP2.setNil _ _;have HQ:Hid (NK T cs ⟨op,lf,rt,tb,ks,ct,cols,ots,sums⟩):=hq;clear g6 hb1 hin1 hK2 hP2 hq hin2 HK4 e6;by_cases h12:1<=(nD T cs ⟨op,lf,rt,tb,ks,ct,cols,ots,sums⟩).length/\(nD T cs ⟨op,lf,rt,tb,ks,ct,cols,ots,sums⟩).length<=12
     ·have HS2:=HSK.out (HST.out.2 ⟨HQ.out,h12⟩);have HS3:Hid (∀i,i<k+1->Sl T N i):=HS2;have H13:=getD_snoc12 H12.out h12.2;rw[<-HSN.out]at H13;have H14:Hid (∀j,((caf T (N.take (k+1))).getD j []).length<=12):=H13;clear HS2 H13;have d1:decide (((nD T cs ⟨op,lf,rt,tb,ks,ct,cols,ots,sums⟩).length:Int)<1)=false:=decide_eq_false (by omega);have d2:decide ((12:Int)<((nD T cs ⟨op,lf,rt,tb,ks,ct,cols,ots,sums⟩).length:Int))=false:=decide_eq_false (by omega);generalize (nD T cs ⟨op,lf,rt,tb,ks,ct,cols,ots,sums⟩).length=lm at *;go_wp2
      go_roundw
      case rel=>exact⟨k+1,by omega,by go_num,HS3.out,H14.out,HK5.out,HP5.out,HB4.out _⟩
      case measure=>simp[intOf];omega
     ·have HF2:=HF.out (λh=>h12 (HST.out.1 h).2);have HF3:Hid (¬CO T N):=HF2;clear HF2;generalize (nD T cs ⟨op,lf,rt,tb,ks,ct,cols,ots,sums⟩).length=lm at *;by_cases h1:lm<1
      ·have d1:decide ((lm:Int)<1)=true:=decide_eq_true (by omega);go_wp2;go_ret;exact BP.no HF3.out (HB4.out _)
      ·have d1:decide ((lm:Int)<1)=false:=decide_eq_false (by omega);have d2:decide ((12:Int)<(lm:Int))=true:=decide_eq_true (by omega);go_wp2;go_ret;exact BP.no HF3.out (HB4.out _)
    ·obtain rfl:b1=false:=by rw[<-Bool.not_eq_true,hb1];exact hq
     have HF2:=HF.out (λh=>hq (HST.out.1 h).1);have HF3:Hid (¬CO T N):=HF2;clear HF2 hb1 hin1 hK2 hP2 hq;go_wp2;go_ret;exact BP.no HF3.out (HB4.out _)
  ·have HTT:Hid (CO T N):=λi hi=>hall i (by omega);clear hall h12 hKL hP;go_wp2;go_ret;exact BP.yes HTT.out hB
def Small (T:List VT)(N:List VN):Prop:=T.length<=1048576/\N.length<=1048576/\(∀i (h:i<T.length),Tm T[i])/\∀i (h:i<N.length),NS N[i]
theorem pvalid_any (w:World)(tv pv:Value)(T:List VT)(N:List VN)(ht:TI w [] tv T)(hp:NI w [] pv N)(hs:Small T N) :
  Calls prog 56 #[tv,pv] w (BP (VO T N) w):=by
 obtain⟨hT,hN,hsT,hsN⟩:=hs;obtain⟨tao,tcap,rfl,htc,htm,g1⟩:=ht.open;obtain⟨ao,cap,rfl,hc,hm,g2⟩:=hp.open;clear g1 g2;have HT:Hid (∀W,Below w.heap.size w W->TI W [] (.slice tao T.length tcap) T):=λW h=>ht.step (su h);have HV:Hid (∀W,Below w.heap.size w W->NI W [] (.slice ao N.length cap) N):=λW h=>hp.step (su h);have HPL:Hid (∀w v T,TI w [] v T->T.length<=1048576->Calls prog 74 #[v] w (MapPost T w)):=places_any;have HGT:Hid (∀W,Below w.heap.size w W->Calls prog 75 #[.slice tao T.length tcap] W (BP (TA T) W)):=λW h=>goodTables_any W _ T (HT.out W h) hT hsT;have HSN:Hid (∀i (h:i<N.length),NS N[i]):=hsN;clear ht hp hsT hsN;by_cases hl:1<=N.length/\N.length<=12
 ·have d1:decide ((N.length:Int)<1)=false:=decide_eq_false (by omega);have d2:decide ((12:Int)<N.length)=false:=decide_eq_false (by omega);have HIT:Hid (∀W,Below w.heap.size w W->Calls prog 76 #[.slice ao N.length cap] W (BP (Tc N) W)):=λW h=>isTree_any W _ N (HV.out W h) hl.1 hl.2;have HCM:Hid (∀W bm,Below w.heap.size w W->MI W bm (nS T)->Na T->Ns N->Calls prog 77 #[.slice tao T.length tcap,.map (some bm),.slice ao N.length cap] W (BP (CO T N) W)):=λW bm h h1 h2 h3=>goodColumns_any W _ _ T N bm (HT.out W h) h1 h2 (HV.out W h) h3 hl.2 hT HSN.out;have HLL:Hid (1<=N.length/\N.length<=12):=hl;clear HV;go_enter func56,ntmps56;by_cases hn:Na T
  ·have HNA:Hid (Na T):=hn;clear hn;by_cases ht:TA T
   ·have HTO:Hid (TA T):=ht;clear ht;by_cases hr:Tc N
    ·have HTR:Hid (Tc N):=hr;clear hr
     go_wp2_with (first|(go_at_call 74;refine(HPL.out _ _ T (HT.out _ (Below.refl _ _)) hT).mono ?_;rintro e w1 ⟨m,b1,rfl,hb1,hm1,hB1⟩;obtain rfl:b1=true:=hb1.2 HNA.out;obtain⟨bm,rfl,hm2⟩:=hm1 HNA.out;clear hb1 hm1)|(go_at_call 75;refine(HGT.out _ hB1).mono ?_;rintro e w2 ⟨b2,rfl,hb2,hB2⟩;obtain rfl:b2=true:=hb2.2 HTO.out;clear hb2;have hB3:=bG hB1 hB2)|(go_at_call 76;refine(HIT.out _ hB3).mono ?_;rintro e w4 ⟨b4,rfl,hb4,hB4⟩;obtain rfl:b4=true:=hb4.2 HTR.out;clear hb4;have hB5:=bG hB3 hB4)|(go_at_call 77;refine(HCM.out _ bm hB5 ((hm2.b hB2).b hB4) HNA.out HTR.out.1).mono ?_;rintro e w6 ⟨b6,rfl,hb6,hB6⟩))
     go_ret;exact⟨b6,rfl,by rw[hb6];exact⟨λh=>⟨HLL.out,HNA.out,HTO.out,HTR.out,h⟩,λh=>h.2.2.2.2⟩,bG hB5 hB6⟩
    ·have HTR:Hid (¬Tc N):=hr;have HF:Hid (¬VO T N):=λh=>hr h.2.2.2.1;clear hr
     go_wp2_with (first|(go_at_call 74;refine(HPL.out _ _ T (HT.out _ (Below.refl _ _)) hT).mono ?_;rintro e w1 ⟨m,b1,rfl,hb1,hm1,hB1⟩;obtain rfl:b1=true:=hb1.2 HNA.out;clear hb1 hm1)|(go_at_call 75;refine(HGT.out _ hB1).mono ?_;rintro e w2 ⟨b2,rfl,hb2,hB2⟩;obtain rfl:b2=true:=hb2.2 HTO.out;clear hb2;have hB3:=bG hB1 hB2)|(go_at_call 76;refine(HIT.out _ hB3).mono ?_;rintro e w4 ⟨b4,rfl,hb4,hB4⟩;obtain rfl:b4=false:=(by rw[<-Bool.not_eq_true,hb4];exact HTR.out);clear hb4;have hB5:=bG hB3 hB4))
     go_ret;exact BP.no HF.out hB5
   ·have HTO:Hid (¬TA T):=ht;have HF:Hid (¬VO T N):=λh=>ht h.2.2.1;clear ht
    go_wp2_with (first|(go_at_call 74;refine(HPL.out _ _ T (HT.out _ (Below.refl _ _)) hT).mono ?_;rintro e w1 ⟨m,b1,rfl,hb1,hm1,hB1⟩;obtain rfl:b1=true:=hb1.2 HNA.out;clear hb1 hm1)|(go_at_call 75;refine(HGT.out _ hB1).mono ?_;rintro e w2 ⟨b2,rfl,hb2,hB2⟩;obtain rfl:b2=false:=(by rw[<-Bool.not_eq_true,hb2];exact HTO.out);clear hb2;have hB3:=bG hB1 hB2))
    go_ret;exact BP.no HF.out hB3
  ·have HNA:Hid (¬Na T):=hn;have HF:Hid (¬VO T N):=λh=>hn h.2.1;clear hn
   go_wp2_with (go_at_call 74;refine(HPL.out _ _ T (HT.out _ (Below.refl _ _)) hT).mono ?_;rintro e w1 ⟨m,b1,rfl,hb1,hm1,hB1⟩;obtain rfl:b1=false:=(by rw[<-Bool.not_eq_true,hb1];exact HNA.out);clear hb1 hm1)
   go_ret;exact BP.no HF.out hB1
 ·have HF:Hid (¬VO T N):=λh=>hl h.1;go_enter func56,ntmps56;go_wp2
  all_goals first|(exfalso;omega)|skip
  all_goals
   go_ret;exact BP.no HF.out (Below.refl _ _)
end Go.Proofs.YtjoinhljdbljaaaGreat.Old
