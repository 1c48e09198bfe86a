/- The columns of a Join, and what follows. -/
import Derived.Test.YtjoinhljdbljaaaGreatOValX
import Derived.Test.YtjoinhljdbljaaaGreatOValHToOValU
set_option maxHeartbeats 8000000
set_option maxRecDepth 20000
namespace Go.Proofs.YtjoinhljdbljaaaGreat.Old
open Go.RowKit Go.Proofs.Tryz
variable {F:List Nat} {cs:List (List Int)} {g:Nat} {w w':World}
def JA (cols others left right:List Int)(i:Nat):Prop:=∀(h:i<cols.length) (h2:i<others.length),IC cols[i] left/\IC others[i] right/\cam left cols[i]=cam right others[i]
theorem joined_any (w:World)(n:VN)(p:NP)(lv rv:Value)(left right:List Int)(hn:Nb w [] p n)(h1:IntsIn w [] lv left)(h2:IntsIn w [] rv right)(hl:left.length<=100)(hr:right.length<=100)
  (F:List Nat) (hF:∀k∈F,k<w.heap.size):Calls prog 126 #[nV n p,lv,rv] w (PI F (JO n.cols n.others left right) (left++right) w):=by
 obtain⟨ao,cap,rfl,hc,hm,g1⟩:=h1.open;obtain⟨ao2,cap2,rfl,hc2,hm2,g2⟩:=h2.open;clear g1 g2;obtain⟨op,lf,rt,tb,ks,ct,cols,ots,sums⟩:=n;obtain⟨kv,cv,ov,sv⟩:=p;obtain⟨hn1,hn2,hn3,hn4⟩:=hn;simp only at *;obtain⟨ko,kP,rfl,_,_,g1⟩:=hn1.open;obtain⟨co,ccap,rfl,_,_,g2⟩:=hn2.open;obtain⟨oo,oC,rfl,_,_,g3⟩:=hn3.open;obtain⟨so,scap,rfl,_,_,g4⟩:=hn4.open;clear g1 g2 g3 g4;unfold nV;simp only;have HI:Hid (∀c ao n cap w,Calls prog 159 #[.int .i64 c,.slice ao n cap] w λe w'=>e=.returned (.bool (iC c n))/\w'=w):=iO;have HCC:Hid (∀w b lv rv (left right:List Int),w.cell? ⟨b,0,none⟩=some lv->w.cell? ⟨b,1,none⟩=some rv->IntsIn w [] lv left->IntsIn w [] rv right->1<=left.length->left.length<=100->1<=right.length->right.length<=100->Calls prog 160 #[.slice (some ⟨b,0,none⟩) 2 2] w (LP (left++right) w)):=Concat_any;have HL:Hid (IntsIn w [] (.slice ao left.length cap) left):=h1;have HR:Hid (IntsIn w [] (.slice ao2 right.length cap2) right):=h2;have HC:Hid (IntsIn w [] (.slice co cols.length ccap) cols):=hn2;have HO:Hid (IntsIn w [] (.slice oo ots.length oC) ots):=hn3;have HFF:Hid (∀k∈F,k<w.heap.size):=hF;clear h1 h2 hn1 hn2 hn3 hn4 hF;go_enter func126,ntmps126;by_cases h44:(1<=cols.length/\cols.length<=4)/\ots.length=cols.length
 ·have d1:decide ((cols.length:Int)<1)=false:=decide_eq_false (by omega);have d2:decide ((4:Int)<cols.length)=false:=decide_eq_false (by omega);have hoc:=h44.2;have HOC:Hid (ots.length=cols.length):=hoc;have HO2:Hid (IntsIn w [] (.slice oo cols.length oC) ots):=by show IntsIn _ _ _ _;rw[<-hoc];exact HO.out
  have HCL:Hid (1<=cols.length/\cols.length<=4):=h44.1;have hcl4:cols.length<=4:=HCL.out.2;rw[hoc];clear hoc h44 HO;go_wp2
  go_loopw [33] (λj wr=>∃k:Nat,k<=cols.length/\j=.int .i64 k/\(∀i,i<k->JA cols ots left right i)/\Below w.heap.size w wr/\w.heap.size<wr.heap.size/\wr.cell? ⟨w.heap.size,7,none⟩=some (.slice oo cols.length oC)) (λj _=>cols.length-(intOf j).toNat)
  case atStart=>exact⟨0,by omega,rfl,λi h=>by omega,(Below.refl _ _).alloc (e_ _) _,by simp,by simp⟩
  case round=>
   obtain⟨k,hk,rfl,hall,hB,hsz,x7⟩:=hrel;by_cases hlt:k<cols.length
   ·obtain⟨b,off,hao,hcell⟩:=(HC.out.step (su hB)).cells (by omega);subst hao;have c0:=hcell k hlt;obtain⟨b2,off2,hao2,hcell2⟩:=(HO2.out.step (su hB)).cells (by have:=HOC.out;omega);subst hao2;have c1:=hcell2 k (by have:=HOC.out;omega);have HN:Hid (JA cols ots left right k->∀i,i<k+1->JA cols ots left right i):=by
     intro hq i hi;by_cases e:i=k
     ·subst e;exact hq
     ·exact hall i (by omega)
    have HNo:Hid (¬JA cols ots left right k->¬JO cols ots left right):=λhq h=>hq λa b=>h.2.2.2 k a b;have HJ:Hid (JA cols ots left right k↔(IC cols[k] left/\IC (ots[k]'(by have:=HOC.out;omega)) right/\cam left cols[k]=cam right (ots[k]'(by have:=HOC.out;omega)))):=⟨λh=>h hlt (by have:=HOC.out;omega),λh _ _=>h⟩;generalize JA cols ots left right k=J at *;clear hall hcell hcell2;generalize cols[k]=q1 at *;generalize ots[k]'_=q2 at *;by_cases hq1:IC q1 left
    ·have i1:=iI hq1;by_cases hq2:IC q2 right
     ·have i2:=iI hq2;obtain⟨n1,rfl,hn1⟩:=hq1.nat;obtain⟨n2,rfl,hn2⟩:=hq2.nat;obtain⟨bl,offl,haol,hcelll⟩:=(HL.out.step (su hB)).cells (by omega);subst haol;obtain⟨br,offr,haor,hcellr⟩:=(HR.out.step (su hB)).cells (by omega);subst haor;have e1:=hcelll n1 hn1;have e2:=hcellr n2 hn2;have HJ2:Hid (J↔left[n1]=right[n2]):=by
       show _↔_;rw[HJ.out,cay hn1,cay hn2];exact⟨λh=>h.2.2,λh=>⟨hq1,hq2,h⟩⟩
      generalize left[n1]=x1 at *;generalize right[n2]=x2 at *;clear hcelll hcellr hq1 hq2 HJ;by_cases hx:x1=x2
      ·subst hx;have hd:(x1 != x1)=false:=by simp
       have HN2:=HN.out (HJ2.out.2 rfl);have HN3:Hid (∀i,i<k+1->JA cols ots left right i):=HN2;clear HN2
       go_wp2_with fail
       go_big_quiet ((go_at_call 159;exact Calls.quiet_of_same (HI.out _ _ _ _ _)))
       go_wp2
       go_roundw
       case rel=>exact⟨k+1,by omega,by go_num,HN3.out,⟨hB.os,hB.tape,hB.output,hB.size,hB.block⟩,hsz,x7⟩
       case measure=>simp[intOf];omega
      ·have hd:(x1 != x2)=true:=by simp[hx]
       have HF0:=HNo.out (λh=>hx (HJ2.out.1 h));have HF:Hid (¬JO cols ots left right):=HF0;clear HF0 hx
       go_wp2_with fail
       go_big_quiet ((go_at_call 159;exact Calls.quiet_of_same (HI.out _ _ _ _ _)))
       go_wp2
       go_ret2
       exact PI.no HF.out ⟨hB.os,hB.tape,hB.output,hB.size,hB.block⟩
     ·have i2:=iU hq2;have HF0:=HNo.out (λh=>hq2 (HJ.out.1 h).2.1);have HF:Hid (¬JO cols ots left right):=HF0;clear HF0 hq1 hq2 HJ
      go_wp2_with fail
      go_big_quiet ((go_at_call 159;exact Calls.quiet_of_same (HI.out _ _ _ _ _)))
      go_wp2
      go_ret2
      exact PI.no HF.out ⟨hB.os,hB.tape,hB.output,hB.size,hB.block⟩
    ·have i1:=iU hq1;have HF0:=HNo.out (λh=>hq1 (HJ.out.1 h).1);have HF:Hid (¬JO cols ots left right):=HF0;clear HF0 hq1 HJ
     go_wp2_with fail
     go_big_quiet ((go_at_call 159;exact Calls.quiet_of_same (HI.out _ _ _ _ _)))
     go_wp2
     go_ret2
     exact PI.no HF.out ⟨hB.os,hB.tape,hB.output,hB.size,hB.block⟩
   ·have hJ:JO cols ots left right:=⟨HCL.out.1,HCL.out.2,HOC.out,λi a b=>hall i (by omega) a b⟩;have hJ0:=hJ.2.2.2 0 (by have:=HCL.out;omega) (by have:=HCL.out;have:=HOC.out;omega);have hl1:1<=left.length:=by have:=hJ0.1.1;have:=hJ0.1.2;omega
    have hr1:1<=right.length:=by have:=hJ0.2.1.1;have:=hJ0.2.1.2;omega
    have HJ:Hid (JO cols ots left right):=hJ;have HL2:Hid (IntsIn wr [] (.slice ao left.length cap) left):=HL.out.step (su hB);have HR2:Hid (IntsIn wr [] (.slice ao2 right.length cap2) right):=HR.out.step (su hB);clear hall hJ hJ0
    go_wp2_with (go_at_call 160;refine(HCC.out _ wr.heap.size _ _ left right (by simp) (by simp) (HL2.out.step (Step.of ((Touch.refl _ _).alloc _))) (HR2.out.step (Step.of ((Touch.refl _ _).alloc _))) hl1 hl hr1 hr).mono ?_;rintro e w1 ⟨ao5,cap5,rfl,hin,hB1⟩)
    have hB2:=up1 hB1;have HIN:Hid (IntsIn w1 F (.slice ao5 (left.length+right.length) cap5) (left++right)):=by
     show IntsIn _ _ _ _;rw[<-c_];exact hin F (λk hk=>by have:=HFF.out k hk;have:=hB.size;simp;omega)
    go_ret2
    exact PI.yes HJ.out HIN.out (bG hB hB2)
 ·have HNO:Hid (¬JO cols ots left right):=λh=>h44 ⟨⟨h.1,h.2.1⟩,h.2.2.1⟩;go_wp2
  all_goals first|(exfalso;simp_all;omega)|skip
  all_goals
   go_ret2
   exact PI.no HNO.out ((Below.refl _ _).alloc (e_ _) _)
def KL (w:World)(F:List Nat)(g:Nat)(cs:List (List Int)):Prop:=g<w.heap.size/\∀j (h:j<cs.length),∃u,w.cell? ⟨g,j,none⟩=some u/\IntsIn w F u cs[j]
theorem KL.b (h:KL w F g cs)(hb:Below w.heap.size w w'):KL w' F g cs:=
 ⟨s_ h.1 hb.size,λj hj=>by
  obtain⟨u,h1,h2⟩:=h.2 j hj;exact⟨u,(hb.cell (p:=⟨g,j,none⟩) h.1).trans h1,h2.step (su hb)⟩⟩
def NS (n:VN):Prop:=n.keys.length<=1048576/\n.cols.length<=1048576/\n.others.length<=1048576/\n.sums.length<=1048576
theorem KL.left (h:KL w F g cs){x:Int}(h0:0<=x)(h1:x<(cs.length:Int)):∃c:Nat,x=(c:Int)/\c<cs.length/\cs.getD x.toNat []=cs.getD c []/\∃ao cap,w.cell? ⟨g,c,none⟩=some (.slice ao (cs.getD c []).length cap)/\IntsIn w F (.slice ao (cs.getD c []).length cap) (cs.getD c []):=by
 obtain⟨u,hu,hi⟩:=h.2 x.toNat (by omega);obtain⟨ao,cap,rfl,_⟩:=hi.open;have e:cs.getD x.toNat []=cs[x.toNat]'(by omega):=by simp[show x.toNat<cs.length from by omega]
 exact⟨x.toNat,by omega,by omega,rfl,ao,cap,by rw[e];exact hu,by rw[e];exact hi⟩
theorem columns_any (w:World)(T:List VT)(F:List Nat)(hF:∀k∈F,k<w.heap.size)(n:VN)(p:NP)(cs:List (List Int))(g nn:Nat)(hn:Nb w [] p n)(hs:NS n)(hk:KL w F g cs)(hcs:cs.length<=nn)(_hnn:nn<=12)
  (hcl:∀j,(cs.getD j []).length<=12) (hop:2<=n.op/\n.op<=7) (ha:Ahead n cs.length) :
  Calls prog 103 #[nV n p,.slice (some ⟨g,0,none⟩) nn nn] w (PI F (NK T cs n) (nD T cs n) w):=by
 have hmem:n.left∈ins n:=by unfold ins;rw[if_neg (by omega)];split<;>simp
 obtain⟨hl0,hl1⟩:=ha _ hmem;obtain⟨c,hce,hcl2,hcd,ao,cap,x0,hleft⟩:=hk.left hl0 hl1;have hL12:=hcl c;have hgw:=hk.1;have HFF:Hid (∀k∈F,k<w.heap.size):=hF;have HLF:Hid (IntsIn w F (.slice ao (cs.getD c []).length cap) (cs.getD c [])):=hleft;have HGK:Hid (∀w v (l:List K) ao2 n cap2,KI w [] v l->l.length<=1048576->Calls prog 125 #[v,.slice ao2 n cap2] w (BP (Cc (cae l) n 1) w)):=goodKeys_any;have hnc:n.left.toNat=c:=by omega
 obtain⟨op,lf,rt,tb,ks,ct,cols,ots,sums⟩:=n;obtain⟨kv,cv,ov,sv⟩:=p;have HN:Hid (Nb w [] (kv,cv,ov,sv) ⟨op,lf,rt,tb,ks,ct,cols,ots,sums⟩):=hn;obtain⟨hn1,hn2,hn3,hn4⟩:=hn;obtain⟨hs1,hs2,hs3,hs4⟩:=hs;simp only at *;obtain⟨ko,kP,rfl,_,_,g1⟩:=hn1.open;obtain⟨co,ccap,rfl,_,_,g2⟩:=hn2.open;obtain⟨oo,oC,rfl,_,_,g3⟩:=hn3.open;obtain⟨so,scap,rfl,_,_,g4⟩:=hn4.open;have HK:Hid (KI w [] (.slice ko ks.length kP) ks):=hn1;clear g1 g2 g3 g4 hleft hn1 hn2 hn3 hn4 hF;subst hce;unfold nV;simp only;have HGR:Hid (∀w v (left:List Int),Nb w [] (.slice ko ks.length kP,.slice co cols.length ccap,.slice oo ots.length oC,.slice so sums.length scap) ⟨op,(c:Int),rt,tb,ks,ct,cols,ots,sums⟩->IntsIn w [] v left->(∀k∈F,k<w.heap.size)->Calls prog 127 #[nV ⟨op,(c:Int),rt,tb,ks,ct,cols,ots,sums⟩ (.slice ko ks.length kP,.slice co cols.length ccap,.slice oo ots.length oC,.slice so sums.length scap),v] w (PI F (GR cols sums left) (groupL cols sums left) w)):=λw v left h1 h2 h3=>grouped_any w _ _ v left h1 h2 hs2 hs4 F h3;have HJO:Hid (∀w lv rv (left right:List Int),Nb w [] (.slice ko ks.length kP,.slice co cols.length ccap,.slice oo ots.length oC,.slice so sums.length scap) ⟨op,(c:Int),rt,tb,ks,ct,cols,ots,sums⟩->IntsIn w [] lv left->IntsIn w [] rv right->left.length<=100->right.length<=100->(∀k∈F,k<w.heap.size)->Calls prog 126 #[nV ⟨op,(c:Int),rt,tb,ks,ct,cols,ots,sums⟩ (.slice ko ks.length kP,.slice co cols.length ccap,.slice oo ots.length oC,.slice so sums.length scap),lv,rv] w (PI F (JO cols ots left right) (left++right) w)):=λw lv rv left right h1 h2 h3 h4 h5 h6=>joined_any w _ _ lv rv left right h1 h2 h3 h4 h5 F h6;unfold nV at HGR HJO;simp only at HGR HJO;have hop7:op=2\/op=3\/op=6\/op=7\/op=4\/op=5:=by omega
 obtain rfl|rfl|rfl|rfl|hop45:=hop7
 ·have e1:NK T cs ⟨2,(c:Int),rt,tb,ks,ct,cols,ots,sums⟩=Cc (cae ks) (cs.getD c []).length 1:=by simp[NK,cac]
  have e2:nD T cs ⟨2,(c:Int),rt,tb,ks,ct,cols,ots,sums⟩=cs.getD c []:=by simp[nD,cac]
  rw[e1,e2];clear e1 e2 HGR HJO hk hcl ha hmem;generalize cs.getD c []=L at *;go_enter func103,ntmps103
  go_wp2_with (go_at_call 125;refine(HGK.out _ _ ks _ _ _ (HK.out.step (Step.of ((Touch.refl _ _).alloc _))) hs1).mono ?_;rintro e w1 ⟨b1,rfl,hb1,hB1⟩)
  have hB2:=up1 hB1
  go_ret2
  exact⟨ao,L.length,cap,b1,rfl,hb1,λ_=>HLF.out.step (su hB2),hB2⟩
 ·have e1:NK T cs ⟨3,(c:Int),rt,tb,ks,ct,cols,ots,sums⟩=(Cc (cae ks) (cs.getD c []).length 1/\0<=ct/\ct<=1000):=by simp[NK,cac]
  have e2:nD T cs ⟨3,(c:Int),rt,tb,ks,ct,cols,ots,sums⟩=cs.getD c []:=by simp[nD,cac]
  rw[e1,e2];clear e1 e2 HGR HJO hk hcl ha hmem;generalize cs.getD c []=L at *;by_cases hko:Cc (cae ks) L.length 1
  ·have HKO:Hid (Cc (cae ks) L.length 1):=hko;by_cases h0:0<=ct
   ·have d0:decide (0<=ct)=true:=decide_eq_true h0;by_cases h1:ct<=1000
    ·have d1:decide (ct<=1000)=true:=decide_eq_true h1;have HT:Hid (Cc (cae ks) L.length 1/\0<=ct/\ct<=1000):=⟨hko,h0,h1⟩;clear hko;go_enter func103,ntmps103
     go_wp2_with fail
     first
      | (go_region_with (go_at_call 125;refine(HGK.out _ _ ks _ _ _ (HK.out.step (Step.of (((Touch.refl _ _).alloc _).drew))) hs1).mono ?_;rintro e w1 ⟨b1,rfl,hb1,hB1⟩;obtain rfl:b1=true:=hb1.2 HKO.out;have y5:w1.cell? ⟨w.heap.size,5,none⟩=some (.int .i64 ct):=(hB1.cell (p:=⟨w.heap.size,5,none⟩) (by simp)).trans (by simp);clear hb1))
      | fail
     all_goals
      have hB2:=up1d hB1;go_wp2
      go_ret2
      exact PI.yes HT.out (HLF.out.step (su hB2)) hB2
    ·have d1:decide (ct<=1000)=false:=decide_eq_false h1;have HT:Hid (¬(Cc (cae ks) L.length 1/\0<=ct/\ct<=1000)):=λh=>h1 h.2.2;clear hko;go_enter func103,ntmps103
     go_wp2_with fail
     first
      | (go_region_with (go_at_call 125;refine(HGK.out _ _ ks _ _ _ (HK.out.step (Step.of (((Touch.refl _ _).alloc _).drew))) hs1).mono ?_;rintro e w1 ⟨b1,rfl,hb1,hB1⟩;obtain rfl:b1=true:=hb1.2 HKO.out;have y5:w1.cell? ⟨w.heap.size,5,none⟩=some (.int .i64 ct):=(hB1.cell (p:=⟨w.heap.size,5,none⟩) (by simp)).trans (by simp);clear hb1))
      | fail
     all_goals
      have hB2:=up1d hB1;go_wp2
      go_ret2
      exact PI.no HT.out hB2
   ·have d0:decide (0<=ct)=false:=decide_eq_false h0;have HT:Hid (¬(Cc (cae ks) L.length 1/\0<=ct/\ct<=1000)):=λh=>h0 h.2.1;clear hko;go_enter func103,ntmps103
    go_wp2_with fail
    first
     | (go_region_with (go_at_call 125;refine(HGK.out _ _ ks _ _ _ (HK.out.step (Step.of (((Touch.refl _ _).alloc _).drew))) hs1).mono ?_;rintro e w1 ⟨b1,rfl,hb1,hB1⟩;obtain rfl:b1=true:=hb1.2 HKO.out;have y5:w1.cell? ⟨w.heap.size,5,none⟩=some (.int .i64 ct):=(hB1.cell (p:=⟨w.heap.size,5,none⟩) (by simp)).trans (by simp);clear hb1))
     | fail
    all_goals
     have hB2:=up1d hB1;go_wp2
     go_ret2
     exact PI.no HT.out hB2
  ·have HKO:Hid (¬Cc (cae ks) L.length 1):=hko;have HT:Hid (¬(Cc (cae ks) L.length 1/\0<=ct/\ct<=1000)):=λh=>hko h.1;clear hko;go_enter func103,ntmps103
   go_wp2_with fail
   first
    | (go_region_with (go_at_call 125;refine(HGK.out _ _ ks _ _ _ (HK.out.step (Step.of (((Touch.refl _ _).alloc _).drew))) hs1).mono ?_;rintro e w1 ⟨b1,rfl,hb1,hB1⟩;obtain rfl:b1=false:=(by rw[<-Bool.not_eq_true,hb1];exact HKO.out);have y5:w1.cell? ⟨w.heap.size,5,none⟩=some (.int .i64 ct):=(hB1.cell (p:=⟨w.heap.size,5,none⟩) (by simp)).trans (by simp);clear hb1))
    | fail
   all_goals
    have hB2:=up1d hB1;go_wp2
    go_ret2
    exact PI.no HT.out hB2
 ·have e1:NK T cs ⟨6,(c:Int),rt,tb,ks,ct,cols,ots,sums⟩=True:=by simp[NK]
  have e2:nD T cs ⟨6,(c:Int),rt,tb,ks,ct,cols,ots,sums⟩=cs.getD c []:=by simp[nD,cac]
  rw[e1,e2];clear e1 e2 HGR HJO hk hcl ha hmem;generalize cs.getD c []=L at *;go_enter func103,ntmps103;go_wp2
  go_ret2
  exact PI.yes trivial (HLF.out.step (su ((Below.refl _ _).alloc (e_ _) _))) ((Below.refl _ _).alloc (e_ _) _)
 ·have e1:NK T cs ⟨7,(c:Int),rt,tb,ks,ct,cols,ots,sums⟩=GR cols sums (cs.getD c []):=by simp[NK,cac]
  have e2:nD T cs ⟨7,(c:Int),rt,tb,ks,ct,cols,ots,sums⟩=groupL cols sums (cs.getD c []):=by simp[nD,cac]
  rw[e1,e2];clear e1 e2 HJO hk hcl ha hmem;generalize cs.getD c []=L at *;go_enter func103,ntmps103
  go_wp2_with (go_at_call 127;refine(HGR.out _ _ L (HN.out.step (Step.of ((Touch.refl _ _).alloc _))) ((HLF.out.step (Step.of ((Touch.refl _ _).alloc _))).less (by simp)) (λk hk=>by have:=HFF.out k hk;simp;omega)).mono ?_;rintro e w1 ⟨ao5,m5,cap5,b1,rfl,hb1,hin1,hB1⟩)
  have hB2:=up1 hB1
  go_ret2
  exact⟨ao5,m5,cap5,b1,rfl,hb1,hin1,hB2⟩
 ·have hmr:rt∈ins ⟨op,(c:Int),rt,tb,ks,ct,cols,ots,sums⟩:=by unfold ins;simp only;rw[if_neg (by omega),if_pos hop45];simp
  obtain⟨hr0,hr1⟩:=ha _ hmr;obtain⟨d,hde,hdl2,hdd,ro,rP,x1,hright⟩:=hk.left hr0 hr1;have hR12:=hcl d;have HRF:Hid (IntsIn w F (.slice ro (cs.getD d []).length rP) (cs.getD d [])):=hright;subst hde;have e1:NK T cs ⟨op,(c:Int),(d:Int),tb,ks,ct,cols,ots,sums⟩=JO cols ots (cs.getD c []) (cs.getD d []):=by
   unfold NK;simp only[cac,cao,Int.toNat_natCast];rw[if_neg (by omega),if_neg (by omega),if_neg (by omega),if_pos hop45]
  have e2:nD T cs ⟨op,(c:Int),(d:Int),tb,ks,ct,cols,ots,sums⟩=cs.getD c []++cs.getD d []:=by
   unfold nD;simp only[cac,cao,Int.toNat_natCast];rw[if_neg (by omega),if_pos hop45]
  rw[e1,e2];clear e1 e2 HGR hk hcl ha hmem hmr hright hcd hdd;generalize cs.getD c []=L at *;generalize cs.getD d []=R at *;have hLh:L.length<=100:=by omega
  have hRh:R.length<=100:=by omega
  obtain rfl|rfl:=hop45
  all_goals
   go_enter func103,ntmps103
   go_wp2_with fail
   first
    | (go_region_with (go_at_call 126;refine(HJO.out _ _ _ L R (HN.out.step (Step.of (((Touch.refl _ _).alloc _).drew))) ((HLF.out.step (Step.of (((Touch.refl _ _).alloc _).drew))).less (by simp)) ((HRF.out.step (Step.of (((Touch.refl _ _).alloc _).drew))).less (by simp)) hLh hRh (λk hk=>by have:=HFF.out k hk;simp;omega)).mono ?_;rintro e w1 ⟨ao5,m5,cap5,b1,rfl,hb1,hin1,hB1⟩))
    | fail
   all_goals
    have hB2:=up1d hB1;go_wp2
    go_ret2
    exact⟨ao5,m5,cap5,b1,rfl,hb1,hin1,hB2⟩
end Go.Proofs.YtjoinhljdbljaaaGreat.Old
