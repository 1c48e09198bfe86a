/- The columns of all nodes, by the program, and what follows. -/
import Derived.Test.YtjoinhljdbljaaaGreatOValYToOValZ
import Derived.Test.YtjoinhljdbljaaaGreatOValW
import Derived.Test.YtjoinhljdbljaaaGreatOValHToOValU
set_option maxHeartbeats 8000000
set_option maxRecDepth 20000
namespace Go.Proofs.YtjoinhljdbljaaaGreat.Old
open Go.RowKit
theorem info70:(Tryz.prog.info? 37).map (fun i=>(i.zero,i.size,i.bytes))=some (some (.slice none 0 0),1,24):=by kernel_rfl
theorem colsL_snoc (T:List VT) (N:List VN) (k:Nat) (h:k < N.length):colsL T (N.take (k+1))=colsL T (N.take k)++[nodeL T (colsL T (N.take k)) N[k]]:=grow_snoc _ N k h
theorem colsL_len (T:List VT) (N:List VN) (k:Nat) (h:k <= N.length):(colsL T (N.take k)).length=k:=by unfold colsL; rw [grow_length]; simp; omega
theorem getD_snoc12 {cs:List (List Int)} {l:List Int} (h:∀ j,(cs.getD j []).length <= 12) (hl:l.length <= 12):∀ j,((cs++[l]).getD j []).length <= 12:=by
 intro j
 by_cases h1:j < cs.length
 ·have:=h j
  simp only [List.getD_eq_getElem?_getD] at *
  rw [List.getElem?_append_left h1]; exact this
 ·by_cases h2:j=cs.length
  ·subst h2
   simp [hl]
  ·simp only [List.getD_eq_getElem?_getD]
   rw [List.getElem?_eq_none (by simp; omega)]
   simp
theorem PA.setNil {w:World} {g:Nat} {e:TypeId} {n:Nat} (h:PA w g e n []) (k:Nat) (v:Value):PA (w.setCell ⟨g,k,none⟩ v) g e n []:=by
 obtain ⟨cur,hh,hs,r⟩:=h
 exact ⟨_,heap_setCell_same _ _ _ _ _ _ hh,by simpa using hs,fun j u hj=>by simp at hj⟩
theorem KLists.put {w:World} {g:Nat} {cs:List (List Int)} (h:KLists w [g] g cs) {v:Value} {l:List Int} (hv:IntsIn w [g] v l) {k:Nat} (hk:k=cs.length) (hp:∃ u,w.cell? ⟨g,k,none⟩=some u):KLists (w.setCell ⟨g,k,none⟩ v) [g] g (cs++[l]):=by
 have hst:Step [g] [g] w (w.setCell ⟨g,k,none⟩ v):=⟨(Touch.refl _ _).setCell (by simp) _,fun _ h=>Or.inl h⟩
 refine ⟨by simpa using h.1,fun j hj=>?_⟩
 simp at hj
 by_cases e:j=k
 ·subst e
  refine ⟨v,?_,?_⟩
  ·obtain ⟨u,hu⟩:=hp
   exact World.cell?_setCell_same (w:=w) (a:=⟨g,j,none⟩) (v:=v) hu
  ·have:(cs++[l])[j]'(by simp; omega)=l:=by simp [hk]
   rw [this]; exact hv.step hst
 ·obtain ⟨u,hu,hi⟩:=h.2 j (by omega)
  refine ⟨u,?_,?_⟩
  ·rw [World.cell?_setCell_other (w:=w) (a:=⟨g,k,none⟩) (b:=⟨g,j,none⟩) (v:=v) (by intro h; simp at h; all_goals exact e h.symm)]
   exact hu
  ·have:(cs++[l])[j]'(by simp; omega)=cs[j]'(by omega):=by rw [List.getElem_append_left]
   rw [this]; exact hi.step hst
theorem goodColumns_any (w:World) (tv pv:Value) (T:List VT) (N:List VN) (bm:Nat) (ht:TabsIn w [] tv T) (hM:MapIn w bm (nameEnts T)) (hN:NamesOK T) (hp:NodesIn w [] pv N) (hno:NodesOK N) (hl:N.length <= 12) (hT:T.length <= 1048576) (hs:∀ i (h:i < N.length),NodeSmall N[i]) :
  Calls Tryz.prog 77 #[tv,.map (some bm),pv] w (BoolPost (ColumnsOK T N) w):=by
 obtain ⟨i0,hi0,hz0,hz1,hz2⟩:=info_parts info70
 have HI0:Hid (Tryz.prog.info? 37=some i0 /\ i0.zero=some (.slice none 0 0) /\ i0.size=1 /\ i0.bytes=24):=⟨hi0,hz0,hz1,hz2⟩
 clear hi0 hz0 hz1 hz2
 obtain ⟨tao,tcap,rfl,htc,htm,g1⟩:=ht.open
 obtain ⟨ao,cap,rfl,hc,hm,g2⟩:=hp.open
 clear g1 g2
 have HT:Hid (TabsIn w [] (.slice tao T.length tcap) T):=ht
 have HV:Hid (NodesIn w [] (.slice ao N.length cap) N):=hp
 have HM:Hid (MapIn w bm (nameEnts T)):=hM
 have HNA:Hid (NamesOK T):=hN
 have HNO:Hid (NodesOK N):=hno
 have HS:Hid (∀ i (h:i < N.length),NodeSmall N[i]):=hs
 clear ht hp hM hN hno hs
 have HSC:Hid (∀ w F v T bm nm,TabsIn w F v T -> MapIn w bm (nameEnts T) -> NamesOK T -> T.length <= 1048576 -> Calls Tryz.prog 102 #[v,.map (some bm),.string nm] w (PairPost F (HasTab T nm) (tabK T nm) w)):=scanned_any
 go_enter Tryz.func77,Tryz.ntmps77
 go_wp2_with (at_make; refine wpList_make_full _ rfl (.tmp 12) (.tmp 12) 118 rfl w.heap.size 37 i0 (.slice none 0 0) 1 Tryz.underlying118 HI0.out.1 HI0.out.2.1 HI0.out.2.2.1 .i64 .i64 _ _ N.length rfl rfl (by omega) (by omega) (by rw [HI0.out.2.2.2]; omega) (by unfold maxLen; omega) (Nat.le_refl _) ?_; intro w1 ho1 hg1; have hp1:=(PA.made ho1 rfl).nil; have hB1:=(Below.refl w.heap.size w).grown hg1 (Nat.le_refl _) (fun k hk=>by simp at hk); clear ho1 hg1)
 rw [Nat.mul_one] at hp1
 have HP1:Hid (PA w1 w.heap.size 37 N.length []):=hp1
 clear hp1
 go_loopw [16] (fun j wr=>∃ k:Nat,k <= N.length /\ j=.int .i64 k /\ (∀ i,i < k -> StepOK T N i) /\ (∀ j,((colsL T (N.take k)).getD j []).length <= 12) /\ KLists wr [w.heap.size] w.heap.size (colsL T (N.take k)) /\ PA wr w.heap.size 37 N.length [] /\ Below w.heap.size w wr) (fun j _=>N.length - (intOf j).toNat)
 case atStart=>exact ⟨0,by omega,rfl,fun i h=>by omega,fun j=>by simp [colsL,grow],⟨HP1.out.lt,fun j hj=>by simp [colsL,grow] at hj⟩,HP1.out,hB1⟩
 case round=>
  obtain ⟨k,hk,rfl,hall,h12,hKL,hP,hB⟩:=hrel
  clear HP1 hB1 w1
  have hsz:=hB.size
  by_cases hlt:k < N.length
  ·obtain ⟨b,off,hao,hcell⟩:=(HV.out.step (stepB hB)).cells9 (by omega)
   subst hao
   obtain ⟨p,hp,c0,c1,c2,c3,c4,c5,c6,c7,c8⟩:=hcell k hlt
   have hst:Step [] [w.heap.size] w wr:=⟨Below.t hB,fun k hk=>Or.inr (by simp at hk; omega)⟩
   have HTW:Hid (∀ W,Below wr.heap.size wr W -> TabsIn W [w.heap.size] (.slice tao T.length tcap) T):=fun W hW=>(HT.out.step hst).step (stepB hW)
   have HMW:Hid (∀ W,Below wr.heap.size wr W -> MapIn W bm (nameEnts T)):=fun W hW=>(HM.out.b hB).b hW
   have HKW:Hid (∀ W,Below wr.heap.size wr W -> KLists W [w.heap.size] w.heap.size (colsL T (N.take k))):=fun W hW=>hKL.b hW
   have HPW:Hid (∀ W,Below wr.heap.size wr W -> PA W w.heap.size 37 N.length []):=fun W hW=>hP.b hW
   have HNI:Hid (∀ W,Below wr.heap.size wr W -> NodeIn W [] p N[k]):=fun W hW=>hp.step (stepB hW)
   have HSN:Hid (colsL T (N.take (k+1))=colsL T (N.take k)++[nodeL T (colsL T (N.take k)) N[k]]):=colsL_snoc T N k hlt
   have HLN:Hid ((colsL T (N.take k)).length=k):=colsL_len T N k hk
   have H12:Hid (∀ j,((colsL T (N.take k)).getD j []).length <= 12):=h12
   have HAL:Hid (∀ i,i < k -> StepOK T N i):=hall
   have HSK:Hid (StepOK T N k -> ∀ i,i < k+1 -> StepOK T N i):=by
    intro hq i hi
    by_cases e:i=k
    ·subst e; exact hq
    ·exact HAL.out i (by omega)
   have HST:Hid (StepOK T N k↔NodeOK T (colsL T (N.take k)) N[k] /\ 1 <= (nodeL T (colsL T (N.take k)) N[k]).length /\ (nodeL T (colsL T (N.take k)) N[k]).length <= 12):=⟨fun h=>h hlt,fun h _=>h⟩
   have HF:Hid (¬ StepOK T N k -> ¬ ColumnsOK T N):=fun hq h=>hq (h k hlt)
   have HSm:Hid (NodeSmall N[k]):=HS.out k hlt
   have HBA:Hid (BareOK N[k] /\ Ahead N[k] k):=HNO.out k hlt
   have hPl:=hP.lt
   clear hcell hall h12 hKL hP hst
   generalize colsL T (N.take k)=cs at *
   generalize StepOK T N k=SK at *
   generalize N[k]=n at *
   obtain ⟨op,lf,rt,tb,ks,ct,cols,ots,sums⟩:=n
   obtain ⟨kv,cv,ov,sv⟩:=p
   obtain ⟨hp1,hp2,hp3,hp4⟩:=hp
   simp only at *
   obtain ⟨ko,kcap,rfl,_,_,g1⟩:=hp1.open
   obtain ⟨co,ccap,rfl,_,_,g2⟩:=hp2.open
   obtain ⟨oo,ocap,rfl,_,_,g3⟩:=hp3.open
   obtain ⟨so,scap,rfl,_,_,g4⟩:=hp4.open
   clear g1 g2 g3 g4 hp1 hp2 hp3 hp4
   by_cases hop:op=1
   ·subst hop
    have e1:NodeOK T cs ⟨1,lf,rt,tb,ks,ct,cols,ots,sums⟩=HasTab T tb:=by simp [NodeOK]
    have e2:nodeL T cs ⟨1,lf,rt,tb,ks,ct,cols,ots,sums⟩=tabK T tb:=by simp [nodeL]
    rw [e1,e2] at HST
    rw [e2] at HSN
    clear e1 e2
    go_wp2_with fail
    refine calls_at (fun W=>Below wr.heap.size wr W) ((Below.refl _ _).alloc (Nat.le_refl _) _) ?_
    intro W hBW
    refine (HSC.out W [w.heap.size] _ T bm tb (HTW.out W hBW) (HMW.out W hBW) HNA.out hT).mono ?_
    rintro e w1 ⟨ao5,m5,cap5,b1,rfl,hb1,hin1,hB1⟩
    have hB2:=bthen hBW hB1
    have hB3:=bthen hB hB2
    have hK2:=HKW.out w1 hB2
    have hP2:=HPW.out w1 hB2
    obtain ⟨⟨v6,hv6⟩,hf6⟩:=hP2.place k hlt
    have HB4:Hid (∀ u,Below w.heap.size w (w1.setCell ⟨w.heap.size,k,none⟩ u)):=fun u=>hB3.setCell (Nat.le_refl _) u
    clear hBW hB1 c0 c1 c2 c3 c4 c5 c6 c7 c8 HKW HPW HTW HMW HNI
    by_cases hq:HasTab T tb
    ·obtain rfl:b1=true:=hb1.2 hq
     have hin2:=hin1 hq
     obtain ⟨ao6,cap6,e6,_,_,g6⟩:=hin2.open
     obtain ⟨rfl,rfl,rfl⟩:=slice_inj e6
     have HK4:=hK2.put hin2 (k:=k) HLN.out.symm ⟨v6,hv6⟩
     rw [<- HSN.out] at HK4
     have HK5:Hid (KLists (w1.setCell ⟨w.heap.size,k,none⟩ (.slice ao5 (tabK T tb).length cap5)) [w.heap.size] w.heap.size (colsL T (N.take (k+1)))):=HK4
     have HP5:Hid (PA (w1.setCell ⟨w.heap.size,k,none⟩ (.slice ao5 (tabK T tb).length cap5)) w.heap.size 37 N.length []):=hP2.setNil _ _
     have HQ:Hid (HasTab T tb):=hq
     clear g6 hb1 hin1 hK2 hP2 hq hin2 HK4 e6
     by_cases h12:1 <= (tabK T tb).length /\ (tabK T tb).length <= 12
     ·have HS2:=HSK.out (HST.out.2 ⟨HQ.out,h12⟩)
      have HS3:Hid (∀ i,i < k+1 -> StepOK T N i):=HS2
      have H13:=getD_snoc12 H12.out h12.2
      rw [<- HSN.out] at H13
      have H14:Hid (∀ j,((colsL T (N.take (k+1))).getD j []).length <= 12):=H13
      clear HS2 H13
      have d1:decide (((tabK T tb).length:Int) < 1)=false:=decide_eq_false (by omega)
      have d2:decide ((12:Int) < ((tabK T tb).length:Int))=false:=decide_eq_false (by omega)
      generalize (tabK T tb).length=lm at *
      go_wp2
      go_roundw
      case rel=>exact ⟨k+1,by omega,by go_num,HS3.out,H14.out,HK5.out,HP5.out,HB4.out _⟩
      case measure=>simp [intOf]; omega
     ·have HF2:=HF.out (fun h=>h12 (HST.out.1 h).2)
      have HF3:Hid (¬ ColumnsOK T N):=HF2
      clear HF2
      generalize (tabK T tb).length=lm at *
      by_cases h1:lm < 1
      ·have d1:decide ((lm:Int) < 1)=true:=decide_eq_true (by omega)
       go_wp2
       go_ret
       exact BoolPost.no HF3.out (HB4.out _)
      ·have d1:decide ((lm:Int) < 1)=false:=decide_eq_false (by omega)
       have d2:decide ((12:Int) < (lm:Int))=true:=decide_eq_true (by omega)
       go_wp2
       go_ret
       exact BoolPost.no HF3.out (HB4.out _)
    ·obtain rfl:b1=false:=by rw [<- Bool.not_eq_true,hb1]; exact hq
     have HF2:=HF.out (fun h=>hq (HST.out.1 h).1)
     have HF3:Hid (¬ ColumnsOK T N):=HF2
     clear HF2 hb1 hin1 hK2 hP2 hq
     go_wp2
     go_ret
     exact BoolPost.no HF3.out (HB4.out _)
   ·have hd:(op == 1)=false:=by simp [hop]
    have HCO:Hid (∀ W,Below wr.heap.size wr W -> Calls Tryz.prog 103 #[nodeV ⟨op,lf,rt,tb,ks,ct,cols,ots,sums⟩ (.slice ko ks.length kcap,.slice co cols.length ccap,.slice oo ots.length ocap,.slice so sums.length scap),.slice (some ⟨w.heap.size,0,none⟩) N.length N.length] W (PairPost [w.heap.size] (NodeOK T cs ⟨op,lf,rt,tb,ks,ct,cols,ots,sums⟩) (nodeL T cs ⟨op,lf,rt,tb,ks,ct,cols,ots,sums⟩) W)):=fun W hW=>
     columns_any W T [w.heap.size] (fun k hk=>by simp at hk; have:=hW.size; omega) _ _ cs w.heap.size N.length (HNI.out W hW) HSm.out (HKW.out W hW) (by have:=HLN.out; omega) hl H12.out (by have h1:=HBA.out.1.1; simp only at h1; show 2 <= op /\ op <= 7; omega) (by have h2:=HBA.out.2; rw [HLN.out]; exact h2)
    unfold nodeV at HCO
    simp only at HCO
    go_wp2_with fail
    refine calls_at (fun W=>Below wr.heap.size wr W) ((Below.refl _ _).alloc (Nat.le_refl _) _) ?_
    intro W hBW
    refine (HCO.out W hBW).mono ?_
    rintro e w1 ⟨ao5,m5,cap5,b1,rfl,hb1,hin1,hB1⟩
    have hB2:=bthen hBW hB1
    have hB3:=bthen hB hB2
    have hK2:=HKW.out w1 hB2
    have hP2:=HPW.out w1 hB2
    obtain ⟨⟨v6,hv6⟩,hf6⟩:=hP2.place k hlt
    have HB4:Hid (∀ u,Below w.heap.size w (w1.setCell ⟨w.heap.size,k,none⟩ u)):=fun u=>hB3.setCell (Nat.le_refl _) u
    clear hBW hB1 c0 c1 c2 c3 c4 c5 c6 c7 c8 HKW HPW HTW HMW HNI
    by_cases hq:NodeOK T cs ⟨op,lf,rt,tb,ks,ct,cols,ots,sums⟩
    ·obtain rfl:b1=true:=hb1.2 hq
     have hin2:=hin1 hq
     obtain ⟨ao6,cap6,e6,_,_,g6⟩:=hin2.open
     obtain ⟨rfl,rfl,rfl⟩:=slice_inj e6
     have HK4:=hK2.put hin2 (k:=k) HLN.out.symm ⟨v6,hv6⟩
     rw [<- HSN.out] at HK4
     have HK5:Hid (KLists (w1.setCell ⟨w.heap.size,k,none⟩ (.slice ao5 (nodeL T cs ⟨op,lf,rt,tb,ks,ct,cols,ots,sums⟩).length cap5)) [w.heap.size] w.heap.size (colsL T (N.take (k+1)))):=HK4
     have HP5:Hid (PA (w1.setCell ⟨w.heap.size,k,none⟩ (.slice ao5 (nodeL T cs ⟨op,lf,rt,tb,ks,ct,cols,ots,sums⟩).length cap5)) w.heap.size 37 N.length []):=hP2.setNil _ _
     have HQ:Hid (NodeOK T cs ⟨op,lf,rt,tb,ks,ct,cols,ots,sums⟩):=hq
     clear g6 hb1 hin1 hK2 hP2 hq hin2 HK4 e6
     by_cases h12:1 <= (nodeL T cs ⟨op,lf,rt,tb,ks,ct,cols,ots,sums⟩).length /\ (nodeL T cs ⟨op,lf,rt,tb,ks,ct,cols,ots,sums⟩).length <= 12
     ·have HS2:=HSK.out (HST.out.2 ⟨HQ.out,h12⟩)
      have HS3:Hid (∀ i,i < k+1 -> StepOK T N i):=HS2
      have H13:=getD_snoc12 H12.out h12.2
      rw [<- HSN.out] at H13
      have H14:Hid (∀ j,((colsL T (N.take (k+1))).getD j []).length <= 12):=H13
      clear HS2 H13
      have d1:decide (((nodeL T cs ⟨op,lf,rt,tb,ks,ct,cols,ots,sums⟩).length:Int) < 1)=false:=decide_eq_false (by omega)
      have d2:decide ((12:Int) < ((nodeL T cs ⟨op,lf,rt,tb,ks,ct,cols,ots,sums⟩).length:Int))=false:=decide_eq_false (by omega)
      generalize (nodeL T cs ⟨op,lf,rt,tb,ks,ct,cols,ots,sums⟩).length=lm at *
      go_wp2
      go_roundw
      case rel=>exact ⟨k+1,by omega,by go_num,HS3.out,H14.out,HK5.out,HP5.out,HB4.out _⟩
      case measure=>simp [intOf]; omega
     ·have HF2:=HF.out (fun h=>h12 (HST.out.1 h).2)
      have HF3:Hid (¬ ColumnsOK T N):=HF2
      clear HF2
      generalize (nodeL T cs ⟨op,lf,rt,tb,ks,ct,cols,ots,sums⟩).length=lm at *
      by_cases h1:lm < 1
      ·have d1:decide ((lm:Int) < 1)=true:=decide_eq_true (by omega)
       go_wp2
       go_ret
       exact BoolPost.no HF3.out (HB4.out _)
      ·have d1:decide ((lm:Int) < 1)=false:=decide_eq_false (by omega)
       have d2:decide ((12:Int) < (lm:Int))=true:=decide_eq_true (by omega)
       go_wp2
       go_ret
       exact BoolPost.no HF3.out (HB4.out _)
    ·obtain rfl:b1=false:=by rw [<- Bool.not_eq_true,hb1]; exact hq
     have HF2:=HF.out (fun h=>hq (HST.out.1 h).1)
     have HF3:Hid (¬ ColumnsOK T N):=HF2
     clear HF2 hb1 hin1 hK2 hP2 hq
     go_wp2
     go_ret
     exact BoolPost.no HF3.out (HB4.out _)
  ·have HTT:Hid (ColumnsOK T N):=fun i hi=>hall i (by omega)
   clear hall h12 hKL hP
   go_wp2
   go_ret
   exact BoolPost.yes HTT.out hB
def Small (T:List VT) (N:List VN):Prop:=T.length <= 1048576 /\ N.length <= 1048576 /\ (∀ i (h:i < T.length),TabSmall T[i]) /\ ∀ i (h:i < N.length),NodeSmall N[i]
theorem pvalid_any (w:World) (tv pv:Value) (T:List VT) (N:List VN) (ht:TabsIn w [] tv T) (hp:NodesIn w [] pv N) (hs:Small T N) :
  Calls Tryz.prog 56 #[tv,pv] w (BoolPost (ValidOK T N) w):=by
 obtain ⟨hT,hN,hsT,hsN⟩:=hs
 obtain ⟨tao,tcap,rfl,htc,htm,g1⟩:=ht.open
 obtain ⟨ao,cap,rfl,hc,hm,g2⟩:=hp.open
 clear g1 g2
 have HT:Hid (∀ W,Below w.heap.size w W -> TabsIn W [] (.slice tao T.length tcap) T):=fun W h=>ht.step (stepB h)
 have HV:Hid (∀ W,Below w.heap.size w W -> NodesIn W [] (.slice ao N.length cap) N):=fun W h=>hp.step (stepB h)
 have HPL:Hid (∀ w v T,TabsIn w [] v T -> T.length <= 1048576 -> Calls Tryz.prog 74 #[v] w (MapPost T w)):=places_any
 have HGT:Hid (∀ W,Below w.heap.size w W -> Calls Tryz.prog 75 #[.slice tao T.length tcap] W (BoolPost (TablesOK T) W)):=fun W h=>goodTables_any W _ T (HT.out W h) hT hsT
 have HSN:Hid (∀ i (h:i < N.length),NodeSmall N[i]):=hsN
 clear ht hp hsT hsN
 by_cases hl:1 <= N.length /\ N.length <= 12
 ·have d1:decide ((N.length:Int) < 1)=false:=decide_eq_false (by omega)
  have d2:decide ((12:Int) < N.length)=false:=decide_eq_false (by omega)
  have HIT:Hid (∀ W,Below w.heap.size w W -> Calls Tryz.prog 76 #[.slice ao N.length cap] W (BoolPost (TreeOK N) W)):=fun W h=>isTree_any W _ N (HV.out W h) hl.1 hl.2
  have HCM:Hid (∀ W bm,Below w.heap.size w W -> MapIn W bm (nameEnts T) -> NamesOK T -> NodesOK N -> Calls Tryz.prog 77 #[.slice tao T.length tcap,.map (some bm),.slice ao N.length cap] W (BoolPost (ColumnsOK T N) W)):=fun W bm h h1 h2 h3=>goodColumns_any W _ _ T N bm (HT.out W h) h1 h2 (HV.out W h) h3 hl.2 hT HSN.out
  have HLL:Hid (1 <= N.length /\ N.length <= 12):=hl
  clear HV
  go_enter Tryz.func56,Tryz.ntmps56
  by_cases hn:NamesOK T
  ·have HNA:Hid (NamesOK T):=hn
   clear hn
   by_cases ht:TablesOK T
   ·have HTO:Hid (TablesOK T):=ht
    clear ht
    by_cases hr:TreeOK N
    ·have HTR:Hid (TreeOK N):=hr
     clear hr
     go_wp2_with (first | (go_at_call 74; refine (HPL.out _ _ T (HT.out _ (Below.refl _ _)) hT).mono ?_; rintro e w1 ⟨m,b1,rfl,hb1,hm1,hB1⟩; obtain rfl:b1=true:=hb1.2 HNA.out; obtain ⟨bm,rfl,hm2⟩:=hm1 HNA.out; clear hb1 hm1) | (go_at_call 75; refine (HGT.out _ hB1).mono ?_; rintro e w2 ⟨b2,rfl,hb2,hB2⟩; obtain rfl:b2=true:=hb2.2 HTO.out; clear hb2; have hB3:=bthen hB1 hB2) | (go_at_call 76; refine (HIT.out _ hB3).mono ?_; rintro e w4 ⟨b4,rfl,hb4,hB4⟩; obtain rfl:b4=true:=hb4.2 HTR.out; clear hb4; have hB5:=bthen hB3 hB4) | (go_at_call 77; refine (HCM.out _ bm hB5 ((hm2.b hB2).b hB4) HNA.out HTR.out.1).mono ?_; rintro e w6 ⟨b6,rfl,hb6,hB6⟩))
     go_ret
     exact ⟨b6,rfl,by rw [hb6]; exact ⟨fun h=>⟨HLL.out,HNA.out,HTO.out,HTR.out,h⟩,fun h=>h.2.2.2.2⟩,bthen hB5 hB6⟩
    ·have HTR:Hid (¬ TreeOK N):=hr
     have HF:Hid (¬ ValidOK T N):=fun h=>hr h.2.2.2.1
     clear hr
     go_wp2_with (first | (go_at_call 74; refine (HPL.out _ _ T (HT.out _ (Below.refl _ _)) hT).mono ?_; rintro e w1 ⟨m,b1,rfl,hb1,hm1,hB1⟩; obtain rfl:b1=true:=hb1.2 HNA.out; clear hb1 hm1) | (go_at_call 75; refine (HGT.out _ hB1).mono ?_; rintro e w2 ⟨b2,rfl,hb2,hB2⟩; obtain rfl:b2=true:=hb2.2 HTO.out; clear hb2; have hB3:=bthen hB1 hB2) | (go_at_call 76; refine (HIT.out _ hB3).mono ?_; rintro e w4 ⟨b4,rfl,hb4,hB4⟩; obtain rfl:b4=false:=(by rw [<- Bool.not_eq_true,hb4]; exact HTR.out); clear hb4; have hB5:=bthen hB3 hB4))
     go_ret
     exact BoolPost.no HF.out hB5
   ·have HTO:Hid (¬ TablesOK T):=ht
    have HF:Hid (¬ ValidOK T N):=fun h=>ht h.2.2.1
    clear ht
    go_wp2_with (first | (go_at_call 74; refine (HPL.out _ _ T (HT.out _ (Below.refl _ _)) hT).mono ?_; rintro e w1 ⟨m,b1,rfl,hb1,hm1,hB1⟩; obtain rfl:b1=true:=hb1.2 HNA.out; clear hb1 hm1) | (go_at_call 75; refine (HGT.out _ hB1).mono ?_; rintro e w2 ⟨b2,rfl,hb2,hB2⟩; obtain rfl:b2=false:=(by rw [<- Bool.not_eq_true,hb2]; exact HTO.out); clear hb2; have hB3:=bthen hB1 hB2))
    go_ret
    exact BoolPost.no HF.out hB3
  ·have HNA:Hid (¬ NamesOK T):=hn
   have HF:Hid (¬ ValidOK T N):=fun h=>hn h.2.1
   clear hn
   go_wp2_with (go_at_call 74; refine (HPL.out _ _ T (HT.out _ (Below.refl _ _)) hT).mono ?_; rintro e w1 ⟨m,b1,rfl,hb1,hm1,hB1⟩; obtain rfl:b1=false:=(by rw [<- Bool.not_eq_true,hb1]; exact HNA.out); clear hb1 hm1)
   go_ret
   exact BoolPost.no HF.out hB1
 ·have HF:Hid (¬ ValidOK T N):=fun h=>hl h.1
  go_enter Tryz.func56,Tryz.ntmps56
  go_wp2
  all_goals first | (exfalso; omega) | skip
  all_goals
   go_ret
   exact BoolPost.no HF.out (Below.refl _ _)
def ErrPost (P:Prop) (w:World):Ending -> World -> Prop:=fun e w'=>∃ q:Int,e=.returned (.int .i64 q) /\ (P -> q=0) /\ (¬ P -> q=1) /\ Below w.heap.size w w'
end Go.Proofs.YtjoinhljdbljaaaGreat.Old
