/- Lists of numbers that grow, and what follows. -/
import Derived.Test.YtjoinhljdbljaaaGreatOValAToOValC
import Derived.Laws.OwnMore
set_option maxHeartbeats 2000000
set_option maxRecDepth 20000
namespace Go.Proofs.YtjoinhljdbljaaaGreat.Old
open Go.RowKit Go.Proofs.Tryz
variable {B base cap i j:Nat} {F:List Nat} {N:List VN} {P:Prop} {ao:Option Addr} {c k m x:Int} {d:Nat->Int} {l left:List Int} {s:VS} {v:Value} {w w':World} {α β:Type}
theorem info3:(prog.info? 3).map (λi=>(i.zero,i.size,i.bytes))=some (some (.int .i64 0),1,8):=by kernel_rfl
def OI (w:World)(base:Nat)(v:Value)(l:List Int):Prop:=w.ownsRow base 3 1 v l.length (ints l)
theorem ints_len (l:List Int):(ints l).length=l.length:=by simp[ints]
theorem ints_one (l:List Int):∀u∈ints l,u.oneCell'=true:=by
 intro u hu;simp only[ints,z_]at hu;obtain⟨n,_,rfl⟩:=hu;rfl
theorem ints_app (a b:List Int):ints (a++b)=ints a++ints b:=by simp[ints]
theorem iR {ops:Array Oper}{rest:List Oper}{o:Oper}{a:Act}{Q:Exit->Act->World->Prop}(hgd:o.guard=none)(s x:Operand)
  (ho:o.op=.call { callee:=.builtin .append,args:=#[s,x],argTypes:=#[37,37] }) (base:Nat) (v:Value) (l:List Int) (hs:a.eval s=v) (hown:OI w base v l)
  (ad:Addr) (m:List Int) (c:Nat) (hx:a.eval x=.slice (some ad) m.length c) (hnews:∀j u,(ints m)[j]?=some u->w.cell? (ad.add j)=some u) (hlen:l.length+m.length<=4000000) (hbase:base<=w.heap.size)
  (h:∀v' w',OI w' base v' (l++m)->Below base w w'->wpList prog ops Q rest (a.put o.dst v') w'):wpList prog ops Q (o::rest) a w:=by
 obtain⟨i0,hi,hz0,hz1,hz2⟩:=info_parts info3;refine wpList_append_own _ hgd s x 37 ho base 3 i0 (.int .i64 0) 1 8 underlying37 hi hz0 hz1 hz2 rfl (by decide) v _ _ hs hown ad m.length c (ints m) hx (by simp[ints]) hnews (ints_one m) ?_ ?_ hbase ?_
 ·unfold maxLen;omega
 ·omega
 ·intro v' w' h1 h2 _;refine h v' w' ?_ ((Below.refl _ _).grown h2 hbase λk hk=>(World.ownsRow.lt hown k hk).1);unfold OI;rw[c_,ints_app];exact h1
theorem OI.in (h:OI w base v l):IntsIn w [] v l:=by
 rcases h.2 with⟨rfl,h0⟩|⟨g,cap,cur,rfl,_,hg,hc,hm,hs,ht⟩
 ·exact⟨none,0,by rw[h0],by omega,by unfold maxLen;omega,by simp[ints],λhn=>by omega⟩
 ·refine⟨_,cap,rfl,hc,hm,by simp[ints],λhn=>⟨g,0,rfl,by simp,λj u hj=>?_⟩⟩;rw[<-ht,S_]at hj
  split at hj
  ·simp only[U_];simp only[World.cell?,hg];simpa using hj
  ·cases hj
theorem OI.inF (h:OI w base v l)(hF:∀k∈F,k<base):IntsIn w F v l:=by
 rcases h.2 with⟨rfl,h0⟩|⟨g,cap,cur,rfl,hbg,hg,hc,hm,hs,ht⟩
 ·exact⟨none,0,by rw[h0],by omega,by unfold maxLen;omega,by simp[ints],λhn=>by omega⟩
 ·refine⟨_,cap,rfl,hc,hm,by simp[ints],λhn=>⟨g,0,rfl,λhm=>?_,λj u hj=>?_⟩⟩
  ·have:=hF g hm;omega
  rw[<-ht,S_]at hj
  split at hj
  ·simp only[U_];simp only[World.cell?,hg];simpa using hj
  ·cases hj
theorem OI.below (h:OI w base v l)(hb:Below B w w')(hB:w.heap.size<=B):OI w' base v l:=by
 obtain⟨h1,h2⟩:=h;refine⟨h1,?_⟩;rcases h2 with h2|⟨g,cap,cur,rfl,hbg,hg,r⟩
 ·exact Or.inl h2
 ·refine Or.inr ⟨g,cap,cur,rfl,hbg,?_,r⟩;rw[hb.block g (by have:=(agi.1 hg).1;omega)];exact hg
theorem OI.alloc {w:World}{base:Nat}{v:Value}{l:List Int}(h:OI w base v l)(o:Obj):OI (w.alloc o) base v l:=World.ownsRow.alloc h o
theorem OI.nil (w:World)(base:Nat):OI w base (.slice none 0 0) []:=World.ownsRow_nil _ _ _ _
theorem new_int (w:World)(q:Int)(t:TypeId):∀j u,(ints [q])[j]?=some u->(w.alloc (.cells #[.int .i64 q] t)).cell? ((⟨w.heap.size,0,none⟩:Addr).add j)=some u:=cell_one_new w (.int .i64 q) t
def cam (l:List Int)(c:Int):Int:=l.getD c.toNat 0
def IC (c:Int)(l:List Int):Prop:=0<=c/\c<(l.length:Int)
def Sz (s:VS)(left:List Int):Prop:=IC s.col left/\((s.op=1/\s.col=0)\/s.op=2\/s.op=3\/(s.op=4/\cam left s.col=1))
def sumK (left:List Int)(s:VS):Int:=if s.op=1 then 1 else cam left s.col
def GR (cols:List Int)(sums:List VS)(left:List Int):Prop:=cols.length<=4/\sums.length<=4/\(∀i (h:i<cols.length),IC cols[i] left)/\(∀i (h:i<sums.length),Sz sums[i] left)
def groupL (cols:List Int)(sums:List VS)(left:List Int):List Int:=cols.map (cam left)++sums.map (sumK left)
def PI (F:List Nat)(P:Prop)(l:List Int)(w:World):Ending->World->Prop:=
 λe w'=>∃ao m cap b,e=.returned (.tuple #[.slice ao m cap,.bool b])/\(b=true↔P)/\(P->IntsIn w' F (.slice ao m cap) l)/\Below w.heap.size w w'
theorem PI.yes {m:Nat}(h:P)(hi:IntsIn w' F (.slice ao m cap) l)(hb:Below w.heap.size w w'):PI F P l w (.returned (.tuple #[.slice ao m cap,.bool true])) w':=⟨ao,m,cap,true,rfl,by simp[h],λ_=>hi,hb⟩
theorem PI.no {m:Nat}(h:¬P)(hb:Below w.heap.size w w'):PI F P l w (.returned (.tuple #[.slice ao m cap,.bool false])) w':=⟨ao,m,cap,false,rfl,by simp[h],λhp=>absurd hp h,hb⟩
def Sm (s:VS)(left:List Int)(w:World):Ending->World->Prop:=λe w'=>∃k b,e=.returned (.tuple #[.int .i64 k,.bool b])/\(b=true↔Sz s left)/\(Sz s left->k=sumK left s)/\Below w.heap.size w w'
theorem Sm.yes (h:Sz s left)(hk:k=sumK left s)(hb:Below w.heap.size w w'):Sm s left w (.returned (.tuple #[.int .i64 k,.bool true])) w':=⟨k,true,rfl,by simp[h],λ_=>hk,hb⟩
theorem Sm.no (h:¬Sz s left)(hb:Below w.heap.size w w'):Sm s left w (.returned (.tuple #[.int .i64 k,.bool false])) w':=⟨k,false,rfl,by simp[h],λhp=>absurd hp h,hb⟩
theorem cay {c:Nat}(h:c<l.length):cam l (c:Int)=l[c]:=by simp[cam,h]
theorem IC.nat (h:IC c l):∃n:Nat,c=(n:Int)/\n<l.length:=⟨c.toNat,by have:=h.1;omega,by have:=h.1;have:=h.2;omega⟩
theorem iI (h:IC c l):iC c l.length=true:=(iL _ _).2 h
theorem iU (h:¬IC c l):iC c l.length=false:=by rw[<-Bool.not_eq_true,iL];exact h
theorem summed_any (s:VS)(v:Value)(left:List Int)(w:World)(h:IntsIn w [] v left):Calls prog 161 #[.agg #[.int .i64 s.op,.int .i64 s.col],v] w (Sm s left w):=by
 obtain⟨ao,cap,rfl,hc,hm,_⟩:=h.open;have HV:Hid (IntsIn w [] (.slice ao left.length cap) left):=h;clear h;have HI:Hid (∀c ao n cap w,Calls prog 159 #[.int .i64 c,.slice ao n cap] w λe w'=>e=.returned (.bool (iC c n))/\w'=w):=iO;obtain⟨op,col⟩:=s;simp only;by_cases hin:IC col left
 ·have hb:=iI hin;obtain⟨c,rfl,hcl⟩:=hin.nat;obtain⟨b,off,hao,hcell⟩:=HV.out.cells (by omega);subst hao;have c0:=hcell c hcl;have hbw:b<w.heap.size:=World.block_lt_of_cell? w _ c0;have HC:Hid (cam left (c:Int)=left[c]):=cay hcl;have HY:Hid (∀k w',((op=1/\(c:Int)=0)\/op=2\/op=3\/(op=4/\left[c]=1))->k=(if op=1 then 1 else left[c])->Below w.heap.size w w'->Sm ⟨op,(c:Int)⟩ left w (.returned (.tuple #[.int .i64 k,.bool true])) w'):=
   λk w' h1 h2 h3=>Sm.yes ⟨hin,by rw[HC.out];exact h1⟩ (by rw[h2];simp only[sumK,HC.out]) h3
  have HN:Hid (∀k w',¬((op=1/\(c:Int)=0)\/op=2\/op=3\/(op=4/\left[c]=1))->Below w.heap.size w w'->Sm ⟨op,(c:Int)⟩ left w (.returned (.tuple #[.int .i64 k,.bool false])) w'):=
   λk w' h1 h3=>Sm.no (λh=>h1 (by have:=h.2;rw[HC.out]at this;exact this)) h3
  have HB:Hid (∀o,Below w.heap.size w (w.alloc o)):=λo=>(Below.refl _ _).alloc (e_ _) o;generalize left[c]=q at *;clear hcell;go_enter func161,ntmps161;by_cases h1:op=1
  ·subst h1;by_cases h0:c=0
   ·have hz:((c:Int) == 0)=true:=by simp[h0]
    have hb0:iC 0 left.length=true:=by simpa[h0]using hb
    go_wp2_with (go_at_call 159;refine(HI.out _ _ _ _ _).mono ?_;rintro e w' ⟨rfl,rfl⟩)
    first
     | (go_ret2;exact HY.out _ _ (by simp[h0]) (by simp) (HB.out _))
     | (go_region;all_goals (go_wp2;go_ret2;exact HY.out _ _ (by simp[h0]) (by simp) (HB.out _).drew))
   ·have hz:((c:Int) == 0)=false:=by simp;omega
    go_wp2_with (go_at_call 159;refine(HI.out _ _ _ _ _).mono ?_;rintro e w' ⟨rfl,rfl⟩)
    first
     | (go_ret2;exact HN.out _ _ (by omega) (HB.out _))
     | (go_region;all_goals (go_wp2;go_ret2;exact HN.out _ _ (by omega) (HB.out _).drew))
  ·have e1:(op == 1)=false:=by simp[h1]
   by_cases h2:op=2
   ·subst h2
    go_wp2_with (go_at_call 159;refine(HI.out _ _ _ _ _).mono ?_;rintro e w' ⟨rfl,rfl⟩)
    first
     | (go_ret2;exact HY.out _ _ (by simp) (by simp) (HB.out _))
     | (go_region;all_goals (go_wp2;go_ret2;exact HY.out _ _ (by simp) (by simp) (HB.out _).drew))
   ·have e2:(op == 2)=false:=by simp[h2]
    by_cases h3:op=3
    ·subst h3
     go_wp2_with (go_at_call 159;refine(HI.out _ _ _ _ _).mono ?_;rintro e w' ⟨rfl,rfl⟩)
     first
      | (go_ret2;exact HY.out _ _ (by simp) (by simp) (HB.out _))
      | (go_region;all_goals (go_wp2;go_ret2;exact HY.out _ _ (by simp) (by simp) (HB.out _).drew))
    ·have e3:(op == 3)=false:=by simp[h3]
     by_cases h4:op=4
     ·subst h4;by_cases hq:q=1
      ·subst hq
       go_wp2_with (go_at_call 159;refine(HI.out _ _ _ _ _).mono ?_;rintro e w' ⟨rfl,rfl⟩)
       first
        | (go_ret2;exact HY.out _ _ (by simp) (by simp) (HB.out _))
        | (go_region;all_goals (go_wp2;go_ret2;exact HY.out _ _ (by simp) (by simp) (HB.out _).drew))
      ·have eq1:(q == 1)=false:=by simp[hq]
       go_wp2_with (go_at_call 159;refine(HI.out _ _ _ _ _).mono ?_;rintro e w' ⟨rfl,rfl⟩)
       first
        | (go_ret2;exact HN.out _ _ (by omega) (HB.out _))
        | (go_region;all_goals (go_wp2;go_ret2;exact HN.out _ _ (by omega) (HB.out _).drew))
     ·have e4:(op == 4)=false:=by simp[h4]
      go_wp2_with (go_at_call 159;refine(HI.out _ _ _ _ _).mono ?_;rintro e w' ⟨rfl,rfl⟩)
      first
       | (go_ret2;exact HN.out _ _ (by omega) (HB.out _))
       | (go_region;all_goals (go_wp2;go_ret2;exact HN.out _ _ (by omega) (HB.out _).drew))
 ·have hb:=iU hin;have HN:Hid (¬Sz ⟨op,col⟩ left):=λh=>hin h.1;clear hin;go_enter func161,ntmps161
  go_wp2_with (go_at_call 159;refine(HI.out _ _ _ _ _).mono ?_;rintro e w' ⟨rfl,rfl⟩)
  go_ret2
  exact Sm.no HN.out ((Below.refl _ _).alloc (e_ _) _)
theorem up1 {o:Obj}(h:Below (w.alloc o).heap.size (w.alloc o) w'):Below w.heap.size w w':=((Below.refl _ _).alloc (e_ _) o).trans (h.mono (by simp))
theorem grouped_any (w:World)(n:VN)(p:NP)(v:Value)(left:List Int)(hn:Nb w [] p n)(h:IntsIn w [] v left)(hl1:n.cols.length<=1048576)(hl2:n.sums.length<=1048576)(F:List Nat)(hF:∀k∈F,k<w.heap.size) :
  Calls prog 127 #[nV n p,v] w (PI F (GR n.cols n.sums left) (groupL n.cols n.sums left) w):=by
 obtain⟨ao,cap,rfl,hc,hm,_⟩:=h.open;obtain⟨op,lf,rt,tb,ks,ct,cols,ots,sums⟩:=n;obtain⟨kv,cv,ov,sv⟩:=p;obtain⟨_,hcv,_,hsv⟩:=hn;simp only at *;obtain⟨ao1,cap1,rfl,hc1,hm1,_⟩:=hcv.open;obtain⟨ao2,cap2,rfl,hc2,hm2,_⟩:=hsv.open;unfold nV;simp only;have HI:Hid (∀c ao n cap w,Calls prog 159 #[.int .i64 c,.slice ao n cap] w λe w'=>e=.returned (.bool (iC c n))/\w'=w):=iO;have HSM:Hid (∀s w,IntsIn w [] (.slice ao left.length cap) left->Calls prog 161 #[.agg #[.int .i64 s.op,.int .i64 s.col],.slice ao left.length cap] w (Sm s left w)):=λs w h=>summed_any s _ left w h;have HW0:Hid (∀o,Step [] [] w (w.alloc o)):=λo=>Step.of ((Touch.refl _ _).alloc o);have HL:Hid (IntsIn w [] (.slice ao left.length cap) left):=h;have HC:Hid (IntsIn w [] (.slice ao1 cols.length cap1) cols):=hcv;have HS:Hid (SN w [] (.slice ao2 sums.length cap2) sums):=hsv;have HFF:Hid (∀k∈F,k<w.heap.size):=hF;clear h hcv hsv hF;go_enter func127,ntmps127;by_cases h44:cols.length<=4/\sums.length<=4
 ·have d1:decide ((4:Int)<cols.length)=false:=decide_eq_false (by omega);have d2:decide ((4:Int)<sums.length)=false:=decide_eq_false (by omega)
  go_wp2_with fail
  have hl0:=HL.out.step (HW0.out (.cells #[.int .i64 op,.int .i64 lf,.int .i64 rt,.string tb,kv,.int .i64 ct,.slice ao1 cols.length cap1,ov,.slice ao2 sums.length cap2] 79));have hc0:=HC.out.step (HW0.out (.cells #[.int .i64 op,.int .i64 lf,.int .i64 rt,.string tb,kv,.int .i64 ct,.slice ao1 cols.length cap1,ov,.slice ao2 sums.length cap2] 79));have hs0:=HS.out.step (HW0.out (.cells #[.int .i64 op,.int .i64 lf,.int .i64 rt,.string tb,kv,.int .i64 ct,.slice ao1 cols.length cap1,ov,.slice ao2 sums.length cap2] 79));have x8:(w.alloc (.cells #[.int .i64 op,.int .i64 lf,.int .i64 rt,.string tb,kv,.int .i64 ct,.slice ao1 cols.length cap1,ov,.slice ao2 sums.length cap2] 79)).cell? ⟨w.heap.size,8,none⟩=some (.slice ao2 sums.length cap2):=by simp
  have HUP:Hid (∀w',Below (w.alloc (.cells #[.int .i64 op,.int .i64 lf,.int .i64 rt,.string tb,kv,.int .i64 ct,.slice ao1 cols.length cap1,ov,.slice ao2 sums.length cap2] 79)).heap.size (w.alloc (.cells #[.int .i64 op,.int .i64 lf,.int .i64 rt,.string tb,kv,.int .i64 ct,.slice ao1 cols.length cap1,ov,.slice ao2 sums.length cap2] 79)) w'->Below w.heap.size w w'):=λw' h=>up1 h;have hlt0:w.heap.size<(w.alloc (.cells #[.int .i64 op,.int .i64 lf,.int .i64 rt,.string tb,kv,.int .i64 ct,.slice ao1 cols.length cap1,ov,.slice ao2 sums.length cap2] 79)).heap.size:=by simp
  generalize (w.alloc (.cells #[.int .i64 op,.int .i64 lf,.int .i64 rt,.string tb,kv,.int .i64 ct,.slice ao1 cols.length cap1,ov,.slice ao2 sums.length cap2] 79))=W at *;have HL:Hid (IntsIn W [] (.slice ao left.length cap) left):=hl0;have HC:Hid (IntsIn W [] (.slice ao1 cols.length cap1) cols):=hc0;have HS:Hid (SN W [] (.slice ao2 sums.length cap2) sums):=hs0;clear hl0 hc0 hs0 HW0
  go_loopw [6,26] (λo j wr=>∃k:Nat,k<=cols.length/\j=.int .i64 k/\(∀i (h:i<cols.length),i<k->IC cols[i] left)/\OI wr W.heap.size o ((cols.take k).map (cam left))/\Below W.heap.size W wr) (λ_ j _=>cols.length-(intOf j).toNat)
  case atStart=>exact⟨0,by omega,rfl,λi _ h=>by omega,OI.nil _ _,Below.refl _ _⟩
  case round=>
   obtain⟨k,hk,rfl,hall,hO,hB⟩:=hrel;have hsz:=hB.size;by_cases hlt:k<cols.length
   ·obtain⟨b,off,hao,hcell⟩:=(HC.out.step (su hB)).cells (by omega);subst hao;have c0:=hcell k hlt;by_cases hq:IC cols[k] left
    ·have HN:Hid (∀i (h:i<cols.length),i<k+1->IC cols[i] left):=sJ (P:=λq=>IC q left) hlt hall hq;have HSN:Hid ((cols.take (k+1)).map (cam left)=(cols.take k).map (cam left)++[cam left cols[k]]):=by show _=_;rw[take_snoc' cols k hlt,w_];rfl
     have hb:=iI hq;obtain⟨c,hce,hcl⟩:=hq.nat;obtain⟨b2,off2,hao2,hcell2⟩:=(HL.out.step (su hB)).cells (by omega);subst hao2;have c1:=hcell2 c hcl;have hll:((cols.take k).map (cam left)).length<=1048576:=by simp;omega
     rw[hce]at c0 hb HSN;rw[cay hcl]at HSN;generalize left[c]=q at *;generalize (cols.take k).map (cam left)=S at *;clear hcell hall hq hcell2
     go_wp2_with (first|(go_at_call 159;refine(HI.out _ _ _ _ _).mono ?_;rintro e w' ⟨rfl,rfl⟩)|(at_builtin;refine iR rfl (.tmp 34) (.tmp 39) rfl W.heap.size _ S rfl (hO.alloc _) _ [q] 1 rfl (new_int _ _ _) (by simp;omega) (by simp;omega) ?_;intro v' w5 hO5 hB5))
     go_roundw
     case rel=>exact⟨k+1,by omega,by go_num,HN.out,by rw[HSN.out];exact hO5,(hB.alloc hsz _).trans hB5⟩
     case measure=>simp[intOf];omega
    ·have HF:Hid (¬GR cols sums left):=λh=>hq (h.2.2.1 k hlt);have hb:=iU hq;generalize cols[k]=q at *;clear hcell hall hq hO
     go_wp2_with (go_at_call 159;refine(HI.out _ _ _ _ _).mono ?_;rintro e w' ⟨rfl,rfl⟩)
     go_ret2
     exact PI.no HF.out (HUP.out _ hB)
   ·have Hq:Hid (∀i (h:i<cols.length),IC cols[i] left):=λi hi=>hall i hi (by omega);rw[N_ (by omega)]at hO;have HO:Hid (OI wr W.heap.size u6 (cols.map (cam left))):=hO;have x8':=(hB.cell (p:=⟨w.heap.size,8,none⟩) hlt0).trans x8;clear hall hO x8
    go_wp2_with fail
    go_loopw [6,45] (λo j wz=>∃k:Nat,k<=sums.length/\j=.int .i64 k/\(∀i (h:i<sums.length),i<k->Sz sums[i] left)/\OI wz W.heap.size o (cols.map (cam left)++(sums.take k).map (sumK left))/\Below W.heap.size W wz) (λ_ j _=>sums.length-(intOf j).toNat)
    case atStart=>exact⟨0,by omega,rfl,λi _ h=>by omega,by rw[List.take_zero,List.map_nil,H_];exact HO.out,hB⟩
    case round=>
     obtain⟨k2,hk2,rfl,hall2,hO2,hB2⟩:=hrel;have hsz2:=hB2.size;clear hB hsz x8';by_cases hlt2:k2<sums.length
     ·obtain⟨b,off,hao,hcell⟩:=(HS.out.step (su hB2)).cells (by omega);subst hao;obtain⟨c0,c1⟩:=hcell k2 hlt2;have HSN:Hid (cols.map (cam left)++(sums.take (k2+1)).map (sumK left)=cols.map (cam left)++(sums.take k2).map (sumK left)++[sumK left sums[k2]]):=by show _=_;rw[take_snoc' sums k2 hlt2,w_,F_];rfl
      have hll:(cols.map (cam left)++(sums.take k2).map (sumK left)).length<=1048576:=by simp;omega
      have HL2:Hid (IntsIn wr [] (.slice ao left.length cap) left):=HL.out.step (su hB2);by_cases hq:Sz sums[k2] left
      ·have HN:Hid (∀i (h:i<sums.length),i<k2+1->Sz sums[i] left):=sJ (P:=λq=>Sz q left) hlt2 hall2 hq;have HQ:Hid (Sz sums[k2] left):=hq;generalize sums[k2]=q at *;generalize cols.map (cam left)++(sums.take k2).map (sumK left)=S at *;clear hcell hall2 hq
       go_wp2_with (first|(go_at_call 161;refine(HSM.out _ _ (HL2.out.step (Step.of ((Touch.refl _ _).alloc _)))).mono ?_;rintro e w4 ⟨kk,bb,rfl,hbb,hkk,hB4⟩;have hbt:bb=true:=hbb.2 HQ.out;subst hbt;have hB5:=up1 hB4;have hO4:=hO2.below hB5 (e_ _);have hsz4:=hB5.size;have HK:Hid (kk=_):=hkk HQ.out;clear hbb hkk hB4)|(at_builtin;refine iR rfl (.tmp 57) (.tmp 59) rfl W.heap.size _ S rfl (hO4.alloc _) _ [kk] 1 rfl (new_int _ _ _) (by simp;omega) (by simp;omega) ?_;intro v' w6 hO6 hB6))
       go_roundw
       case rel=>exact⟨k2+1,by omega,by go_num,HN.out,by rw[HSN.out,<-HK.out];exact hO6,(((hB2.trans (hB5.mono hsz2)).alloc (by omega) _)).trans hB6⟩
       case measure=>simp[intOf];omega
      ·have HF:Hid (¬GR cols sums left):=λh=>hq (h.2.2.2 k2 hlt2);have HQ:Hid (¬Sz sums[k2] left):=hq;generalize sums[k2]=q at *;clear hcell hall2 hq hO2
       go_wp2_with (go_at_call 161;refine(HSM.out _ _ (HL2.out.step (Step.of ((Touch.refl _ _).alloc _)))).mono ?_;rintro e w4 ⟨kk,bb,rfl,hbb,hkk,hB4⟩;have hbt:bb=false:=by rw[<-Bool.not_eq_true,hbb];exact HQ.out)
       go_ret2
       exact PI.no HF.out (HUP.out _ (hB2.trans ((up1 hB4).mono hsz2)))
     ·have HT:Hid (GR cols sums left):=⟨h44.1,h44.2,Hq.out,λi hi=>hall2 i hi (by omega)⟩;rw[N_ (by omega)]at hO2;have hin:=hO2.inF (F:=F) (λk hk=>Nat.lt_trans (HFF.out k hk) hlt0);obtain⟨ao5,cap5,e5,_,_,_⟩:=hin.open;subst e5;have HIN:Hid (IntsIn wr F (.slice ao5 (cols.map (cam left)++sums.map (sumK left)).length cap5) (groupL cols sums left)):=hin;clear hall2 hO2 hin;go_wp2
      go_ret2
      exact PI.yes HT.out HIN.out (HUP.out _ hB2)
 ·have HF:Hid (¬GR cols sums left):=λh=>h44 ⟨h.1,h.2.1⟩
  go_wp2_with fail
  all_goals first|(exfalso;omega)|skip
  all_goals
   go_ret2
   exact PI.no HF.out ((Below.refl _ _).alloc (e_ _) _)
def grow {α β:Type}(f:List β->α->β)(l:List α):List β:=l.foldl (λacc a=>acc++[f acc a]) []
theorem grow_ext {α β:Type}(f:List β->α->β):∀(l:List α) (acc:List β),∃t,l.foldl (λacc a=>acc++[f acc a]) acc=acc++t/\t.length=l.length
 | [],acc=>⟨[],by simp⟩
 | a::l,acc=>by
  obtain⟨t,ht,hl⟩:=grow_ext f l (acc++[f acc a]);exact⟨f acc a::t,by simp[ht],by simp[hl]⟩
theorem gG (f:List β->α->β)(l:List α):(grow f l).length=l.length:=by
 obtain⟨t,ht,hl⟩:=grow_ext f l [];unfold grow;rw[ht];simpa using hl
theorem grow_take (f:List β->α->β)(l:List α)(k:Nat)(hk:k<=l.length):(grow f l).take k=grow f (l.take k):=by
 obtain⟨t,ht,hl⟩:=grow_ext f (l.drop k) (grow f (l.take k));have e:grow f l=grow f (l.take k)++t:=by
  conv=>lhs;unfold grow;rw[<-X_ k l,List.foldl_append]
  exact ht
 rw[e,List.take_left'];rw[gG];simp;omega
theorem grow_snoc (f:List β->α->β)(l:List α)(k:Nat)(hk:k<l.length):grow f (l.take (k+1))=grow f (l.take k)++[f (grow f (l.take k)) l[k]]:=by
 rw[take_snoc' l k hk];unfold grow;rw[List.foldl_append];rfl
theorem grow_get (f:List β->α->β)(l:List α)(k:Nat)(hk:k<l.length):(grow f l)[k]?=some (f (grow f (l.take k)) l[k]):=by
 have e:=grow_take f l (k+1) (by omega);have:((grow f l).take (k+1))[k]?=(grow f l)[k]?:=by rw[S_];simp
 rw[<-this,e,grow_snoc f l k hk,ae_ (by rw[gG];simp;omega)];have:k-(grow f (l.take k)).length=0:=by rw[gG];simp;omega
 rw[this];rfl
theorem grow_getD (f:List β->α->β)(l:List α)(k x:Nat)(d:β)(hk:k<=l.length)(hx:x<k):(grow f (l.take k)).getD x d=(grow f l).getD x d:=by
 rw[<-grow_take f l k hk];simp[List.getD,hx]
def ins (n:VN):List Int:=if n.op=1 then[]else if n.op=4\/n.op=5 then[n.left,n.right]else[n.left]
def Ahead (n:VN)(i:Nat):Prop:=∀x∈ins n,0<=x/\x<(i:Int)
def AA (N:List VN):Prop:=∀i (h:i<N.length),Ahead N[i] i
def asks (N:List VN):List Int:=N.flatMap ins
def Once (N:List VN):Prop:=∀j:Nat,j+1<N.length->(asks N).count (j:Int)=1
theorem asks_mem :x∈asks N↔∃q,∃h:q<N.length,x∈ins N[q]:=by
 simp only[asks,ap_];constructor
 ·rintro⟨n,hn,hx⟩;obtain⟨q,hq,rfl⟩:=List.mem_iff_getElem.1 hn;exact⟨q,hq,hx⟩
 ·rintro⟨q,hq,hx⟩;exact⟨N[q],m_ hq,hx⟩
theorem asks_two (hi:i<N.length)(hj:j<N.length)(hij:i<j)(h1:x∈ins N[i])(h2:x∈ins N[j]):2<=(asks N).count x:=by
 have e:asks N=asks (N.take j)++asks (N.drop j):=by
  unfold asks;rw[<-List.flatMap_append,X_]
 rw[e,List.count_append];have m1:x∈asks (N.take j):=asks_mem.2 ⟨i,by simp;omega,by simpa using h1⟩;have m2:x∈asks (N.drop j):=asks_mem.2 ⟨0,by simp;omega,by simpa using h2⟩;have:=List.count_pos_iff.2 m1;have:=List.count_pos_iff.2 m2;omega
theorem asks_one (ha:AA N)(ho:Once N)(hi:i<N.length)(hj:j<N.length)(h1:x∈ins N[i])(h2:x∈ins N[j]):i=j:=by
 have hx:=ha i hi x h1;have hy:=ha j hj x h2;have hc:=ho x.toNat (by omega);rw[show((x.toNat:Nat):Int)=x from by omega]at hc;rcases Nat.lt_trichotomy i j with h|h|h
 ·have:=asks_two hi hj h h1 h2;omega
 ·exact h
 ·have:=asks_two hj hi h h2 h1;omega
theorem asker (ha:AA N)(ho:Once N)(hj:j+1<N.length):∃q,∃h:q<N.length,j<q/\(j:Int)∈ins N[q]:=by
 have hc:=ho j hj;have hm:(j:Int)∈asks N:=List.count_pos_iff.1 (by omega);obtain⟨q,hq,hx⟩:=asks_mem.1 hm;have:=ha q hq _ hx;exact⟨q,hq,by omega,hx⟩
def hOf (hs:List Nat)(n:VN):Nat:=if n.op=1 then 1 else if n.op=4\/n.op=5 then 1+max (hs.getD n.left.toNat 0) (hs.getD n.right.toNat 0)else 1+hs.getD n.left.toNat 0
def hts (N:List VN):List Nat:=grow hOf N
def hF (N:List VN)(i:Nat):Nat:=(hts N).getD i 0
theorem hF_eq (hi:i<N.length):hF N i=hOf (hts (N.take i)) N[i]:=by
 unfold hF hts;rw[V_,grow_get hOf N i hi];rfl
theorem hF_take {x:Nat}(hi:i<=N.length)(hx:x<i):(hts (N.take i)).getD x 0=hF N x:=grow_getD hOf N i x 0 hi hx
theorem hF_rel (ha:AA N)(hi:i<N.length) :
  (∀x∈ins N[i],1+hF N x.toNat<=hF N i)/\(hF N i=1\/∃x∈ins N[i],hF N i=1+hF N x.toNat)/\1<=hF N i:=by
 have hA:=ha i hi;rw[hF_eq hi];generalize N[i]=n at *;unfold Ahead at hA;unfold hOf;unfold ins at *;by_cases h1:n.op=1
 ·simp[h1]
 ·by_cases h4:n.op=4\/n.op=5
  ·simp only[h1,h4,if_true,if_false]at *;have a1:=hA n.left (by simp);have a2:=hA n.right (by simp);rw[hF_take (by omega) (by omega),hF_take (by omega) (by omega)];refine⟨λx hx=>?_,?_,by omega⟩
   ·simp at hx;rcases hx with rfl|rfl<;>omega
   ·right;by_cases hm:hF N n.left.toNat<=hF N n.right.toNat
    ·exact⟨n.right,by simp,by omega⟩
    ·exact⟨n.left,by simp,by omega⟩
  ·simp only[h1,h4,if_false]at *;have a1:=hA n.left (by simp);rw[hF_take (by omega) (by omega)];refine⟨λx hx=>?_,?_,by omega⟩
   ·simp at hx;subst hx;omega
   ·exact Or.inr ⟨n.left,by simp,rfl⟩
def DeepRel (N:List VN)(d:Nat->Int)(m:Int):Prop:=d (N.length-1)=1/\(∀q (h:q<N.length),∀x∈ins N[q],d x.toNat=d q+1)/\(∀q,q<N.length->d q<=m)/\(m=1\/∃q,q<N.length/\d q=m)
def HighOK (N:List VN):Prop:=∀i,i<N.length->hF N i<=8
theorem deep_down (ha:AA N)(ho:Once N)(hd:DeepRel N d m):∀(k p:Nat),p+k+1=N.length->1<=d p/\d p+(hF N p:Int)<=(hF N (N.length-1):Int)+1:=by
 intro k
 induction k using Nat.strongRecOn with
 | _ k ih=>
  intro p hp;by_cases hr:k=0
  ·subst hr;rw[show p=N.length-1 from by omega,hd.1];omega
  ·obtain⟨q,hq,hpq,hx⟩:=asker ha ho (j:=p) (by omega);have h1:=hd.2.1 q hq _ hx;have h2:=(hF_rel ha hq).1 _ hx;have h3:=ih (N.length-1-q) (by omega) q (by omega);simp only[Int.toNat_natCast]at h1 h2;omega
theorem deep_up (ha:AA N)(hd:DeepRel N d m):∀(i:Nat),i<N.length->∃j,j<N.length/\d i+(hF N i:Int)<=d j+1:=by
 intro i
 induction i using Nat.strongRecOn with
 | _ i ih=>
  intro hi;obtain⟨_,h2,_⟩:=hF_rel ha hi;rcases h2 with h2|⟨x,hx,h2⟩
  ·exact⟨i,hi,by omega⟩
  ·have hb:=ha i hi x hx;have h1:=hd.2.1 i hi x hx;obtain⟨j,hj,h3⟩:=ih x.toNat (by omega) (by omega);exact⟨j,hj,by omega⟩
theorem deep_iff (ha:AA N)(ho:Once N)(hl:1<=N.length)(hd:DeepRel N d m):m<=8↔HighOK N:=by
 have hroot:=hd.1;constructor
 ·intro hm i hi;obtain⟨j,hj,h1⟩:=deep_up ha hd (N.length-1) (by omega);have h2:=hd.2.2.1 j hj;have h3:=deep_down ha ho hd (N.length-1-i) i (by omega);omega
 ·intro hh;rcases hd.2.2.2 with h|⟨q,hq,h⟩
  ·omega
  ·have h3:=deep_down ha ho hd (N.length-1-q) q (by omega);have h4:=hh (N.length-1) (by omega);have h5:=(hF_rel ha hq).2.2;omega
def JO (cols others left right:List Int):Prop:=1<=cols.length/\cols.length<=4/\others.length=cols.length/\∀i (h:i<cols.length) (h2:i<others.length),IC cols[i] left/\IC others[i] right/\cam left cols[i]=cam right others[i]
def Hg (T:List VT)(name:ByteArray):Prop:=∃i,∃h:i<T.length,T[i].name=name
def tY (T:List VT)(name:ByteArray):List Int:=((T.find? λt=>decide (t.name=name)).map VT.kinds).getD []
def cac (cs:List (List Int))(n:VN):List Int:=cs.getD n.left.toNat []
def cao (cs:List (List Int))(n:VN):List Int:=cs.getD n.right.toNat []
def NK (T:List VT)(cs:List (List Int))(n:VN):Prop:=
 if n.op=1 then Hg T n.table else if n.op=2 then Cc (cae n.keys) (cac cs n).length 1 else if n.op=3 then Cc (cae n.keys) (cac cs n).length 1/\0<=n.count/\n.count<=1000
 else if n.op=4\/n.op=5 then JO n.cols n.others (cac cs n) (cao cs n)else if n.op=6 then True else GR n.cols n.sums (cac cs n)
def nD (T:List VT)(cs:List (List Int))(n:VN):List Int:=
 if n.op=1 then tY T n.table else if n.op=4\/n.op=5 then cac cs n++cao cs n else if n.op=7 then groupL n.cols n.sums (cac cs n)else cac cs n
def caf (T:List VT)(N:List VN):List (List Int):=grow (nD T) N
def Sl (T:List VT)(N:List VN)(i:Nat):Prop:=∀h:i<N.length,NK T (caf T (N.take i)) N[i]/\1<=(nD T (caf T (N.take i)) N[i]).length/\(nD T (caf T (N.take i)) N[i]).length<=12
def CO (T:List VT)(N:List VN):Prop:=∀i,i<N.length->Sl T N i
def BR (op left right:Int)(tb:ByteArray)(keys:Nat)(count:Int)(cols others sums:Nat):Prop:=(op≠1->nilB tb=true)/\(op≠2->op≠3->keys=0)/\(op≠3->count=0)/\(op≠4->op≠5->op≠7->cols=0)/\(op≠4->op≠5->others=0)/\(op≠7->sums=0)/\(op=1->left=0)/\(op≠4->op≠5->right=0)
def BN (n:VN):Prop:=BR n.op n.left n.right n.table n.keys.length n.count n.cols.length n.others.length n.sums.length
def BO (n:VN):Prop:=(1<=n.op/\n.op<=7)/\BN n
def PK (v:V)(k:Int):Prop:=(v.k=0\/v.k=k)/\gB v=true
def Rl (r:List V)(ks:List Int):Prop:=r.length=ks.length/\∀i (h:i<r.length) (h2:i<ks.length),PK r[i] ks[i]
def Rf (rows:List (List V))(ks:List Int):Prop:=∀i (h:i<rows.length),Rl rows[i] ks
def TL (t:VT):Prop:=KO t.kinds/\Rf t.rows t.kinds
def TA (T:List VT):Prop:=∀i (h:i<T.length),TL T[i]
def Na (T:List VT):Prop:=∀i j (hi:i<T.length) (hj:j<T.length),i<j->T[i].name≠T[j].name
def Ns (N:List VN):Prop:=∀i (h:i<N.length),BO N[i]/\Ahead N[i] i
def Tc (N:List VN):Prop:=Ns N/\Once N/\HighOK N
def VO (T:List VT)(N:List VN):Prop:=(1<=N.length/\N.length<=12)/\Na T/\TA T/\Tc N/\CO T N
theorem Ns.ahead (h:Ns N):AA N:=λi hi=>(h i hi).2
def LP (l:List Int)(w:World):Ending->World->Prop:=λe w'=>∃ao cap,e=.returned (.slice ao l.length cap)/\(∀F:List Nat,(∀k∈F,k<w.heap.size)->IntsIn w' F (.slice ao l.length cap) l)/\Below w.heap.size w w'
theorem IntsIn.fresh (W:World)(H:Nat)(hH:W.heap.size=H)(l:List Int)(hl:l.length<=maxLen)(e:TypeId)(F:List Nat)(hF:∀k∈F,k<H):IntsIn (W.alloc (.cells (ints l).toArray e)) F (.slice (some ⟨H,0,none⟩) l.length l.length) l:=by
 subst hH;refine⟨_,_,rfl,e_ _,hl,by simp[ints],λ_=>⟨W.heap.size,0,rfl,λhm=>by have:=hF _ hm;omega,λj u hj=>?_⟩⟩;have e:(W.alloc (.cells (ints l).toArray e)).heap[W.heap.size]?=some (.cells (ints l).toArray e):=by rw[<-World.alloc_eq];simp
 simp only[World.cell?,e,U_];simpa using hj
theorem iP (w:World)(n:VN)(p:NP):Calls prog 124 #[nV n p] w (LP (ins n) w):=by
 obtain⟨op,lf,rt,tb,ks,ct,cols,ots,sums⟩:=n;obtain⟨kv,cv,ov,sv⟩:=p;unfold nV ins;simp only;go_enter func124,ntmps124;by_cases h1:op=1
 ·subst h1;go_wp2;go_ret;exact⟨none,0,rfl,λF _=>⟨none,0,rfl,by simp,by simp[maxLen],by simp[ints],λh=>by simp at h⟩,(Below.refl _ _).alloc (e_ _) _⟩
 ·by_cases h4:op=4\/op=5
  ·simp only[h1,h4,if_true,if_false];obtain rfl|rfl:=h4
   all_goals
    go_wp2;go_ret;exact⟨_,_,rfl,λF hF=>IntsIn.fresh _ (w.heap.size+1) (by simp) [lf,rt] (by simp[maxLen]) 3 F (λk hk=>by have:=hF k hk;omega),((Below.refl _ _).alloc (e_ _) _).alloc (by simp) _⟩
  ·simp only[h1,h4,if_false];have h4a:(op == 4)=false:=by simp;omega
   have h4b:(op == 5)=false:=by simp;omega
   have h1a:(op == 1)=false:=by simp;omega
   clear h4;go_wp2;go_ret;exact⟨_,_,rfl,λF hF=>IntsIn.fresh _ (w.heap.size+1) (by simp) [lf] (by simp[maxLen]) 3 F (λk hk=>by have:=hF k hk;omega),((Below.refl _ _).alloc (e_ _) _).alloc (by simp) _⟩
end Go.Proofs.YtjoinhljdbljaaaGreat.Old
