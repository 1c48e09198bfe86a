/- Rows and tables, and what follows. -/
import Derived.Test.YtjoinhljdbljaaaGreatOValQToOValO
import Derived.Test.YtjoinhljdbljaaaGreatOValL
set_option maxHeartbeats 4000000
set_option maxRecDepth 20000
namespace Go.Proofs.YtjoinhljdbljaaaGreat.Old
open Go.RowKit Go.Proofs.Tryz
variable {g k:Nat} {w w':World}
theorem snoc_pair {r:List V}{ks:List Int}(hk:k<r.length)(hk2:k<ks.length)(h:∀i (h:i<r.length) (h2:i<ks.length),i<k->PK r[i] ks[i])(hp:PK r[k] ks[k]):∀i (h:i<r.length) (h2:i<ks.length),i<k+1->PK r[i] ks[i]:=by
 intro i hi hi2 hik;by_cases e:i=k
 ·subst e;exact hp
 ·exact h i hi hi2 (by omega)
theorem up1d {o:Obj}(h:Below ((w.alloc o).drew).heap.size ((w.alloc o).drew) w'):Below w.heap.size w w':=(((Below.refl _ _).alloc (e_ _) o).drew).trans (h.mono (by simp))
theorem goodRows_any (w:World)(v u:Value)(rows:List (List V))(ks:List Int)(h:RowsIn w [] v rows)(h2:IntsIn w [] u ks)(hl:rows.length<=1048576)(hk:ks.length<=1048576) :
  Calls prog 97 #[v,u] w (BP (Rf rows ks) w):=by
 obtain⟨ao,cap,rfl,hc,hm,_⟩:=h.open;obtain⟨ao2,cap2,rfl,hc2,hm2,_⟩:=h2.open;have HR:Hid (RowsIn w [] (.slice ao rows.length cap) rows):=h;have HK:Hid (IntsIn w [] (.slice ao2 ks.length cap2) ks):=h2;clear h h2;have HG:Hid (∀(v:V) w,Calls prog 123 #[.agg #[.int .i64 v.k,.int .i64 v.n,.string v.s]] w λe w'=>e=.returned (.bool (gB v))/\Below w.heap.size w w'):=goodValue_any;go_enter func97,ntmps97;go_wp2
 go_loopw [11] (λj wr=>∃k:Nat,k<=rows.length/\j=.int .i64 k/\(∀i (h:i<rows.length),i<k->Rl rows[i] ks)/\Below w.heap.size w wr) (λj _=>rows.length-(intOf j).toNat)
 case atStart=>exact⟨0,by omega,rfl,λi _ h=>by omega,Below.refl _ _⟩
 case round=>
  obtain⟨k,hk,rfl,hall,hB⟩:=hrel;by_cases hlt:k<rows.length
  ·obtain⟨b,off,hao,hcell⟩:=(HR.out.step (su hB)).cells (by omega);subst hao;obtain⟨rv,c0,hrv⟩:=hcell k hlt;obtain⟨ao3,cap3,rfl,hc3,hm3,_⟩:=hrv.open;have HRV:Hid (VI wr [] (.slice ao3 rows[k].length cap3) rows[k]):=hrv;have HN:Hid (Rl rows[k] ks->∀i (h:i<rows.length),i<k+1->Rl rows[i] ks):=λhq=>sJ (P:=λq=>Rl q ks) hlt hall hq;have HF:Hid (¬Rl rows[k] ks->¬Rf rows ks):=λhq h=>hq (h k hlt);generalize rows[k]=r at *;clear hcell hrv hall;by_cases hlen:r.length=ks.length
   ·have hd:((r.length:Int) != (ks.length:Int))=false:=by simp[hlen]
    go_wp2_with fail
    obtain⟨w1,hw1⟩:∃w1,w1=wr:=⟨_,rfl⟩;subst hw1
    go_loopw [22] (λj wz=>∃k2:Nat,k2<=r.length/\j=.int .i64 k2/\(∀i (h:i<r.length) (h2:i<ks.length),i<k2->PK r[i] ks[i])/\Below w1.heap.size w1 wz) (λj _=>r.length-(intOf j).toNat)
    case atStart=>exact⟨0,by omega,rfl,λi _ _ h=>by omega,Below.refl _ _⟩
    case round=>
     obtain⟨k2,hk2,rfl,hall2,hB2⟩:=hrel;have hB3:=bG hB hB2;by_cases hlt2:k2<r.length
     ·obtain⟨b3,off3,hao3,hcell3⟩:=(HRV.out.step (su hB2)).cells (by omega);subst hao3;obtain⟨c1,c2,c3⟩:=hcell3 k2 hlt2;obtain⟨b4,off4,hao4,hcell4⟩:=(HK.out.step (su hB3)).cells (by omega);subst hao4;have c4:=hcell4 k2 (by omega);have hb4:b4<wr.heap.size:=World.block_lt_of_cell? wr _ c4;have HN2:Hid (PK r[k2] (ks[k2]'(by omega))->∀i (h:i<r.length) (h2:i<ks.length),i<k2+1->PK r[i] ks[i]):=λhq=>snoc_pair hlt2 (by omega) hall2 hq;have HF2:Hid (¬PK r[k2] (ks[k2]'(by omega))->¬Rf rows ks):=λhq=>HF.out λh=>hq (h.2 k2 hlt2 (by omega));generalize r[k2]=q at *;generalize ks[k2]'_=kd at *;obtain⟨vk,vn,vs⟩:=q;simp only at c1 c2 c3;clear hcell3 hcell4 hall2;by_cases hz:vk=0
      ·have hd0:(vk != 0)=false:=by simp[hz]
       cases hg:gB ⟨vk,vn,vs⟩
       ·have HF3:=HF2.out (λh=>by have:=h.2;rw[hg]at this;cases this);have HF4:Hid (¬Rf rows ks):=HF3;have HGG:Hid (gB ⟨vk,vn,vs⟩=false):=hg;clear HF3 HF2 HN2 hz hg
        go_wp2_with fail
        refine wp_region_any (by kernel_rfl) ?_;change wpAny _ _ _ _ _ _ _ (World.drew _);refine wpAny_ready (rs:=[0]) (by kernel_rfl) (by simp) ?_;refine AllReady.cons rfl (λK hK=>?_) AllReady.nil;go_simp;refine hK _ _ ?_;clear hK K;refine wpAny_ready (rs:=[1]) (by kernel_rfl) (by simp) ?_;refine AllReady.cons rfl (λK hK=>?_) AllReady.nil;go_simp;refine hK _ _ ?_;clear hK K;refine wpAny_ready (rs:=[2]) (by kernel_rfl) (by simp) ?_;refine AllReady.cons rfl (λK hK=>?_) AllReady.nil;go_simp;refine hK _ _ ?_;clear hK K;refine wpAny_ready (rs:=[3]) (by kernel_rfl) (by simp) ?_;refine AllReady.cons rfl (λK hK=>?_) AllReady.nil;go_simp;refine hK _ _ ?_;clear hK K;refine wpAny_take (i:=4) (v:=undef) rfl (by kernel_rfl) (by kernel_rfl) (by kernel_rfl) (λ_ _ _ h=>h) (Or.inr ⟨by rfl,rfl⟩) ?_;refine wpAny_take (i:=6) (v:=undef) rfl (by kernel_rfl) (by kernel_rfl) (by kernel_rfl) (λ_ _ _ h=>h) (Or.inr ⟨by rfl,rfl⟩) ?_;refine wpAny_take (i:=7) (v:=undef) rfl (by kernel_rfl) (by kernel_rfl) (by kernel_rfl) (λ_ _ _ h=>h) (Or.inr ⟨by rfl,rfl⟩) ?_;refine wpAny_take (i:=5) (v:=undef) rfl (by kernel_rfl) (by kernel_rfl) (by kernel_rfl) (λ_ _ _ h=>h) (Or.inr ⟨by rfl,rfl⟩) ?_;refine wpAny_take (i:=8) (v:=undef) rfl (by kernel_rfl) (by kernel_rfl) (by kernel_rfl) (λ_ _ _ h=>h) (Or.inr ⟨by rfl,rfl⟩) ?_;refine wpAny_take (i:=9) (v:=undef) rfl (by kernel_rfl) (by kernel_rfl) (by kernel_rfl) (λ_ _ _ h=>h) (Or.inr ⟨by rfl,rfl⟩) ?_;refine wpAny_take (i:=10) (v:=undef) rfl (by kernel_rfl) (by kernel_rfl) (by kernel_rfl) (λ_ _ _ h=>h) (Or.inr ⟨by rfl,rfl⟩) ?_;refine wpAny_ready (rs:=[11]) (by kernel_rfl) (by simp) ?_;refine AllReady.cons rfl (λK hK=>?_) AllReady.nil;go_simp;refine hK _ _ ?_;clear hK K;refine wpAny_ready (rs:=[12]) (by kernel_rfl) (by simp) ?_;refine AllReady.cons rfl (λK hK=>?_) AllReady.nil;go_simp;refine hK _ _ ?_;clear hK K;refine wpAny_ready (rs:=[13]) (by kernel_rfl) (by simp) ?_;refine AllReady.cons rfl (λK hK=>?_) AllReady.nil;go_simp;refine hK _ _ ?_;clear hK K;refine wpAny_ready (rs:=[14]) (by kernel_rfl) (by simp) ?_;refine AllReady.cons rfl (λK hK=>?_) AllReady.nil;go_simp
        go_wp2_with (go_at_call 123;refine(HG.out ⟨vk,vn,vs⟩ _).mono ?_;rintro e w5 ⟨rfl,hB5⟩;rw[HGG.out])
        refine wpAny_ready (rs:=[15]) (by kernel_rfl) (by simp) ?_;refine AllReady.cons rfl (λK hK=>?_) AllReady.nil;go_simp;refine hK _ _ ?_;clear hK K;refine wpAny_ready (rs:=[16]) (by kernel_rfl) (by simp) ?_;refine AllReady.cons rfl (λK hK=>?_) AllReady.nil;go_simp;refine hK _ _ ?_;clear hK K;refine wpAny_done (by kernel_rfl) ?_ _;have hB6:=up1d hB5;go_wp2;go_ret;exact BP.no HF4.out (bG hB3 hB6)
       ·have HN3:=HN2.out ⟨Or.inl hz,hg⟩;have HN4:Hid (∀i (h:i<r.length) (h2:i<ks.length),i<k2+1->PK r[i] ks[i]):=HN3;have HGG:Hid (gB ⟨vk,vn,vs⟩=true):=hg;clear HN3 hz HF2 HN2 hg
        go_wp2_with fail
        refine wp_region_any (by kernel_rfl) ?_;change wpAny _ _ _ _ _ _ _ (World.drew _);refine wpAny_ready (rs:=[0]) (by kernel_rfl) (by simp) ?_;refine AllReady.cons rfl (λK hK=>?_) AllReady.nil;go_simp;refine hK _ _ ?_;clear hK K;refine wpAny_ready (rs:=[1]) (by kernel_rfl) (by simp) ?_;refine AllReady.cons rfl (λK hK=>?_) AllReady.nil;go_simp;refine hK _ _ ?_;clear hK K;refine wpAny_ready (rs:=[2]) (by kernel_rfl) (by simp) ?_;refine AllReady.cons rfl (λK hK=>?_) AllReady.nil;go_simp;refine hK _ _ ?_;clear hK K;refine wpAny_ready (rs:=[3]) (by kernel_rfl) (by simp) ?_;refine AllReady.cons rfl (λK hK=>?_) AllReady.nil;go_simp;refine hK _ _ ?_;clear hK K;refine wpAny_take (i:=4) (v:=undef) rfl (by kernel_rfl) (by kernel_rfl) (by kernel_rfl) (λ_ _ _ h=>h) (Or.inr ⟨by rfl,rfl⟩) ?_;refine wpAny_take (i:=6) (v:=undef) rfl (by kernel_rfl) (by kernel_rfl) (by kernel_rfl) (λ_ _ _ h=>h) (Or.inr ⟨by rfl,rfl⟩) ?_;refine wpAny_take (i:=7) (v:=undef) rfl (by kernel_rfl) (by kernel_rfl) (by kernel_rfl) (λ_ _ _ h=>h) (Or.inr ⟨by rfl,rfl⟩) ?_;refine wpAny_take (i:=5) (v:=undef) rfl (by kernel_rfl) (by kernel_rfl) (by kernel_rfl) (λ_ _ _ h=>h) (Or.inr ⟨by rfl,rfl⟩) ?_;refine wpAny_take (i:=8) (v:=undef) rfl (by kernel_rfl) (by kernel_rfl) (by kernel_rfl) (λ_ _ _ h=>h) (Or.inr ⟨by rfl,rfl⟩) ?_;refine wpAny_take (i:=9) (v:=undef) rfl (by kernel_rfl) (by kernel_rfl) (by kernel_rfl) (λ_ _ _ h=>h) (Or.inr ⟨by rfl,rfl⟩) ?_;refine wpAny_take (i:=10) (v:=undef) rfl (by kernel_rfl) (by kernel_rfl) (by kernel_rfl) (λ_ _ _ h=>h) (Or.inr ⟨by rfl,rfl⟩) ?_;refine wpAny_ready (rs:=[11]) (by kernel_rfl) (by simp) ?_;refine AllReady.cons rfl (λK hK=>?_) AllReady.nil;go_simp;refine hK _ _ ?_;clear hK K;refine wpAny_ready (rs:=[12]) (by kernel_rfl) (by simp) ?_;refine AllReady.cons rfl (λK hK=>?_) AllReady.nil;go_simp;refine hK _ _ ?_;clear hK K;refine wpAny_ready (rs:=[13]) (by kernel_rfl) (by simp) ?_;refine AllReady.cons rfl (λK hK=>?_) AllReady.nil;go_simp;refine hK _ _ ?_;clear hK K;refine wpAny_ready (rs:=[14]) (by kernel_rfl) (by simp) ?_;refine AllReady.cons rfl (λK hK=>?_) AllReady.nil;go_simp
        go_wp2_with (go_at_call 123;refine(HG.out ⟨vk,vn,vs⟩ _).mono ?_;rintro e w5 ⟨rfl,hB5⟩;rw[HGG.out])
        refine wpAny_ready (rs:=[15]) (by kernel_rfl) (by simp) ?_;refine AllReady.cons rfl (λK hK=>?_) AllReady.nil;go_simp;refine hK _ _ ?_;clear hK K;refine wpAny_ready (rs:=[16]) (by kernel_rfl) (by simp) ?_;refine AllReady.cons rfl (λK hK=>?_) AllReady.nil;go_simp;refine hK _ _ ?_;clear hK K;refine wpAny_done (by kernel_rfl) ?_ _;have hB6:=up1d hB5;go_wp2
        go_roundw
        case rel=>exact⟨k2+1,by omega,by go_num,HN4.out,bG hB2 hB6⟩
        case measure=>simp[intOf];omega
      ·have hd0:(vk != 0)=true:=by simp[hz]
       by_cases hk:vk=kd
       ·have hd1:(vk != kd)=false:=by simp[hk]
        cases hg:gB ⟨vk,vn,vs⟩
        ·have HF3:=HF2.out (λh=>by have:=h.2;rw[hg]at this;cases this);have HF4:Hid (¬Rf rows ks):=HF3;have HGG:Hid (gB ⟨vk,vn,vs⟩=false):=hg;clear HF3 HF2 HN2 hz hk hg
         go_wp2_with fail
         first
          | (go_region_with (go_at_call 123;refine(HG.out ⟨vk,vn,vs⟩ _).mono ?_;rintro e w5 ⟨rfl,hB5⟩;rw[HGG.out]))
          | fail
         all_goals
          have hB6:=up1d hB5;go_wp2;go_ret;exact BP.no HF4.out (bG hB3 hB6)
        ·have HN3:=HN2.out ⟨Or.inr hk,hg⟩;have HN4:Hid (∀i (h:i<r.length) (h2:i<ks.length),i<k2+1->PK r[i] ks[i]):=HN3;have HGG:Hid (gB ⟨vk,vn,vs⟩=true):=hg;clear HN3 hk hz HF2 HN2 hg
         go_wp2_with fail
         first
          | (go_region_with (go_at_call 123;refine(HG.out ⟨vk,vn,vs⟩ _).mono ?_;rintro e w5 ⟨rfl,hB5⟩;rw[HGG.out]))
          | fail
         all_goals
          have hB6:=up1d hB5;go_wp2
          go_roundw
          case rel=>exact⟨k2+1,by omega,by go_num,HN4.out,bG hB2 hB6⟩
          case measure=>simp[intOf];omega
       ·have hd1:(vk != kd)=true:=by simp[hk]
        have HF3:=HF2.out (λh=>by rcases h.1 with h|h;exact hz h;exact hk h);have HF4:Hid (¬Rf rows ks):=HF3;clear HF3 hk hz HF2 HN2
        go_wp2_with fail
        first
         | (go_region_with fail)
         | fail
        all_goals
         go_wp2;go_ret;exact BP.no HF4.out ((hB3.alloc hB3.size _).drew)
     ·have hT:Rl r ks:=⟨hlen,λi h h2=>hall2 i h h2 (by omega)⟩;have HN3:=HN.out hT;have HN4:Hid (∀i (h:i<rows.length),i<k+1->Rl rows[i] ks):=HN3;clear HN3 hT hall2;go_wp2
      go_roundw
      case rel=>exact⟨k+1,by omega,by go_num,HN4.out,hB3⟩
      case measure=>simp[intOf];omega
   ·have hd:((r.length:Int) != (ks.length:Int))=true:=by rw[bne_iff_ne];omega
    go_wp2;go_ret;exact BP.no (HF.out λh=>hlen h.1) hB
  ·have HT:Hid (Rf rows ks):=λi hi=>hall i hi (by omega);clear hall;go_wp2;go_ret;exact BP.yes HT.out hB
theorem calls_at {P:Program}{f:FuncId}{args:Array Value}{Q:Ending->World->Prop}(Φ:World->Prop)(h0:Φ w)(h:∀W,Φ W->Calls P f args W Q):Calls P f args w Q:=h w h0
def Tm (t:VT):Prop:=t.kinds.length<=1048576/\t.rows.length<=1048576
theorem goodTables_any (w:World)(v:Value)(T:List VT)(h:TI w [] v T)(hl:T.length<=1048576)(hs:∀i (h:i<T.length),Tm T[i]) :
  Calls prog 75 #[v] w (BP (TA T) w):=by
 obtain⟨ao,cap,rfl,hc,hm,hx⟩:=h.open;have HV:Hid (TI w [] (.slice ao T.length cap) T):=h;have HS:Hid (∀i (h:i<T.length),Tm T[i]):=hs;clear h hx hs;have HK:Hid (∀w v l,IntsIn w [] v l->l.length<=1048576->Calls prog 96 #[v] w (BP (KO l) w)):=goodKinds_any;have HR:Hid (∀w v u rows ks,RowsIn w [] v rows->IntsIn w [] u ks->rows.length<=1048576->ks.length<=1048576->Calls prog 97 #[v,u] w (BP (Rf rows ks) w)):=goodRows_any;go_enter func75,ntmps75;go_wp2
 go_loopw [7] (λj wr=>∃k:Nat,k<=T.length/\j=.int .i64 k/\(∀i (h:i<T.length),i<k->TL T[i])/\Below w.heap.size w wr) (λj _=>T.length-(intOf j).toNat)
 case atStart=>exact⟨0,by omega,rfl,λi _ h=>by omega,Below.refl _ _⟩
 case round=>
  obtain⟨k,hk,rfl,hall,hB⟩:=hrel;by_cases hlt:k<T.length
  ·obtain⟨b,off,hao,hcell⟩:=(HV.out.step (su hB)).cells (by omega);subst hao;obtain⟨kv,rv,c0,c1,c2,hkv,hrv⟩:=hcell k hlt;have HN:Hid (TL T[k]->∀i (h:i<T.length),i<k+1->TL T[i]):=λhq=>sJ (P:=TL) hlt hall hq;have HF:Hid (¬TL T[k]->¬TA T):=λhq h=>hq (h k hlt);have HSm:Hid (Tm T[k]):=HS.out k hlt;generalize T[k]=t at *;obtain⟨nm,kinds,rows⟩:=t;simp only at *;obtain⟨ko,kP,rfl,_,_,g1⟩:=hkv.open;clear g1;obtain⟨ro,rP,rfl,_,_,g2⟩:=hrv.open;clear g2;have HKV:Hid (IntsIn wr [] (.slice ko kinds.length kP) kinds):=hkv;have HRV:Hid (RowsIn wr [] (.slice ro rows.length rP) rows):=hrv;clear hcell hall hkv hrv
   go_wp2_with fail
   refine calls_at (λW=>Below wr.heap.size wr W/\W.cell? ⟨wr.heap.size,1,none⟩=some (.slice ko kinds.length kP)/\W.cell? ⟨wr.heap.size,2,none⟩=some (.slice ro rows.length rP)/\wr.heap.size<W.heap.size) ⟨by repeat (first|exact Below.refl _ _|refine Below.alloc ?_ (by first|exact e_ _|simp) _|refine Below.setCell ?_ (by simp) _),by simp,by simp,by simp⟩ ?_;rintro W ⟨hBW,x1,x2,hszW⟩;refine(HK.out W _ kinds (HKV.out.step (su hBW)) HSm.out.1).mono ?_;rintro e w1 ⟨b1,rfl,hb1,hB1⟩;have y1:=(hB1.cell (p:=⟨wr.heap.size,1,none⟩) hszW).trans x1;have y2:=(hB1.cell (p:=⟨wr.heap.size,2,none⟩) hszW).trans x2;have hB2:=bG hBW hB1;have HKV2:Hid (IntsIn w1 [] (.slice ko kinds.length kP) kinds):=HKV.out.step (su hB2);have HRV2:Hid (RowsIn w1 [] (.slice ro rows.length rP) rows):=HRV.out.step (su hB2);have hB3:=bG hB hB2;clear x1 x2 c0 c1 c2 hB1 hBW HKV HRV;by_cases hk1:KO kinds
   ·obtain rfl:b1=true:=hb1.2 hk1;have HK1:Hid (KO kinds):=hk1;clear hk1 hb1;by_cases hr1:Rf rows kinds
    ·have HNN:=HN.out ⟨HK1.out,hr1⟩;have HN2:Hid (∀i (h:i<T.length),i<k+1->TL T[i]):=HNN;have HR1:Hid (Rf rows kinds):=hr1;clear hr1 HNN
     go_wp2_with (go_at_call 97;refine(HR.out w1 _ _ rows kinds HRV2.out HKV2.out HSm.out.2 HSm.out.1).mono ?_;rintro e w4 ⟨b4,rfl,hb4,hB4⟩;obtain rfl:b4=true:=hb4.2 HR1.out;clear hb4)
     go_roundw
     case rel=>exact⟨k+1,by omega,by go_num,HN2.out,bG hB3 hB4⟩
     case measure=>simp[intOf];omega
    ·have HFF:=HF.out (λh=>hr1 h.2);have HF2:Hid (¬TA T):=HFF;have HR1:Hid (¬Rf rows kinds):=hr1;clear hr1 HFF
     go_wp2_with (go_at_call 97;refine(HR.out w1 _ _ rows kinds HRV2.out HKV2.out HSm.out.2 HSm.out.1).mono ?_;rintro e w4 ⟨b4,rfl,hb4,hB4⟩;obtain rfl:b4=false:=(by rw[<-Bool.not_eq_true,hb4];exact HR1.out);clear hb4)
     go_ret;exact BP.no HF2.out (bG hB3 hB4)
   ·obtain rfl:b1=false:=by rw[<-Bool.not_eq_true,hb1];exact hk1
    have HFF:=HF.out (λh=>hk1 h.1);have HF2:Hid (¬TA T):=HFF;clear hk1 hb1 HFF;go_wp2;go_ret;exact BP.no HF2.out hB3
  ·have HT:Hid (TA T):=λi hi=>hall i hi (by omega);clear hall;go_wp2;go_ret;exact BP.yes HT.out hB
def Box9 (w:World)(g:Nat)(cs:List Value):Prop:=g<w.heap.size/\∀(r:Nat) (u:Value),cs[r]?=some u->w.cell? ⟨g,r,none⟩=some u
theorem Box9.new (w:World)(cs:List Value)(e:TypeId):Box9 (w.alloc (.cells cs.toArray e)) w.heap.size cs:=by
 refine⟨by simp,λr u hr=>?_⟩;have e:(w.alloc (.cells cs.toArray e)).heap[w.heap.size]?=some (.cells cs.toArray e):=by rw[<-World.alloc_eq];simp
 simp only[World.cell?,e];simpa using hr
theorem Box9.b {cs:List Value}(h:Box9 w g cs)(hb:Below w.heap.size w w'):Box9 w' g cs:=
 ⟨s_ h.1 hb.size,λr u hr=>(hb.cell (p:=⟨g,r,none⟩) h.1).trans (h.2 r u hr)⟩
theorem isTree_any (w:World)(v:Value)(N:List VN)(h:NI w [] v N)(hl1:1<=N.length)(hl:N.length<=12) :
  Calls prog 76 #[v] w (BP (Tc N) w):=by
 obtain⟨ao,cap,rfl,hc,hm,hx⟩:=h.open;have HV:Hid (NI w [] (.slice ao N.length cap) N):=h;clear h hx;have HO:Hid (∀(w:World) (n:VN) (p:NP),Nb w [] p n->Calls prog 98 #[nV n p] w (BP (BO n) w)):=otherFields_any;have HA:Hid (∀(w:World) (n:VN) (p:NP) (i:Nat),Calls prog 99 #[nV n p,.int .i64 (i:Int)] w (BP (Ahead n i) w)):=inputsAhead_any;have HE:Hid (∀w v N,NI w [] v N->1<=N.length->N.length<=12->AA N->Calls prog 100 #[v] w (BP (Once N) w)):=eachAskedOnce_any;have HD:Hid (∀w v N,NI w [] v N->1<=N.length->N.length<=12->AA N->Once N->Calls prog 101 #[v] w (DeepPost (HighOK N) w)):=deepest_any;go_enter func76,ntmps76;go_wp2
 go_loopw [7] (λj wr=>∃k:Nat,k<=N.length/\j=.int .i64 k/\(∀i (h:i<N.length),i<k->BO N[i]/\Ahead N[i] i)/\Below w.heap.size w wr) (λj _=>N.length-(intOf j).toNat)
 case atStart=>exact⟨0,by omega,rfl,λi _ h=>by omega,Below.refl _ _⟩
 case round=>
  obtain⟨k,hk,rfl,hall,hB⟩:=hrel;by_cases hlt:k<N.length
  ·obtain⟨b,off,hao,hcell⟩:=(HV.out.step (su hB)).cells9 (by omega);subst hao;obtain⟨p,hp,c0,c1,c2,c3,c4,c5,c6,c7,c8⟩:=hcell k hlt;have HN:Hid (BO N[k]/\Ahead N[k] k->∀i (h:i<N.length),i<k+1->BO N[i]/\Ahead N[i] i):=by
    intro hq i hi hik;by_cases e:i=k
    ·subst e;exact hq
    ·exact hall i hi (by omega)
   have HF:Hid (¬(BO N[k]/\Ahead N[k] k)->¬Tc N):=λhq h=>hq (h.1 k hlt);have HOk:Hid (∀w,Nb w [] p N[k]->Calls prog 98 #[nV N[k] p] w (BP (BO N[k]) w)):=λw h=>HO.out _ _ _ h;have HAk:Hid (∀w,Calls prog 99 #[nV N[k] p,.int .i64 (k:Int)] w (BP (Ahead N[k] k) w)):=λw=>HA.out _ _ _ _;have HNI:Hid (∀W,Below wr.heap.size wr W->Nb W [] p N[k]):=λW hW=>hp.step (su hW);generalize BO N[k]=PB at *;generalize Ahead N[k] k=PA at *;clear hcell hall;generalize N[k]=n at *;obtain⟨op,lf,rt,tb,ks,ct,cols,ots,sums⟩:=n;obtain⟨kv,cv,ov,sv⟩:=p;unfold nV at HOk HAk;obtain⟨hp1,hp2,hp3,hp4⟩:=hp;simp only at *;obtain⟨ko,kP,rfl,_,_,g1⟩:=hp1.open;clear g1;obtain⟨co,ccap,rfl,_,_,g2⟩:=hp2.open;clear g2;obtain⟨oo,oC,rfl,_,_,g3⟩:=hp3.open;clear g3;obtain⟨so,scap,rfl,_,_,g4⟩:=hp4.open;clear g4 hp1 hp2 hp3 hp4
   go_wp2_with fail
   refine calls_at (λW=>Below wr.heap.size wr W/\Box9 W wr.heap.size (nC ⟨op,lf,rt,tb,ks,ct,cols,ots,sums⟩ (.slice ko ks.length kP,.slice co cols.length ccap,.slice oo ots.length oC,.slice so sums.length scap))) ⟨(Below.refl _ _).alloc (e_ _) _,Box9.new _ _ _⟩ ?_;rintro W ⟨hBW,hbx⟩;refine(HOk.out W (HNI.out W hBW)).mono ?_;rintro e w1 ⟨b1,rfl,hb1,hB1⟩;have hby:=hbx.b hB1;have y0:=hby.2 0 _ rfl;have y1:=hby.2 1 _ rfl;have y2:=hby.2 2 _ rfl;have y3:=hby.2 3 _ rfl;have y4:=hby.2 4 _ rfl;have y5:=hby.2 5 _ rfl;have y6:=hby.2 6 _ rfl;have y7:=hby.2 7 _ rfl;have y8:=hby.2 8 _ rfl;have hB3:=bG hB (bG hBW hB1);clear hby hbx hB1 hBW c0 c1 c2 c3 c4 c5 c6 c7 c8 HNI;by_cases hb:PB
   ·obtain rfl:b1=true:=hb1.2 hb;clear hb1;by_cases ha:PA
    ·have HN2:Hid (∀i (h:i<N.length),i<k+1->BO N[i]/\Ahead N[i] i):=HN.out ⟨hb,ha⟩;have HPA:Hid PA:=ha;clear hb ha
     go_wp2_with (go_at_call 99;refine(HAk.out _).mono ?_;rintro e w4 ⟨b4,rfl,hb4,hB4⟩;obtain rfl:b4=true:=hb4.2 HPA.out;clear hb4)
     go_roundw
     case rel=>exact⟨k+1,by omega,by go_num,HN2.out,bG hB3 hB4⟩
     case measure=>simp[intOf];omega
    ·have HF2:Hid (¬Tc N):=HF.out (λh=>ha h.2);have HPA:Hid (¬PA):=ha;clear hb ha
     go_wp2_with (go_at_call 99;refine(HAk.out _).mono ?_;rintro e w4 ⟨b4,rfl,hb4,hB4⟩;obtain rfl:b4=false:=(by rw[<-Bool.not_eq_true,hb4];exact HPA.out);clear hb4)
     go_ret;exact BP.no HF2.out (bG hB3 hB4)
   ·have HF2:Hid (¬Tc N):=HF.out (λh=>hb h.1);obtain rfl:b1=false:=by rw[<-Bool.not_eq_true,hb1];exact hb
    clear hb hb1;go_wp2;go_ret;exact BP.no HF2.out hB3
  ·have Hq:Hid (Ns N):=λi hi=>hall i hi (by omega);have HAA:Hid (AA N):=Hq.out.ahead;have HV2:Hid (NI wr [] (.slice ao N.length cap) N):=HV.out.step (su hB);clear hall;by_cases ho:Once N
   ·have HOO:Hid (Once N):=ho;clear ho
    go_wp2_with (first|(go_at_call 100;refine(HE.out _ _ N HV2.out hl1 hl HAA.out).mono ?_;rintro e w1 ⟨b1,rfl,hb1,hB1⟩;obtain rfl:b1=true:=hb1.2 HOO.out;clear hb1)|(go_at_call 101;refine(HD.out _ _ N (HV2.out.step (su hB1)) hl1 hl HAA.out HOO.out).mono ?_;rintro e w2 ⟨m,rfl,hm2,hB2⟩))
    go_ret;refine⟨decide (m<=8),rfl,?_,bG (bG hB hB1) hB2⟩;rw[decide_eq_true_iff,hm2];exact⟨λh=>⟨Hq.out,HOO.out,h⟩,λh=>h.2.2⟩
   ·have HOO:Hid (¬Once N):=ho;have HF:Hid (¬Tc N):=λh=>ho h.2.1;clear ho
    go_wp2_with (go_at_call 100;refine(HE.out _ _ N HV2.out hl1 hl HAA.out).mono ?_;rintro e w1 ⟨b1,rfl,hb1,hB1⟩;obtain rfl:b1=false:=(by rw[<-Bool.not_eq_true,hb1];exact HOO.out);clear hb1)
    go_ret;exact BP.no HF.out (bG hB hB1)
end Go.Proofs.YtjoinhljdbljaaaGreat.Old
