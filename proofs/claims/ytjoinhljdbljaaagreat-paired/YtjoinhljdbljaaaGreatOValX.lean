/- Two lists of numbers, one behind the other. -/
import Derived.Test.YtjoinhljdbljaaaGreatOValDToOValK
import Derived.Lib.AppendZeros
set_option maxHeartbeats 4000000
set_option maxRecDepth 20000
namespace Go.Proofs.YtjoinhljdbljaaaGreat.Old
open Go.RowKit Go.Proofs.Tryz
theorem Grow_any (w:World)(n:Nat)(h1:1<=n)(h2:n<=1000):Calls prog 195 #[.slice none 0 0,.int .i64 (n:Int)] w λe w'=>∃v,e=.returned v/\OI w' w.heap.size v []/\Below w.heap.size w w':=by
 obtain⟨i0,hi0,hz0,hz1,hz2⟩:=info_parts info3;have happ:=Lib.run_append_nil_zeros (P:=prog) w 37 3 37 3 i0 (.int .i64 0) .i64 .i64 underlying37 underlying3 hi0 hz0 n (by omega) (by omega) (by omega) (by rw[hz2];omega);generalize hcap:grownCap w n 0 3=cap2 at happ;have hcapge:n<=cap2:=by rw[<-hcap];exact grownCap_ge w _ 0 3
 have hcaple:cap2<=maxLen:=by rw[<-hcap];exact grownCap_le_maxLen w _ 0 3 (by unfold maxLen;omega)
 generalize hZ:(Builtin.zeroCells (Value.int .i64 0).cells n++Builtin.zeroCells (Value.int .i64 0).cells (cap2-n))=Z at happ;have hZs:Z.size=cap2:=by rw[<-hZ];simp[size_zeroCells,Value.cells];omega
 clear hcap hZ hi0 hz0 hz1 hz2;have HA:Hid _:=happ;clear happ;have HO:Hid (OI (w.drew.alloc (.cells Z 3)) w.heap.size (.slice (some ⟨w.heap.size,0,none⟩) 0 cap2) []):=by
  refine⟨by simp[ints],Or.inr ⟨w.heap.size,cap2,Z,rfl,e_ _,?_,x_ _,hcaple,by omega,by simp[ints]⟩⟩;exact heap_alloc_new w.drew _
 go_enter func195,ntmps195
 go_wp2_with (at_builtin;refine Lib.wpList_append_run _ rfl _ _ _ _ rfl _ _ rfl rfl _ _ HA.out ?_)
 go_ret;exact⟨_,rfl,HO.out,((Below.refl _ _).alloc (e_ _) _).drew⟩
theorem ints_news {w:World}{b off:Nat}{l:List Int}(hx:∀i (h:i<l.length),w.cell? ⟨b,off+i,none⟩=some (.int .i64 l[i])):∀j u,(ints l)[j]?=some u->w.cell? ((⟨b,off,none⟩:Addr).add j)=some u:=by
 intro j u hj;have hlt:j<l.length:=by have:=(l_.1 hj).1;simpa[ints]using this
 have hadd:(⟨b,off,none⟩:Addr).add j=⟨b,off+j,none⟩:=by unfold Addr.add;split<;>simp_all
 rw[hadd,hx j hlt,<-hj];simp[ints,hlt]
def two (left right:List Int)(k:Nat):List Int:=if k=0 then[]else if k=1 then left else left++right
theorem Concat_any (w:World)(b:Nat)(lv rv:Value)(left right:List Int)(c0:w.cell? ⟨b,0,none⟩=some lv)(c1:w.cell? ⟨b,1,none⟩=some rv)(h1:IntsIn w [] lv left)(h2:IntsIn w [] rv right)
  (hl1:1<=left.length) (hl2:left.length<=100) (hr1:1<=right.length) (hr2:right.length<=100):Calls prog 160 #[.slice (some ⟨b,0,none⟩) 2 2] w (LP (left++right) w):=by
 obtain⟨ao,cap,rfl,hc,hm,g1⟩:=h1.open;obtain⟨ao2,cap2,rfl,hc2,hm2,g2⟩:=h2.open;clear g1 g2;have hbw:b<w.heap.size:=World.block_lt_of_cell? w _ c0;have HL:Hid (IntsIn w [] (.slice ao left.length cap) left):=h1;have HR:Hid (IntsIn w [] (.slice ao2 right.length cap2) right):=h2;clear h1 h2;have HG:Hid (∀w (n:Nat),1<=n->n<=1000->Calls prog 195 #[.slice none 0 0,.int .i64 (n:Int)] w λe w'=>∃v,e=.returned v/\OI w' w.heap.size v []/\Below w.heap.size w w'):=Grow_any;go_enter func160,ntmps160;go_wp2
 go_loopw [3,11] (λs j wr=>∃k:Nat,k<=2/\j=.int .i64 k/\s=.int .i64 ((two left right k).length:Int)/\wr=w) (λ_ j _=>2-(intOf j).toNat)
 case atStart=>exact⟨0,by omega,rfl,rfl,rfl⟩
 case round=>
  obtain⟨k,hk,rfl,rfl,hw⟩:=hrel;subst hw;obtain rfl|rfl|rfl:k=0\/k=1\/k=2:=by omega
  ·have e1:(two left right 0).length=0:=rfl;rw[e1];have e2:Hid ((two left right 1).length=left.length):=rfl;go_wp2
   go_roundw
   case rel=>exact⟨1,by omega,by go_num,by rw[e2.out],trivial⟩
   case measure=>simp[intOf]
  ·have e1:(two left right 1).length=left.length:=rfl;rw[e1];have e2:Hid ((two left right 2).length=left.length+right.length):=by show(left++right).length=_;simp
   go_wp2
   go_roundw
   case rel=>exact⟨2,by omega,by go_num,by rw[e2.out];go_num,trivial⟩
   case measure=>simp[intOf]
  ·have e1:(two left right 2).length=left.length+right.length:=by show(left++right).length=_;simp
   rw[e1];clear e1;obtain⟨w0,hw0⟩:∃w0,w0=wr:=⟨_,rfl⟩;subst hw0
   go_wp2_with (go_at_call 195;refine(HG.out _ _ (by omega) (by omega)).mono ?_;rintro e w1 ⟨o1,rfl,hO1,hB1⟩)
   go_loopw [6,27] (λo j wr=>∃k:Nat,k<=2/\j=.int .i64 k/\OI wr w0.heap.size o (two left right k)/\Below w0.heap.size w0 wr) (λ_ j _=>2-(intOf j).toNat)
   case atStart=>exact⟨0,by omega,rfl,hO1,hB1⟩
   case round=>
    obtain⟨k,hk,rfl,hO,hB⟩:=hrel;clear hO1 hB1;have hsz:=hB.size;have y0:=(hB.cell (p:=⟨b,0,none⟩) hbw).trans c0;have y1:=(hB.cell (p:=⟨b,1,none⟩) hbw).trans c1;obtain rfl|rfl|rfl:k=0\/k=1\/k=2:=by omega
    ·obtain⟨bl,offl,hao,hcell⟩:=(HL.out.step (su hB)).cells (by omega);subst hao;have HNW:Hid _:=ints_news hcell;clear hcell
     go_wp2_with (at_builtin;refine iR rfl (.tmp 31) (.tmp 32) rfl w0.heap.size _ _ rfl hO _ left cap rfl HNW.out (by show 0+_<=_;omega) (by omega) ?_;intro v' w5 hO5 hB5)
     go_roundw
     case rel=>exact⟨1,by omega,by go_num,hO5,hB.trans hB5⟩
     case measure=>simp[intOf]
    ·obtain⟨bl,offl,hao,hcell⟩:=(HR.out.step (su hB)).cells (by omega);subst hao;have HNW:Hid _:=ints_news hcell;clear hcell
     go_wp2_with (at_builtin;refine iR rfl (.tmp 31) (.tmp 32) rfl w0.heap.size _ _ rfl hO _ right cap2 rfl HNW.out (by show left.length+_<=_;omega) (by omega) ?_;intro v' w5 hO5 hB5)
     go_roundw
     case rel=>exact⟨2,by omega,by go_num,hO5,hB.trans hB5⟩
     case measure=>simp[intOf]
    ·have hin:=hO.in;obtain⟨ao5,cap5,e5,_,_,_⟩:=hin.open;subst e5;have HIN:Hid (∀F:List Nat,(∀k∈F,k<w0.heap.size)->IntsIn wr F (.slice ao5 (left++right).length cap5) (left++right)):=λF hF=>hO.inF hF;have HE:Hid ((two left right 2).length=(left++right).length):=rfl;clear hO hin;go_wp2;go_ret;exact⟨ao5,cap5,rfl,HIN.out,hB⟩
end Go.Proofs.YtjoinhljdbljaaaGreat.Old
