/- An item of a heap of entries goes up to its place, and what follows. -/
import Derived.Test.YtjoinhljdbljaaaGreatHepA
import Derived.BigRegion
set_option maxHeartbeats 4000000
set_option maxRecDepth 20000
namespace Go.Proofs.YtjoinhljdbljaaaGreat
open Go.RowKit Go.Proofs.Tryz
variable {L:List EV} {W a b c w w' w4:World} {bs cap ci cj g i j n ph ps:Nat} {ks:List K} {oi oj:Option Addr} {v:Value}
theorem swapL_mem {α:Type}{l:List α}{hi:i<l.length}{hj:j<l.length}:∀x∈sK l i j hi hj,x∈l:=λ_ hx=>(sQ l i j hi hj).mem_iff.1 hx
def SUp (w:World)(ph g cap bs ps:Nat)(ks:List K)(L:List EV)(k:Nat)(wr:World):Prop:=
 ∃L',Ht wr ph g cap bs ps ks L'/\L'.Perm L/\Un (lT ks) L' k/\Touch [g] w wr
theorem SUp.drew {w:World}{ph g cap bs ps:Nat}{ks:List K}{L:List EV}{k:Nat}{wr:World}(h:SUp w ph g cap bs ps ks L k wr):SUp w ph g cap bs ps ks L k wr.drew:=by
 obtain⟨L',a,b,c,d⟩:=h;exact⟨L',a.quiet (tr_.drew),b,c,d.drew⟩
theorem siftUp_any (w:World)(ph g cap bs ps:Nat)(ks:List K)(L:List EV)(k0:Nat)(h:Ht w ph g cap bs ps ks L)(hu:Un (lT ks) L k0)(hsmall:L.length<=1000000000) :
  Calls prog 198 #[.pointer (some ⟨ph,0,none⟩),.int .i64 k0] w λe w'=>e=.returned (.tuple #[])/\∃L',Ht w' ph g cap bs ps ks L'/\L'.Perm L/\He (lT ks) L'/\Touch [g] w w':=by
 have HS:Hid (SUp w ph g cap bs ps ks L k0 w):=⟨L,h,List.Perm.refl _,hu,Touch.refl _ _⟩;have hk0:=hu.here;clear h hu;go_enter func198,ntmps198;go_wp2
 go_loopw [1] (λi wr=>∃k:Nat,k<L.length/\i=.int .i64 k/\SUp w ph g cap bs ps ks L k wr) (λi _=>(intOf i).toNat)
 case atStart=>exact⟨k0,hk0,rfl,HS.out⟩
 case round=>
  obtain⟨k,hk,rfl,L',hH,hP,hU,hT⟩:=hrel;by_cases hk1:0<k
  ·have hkl:=hU.here;have hpl:(k-1)/2<L'.length:=by omega
   have hq:((k:Int)-1)/2=(((k-1)/2:Nat):Int):=by omega
   obtain⟨hd0,hd1⟩:=hH.head.cell;obtain⟨c0,c1,c2,c3⟩:=hH.items.cell k hkl;obtain⟨d0,d1,d2,d3⟩:=hH.items.cell ((k-1)/2) hpl;have hcap:L'.length<=cap/\cap<=maxLen:=by obtain⟨_,_,_,h1,h2,_⟩:=hH.items;exact⟨h1,h2⟩
   unfold maxLen at hcap;obtain⟨hc1,hc2⟩:=hcap;have Hr:Hid (∀w',Touch [] wr w'->Calls prog 164 #[(L'[k]).val,(L'[(k-1)/2]).val,.pointer (some ⟨bs,0,none⟩)] w' λe w''=>e=.returned (.bool (lT ks L'[k] L'[(k-1)/2]))/\Touch [] w' w''):=λw' ht=>by
    have hH':=hH.quiet ht;exact test_any hH'.ctx _ _ (hH'.rows _ (m_ _)).1 (hH'.rows _ (m_ _)).1 (hH'.rows _ (m_ _)).2 (hH'.rows _ (m_ _)).2
   have HF:Hid (lT ks L'[k] L'[(k-1)/2]=false->He (lT ks) L'):=λhb=>hU.done hk1 hb;have HT:Hid (lT ks L'[k] L'[(k-1)/2]=true->∀W,Ie W g cap (sK L' k ((k-1)/2) hkl hpl)->Touch [g] wr W->SUp w ph g cap bs ps ks L ((k-1)/2) W):=λhb W hi ht=>
    ⟨_,hH.turn ht hi (by rw[sW]) swapL_mem,(sQ L' k _ hkl hpl).trans hP,hU.step (ltEV_law ks) hk1 hb,hT.trans ht⟩
   have HI:Hid (∀W,Touch [] wr W->Ie (pF (pF W g (k*4) (.int .i64 L'[(k-1)/2].1.rc.no) L'[(k-1)/2].2 (.int .i64 L'[(k-1)/2].1.run) (.int .i64 L'[(k-1)/2].1.size)) g ((k-1)/2*4) (.int .i64 L'[k].1.rc.no) L'[k].2 (.int .i64 L'[k].1.run) (.int .i64 L'[k].1.size)) g cap (sK L' k ((k-1)/2) hkl hpl)):=λW ht=>
    ((hH.items.touch ht (by simp)).put k hkl _).put ((k-1)/2) (by simpa using hpl) _
   have HQ:Hid (Ht wr ph g cap bs ps ks L'/\L'.Perm L/\Touch [g] w wr):=⟨hH,hP,hT⟩;have hphlt:ph<wr.heap.size:=(agi.1 hH.head).1;have hglt:g<wr.heap.size:=by obtain⟨cur,hb,_⟩:=hH.items;exact(agi.1 hb).1
   have hne:=hH.ne;have hfz:=hH.items.frozen;obtain⟨ao,aC,ha⟩:=(hH.rows L'[k] (m_ _)).1.shape;obtain⟨bo,bcap,hb⟩:=(hH.rows L'[(k-1)/2] (m_ _)).1.shape;have hlen:=hP.length_eq;rw[ha]at c1;rw[hb]at d1;simp only[ha,hb]at HI;unfold EV.val eP at Hr;simp only[ha,hb]at Hr;clear hH hP hU hT ha hb;generalize hr:lT ks L'[k] L'[(k-1)/2]=r at *;generalize L'[k].1.rc.row.length=al at *;generalize L'[(k-1)/2].1.rc.row.length=bl at *;generalize L'[k].1.rc.no=an at *;generalize L'[k].1.run=au at *;generalize L'[k].1.size=asz at *;generalize L'[(k-1)/2].1.rc.no=bn at *;generalize L'[(k-1)/2].1.run=bK at *;generalize L'[(k-1)/2].1.size=bsz at *;clear hr;generalize sK L' k ((k-1)/2) hkl hpl=SW at *;have hpk:(k-1)/2<k:=by omega
   generalize hp:(k-1)/2=p at *;have hkc:k<cap:=by omega
   have hpc:p<cap:=by omega
   have HL:Hid (p<L.length/\L'.length=L.length):=⟨by omega,hlen⟩;clear hp hk0 HS hk hlen hsmall;have HK:Hid (∀w',Touch [] wr w'->w'.cell? ⟨ph,0,none⟩=some (.slice (some ⟨g,0,none⟩) L'.length cap)/\w'.cell? ⟨ph,1,none⟩=some (.func (.func 164) #[] #[.pointer (some ⟨bs,0,none⟩)])/\w'.cell? ⟨g,k*4,none⟩=some (.int .i64 an)/\w'.cell? ⟨g,k*4+1,none⟩=some (.slice ao al aC)/\w'.cell? ⟨g,k*4+2,none⟩=some (.int .i64 au)/\w'.cell? ⟨g,k*4+3,none⟩=some (.int .i64 asz)/\w'.cell? ⟨g,p*4,none⟩=some (.int .i64 bn)/\w'.cell? ⟨g,p*4+1,none⟩=some (.slice bo bl bcap)/\w'.cell? ⟨g,p*4+2,none⟩=some (.int .i64 bK)/\w'.cell? ⟨g,p*4+3,none⟩=some (.int .i64 bsz)):=λw' ht=>
    ⟨cO hd0 ht,cO hd1 ht,cO c0 ht,cO c1 ht,cO c2 ht,cO c3 ht,cO d0 ht,cO d1 ht,cO d2 ht,cO d3 ht⟩
   cases r with
   | false=>
    go_wp2
    go_region_held3 (λw'=>w'.cell? ⟨ph,0,none⟩=some (.slice (some ⟨g,0,none⟩) L'.length cap)/\w'.cell? ⟨ph,1,none⟩=some (.func (.func 164) #[] #[.pointer (some ⟨bs,0,none⟩)])/\w'.cell? ⟨g,k*4,none⟩=some (.int .i64 an)/\w'.cell? ⟨g,k*4+1,none⟩=some (.slice ao al aC)/\w'.cell? ⟨g,k*4+2,none⟩=some (.int .i64 au)/\w'.cell? ⟨g,k*4+3,none⟩=some (.int .i64 asz)/\w'.cell? ⟨g,p*4,none⟩=some (.int .i64 bn)/\w'.cell? ⟨g,p*4+1,none⟩=some (.slice bo bl bcap)/\w'.cell? ⟨g,p*4+2,none⟩=some (.int .i64 bK)/\w'.cell? ⟨g,p*4+3,none⟩=some (.int .i64 bsz)) (go_keep) (first|(go_at_call 164;refine(Hr.out _ (tr_.drew)).mono ?_;rintro e w1 ⟨rfl,hT1⟩;obtain⟨e0,e1,e2,e3,e4,e5,e6,e7,e8,e9⟩:=HK.out _ ((tr_.drew).trans hT1)))
    go_wp2;refine bodyPost_ret (results_none rfl _ _ _) rfl ?_;obtain⟨q1,q2,q3⟩:=HQ.out;exact⟨rfl,L',q1.quiet ((tr_.drew).trans hT1),q2,HF.out trivial,q3.trans (((tr_.drew).trans hT1).mono (by simp))⟩
   | true=>
    go_wp2
    go_region_held3 (λw'=>w'.cell? ⟨ph,0,none⟩=some (.slice (some ⟨g,0,none⟩) L'.length cap)/\w'.cell? ⟨ph,1,none⟩=some (.func (.func 164) #[] #[.pointer (some ⟨bs,0,none⟩)])/\w'.cell? ⟨g,k*4,none⟩=some (.int .i64 an)/\w'.cell? ⟨g,k*4+1,none⟩=some (.slice ao al aC)/\w'.cell? ⟨g,k*4+2,none⟩=some (.int .i64 au)/\w'.cell? ⟨g,k*4+3,none⟩=some (.int .i64 asz)/\w'.cell? ⟨g,p*4,none⟩=some (.int .i64 bn)/\w'.cell? ⟨g,p*4+1,none⟩=some (.slice bo bl bcap)/\w'.cell? ⟨g,p*4+2,none⟩=some (.int .i64 bK)/\w'.cell? ⟨g,p*4+3,none⟩=some (.int .i64 bsz)) (go_keep) (first|(go_at_call 164;refine(Hr.out _ (tr_.drew)).mono ?_;rintro e w1 ⟨rfl,hT1⟩;obtain⟨e0,e1,e2,e3,e4,e5,e6,e7,e8,e9⟩:=HK.out _ ((tr_.drew).trans hT1)))
    have hT2:Touch [] wr w1:=(tr_.drew).trans hT1;have hfz1:∀o,w1.frozen? ⟨g,o,none⟩=false:=λo=>(World.frozen?_of_block (w:=wr) (hT2.block g hglt (by simp))).trans (hfz o);have HT2:Hid (Touch [] wr w1):=hT2;have f0:=hfz1 (k*4);have f1:=hfz1 (k*4+1);have f2:=hfz1 (k*4+2);have f3:=hfz1 (k*4+3);have f4:=hfz1 (p*4);have f5:=hfz1 (p*4+1);have f6:=hfz1 (p*4+2);have f7:=hfz1 (p*4+3);clear hd0 hd1 c0 c1 c2 c3 d0 d1 d2 d3 hT1 hT2 hfz hfz1;go_wp2
    go_region
    go_wp2
    go_roundw
    case rel=>
     refine⟨p,HL.out.1,rfl,SUp.drew ?_⟩;exact HT.out trivial _ (HI.out w1 HT2.out) ((HT2.out.mono (by simp)).trans ((pU w1 g _ _ _ _ _).trans (pU _ g _ _ _ _ _)))
    case measure=>simp[intOf];omega
  ·obtain rfl:k=0:=by omega
   have HF:=hU.zero;have HQ:Hid (Ht wr ph g cap bs ps ks L'/\L'.Perm L/\Touch [g] w wr/\He (lT ks) L'):=⟨hH,hP,hT,HF⟩;clear hH hP hU hT HF HS hk0;go_wp2
   first|go_end0|refine bodyPost_ret (results_none rfl _ _ _) rfl ?_
   obtain⟨q1,q2,q3,q4⟩:=HQ.out;exact⟨rfl,L',q1,q2,q4,q3⟩
def SDn (w:World)(ph g cap bs ps:Nat)(ks:List K)(L:List EV)(k:Nat)(wr:World):Prop:=
 ∃L',Ht wr ph g cap bs ps ks L'/\L'.Perm L/\DI (lT ks) L' k/\Touch [g] w wr
theorem SDn.drew {w:World}{ph g cap bs ps:Nat}{ks:List K}{L:List EV}{k:Nat}{wr:World}(h:SDn w ph g cap bs ps ks L k wr):SDn w ph g cap bs ps ks L k wr.drew:=by
 obtain⟨L',a,b,c,d⟩:=h;exact⟨L',a.quiet (tr_.drew),b,c,d.drew⟩
def Held (ph g cap bs:Nat)(n:Nat)(w':World):Prop:=w'.cell? ⟨ph,0,none⟩=some (.slice (some ⟨g,0,none⟩) n cap)/\w'.cell? ⟨ph,1,none⟩=some (.func (.func 164) #[] #[.pointer (some ⟨bs,0,none⟩)])
def ItemC (g k:Nat)(no:Int)(o:Option Addr)(l c:Nat)(run size:Int)(w':World):Prop:=
 w'.cell? ⟨g,k*4,none⟩=some (.int .i64 no)/\w'.cell? ⟨g,k*4+1,none⟩=some (.slice o l c)/\w'.cell? ⟨g,k*4+2,none⟩=some (.int .i64 run)/\w'.cell? ⟨g,k*4+3,none⟩=some (.int .i64 size)
theorem Ht.item (h:Ht w ph g cap bs ps ks L)(k:Nat)(hk:k<L.length) :
  ∃o c,L[k].2=.slice o L[k].1.rc.row.length c/\∀w',Touch [] w w'->ItemC g k L[k].1.rc.no o L[k].1.rc.row.length c L[k].1.run L[k].1.size w':=by
 obtain⟨o,c,e⟩:=(h.rows L[k] (m_ _)).1.shape;refine⟨o,c,e,λw' ht=>?_⟩;obtain⟨c0,c1,c2,c3⟩:=(h.quiet ht).items.cell k hk;rw[e]at c1;exact⟨c0,c1,c2,c3⟩
theorem Ht.held (h:Ht w ph g cap bs ps ks L)(ht:Touch [] w w'):Held ph g cap bs L.length w':=(h.quiet ht).head.cell
theorem Ht.test (h:Ht w ph g cap bs ps ks L)(i j:Nat)(hi:i<L.length)(hj:j<L.length)(ei:L[i].2=.slice oi L[i].1.rc.row.length ci)(ej:L[j].2=.slice oj L[j].1.rc.row.length cj)(ht:Touch [] w w') :
  Calls prog 164 #[.agg #[.int .i64 L[i].1.rc.no,.slice oi L[i].1.rc.row.length ci,.int .i64 L[i].1.run,.int .i64 L[i].1.size],.agg #[.int .i64 L[j].1.rc.no,.slice oj L[j].1.rc.row.length cj,.int .i64 L[j].1.run,.int .i64 L[j].1.size],.pointer (some ⟨bs,0,none⟩)] w'
   λe w''=>e=.returned (.bool (lT ks L[i] L[j]))/\Touch [] w' w'':=by
 have hH':=h.quiet ht;have:=test_any hH'.ctx L[i] L[j] (hH'.rows _ (m_ _)).1 (hH'.rows _ (m_ _)).1 (hH'.rows _ (m_ _)).2 (hH'.rows _ (m_ _)).2;unfold EV.val eP at this;rw[ei,ej]at this;exact this
theorem Ht.bounds (h:Ht w ph g cap bs ps ks L):ph<w.heap.size/\g<w.heap.size/\ph≠g/\L.length<=cap/\cap<=2 ^ 63-1:=by
 have h1:=(agi.1 h.head).1;have h2:=h.ne;obtain⟨cur,hb,_,h3,h4,_⟩:=h.items;exact⟨h1,(agi.1 hb).1,h2,h3,h4⟩
theorem Ht.swapped (h:Ht w ph g cap bs ps ks L)(i j:Nat)(hi:i<L.length)(hj:j<L.length)(ei:L[i].2=.slice oi L[i].1.rc.row.length ci)(ej:L[j].2=.slice oj L[j].1.rc.row.length cj)(ht:Touch [] w W) :
  Ht (pF (pF W g (i*4) (.int .i64 L[j].1.rc.no) (.slice oj L[j].1.rc.row.length cj) (.int .i64 L[j].1.run) (.int .i64 L[j].1.size)) g (j*4) (.int .i64 L[i].1.rc.no) (.slice oi L[i].1.rc.row.length ci) (.int .i64 L[i].1.run) (.int .i64 L[i].1.size)) ph g cap bs ps ks (sK L i j hi hj) /\
  Touch [g] w (pF (pF W g (i*4) (.int .i64 L[j].1.rc.no) (.slice oj L[j].1.rc.row.length cj) (.int .i64 L[j].1.run) (.int .i64 L[j].1.size)) g (j*4) (.int .i64 L[i].1.rc.no) (.slice oi L[i].1.rc.row.length ci) (.int .i64 L[i].1.run) (.int .i64 L[i].1.size)):=by
 have ht2:=(ht.mono (F':=[g]) (by simp)).trans ((pU W g (i*4) (.int .i64 L[j].1.rc.no) (.slice oj L[j].1.rc.row.length cj) (.int .i64 L[j].1.run) (.int .i64 L[j].1.size)).trans (pU _ g (j*4) (.int .i64 L[i].1.rc.no) (.slice oi L[i].1.rc.row.length ci) (.int .i64 L[i].1.run) (.int .i64 L[i].1.size)));refine⟨h.turn ht2 ?_ (sW _ _ _ _ _) swapL_mem,ht2⟩;have:=((h.items.touch ht (by simp)).put i hi L[j]).put j (by simpa using hj) L[i];rw[ei,ej]at this;exact this
theorem frozen_of (h:Ie w g cap L)(t:Touch [] w w')(o:Nat):w'.frozen? ⟨g,o,none⟩=false:=(h.touch t (by simp)).frozen o
def InDn (wr:World)(ks:List K)(L':List EV)(k m n:Nat)(w2:World):Prop:=Le (lT ks) L' k m n/\2*k+1<=n/\n<=2*k+3/\Touch [] wr w2
theorem siftDown_any (w:World)(ph g cap bs ps:Nat)(ks:List K)(L:List EV)(h:Ht w ph g cap bs ps ks L)(hu:DI (lT ks) L 0)(hne:0<L.length)(hsmall:L.length<=1000000000) :
  Calls prog 219 #[.pointer (some ⟨ph,0,none⟩),.int .i64 0] w λe w'=>e=.returned (.tuple #[])/\∃L',Ht w' ph g cap bs ps ks L'/\L'.Perm L/\He (lT ks) L'/\Touch [g] w w':=by
 have HS:Hid (SDn w ph g cap bs ps ks L 0 w):=⟨L,h,List.Perm.refl _,hu,Touch.refl _ _⟩;clear h hu;go_enter func219,ntmps219;go_wp2
 go_loopw [1] (λi wr=>∃k:Nat,k<L.length/\i=.int .i64 k/\SDn w ph g cap bs ps ks L k wr) (λi _=>L.length-(intOf i).toNat)
 case atStart=>exact⟨0,hne,rfl,HS.out⟩
 case round=>
  obtain⟨k,hk,rfl,L',hH,hP,hU,hT⟩:=hrel;have hlen:=hP.length_eq;have hk9:k<=1000000000:=by omega
  have hkl:k<L'.length:=by omega
  have hl9:L'.length<=1000000000:=by omega
  obtain⟨hphlt,hglt,hpg,hc1,hc2⟩:=hH.bounds;have HH:Hid (Ht wr ph g cap bs ps ks L'/\L'.Perm L/\DI (lT ks) L' k/\Touch [g] w wr):=⟨hH,hP,hU,hT⟩;have HL:Hid (L'.length=L.length):=hlen;clear hH hP hU hT HS hk hlen hsmall hne
  rename World=>W0
  go_wp2
  go_loopw [4,5] (λa b w2=>∃m n:Nat,a=.int .i64 m/\b=.int .i64 n/\InDn W0 ks L' k m n w2) (λ_ b _=>2*k+3-(intOf b).toNat)
  case atStart=>exact⟨k,2*k+1,rfl,by go_num,Le.start hkl,by omega,by omega,Touch.refl _ _⟩
  case round=>
   obtain⟨m,n,rfl,rfl,hLe,hn1,hn2,hT2⟩:=hrel;have hml:=hLe.hm;have hH:=HH.out.1;have hph2:ph<wr.heap.size:=by have:=hT2.size;omega
   have hg2:g<wr.heap.size:=by have:=hT2.size;omega
   obtain⟨hd0,hd1⟩:=hH.held hT2;by_cases hin:n<=2*k+2/\n<L'.length
   ·obtain⟨hin1,hin2⟩:=hin;obtain⟨on,cn,en,hin_⟩:=hH.item n hin2;obtain⟨om,cm,em,him_⟩:=hH.item m hml;have Hr:Hid (∀w',Touch [] W0 w'->Calls prog 164 _ w' _):=λw' ht=>hH.test n m hin2 hml en em ht;have HKEEP:Hid (lT ks L'[n] L'[m]=false->∀W,Touch [] W0 W->InDn W0 ks L' k m (n+1) W):=λhb W ht=>⟨hLe.keep hin2 hb,by omega,by omega,ht⟩;have HTAKE:Hid (lT ks L'[n] L'[m]=true->∀W,Touch [] W0 W->InDn W0 ks L' k n (n+1) W):=λhb W ht=>⟨hLe.take (ltEV_law ks) hin2 hn1 hin1 hb,by omega,by omega,ht⟩;have HK:Hid (∀w',Touch [] W0 w'->Held ph g cap bs L'.length w'/\ItemC g n L'[n].1.rc.no on L'[n].1.rc.row.length cn L'[n].1.run L'[n].1.size w'/\ItemC g m L'[m].1.rc.no om L'[m].1.rc.row.length cm L'[m].1.run L'[m].1.size w'):=λw' ht=>⟨hH.held ht,hin_ w' ht,him_ w' ht⟩;obtain⟨c0,c1,c2,c3⟩:=hin_ wr hT2;obtain⟨d0,d1,d2,d3⟩:=him_ wr hT2;have HT2:Hid (Touch [] W0 wr):=hT2;clear hH hin_ him_ en em hLe hT2;generalize lT ks L'[n] L'[m]=r at *;generalize L'[n].1.rc.row.length=al at *;generalize L'[m].1.rc.row.length=bl at *;generalize L'[n].1.rc.no=an at *;generalize L'[n].1.run=au at *;generalize L'[n].1.size=asz at *;generalize L'[m].1.rc.no=bn at *;generalize L'[m].1.run=bK at *;generalize L'[m].1.size=bsz at *;cases r with
    | false=>
     go_wp2
     go_region_held3 (λw'=>w'.cell? ⟨ph,0,none⟩=some (.slice (some ⟨g,0,none⟩) L'.length cap)/\w'.cell? ⟨ph,1,none⟩=some (.func (.func 164) #[] #[.pointer (some ⟨bs,0,none⟩)])/\w'.cell? ⟨g,n*4,none⟩=some (.int .i64 an)/\w'.cell? ⟨g,n*4+1,none⟩=some (.slice on al cn)/\w'.cell? ⟨g,n*4+2,none⟩=some (.int .i64 au)/\w'.cell? ⟨g,n*4+3,none⟩=some (.int .i64 asz)/\w'.cell? ⟨g,m*4,none⟩=some (.int .i64 bn)/\w'.cell? ⟨g,m*4+1,none⟩=some (.slice om bl cm)/\w'.cell? ⟨g,m*4+2,none⟩=some (.int .i64 bK)/\w'.cell? ⟨g,m*4+3,none⟩=some (.int .i64 bsz)) (go_keep) (first|(go_at_call 164;refine(Hr.out _ (HT2.out.drew)).mono ?_;rintro e w1 ⟨rfl,hT1⟩;obtain⟨⟨e0,e1⟩,⟨e2,e3,e4,e5⟩,e6,e7,e8,e9⟩:=HK.out _ ((HT2.out.drew).trans hT1)))
     go_wp2
     go_roundw
     case rel=>exact⟨m,n+1,rfl,by go_num,HKEEP.out trivial _ ((HT2.out.drew).trans hT1)⟩
     case measure=>simp[intOf];omega
    | true=>
     go_wp2
     go_region_held3 (λw'=>w'.cell? ⟨ph,0,none⟩=some (.slice (some ⟨g,0,none⟩) L'.length cap)/\w'.cell? ⟨ph,1,none⟩=some (.func (.func 164) #[] #[.pointer (some ⟨bs,0,none⟩)])/\w'.cell? ⟨g,n*4,none⟩=some (.int .i64 an)/\w'.cell? ⟨g,n*4+1,none⟩=some (.slice on al cn)/\w'.cell? ⟨g,n*4+2,none⟩=some (.int .i64 au)/\w'.cell? ⟨g,n*4+3,none⟩=some (.int .i64 asz)/\w'.cell? ⟨g,m*4,none⟩=some (.int .i64 bn)/\w'.cell? ⟨g,m*4+1,none⟩=some (.slice om bl cm)/\w'.cell? ⟨g,m*4+2,none⟩=some (.int .i64 bK)/\w'.cell? ⟨g,m*4+3,none⟩=some (.int .i64 bsz)) (go_keep) (first|(go_at_call 164;refine(Hr.out _ (HT2.out.drew)).mono ?_;rintro e w1 ⟨rfl,hT1⟩;obtain⟨⟨e0,e1⟩,⟨e2,e3,e4,e5⟩,e6,e7,e8,e9⟩:=HK.out _ ((HT2.out.drew).trans hT1)))
     go_wp2
     go_roundw
     case rel=>exact⟨n,n+1,rfl,by go_num,HTAKE.out trivial _ ((HT2.out.drew).trans hT1)⟩
     case measure=>simp[intOf];omega
   ·have hend:n=2*k+3\/L'.length<=n:=by omega
    have HT2:Hid (Touch [] W0 wr):=hT2;by_cases hmk:m=k
    ·subst hmk;have HD:Hid (m=m->He (lT ks) L'):=λ_=>HH.out.2.2.1.done hLe hend;clear hH hLe hT2 hend;by_cases hlast:n<=2*m+2
     ·have hin2:L'.length<=n:=by omega
      clear hin;go_wp2
      first|go_end0|refine bodyPost_ret (results_none rfl _ _ _) rfl ?_
      obtain⟨q1,q2,_,q4⟩:=HH.out;exact⟨rfl,L',q1.quiet HT2.out,q2,HD.out trivial,q4.trans (HT2.out.mono (by simp))⟩
     ·have hin2:2*m+2<n:=by omega
      clear hin hlast;go_wp2
      first|go_end0|refine bodyPost_ret (results_none rfl _ _ _) rfl ?_
      obtain⟨q1,q2,_,q4⟩:=HH.out;exact⟨rfl,L',q1.quiet HT2.out,q2,HD.out trivial,q4.trans (HT2.out.mono (by simp))⟩
    ·have hmk2:k<m:=by have:=hLe.who;omega
     have hmk3:((m:Int) == (k:Int))=false:=by simp;omega
     have HL2:Hid (L'.length=L.length/\m<L.length):=⟨HL.out,by have:=HL.out;omega⟩;obtain⟨ok,ck,ek,hik_⟩:=hH.item k hkl;obtain⟨om,cm,em,him_⟩:=hH.item m hml;have HSW:Hid (∀W,Touch [] W0 W->SDn w ph g cap bs ps ks L m (pF (pF W g (k*4) (.int .i64 L'[m].1.rc.no) (.slice om L'[m].1.rc.row.length cm) (.int .i64 L'[m].1.run) (.int .i64 L'[m].1.size)) g (m*4) (.int .i64 L'[k].1.rc.no) (.slice ok L'[k].1.rc.row.length ck) (.int .i64 L'[k].1.run) (.int .i64 L'[k].1.size))):=λW ht=>by
      obtain⟨a,b⟩:=hH.swapped k m hkl hml ek em ht;exact⟨_,a,(sQ L' k m hkl hml).trans HH.out.2.1,HH.out.2.2.1.step (ltEV_law ks) hLe hmk hend,HH.out.2.2.2.trans b⟩
     obtain⟨c0,c1,c2,c3⟩:=hik_ wr hT2;obtain⟨d0,d1,d2,d3⟩:=him_ wr hT2;have hfz:=frozen_of hH.items hT2;have f0:=hfz (k*4);have f1:=hfz (k*4+1);have f2:=hfz (k*4+2);have f3:=hfz (k*4+3);have f4:=hfz (m*4);have f5:=hfz (m*4+1);have f6:=hfz (m*4+2);have f7:=hfz (m*4+3);clear hH hik_ him_ ek em hLe hT2 hfz hend;generalize L'[m].1.rc.row.length=bl at *;generalize L'[k].1.rc.row.length=al at *;generalize L'[k].1.rc.no=an at *;generalize L'[k].1.run=au at *;generalize L'[k].1.size=asz at *;generalize L'[m].1.rc.no=bn at *;generalize L'[m].1.run=bK at *;generalize L'[m].1.size=bsz at *;by_cases hlast:n<=2*k+2
     ·have hin2:L'.length<=n:=by omega
      clear hin;go_wp2
      go_region
      go_wp2
      go_roundw
      case rel=>exact⟨m,HL2.out.2,rfl,SDn.drew (HSW.out wr HT2.out)⟩
      case measure=>have:=HL2.out;simp[intOf];omega
     ·have hin2:2*k+2<n:=by omega
      clear hin hlast;go_wp2
      go_region
      go_wp2
      go_roundw
      case rel=>exact⟨m,HL2.out.2,rfl,SDn.drew (HSW.out wr HT2.out)⟩
      case measure=>have:=HL2.out;simp[intOf];omega
theorem info263:(prog.info? 263).map (λi=>(i.zero,i.size,i.bytes))=some (some (.agg #[.int .i64 0,.slice none 0 0,.int .i64 0,.int .i64 0]),4,48):=by kernel_rfl
def fC (L:List EV):List Value:=L.flatMap EV.cells
theorem flat4_len (L:List EV):(fC L).length=L.length*4:=by
 induction L with
 | nil=>rfl
 | cons x L ih=>simp only[fC,List.flatMap_cons,c_,List.length_cons]at *;rw[ih];simp[EV.cells];omega
theorem flat4_at:∀(L:List EV) (i r:Nat) (h:i<L.length),r<4->(fC L)[i*4+r]?=(L[i].cells)[r]?
 | [],_,_,h,_=>by simp at h
 | x::L,0,r,_,hr=>by
  simp only[fC,List.flatMap_cons,List.getElem_cons_zero];rw[aa_ (by simp[EV.cells];omega)]
  congr 1
  omega
 | x::L,i+1,r,h,hr=>by
  have ih:=flat4_at L i r (by simpa using h) hr;simp only[fC,List.flatMap_cons,List.getElem_cons_succ]at *;rw[ae_ (by simp[EV.cells];omega),<-ih]
  congr 1
  simp[EV.cells];omega
theorem flat4_snoc (L:List EV)(x:EV):fC (L++[x])=fC L++x.cells:=by simp[fC]
def EO (w:World)(v:Value)(L:List EV):Prop:=w.ownsRow 0 263 4 v L.length (fC L)
theorem EO.nil (w:World):EO w (.slice none 0 0) []:=World.ownsRow_nil _ _ _ _
theorem EO.items (h:EO w (.slice (some ⟨g,0,none⟩) n cap) L):n=L.length/\Ie w g cap L:=by
 rcases h.2 with⟨e,_⟩|⟨g',cap',cur,e,_,hh,hc,hm,hs,ht⟩
 ·simp at e
 ·simp only[Value.slice.injEq,j_,Addr.mk.injEq,and_true]at e;obtain⟨rfl,rfl,rfl⟩:=e;refine⟨rfl,cur,hh,hs,hc,hm,λi hi=>?_⟩;have key:∀r,r<4->cur[i*4+r]?=(L[i].cells)[r]?:=λr hr=>by
   have:=congrArg (λl=>l[i*4+r]?) ht;simp only[S_,Y_]at this;rw[if_pos (by omega),flat4_at L i r hi hr]at this;exact this
  exact⟨key 0 (by omega),key 1 (by omega),key 2 (by omega),key 3 (by omega)⟩
theorem Ie.own (h:Ie w g cap L):EO w (.slice (some ⟨g,0,none⟩) L.length cap) L:=by
 obtain⟨cur,hb,hs,hc,hm,hx⟩:=h;refine⟨by rw[flat4_len],.inr ⟨g,cap,cur,rfl,x_ _,hb,hc,hm,hs,?_⟩⟩;apply List.ext_getElem?;intro j;rw[S_,Y_];by_cases hj:j<L.length*4
 ·rw[if_pos hj];obtain⟨i,r,rfl,hr⟩:∃i r,j=i*4+r/\r<4:=⟨j/4,j%4,by omega,by omega⟩;have hi:i<L.length:=by omega
  rw[flat4_at L i r hi hr];obtain⟨h0,h1,h2,h3⟩:=hx i hi
  match r,hr with
  | 0,_=>exact h0
  | 1,_=>exact h1
  | 2,_=>exact h2
  | 3,_=>exact h3
 ·rw[if_neg hj,List.getElem?_eq_none (by rw[flat4_len];omega)]
theorem step_ent {ops:Array Oper}{o:Oper}{a:Act}{K:Act->World->Prop}{Q:Exit->Act->World->Prop}{E:Prop}(hgd:o.guard=none)(s x:Operand)
  (ho:o.op=.call { callee:=.builtin .append,args:=#[s,x],argTypes:=#[300,300] }) (v:Value) (L:List EV) (hs:a.eval s=v) (hown:EO w v L)
  (ad:Addr) (y:EV) (c:Nat) (hx:a.eval x=.slice (some ad) 1 c) (hnews:∀j u,y.cells[j]?=some u->w.cell? (ad.add j)=some u) (hone:∀u∈y.cells,u.oneCell'=true) (hlen:L.length<=1000000000)
  (h:∀g cap w',Ie w' g cap (L++[y])->w.grownBy w' v.ownBlock->(v.ownBlock=some g\/g=w.heap.size)->g<w'.heap.size->K (a.put o.dst (.slice (some ⟨g,0,none⟩) (L.length+1) cap)) w') :
  if Region.wanted o (yielded ops a.tmps)=true then Oper.wp prog o a w K Q else E:=by
 obtain⟨i0,hi,hz0,hz1,hz2⟩:=info_parts info263;refine step_append_lies w hgd s x 300 ho 0 263 i0 (.agg #[.int .i64 0,.slice none 0 0,.int .i64 0,.int .i64 0]) 4 48 underlying300 hi hz0 hz1 hz2 rfl (by decide) v _ _ hs hown ad 1 c y.cells hx (by simp[EV.cells]) hnews hone (by decide) ?_ ?_ (x_ _) _ rfl ?_
 ·unfold maxLen;omega
 ·omega
 ·intro g cap w' h1 h2 h3 h4;refine h g cap w' ?_ h2 h3 h4;have:EO w' (.slice (some ⟨g,0,none⟩) (L.length+1) cap) (L++[y]):=by
   unfold EO;rw[flat4_snoc,c_];exact h1
  exact this.items.2
structure Hf (w:World)(ph:Nat)(v:Value)(bs ps:Nat)(ks:List K)(L:List EV):Prop where
 head:HeadAt w ph v bs
 items:EO w v L
 ctx:TT w bs ps ks
 rows:∀x∈L,Ro w x.2 x.1.rc.row/\AB ks x.1.rc.row
 ok:He (lT ks) L
theorem EO.shape (h:EO w v L):(v=.slice none 0 0/\L=[])\/∃g cap,v=.slice (some ⟨g,0,none⟩) L.length cap/\Ie w g cap L:=by
 rcases h.2 with⟨rfl,h0⟩|⟨g,cap,cur,rfl,_⟩
 ·exact .inl ⟨rfl,D_.1 h0⟩
 ·exact .inr ⟨g,cap,rfl,h.items.2⟩
theorem Hf.at (h:Hf w ph v bs ps ks L)(hL:L≠[]):∃g cap,v=.slice (some ⟨g,0,none⟩) L.length cap/\Ht w ph g cap bs ps ks L:=by
 rcases h.items.shape with⟨rfl,e⟩|⟨g,cap,rfl,hi⟩
 ·exact absurd e hL
 ·exact⟨g,cap,rfl,h.head,hi,h.ctx,h.rows⟩
theorem Ht.st (h:Ht w ph g cap bs ps ks L)(ok:He (lT ks) L):Hf w ph (.slice (some ⟨g,0,none⟩) L.length cap) bs ps ks L:=⟨h.head,h.items.own,h.ctx,h.rows,ok⟩
def h_ (ph:Nat)(v:Value):List Nat:=ph::v.ownBlock.toList
theorem EO.tag (h:EO w v L):∀k,v.ownBlock=some k->∃cs f,w.heap[k]?=some (.cells cs 263 f):=by
 intro k hk;rcases h.2 with⟨rfl,_⟩|⟨g,cap,cur,rfl,_,hg,_⟩
 ·simp[Value.ownBlock]at hk
 ·simp[Value.ownBlock]at hk;subst hk;exact⟨_,_,hg⟩
theorem EO.nT (h:EO w v L){t:TypeId}(ht:263≠t):NT t w v.ownBlock.toList:=by
 intro k hk cs f e;obtain⟨cs',f',e'⟩:=h.tag k (by simpa using hk);rw[e']at e;simp only[j_,Obj.cells.injEq]at e;exact ht e.2.1
theorem Touch.more {F G:List Nat}(h:Touch F a b)(k:Touch G b c)(hG:∀i∈G,i∈F\/a.heap.size<=i):Touch F a c:=
 ⟨k.os.trans h.os,k.tape.trans h.tape,k.output.trans h.output,k_ h.size k.size,λi hi hn=>(k.block i (s_ hi h.size) (λe=>by rcases hG i e with h|h;exact hn h;omega)).trans (h.block i hi hn)⟩
theorem new4 (W:World)(a b c d:Value)(j:Nat)(u:Value)(h:[a,b,c,d][j]?=some u):(W.alloc (.cells #[a,b,c,d] 263)).cell? (Addr.add ⟨W.heap.size,0,none⟩ j)=some u:=by
 obtain⟨h0,h1,h2,h3⟩:=bJ (heap_alloc_new W (.cells #[a,b,c,d] 263))
 match j,h with
 | 0,h=>simp at h;subst h;exact h0
 | 1,h=>simp at h;subst h;exact h1
 | 2,h=>simp at h;subst h;exact h2
 | 3,h=>simp at h;subst h;exact h3
theorem push_mid {x:EV}(h:Hf w ph v bs ps ks L)(hx:Ro w x.2 x.1.rc.row/\AB ks x.1.rc.row)(hW:Touch [] w W)(hG:W.grownBy w4 v.ownBlock)(hI:Ie w4 g cap (L++[x])) :
  HeadAt w4 ph v bs/\Ht (w4.setCell ⟨ph,0,none⟩ (.slice (some ⟨g,0,none⟩) (L.length+1) cap)) ph g cap bs ps ks (L++[x])/\Touch (h_ ph v) w (w4.setCell ⟨ph,0,none⟩ (.slice (some ⟨g,0,none⟩) (L.length+1) cap)):=by
 have hT4:Touch v.ownBlock.toList w w4:=(hW.mono (by simp)).grown hG (λk hk=>by simp[hk]);have hhead:=h.head;have hpv:ph∉v.ownBlock.toList:=λe=>by
  obtain⟨cs,f,e'⟩:=h.items.tag ph (by simpa using e);unfold HeadAt at hhead;rw[hhead]at e';simp at e'
 have h4:HeadAt w4 ph v bs:=hhead.touch hT4 hpv;have hgp:g≠ph:=λe=>by
  obtain⟨cur,hb,_⟩:=hI;subst e;unfold HeadAt at h4;rw[h4]at hb;simp at hb
 have hT5:Touch [ph] w4 (w4.setCell ⟨ph,0,none⟩ (.slice (some ⟨g,0,none⟩) (L.length+1) cap)):=(Touch.refl _ _).setCell (by simp) _;have hn5:∀t,(302:TypeId)≠t->KT t w4 (w4.setCell ⟨ph,0,none⟩ (.slice (some ⟨g,0,none⟩) (L.length+1) cap)):=λt ht=>hT5.tag (nO h4 ht);have hk:∀t,(263:TypeId)≠t->(302:TypeId)≠t->KT t w (w4.setCell ⟨ph,0,none⟩ (.slice (some ⟨g,0,none⟩) (L.length+1) cap)):=λt h1 h2=>(hT4.tag (h.items.nT h1)).trans (hn5 t h2);refine⟨h4,⟨?_,hI.touch hT5 (by simpa using hgp),h.ctx.keep (hk _ (by decide) (by decide)) (hk _ (by decide) (by decide)) (hk _ (by decide) (by decide)),λy hy=>?_⟩,?_⟩
 ·have:=heap_setCell_same w4 ph 0 (haD v bs) 302 (.slice (some ⟨g,0,none⟩) (L.length+1) cap) h4;unfold HeadAt;rw[this];simp[haD]
 ·rcases d_.1 hy with hy|hy
  ·exact⟨Sl3.keep (h.rows y hy).1 (hk _ (by decide) (by decide)),(h.rows y hy).2⟩
  ·rw[ms_ hy];exact⟨Sl3.keep hx.1 (hk _ (by decide) (by decide)),hx.2⟩
 ·exact(hT4.mono (λk hk=>o_ _ hk)).trans (hT5.mono (λk hk=>by rw[ms_ hk];exact I_))
theorem push_any (w:World)(ph:Nat)(v:Value)(bs ps:Nat)(ks:List K)(L:List EV)(x:EV)(h:Hf w ph v bs ps ks L)(hx:Ro w x.2 x.1.rc.row/\AB ks x.1.rc.row)(hsmall:L.length<=100000000) :
  Calls prog 168 #[.pointer (some ⟨ph,0,none⟩),x.val] w λe w'=>e=.returned (.tuple #[])/\∃v' L',Hf w' ph v' bs ps ks L'/\L'.Perm (L++[x])/\Touch (h_ ph v) w w'/\(∀k,v'.ownBlock=some k->v.ownBlock=some k\/w.heap.size<=k):=by
 obtain⟨hd0,hd1⟩:=h.head.cell;have hphlt:ph<w.heap.size:=(agi.1 h.head).1;have HH:Hid (Hf w ph v bs ps ks L/\Ro w x.2 x.1.rc.row/\AB ks x.1.rc.row):=⟨h,hx⟩;obtain⟨ao,aC,ea⟩:=hx.1.shape;have hv:∃o n c,v=.slice o n c:=by
  rcases h.items.shape with⟨rfl,_⟩|⟨g,cap,rfl,_⟩
  ·exact⟨_,_,_,rfl⟩
  ·exact⟨_,_,_,rfl⟩
 have HC:Hid (x.cells=[.int .i64 x.1.rc.no,.slice ao x.1.rc.row.length aC,.int .i64 x.1.run,.int .i64 x.1.size]):=by unfold EV.cells;rw[ea];exact rfl
 have HUP:Hid (Un (lT ks) (L++[x]) L.length):=Un.push h.ok x;clear h hx;unfold EV.val eP;rw[ea];clear ea;generalize x.1.rc.row.length=al at *;generalize x.1.rc.no=an at *;generalize x.1.run=au at *;generalize x.1.size=asz at *;obtain⟨vo,vn,vc,rfl⟩:=hv;go_enter func168,ntmps168;go_wp2
 go_region_law (refine step_ent rfl (.tmp 8) (.tmp 10) rfl (.slice vo vn vc) L (by simp[Act.eval]) (by exact World.ownsRow.alloc (World.ownsRow.alloc HH.out.1.items _) _) ⟨w.heap.size+1,0,none⟩ x 1 (by simp[Act.eval]) (by rw[HC.out];exact λj u hj=>by simpa using new4 (w.alloc (.cells #[.int .i64 an,.slice ao al aC,.int .i64 au,.int .i64 asz] 263)) _ _ _ _ j u hj) (by rw[HC.out];simp[Value.oneCell']) (by omega) ?_;intro g cp w4 hI4 hG4 hat4 hlt4;have hW4:Touch [] w _:=((tr_.alloc (.cells #[.int .i64 an,.slice ao al aC,.int .i64 au,.int .i64 asz] 263)).alloc (.cells #[.int .i64 an,.slice ao al aC,.int .i64 au,.int .i64 asz] 263)).drew;obtain⟨hH4,hM4,hT4⟩:=push_mid HH.out.1 HH.out.2 hW4 hG4 hI4;obtain⟨q0,q1⟩:=hH4.cell;have qf:=hH4.frozen 0)
 all_goals
  have HM:Hid _:=hM4;have HI:Hid _:=hI4;obtain⟨r0,r1⟩:=hM4.head.cell;clear hM4 hI4 hd0 hd1 q0 q1;simp only[c_,List.length_cons,List.length_nil]at r0
  go_wp2_with (go_at_call 198;refine(siftUp_any _ ph g cp bs ps ks (L++[x]) L.length (HM.out.quiet (by first|exact Touch.refl _ _|exact tr_.drew)) HUP.out (by simp;omega)).mono ?_;rintro e w6 ⟨rfl,L',hH6,hP6,hO6,hT6⟩)
  go_end0
  refine⟨rfl,_,L',hH6.st hO6,hP6,?_,λk hk=>?_⟩
  ·refine(hT4.more (G:=[g]) ?_ ?_)
   ·first|exact hT6|exact(((Touch.refl [g] _).drew).trans hT6)
   ·intro k hk;rw[ms_ hk];rcases hat4 with h|h
    ·exact .inl (by simp[h_,h])
    ·exact .inr (by rw[h];exact hW4.size)
  ·simp only[Value.ownBlock,j_]at hk;subst hk;rcases hat4 with h|h
   ·exact .inl h
   ·exact .inr (by rw[h];exact hW4.size)
end Go.Proofs.YtjoinhljdbljaaaGreat
