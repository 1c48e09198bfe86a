/- A record added to a run, and what follows. -/
import Derived.Test.YtjoinhljdbljaaaGreatRecIToRunD
import Derived.Test.YtjoinhljdbljaaaGreatHepGToHepH
set_option maxHeartbeats 4000000
set_option maxRecDepth 20000
set_option linter.unusedSectionVars false
namespace Go.Proofs.YtjoinhljdbljaaaGreat
open Go.RowKit Go.Proofs.Tryz
variable [Inhabited Ground]
variable {B N al base blk bm bs bx c' cols file g j j' k k' n ph ps q r:Nat} {F G:List Nat} {L L':List EV} {M M':List PF} {W0 w w' w1 w2 w4:World} {cs cs':List (List Rec)} {cur l left:List Rec} {d d':DS} {ks:List K} {no:Int} {row:List V} {s s2:ByteArray} {t:TypeId} {v v':Value}
theorem encs_snoc (l:List Rec)(x:Rec):encs (l++[x])=encs l++encR x:=by simp[encs]
theorem RU.after {x:Rec}
  (hc:w'.heap[r]?=some (.cells (rC bx blk file c' n v) 223 (0,0))) (ht:Tx w' r v' (encs cur++encR x)):RU (w'.setCell ⟨r,5,none⟩ v') r bx blk file c' v' n (cur++[x]):=by
 have h1:=heap_setCell_same w' r 5 _ 223 v' hc;refine⟨by rw[h1];simp[rC],?_⟩;rw[encs_snoc];refine ht.setCell (λk hk e=>?_) 5 _;obtain⟨c,f,hb⟩:=ht.bytes k hk;rw[e,hc]at hb;simp at hb
theorem Tx.slice {w:World}{base:Nat}{v:Value}{bs:List UInt8}(h:Tx w base v bs):∃o c,v=.slice o bs.length c:=by
 rcases h.2 with⟨h1,h2⟩|⟨g,cap,cu,h1,_⟩
 ·exact⟨none,0,by rw[h1,h2]⟩
 ·exact⟨some ⟨g,0,none⟩,cap,h1⟩
theorem Tx.slice3 {bs:List UInt8}(h:Tx w base v bs):∃o n c,v=.slice o n c:=by
 obtain⟨o,c,h⟩:=h.slice;exact⟨o,_,c,h⟩
theorem wrap_small (n:Int)(h0: -9223372036854775808<=n)(h1:n<=9223372036854775807):IntKind.i64.wrap n=n:=by rw[IntKind.wrap_i64];omega
theorem cols_set (h:w.heap[r]?=some (.cells (rC bx blk file cols n v) 223 (0,0)))(c:Nat):(w.setCell ⟨r,3,none⟩ (.int .i64 (c:Int))).heap[r]?=some (.cells (rC bx blk file c n v) 223 (0,0)):=by
 rw[heap_setCell_same w r 3 _ 223 _ h];simp[rC]
theorem add_plain (w:World)(r bx blk file cols n:Nat)(v rv:Value)(cur:List Rec)(x:Rec)(hR:RU w r bx blk file cols v n cur)(hrow:Ro w rv x.row)(hf:∀y∈x.row,Fair y)(hr:x.row.length<=1000000)(hl:(encs cur).length<=1000000)(hb:blk<=1000000)
  (hfit:16+(encs cur).length+sZ x.row<=blk) :
  Calls prog 113 #[.pointer (some ⟨r,0,none⟩),.agg #[.int .i64 x.no,rv]] w λe w'=>e=.returned (.tuple #[])/\∃v',RU w' r bx blk file x.row.length v' n (cur++[x])/\TU [r] w w':=by
 have HSZ:Hid (∀W,Touch [] w W->Calls prog 141 #[rv] W λe w'=>e=.returned (.int .i64 (sZ x.row:Int))/\Touch [] W w'):=λW hW=>size_any W rv x.row (hrow.touch hW) hf hr;have HAP:Hid (∀W,TU [r] w W->Tx W r v (encs cur)->Calls prog 156 #[v,.agg #[.int .i64 x.no,rv]] W λe w'=>∃v',e=.returned v'/\Tx w' r v' (encs cur++encR x)/\Fr r W w'):=λW hW hT=>
  append_any r v (encs cur) x rv W hT (Z_ (s_ (agi.1 hR.cell).1 hW.size)) (by omega) (Sl3.keep hrow (hW.tag (by decide) (nO hR.cell (by decide)))) hf hr
 obtain⟨ao,aC,hrv⟩:=hrow.shape;have hv:=hR.text.slice;have HR:Hid (RU w r bx blk file cols v n cur):=hR;have hrlt:r<w.heap.size:=(agi.1 hR.cell).1;have Hl:Hid (∀W,TU [] w W->W.heap[r]?=some (.cells (rC bx blk file cols n v) 223 (0,0))):=λW hW=>hW.keep hR.cell (by decide) (by simp);obtain⟨vo,vc,rfl⟩:=hv;obtain⟨c0,c1,c2,c3,c4,c5,cf⟩:=bI hR.cell;have f3:=cf 3;have f5:=cf 5;subst hrv;clear hR hrow hf cf;generalize x.row.length=al at *;generalize x.no=an at *;generalize sZ x.row=sz at *;generalize hq:(encs cur).length=q at *;have HQ:Hid ((encs cur).length=q):=hq;clear hq;have HBX:Hid (∀W,TU [] (w.alloc (.cells #[.int .i64 an,.slice ao al aC] 205)) W->W.heap[w.heap.size]?=some (.cells #[.int .i64 an,.slice ao al aC] 205 (0,0))):=λW hW=>hW.keep (heap_alloc_new w _) (by decide) (by simp);have hw1:IntKind.i64.wrap (16+(q:Int))=16+(q:Int):=wrap_small _ (by omega) (by omega);have hw2:IntKind.i64.wrap (16+(q:Int)+(sz:Int))=16+(q:Int)+(sz:Int):=wrap_small _ (by omega) (by omega);go_enter func113,ntmps113;go_wp2
 go_region_held3 (λw'=>w'.cell? ⟨r,1,none⟩=some (.int .i64 (blk:Int))/\w'.cell? ⟨r,5,none⟩=some (.slice vo q vc)/\w'.cell? ⟨w.heap.size,1,none⟩=some (.slice ao al aC)) (go_keep) (first|(go_at_call 141;refine(HSZ.out _ ((tr_.alloc _).drew)).mono ?_;rintro e w1 ⟨rfl,hT1⟩;obtain⟨a0,a1,a2,a3,a4,a5,af⟩:=bI (Hl.out w1 (((tr_.alloc _).drew).trans hT1).u);obtain⟨x0,x1⟩:=bF (HBX.out w1 ((tr_.drew).trans hT1).u);have g3:=af 3;have g5:=af 5;clear af))
 have hTU:TU [] w w1:=(((tr_.alloc _).drew).trans hT1).u;have HC1:Hid (w1.heap[r]?=some (.cells (rC bx blk file cols n (.slice vo q vc)) 223 (0,0))):=Hl.out w1 hTU;have HTX:Hid (Tx w1 r (.slice vo q vc) (encs cur)):=HR.out.text.touch (((tr_.alloc _).drew).trans hT1) (by simp);have HTU:Hid (TU [] w w1):=hTU;have HB1:Hid (w1.heap[w.heap.size]?=some (.cells #[.int .i64 an,.slice ao al aC] 205 (0,0))):=HBX.out w1 ((tr_.drew).trans hT1).u;clear hT1 hTU c0 c1 c2 c3 c4 c5 f3 f5;have HC2:Hid ((w1.setCell ⟨r,3,none⟩ (.int .i64 (al:Int))).heap[r]?=some (.cells (rC bx blk file al n (.slice vo q vc)) 223 (0,0))):=cols_set HC1.out al;have HT3:Hid (Touch [r] w1 (w1.setCell ⟨r,3,none⟩ (.int .i64 (al:Int)))):=(Touch.refl [r] w1).setCell (p:=⟨r,3,none⟩) (by simp) _;have HTX2:Hid (Tx (w1.setCell ⟨r,3,none⟩ (.int .i64 (al:Int))) r (.slice vo q vc) (encs cur)):=HTX.out.setCell (λk hk e=>by
  obtain⟨c,f,hb⟩:=HTX.out.bytes k hk;rw[e,HC1.out]at hb;simp at hb) 3 _
 have HU2:Hid (TU [r] w (w1.setCell ⟨r,3,none⟩ (.int .i64 (al:Int)))):=(HTU.out.mono (by simp)).trans HT3.out.u;have HB2:Hid ((w1.setCell ⟨r,3,none⟩ (.int .i64 (al:Int))).heap[w.heap.size]?=some (.cells #[.int .i64 an,.slice ao al aC] 205 (0,0))):=by
  show _=_;rw[Below.heap_setCell _ _ _ _ (by simp;omega)];exact HB1.out
 have HAFT:Hid (∀w2,Fr r (w1.setCell ⟨r,3,none⟩ (.int .i64 (al:Int))).drew w2->w2.heap[r]?=some (.cells (rC bx blk file al n (.slice vo q vc)) 223 (0,0))/\w2.heap[w.heap.size]?=some (.cells #[.int .i64 an,.slice ao al aC] 205 (0,0))):=λw2 hF=>⟨hF.box HC2.out (by decide),hF.box HB2.out (by decide)⟩
 go_wp2_with fail
 obtain⟨m0,m1,m2,m3,m4,m5,_⟩:=bI HC2.out;obtain⟨n0,n1⟩:=bF HB2.out;clear a0 a1 a2 a3 a4 a5 x0 x1 g3 g5
 go_region_with (go_at_call 156;refine(HAP.out _ (HU2.out.trans ((Touch.refl [r] _).drew).u) HTX2.out.drew).mono ?_;rintro e w2 ⟨v2,rfl,hT2,hF2⟩;obtain⟨o2,n2,cc2,hv2⟩:=hT2.slice3;subst hv2;obtain⟨k1,k2⟩:=HAFT.out w2 hF2;obtain⟨b0,b1,b2,b3,b4,b5,bf⟩:=bI k1;obtain⟨y0,y1⟩:=bF k2;have h5:=bf 5;have HK1:Hid _:=k1;clear bf k1 k2)
 all_goals
  go_wp2
  go_end0
  have t5:=(Touch.refl [r] w2).setCell (p:=⟨r,5,none⟩) (by simp) (.slice o2 n2 cc2);exact⟨rfl,_,RU.after HK1.out hT2,((HU2.out.trans ((Touch.refl [r] _).drew).u).trans (hF2.u _ (by simp))).trans t5.u⟩
theorem PD.u (h:PD w bx bm d M)(t:TU F w w')(hF:∀k∈dI bx bm M,k∉F):PD w' bx bm d M:=by
 refine⟨t.keep h.disk (by decide) (hF bx (by simp[dI])),?_,h.files,λm hm=>?_,h.nodup⟩
 ·obtain⟨es,c,hb,he⟩:=h.map;exact⟨es,c,t.keepMap hb (hF bm (by simp[dI])),he⟩
 ·have hr:=h.rows m hm;obtain⟨h1,h2⟩:=hr;refine⟨h1,?_⟩;rcases h2 with h2|⟨g,cap,cur,e,hb,hh,rest⟩
  ·exact .inl h2
  ·refine .inr ⟨g,cap,cur,e,hb,t.keep hh (by decide) (hF g ?_),rest⟩;simp only[dI,a_];refine .inr (.inr (mM hm ?_));rw[e];rfl
theorem add_full (w:World)(r bx bm blk file cols n:Nat)(v rv:Value)(cur:List Rec)(x:Rec)(d:DS)(M:List PF)(bs:List ByteArray)(hR:RU w r bx blk file cols v n cur)(hP:PD w bx bm d M)(ok:Di d)(hm:gla<(file:Int))(hg:gq d.files file=some bs)
  (hrow:Ro w rv x.row) (hf:∀y∈x.row,Fair y) (hr:x.row.length<=1000000) (hl:(encs cur).length<=1000000) (hb:blk<=1000000) (hsz:sZ x.row<=1000000) (h1:1<=(encs cur).length) (hbd:((16+(encs cur).length:Nat):Int)<=d.block)
  (hfl:file<=1000000000) (hn:n<=100000000) (hroom:(uO d.files:Int)<d.blocks) (haf:uO d.files<=1000000000) (hw:d.wrote<=1000000000) (hfit:blk<16+(encs cur).length+sZ x.row) :
  Calls prog 113 #[.pointer (some ⟨r,0,none⟩),.agg #[.int .i64 x.no,rv]] w λe w'=>e=.returned (.tuple #[])/\∃v' d' M',RU w' r bx blk file x.row.length v' (n+1) [x]/\Wrote w w' bx bm d M file (bs++[BA (sD file n (encs cur))]) d' M' 1/\TU (r::dI bx bm M) w w':=by
 have HSZ:Hid (∀W,Touch [] w W->Calls prog 141 #[rv] W λe w'=>e=.returned (.int .i64 (sZ x.row:Int))/\Touch [] W w'):=λW hW=>size_any W rv x.row (hrow.touch hW) hf hr;have HAP:Hid (∀W u,TU (r::dI bx bm M) w W->Tx W r u []->Calls prog 156 #[u,.agg #[.int .i64 x.no,rv]] W λe w'=>∃v',e=.returned v'/\Tx w' r v' (encs []++encR x)/\Fr r W w'):=λW u hW hT=>
  append_any r u [] x rv W hT (Z_ (s_ (agi.1 hR.cell).1 hW.size)) (by simp) (Sl3.keep hrow (hW.tag (by decide) ((hP.nT (by decide) (by decide)).cons hR.cell (by decide)))) hf hr
 have HWR:Hid (∀W,Touch [] w W->Calls prog 155 #[.pointer (some ⟨r,0,none⟩)] W λe w'=>e=.returned (.tuple #[])/\∃v' d' M',RU w' r bx blk file cols v' (n+1) []/\Wrote w w' bx bm d M file (bs++[BA (sD file n (encs cur))]) d' M' 1/\Touch (r::dI bx bm M) W w'):=λW hW=>by
  refine(write_any W r bx bm blk file cols v n cur d M bs ⟨by rw[hW.block r (agi.1 hR.cell).1 (by simp)];exact hR.cell,hR.text.touch hW (by simp)⟩ (hP.away hW (by simp)) ok hm hg h1 hbd hl hfl hn hroom haf hw).mono ?_;rintro e w' ⟨rfl,v',d',M',p1,p2,_,p4⟩;exact⟨rfl,v',d',M',p1,⟨p2.pd,p2.step,p2.last,p2.wrote,p2.used,λy hy=>(p2.rows y hy).imp id (λh=>k_ hW.size h)⟩,p4⟩
 have HRD:Hid (r∉dI bx bm M):=(hP.nT (t:=223) (by decide) (by decide)).not_mem hR.cell;have HDL:Hid (∀k∈dI bx bm M,k<w.heap.size):=hP.lt;obtain⟨ao,aC,hrv⟩:=hrow.shape;have hv:=hR.text.slice;have HR:Hid (RU w r bx blk file cols v n cur):=hR;have hrlt:r<w.heap.size:=(agi.1 hR.cell).1;have Hl:Hid (∀W,TU [] w W->W.heap[r]?=some (.cells (rC bx blk file cols n v) 223 (0,0))):=λW hW=>hW.keep hR.cell (by decide) (by simp);obtain⟨vo,vc,rfl⟩:=hv;obtain⟨c0,c1,c2,c3,c4,c5,cf⟩:=bI hR.cell;subst hrv;clear hR hP ok hg hrow hf cf hroom haf hw hbd;generalize x.row.length=al at *;generalize x.no=an at *;generalize sZ x.row=sz at *;generalize hq:(encs cur).length=q at *;clear hq;have HBX:Hid (∀W F,TU F (w.alloc (.cells #[.int .i64 an,.slice ao al aC] 205)) W->w.heap.size∉F->W.heap[w.heap.size]?=some (.cells #[.int .i64 an,.slice ao al aC] 205 (0,0))):=λW F hW hF=>hW.keep (heap_alloc_new w _) (by decide) hF;have hw1:IntKind.i64.wrap (16+(q:Int))=16+(q:Int):=wrap_small _ (by omega) (by omega);have hw2:IntKind.i64.wrap (16+(q:Int)+(sz:Int))=16+(q:Int)+(sz:Int):=wrap_small _ (by omega) (by omega);go_enter func113,ntmps113;go_wp2
 go_region_held3 (λw'=>w'.cell? ⟨r,1,none⟩=some (.int .i64 (blk:Int))/\w'.cell? ⟨r,5,none⟩=some (.slice vo q vc)/\w'.cell? ⟨w.heap.size,1,none⟩=some (.slice ao al aC)) (go_keep) (first|(go_at_call 141;refine(HSZ.out _ ((tr_.alloc _).drew)).mono ?_;rintro e w1 ⟨rfl,hT1⟩;obtain⟨a0,a1,a2,a3,a4,a5,af⟩:=bI (Hl.out w1 (((tr_.alloc _).drew).trans hT1).u);obtain⟨x0,x1⟩:=bF (HBX.out w1 [] ((tr_.drew).trans hT1).u (by simp));clear af))
 have hTT:Touch [] w w1:=((tr_.alloc _).drew).trans hT1;have HT1:Hid (Touch [] (w.alloc (.cells #[.int .i64 an,.slice ao al aC] 205)) w1):=(tr_.drew).trans hT1;have HTT:Hid (Touch [] w w1):=hTT;clear hT1 hTT c0 c1 c2 c3 c4 c5
 go_wp2_with fail
 refine(HWR.out w1 HTT.out).mono ?_;rintro e w2 ⟨rfl,v3,d',M',hR2,hW2,hT2⟩;obtain⟨vo3,n3,vc3,hv3⟩:=hR2.text.slice3;subst hv3;have hB2:w2.heap[w.heap.size]?=some (.cells #[.int .i64 an,.slice ao al aC] 205 (0,0)):=HBX.out w2 (r::dI bx bm M) ((HT1.out.mono (by simp)).trans hT2).u (λe=>by
  rcases a_.1 e with e|e
  ·omega
  ·have:=HDL.out _ e;omega)
 have HR2:Hid _:=hR2;have HB2:Hid _:=hB2;obtain⟨c0,c1,c2,c3,c4,c5,cf⟩:=bI hR2.cell;obtain⟨y0,y1⟩:=bF hB2;have f3:=cf 3;clear cf a0 a1 a2 a3 a4 a5 x0 x1 hR2 hB2;have hsz2:=hT2.size;have hsz1:=HTT.out.size;have hNlt:w.heap.size<w2.heap.size:=(agi.1 HB2.out).1;have HU1:Hid (TU (r::dI bx bm M) w w2):=((HTT.out.mono (by simp)).trans hT2).u;have HC2:Hid ((w2.setCell ⟨r,3,none⟩ (.int .i64 (al:Int))).heap[r]?=some (.cells (rC bx blk file al (n+1) (.slice vo3 n3 vc3)) 223 (0,0))):=cols_set HR2.out.cell al;have HT3:Hid (Touch [r] w2 (w2.setCell ⟨r,3,none⟩ (.int .i64 (al:Int)))):=(Touch.refl [r] w2).setCell (p:=⟨r,3,none⟩) (by simp) _;have HTX2:Hid (Tx (w2.setCell ⟨r,3,none⟩ (.int .i64 (al:Int))) r (.slice vo3 n3 vc3) (encs [])):=HR2.out.text.setCell (λk hk e=>by
  obtain⟨c,f,hb⟩:=HR2.out.text.bytes k hk;rw[e,HR2.out.cell]at hb;simp at hb) 3 _
 have HU2:Hid (TU (r::dI bx bm M) w (w2.setCell ⟨r,3,none⟩ (.int .i64 (al:Int)))):=HU1.out.trans (HT3.out.mono (by simp)).u;have HB3:Hid ((w2.setCell ⟨r,3,none⟩ (.int .i64 (al:Int))).heap[w.heap.size]?=some (.cells #[.int .i64 an,.slice ao al aC] 205 (0,0))):=by
  show _=_;rw[Below.heap_setCell _ _ _ _ (by simp;omega)];exact HB2.out
 have HAFT:Hid (∀w4,Fr r (w2.setCell ⟨r,3,none⟩ (.int .i64 (al:Int))).drew w4->w4.heap[r]?=some (.cells (rC bx blk file al (n+1) (.slice vo3 n3 vc3)) 223 (0,0))/\w4.heap[w.heap.size]?=some (.cells #[.int .i64 an,.slice ao al aC] 205 (0,0))):=λw4 hF=>⟨hF.box HC2.out (by decide),hF.box HB3.out (by decide)⟩
 go_wp2_with fail
 obtain⟨m0,m1,m2,m3,m4,m5,_⟩:=bI HC2.out;obtain⟨n0,n1⟩:=bF HB3.out;clear c0 c1 c2 c3 c4 c5 y0 y1 f3
 go_region_with (go_at_call 156;refine(HAP.out _ _ (HU2.out.trans ((Touch.refl (r::dI bx bm M) _).drew).u) HTX2.out.drew).mono ?_;rintro e w4 ⟨v2,rfl,hT4,hF4⟩;obtain⟨o2,n2,cc2,hv2⟩:=hT4.slice3;subst hv2;obtain⟨k1,k2⟩:=HAFT.out w4 hF4;obtain⟨b0,b1,b2,b3,b4,b5,bf⟩:=bI k1;obtain⟨y0,y1⟩:=bF k2;have h5:=bf 5;have HK1:Hid _:=k1;clear bf k1 k2)
 all_goals
  go_wp2
  go_end0
  have t5:=(Touch.refl [r] w4).setCell (p:=⟨r,5,none⟩) (by simp) (.slice o2 n2 cc2);have hru:TU [r] w2 (w4.setCell ⟨r,5,none⟩ (.slice o2 n2 cc2)):=((HT3.out.u.trans ((Touch.refl [r] _).drew).u).trans (hF4.u _ (by simp))).trans t5.u;refine⟨rfl,_,d',M',RU.after (cur:=[]) HK1.out hT4,⟨hW2.pd.u hru ?_,hW2.step,hW2.last,hW2.wrote,hW2.used,hW2.rows⟩,HU1.out.trans (hru.mono (by simp))⟩;intro k hk e;rw[ms_ e]at hk;exact(hW2.pd.nT (t:=223) (by decide) (by decide)).not_mem HR2.out.cell hk
structure Rn (w:World)(r bx blk file cols:Nat)(v:Value)(cs:List (List Rec))(cur:List Rec)(d:DS):Prop where
 run:RU w r bx blk file cols v cs.length cur
 mine:gla<(file:Int)
 got:gq d.files file=some (textsOf file cs)
 fit:16+(encs cur).length<=blk
 full:∀c∈cs,c≠[]/\16+(encs c).length<=blk
structure Rh (blk cols:Nat)(x:Rec):Prop where
 no:I64 x.no
 fair:∀y∈x.row,Fair y
 len:x.row.length=cols
 size:16+sZ x.row<=blk
theorem encs_nil_iff (hf:∀x∈l,∀y∈x.row,Fair y):l=[]↔(encs l).length=0:=by
 constructor
 ·rintro rfl;rfl
 ·intro h;cases l with
  | nil=>rfl
  | cons x l=>
   have:=eY (r:=x) (hf x (by simp));simp only[encs,List.flatMap_cons,c_]at h;unfold sZ at this;omega
theorem encs_pos (hf:∀x∈l,∀y∈x.row,Fair y)(h:l≠[]):1<=(encs l).length:=by
 have:(encs l).length≠0:=λe=>h ((encs_nil_iff hf).2 e);omega
structure Roomy (d:DS)(k:Nat):Prop where
 room:(uO d.files:Int)+k<=d.blocks
 used:uO d.files+k<=1000000000
 wrote:d.wrote+k<=1000000000
theorem Wrote.none {bs:List ByteArray}(hP:PD w' bx bm d M)(ok:Di d)(hg:gq d.files file=some bs):Wrote w w' bx bm d M file bs d M 0:=
 ⟨hP,⟨ok,rfl,rfl,λj=>by
  split
  ·next e=>rw[e];exact hg
  ·rfl⟩,rfl,by simp,by simp,λ_ h=>.inl h⟩
theorem add_any (w:World)(r bx bm blk file cols c0:Nat)(v rv:Value)(cs:List (List Rec))(cur:List Rec)(x:Rec)(d:DS)(M:List PF)(hR:Rn w r bx blk file c0 v cs cur d)(hP:PD w bx bm d M)(ok:Di d)
  (hrow:Ro w rv x.row) (hx:Rh blk cols x) (hall:∀y∈cs.flatten++cur,Rh blk cols y) (hc:cols<=1000) (hb:(blk:Int)<=d.block) (hb2:blk<=4096) (hfl:file<=1000000000) (hn:cs.length<=100000000) (hroom:Roomy d 1) :
  Calls prog 113 #[.pointer (some ⟨r,0,none⟩),.agg #[.int .i64 x.no,rv]] w λe w'=>e=.returned (.tuple #[])/\∃v' cs' cur' d' M' k,k<=1/\Rn w' r bx blk file cols v' cs' cur' d'/\cs'.flatten++cur'=cs.flatten++cur++[x]/\cs'.length=cs.length+k/\Wrote w w' bx bm d M file (textsOf file cs') d' M' k/\TU (r::dI bx bm M) w w':=by
 have hsx:=eY (r:=x) hx.fair;have hlen:=hx.len;have hsz:=hx.size;have hfit:=hR.fit;have hrd:r∉dI bx bm M:=(hP.nT (t:=223) (by decide) (by decide)).not_mem hR.run.cell;by_cases hw:16+(encs cur).length+sZ x.row<=blk
 ·refine(add_plain w r bx blk file c0 cs.length v rv cur x hR.run hrow hx.fair (by omega) (by omega) (by omega) hw).mono ?_;rintro e w' ⟨rfl,v',h1,h2⟩;rw[hlen]at h1;refine⟨rfl,v',cs,cur++[x],d,M,0,by omega,⟨h1,hR.mine,hR.got,?_,hR.full⟩,by simp,rfl,Wrote.none (hP.u h2 (λk hk e=>by rw[ms_ e]at hk;exact hrd hk)) ok hR.got,h2.mono (by simp)⟩;rw[encs_snoc,c_];omega
 ·have hne:cur≠[]:=λe=>by
   subst e;simp[encs]at hw;omega
  have hcf:∀y∈cur,∀z∈y.row,Fair z:=λy hy=>(hall y (by simp[hy])).fair;have hpos:=encs_pos hcf hne;refine(add_full w r bx bm blk file c0 cs.length v rv cur x d M _ hR.run hP ok hR.mine hR.got hrow hx.fair (by omega) (by omega) (by omega) (by omega) hpos (by omega) hfl hn (by have:=hroom.room;omega) (by have:=hroom.used;omega) (by have:=hroom.wrote;omega) (by omega)).mono ?_;rintro e w' ⟨rfl,v',d',M',h1,h2,h3⟩;rw[hlen]at h1;rw[<-textsOf_snoc]at h2;refine⟨rfl,v',cs++[cur],[x],d',M',1,by omega,⟨by rw[c_];exact h1,hR.mine,?_,?_,λc hc=>?_⟩,by simp,by simp,h2,h3⟩
  ·rw[h2.step.get,if_pos rfl]
  ·simp only[encs,List.flatMap_cons,List.flatMap_nil,H_];omega
  ·rcases d_.1 hc with hc|hc
   ·exact hR.full c hc
   ·rw[ms_ hc];exact⟨hne,hfit⟩
structure Ru (w:World)(r bx blk file cols:Nat)(cs:List (List Rec))(d:DS):Prop where
 cell:w.heap[r]?=some (.cells (rC bx blk file cols cs.length (.slice none 0 0)) 223 (0,0))
 mine:gla<(file:Int)
 got:gq d.files file=some (textsOf file cs)
 full:∀c∈cs,c≠[]/\16+(encs c).length<=blk
theorem end_cell (h:w.heap[r]?=some (.cells (rC bx blk file cols n v) 223 (0,0))):(w.setCell ⟨r,5,none⟩ (.slice none 0 0)).heap[r]?=some (.cells (rC bx blk file cols n (.slice none 0 0)) 223 (0,0)):=by
 rw[heap_setCell_same w r 5 _ 223 _ h];simp[rC]
theorem runEnd_any (w:World)(r bx bm blk file cols:Nat)(v:Value)(cs:List (List Rec))(cur:List Rec)(d:DS)(M:List PF)(hR:Rn w r bx blk file cols v cs cur d)(hP:PD w bx bm d M)(ok:Di d)
  (hall:∀y∈cur,∀z∈y.row,Fair z) (hb:(blk:Int)<=d.block) (hb2:blk<=4096) (hfl:file<=1000000000) (hn:cs.length<=100000000) (hroom:Roomy d 1) :
  Calls prog 114 #[.pointer (some ⟨r,0,none⟩)] w λe w'=>e=.returned (.tuple #[])/\∃cs' d' M' k,k<=1/\Ru w' r bx blk file cols cs' d'/\cs'.flatten=cs.flatten++cur/\cs'.length=cs.length+k/\Wrote w w' bx bm d M file (textsOf file cs') d' M' k/\Touch (r::dI bx bm M) w w':=by
 have hfit:=hR.fit;have HRD:Hid (r∉dI bx bm M):=(hP.nT (t:=223) (by decide) (by decide)).not_mem hR.run.cell;by_cases hne:cur=[]
 ·subst hne;obtain⟨vo,vc,hv⟩:=hR.run.text.slice;obtain⟨c0,c1,c2,c3,c4,c5,cf⟩:=bI hR.run.cell;have f5:=cf 5;have HR:Hid (Rn w r bx blk file cols v cs [] d/\PD w bx bm d M/\Di d):=⟨hR,hP,ok⟩;subst hv;have hl0:(encs []).length=0:=rfl;rw[hl0]at c5;clear hR hP ok cf hl0;go_enter func114,ntmps114;go_wp2
  go_end0
  obtain⟨q1,q2,q3⟩:=HR.out;have t5:=(Touch.refl [r] w).setCell (p:=⟨r,5,none⟩) (by simp) (.slice none 0 0);exact⟨rfl,cs,d,M,0,by omega,⟨end_cell q1.run.cell,q1.mine,q1.got,q1.full⟩,by simp,rfl,Wrote.none (q2.away t5 (λk hk e=>by rw[ms_ e]at hk;exact HRD.out hk)) q3 q1.got,t5.mono (by simp)⟩
 ·have hpos:=encs_pos hall hne;have HWR:Hid (Calls prog 155 #[.pointer (some ⟨r,0,none⟩)] w λe w'=>e=.returned (.tuple #[])/\∃v' d' M',RU w' r bx blk file cols v' (cs.length+1) []/\Wrote w w' bx bm d M file (textsOf file cs++[BA (sD file cs.length (encs cur))]) d' M' 1/\v'.ownBlock=v.ownBlock/\Touch (r::dI bx bm M) w w'):=
   write_any w r bx bm blk file cols v cs.length cur d M _ hR.run hP ok hR.mine hR.got hpos (by omega) (by omega) hfl hn (by have:=hroom.room;omega) (by have:=hroom.used;omega) (by have:=hroom.wrote;omega)
  obtain⟨vo,vc,hv⟩:=hR.run.text.slice;obtain⟨c0,c1,c2,c3,c4,c5,cf⟩:=bI hR.run.cell;have HR:Hid (Rn w r bx blk file cols v cs cur d):=hR;have HNE:Hid (cur≠[]):=hne;subst hv;clear hR hP ok cf hne hall;generalize (encs cur).length=q at *;have hq:((0:Int)<(q:Int)):=by omega
  go_enter func114,ntmps114
  go_wp2_with (go_at_call 155;refine HWR.out.mono ?_;rintro e w2 ⟨rfl,v3,d',M',hR2,hW2,_,hT2⟩;obtain⟨b0,b1,b2,b3,b4,b5,bf⟩:=bI hR2.cell;have f5:=bf 5;have HR2:Hid _:=hR2;clear bf hR2)
  go_end0
  have t5:=(Touch.refl [r] w2).setCell (p:=⟨r,5,none⟩) (by simp) (.slice none 0 0);have hW2':=hW2;rw[<-textsOf_snoc]at hW2';refine⟨rfl,cs++[cur],d',M',1,by omega,⟨by rw[c_];exact end_cell HR2.out.cell,HR.out.mine,?_,λc hc=>?_⟩,by simp,by simp,⟨hW2'.pd.away t5 (λk hk e=>?_),hW2'.step,hW2'.last,hW2'.wrote,hW2'.used,hW2'.rows⟩,hT2.trans (t5.mono (by simp))⟩
  ·rw[hW2'.step.get,if_pos rfl]
  ·rcases d_.1 hc with hc|hc
   ·exact HR.out.full c hc
   ·rw[ms_ hc];exact⟨HNE.out,HR.out.fit⟩
  ·rw[ms_ e]at hk;exact(hW2'.pd.nT (t:=223) (by decide) (by decide)).not_mem HR2.out.cell hk
theorem read_any (w:World)(r bx bm blk file cols n:Nat)(cs:List (List Rec))(d:DS)(M:List PF)(hR:Ru w r bx blk file cols cs d)(hP:PD w bx bm d M)(ok:Di d)(hn:n<cs.length)(hl:(encs cs[n]).length<=1000000)(hfl:file<=1000000000)(hn2:n<=1000000000) :
  Calls prog 157 #[.pointer (some ⟨r,0,none⟩),.int .i64 (n:Int)] w λe w'=>e=.returned (.string (BA (encs cs[n])))/\PD w' bx bm d M/\Touch [bx] w w':=by
 have HRD:Hid (∀W,Touch [] w W->Calls prog 191 #[.pointer (some ⟨bx,0,none⟩),.int .i64 (file:Int),.int .i64 (n:Int)] W λe w'=>e=.returned (.tuple #[.string (BA (sD file n (encs cs[n]))),.int .i64 0])/\PD w' bx bm d M/\Touch [bx] W w'):=λW hW=>by
  have:=disk_read W bx bm d M file n (textsOf file cs) (hP.away hW (by simp)) ok hR.got (by rw[textsOf_len];exact hn);rw[textsOf_get file cs n hn]at this;exact this
 have HOP:Hid (∀W,Calls prog 192 #[.int .i64 (file:Int),.int .i64 (n:Int),.string (BA (sD file n (encs cs[n])))] W λe w'=>e=.returned (.string (BA (encs cs[n])))/\Touch [] W w'):=λW=>opened_any W _ file n hl hfl hn2;have hrb:r∉[bx]:=λe=>(hP.nT (t:=223) (by decide) (by decide)).not_mem hR.cell (by rw[ms_ e];simp[dI]);have Hl:Hid (∀W,Touch [bx] w W->W.heap[r]?=some (.cells (rC bx blk file cols cs.length (.slice none 0 0)) 223 (0,0))):=λW hW=>by
  rw[hW.block r (agi.1 hR.cell).1 hrb];exact hR.cell
 obtain⟨c0,c1,c2,c3,c4,c5,cf⟩:=bI hR.cell;clear hR hP ok cf;generalize BA (sD file n (encs cs[n]))=s at *;generalize BA (encs cs[n])=t at *;go_enter func157,ntmps157;go_wp2
 go_region_held3 (λw'=>w'.cell? ⟨r,0,none⟩=some (.pointer (some ⟨bx,0,none⟩))/\w'.cell? ⟨r,2,none⟩=some (.int .i64 (file:Int))) (go_keep) (first|(go_at_call 191;refine(HRD.out _ (tr_.drew)).mono ?_;rintro e w1 ⟨rfl,hP1,hT1⟩;obtain⟨a0,a1,a2,a3,a4,a5,_⟩:=bI (Hl.out w1 (((Touch.refl [bx] w).drew).trans hT1))))
 all_goals
  go_wp2_with (go_at_call 192;refine(HOP.out _).mono ?_;rintro e w2 ⟨rfl,hT2⟩)
  go_ret;exact⟨rfl,hP1.away hT2 (by simp),(((Touch.refl [bx] w).drew).trans hT1).trans (hT2.mono (by simp))⟩
theorem delete_any (w:World)(r bx bm blk file cols n:Nat)(v:Value)(d:DS)(M:List PF)(hR:w.heap[r]?=some (.cells (rC bx blk file cols n v) 223 (0,0)))(hP:PD w bx bm d M)(ok:Di d)(hm:gla<(file:Int))(haf:uO d.files<=1000000000) :
  Calls prog 104 #[.pointer (some ⟨r,0,none⟩)] w λe w'=>e=.returned (.tuple #[])/\∃d' M',PD w' bx bm d' M'/\DStep d d' file none/\d'.last=d.last/\d'.wrote=d.wrote/\uO d.files=uO d'.files+((gq d.files file).getD []).length/\List.Sublist (rowsOf M') (rowsOf M)/\Touch [bx,bm] w w':=by
 have HDE:Hid (∀W,Touch [] w W->Calls prog 128 #[.pointer (some ⟨bx,0,none⟩),.int .i64 (file:Int)] W λe w'=>(∃c,e=.returned (.int .i64 c))/\∃d' M',PD w' bx bm d' M'/\DStep d d' file none/\d'.last=d.last/\d'.wrote=d.wrote/\uO d.files=uO d'.files+((gq d.files file).getD []).length/\List.Sublist (rowsOf M') (rowsOf M)/\Touch [bx,bm] W w'):=λW hW=>disk_delete W bx bm d M file (hP.away hW (by simp)) ok hm haf;have hrb:r∉[bx,bm]:=λe=>(hP.nT (t:=223) (by decide) (by decide)).not_mem hR (by simp only[a_,i_,or_false]at e;rcases e with e|e<;>simp[dI,e]);have Hl:Hid (∀W,Touch [bx,bm] w W->W.heap[r]?=some (.cells (rC bx blk file cols n v) 223 (0,0))):=λW hW=>by
  rw[hW.block r (agi.1 hR).1 hrb];exact hR
 obtain⟨c0,c1,c2,c3,c4,c5,cf⟩:=bI hR;clear hR hP ok cf;go_enter func104,ntmps104;go_wp2
 go_region_held3 (λw'=>w'.cell? ⟨r,0,none⟩=some (.pointer (some ⟨bx,0,none⟩))/\w'.cell? ⟨r,2,none⟩=some (.int .i64 (file:Int))) (go_keep) (first|(go_at_call 128;refine(HDE.out _ (tr_.drew)).mono ?_;rintro e w1 ⟨⟨cc,rfl⟩,d',M',p1,p2,p3,p4,p5,p6,p7⟩;obtain⟨a0,a1,a2,a3,a4,a5,_⟩:=bI (Hl.out w1 (((Touch.refl [bx,bm] w).drew).trans p7))))
 all_goals
  go_wp2
  go_end0
  exact⟨rfl,d',M',p1,p2,p3,p4,p5,p6,((Touch.refl [bx,bm] w).drew).trans p7⟩
theorem sad (w:World)(bx bm blk file:Nat)(d:DS)(M:List PF)(hP:PD w bx bm d M)(ok:Di d)(hl:d.last<=1000000000)(hf:(file:Int)=d.last+1)(hblk:16<=blk) :
  Calls prog 112 #[.agg #[.pointer (some ⟨bx,0,none⟩),.int .i64 (blk:Int)]] w λe w'=>∃r,e=.returned (.pointer (some ⟨r,0,none⟩))/\w.heap.size<=r/\∃d' M',Rn w' r bx blk file 0 (.slice none 0 0) [] [] d'/\PD w' bx bm d' M'/\DStep d d' file (some [])/\d'.last=d.last+1/\d'.wrote=d.wrote/\uO d'.files=uO d.files/\gq d.files file=none/\rowsOf M'=rowsOf M/\Touch [bx,bm] w w':=by
 have HCR:Hid (∀W,Touch [] w W->Calls prog 154 #[.pointer (some ⟨bx,0,none⟩)] W λe w'=>e=.returned (.int .i64 (file:Int))/\∃d' M',PD w' bx bm d' M'/\DStep d d' file (some [])/\d'.last=d.last+1/\d'.wrote=d.wrote/\uO d'.files=uO d.files/\gq d.files file=none/\rowsOf M'=rowsOf M/\Touch [bx,bm] W w'):=λW hW=>by
  rw[hf];exact disk_create W bx bm d M (hP.away hW (by simp)) ok hl
 have HLT:Hid (∀k∈dI bx bm M,k<w.heap.size):=hP.lt;have HMN:Hid (gla<(file:Int)):=by have:=ok.base;show gla<(file:Int);omega
 clear hP ok hf hl;have HBX:Hid (∀W,Touch [bx,bm] (w.alloc (.cells #[.pointer (some ⟨bx,0,none⟩),.int .i64 (blk:Int)] 201)) W->W.heap[w.heap.size]?=some (.cells #[.pointer (some ⟨bx,0,none⟩),.int .i64 (blk:Int)] 201 (0,0))):=λW hW=>by
  rw[hW.block _ (by simp) (by have h1:=HLT.out bx (by simp[dI]);have h2:=HLT.out bm (by simp[dI]);simp;omega)];exact heap_alloc_new w _
 go_enter func112,ntmps112;go_wp2
 go_region_held3 (λw'=>w'.cell? ⟨w.heap.size,0,none⟩=some (.pointer (some ⟨bx,0,none⟩))/\w'.cell? ⟨w.heap.size,1,none⟩=some (.int .i64 (blk:Int))) (go_keep) (first|(go_at_call 154;refine(HCR.out _ ((tr_.alloc _).drew)).mono ?_;rintro e w1 ⟨rfl,d',M',p1,p2,p3,p4,p5,p6,p7,p8⟩;obtain⟨a0,a1⟩:=bF (HBX.out w1 (((Touch.refl [bx,bm] _).drew).trans p8));have hlt:=lt_of_cell a0;simp only at hlt))
 all_goals
  go_wp2;go_ret;refine⟨w1.heap.size,rfl,?_,d',M',⟨⟨heap_alloc_new w1 _,Tx.nil _ _⟩,HMN.out,?_,by simpa[encs]using hblk,by simp⟩,p1.away (tr_.alloc _) (by simp),p2,p3,p4,p5,p6,p7,((((Touch.refl [bx,bm] w).alloc _).drew).trans p8).alloc _⟩
  ·have:=p8.size;simp at this;omega
  ·rw[p2.get,if_pos rfl];rfl
def rV (r k:Nat)(s:ByteArray):Array Value:=#[.pointer (some ⟨r,0,none⟩),.int .i64 (k:Int),.string s]
def RD (w:World)(q r k:Nat)(s:ByteArray):Prop:=w.heap[q]?=some (.cells (rV r k s) 241 (0,0))
theorem next_end (w:World)(q r k n bx blk file cols:Nat)(v:Value)(hq:RD w q r k ⟨#[]⟩)(hr:w.heap[r]?=some (.cells (rC bx blk file cols n v) 223 (0,0)))(hk:k=n) :
  Calls prog 117 #[.pointer (some ⟨q,0,none⟩)] w λe w'=>e=.returned (.tuple #[.agg #[.int .i64 0,.slice none 0 0],.bool false])/\Touch [] w w':=by
 subst hk;obtain⟨a0,a1,a2⟩:=bD hq;obtain⟨c0,c1,c2,c3,c4,c5,_⟩:=bI hr;have hlt:=lt_of_cell a0;have hlt2:=lt_of_cell c0;simp only at hlt hlt2;have he:(ByteArray.toList ⟨#[]⟩).isEmpty=true:=by rw[ByteArray.toList_eq];rfl
 have hkk:((k:Int) == (k:Int))=true:=by simp
 clear hq hr;go_enter func117,ntmps117;go_wp2
 go_big_quiet (fail)
 go_wp2;exact bodyPost_ret (v:=.tuple #[.agg #[.int .i64 0,.slice none 0 0],.bool false]) (by simp[results,results117,go_sem]) rfl ⟨rfl,((tr_.alloc _).drewN nq).onto (((Touch.refl [w.heap.size] _).setCell (p:=⟨w.heap.size,0,none⟩) (by simp) _).setCell (p:=⟨w.heap.size,1,none⟩) (by simp) _) (λi hi=>.inr (by simp at hi;omega))⟩
theorem next_boxes (hq:RD w q r k s)(ht:Touch [] W0 w1)(h0:W0.heap=((w.alloc (.cells #[.int .i64 0,.slice none 0 0] 205)).alloc (.cells #[.int .i64 0,.slice none 0 0] 205)).heap) :
  w1.heap[w.heap.size]?=some (.cells #[.int .i64 0,.slice none 0 0] 205 (0,0))/\w1.heap[w.heap.size+1]?=some (.cells #[.int .i64 0,.slice none 0 0] 205 (0,0))/\RD w1 q r k s:=by
 refine⟨?_,?_,?_⟩
 ·rw[ht.block _ (by rw[h0];simp;omega) (by simp),h0,Below.heap_alloc _ _ _ (by simp)];exact heap_alloc_new w _
 ·have:=heap_alloc_new (w.alloc (.cells #[.int .i64 0,.slice none 0 0] 205)) (.cells #[.int .i64 0,.slice none 0 0] 205);rw[World.size_alloc]at this;rw[ht.block _ (by rw[h0];simp) (by simp),h0];exact this
 ·unfold RD at *;have hl:=(agi.1 hq).1;rw[ht.block _ (by rw[h0];simp;omega) (by simp),h0,Below.heap_alloc _ _ _ (by simp;omega),Below.heap_alloc _ _ _ hl];exact hq
theorem next_fin (hT:Touch [] w w1)(hq:q<w.heap.size)(bA:w1.heap[w.heap.size]?=some (.cells #[.int .i64 0,.slice none 0 0] 205 (0,0)))(bB:w1.heap[w.heap.size+1]?=some (.cells #[.int .i64 0,.slice none 0 0] 205 (0,0)))(bQ:RD w1 q r k s)(hG:Ro w1 (.slice (some ⟨g,0,none⟩) al al) row) :
  Ro (((((w1.setCell ⟨w.heap.size+1,0,none⟩ (.int .i64 no)).setCell ⟨w.heap.size+1,1,none⟩ (.slice (some ⟨g,0,none⟩) al al)).setCell ⟨q,2,none⟩ (.string s2)).setCell ⟨w.heap.size,0,none⟩ (.int .i64 no)).setCell ⟨w.heap.size,1,none⟩ (.slice (some ⟨g,0,none⟩) al al)) (.slice (some ⟨g,0,none⟩) al al) row /\
  RD (((((w1.setCell ⟨w.heap.size+1,0,none⟩ (.int .i64 no)).setCell ⟨w.heap.size+1,1,none⟩ (.slice (some ⟨g,0,none⟩) al al)).setCell ⟨q,2,none⟩ (.string s2)).setCell ⟨w.heap.size,0,none⟩ (.int .i64 no)).setCell ⟨w.heap.size,1,none⟩ (.slice (some ⟨g,0,none⟩) al al)) q r k s2 /\
  Touch [q] w (((((w1.setCell ⟨w.heap.size+1,0,none⟩ (.int .i64 no)).setCell ⟨w.heap.size+1,1,none⟩ (.slice (some ⟨g,0,none⟩) al al)).setCell ⟨q,2,none⟩ (.string s2)).setCell ⟨w.heap.size,0,none⟩ (.int .i64 no)).setCell ⟨w.heap.size,1,none⟩ (.slice (some ⟨g,0,none⟩) al al)):=by
 have t:=(((((Touch.refl [w.heap.size+1,q,w.heap.size] w1).setCell (p:=⟨w.heap.size+1,0,none⟩) (by simp) (.int .i64 no)).setCell (p:=⟨w.heap.size+1,1,none⟩) (by simp) (.slice (some ⟨g,0,none⟩) al al)).setCell (p:=⟨q,2,none⟩) (by simp) (.string s2)).setCell (p:=⟨w.heap.size,0,none⟩) (by simp) (.int .i64 no)).setCell (p:=⟨w.heap.size,1,none⟩) (by simp) (.slice (some ⟨g,0,none⟩) al al);refine⟨?_,?_,?_⟩
 ·refine Sl3.keep hG (t.tag (λi hi cs f e=>?_));simp only[a_,i_,or_false]at hi;rcases hi with rfl|rfl|rfl
  ·rw[bB]at e;simp at e
  ·rw[show w1.heap[i]?=_ from bQ]at e;simp at e
  ·rw[bA]at e;simp at e
 ·unfold RD at *;rw[Below.heap_setCell _ _ _ _ (by simp;omega),Below.heap_setCell _ _ _ _ (by simp;omega)];rw[heap_setCell_same _ q 2 (rV r k s) 241 (.string s2) (by rw[Below.heap_setCell _ _ _ _ (by simp;omega),Below.heap_setCell _ _ _ _ (by simp;omega)];exact bQ)];simp[rV]
 ·exact(hT.mono (by simp)).onto t (λi hi=>by
   simp only[a_,i_,or_false]at hi;rcases hi with rfl|rfl|rfl
   ·exact .inr (by omega)
   ·exact .inl (by simp)
   ·exact .inr (e_ _))
theorem next_have (w:World)(q r k n bx blk file:Nat)(v:Value)(x:Rec)(l:List UInt8)(hq:RD w q r k (BA (encR x++l)))(hr:w.heap[r]?=some (.cells (rC bx blk file x.row.length n v) 223 (0,0)))
  (hn:I64 x.no) (hf:∀y∈x.row,Fair y) (hc1:1<=x.row.length) (hc:x.row.length<=1000) :
  Calls prog 117 #[.pointer (some ⟨q,0,none⟩)] w λe w'=>∃g,e=.returned (.tuple #[.agg #[.int .i64 x.no,.slice (some ⟨g,0,none⟩) x.row.length x.row.length],.bool true])/\Ro w' (.slice (some ⟨g,0,none⟩) x.row.length x.row.length) x.row/\RD w' q r k (BA l)/\w.heap.size<=g/\Touch [q] w w':=by
 have HTK:Hid (∀W,Calls prog 158 #[.string (BA (encR x++l)),.int .i64 (x.row.length:Int)] W λe w'=>∃g,e=.returned (.tuple #[.agg #[.int .i64 x.no,.slice (some ⟨g,0,none⟩) x.row.length x.row.length],.string (BA l)])/\Ro w' (.slice (some ⟨g,0,none⟩) x.row.length x.row.length) x.row/\W.heap.size<=g/\Touch [] W w'):=λW=>take_any x hn hf hc1 hc l W;obtain⟨a0,a1,a2⟩:=bD hq;obtain⟨c0,c1,c2,c3,c4,c5,_⟩:=bI hr;have hlt:=lt_of_cell a0;have hlt2:=lt_of_cell c0;simp only at hlt hlt2;have he:(BA (encR x++l)).toList.isEmpty=false:=by
  have h1:(BA (encR x++l)).toList=encR x++l:=by rw[ByteArray.toList_eq]
  rw[h1];have h2:=eY (r:=x) hf;unfold sZ at h2;cases h3:encR x++l with
  | nil=>have:=congrArg List.length h3;simp at this;rw[this.1]at h2;simp at h2;omega
  | cons=>rfl
 have HQ:Hid (RD w q r k (BA (encR x++l))):=hq;have HR:Hid (w.heap[r]?=some (.cells (rC bx blk file x.row.length n v) 223 (0,0))):=hr;clear hq hr hn hf;generalize BA (encR x++l)=s at *;generalize BA l=s2 at *;generalize hrow:x.row=row at *;generalize x.no=no at *;clear hrow;generalize hal:row.length=al at *;have HAL:Hid (row.length=al):=hal;clear hal;go_enter func117,ntmps117;go_wp2
 go_big_quiet (fail)
 go_wp2_with fail
 go_region_with (go_at_call 158;refine(HTK.out _).mono ?_;rintro e w1 ⟨g,rfl,hG1,hg1,hT1⟩;obtain⟨bA,bB,bQ⟩:=next_boxes HQ.out hT1 rfl;obtain⟨x0,x1⟩:=bF bA;obtain⟨y0,y1⟩:=bF bB;obtain⟨z0,z1,z2⟩:=bD bQ;have g0:w1.frozen? ⟨w.heap.size,0,none⟩=false:=(by simp[World.frozen?,bA]);have g1:w1.frozen? ⟨w.heap.size,1,none⟩=false:=(by simp[World.frozen?,bA]);have g2:w1.frozen? ⟨w.heap.size+1,0,none⟩=false:=(by simp[World.frozen?,bB]);have g3:w1.frozen? ⟨w.heap.size+1,1,none⟩=false:=(by simp[World.frozen?,bB]);have g4:w1.frozen? ⟨q,2,none⟩=false:=(by simp[World.frozen?,show w1.heap[q]?=_ from bQ]);have HBA:Hid _:=bA;have HBB:Hid _:=bB;have HBQ:Hid (RD w1 q r k s):=bQ;clear bA bB bQ)
 all_goals
  have HT1:Hid (Touch [] w w1):=by
   refine Touch.trans ?_ hT1;exact((tr_.alloc (.cells #[.int .i64 0,.slice none 0 0] 205)).alloc (.cells #[.int .i64 0,.slice none 0 0] 205)).trans ⟨rfl,rfl,rfl,e_ _,λ_ _ _=>rfl⟩
  have HG1:Hid _:=hG1;have hgg:w.heap.size<=g:=by simp at hg1;omega
  clear hT1 hG1 a0 a1 a2 c0 c1 c2 c3 c4 c5 hg1;go_wp2;obtain⟨r1,r2,r3⟩:=next_fin (no:=no) (s2:=s2) HT1.out hlt HBA.out HBB.out HBQ.out HG1.out;exact bodyPost_ret (v:=.tuple #[.agg #[.int .i64 no,.slice (some ⟨g,0,none⟩) al al],.bool true]) (by simp[results,results117,go_sem,x0,x1]) rfl ⟨g,rfl,r1,r2,hgg,r3⟩
theorem next_fin2 (hT:Touch F w w1)(hqF:q∈F)(hN:w.heap.size<=N)(hB:w.heap.size<=B)(hNB:N≠B)(hqN:q≠N)(hqB:q≠B)(bA:w1.heap[N]?=some (.cells #[.int .i64 0,.slice none 0 0] 205 (0,0)))(bB:w1.heap[B]?=some (.cells #[.int .i64 0,.slice none 0 0] 205 (0,0)))(bQ:RD w1 q r k s)(hG:Ro w1 (.slice (some ⟨g,0,none⟩) al al) row) :
  Ro (((((w1.setCell ⟨B,0,none⟩ (.int .i64 no)).setCell ⟨B,1,none⟩ (.slice (some ⟨g,0,none⟩) al al)).setCell ⟨q,2,none⟩ (.string s2)).setCell ⟨N,0,none⟩ (.int .i64 no)).setCell ⟨N,1,none⟩ (.slice (some ⟨g,0,none⟩) al al)) (.slice (some ⟨g,0,none⟩) al al) row /\
  RD (((((w1.setCell ⟨B,0,none⟩ (.int .i64 no)).setCell ⟨B,1,none⟩ (.slice (some ⟨g,0,none⟩) al al)).setCell ⟨q,2,none⟩ (.string s2)).setCell ⟨N,0,none⟩ (.int .i64 no)).setCell ⟨N,1,none⟩ (.slice (some ⟨g,0,none⟩) al al)) q r k s2 /\
  Touch [B,q,N] w1 (((((w1.setCell ⟨B,0,none⟩ (.int .i64 no)).setCell ⟨B,1,none⟩ (.slice (some ⟨g,0,none⟩) al al)).setCell ⟨q,2,none⟩ (.string s2)).setCell ⟨N,0,none⟩ (.int .i64 no)).setCell ⟨N,1,none⟩ (.slice (some ⟨g,0,none⟩) al al)) /\
  Touch F w (((((w1.setCell ⟨B,0,none⟩ (.int .i64 no)).setCell ⟨B,1,none⟩ (.slice (some ⟨g,0,none⟩) al al)).setCell ⟨q,2,none⟩ (.string s2)).setCell ⟨N,0,none⟩ (.int .i64 no)).setCell ⟨N,1,none⟩ (.slice (some ⟨g,0,none⟩) al al)):=by
 have t:=(((((Touch.refl [B,q,N] w1).setCell (p:=⟨B,0,none⟩) (by simp) (.int .i64 no)).setCell (p:=⟨B,1,none⟩) (by simp) (.slice (some ⟨g,0,none⟩) al al)).setCell (p:=⟨q,2,none⟩) (by simp) (.string s2)).setCell (p:=⟨N,0,none⟩) (by simp) (.int .i64 no)).setCell (p:=⟨N,1,none⟩) (by simp) (.slice (some ⟨g,0,none⟩) al al);refine⟨?_,?_,t,?_⟩
 ·refine Sl3.keep hG (t.tag (λi hi cs f e=>?_));simp only[a_,i_,or_false]at hi;rcases hi with rfl|rfl|rfl
  ·rw[bB]at e;simp at e
  ·rw[show w1.heap[i]?=_ from bQ]at e;simp at e
  ·rw[bA]at e;simp at e
 ·unfold RD at *;rw[Below.heap_setCell _ _ _ _ (by simpa using hqN),Below.heap_setCell _ _ _ _ (by simpa using hqN)];rw[heap_setCell_same _ q 2 (rV r k s) 241 (.string s2) (by rw[Below.heap_setCell _ _ _ _ (by simpa using hqB),Below.heap_setCell _ _ _ _ (by simpa using hqB)];exact bQ)];simp[rV]
 ·exact hT.onto t (λi hi=>by
   simp only[a_,i_,or_false]at hi;rcases hi with rfl|rfl|rfl
   ·exact .inr hB
   ·exact .inl hqF
   ·exact .inr hN)
theorem next_read (w:World)(q r k n bx bm blk file:Nat)(v:Value)(x:Rec)(l:List UInt8)(d:DS)(M:List PF)(hq:RD w q r k ⟨#[]⟩)(hr:w.heap[r]?=some (.cells (rC bx blk file x.row.length n v) 223 (0,0)))(hk:k<n)(hk2:n<=1000000000)
  (hn:I64 x.no) (hf:∀y∈x.row,Fair y) (hc1:1<=x.row.length) (hc:x.row.length<=1000) (hP:PD w bx bm d M)
  (hrd:∀W,Touch [] w W->Calls prog 157 #[.pointer (some ⟨r,0,none⟩),.int .i64 (k:Int)] W λe w'=>e=.returned (.string (BA (encR x++l)))/\PD w' bx bm d M/\Touch [bx] W w') :
  Calls prog 117 #[.pointer (some ⟨q,0,none⟩)] w λe w'=>∃g,e=.returned (.tuple #[.agg #[.int .i64 x.no,.slice (some ⟨g,0,none⟩) x.row.length x.row.length],.bool true])/\Ro w' (.slice (some ⟨g,0,none⟩) x.row.length x.row.length) x.row/\RD w' q r (k+1) (BA l)/\w.heap.size<=g/\PD w' bx bm d M/\Touch [q,bx] w w':=by
 have HTK:Hid (∀W,Calls prog 158 #[.string (BA (encR x++l)),.int .i64 (x.row.length:Int)] W λe w'=>∃g,e=.returned (.tuple #[.agg #[.int .i64 x.no,.slice (some ⟨g,0,none⟩) x.row.length x.row.length],.string (BA l)])/\Ro w' (.slice (some ⟨g,0,none⟩) x.row.length x.row.length) x.row/\W.heap.size<=g/\Touch [] W w'):=λW=>take_any x hn hf hc1 hc l W;have HRD:Hid _:=hrd;obtain⟨a0,a1,a2⟩:=bD hq;obtain⟨c0,c1,c2,c3,c4,c5,_⟩:=bI hr;have hlt:=lt_of_cell a0;have hlt2:=lt_of_cell c0;simp only at hlt hlt2;have he:(ByteArray.toList ⟨#[]⟩).isEmpty=true:=by rw[ByteArray.toList_eq];rfl
 have hkn:((k:Int) == (n:Int))=false:=by simp;omega
 have hqb:q≠bx:=λe=>(hP.nT (t:=241) (by decide) (by decide)).not_mem hq (by rw[e];exact I_);have hrb:r≠bx:=λe=>(hP.nT (t:=223) (by decide) (by decide)).not_mem hr (by rw[e];exact I_);have hqr:q≠r:=λe=>by subst e;unfold RD at hq;rw[hq]at hr;simp at hr
 have hbxlt:bx<w.heap.size:=hP.lt bx I_;have HQD:Hid (q∉dI bx bm M):=(hP.nT (t:=241) (by decide) (by decide)).not_mem hq;have HQ:Hid (RD w q r k ⟨#[]⟩):=hq;have HR:Hid (w.heap[r]?=some (.cells (rC bx blk file x.row.length n v) 223 (0,0))):=hr;have HPLT:Hid (∀j∈dI bx bm M,j<w.heap.size):=hP.lt;clear hq hr hn hf hrd hP;generalize BA (encR x++l)=s at *;generalize BA l=s2 at *;generalize hrow:x.row=row at *;generalize x.no=no at *;clear hrow;generalize row.length=al at *;have HW1:Hid (∀W0 w1,Touch [bx] W0 w1->W0.heap=(w.alloc (.cells #[.int .i64 0,.slice none 0 0] 205)).heap->RD w1 q r k ⟨#[]⟩/\w1.heap[w.heap.size]?=some (.cells #[.int .i64 0,.slice none 0 0] 205 (0,0))/\w1.heap[r]?=some (.cells (rC bx blk file al n v) 223 (0,0))/\w.heap.size<w1.heap.size):=λW0 w1 ht h0=>by
  refine⟨?_,?_,?_,?_⟩
  ·unfold RD;rw[ht.block q (by rw[h0];simp;omega) (by simpa using hqb),h0,Below.heap_alloc _ _ _ hlt];exact HQ.out
  ·rw[ht.block _ (by rw[h0];simp) (by simp;omega),h0];exact heap_alloc_new w _
  ·rw[ht.block r (by rw[h0];simp;omega) (by simpa using hrb),h0,Below.heap_alloc _ _ _ hlt2];exact HR.out
  ·have:=ht.size;rw[h0]at this;simp at this;omega
 go_enter func117,ntmps117;go_wp2
 go_big_quiet (fail)
 go_wp2_with fail
 go_region_with (go_at_call 157;refine(HRD.out _ ((tr_.alloc _).drewN (nq+1))).mono ?_;rintro e w1 ⟨rfl,hP1,hT1⟩;obtain⟨bQ,bA,bR,hsz1⟩:=HW1.out _ _ hT1 rfl;obtain⟨z0,z1,z2⟩:=bD bQ;have g1:w1.frozen? ⟨q,1,none⟩=false:=(by simp[World.frozen?,show w1.heap[q]?=_ from bQ]);have g2:w1.frozen? ⟨q,2,none⟩=false:=(by simp[World.frozen?,show w1.heap[q]?=_ from bQ]);have HBQ:Hid (RD w1 q r k ⟨#[]⟩):=bQ;have HBA:Hid _:=bA;have HBR:Hid _:=bR;clear bQ bA bR)
 all_goals
  obtain⟨e0,e1,e2,e3,e4,e5,_⟩:=bI HBR.out;have HT1:Hid (Touch [q,bx] w w1):=((((Touch.refl [q,bx] w).alloc _).drewN (nq+1))).trans (hT1.mono (by simp));have HP1:Hid (PD w1 bx bm d M):=hP1;have HAFT:Hid (∀W0 w5,Touch [] W0 w5->W0.heap=(((w1.setCell ⟨q,2,none⟩ (.string s)).setCell ⟨q,1,none⟩ (.int .i64 ((k:Int)+1))).alloc (.cells #[.int .i64 0,.slice none 0 0] 205)).heap->w5.heap[w.heap.size]?=some (.cells #[.int .i64 0,.slice none 0 0] 205 (0,0))/\w5.heap[w1.heap.size]?=some (.cells #[.int .i64 0,.slice none 0 0] 205 (0,0))/\RD w5 q r (k+1) s):=λW0 w5 ht h0=>by
   have hql:q<w1.heap.size:=by omega
   have hNw:w.heap.size≠q:=by omega
   refine⟨?_,?_,?_⟩
   ·rw[ht.block _ (by rw[h0];simp;omega) (by simp),h0,Below.heap_alloc _ _ _ (by simp;omega),Below.heap_setCell _ _ _ _ (by simpa using hNw),Below.heap_setCell _ _ _ _ (by simpa using hNw)];exact HBA.out
   ·have:=heap_alloc_new ((w1.setCell ⟨q,2,none⟩ (.string s)).setCell ⟨q,1,none⟩ (.int .i64 ((k:Int)+1))) (.cells #[.int .i64 0,.slice none 0 0] 205);rw[show((w1.setCell ⟨q,2,none⟩ (.string s)).setCell ⟨q,1,none⟩ (.int .i64 ((k:Int)+1))).heap.size=w1.heap.size from by simp]at this;rw[ht.block _ (by rw[h0];simp) (by simp),h0];exact this
   ·unfold RD;rw[ht.block _ (by rw[h0];simp;omega) (by simp),h0,Below.heap_alloc _ _ _ (by simp;omega)];rw[heap_setCell_same _ q 1 _ 241 _ (heap_setCell_same w1 q 2 _ 241 (.string s) HBQ.out)];simp[rV]
  have HTT:Hid (∀W0 w5,Touch [] W0 w5->W0.heap=(((w1.setCell ⟨q,2,none⟩ (.string s)).setCell ⟨q,1,none⟩ (.int .i64 ((k:Int)+1))).alloc (.cells #[.int .i64 0,.slice none 0 0] 205)).heap->W0.os=w1.os->W0.tape=w1.tape->W0.output=w1.output->Touch [q] w1 w5):=λW0 w5 ht h0 p1 p2 p3=>by
   have t1:Touch [q] w1 (((w1.setCell ⟨q,2,none⟩ (.string s)).setCell ⟨q,1,none⟩ (.int .i64 ((k:Int)+1))).alloc (.cells #[.int .i64 0,.slice none 0 0] 205)):=(((Touch.refl [q] w1).setCell (p:=⟨q,2,none⟩) (by simp) _).setCell (p:=⟨q,1,none⟩) (by simp) _).alloc _;refine Touch.trans ⟨p1,p2,p3,by rw[h0];exact t1.size,λj hj hn=>by rw[h0];exact t1.block j hj hn⟩ (ht.mono (by simp))
  clear hT1 hP1 a0 a1 a2 c0 c1 c2 c3 c4 c5;have hq1:q<w1.heap.size:=by omega
  have hr1:r<w1.heap.size:=by omega
  go_wp2_with fail
  go_region_with (go_at_call 158;refine(HTK.out _).mono ?_;rintro e w5 ⟨g,rfl,hG5,hg5,hT5⟩;obtain⟨bA,bB,bQ⟩:=HAFT.out _ _ hT5 rfl;obtain⟨x0,x1⟩:=bF bA;obtain⟨y0,y1⟩:=bF bB;obtain⟨z5,z6,z7⟩:=bD bQ;have g3:w5.frozen? ⟨w.heap.size,0,none⟩=false:=(by simp[World.frozen?,bA]);have g4:w5.frozen? ⟨w.heap.size,1,none⟩=false:=(by simp[World.frozen?,bA]);have g5:w5.frozen? ⟨w1.heap.size,0,none⟩=false:=(by simp[World.frozen?,bB]);have g6:w5.frozen? ⟨w1.heap.size,1,none⟩=false:=(by simp[World.frozen?,bB]);have g7:w5.frozen? ⟨q,2,none⟩=false:=(by simp[World.frozen?,show w5.heap[q]?=_ from bQ]);have HCA:Hid _:=bA;have HCB:Hid _:=bB;have HCQ:Hid (RD w5 q r (k+1) s):=bQ;have HT5:Hid (Touch [q] w1 w5):=HTT.out _ _ hT5 rfl rfl rfl rfl;clear bA bB bQ)
 all_goals
  have HG5:Hid _:=hG5;have hgg:w.heap.size<=g:=by simp at hg5;omega
  have hNB:w.heap.size≠w1.heap.size:=by omega
  clear hT5 hG5 hg5 z0 z1 z2 e0 e1 e2 e3 e4 e5 HAFT HTT HTK HRD HW1;go_wp2;obtain⟨r1,r2,r3,r4⟩:=next_fin2 (F:=[q,bx]) (no:=no) (s2:=s2) (HT1.out.trans (HT5.out.mono (by simp))) (by simp) (e_ w.heap.size) (Z_ hsz1) hNB (by omega) (by omega) HCA.out HCB.out HCQ.out HG5.out;refine bodyPost_ret (v:=.tuple #[.agg #[.int .i64 no,.slice (some ⟨g,0,none⟩) al al],.bool true]) (by simp[results,results117,go_sem,x0,x1]) rfl ⟨g,rfl,r1,r2,hgg,(HP1.out.away HT5.out ?_).away r3 ?_,r4⟩
  ·intro j hj e;rw[ms_ e]at hj;exact HQD.out hj
  ·intro j hj e;have hjl:=HPLT.out j hj;simp only[a_,i_,or_false]at e;rcases e with e|e|e
   ·omega
   ·rw[e]at hj;exact HQD.out hj
   ·omega
def Rj (w:World)(q r:Nat)(cs:List (List Rec))(left:List Rec):Prop:=∃k rest,RD w q r k (BA (encs rest))/\left=rest++(cs.drop k).flatten/\k<=cs.length
theorem Rj.touch (h:Rj w q r cs left)(t:TU F w w')(hq:q∉F):Rj w' q r cs left:=by
 obtain⟨k,rest,h1,h2⟩:=h;exact⟨k,rest,t.keep h1 (by decide) hq,h2⟩
theorem Rj.cell (h:Rj w q r cs left):∃c,w.heap[q]?=some (.cells c 241 (0,0)):=by
 obtain⟨k,rest,h1,h2⟩:=h;exact⟨_,h1⟩
theorem flatten_ne (hf:∀c∈cs,c≠[])(h:cs.flatten=[]):cs=[]:=by
 cases cs with
 | nil=>rfl
 | cons c cs=>
  exfalso;have:=hf c (by simp);simp at h;exact this h.1
theorem next_nil (w:World)(q r bx blk file cols:Nat)(cs:List (List Rec))(d:DS)(hR:Ru w r bx blk file cols cs d)(hq:Rj w q r cs []) :
  Calls prog 117 #[.pointer (some ⟨q,0,none⟩)] w λe w'=>e=.returned (.tuple #[.agg #[.int .i64 0,.slice none 0 0],.bool false])/\Touch [] w w':=by
 obtain⟨k,rest,h1,h2,h3⟩:=hq;have h4:=au_.1 h2.symm;have h5:cs.drop k=[]:=flatten_ne (λc hc=>(hR.full c (ak_ hc)).1) h4.2;have h6:cs.length<=k:=List.drop_eq_nil_iff.1 h5;rw[h4.1]at h1;exact next_end w q r k cs.length bx blk file cols (.slice none 0 0) h1 hR.cell (by omega)
theorem eU (x:Rec)(l:List Rec):encs (x::l)=encR x++encs l:=by simp[encs]
theorem next_cons (w:World)(q r bx bm blk file cols:Nat)(cs:List (List Rec))(d:DS)(M:List PF)(x:Rec)(l:List Rec)(hR:Ru w r bx blk file cols cs d)(hq:Rj w q r cs (x::l))(hP:PD w bx bm d M)(ok:Di d)
  (hall:∀y∈x::l,Rh blk cols y) (hc1:1<=cols) (hc:cols<=1000) (hfl:file<=1000000000) (hn:cs.length<=100000000) (hch:∀c∈cs,(encs c).length<=1000000) :
  Calls prog 117 #[.pointer (some ⟨q,0,none⟩)] w λe w'=>∃g,e=.returned (.tuple #[.agg #[.int .i64 x.no,.slice (some ⟨g,0,none⟩) cols cols],.bool true])/\Ro w' (.slice (some ⟨g,0,none⟩) cols cols) x.row/\Rj w' q r cs l/\w.heap.size<=g/\PD w' bx bm d M/\Touch [q,bx] w w':=by
 obtain⟨k,rest,h1,h2,h3⟩:=hq;have hx:=hall x (by simp);have hlen:=hx.len;have hcell:=hR.cell;rw[<-hlen]at hcell;cases rest with
 | cons y rest=>
  simp only[List.cons_append,al_]at h2;obtain⟨rfl,h2⟩:=h2;rw[eU]at h1;refine(next_have w q r k cs.length bx blk file (.slice none 0 0) x (encs rest) h1 hcell hx.no hx.fair (by omega) (by omega)).mono ?_;rintro e w' ⟨g,rfl,p1,p2,p3,p4⟩;rw[hlen]at p1 ⊢;have hqd:q∉dI bx bm M:=(hP.nT (t:=241) (by decide) (by decide)).not_mem h1;exact⟨g,rfl,p1,⟨k,rest,p2,h2,h3⟩,p3,hP.away p4 (λj hj e=>by rw[ms_ e]at hj;exact hqd hj),p4.mono (by simp)⟩
 | nil=>
  have hk:k<cs.length:=by
   rcases ar_ k cs.length with h|h
   ·exact h
   ·rw[O_ h]at h2;simp at h2
  rw[J_ hk]at h2;have hne:=(hR.full cs[k] (m_ _)).1;cases hck:cs[k]with
  | nil=>exact absurd hck hne
  | cons y c'=>
   rw[hck]at h2;simp only[List.nil_append,List.flatten_cons,List.cons_append,al_]at h2;obtain⟨rfl,h2⟩:=h2;refine(next_read w q r k cs.length bx bm blk file (.slice none 0 0) x (encs c') d M h1 hcell hk (by omega) hx.no hx.fair (by omega) (by omega) hP (λW hW=>?_)).mono ?_
   ·have hRW:Ru W r bx blk file cols cs d:=⟨by rw[hW.block r (agi.1 hR.cell).1 (by simp)];exact hR.cell,hR.mine,hR.got,hR.full⟩;have:=read_any W r bx bm blk file cols k cs d M hRW (hP.away hW (by simp)) ok hk (hch _ (m_ _)) hfl (by omega);rw[hck,eU]at this;exact this
   ·rintro e w' ⟨g,rfl,p1,p2,p3,p4,p5⟩;rw[hlen]at p1 ⊢;exact⟨g,rfl,p1,⟨k+1,c',p2,h2,by omega⟩,p3,p4,p5⟩
theorem rZ (w:World)(r:Nat)(cs:List (List Rec)):Calls prog 116 #[.pointer (some ⟨r,0,none⟩)] w λe w'=>e=.returned (.pointer (some ⟨w.heap.size,0,none⟩))/\Rj w' w.heap.size r cs cs.flatten/\w.heap.size<w'.heap.size/\Touch [] w w':=by
 go_enter func116,ntmps116;go_wp2;go_ret;exact⟨rfl,⟨0,[],heap_alloc_new w _,by simp,x_ _⟩,by simp,(Touch.refl _ _).alloc _⟩
structure SC where
 bx:Nat
 blk:Nat
 kv:Value
 count:Nat
 most:Nat
 fan:Nat
 ph:Nat
 held:Nat
 came:Nat
 run:Int
 length:Nat
 lno:Int
 lv:Value
 rv:Value
 mg:Value
 given:Nat
def SC.cells (s:SC):Array Value:=
 #[.pointer (some ⟨s.bx,0,none⟩),.int .i64 (s.blk:Int),s.kv,.int .i64 (s.count:Int),.int .i64 (s.most:Int),.int .i64 (s.fan:Int),.pointer (some ⟨s.ph,0,none⟩),.int .i64 (s.held:Int),.int .i64 (s.came:Int),.int .i64 s.run,.int .i64 (s.length:Int),.int .i64 s.lno,s.lv,s.rv,s.mg,.int .i64 (s.given:Int)]
def Sr (w:World)(ps:Nat)(s:SC):Prop:=w.heap[ps]?=some (.cells s.cells 260 (0,0))
theorem Sr.cell {w:World}{ps:Nat}{s:SC}(h:Sr w ps s) :
  w.cell? ⟨ps,0,none⟩=some (.pointer (some ⟨s.bx,0,none⟩))/\w.cell? ⟨ps,1,none⟩=some (.int .i64 (s.blk:Int))/\w.cell? ⟨ps,2,none⟩=some s.kv/\w.cell? ⟨ps,3,none⟩=some (.int .i64 (s.count:Int))/\w.cell? ⟨ps,4,none⟩=some (.int .i64 (s.most:Int))/\w.cell? ⟨ps,5,none⟩=some (.int .i64 (s.fan:Int))/\w.cell? ⟨ps,6,none⟩=some (.pointer (some ⟨s.ph,0,none⟩))/\w.cell? ⟨ps,7,none⟩=some (.int .i64 (s.held:Int))/\w.cell? ⟨ps,8,none⟩=some (.int .i64 (s.came:Int))/\w.cell? ⟨ps,9,none⟩=some (.int .i64 s.run)/\w.cell? ⟨ps,10,none⟩=some (.int .i64 (s.length:Int))/\w.cell? ⟨ps,11,none⟩=some (.int .i64 s.lno)/\w.cell? ⟨ps,12,none⟩=some s.lv/\w.cell? ⟨ps,13,none⟩=some s.rv/\w.cell? ⟨ps,14,none⟩=some s.mg/\w.cell? ⟨ps,15,none⟩=some (.int .i64 (s.given:Int))/\∀o,w.frozen? ⟨ps,o,none⟩=false:=by
 unfold Sr at h;refine⟨?_,?_,?_,?_,?_,?_,?_,?_,?_,?_,?_,?_,?_,?_,?_,?_,?_⟩
 all_goals first|(intro o;simp[World.frozen?,h];done)|simp[World.cell?,h,SC.cells]
theorem Sr.u {s:SC}(h:Sr w ps s)(t:TU F w w')(hn:ps∉F):Sr w' ps s:=t.keep h (by decide) hn
theorem Sr.held {w:World}{ps:Nat}{s:SC}(h:Sr w ps s)(n:Nat):Sr (w.setCell ⟨ps,7,none⟩ (.int .i64 (n:Int))) ps { s with held:=n }:=by
 unfold Sr at *;rw[heap_setCell_same w ps 7 _ 260 _ h];simp[SC.cells]
theorem Hf.away {s s':SC}(h:Hf w ph v bs ps ks L)(hs:Sr w ps s)(hs':Sr w' ps s')(hk:s'.kv=s.kv)(t:TU F w w')(hF:∀k∈F,k∉h_ ph v)(n1:NT 228 w F)(n2:NT 73 w F)(n3:NT 85 w F):Hf w' ph v bs ps ks L:=by
 obtain⟨cs,f,vk,k1,k2,k3⟩:=h.ctx.keys;refine⟨t.keep h.head (by decide) (λe=>hF _ e (by simp[h_])),?_,⟨t.tag (by decide) n1 _ _ _ h.ctx.s,s'.cells,(0,0),vk,hs',?_,Sl3.keep k3 (t.tag (by decide) n2)⟩,λx hx=>⟨Sl3.keep (h.rows x hx).1 (t.tag (by decide) n3),(h.rows x hx).2⟩,h.ok⟩
 ·obtain⟨h1,h2⟩:=h.items;refine⟨h1,?_⟩;rcases h2 with h2|⟨g,cap,cur,e,hb,hh,rest⟩
  ·exact .inl h2
  ·exact .inr ⟨g,cap,cur,e,hb,t.keep hh (by decide) (λe'=>hF _ e' (by simp[h_,e,Value.ownBlock])),rest⟩
 ·unfold Sr at hs;rw[hs]at k1;simp only[j_,Obj.cells.injEq]at k1;rw[<-k1.1]at k2;simp only[SC.cells]at k2 ⊢;simpa[hk]using k2
theorem Hf.nT {w:World}{ph:Nat}{v:Value}{bs ps:Nat}{ks:List K}{L:List EV}(h:Hf w ph v bs ps ks L){t:TypeId}(h1:302≠t)(h2:263≠t):NT t w (h_ ph v):=
 (h.items.nT h2).cons h.head h1
theorem Hf.turn {s s':SC}(h:Hf w ph v bs ps ks L)(hs:Sr w ps s)(hs':Sr w' ps s')(hk:s'.kv=s.kv)(t:TU [ps] w w'):Hf w' ph v bs ps ks L:=by
 have hps:∀t',(260:TypeId)≠t'->NT t' w [ps]:=λt' ht=>nO hs ht;refine h.away hs hs' hk t (λk e=>?_) (hps _ (by decide)) (hps _ (by decide)) (hps _ (by decide));rw[ms_ e];exact(h.nT (t:=260) (by decide) (by decide)).not_mem hs
def sizes (L:List EV):Int:=(L.map λx=>x.1.size).sum
theorem size_le {x:EV}(hx:x∈L)(hp:∀y∈L,0<=y.1.size):x.1.size<=sizes L:=by
 induction L with
 | nil=>simp at hx
 | cons a L ih=>
  have h0:=hp a (by simp);have hn:0<=sizes L:=sizes_nn (λy hy=>hp y (by simp[hy]));have e:sizes (a::L)=a.1.size+sizes L:=by simp[sizes]
  rcases a_.1 hx with rfl|hx
  ·omega
  ·have:=ih hx (λy hy=>hp y (by simp[hy]));omega
 where
 sizes_nn {L:List EV} (hp:∀y∈L,0<=y.1.size):0<=sizes L:=by
  induction L with
  | nil=>simp[sizes]
  | cons a L ih=>
   have h0:=hp a (by simp);have:=ih (λy hy=>hp y (by simp[hy]));have e:sizes (a::L)=a.1.size+sizes L:=by simp[sizes]
   omega
theorem Hf.quiet (h:Hf w ph v bs ps ks L)(t:Touch [] w w'):Hf w' ph v bs ps ks L:=by
 refine⟨h.head.touch t (by simp),?_,h.ctx.keep (t.tu _) (t.tu _) (t.tu _),λx hx=>⟨(h.rows x hx).1.touch t,(h.rows x hx).2⟩,h.ok⟩;obtain⟨h1,h2⟩:=h.items;refine⟨h1,?_⟩;rcases h2 with h2|⟨g,cap,cur,e,hb,hh,rest⟩
 ·exact .inl h2
 ·exact .inr ⟨g,cap,cur,e,hb,t.tu _ _ _ _ hh,rest⟩
theorem pop_any (w:World)(ph:Nat)(v:Value)(bs ps:Nat)(ks:List K)(L:List EV)(x:EV)(h:Hf w ph v bs ps ks L)(h0:L[0]?=some x)(hsmall:L.length<=100000000) :
  Calls prog 207 #[.pointer (some ⟨ph,0,none⟩)] w λe w'=>e=.returned x.val/\∃v' L',Hf w' ph v' bs ps ks L'/\(x::L').Perm L/\v'.ownBlock=v.ownBlock/\Touch (h_ ph v) w w':=by
 obtain⟨hl,hx⟩:=l_.1 h0;obtain⟨g,cap,rfl,hA⟩:=h.at (λe=>by subst e;simp at hl);obtain⟨n,hn⟩:∃n,L.length=n+1:=⟨L.length-1,by omega⟩;refine(pop_at w ph g cap bs ps ks L n hA h.ok hn hsmall).mono ?_;rintro e w' ⟨rfl,L',p1,p2,p3⟩;rw[hx]at p2 ⊢;exact⟨rfl,_,L',p1,p2,rfl,p3.mono (by simp[h_,Value.ownBlock])⟩
theorem perm_sum {a b:List Int}(h:a.Perm b):a.sum=b.sum:=by
 induction h with
 | nil=>rfl
 | cons x _ ih=>simp[ih]
 | swap x y l=>simp only[List.sum_cons];omega
 | trans _ _ h1 h2=>exact h1.trans h2
theorem sizes_perm (h:L.Perm L'):sizes L=sizes L':=perm_sum (h.map _)
theorem sorterPop_any (w:World)(ps bs:Nat)(s:SC)(hv:Value)(ks:List K)(L:List EV)(x:EV)(hs:Sr w ps s)(hh:Hf w s.ph hv bs ps ks L)(h0:L[0]?=some x)(hsmall:L.length<=100000000)(hsz:(sizes L:Int)=s.held)(hpos:∀y∈L,0<=y.1.size)(hbig:s.held<=1000000000) :
  Calls prog 174 #[.pointer (some ⟨ps,0,none⟩)] w λe w'=>e=.returned x.val/\∃hv' L' n,Sr w' ps { s with held:=n }/\(sizes L':Int)=n/\Hf w' s.ph hv' bs ps ks L'/\(x::L').Perm L/\hv'.ownBlock=hv.ownBlock/\Touch (ps::h_ s.ph hv) w w':=by
 obtain⟨c0,c1,c2,c3,c4,c5,c6,c7,c8,c9,c10,c11,c12,c13,c14,c15,cf⟩:=hs.cell;have hxm:x∈L:=v_ h0;obtain⟨ao,aC,ea⟩:=(hh.rows x hxm).1.shape;have hle:x.1.size<=s.held/\0<=x.1.size:=by
  refine⟨?_,hpos x hxm⟩;rw[<-hsz];exact size_le hxm hpos
 have HPOP:Hid (∀W,Touch [] w W->Calls prog 207 #[.pointer (some ⟨s.ph,0,none⟩)] W λe w'=>e=.returned x.val/\∃v' L',Hf w' s.ph v' bs ps ks L'/\(x::L').Perm L/\v'.ownBlock=hv.ownBlock/\Touch (h_ s.ph hv) W w'):=λW hW=>pop_any W s.ph hv bs ps ks L x (hh.quiet hW) h0 hsmall;have HSZ:Hid (sizes L=s.held):=hsz;have HS:Hid (Sr w ps s):=hs;have hpslt:ps<w.heap.size:=(agi.1 hs).1;have HPN:Hid (ps∉h_ s.ph hv):=(hh.nT (t:=260) (by decide) (by decide)).not_mem hs;have HLT:Hid (∀k∈h_ s.ph hv,k<w.heap.size):=λk hk=>by
  rcases a_.1 hk with e|e
  ·rw[e];exact(agi.1 hh.head).1
  ·obtain⟨cs,f,e'⟩:=hh.items.tag k (by simpa using e);exact(agi.1 e').1
 have HV:Hid (x.val=.agg #[.int .i64 x.1.rc.no,.slice ao x.1.rc.row.length aC,.int .i64 x.1.run,.int .i64 x.1.size]):=by show _=_;unfold EV.val eP;rw[ea]
 rw[HV.out]at HPOP ⊢;have f7:=cf 7;obtain⟨hle1,hle2⟩:=hle;clear hs hh cf hsz hpos hxm ea h0;have HX:Hid (x.1.size=x.1.size):=rfl;generalize hsx:x.1.size=xs at *;have HXS:Hid (x.1.size=xs):=hsx;clear hsx HX;obtain⟨m,rfl⟩:∃m:Nat,xs=(m:Int):=⟨xs.toNat,by omega⟩;obtain⟨n,hsub⟩:∃n:Nat,(s.held:Int)-(m:Int)=(n:Int):=⟨s.held-m,by omega⟩;have HSUB:Hid ((s.held:Int)-(m:Int)=(n:Int)):=hsub;generalize x.1.rc.row.length=al at *;generalize x.1.rc.no=an at *;generalize x.1.run=au at *;have Hl:Hid (∀W0 w1:World,Touch (h_ s.ph hv) W0 w1->W0.heap=(w.alloc (.cells #[.int .i64 0,.slice none 0 0,.int .i64 0,.int .i64 0] 263)).heap->Sr w1 ps s/\w1.heap[w.heap.size]?=some (.cells #[.int .i64 0,.slice none 0 0,.int .i64 0,.int .i64 0] 263 (0,0))/\w.heap.size<w1.heap.size):=λW0 w1 ht h0=>by
  refine⟨?_,?_,?_⟩
  ·unfold Sr;rw[ht.block ps (by rw[h0];simp;omega) HPN.out,h0,Below.heap_alloc _ _ _ hpslt];exact HS.out
  ·rw[ht.block _ (by rw[h0];simp) (λe=>by have:=HLT.out _ e;omega),h0];exact heap_alloc_new w _
  ·have:=ht.size;rw[h0]at this;simp at this;omega
 go_enter func174,ntmps174
 go_wp2_with (go_at_call 207;refine(HPOP.out _ (tr_.alloc _)).mono ?_;rintro e w1 ⟨rfl,v1,L1,p1,p2,p3,p4⟩;obtain⟨q1,q2,q3⟩:=Hl.out _ _ p4 rfl;clear c0 c1 c2 c3 c4 c5 c6 c7 c8 c9 c10 c11 c12 c13 c14 c15 f7;obtain⟨c0,c1,c2,c3,c4,c5,c6,c7,c8,c9,c10,c11,c12,c13,c14,c15,cf⟩:=q1.cell;have f7:=cf 7;have HQ1:Hid (Sr w1 ps s):=q1;have HQ2:Hid _:=q2;have HP1:Hid _:=p1;have HP4:Hid _:=p4;clear cf q1 q2 p1 p4)
 have hps1:ps<w1.heap.size:=by omega
 go_region
 obtain⟨x0,x1,x2,x3⟩:=bJ HQ2.out;have z0:w1.frozen? ⟨w.heap.size,0,none⟩=false:=by simp[World.frozen?,HQ2.out]
 have z1:w1.frozen? ⟨w.heap.size,1,none⟩=false:=by simp[World.frozen?,HQ2.out]
 have z2:w1.frozen? ⟨w.heap.size,2,none⟩=false:=by simp[World.frozen?,HQ2.out]
 have z3:w1.frozen? ⟨w.heap.size,3,none⟩=false:=by simp[World.frozen?,HQ2.out]
 have hne:w.heap.size≠ps:=by omega
 have hne2:ps≠w.heap.size:=by omega
 go_wp2;have T0:Touch [ps,w.heap.size] w1 ((((((w1.setCell ⟨ps,7,none⟩ (.int .i64 (n:Int))).setCell ⟨w.heap.size,0,none⟩ (.int .i64 an)).setCell ⟨w.heap.size,1,none⟩ (.slice ao al aC)).setCell ⟨w.heap.size,2,none⟩ (.int .i64 au)).setCell ⟨w.heap.size,3,none⟩ (.int .i64 (m:Int))).alloc (.cells #[.int .i64 an,.slice ao al aC,.int .i64 au,.int .i64 (m:Int)] 263)).drew:=
  ((((((Touch.refl [ps,w.heap.size] w1).setCell (p:=⟨ps,7,none⟩) (by simp) _).setCell (p:=⟨w.heap.size,0,none⟩) (by simp) _).setCell (p:=⟨w.heap.size,1,none⟩) (by simp) _).setCell (p:=⟨w.heap.size,2,none⟩) (by simp) _).setCell (p:=⟨w.heap.size,3,none⟩) (by simp) _).alloc _ |>.drew
 have T1:Touch [w.heap.size] (w1.setCell ⟨ps,7,none⟩ (.int .i64 (n:Int))) ((((((w1.setCell ⟨ps,7,none⟩ (.int .i64 (n:Int))).setCell ⟨w.heap.size,0,none⟩ (.int .i64 an)).setCell ⟨w.heap.size,1,none⟩ (.slice ao al aC)).setCell ⟨w.heap.size,2,none⟩ (.int .i64 au)).setCell ⟨w.heap.size,3,none⟩ (.int .i64 (m:Int))).alloc (.cells #[.int .i64 an,.slice ao al aC,.int .i64 au,.int .i64 (m:Int)] 263)).drew:=
  (((((Touch.refl [w.heap.size] _).setCell (p:=⟨w.heap.size,0,none⟩) (by simp) _).setCell (p:=⟨w.heap.size,1,none⟩) (by simp) _).setCell (p:=⟨w.heap.size,2,none⟩) (by simp) _).setCell (p:=⟨w.heap.size,3,none⟩) (by simp) _).alloc _ |>.drew
 have hS:=(HQ1.out.held n).u T1.u (by simpa using hne2);have hB:=heap_setCell_same _ w.heap.size 3 _ 263 (.int .i64 (m:Int)) (heap_setCell_same _ w.heap.size 2 _ 263 (.int .i64 au) (heap_setCell_same _ w.heap.size 1 _ 263 (.slice ao al aC) (heap_setCell_same _ w.heap.size 0 _ 263 (.int .i64 an) ((heap_setCell_other w1 ⟨ps,7,none⟩ w.heap.size (.int .i64 (n:Int)) hne).trans HQ2.out))));simp at hB;have hB2:=(Below.heap_alloc _ (.cells #[.int .i64 an,.slice ao al aC,.int .i64 au,.int .i64 (m:Int)] 263) _ (agi.1 hB).1).trans hB;obtain⟨y0,y1,y2,y3⟩:=bJ hB2;refine bodyPost_ret (v:=.agg #[.int .i64 an,.slice ao al aC,.int .i64 au,.int .i64 m]) (by simp[results,results174,go_sem,y0,y1,y2,y3]) rfl ⟨rfl,v1,L1,n,hS,?_,?_,p2,p3,?_⟩
 ·have e1:=sizes_perm p2;have e2:sizes (x::L1)=x.1.size+sizes L1:=by simp[sizes]
  have e3:=HSZ.out;have e4:=HXS.out;have e5:=HSUB.out;omega
 ·have nt:∀t',(260:TypeId)≠t'->(263:TypeId)≠t'->NT t' w1 [ps,w.heap.size]:=λt' h1 h2=>(nO HQ2.out h2).cons HQ1.out h1;refine HP1.out.away HQ1.out hS rfl T0.u (λk hk e=>?_) (nt _ (by decide) (by decide)) (nt _ (by decide) (by decide)) (nt _ (by decide) (by decide));have e':k∈h_ s.ph hv:=by simpa[h_,p3]using e
  rcases a_.1 hk with rfl|hk
  ·exact HPN.out e'
  ·have:=HLT.out _ e';simp at hk;omega
 ·have:=((((Touch.refl (ps::h_ s.ph hv) w).alloc _).trans (HP4.out.mono (λk hk=>o_ _ hk))));exact this.onto T0 (λi hi=>by simp at hi;rcases hi with rfl|rfl;exact .inl (by simp);exact .inr (e_ _))
structure RI where
 r:Nat
 file:Nat
 cols:Nat
 v:Value
 cs:List (List Rec)
 cur:List Rec
def RI.recs (x:RI):List Rec:=x.cs.flatten++x.cur
def RI.ptr (x:RI):Value:=.pointer (some ⟨x.r,0,none⟩)
def RI.Done (w:World)(bx blk:Nat)(d:DS)(x:RI):Prop:=Ru w x.r bx blk x.file x.cols x.cs d/\x.cur=[]
def RI.Open (w:World)(bx blk:Nat)(d:DS)(x:RI):Prop:=Rn w x.r bx blk x.file x.cols x.v x.cs x.cur d
structure Left (d:DS)(k j:Nat):Prop where
 used:(uO d.files:Int)<=d.wrote
 room:d.wrote+k<=d.blocks
 small:d.wrote+k<=1000000000
 last:d.last+j<=1000000000
theorem Left.mono (h:Left d k j)(h1:k'<=k)(h2:j'<=j):Left d k' j':=by
 obtain⟨a,b,c,e⟩:=h;exact⟨a,by omega,by omega,by omega⟩
theorem Left.roomy (h:Left d k j):Roomy d k:=by
 obtain⟨a,b,c,e⟩:=h;exact⟨by omega,by omega,by omega⟩
theorem Left.wrote {w w':World}{bx bm:Nat}{d d':DS}{M M':List PF}{file:Nat}{bs:List ByteArray}{k m j:Nat}(h:Left d (m+k) j)(hw:Wrote w w' bx bm d M file bs d' M' k):Left d' m j:=by
 obtain⟨a,b,c,e⟩:=h;have h1:=hw.wrote;have h2:=hw.used;have h3:=hw.last;have h4:=hw.step.blocks;exact⟨by omega,by omega,by omega,by omega⟩
theorem RI.Done.keep {w w':World}{bx blk:Nat}{d d':DS}{x:RI}{F:List Nat}{file:Int}{c:Option (List ByteArray)}(h:x.Done w bx blk d)(t:TU F w w')(hr:x.r∉F)(hd:DStep d d' file c)(hf:(x.file:Int)≠file):x.Done w' bx blk d':=by
 obtain⟨⟨h1,h0,h2,h3⟩,h4⟩:=h;refine⟨⟨t.keep h1 (by decide) hr,h0,?_,h3⟩,h4⟩;rw[hd.get,if_neg hf];exact h2
theorem RI.Done.quiet {x:RI}(h:x.Done w bx blk d)(t:TU F w w')(hr:x.r∉F):x.Done w' bx blk d:=by
 obtain⟨⟨h1,h0,h2,h3⟩,h4⟩:=h;exact⟨⟨t.keep h1 (by decide) hr,h0,h2,h3⟩,h4⟩
theorem RI.Open.quiet {x:RI}(h:x.Open w bx blk d)(t:Touch F w w')(hr:x.r∉F)(h5:NT 5 w F):x.Open w' bx blk d:=by
 obtain⟨⟨h1,h2⟩,h0,h3,h4,h6⟩:=h;refine⟨⟨t.u.keep h1 (by decide) hr,h2.touch t (λk hk=>?_)⟩,h0,h3,h4,h6⟩;obtain⟨c,f,hc⟩:=h2.bytes k hk;exact h5.not_mem hc
structure RS (w:World)(bx bm blk cols:Nat)(d:DS)(M:List PF)(pre:List RI)(o:Option RI):Prop where
 pd:PD w bx bm d M
 ok:Di d
 done:∀x∈pre,x.Done w bx blk d
 opn:∀x,o=some x->x.Open w bx blk d
 files:((pre++o.toList).map RI.file).Nodup
 recs:∀x∈pre++o.toList,∀y∈x.recs,Rh blk cols y
 known:∀x∈pre++o.toList,(x.file:Int)<=d.last
 len:∀x∈pre++o.toList,x.cs.length<=x.recs.length/\x.recs.length<=1000000
 col:∀x∈pre++o.toList,x.recs≠[]->x.cols=cols
 block:(blk:Int)<=d.block
 b2:blk<=4096
 b1:16<=blk
 c2:cols<=1000
def rF (bx bm:Nat)(M:List PF)(R:List RI):List Nat:=R.map RI.r++dI bx bm M
theorem RS.cell {w:World}{bx bm blk cols:Nat}{d:DS}{M:List PF}{pre:List RI}{o:Option RI}(h:RS w bx bm blk cols d M pre o){x:RI}(hx:x∈pre++o.toList):∃n v,w.heap[x.r]?=some (.cells (rC bx blk x.file x.cols n v) 223 (0,0)):=by
 rcases d_.1 hx with hx|hx
 ·exact⟨_,_,(h.done x hx).1.cell⟩
 ·exact⟨_,_,(h.opn x (by simpa using hx)).run.cell⟩
theorem RS.nT {w:World}{bx bm blk cols:Nat}{d:DS}{M:List PF}{pre:List RI}{o:Option RI}(h:RS w bx bm blk cols d M pre o){t:TypeId}(h1:117≠t)(h2:9≠t)(h3:223≠t):NT t w (rF bx bm M (pre++o.toList)):=by
 intro k hk cs f e;rcases d_.1 hk with hk|hk
 ·obtain⟨x,hx,rfl⟩:=z_.1 hk;obtain⟨n,v,hc⟩:=h.cell hx;rw[hc]at e;simp only[j_,Obj.cells.injEq]at e;exact h3 e.2.1
 ·exact h.pd.nT h1 h2 k hk cs f e
theorem RS.boxes {pre:List RI}{o:Option RI}(h:RS w bx bm blk cols d M pre o){x y:RI}(hx:x∈pre++o.toList)(hy:y∈pre++o.toList)(e:x.r=y.r):x.file=y.file:=by
 obtain⟨n,v,hc⟩:=h.cell hx;obtain⟨n',v',hc'⟩:=h.cell hy;rw[e,hc']at hc;simp only[j_,Obj.cells.injEq,rC]at hc;have:=hc.1;simp at this;omega
theorem RS.mine {w:World}{bx bm blk cols:Nat}{d:DS}{M:List PF}{pre:List RI}{o:Option RI}(h:RS w bx bm blk cols d M pre o){x:RI}(hx:x∈pre++o.toList):gla<(x.file:Int):=by
 rcases d_.1 hx with hx|hx
 ·exact(h.done x hx).1.mine
 ·exact(h.opn x (by simpa using hx)).mine
theorem RS.r_disk {pre:List RI}{o:Option RI}(h:RS w bx bm blk cols d M pre o){x:RI}(hx:x∈pre++o.toList):x.r∉dI bx bm M:=by
 obtain⟨n,v,hc⟩:=h.cell hx;exact(h.pd.nT (t:=223) (by decide) (by decide)).not_mem hc
theorem RS.quiet {w w':World}{bx bm blk cols:Nat}{d:DS}{M:List PF}{pre:List RI}{o:Option RI}{F:List Nat}(h:RS w bx bm blk cols d M pre o)(t:Touch F w w')(hF:∀k∈F,k∉rF bx bm M (pre++o.toList))(h5:NT 5 w F):RS w' bx bm blk cols d M pre o:=
 { h with
  pd:=h.pd.away t (λk hk e=>hF k e (by simp only[rF,d_];exact .inr hk))
  done:=λx hx=>(h.done x hx).quiet t.u (λe=>hF _ e (by simp only[rF,d_,z_];exact .inl ⟨x,.inl hx,rfl⟩))
  opn:=λx hx=>(h.opn x hx).quiet t (λe=>hF _ e (by simp only[rF,d_,z_];exact .inl ⟨x,.inr (by simp[hx]),rfl⟩)) h5 }
theorem nodup_last {α:Type}{l:List α}{a:α}(h:(l++[a]).Nodup):∀b∈l,b≠a:=λb hb e=>(ad_.1 h).2.2 b hb a (by simp) e
def PW (w:World)(v:Value)(R:List RI):Prop:=w.ownsRow 0 194 1 v R.length (R.map RI.ptr)
theorem PW.shape {R:List RI}(h:PW w v R):(v=.slice none 0 0/\R=[])\/∃g cap cur,v=.slice (some ⟨g,0,none⟩) R.length cap/\w.heap[g]?=some (.cells cur 194 (0,0))/\R.length<=cap/\cap<=maxLen/\cur.size=cap/\∀i (hi:i<R.length),cur[i]?=some R[i].ptr:=by
 obtain⟨h1,h2⟩:=h;rcases h2 with⟨rfl,h0⟩|⟨g,cap,cur,e,hb,hh,hc,hm,hs,hx⟩
 ·exact .inl ⟨rfl,D_.1 h0⟩
 ·refine .inr ⟨g,cap,cur,e,hh,hc,hm,by simpa using hs,λi hi=>?_⟩;have h3:(List.take (R.length*1) cur.toList)[i]?=(R.map RI.ptr)[i]?:=by rw[hx]
  rw[S_,if_pos (by omega)]at h3;simpa[hi]using h3
theorem PW.u {R:List RI}(h:PW w v R)(t:TU F w w')(hn:∀k,v.ownBlock=some k->k∉F):PW w' v R:=by
 obtain⟨h1,h2⟩:=h;refine⟨h1,?_⟩;rcases h2 with h2|⟨g,cap,cur,e,hb,hh,rest⟩
 ·exact .inl h2
 ·exact .inr ⟨g,cap,cur,e,hb,t.keep hh (by decide) (hn g (by simp[e,Value.ownBlock])),rest⟩
theorem PW.nT {R:List RI}(h:PW w v R)(h1:194≠t):NT t w v.ownBlock.toList:=by
 intro k hk cs f e;rcases h.shape with⟨rfl,_⟩|⟨g,cap,cur,rfl,hh,_⟩
 ·simp[Value.ownBlock]at hk
 ·simp[Value.ownBlock]at hk;subst hk;rw[hh]at e;simp only[j_,Obj.cells.injEq]at e;exact h1 e.2.1
theorem len_flatten (h:∀c∈cs,c≠[]):cs.length<=cs.flatten.length:=by
 induction cs with
 | nil=>simp
 | cons c cs ih=>
  have h1:=ih (λc hc=>h c (by simp[hc]));have h2:1<=c.length:=by
   have:=h c (by simp);cases c with
   | nil=>exact absurd rfl this
   | cons=>simp
  simp only[List.length_cons,List.flatten_cons,c_];omega
theorem RS.ended {pre:List RI}{x:RI}(h:RS w bx bm blk cols d M pre (some x))(hE:Ru w' x.r bx blk x.file x.cols cs' d')(hr:cs'.flatten=x.cs.flatten++x.cur)
  (hW:Wrote w w' bx bm d M x.file (textsOf x.file cs') d' M' k) (t:Touch (x.r::dI bx bm M) w w'):RS w' bx bm blk cols d' M' (pre++[⟨x.r,x.file,x.cols,.slice none 0 0,cs',[]⟩]) none:=by
 have hrec:RI.recs ⟨x.r,x.file,x.cols,.slice none 0 0,cs',[]⟩=x.recs:=by simp[RI.recs,hr]
 have hxm:x∈pre++(some x).toList:=by simp
 have hmem:∀y∈pre++[(⟨x.r,x.file,x.cols,.slice none 0 0,cs',[]⟩:RI)]++(none:Option RI).toList,∃z∈pre++(some x).toList,z.file=y.file/\z.recs=y.recs/\z.cols=y.cols:=by
  intro y hy;simp only[Option.toList_none,H_]at hy;rcases d_.1 hy with hy|hy
  ·exact⟨y,by simp[hy],rfl,rfl,rfl⟩
  ·rw[ms_ hy];exact⟨x,hxm,rfl,hrec.symm,rfl⟩
 have hfne:∀y∈pre,y.file≠x.file:=λy hy=>by
  have:=h.files;simp only[w_,Option.toList_some,List.map_cons,List.map_nil]at this;exact nodup_last this _ (T_ hy)
 refine⟨hW.pd,hW.step.ok,λy hy=>?_,by simp,?_,λy hy z hz=>?_,λy hy=>?_,λy hy=>?_,λy hy hn=>?_,by have:=hW.step.block;have:=h.block;omega,h.b2,h.b1,h.c2⟩
 ·rcases d_.1 hy with hy|hy
  ·refine(h.done y hy).keep t.u (λe=>?_) hW.step (by have:=hfne y hy;omega);rcases a_.1 e with e|e
   ·exact hfne y hy (h.boxes (by simp[hy]) hxm e)
   ·exact h.r_disk (by simp[hy]) e
  ·rw[ms_ hy];exact⟨hE,rfl⟩
 ·have:=h.files;simpa using this
 ·obtain⟨u,hu,_,e,_⟩:=hmem y hy;exact h.recs u hu z (by rw[e];exact hz)
 ·obtain⟨u,hu,e,_⟩:=hmem y hy;rw[<-e,hW.last];exact h.known u hu
 ·simp only[Option.toList_none,H_]at hy;rcases d_.1 hy with hy|hy
  ·exact h.len y (by simp[hy])
  ·rw[ms_ hy,hrec];refine⟨?_,(h.len x hxm).2⟩;have:=len_flatten (λc hc=>(hE.full c hc).1);rw[hr]at this;exact this
 ·obtain⟨u,hu,_,e,e2⟩:=hmem y hy;rw[<-e2];exact h.col u hu (by rw[e];exact hn)
theorem endRun_none (w:World)(ps:Nat)(s:SC)(ao:Option Addr)(cap:Nat)(hs:Sr w ps s)(hv:s.rv=.slice ao 0 cap) :
  Calls prog 197 #[.pointer (some ⟨ps,0,none⟩)] w λe w'=>e=.returned (.tuple #[])/\w'=w:=by
 obtain⟨c0,c1,c2,c3,c4,c5,c6,c7,c8,c9,c10,c11,c12,c13,c14,c15,cf⟩:=hs.cell;rw[hv]at c13;clear hs cf;go_enter func197,ntmps197;go_wp2
 go_end0
 exact⟨rfl,rfl⟩
theorem endRun_some (w:World)(ps bm cols m j:Nat)(s:SC)(d:DS)(M:List PF)(pre:List RI)(x:RI)(hs:Sr w ps s)(hp:PW w s.rv (pre++[x]))(hR:RS w s.bx bm s.blk cols d M pre (some x))(hl:Left d (m+1) j) :
  Calls prog 197 #[.pointer (some ⟨ps,0,none⟩)] w λe w'=>e=.returned (.tuple #[])/\∃x' d' M',x'.r=x.r/\x'.file=x.file/\x'.recs=x.recs/\d'.last=d.last/\RS w' s.bx bm s.blk cols d' M' (pre++[x']) none/\Left d' m j/\(∀k∈rowsOf M',k∈rowsOf M\/w.heap.size<=k)/\Touch (x.r::dI s.bx bm M) w w':=by
 have hxm:x∈pre++(some x).toList:=by simp
 have hb:=hR.block;have hk:=hR.known x hxm;have hll:=hl.last;have hlen:=hR.len x hxm;have HEND:Hid (∀W,Touch [] w W->Calls prog 114 #[.pointer (some ⟨x.r,0,none⟩)] W λe w'=>e=.returned (.tuple #[])/\∃x' d' M',x'.r=x.r/\x'.file=x.file/\x'.recs=x.recs/\d'.last=d.last/\RS w' s.bx bm s.blk cols d' M' (pre++[x']) none/\Left d' m j/\(∀k∈rowsOf M',k∈rowsOf M\/w.heap.size<=k)/\Touch (x.r::dI s.bx bm M) w w'):=λW hW=>by
  have hR':=hR.quiet hW (by simp) (λk hk=>by simp at hk);refine(runEnd_any W x.r s.bx bm s.blk x.file x.cols x.v x.cs x.cur d M (hR'.opn x rfl) hR'.pd hR'.ok (λy hy=>(hR'.recs x hxm y (by simp[RI.recs,hy])).fair) hb hR.b2 (by omega) (by omega) (hl.mono (by omega) (e_ _):Left d 1 j).roomy).mono ?_;rintro e w' ⟨rfl,cs',d',M',k,hk1,p1,p2,p3,p4,p5⟩;refine⟨rfl,⟨x.r,x.file,x.cols,.slice none 0 0,cs',[]⟩,d',M',rfl,rfl,?_,p4.last,hR'.ended p1 p2 p4 p5,(hl.mono (by omega) (e_ _):Left d (m+k) j).wrote p4,λq hq=>?_,(hW.mono (by simp)).trans p5⟩
  ·simp[RI.recs,p2]
  ·rcases p4.rows q hq with h|h
   ·exact .inl h
   ·exact .inr (k_ hW.size h)
 rcases hp.shape with⟨_,e⟩|⟨g,cap,cur,hv,hh,hc,hm,hsz,hx⟩
 ·simp at e
 obtain⟨c0,c1,c2,c3,c4,c5,c6,c7,c8,c9,c10,c11,c12,c13,c14,c15,cf⟩:=hs.cell;have hlast:=hx pre.length (by simp);have hlc:w.cell? ⟨g,pre.length,none⟩=some (.pointer (some ⟨x.r,0,none⟩)):=by
  simp only[World.cell?,hh];rw[hlast];simp[RI.ptr]
 rw[hv]at c13;simp only[c_,List.length_cons,List.length_nil,U_]at c13 hc;have hlm:pre.length+1<=maxLen:=k_ hc hm;have HAFT:Hid (∀W,Touch (x.r::dI s.bx bm M) w W->W.cell? ⟨ps,13,none⟩=some (.slice (some ⟨g,0,none⟩) (pre.length+1) cap)/\W.cell? ⟨g,pre.length,none⟩=some (.pointer (some ⟨x.r,0,none⟩))):=λW hW=>by
  have nt:∀t,117≠t->9≠t->223≠t->NT t w (x.r::dI s.bx bm M):=λt h1 h2 h3=>(hR.nT h1 h2 h3).sub (λk hk=>by
   rcases a_.1 hk with rfl|hk
   ·simp[rF]
   ·simp only[rF,d_];exact .inr hk)
  exact⟨cah c13 hW ((nt 260 (by decide) (by decide) (by decide)).not_mem hs),cah hlc hW ((nt 194 (by decide) (by decide) (by decide)).not_mem hh)⟩
 clear hs cf hp hR hl hk hlen hb hx hlast hv;generalize pre.length=n at *;have hlm2:n+1<=9223372036854775807:=by unfold maxLen at hlm;omega
 have hw1:IntKind.i64.wrap ((n:Int)+1-1)=(n:Int):=by rw[wrap_small _ (by omega) (by omega)];omega
 have hw2:IntKind.i64.wrap (n:Int)=(n:Int):=wrap_small _ (by omega) (by omega);have hpos:(0:Int)<(n:Int)+1:=by omega
 have hn1:(n:Int)<(n:Int)+1:=by omega
 have hn2:n<n+1:=by omega
 go_enter func197,ntmps197;go_wp2
 go_region_held3 (λw'=>w'.cell? ⟨ps,13,none⟩=some (.slice (some ⟨g,0,none⟩) (n+1) cap)/\w'.cell? ⟨g,n,none⟩=some (.pointer (some ⟨x.r,0,none⟩))) (go_keep) (first|(go_at_call 114;refine(HEND.out _ (tr_.drew)).mono ?_;rintro e w1 ⟨rfl,x',d',M',q1,q2,q3,q0,q4,q5,q6,q7⟩;obtain⟨a1,a2⟩:=HAFT.out _ q7;have HQ0:Hid (d'.last=d.last):=q0;clear q0;have HQ4:Hid _:=q4;have HQ7:Hid _:=q7;clear q4 q7))
 all_goals go_end0
 all_goals exact⟨rfl,x',d',M',q1,q2,q3,HQ0.out,HQ4.out,q5,q6,HQ7.out⟩
theorem Sr.setCame {s:SC}(h:Sr w ps s)(n:Nat):Sr (w.setCell ⟨ps,8,none⟩ (.int .i64 (n:Int))) ps { s with came:=n }:=by
 unfold Sr at *;rw[heap_setCell_same w ps 8 _ 260 _ h];simp[SC.cells]
theorem Sr.setRun {s:SC}(h:Sr w ps s)(n:Int):Sr (w.setCell ⟨ps,9,none⟩ (.int .i64 n)) ps { s with run:=n }:=by
 unfold Sr at *;rw[heap_setCell_same w ps 9 _ 260 _ h];simp[SC.cells]
theorem Sr.setLength {s:SC}(h:Sr w ps s)(n:Nat):Sr (w.setCell ⟨ps,10,none⟩ (.int .i64 (n:Int))) ps { s with length:=n }:=by
 unfold Sr at *;rw[heap_setCell_same w ps 10 _ 260 _ h];simp[SC.cells]
theorem Sr.setLno {s:SC}(h:Sr w ps s)(n:Int):Sr (w.setCell ⟨ps,11,none⟩ (.int .i64 n)) ps { s with lno:=n }:=by
 unfold Sr at *;rw[heap_setCell_same w ps 11 _ 260 _ h];simp[SC.cells]
theorem Sr.setLv {s:SC}(h:Sr w ps s)(v:Value):Sr (w.setCell ⟨ps,12,none⟩ v) ps { s with lv:=v }:=by
 unfold Sr at *;rw[heap_setCell_same w ps 12 _ 260 _ h];simp[SC.cells]
theorem Sr.setRv {s:SC}(h:Sr w ps s)(v:Value):Sr (w.setCell ⟨ps,13,none⟩ v) ps { s with rv:=v }:=by
 unfold Sr at *;rw[heap_setCell_same w ps 13 _ 260 _ h];simp[SC.cells]
theorem Sr.setMg {s:SC}(h:Sr w ps s)(v:Value):Sr (w.setCell ⟨ps,14,none⟩ v) ps { s with mg:=v }:=by
 unfold Sr at *;rw[heap_setCell_same w ps 14 _ 260 _ h];simp[SC.cells]
theorem Sr.setGiven {s:SC}(h:Sr w ps s)(n:Nat):Sr (w.setCell ⟨ps,15,none⟩ (.int .i64 (n:Int))) ps { s with given:=n }:=by
 unfold Sr at *;rw[heap_setCell_same w ps 15 _ 260 _ h];simp[SC.cells]
structure SB (w:World)(ps bs:Nat)(s:SC)(hv:Value)(ks:List K)(L:List EV)(bm cols:Nat)(d:DS)(M:List PF)(pre:List RI)(o:Option RI):Prop where
 sorter:Sr w ps s
 heap:Hf w s.ph hv bs ps ks L
 held:sizes L=s.held
 ents:∀x∈L,x.1.size=sZ x.1.rc.row/\Rh s.blk cols x.1.rc
 runs:RS w s.bx bm s.blk cols d M pre o
 own:PW w s.rv (pre++o.toList)
def sbF (ps:Nat)(s:SC)(hv:Value)(bm:Nat)(M:List PF)(R:List RI):List Nat:=ps::(h_ s.ph hv++s.rv.ownBlock.toList++rF s.bx bm M R)
theorem NT.append (h:NT t w F)(k:NT t w G):NT t w (F++G):=λi hi=>by
 rcases d_.1 hi with hi|hi
 ·exact h i hi
 ·exact k i hi
section
variable {w w':World} {ps bs:Nat} {s:SC} {hv:Value} {ks:List K} {L:List EV} {bm cols:Nat} {d:DS} {M:List PF} {pre:List RI} {o:Option RI} {F:List Nat}
theorem SB.nT (h:SB w ps bs s hv ks L bm cols d M pre o){t:TypeId}(h1:260≠t)(h2:302≠t)(h3:263≠t)(h4:194≠t)(h5:117≠t)(h6:9≠t)(h7:223≠t):NT t w (sbF ps s hv bm M (pre++o.toList)):=
 (((h.heap.nT h2 h3).append (h.own.nT h4)).append (h.runs.nT h5 h6 h7)).cons h.sorter h1
theorem SB.small (h:SB w ps bs s hv ks L bm cols d M pre o)(hL:L.length<=100000):s.held<=1000000000/\∀y∈L,0<=y.1.size:=by
 have hp:∀y∈L,0<=y.1.size/\y.1.size<=4096:=λy hy=>by
  have h1:=h.ents y hy;have h2:=h1.2.size;have:=h.runs.b2;omega
 have hs:∀l:List EV,(∀y∈l,0<=y.1.size/\y.1.size<=4096)->sizes l<=4096*l.length:=by
  intro l
  induction l with
  | nil=>simp[sizes]
  | cons a l ih=>
   intro hl;have h0:=hl a (by simp);have:=ih (λy hy=>hl y (by simp[hy]));have e:sizes (a::l)=a.1.size+sizes l:=by simp[sizes]
   simp only[List.length_cons];omega
 have h1:=hs L hp;have h2:=h.held;exact⟨by omega,λy hy=>(hp y hy).1⟩
theorem SB.quiet (h:SB w ps bs s hv ks L bm cols d M pre o)(t:Touch F w w')(hF:∀k∈F,k∉sbF ps s hv bm M (pre++o.toList))(n1:NT 228 w F)(n2:NT 73 w F)(n3:NT 85 w F)(n4:NT 5 w F):SB w' ps bs s hv ks L bm cols d M pre o:=by
 have hS:Sr w' ps s:=h.sorter.u t.u (λe=>hF _ e (by simp[sbF]));exact⟨hS,h.heap.away h.sorter hS rfl t.u (λk hk e=>hF k hk (by simp[sbF,e])) n1 n2 n3,h.held,h.ents,h.runs.quiet t (λk hk e=>hF k hk (by simp[sbF,e])) n4,h.own.u t.u (λk hk e=>hF k e (by simp[sbF,hk]))⟩
theorem SB.cells {s':SC}(h:SB w ps bs s hv ks L bm cols d M pre o)(hS:Sr w' ps s')(t:Touch [ps] w w')(e1:s'.bx=s.bx)(e2:s'.blk=s.blk)(e3:s'.kv=s.kv)(e4:s'.ph=s.ph)(e5:s'.held=s.held)(e6:s'.rv=s.rv):SB w' ps bs s' hv ks L bm cols d M pre o:=by
 have hps:∀t',(260:TypeId)≠t'->NT t' w [ps]:=λt' ht=>nO h.sorter ht;refine⟨hS,?_,by rw[e5];exact h.held,by rw[e2];exact h.ents,?_,?_⟩
 ·rw[e4];exact h.heap.turn h.sorter hS e3 t.u
 ·rw[e1,e2];refine h.runs.quiet t (λk hk=>?_) (hps 5 (by decide));rw[ms_ hk];exact(h.runs.nT (by decide) (by decide) (by decide)).not_mem h.sorter
 ·rw[e6];refine h.own.u t.u (λk hk e=>?_);rw[ms_ e]at hk;exact(h.own.nT (t:=260) (by decide)).not_mem h.sorter (by simp[hk])
theorem SB.turnRuns {pre':List RI}{o':Option RI}(h:SB w ps bs s hv ks L bm cols d M pre o)(t:TU F w w')(hF:∀k∈F,k∈rF s.bx bm M (pre++o.toList)\/w.heap.size<=k)(hR:RS w' s.bx bm s.blk cols d' M' pre' o')(he:(pre'++o'.toList).map RI.ptr=(pre++o.toList).map RI.ptr):SB w' ps bs s hv ks L bm cols d' M' pre' o':=by
 have nt:∀t',(117:TypeId)≠t'->(9:TypeId)≠t'->(223:TypeId)≠t'->NT t' w F:=λt' h1 h2 h3 k hk cs f e=>by
  rcases hF k hk with hk'|hk'
  ·exact h.runs.nT h1 h2 h3 k hk' cs f e
  ·have:=(agi.1 e).1;omega
 have hS:Sr w' ps s:=h.sorter.u t ((nt 260 (by decide) (by decide) (by decide)).not_mem h.sorter);refine⟨hS,h.heap.away h.sorter hS rfl t (λk hk e=>?_) (nt _ (by decide) (by decide) (by decide)) (nt _ (by decide) (by decide) (by decide)) (nt _ (by decide) (by decide) (by decide)),h.held,h.ents,hR,?_⟩
 ·rcases a_.1 e with e|e
  ·exact(nt 302 (by decide) (by decide) (by decide)).not_mem h.heap.head (by rw[<-e];exact hk)
  ·obtain⟨cs,f,hc⟩:=h.heap.items.tag k (by simpa using e);exact(nt 263 (by decide) (by decide) (by decide)).not_mem hc hk
 ·have hl:(pre'++o'.toList).length=(pre++o.toList).length:=by simpa using congrArg List.length he
  have:=h.own.u t (λk hk e=>by
   rcases h.own.shape with⟨hv0,_⟩|⟨g,cap,cur,hv0,hh,_⟩
   ·rw[hv0]at hk;simp[Value.ownBlock]at hk
   ·rw[hv0]at hk;simp[Value.ownBlock]at hk;subst hk;exact(nt 194 (by decide) (by decide) (by decide)).not_mem hh e)
  unfold PW at this ⊢;rw[hl,he];exact this
end
theorem sbPop_any (w:World)(ps bs:Nat)(s:SC)(hv:Value)(ks:List K)(L:List EV)(bm cols:Nat)(d:DS)(M:List PF)(pre:List RI)(o:Option RI)(x:EV)(h:SB w ps bs s hv ks L bm cols d M pre o)(h0:L[0]?=some x)(hL:L.length<=100000) :
  Calls prog 174 #[.pointer (some ⟨ps,0,none⟩)] w λe w'=>e=.returned x.val/\∃hv' L' n,SB w' ps bs { s with held:=n } hv' ks L' bm cols d M pre o/\(x::L').Perm L/\Ro w' x.2 x.1.rc.row/\hv'.ownBlock=hv.ownBlock/\Touch (ps::h_ s.ph hv) w w':=by
 obtain⟨hb1,hb2⟩:=h.small hL;refine(sorterPop_any w ps bs s hv ks L x h.sorter h.heap h0 (by omega) h.held hb2 hb1).mono ?_;rintro e w' ⟨rfl,hv',L',n,p1,p2,p3,p4,p5,p6⟩;have hps:∀t',(260:TypeId)≠t'->(302:TypeId)≠t'->(263:TypeId)≠t'->NT t' w (ps::h_ s.ph hv):=λt' h1 h2 h3=>(h.heap.nT h2 h3).cons h.sorter h1;have hd:∀k∈ps::h_ s.ph hv,∃cs t' f,w.heap[k]?=some (.cells cs t' f)/\(t'=260\/t'=302\/t'=263):=λk hk=>by
  rcases a_.1 hk with rfl|hk
  ·exact⟨_,_,_,h.sorter,.inl rfl⟩
  ·rcases a_.1 hk with rfl|hk
   ·exact⟨_,_,_,h.heap.head,.inr (.inl rfl)⟩
   ·obtain⟨cs,f,hc⟩:=h.heap.items.tag k (by simpa using hk);exact⟨_,_,_,hc,.inr (.inr rfl)⟩
 refine⟨rfl,hv',L',n,⟨p1,p3,p2,λy hy=>h.ents y (p4.mem_iff.1 (o_ _ hy)),h.runs.quiet p6 (λk hk e=>?_) (hps 5 (by decide) (by decide) (by decide)),h.own.u p6.u (λk hk e=>?_)⟩,p4,Sl3.keep (h.heap.rows x (p4.mem_iff.1 (by simp))).1 (p6.tag (hps 85 (by decide) (by decide) (by decide))),p5,p6⟩
 ·obtain⟨cs,t',f,hc,ht⟩:=hd k hk;rcases ht with rfl|rfl|rfl
  all_goals exact(h.runs.nT (by decide) (by decide) (by decide)).not_mem hc e
 ·obtain⟨cs,t',f,hc,ht⟩:=hd k e;rcases ht with rfl|rfl|rfl
  all_goals exact(h.own.nT (by decide)).not_mem hc (by simp[hk])
theorem info194:(prog.info? 194).map (λi=>(i.zero,i.size,i.bytes))=some (some (.pointer none),1,8):=by kernel_rfl
theorem step_ptr {ops:Array Oper}{o:Oper}{a:Act}{K:Act->World->Prop}{Q:Exit->Act->World->Prop}{E:Prop}(hgd:o.guard=none)(s x:Operand)
  (ho:o.op=.call { callee:=.builtin .append,args:=#[s,x],argTypes:=#[160,160] }) (v:Value) (R:List RI) (hs:a.eval s=v) (hown:PW w v R)
  (ad:Addr) (y:RI) (c:Nat) (hx:a.eval x=.slice (some ad) 1 c) (hnews:w.cell? ad=some y.ptr) (hlen:R.length<=1000000000)
  (h:∀g cap w',PW w' (.slice (some ⟨g,0,none⟩) (R.length+1) cap) (R++[y])->w.grownBy w' v.ownBlock->(v.ownBlock=some g\/g=w.heap.size)->g<w'.heap.size->K (a.put o.dst (.slice (some ⟨g,0,none⟩) (R.length+1) cap)) w') :
  if Region.wanted o (yielded ops a.tmps)=true then Oper.wp prog o a w K Q else E:=by
 obtain⟨i0,hi,hz0,hz1,hz2⟩:=info_parts info194;refine step_append_lies w hgd s x 160 ho 0 194 i0 (.pointer none) 1 8 underlying160 hi hz0 hz1 hz2 rfl (by decide) v _ _ hs hown ad 1 c [y.ptr] hx (by simp) (λj u hj=>?_) (by simp[RI.ptr,Value.oneCell']) (by decide) ?_ ?_ (x_ _) _ rfl ?_
 ·match j,hj with
  | 0,hj=>simp at hj;subst hj;exact hnews
 ·unfold maxLen;omega
 ·omega
 ·intro g cap w' h1 h2 h3 h4;refine h g cap w' ?_ h2 h3 h4;unfold PW;rw[c_,w_];exact h1
theorem PW.block {R:List RI}(h:PW w v R):∀k,v.ownBlock=some k->∃cs,w.heap[k]?=some (.cells cs 194 (0,0)):=λk hk=>by
 rcases h.shape with⟨rfl,_⟩|⟨g,cap,cur,rfl,hh,_⟩
 ·simp[Value.ownBlock]at hk
 ·simp[Value.ownBlock]at hk;subst hk;exact⟨_,hh⟩
theorem RS.fresh {pre:List RI}(h:RS w bx bm blk cols d M pre none)(hR:Rn w' r bx blk file 0 (.slice none 0 0) [] [] d')(hP:PD w' bx bm d' M')(hD:DStep d d' file (some []))(hl:d'.last=d.last+1)(hf:(file:Int)=d.last+1)(t:Touch [bx,bm] w w') :
  RS w' bx bm blk cols d' M' pre (some ⟨r,file,0,.slice none 0 0,[],[]⟩):=by
 have hk:∀x∈pre,(x.file:Int)<=d.last:=λx hx=>h.known x (by simp[hx]);have hsub:∀x∈pre++(some (⟨r,file,0,.slice none 0 0,[],[]⟩:RI)).toList,x∈pre++(none:Option RI).toList\/x=⟨r,file,0,.slice none 0 0,[],[]⟩:=λx hx=>by
  rcases d_.1 hx with hx|hx
  ·exact .inl (by simp[hx])
  ·exact .inr (by simpa using hx)
 refine⟨hP,hD.ok,λx hx=>(h.done x hx).keep t.u (λe=>?_) hD (by have:=hk x hx;omega),λx hx=>by simp at hx;subst hx;exact hR,?_,λx hx y hy=>?_,λx hx=>?_,λx hx=>?_,λx hx hn=>?_,by have:=hD.block;have:=h.block;omega,h.b2,h.b1,h.c2⟩
 ·exact h.r_disk (x:=x) (by simp[hx]) (by simp only[a_,i_,or_false]at e;rcases e with e|e<;>simp[dI,e])
 ·have:=h.files;simp only[Option.toList_none,H_]at this;simp only[w_,Option.toList_some,List.map_cons,List.map_nil];refine ad_.2 ⟨this,by simp,λa ha b hb e=>?_⟩;obtain⟨x,hx,rfl⟩:=z_.1 ha;have:=hk x hx;simp at hb;omega
 ·rcases hsub x hx with hx|rfl
  ·exact h.recs x hx y hy
  ·simp[RI.recs]at hy
 ·rcases hsub x hx with hx|rfl
  ·have:=h.known x hx;omega
  ·show(file:Int)<=_;omega
 ·rcases hsub x hx with hx|rfl
  ·exact h.len x hx
  ·simp[RI.recs]
 ·rcases hsub x hx with hx|rfl
  ·exact h.col x hx hn
  ·simp[RI.recs]at hn
section
variable {w w':World} {ps bs:Nat} {s:SC} {hv:Value} {ks:List K} {L:List EV} {bm cols:Nat} {d:DS} {M:List PF} {pre:List RI} {o:Option RI} {F:List Nat}
theorem SB.pushRun {x:RI}(h:SB w ps bs s hv ks L bm cols d M pre none)(hR2:RS w2 s.bx bm s.blk cols d' M' pre (some x))(t2:Touch [s.bx,bm] w w2)(t4:Touch s.rv.ownBlock.toList w2 w4)(hP:PW w4 v' (pre++[x])) :
  Sr w4 ps s/\SB (w4.setCell ⟨ps,13,none⟩ v') ps bs { s with rv:=v' } hv ks L bm cols d' M' pre (some x)/\Touch (ps::s.bx::bm::s.rv.ownBlock.toList) w (w4.setCell ⟨ps,13,none⟩ v'):=by
 have n2:∀t,(117:TypeId)≠t->(9:TypeId)≠t->(223:TypeId)≠t->NT t w [s.bx,bm]:=λt h1 h2 h3=>(h.runs.nT h1 h2 h3).sub (λk hk=>by
  simp only[a_,i_,or_false]at hk;rcases hk with rfl|rfl<;>simp[rF,dI])
 have hown2:PW w2 s.rv (pre++(none:Option RI).toList):=h.own.u t2.u (λk hk e=>(n2 194 (by decide) (by decide) (by decide)).not_mem (h.own.block k hk).choose_spec e);have n4:∀t,(194:TypeId)≠t->NT t w2 s.rv.ownBlock.toList:=λt ht=>hown2.nT ht;have hS2:Sr w2 ps s:=h.sorter.u t2.u ((n2 260 (by decide) (by decide) (by decide)).not_mem h.sorter);have hS4:Sr w4 ps s:=hS2.u t4.u ((n4 260 (by decide)).not_mem hS2);have hS5:Sr (w4.setCell ⟨ps,13,none⟩ v') ps { s with rv:=v' }:=hS4.setRv v';have t5:Touch [ps] w4 (w4.setCell ⟨ps,13,none⟩ v'):=(Touch.refl [ps] w4).setCell (p:=⟨ps,13,none⟩) (by simp) v';have n5:∀t,(260:TypeId)≠t->NT t w4 [ps]:=λt ht=>nO hS4 ht;have hh2:Hf w2 s.ph hv bs ps ks L:=by
  refine h.heap.away h.sorter hS2 rfl t2.u (λk hk e=>?_) (n2 _ (by decide) (by decide) (by decide)) (n2 _ (by decide) (by decide) (by decide)) (n2 _ (by decide) (by decide) (by decide));rcases a_.1 e with e|e
  ·exact(n2 302 (by decide) (by decide) (by decide)).not_mem h.heap.head (by rw[<-e];exact hk)
  ·obtain⟨cs,f,hc⟩:=h.heap.items.tag k (by simpa using e);exact(n2 263 (by decide) (by decide) (by decide)).not_mem hc hk
 have hh4:Hf w4 s.ph hv bs ps ks L:=by
  refine hh2.away hS2 hS4 rfl t4.u (λk hk e=>?_) (n4 _ (by decide)) (n4 _ (by decide)) (n4 _ (by decide));rcases a_.1 e with e|e
  ·exact(n4 302 (by decide)).not_mem hh2.head (by rw[<-e];exact hk)
  ·obtain⟨cs,f,hc⟩:=hh2.items.tag k (by simpa using e);exact(n4 263 (by decide)).not_mem hc hk
 have hR4:RS w4 s.bx bm s.blk cols d' M' pre (some x):=by
  refine hR2.quiet t4 (λk hk e=>?_) (n4 5 (by decide));obtain⟨cs,hc⟩:=hown2.block k (by simpa using hk);exact(hR2.nT (t:=194) (by decide) (by decide) (by decide)).not_mem hc e
 refine⟨hS4,⟨hS5,hh4.turn hS4 hS5 rfl t5.u,h.held,h.ents,hR4.quiet t5 (λk hk e=>?_) (n5 5 (by decide)),hP.u t5.u (λk hk e=>?_)⟩,?_⟩
 ·rw[ms_ hk]at e;exact(hR4.nT (t:=260) (by decide) (by decide) (by decide)).not_mem hS4 e
 ·rw[ms_ e]at hk;exact(hP.nT (t:=260) (by decide)).not_mem hS4 (by simp[hk])
 ·exact((t2.mono (by simp)).trans (t4.mono (λk hk=>by simp at hk;simp[hk]))).trans (t5.mono (by simp))
end
end Go.Proofs.YtjoinhljdbljaaaGreat
