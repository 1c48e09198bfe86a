/- A record added to a run, and what follows. -/
import Derived.Test.YtjoinhljdbljaaaGreatRecIToRunD
import Derived.Test.YtjoinhljdbljaaaGreatHepGToHepH
set_option maxHeartbeats 4000000
set_option maxRecDepth 20000
namespace Go.Proofs.YtjoinhljdbljaaaGreat
open Go.RowKit
theorem encs_snoc (l:List Rec) (x:Rec):encs (l++[x])=encs l++encR x:=by simp [encs]
theorem RunW.after {w':World} {r bx blk file c':Nat} {v v':Value} {n:Nat} {cur:List Rec} {x:Rec}
  (hc:w'.heap[r]?=some (.cells (runCells bx blk file c' n v) 223 (0,0))) (ht:Tx w' r v' (encs cur++encR x)):RunW (w'.setCell ⟨r,5,none⟩ v') r bx blk file c' v' n (cur++[x]):=by
 have h1:=heap_setCell_same w' r 5 _ 223 v' hc
 refine ⟨by rw [h1]; simp [runCells],?_⟩
 rw [encs_snoc]
 refine ht.setCell (fun k hk e=>?_) 5 _
 obtain ⟨c,f,hb⟩:=ht.bytes k hk
 rw [e,hc] at hb
 simp at hb
theorem Tx.slice {w:World} {base:Nat} {v:Value} {bs:List UInt8} (h:Tx w base v bs):∃ o c,v=.slice o bs.length c:=by
 rcases h.2 with ⟨h1,h2⟩ | ⟨g,cap,cu,h1,_⟩
 ·exact ⟨none,0,by rw [h1,h2]⟩
 ·exact ⟨some ⟨g,0,none⟩,cap,h1⟩
theorem Tx.slice3 {w:World} {base:Nat} {v:Value} {bs:List UInt8} (h:Tx w base v bs):∃ o n c,v=.slice o n c:=by
 obtain ⟨o,c,h⟩:=h.slice
 exact ⟨o,_,c,h⟩
theorem wrap_small (n:Int) (h0:-9223372036854775808 <= n) (h1:n <= 9223372036854775807):IntKind.i64.wrap n=n:=by rw [IntKind.wrap_i64]; omega
theorem cols_set {w:World} {r bx blk file cols n:Nat} {v:Value} (h:w.heap[r]?=some (.cells (runCells bx blk file cols n v) 223 (0,0))) (c:Nat):(w.setCell ⟨r,3,none⟩ (.int .i64 (c:Int))).heap[r]?=some (.cells (runCells bx blk file c n v) 223 (0,0)):=by
 rw [heap_setCell_same w r 3 _ 223 _ h]
 simp [runCells]
theorem add_plain (w:World) (r bx blk file cols n:Nat) (v rv:Value) (cur:List Rec) (x:Rec) (hR:RunW w r bx blk file cols v n cur) (hrow:RowAt w rv x.row) (hf:∀ y∈x.row,Fair y) (hr:x.row.length <= 1000000) (hl:(encs cur).length <= 1000000) (hb:blk <= 1000000)
  (hfit:16+(encs cur).length+sizeR x.row <= blk) :
  Calls Tryz.prog 113 #[.pointer (some ⟨r,0,none⟩),.agg #[.int .i64 x.no,rv]] w fun e w'=>e=.returned (.tuple #[]) /\ ∃ v',RunW w' r bx blk file x.row.length v' n (cur++[x]) /\ TouchU [r] w w':=by
 have HSZ:Hid (∀ W,Touch [] w W -> Calls Tryz.prog 141 #[rv] W fun e w'=>e=.returned (.int .i64 (sizeR x.row:Int)) /\ Touch [] W w'):=fun W hW=>size_any W rv x.row (hrow.touch hW) hf hr
 have HAP:Hid (∀ W,TouchU [r] w W -> Tx W r v (encs cur) -> Calls Tryz.prog 156 #[v,.agg #[.int .i64 x.no,rv]] W fun e w'=>∃ v',e=.returned v' /\ Tx w' r v' (encs cur++encR x) /\ Fr r W w'):=fun W hW hT=>
  append_any r v (encs cur) x rv W hT (Nat.le_of_lt (Nat.lt_of_lt_of_le (Array.getElem?_eq_some_iff.1 hR.cell).1 hW.size)) (by omega) (Sl3.keep hrow (hW.tag (by decide) (notag_of hR.cell (by decide)))) hf hr
 obtain ⟨ao,acap,hrv⟩:=hrow.shape
 have hv:=hR.text.slice
 have HR:Hid (RunW w r bx blk file cols v n cur):=hR
 have hrlt:r < w.heap.size:=(Array.getElem?_eq_some_iff.1 hR.cell).1
 have HCELL:Hid (∀ W,TouchU [] w W -> W.heap[r]?=some (.cells (runCells bx blk file cols n v) 223 (0,0))):=fun W hW=>hW.keep hR.cell (by decide) (by simp)
 obtain ⟨vo,vc,rfl⟩:=hv
 obtain ⟨c0,c1,c2,c3,c4,c5,cf⟩:=box6 hR.cell
 have f3:=cf 3
 have f5:=cf 5
 subst hrv
 clear hR hrow hf cf
 generalize x.row.length=al at *
 generalize x.no=an at *
 generalize sizeR x.row=sz at *
 generalize hq:(encs cur).length=q at *
 have HQ:Hid ((encs cur).length=q):=hq
 clear hq
 have HBX:Hid (∀ W,TouchU [] (w.alloc (.cells #[.int .i64 an,.slice ao al acap] 205)) W -> W.heap[w.heap.size]?=some (.cells #[.int .i64 an,.slice ao al acap] 205 (0,0))):=fun W hW=>hW.keep (heap_alloc_new w _) (by decide) (by simp)
 have hw1:IntKind.i64.wrap (16+(q:Int))=16+(q:Int):=wrap_small _ (by omega) (by omega)
 have hw2:IntKind.i64.wrap (16+(q:Int)+(sz:Int))=16+(q:Int)+(sz:Int):=wrap_small _ (by omega) (by omega)
 go_enter Tryz.func113,Tryz.ntmps113
 go_wp2
 go_region_held3 (fun w'=>w'.cell? ⟨r,1,none⟩=some (.int .i64 (blk:Int)) /\ w'.cell? ⟨r,5,none⟩=some (.slice vo q vc) /\ w'.cell? ⟨w.heap.size,1,none⟩=some (.slice ao al acap)) (go_keep) (first | (go_at_call 141; refine (HSZ.out _ (((Touch.refl [] _).alloc _).drew)).mono ?_; rintro e w1 ⟨rfl,hT1⟩; obtain ⟨a0,a1,a2,a3,a4,a5,af⟩:=box6 (HCELL.out w1 ((((Touch.refl [] w).alloc _).drew).trans hT1).u); obtain ⟨x0,x1⟩:=box2 (HBX.out w1 (((Touch.refl [] _).drew).trans hT1).u); have g3:=af 3; have g5:=af 5; clear af))
 have hTU:TouchU [] w w1:=((((Touch.refl [] w).alloc _).drew).trans hT1).u
 have HC1:Hid (w1.heap[r]?=some (.cells (runCells bx blk file cols n (.slice vo q vc)) 223 (0,0))):=HCELL.out w1 hTU
 have HTX:Hid (Tx w1 r (.slice vo q vc) (encs cur)):=HR.out.text.touch ((((Touch.refl [] w).alloc _).drew).trans hT1) (by simp)
 have HTU:Hid (TouchU [] w w1):=hTU
 have HB1:Hid (w1.heap[w.heap.size]?=some (.cells #[.int .i64 an,.slice ao al acap] 205 (0,0))):=HBX.out w1 (((Touch.refl [] _).drew).trans hT1).u
 clear hT1 hTU c0 c1 c2 c3 c4 c5 f3 f5
 have HC2:Hid ((w1.setCell ⟨r,3,none⟩ (.int .i64 (al:Int))).heap[r]?=some (.cells (runCells bx blk file al n (.slice vo q vc)) 223 (0,0))):=cols_set HC1.out al
 have HT3:Hid (Touch [r] w1 (w1.setCell ⟨r,3,none⟩ (.int .i64 (al:Int)))):=(Touch.refl [r] w1).setCell (p:=⟨r,3,none⟩) (by simp) _
 have HTX2:Hid (Tx (w1.setCell ⟨r,3,none⟩ (.int .i64 (al:Int))) r (.slice vo q vc) (encs cur)):=HTX.out.setCell (fun k hk e=>by
  obtain ⟨c,f,hb⟩:=HTX.out.bytes k hk
  rw [e,HC1.out] at hb
  simp at hb) 3 _
 have HU2:Hid (TouchU [r] w (w1.setCell ⟨r,3,none⟩ (.int .i64 (al:Int)))):=(HTU.out.mono (by simp)).trans HT3.out.u
 have HB2:Hid ((w1.setCell ⟨r,3,none⟩ (.int .i64 (al:Int))).heap[w.heap.size]?=some (.cells #[.int .i64 an,.slice ao al acap] 205 (0,0))):=by
  show _=_
  rw [Below.heap_setCell _ _ _ _ (by simp; omega)]
  exact HB1.out
 have HAFT:Hid (∀ w2,Fr r (w1.setCell ⟨r,3,none⟩ (.int .i64 (al:Int))).drew w2 -> w2.heap[r]?=some (.cells (runCells bx blk file al n (.slice vo q vc)) 223 (0,0)) /\ w2.heap[w.heap.size]?=some (.cells #[.int .i64 an,.slice ao al acap] 205 (0,0))):=fun w2 hF=>⟨hF.box HC2.out (by decide),hF.box HB2.out (by decide)⟩
 go_wp2_with fail
 obtain ⟨m0,m1,m2,m3,m4,m5,_⟩:=box6 HC2.out
 obtain ⟨n0,n1⟩:=box2 HB2.out
 clear a0 a1 a2 a3 a4 a5 x0 x1 g3 g5
 go_region_with (go_at_call 156; refine (HAP.out _ (HU2.out.trans ((Touch.refl [r] _).drew).u) HTX2.out.drew).mono ?_; rintro e w2 ⟨v2,rfl,hT2,hF2⟩; obtain ⟨o2,n2,cc2,hv2⟩:=hT2.slice3; subst hv2; obtain ⟨k1,k2⟩:=HAFT.out w2 hF2; obtain ⟨b0,b1,b2,b3,b4,b5,bf⟩:=box6 k1; obtain ⟨y0,y1⟩:=box2 k2; have h5:=bf 5; have HK1:Hid _:=k1; clear bf k1 k2)
 all_goals
  go_wp2
  go_end0
  have t5:=(Touch.refl [r] w2).setCell (p:=⟨r,5,none⟩) (by simp) (.slice o2 n2 cc2)
  exact ⟨rfl,_,RunW.after HK1.out hT2,((HU2.out.trans ((Touch.refl [r] _).drew).u).trans (hF2.u _ (by simp))).trans t5.u⟩
theorem PD.u {w w':World} {bx bm:Nat} {d:DS} {M:List PF} {F:List Nat} (h:PD w bx bm d M) (t:TouchU F w w') (hF:∀ k∈diskF bx bm M,k∉F):PD w' bx bm d M:=by
 refine ⟨t.keep h.disk (by decide) (hF bx (by simp [diskF])),?_,h.files,fun m hm=>?_,h.nodup⟩
 ·obtain ⟨es,c,hb,he⟩:=h.map
  exact ⟨es,c,t.keepMap hb (hF bm (by simp [diskF])),he⟩
 ·have hr:=h.rows m hm
  obtain ⟨h1,h2⟩:=hr
  refine ⟨h1,?_⟩
  rcases h2 with h2 | ⟨g,cap,cur,e,hb,hh,rest⟩
  ·exact .inl h2
  ·refine .inr ⟨g,cap,cur,e,hb,t.keep hh (by decide) (hF g ?_),rest⟩
   simp only [diskF,List.mem_cons]
   refine .inr (.inr (mem_rows hm ?_))
   rw [e]
   rfl
theorem add_full (w:World) (r bx bm blk file cols n:Nat) (v rv:Value) (cur:List Rec) (x:Rec) (d:DS) (M:List PF) (bs:List ByteArray) (hR:RunW w r bx blk file cols v n cur) (hP:PD w bx bm d M) (ok:DiskOK d) (hg:getF d.files file=some bs)
  (hrow:RowAt w rv x.row) (hf:∀ y∈x.row,Fair y) (hr:x.row.length <= 1000000) (hl:(encs cur).length <= 1000000) (hb:blk <= 1000000) (hsz:sizeR x.row <= 1000000) (h1:1 <= (encs cur).length) (hbd:((16+(encs cur).length:Nat):Int) <= d.block)
  (hfl:file <= 1000000000) (hn:n <= 100000000) (hroom:(usedOf d.files:Int) < d.blocks) (hused:usedOf d.files <= 1000000000) (hw:d.wrote <= 1000000000) (hfit:blk < 16+(encs cur).length+sizeR x.row) :
  Calls Tryz.prog 113 #[.pointer (some ⟨r,0,none⟩),.agg #[.int .i64 x.no,rv]] w fun e w'=>e=.returned (.tuple #[]) /\ ∃ v' d' M',RunW w' r bx blk file x.row.length v' (n+1) [x] /\ Wrote w w' bx bm d M file (bs++[BA (sealB file n (encs cur))]) d' M' 1 /\ TouchU (r::diskF bx bm M) w w':=by
 have HSZ:Hid (∀ W,Touch [] w W -> Calls Tryz.prog 141 #[rv] W fun e w'=>e=.returned (.int .i64 (sizeR x.row:Int)) /\ Touch [] W w'):=fun W hW=>size_any W rv x.row (hrow.touch hW) hf hr
 have HAP:Hid (∀ W u,TouchU (r::diskF bx bm M) w W -> Tx W r u [] -> Calls Tryz.prog 156 #[u,.agg #[.int .i64 x.no,rv]] W fun e w'=>∃ v',e=.returned v' /\ Tx w' r v' (encs []++encR x) /\ Fr r W w'):=fun W u hW hT=>
  append_any r u [] x rv W hT (Nat.le_of_lt (Nat.lt_of_lt_of_le (Array.getElem?_eq_some_iff.1 hR.cell).1 hW.size)) (by simp) (Sl3.keep hrow (hW.tag (by decide) ((hP.notag (by decide) (by decide)).cons hR.cell (by decide)))) hf hr
 have HWR:Hid (∀ W,Touch [] w W -> Calls Tryz.prog 155 #[.pointer (some ⟨r,0,none⟩)] W fun e w'=>e=.returned (.tuple #[]) /\ ∃ v' d' M',RunW w' r bx blk file cols v' (n+1) [] /\ Wrote w w' bx bm d M file (bs++[BA (sealB file n (encs cur))]) d' M' 1 /\ Touch (r::diskF bx bm M) W w'):=fun W hW=>by
  refine (write_any W r bx bm blk file cols v n cur d M bs ⟨by rw [hW.block r (Array.getElem?_eq_some_iff.1 hR.cell).1 (by simp)]; exact hR.cell,hR.text.touch hW (by simp)⟩ (hP.away hW (by simp)) ok hg h1 hbd hl hfl hn hroom hused hw).mono ?_
  rintro e w' ⟨rfl,v',d',M',p1,p2,_,p4⟩
  exact ⟨rfl,v',d',M',p1,⟨p2.pd,p2.step,p2.last,p2.wrote,p2.used,fun y hy=>(p2.rows y hy).imp id (fun h=>Nat.le_trans hW.size h)⟩,p4⟩
 have HRD:Hid (r∉diskF bx bm M):=(hP.notag (t:=223) (by decide) (by decide)).not_mem hR.cell
 have HDL:Hid (∀ k∈diskF bx bm M,k < w.heap.size):=hP.lt
 obtain ⟨ao,acap,hrv⟩:=hrow.shape
 have hv:=hR.text.slice
 have HR:Hid (RunW w r bx blk file cols v n cur):=hR
 have hrlt:r < w.heap.size:=(Array.getElem?_eq_some_iff.1 hR.cell).1
 have HCELL:Hid (∀ W,TouchU [] w W -> W.heap[r]?=some (.cells (runCells bx blk file cols n v) 223 (0,0))):=fun W hW=>hW.keep hR.cell (by decide) (by simp)
 obtain ⟨vo,vc,rfl⟩:=hv
 obtain ⟨c0,c1,c2,c3,c4,c5,cf⟩:=box6 hR.cell
 subst hrv
 clear hR hP ok hg hrow hf cf hroom hused hw hbd
 generalize x.row.length=al at *
 generalize x.no=an at *
 generalize sizeR x.row=sz at *
 generalize hq:(encs cur).length=q at *
 clear hq
 have HBX:Hid (∀ W F,TouchU F (w.alloc (.cells #[.int .i64 an,.slice ao al acap] 205)) W -> w.heap.size∉F -> W.heap[w.heap.size]?=some (.cells #[.int .i64 an,.slice ao al acap] 205 (0,0))):=fun W F hW hF=>hW.keep (heap_alloc_new w _) (by decide) hF
 have hw1:IntKind.i64.wrap (16+(q:Int))=16+(q:Int):=wrap_small _ (by omega) (by omega)
 have hw2:IntKind.i64.wrap (16+(q:Int)+(sz:Int))=16+(q:Int)+(sz:Int):=wrap_small _ (by omega) (by omega)
 go_enter Tryz.func113,Tryz.ntmps113
 go_wp2
 go_region_held3 (fun w'=>w'.cell? ⟨r,1,none⟩=some (.int .i64 (blk:Int)) /\ w'.cell? ⟨r,5,none⟩=some (.slice vo q vc) /\ w'.cell? ⟨w.heap.size,1,none⟩=some (.slice ao al acap)) (go_keep) (first | (go_at_call 141; refine (HSZ.out _ (((Touch.refl [] _).alloc _).drew)).mono ?_; rintro e w1 ⟨rfl,hT1⟩; obtain ⟨a0,a1,a2,a3,a4,a5,af⟩:=box6 (HCELL.out w1 ((((Touch.refl [] w).alloc _).drew).trans hT1).u); obtain ⟨x0,x1⟩:=box2 (HBX.out w1 [] (((Touch.refl [] _).drew).trans hT1).u (by simp)); clear af))
 have hTT:Touch [] w w1:=(((Touch.refl [] w).alloc _).drew).trans hT1
 have HT1:Hid (Touch [] (w.alloc (.cells #[.int .i64 an,.slice ao al acap] 205)) w1):=((Touch.refl [] _).drew).trans hT1
 have HTT:Hid (Touch [] w w1):=hTT
 clear hT1 hTT c0 c1 c2 c3 c4 c5
 go_wp2_with fail
 refine (HWR.out w1 HTT.out).mono ?_
 rintro e w2 ⟨rfl,v3,d',M',hR2,hW2,hT2⟩
 obtain ⟨vo3,n3,vc3,hv3⟩:=hR2.text.slice3
 subst hv3
 have hB2:w2.heap[w.heap.size]?=some (.cells #[.int .i64 an,.slice ao al acap] 205 (0,0)):=HBX.out w2 (r::diskF bx bm M) ((HT1.out.mono (by simp)).trans hT2).u (fun e=>by
  rcases List.mem_cons.1 e with e | e
  ·omega
  ·have:=HDL.out _ e; omega)
 have HR2:Hid _:=hR2
 have HB2:Hid _:=hB2
 obtain ⟨c0,c1,c2,c3,c4,c5,cf⟩:=box6 hR2.cell
 obtain ⟨y0,y1⟩:=box2 hB2
 have f3:=cf 3
 clear cf a0 a1 a2 a3 a4 a5 x0 x1 hR2 hB2
 have hsz2:=hT2.size
 have hsz1:=HTT.out.size
 have hNlt:w.heap.size < w2.heap.size:=(Array.getElem?_eq_some_iff.1 HB2.out).1
 have HU1:Hid (TouchU (r::diskF bx bm M) w w2):=((HTT.out.mono (by simp)).trans hT2).u
 have HC2:Hid ((w2.setCell ⟨r,3,none⟩ (.int .i64 (al:Int))).heap[r]?=some (.cells (runCells bx blk file al (n+1) (.slice vo3 n3 vc3)) 223 (0,0))):=cols_set HR2.out.cell al
 have HT3:Hid (Touch [r] w2 (w2.setCell ⟨r,3,none⟩ (.int .i64 (al:Int)))):=(Touch.refl [r] w2).setCell (p:=⟨r,3,none⟩) (by simp) _
 have HTX2:Hid (Tx (w2.setCell ⟨r,3,none⟩ (.int .i64 (al:Int))) r (.slice vo3 n3 vc3) (encs [])):=HR2.out.text.setCell (fun k hk e=>by
  obtain ⟨c,f,hb⟩:=HR2.out.text.bytes k hk
  rw [e,HR2.out.cell] at hb
  simp at hb) 3 _
 have HU2:Hid (TouchU (r::diskF bx bm M) w (w2.setCell ⟨r,3,none⟩ (.int .i64 (al:Int)))):=HU1.out.trans (HT3.out.mono (by simp)).u
 have HB3:Hid ((w2.setCell ⟨r,3,none⟩ (.int .i64 (al:Int))).heap[w.heap.size]?=some (.cells #[.int .i64 an,.slice ao al acap] 205 (0,0))):=by
  show _=_
  rw [Below.heap_setCell _ _ _ _ (by simp; omega)]
  exact HB2.out
 have HAFT:Hid (∀ w4,Fr r (w2.setCell ⟨r,3,none⟩ (.int .i64 (al:Int))).drew w4 -> w4.heap[r]?=some (.cells (runCells bx blk file al (n+1) (.slice vo3 n3 vc3)) 223 (0,0)) /\ w4.heap[w.heap.size]?=some (.cells #[.int .i64 an,.slice ao al acap] 205 (0,0))):=fun w4 hF=>⟨hF.box HC2.out (by decide),hF.box HB3.out (by decide)⟩
 go_wp2_with fail
 obtain ⟨m0,m1,m2,m3,m4,m5,_⟩:=box6 HC2.out
 obtain ⟨n0,n1⟩:=box2 HB3.out
 clear c0 c1 c2 c3 c4 c5 y0 y1 f3
 go_region_with (go_at_call 156; refine (HAP.out _ _ (HU2.out.trans ((Touch.refl (r::diskF bx bm M) _).drew).u) HTX2.out.drew).mono ?_; rintro e w4 ⟨v2,rfl,hT4,hF4⟩; obtain ⟨o2,n2,cc2,hv2⟩:=hT4.slice3; subst hv2; obtain ⟨k1,k2⟩:=HAFT.out w4 hF4; obtain ⟨b0,b1,b2,b3,b4,b5,bf⟩:=box6 k1; obtain ⟨y0,y1⟩:=box2 k2; have h5:=bf 5; have HK1:Hid _:=k1; clear bf k1 k2)
 all_goals
  go_wp2
  go_end0
  have t5:=(Touch.refl [r] w4).setCell (p:=⟨r,5,none⟩) (by simp) (.slice o2 n2 cc2)
  have hru:TouchU [r] w2 (w4.setCell ⟨r,5,none⟩ (.slice o2 n2 cc2)):=((HT3.out.u.trans ((Touch.refl [r] _).drew).u).trans (hF4.u _ (by simp))).trans t5.u
  refine ⟨rfl,_,d',M',RunW.after (cur:=[]) HK1.out hT4,⟨hW2.pd.u hru ?_,hW2.step,hW2.last,hW2.wrote,hW2.used,hW2.rows⟩,HU1.out.trans (hru.mono (by simp))⟩
  intro k hk e
  rw [List.mem_singleton.1 e] at hk
  exact (hW2.pd.notag (t:=223) (by decide) (by decide)).not_mem HR2.out.cell hk
structure RunIs (w:World) (r bx blk file cols:Nat) (v:Value) (cs:List (List Rec)) (cur:List Rec) (d:DS):Prop where
 run:RunW w r bx blk file cols v cs.length cur
 got:getF d.files file=some (textsOf file cs)
 fit:16+(encs cur).length <= blk
 full:∀ c∈cs,c≠[] /\ 16+(encs c).length <= blk
structure RecOK (blk cols:Nat) (x:Rec):Prop where
 no:I64 x.no
 fair:∀ y∈x.row,Fair y
 len:x.row.length=cols
 size:16+sizeR x.row <= blk
theorem encs_nil_iff {l:List Rec} (hf:∀ x∈l,∀ y∈x.row,Fair y):l=[]↔(encs l).length=0:=by
 constructor
 ·rintro rfl; rfl
 ·intro h
  cases l with
  | nil=>rfl
  | cons x l=>
   have:=encR_len (r:=x) (hf x (by simp))
   simp only [encs,List.flatMap_cons,List.length_append] at h
   unfold sizeR at this
   omega
theorem encs_pos {l:List Rec} (hf:∀ x∈l,∀ y∈x.row,Fair y) (h:l≠[]):1 <= (encs l).length:=by
 have:(encs l).length≠0:=fun e=>h ((encs_nil_iff hf).2 e)
 omega
structure Roomy (d:DS) (k:Nat):Prop where
 room:(usedOf d.files:Int)+k <= d.blocks
 used:usedOf d.files+k <= 1000000000
 wrote:d.wrote+k <= 1000000000
theorem Wrote.none {w w':World} {bx bm:Nat} {d:DS} {M:List PF} {file:Nat} {bs:List ByteArray} (hP:PD w' bx bm d M) (ok:DiskOK d) (hg:getF d.files file=some bs):Wrote w w' bx bm d M file bs d M 0:=
 ⟨hP,⟨ok,rfl,rfl,fun j=>by
  split
  ·next e=>rw [e]; exact hg
  ·rfl⟩,rfl,by simp,by simp,fun _ h=>.inl h⟩
theorem add_any (w:World) (r bx bm blk file cols c0:Nat) (v rv:Value) (cs:List (List Rec)) (cur:List Rec) (x:Rec) (d:DS) (M:List PF) (hR:RunIs w r bx blk file c0 v cs cur d) (hP:PD w bx bm d M) (ok:DiskOK d)
  (hrow:RowAt w rv x.row) (hx:RecOK blk cols x) (hall:∀ y∈cs.flatten++cur,RecOK blk cols y) (hc:cols <= 1000) (hb:(blk:Int) <= d.block) (hb2:blk <= 4096) (hfl:file <= 1000000000) (hn:cs.length <= 100000000) (hroom:Roomy d 1) :
  Calls Tryz.prog 113 #[.pointer (some ⟨r,0,none⟩),.agg #[.int .i64 x.no,rv]] w fun e w'=>e=.returned (.tuple #[]) /\ ∃ v' cs' cur' d' M' k,k <= 1 /\ RunIs w' r bx blk file cols v' cs' cur' d' /\ cs'.flatten++cur'=cs.flatten++cur++[x] /\ cs'.length=cs.length+k /\ Wrote w w' bx bm d M file (textsOf file cs') d' M' k /\ TouchU (r::diskF bx bm M) w w':=by
 have hsx:=encR_len (r:=x) hx.fair
 have hlen:=hx.len
 have hsz:=hx.size
 have hfit:=hR.fit
 have hrd:r∉diskF bx bm M:=(hP.notag (t:=223) (by decide) (by decide)).not_mem hR.run.cell
 by_cases hw:16+(encs cur).length+sizeR x.row <= blk
 ·refine (add_plain w r bx blk file c0 cs.length v rv cur x hR.run hrow hx.fair (by omega) (by omega) (by omega) hw).mono ?_
  rintro e w' ⟨rfl,v',h1,h2⟩
  rw [hlen] at h1
  refine ⟨rfl,v',cs,cur++[x],d,M,0,by omega,⟨h1,hR.got,?_,hR.full⟩,by simp,rfl,Wrote.none (hP.u h2 (fun k hk e=>by rw [List.mem_singleton.1 e] at hk; exact hrd hk)) ok hR.got,h2.mono (by simp)⟩
  rw [encs_snoc,List.length_append]
  omega
 ·have hne:cur≠[]:=fun e=>by
   subst e
   simp [encs] at hw
   omega
  have hcf:∀ y∈cur,∀ z∈y.row,Fair z:=fun y hy=>(hall y (by simp [hy])).fair
  have hpos:=encs_pos hcf hne
  refine (add_full w r bx bm blk file c0 cs.length v rv cur x d M _ hR.run hP ok hR.got hrow hx.fair (by omega) (by omega) (by omega) (by omega) hpos (by omega) hfl hn (by have:=hroom.room; omega) (by have:=hroom.used; omega) (by have:=hroom.wrote; omega) (by omega)).mono ?_
  rintro e w' ⟨rfl,v',d',M',h1,h2,h3⟩
  rw [hlen] at h1
  rw [<- textsOf_snoc] at h2
  refine ⟨rfl,v',cs++[cur],[x],d',M',1,by omega,⟨by rw [List.length_append]; exact h1,?_,?_,fun c hc=>?_⟩,by simp,by simp,h2,h3⟩
  ·rw [h2.step.get,if_pos rfl]
  ·simp only [encs,List.flatMap_cons,List.flatMap_nil,List.append_nil]
   omega
  ·rcases List.mem_append.1 hc with hc | hc
   ·exact hR.full c hc
   ·rw [List.mem_singleton.1 hc]; exact ⟨hne,hfit⟩
structure RunEnd (w:World) (r bx blk file cols:Nat) (cs:List (List Rec)) (d:DS):Prop where
 cell:w.heap[r]?=some (.cells (runCells bx blk file cols cs.length (.slice none 0 0)) 223 (0,0))
 got:getF d.files file=some (textsOf file cs)
 full:∀ c∈cs,c≠[] /\ 16+(encs c).length <= blk
theorem end_cell {w:World} {r bx blk file cols n:Nat} {v:Value} (h:w.heap[r]?=some (.cells (runCells bx blk file cols n v) 223 (0,0))):(w.setCell ⟨r,5,none⟩ (.slice none 0 0)).heap[r]?=some (.cells (runCells bx blk file cols n (.slice none 0 0)) 223 (0,0)):=by
 rw [heap_setCell_same w r 5 _ 223 _ h]
 simp [runCells]
theorem runEnd_any (w:World) (r bx bm blk file cols:Nat) (v:Value) (cs:List (List Rec)) (cur:List Rec) (d:DS) (M:List PF) (hR:RunIs w r bx blk file cols v cs cur d) (hP:PD w bx bm d M) (ok:DiskOK d)
  (hall:∀ y∈cur,∀ z∈y.row,Fair z) (hb:(blk:Int) <= d.block) (hb2:blk <= 4096) (hfl:file <= 1000000000) (hn:cs.length <= 100000000) (hroom:Roomy d 1) :
  Calls Tryz.prog 114 #[.pointer (some ⟨r,0,none⟩)] w fun e w'=>e=.returned (.tuple #[]) /\ ∃ cs' d' M' k,k <= 1 /\ RunEnd w' r bx blk file cols cs' d' /\ cs'.flatten=cs.flatten++cur /\ cs'.length=cs.length+k /\ Wrote w w' bx bm d M file (textsOf file cs') d' M' k /\ Touch (r::diskF bx bm M) w w':=by
 have hfit:=hR.fit
 have HRD:Hid (r∉diskF bx bm M):=(hP.notag (t:=223) (by decide) (by decide)).not_mem hR.run.cell
 by_cases hne:cur=[]
 ·subst hne
  obtain ⟨vo,vc,hv⟩:=hR.run.text.slice
  obtain ⟨c0,c1,c2,c3,c4,c5,cf⟩:=box6 hR.run.cell
  have f5:=cf 5
  have HR:Hid (RunIs w r bx blk file cols v cs [] d /\ PD w bx bm d M /\ DiskOK d):=⟨hR,hP,ok⟩
  subst hv
  have hl0:(encs []).length=0:=rfl
  rw [hl0] at c5
  clear hR hP ok cf hl0
  go_enter Tryz.func114,Tryz.ntmps114
  go_wp2
  go_end0
  obtain ⟨q1,q2,q3⟩:=HR.out
  have t5:=(Touch.refl [r] w).setCell (p:=⟨r,5,none⟩) (by simp) (.slice none 0 0)
  exact ⟨rfl,cs,d,M,0,by omega,⟨end_cell q1.run.cell,q1.got,q1.full⟩,by simp,rfl,Wrote.none (q2.away t5 (fun k hk e=>by rw [List.mem_singleton.1 e] at hk; exact HRD.out hk)) q3 q1.got,t5.mono (by simp)⟩
 ·have hpos:=encs_pos hall hne
  have HWR:Hid (Calls Tryz.prog 155 #[.pointer (some ⟨r,0,none⟩)] w fun e w'=>e=.returned (.tuple #[]) /\ ∃ v' d' M',RunW w' r bx blk file cols v' (cs.length+1) [] /\ Wrote w w' bx bm d M file (textsOf file cs++[BA (sealB file cs.length (encs cur))]) d' M' 1 /\ v'.ownBlock=v.ownBlock /\ Touch (r::diskF bx bm M) w w'):=
   write_any w r bx bm blk file cols v cs.length cur d M _ hR.run hP ok hR.got hpos (by omega) (by omega) hfl hn (by have:=hroom.room; omega) (by have:=hroom.used; omega) (by have:=hroom.wrote; omega)
  obtain ⟨vo,vc,hv⟩:=hR.run.text.slice
  obtain ⟨c0,c1,c2,c3,c4,c5,cf⟩:=box6 hR.run.cell
  have HR:Hid (RunIs w r bx blk file cols v cs cur d):=hR
  have HNE:Hid (cur≠[]):=hne
  subst hv
  clear hR hP ok cf hne hall
  generalize (encs cur).length=q at *
  have hq:((0:Int) < (q:Int)):=by omega
  go_enter Tryz.func114,Tryz.ntmps114
  go_wp2_with (go_at_call 155; refine HWR.out.mono ?_; rintro e w2 ⟨rfl,v3,d',M',hR2,hW2,_,hT2⟩; obtain ⟨b0,b1,b2,b3,b4,b5,bf⟩:=box6 hR2.cell; have f5:=bf 5; have HR2:Hid _:=hR2; clear bf hR2)
  go_end0
  have t5:=(Touch.refl [r] w2).setCell (p:=⟨r,5,none⟩) (by simp) (.slice none 0 0)
  have hW2':=hW2
  rw [<- textsOf_snoc] at hW2'
  refine ⟨rfl,cs++[cur],d',M',1,by omega,⟨by rw [List.length_append]; exact end_cell HR2.out.cell,?_,fun c hc=>?_⟩,by simp,by simp,⟨hW2'.pd.away t5 (fun k hk e=>?_),hW2'.step,hW2'.last,hW2'.wrote,hW2'.used,hW2'.rows⟩,hT2.trans (t5.mono (by simp))⟩
  ·rw [hW2'.step.get,if_pos rfl]
  ·rcases List.mem_append.1 hc with hc | hc
   ·exact HR.out.full c hc
   ·rw [List.mem_singleton.1 hc]; exact ⟨HNE.out,HR.out.fit⟩
  ·rw [List.mem_singleton.1 e] at hk
   exact (hW2'.pd.notag (t:=223) (by decide) (by decide)).not_mem HR2.out.cell hk
theorem read_any (w:World) (r bx bm blk file cols n:Nat) (cs:List (List Rec)) (d:DS) (M:List PF) (hR:RunEnd w r bx blk file cols cs d) (hP:PD w bx bm d M) (ok:DiskOK d) (hn:n < cs.length) (hl:(encs cs[n]).length <= 1000000) (hfl:file <= 1000000000) (hn2:n <= 1000000000) :
  Calls Tryz.prog 157 #[.pointer (some ⟨r,0,none⟩),.int .i64 (n:Int)] w fun e w'=>e=.returned (.string (BA (encs cs[n]))) /\ PD w' bx bm d M /\ Touch [bx] w w':=by
 have HRD:Hid (∀ W,Touch [] w W -> Calls Tryz.prog 191 #[.pointer (some ⟨bx,0,none⟩),.int .i64 (file:Int),.int .i64 (n:Int)] W fun e w'=>e=.returned (.tuple #[.string (BA (sealB file n (encs cs[n]))),.int .i64 0]) /\ PD w' bx bm d M /\ Touch [bx] W w'):=fun W hW=>by
  have:=disk_read W bx bm d M file n (textsOf file cs) (hP.away hW (by simp)) ok hR.got (by rw [textsOf_len]; exact hn)
  rw [textsOf_get file cs n hn] at this
  exact this
 have HOP:Hid (∀ W,Calls Tryz.prog 192 #[.int .i64 (file:Int),.int .i64 (n:Int),.string (BA (sealB file n (encs cs[n])))] W fun e w'=>e=.returned (.string (BA (encs cs[n]))) /\ Touch [] W w'):=fun W=>opened_any W _ file n hl hfl hn2
 have hrb:r∉[bx]:=fun e=>(hP.notag (t:=223) (by decide) (by decide)).not_mem hR.cell (by rw [List.mem_singleton.1 e]; simp [diskF])
 have HCELL:Hid (∀ W,Touch [bx] w W -> W.heap[r]?=some (.cells (runCells bx blk file cols cs.length (.slice none 0 0)) 223 (0,0))):=fun W hW=>by
  rw [hW.block r (Array.getElem?_eq_some_iff.1 hR.cell).1 hrb]; exact hR.cell
 obtain ⟨c0,c1,c2,c3,c4,c5,cf⟩:=box6 hR.cell
 clear hR hP ok cf
 generalize BA (sealB file n (encs cs[n]))=s at *
 generalize BA (encs cs[n])=t at *
 go_enter Tryz.func157,Tryz.ntmps157
 go_wp2
 go_region_held3 (fun w'=>w'.cell? ⟨r,0,none⟩=some (.pointer (some ⟨bx,0,none⟩)) /\ w'.cell? ⟨r,2,none⟩=some (.int .i64 (file:Int))) (go_keep) (first | (go_at_call 191; refine (HRD.out _ ((Touch.refl [] _).drew)).mono ?_; rintro e w1 ⟨rfl,hP1,hT1⟩; obtain ⟨a0,a1,a2,a3,a4,a5,_⟩:=box6 (HCELL.out w1 (((Touch.refl [bx] w).drew).trans hT1))))
 all_goals
  go_wp2_with (go_at_call 192; refine (HOP.out _).mono ?_; rintro e w2 ⟨rfl,hT2⟩)
  go_ret
  exact ⟨rfl,hP1.away hT2 (by simp),(((Touch.refl [bx] w).drew).trans hT1).trans (hT2.mono (by simp))⟩
theorem delete_any (w:World) (r bx bm blk file cols n:Nat) (v:Value) (d:DS) (M:List PF) (hR:w.heap[r]?=some (.cells (runCells bx blk file cols n v) 223 (0,0))) (hP:PD w bx bm d M) (ok:DiskOK d) (hused:usedOf d.files <= 1000000000) :
  Calls Tryz.prog 104 #[.pointer (some ⟨r,0,none⟩)] w fun e w'=>e=.returned (.tuple #[]) /\ ∃ d' M',PD w' bx bm d' M' /\ DStep d d' file none /\ d'.last=d.last /\ d'.wrote=d.wrote /\ usedOf d.files=usedOf d'.files+((getF d.files file).getD []).length /\ List.Sublist (rowsOf M') (rowsOf M) /\ Touch [bx,bm] w w':=by
 have HDE:Hid (∀ W,Touch [] w W -> Calls Tryz.prog 128 #[.pointer (some ⟨bx,0,none⟩),.int .i64 (file:Int)] W fun e w'=>(∃ c,e=.returned (.int .i64 c)) /\ ∃ d' M',PD w' bx bm d' M' /\ DStep d d' file none /\ d'.last=d.last /\ d'.wrote=d.wrote /\ usedOf d.files=usedOf d'.files+((getF d.files file).getD []).length /\ List.Sublist (rowsOf M') (rowsOf M) /\ Touch [bx,bm] W w'):=fun W hW=>disk_delete W bx bm d M file (hP.away hW (by simp)) ok hused
 have hrb:r∉[bx,bm]:=fun e=>(hP.notag (t:=223) (by decide) (by decide)).not_mem hR (by simp only [List.mem_cons,List.not_mem_nil,or_false] at e; rcases e with e | e<;>simp [diskF,e])
 have HCELL:Hid (∀ W,Touch [bx,bm] w W -> W.heap[r]?=some (.cells (runCells bx blk file cols n v) 223 (0,0))):=fun W hW=>by
  rw [hW.block r (Array.getElem?_eq_some_iff.1 hR).1 hrb]; exact hR
 obtain ⟨c0,c1,c2,c3,c4,c5,cf⟩:=box6 hR
 clear hR hP ok cf
 go_enter Tryz.func104,Tryz.ntmps104
 go_wp2
 go_region_held3 (fun w'=>w'.cell? ⟨r,0,none⟩=some (.pointer (some ⟨bx,0,none⟩)) /\ w'.cell? ⟨r,2,none⟩=some (.int .i64 (file:Int))) (go_keep) (first | (go_at_call 128; refine (HDE.out _ ((Touch.refl [] _).drew)).mono ?_; rintro e w1 ⟨⟨cc,rfl⟩,d',M',p1,p2,p3,p4,p5,p6,p7⟩; obtain ⟨a0,a1,a2,a3,a4,a5,_⟩:=box6 (HCELL.out w1 (((Touch.refl [bx,bm] w).drew).trans p7))))
 all_goals
  go_wp2
  go_end0
  exact ⟨rfl,d',M',p1,p2,p3,p4,p5,p6,((Touch.refl [bx,bm] w).drew).trans p7⟩
theorem shelfNew_any (w:World) (bx bm blk file:Nat) (d:DS) (M:List PF) (hP:PD w bx bm d M) (ok:DiskOK d) (hl:d.last <= 1000000000) (hf:(file:Int)=d.last+1) (hblk:16 <= blk) :
  Calls Tryz.prog 112 #[.agg #[.pointer (some ⟨bx,0,none⟩),.int .i64 (blk:Int)]] w fun e w'=>∃ r,e=.returned (.pointer (some ⟨r,0,none⟩)) /\ w.heap.size <= r /\ ∃ d' M',RunIs w' r bx blk file 0 (.slice none 0 0) [] [] d' /\ PD w' bx bm d' M' /\ DStep d d' file (some []) /\ d'.last=d.last+1 /\ d'.wrote=d.wrote /\ usedOf d'.files=usedOf d.files /\ getF d.files file=none /\ rowsOf M'=rowsOf M /\ Touch [bx,bm] w w':=by
 have HCR:Hid (∀ W,Touch [] w W -> Calls Tryz.prog 154 #[.pointer (some ⟨bx,0,none⟩)] W fun e w'=>e=.returned (.int .i64 (file:Int)) /\ ∃ d' M',PD w' bx bm d' M' /\ DStep d d' file (some []) /\ d'.last=d.last+1 /\ d'.wrote=d.wrote /\ usedOf d'.files=usedOf d.files /\ getF d.files file=none /\ rowsOf M'=rowsOf M /\ Touch [bx,bm] W w'):=fun W hW=>by
  rw [hf]
  exact disk_create W bx bm d M (hP.away hW (by simp)) ok hl
 have HLT:Hid (∀ k∈diskF bx bm M,k < w.heap.size):=hP.lt
 clear hP ok hf hl
 have HBX:Hid (∀ W,Touch [bx,bm] (w.alloc (.cells #[.pointer (some ⟨bx,0,none⟩),.int .i64 (blk:Int)] 201)) W -> W.heap[w.heap.size]?=some (.cells #[.pointer (some ⟨bx,0,none⟩),.int .i64 (blk:Int)] 201 (0,0))):=fun W hW=>by
  rw [hW.block _ (by simp) (by have h1:=HLT.out bx (by simp [diskF]); have h2:=HLT.out bm (by simp [diskF]); simp; omega)]; exact heap_alloc_new w _
 go_enter Tryz.func112,Tryz.ntmps112
 go_wp2
 go_region_held3 (fun w'=>w'.cell? ⟨w.heap.size,0,none⟩=some (.pointer (some ⟨bx,0,none⟩)) /\ w'.cell? ⟨w.heap.size,1,none⟩=some (.int .i64 (blk:Int))) (go_keep) (first | (go_at_call 154; refine (HCR.out _ (((Touch.refl [] _).alloc _).drew)).mono ?_; rintro e w1 ⟨rfl,d',M',p1,p2,p3,p4,p5,p6,p7,p8⟩; obtain ⟨a0,a1⟩:=box2 (HBX.out w1 (((Touch.refl [bx,bm] _).drew).trans p8)); have hlt:=lt_of_cell a0; simp only at hlt))
 all_goals
  go_wp2
  go_ret
  refine ⟨w1.heap.size,rfl,?_,d',M',⟨⟨heap_alloc_new w1 _,Tx.nil _ _⟩,?_,by simpa [encs] using hblk,by simp⟩,p1.away ((Touch.refl [] _).alloc _) (by simp),p2,p3,p4,p5,p6,p7,((((Touch.refl [bx,bm] w).alloc _).drew).trans p8).alloc _⟩
  ·have:=p8.size
   simp at this
   omega
  ·rw [p2.get,if_pos rfl]; rfl
def rdCells (r k:Nat) (s:ByteArray):Array Value:=#[.pointer (some ⟨r,0,none⟩),.int .i64 (k:Int),.string s]
def RdAt (w:World) (q r k:Nat) (s:ByteArray):Prop:=w.heap[q]?=some (.cells (rdCells r k s) 241 (0,0))
theorem next_end (w:World) (q r k n bx blk file cols:Nat) (v:Value) (hq:RdAt w q r k ⟨#[]⟩) (hr:w.heap[r]?=some (.cells (runCells bx blk file cols n v) 223 (0,0))) (hk:k=n) :
  Calls Tryz.prog 117 #[.pointer (some ⟨q,0,none⟩)] w fun e w'=>e=.returned (.tuple #[.agg #[.int .i64 0,.slice none 0 0],.bool false]) /\ Touch [] w w':=by
 subst hk
 obtain ⟨a0,a1,a2⟩:=box3 hq
 obtain ⟨c0,c1,c2,c3,c4,c5,_⟩:=box6 hr
 have hlt:=lt_of_cell a0
 have hlt2:=lt_of_cell c0
 simp only at hlt hlt2
 have he:(ByteArray.toList ⟨#[]⟩).isEmpty=true:=by rw [ByteArray.toList_eq]; rfl
 have hkk:((k:Int) == (k:Int))=true:=by simp
 clear hq hr
 go_enter Tryz.func117,Tryz.ntmps117
 go_wp2
 go_big_quiet (fail)
 go_wp2
 exact bodyPost_ret (v:=.tuple #[.agg #[.int .i64 0,.slice none 0 0],.bool false]) (by simp [results,Tryz.results117,go_sem]) rfl ⟨rfl,(((Touch.refl [] w).alloc _).drewN nq).onto (((Touch.refl [w.heap.size] _).setCell (p:=⟨w.heap.size,0,none⟩) (by simp) _).setCell (p:=⟨w.heap.size,1,none⟩) (by simp) _) (fun i hi=>.inr (by simp at hi; omega))⟩
theorem next_boxes {w W0 w1:World} {q r k:Nat} {s:ByteArray} (hq:RdAt w q r k s) (ht:Touch [] W0 w1) (h0:W0.heap=((w.alloc (.cells #[.int .i64 0,.slice none 0 0] 205)).alloc (.cells #[.int .i64 0,.slice none 0 0] 205)).heap) :
  w1.heap[w.heap.size]?=some (.cells #[.int .i64 0,.slice none 0 0] 205 (0,0)) /\ w1.heap[w.heap.size+1]?=some (.cells #[.int .i64 0,.slice none 0 0] 205 (0,0)) /\ RdAt w1 q r k s:=by
 refine ⟨?_,?_,?_⟩
 ·rw [ht.block _ (by rw [h0]; simp; omega) (by simp),h0,Below.heap_alloc _ _ _ (by simp)]; exact heap_alloc_new w _
 ·have:=heap_alloc_new (w.alloc (.cells #[.int .i64 0,.slice none 0 0] 205)) (.cells #[.int .i64 0,.slice none 0 0] 205)
  rw [World.size_alloc] at this
  rw [ht.block _ (by rw [h0]; simp) (by simp),h0]; exact this
 ·unfold RdAt at *
  have hl:=(Array.getElem?_eq_some_iff.1 hq).1
  rw [ht.block _ (by rw [h0]; simp; omega) (by simp),h0,Below.heap_alloc _ _ _ (by simp; omega),Below.heap_alloc _ _ _ hl]; exact hq
theorem next_fin {w w1:World} {q r k g al:Nat} {no:Int} {s s2:ByteArray} {row:List V} (hT:Touch [] w w1) (hq:q < w.heap.size) (bA:w1.heap[w.heap.size]?=some (.cells #[.int .i64 0,.slice none 0 0] 205 (0,0))) (bB:w1.heap[w.heap.size+1]?=some (.cells #[.int .i64 0,.slice none 0 0] 205 (0,0))) (bQ:RdAt w1 q r k s) (hG:RowAt w1 (.slice (some ⟨g,0,none⟩) al al) row) :
  RowAt (((((w1.setCell ⟨w.heap.size+1,0,none⟩ (.int .i64 no)).setCell ⟨w.heap.size+1,1,none⟩ (.slice (some ⟨g,0,none⟩) al al)).setCell ⟨q,2,none⟩ (.string s2)).setCell ⟨w.heap.size,0,none⟩ (.int .i64 no)).setCell ⟨w.heap.size,1,none⟩ (.slice (some ⟨g,0,none⟩) al al)) (.slice (some ⟨g,0,none⟩) al al) row /\
  RdAt (((((w1.setCell ⟨w.heap.size+1,0,none⟩ (.int .i64 no)).setCell ⟨w.heap.size+1,1,none⟩ (.slice (some ⟨g,0,none⟩) al al)).setCell ⟨q,2,none⟩ (.string s2)).setCell ⟨w.heap.size,0,none⟩ (.int .i64 no)).setCell ⟨w.heap.size,1,none⟩ (.slice (some ⟨g,0,none⟩) al al)) q r k s2 /\
  Touch [q] w (((((w1.setCell ⟨w.heap.size+1,0,none⟩ (.int .i64 no)).setCell ⟨w.heap.size+1,1,none⟩ (.slice (some ⟨g,0,none⟩) al al)).setCell ⟨q,2,none⟩ (.string s2)).setCell ⟨w.heap.size,0,none⟩ (.int .i64 no)).setCell ⟨w.heap.size,1,none⟩ (.slice (some ⟨g,0,none⟩) al al)):=by
 have t:=(((((Touch.refl [w.heap.size+1,q,w.heap.size] w1).setCell (p:=⟨w.heap.size+1,0,none⟩) (by simp) (.int .i64 no)).setCell (p:=⟨w.heap.size+1,1,none⟩) (by simp) (.slice (some ⟨g,0,none⟩) al al)).setCell (p:=⟨q,2,none⟩) (by simp) (.string s2)).setCell (p:=⟨w.heap.size,0,none⟩) (by simp) (.int .i64 no)).setCell (p:=⟨w.heap.size,1,none⟩) (by simp) (.slice (some ⟨g,0,none⟩) al al)
 refine ⟨?_,?_,?_⟩
 ·refine Sl3.keep hG (t.tag (fun i hi cs f e=>?_))
  simp only [List.mem_cons,List.not_mem_nil,or_false] at hi
  rcases hi with rfl | rfl | rfl
  ·rw [bB] at e; simp at e
  ·rw [show w1.heap[i]?=_ from bQ] at e; simp at e
  ·rw [bA] at e; simp at e
 ·unfold RdAt at *
  rw [Below.heap_setCell _ _ _ _ (by simp; omega),Below.heap_setCell _ _ _ _ (by simp; omega)]
  rw [heap_setCell_same _ q 2 (rdCells r k s) 241 (.string s2) (by rw [Below.heap_setCell _ _ _ _ (by simp; omega),Below.heap_setCell _ _ _ _ (by simp; omega)]; exact bQ)]
  simp [rdCells]
 ·exact (hT.mono (by simp)).onto t (fun i hi=>by
   simp only [List.mem_cons,List.not_mem_nil,or_false] at hi
   rcases hi with rfl | rfl | rfl
   ·exact .inr (by omega)
   ·exact .inl (by simp)
   ·exact .inr (Nat.le_refl _))
theorem next_have (w:World) (q r k n bx blk file:Nat) (v:Value) (x:Rec) (l:List UInt8) (hq:RdAt w q r k (BA (encR x++l))) (hr:w.heap[r]?=some (.cells (runCells bx blk file x.row.length n v) 223 (0,0)))
  (hn:I64 x.no) (hf:∀ y∈x.row,Fair y) (hc1:1 <= x.row.length) (hc:x.row.length <= 1000) :
  Calls Tryz.prog 117 #[.pointer (some ⟨q,0,none⟩)] w fun e w'=>∃ g,e=.returned (.tuple #[.agg #[.int .i64 x.no,.slice (some ⟨g,0,none⟩) x.row.length x.row.length],.bool true]) /\ RowAt w' (.slice (some ⟨g,0,none⟩) x.row.length x.row.length) x.row /\ RdAt w' q r k (BA l) /\ w.heap.size <= g /\ Touch [q] w w':=by
 have HTK:Hid (∀ W,Calls Tryz.prog 158 #[.string (BA (encR x++l)),.int .i64 (x.row.length:Int)] W fun e w'=>∃ g,e=.returned (.tuple #[.agg #[.int .i64 x.no,.slice (some ⟨g,0,none⟩) x.row.length x.row.length],.string (BA l)]) /\ RowAt w' (.slice (some ⟨g,0,none⟩) x.row.length x.row.length) x.row /\ W.heap.size <= g /\ Touch [] W w'):=fun W=>take_any x hn hf hc1 hc l W
 obtain ⟨a0,a1,a2⟩:=box3 hq
 obtain ⟨c0,c1,c2,c3,c4,c5,_⟩:=box6 hr
 have hlt:=lt_of_cell a0
 have hlt2:=lt_of_cell c0
 simp only at hlt hlt2
 have he:(BA (encR x++l)).toList.isEmpty=false:=by
  have h1:(BA (encR x++l)).toList=encR x++l:=by rw [ByteArray.toList_eq]
  rw [h1]
  have h2:=encR_len (r:=x) hf
  unfold sizeR at h2
  cases h3:encR x++l with
  | nil=>have:=congrArg List.length h3; simp at this; rw [this.1] at h2; simp at h2; omega
  | cons=>rfl
 have HQ:Hid (RdAt w q r k (BA (encR x++l))):=hq
 have HR:Hid (w.heap[r]?=some (.cells (runCells bx blk file x.row.length n v) 223 (0,0))):=hr
 clear hq hr hn hf
 generalize BA (encR x++l)=s at *
 generalize BA l=s2 at *
 generalize hrow:x.row=row at *
 generalize x.no=no at *
 clear hrow
 generalize hal:row.length=al at *
 have HAL:Hid (row.length=al):=hal
 clear hal
 go_enter Tryz.func117,Tryz.ntmps117
 go_wp2
 go_big_quiet (fail)
 go_wp2_with fail
 go_region_with (go_at_call 158; refine (HTK.out _).mono ?_; rintro e w1 ⟨g,rfl,hG1,hg1,hT1⟩; obtain ⟨bA,bB,bQ⟩:=next_boxes HQ.out hT1 rfl; obtain ⟨x0,x1⟩:=box2 bA; obtain ⟨y0,y1⟩:=box2 bB; obtain ⟨z0,z1,z2⟩:=box3 bQ; have g0:w1.frozen? ⟨w.heap.size,0,none⟩=false:=(by simp [World.frozen?,bA]); have g1:w1.frozen? ⟨w.heap.size,1,none⟩=false:=(by simp [World.frozen?,bA]); have g2:w1.frozen? ⟨w.heap.size+1,0,none⟩=false:=(by simp [World.frozen?,bB]); have g3:w1.frozen? ⟨w.heap.size+1,1,none⟩=false:=(by simp [World.frozen?,bB]); have g4:w1.frozen? ⟨q,2,none⟩=false:=(by simp [World.frozen?,show w1.heap[q]?=_ from bQ]); have HBA:Hid _:=bA; have HBB:Hid _:=bB; have HBQ:Hid (RdAt w1 q r k s):=bQ; clear bA bB bQ)
 all_goals
  have HT1:Hid (Touch [] w w1):=by
   refine Touch.trans ?_ hT1
   exact (((Touch.refl [] w).alloc (.cells #[.int .i64 0,.slice none 0 0] 205)).alloc (.cells #[.int .i64 0,.slice none 0 0] 205)).trans ⟨rfl,rfl,rfl,Nat.le_refl _,fun _ _ _=>rfl⟩
  have HG1:Hid _:=hG1
  have hgg:w.heap.size <= g:=by simp at hg1; omega
  clear hT1 hG1 a0 a1 a2 c0 c1 c2 c3 c4 c5 hg1
  go_wp2
  obtain ⟨r1,r2,r3⟩:=next_fin (no:=no) (s2:=s2) HT1.out hlt HBA.out HBB.out HBQ.out HG1.out
  exact bodyPost_ret (v:=.tuple #[.agg #[.int .i64 no,.slice (some ⟨g,0,none⟩) al al],.bool true]) (by simp [results,Tryz.results117,go_sem,x0,x1]) rfl ⟨g,rfl,r1,r2,hgg,r3⟩
theorem next_fin2 {w w1:World} {F:List Nat} {N B q r k g al:Nat} {no:Int} {s s2:ByteArray} {row:List V} (hT:Touch F w w1) (hqF:q∈F) (hN:w.heap.size <= N) (hB:w.heap.size <= B) (hNB:N≠B) (hqN:q≠N) (hqB:q≠B) (bA:w1.heap[N]?=some (.cells #[.int .i64 0,.slice none 0 0] 205 (0,0))) (bB:w1.heap[B]?=some (.cells #[.int .i64 0,.slice none 0 0] 205 (0,0))) (bQ:RdAt w1 q r k s) (hG:RowAt w1 (.slice (some ⟨g,0,none⟩) al al) row) :
  RowAt (((((w1.setCell ⟨B,0,none⟩ (.int .i64 no)).setCell ⟨B,1,none⟩ (.slice (some ⟨g,0,none⟩) al al)).setCell ⟨q,2,none⟩ (.string s2)).setCell ⟨N,0,none⟩ (.int .i64 no)).setCell ⟨N,1,none⟩ (.slice (some ⟨g,0,none⟩) al al)) (.slice (some ⟨g,0,none⟩) al al) row /\
  RdAt (((((w1.setCell ⟨B,0,none⟩ (.int .i64 no)).setCell ⟨B,1,none⟩ (.slice (some ⟨g,0,none⟩) al al)).setCell ⟨q,2,none⟩ (.string s2)).setCell ⟨N,0,none⟩ (.int .i64 no)).setCell ⟨N,1,none⟩ (.slice (some ⟨g,0,none⟩) al al)) q r k s2 /\
  Touch [B,q,N] w1 (((((w1.setCell ⟨B,0,none⟩ (.int .i64 no)).setCell ⟨B,1,none⟩ (.slice (some ⟨g,0,none⟩) al al)).setCell ⟨q,2,none⟩ (.string s2)).setCell ⟨N,0,none⟩ (.int .i64 no)).setCell ⟨N,1,none⟩ (.slice (some ⟨g,0,none⟩) al al)) /\
  Touch F w (((((w1.setCell ⟨B,0,none⟩ (.int .i64 no)).setCell ⟨B,1,none⟩ (.slice (some ⟨g,0,none⟩) al al)).setCell ⟨q,2,none⟩ (.string s2)).setCell ⟨N,0,none⟩ (.int .i64 no)).setCell ⟨N,1,none⟩ (.slice (some ⟨g,0,none⟩) al al)):=by
 have t:=(((((Touch.refl [B,q,N] w1).setCell (p:=⟨B,0,none⟩) (by simp) (.int .i64 no)).setCell (p:=⟨B,1,none⟩) (by simp) (.slice (some ⟨g,0,none⟩) al al)).setCell (p:=⟨q,2,none⟩) (by simp) (.string s2)).setCell (p:=⟨N,0,none⟩) (by simp) (.int .i64 no)).setCell (p:=⟨N,1,none⟩) (by simp) (.slice (some ⟨g,0,none⟩) al al)
 refine ⟨?_,?_,t,?_⟩
 ·refine Sl3.keep hG (t.tag (fun i hi cs f e=>?_))
  simp only [List.mem_cons,List.not_mem_nil,or_false] at hi
  rcases hi with rfl | rfl | rfl
  ·rw [bB] at e; simp at e
  ·rw [show w1.heap[i]?=_ from bQ] at e; simp at e
  ·rw [bA] at e; simp at e
 ·unfold RdAt at *
  rw [Below.heap_setCell _ _ _ _ (by simpa using hqN),Below.heap_setCell _ _ _ _ (by simpa using hqN)]
  rw [heap_setCell_same _ q 2 (rdCells r k s) 241 (.string s2) (by rw [Below.heap_setCell _ _ _ _ (by simpa using hqB),Below.heap_setCell _ _ _ _ (by simpa using hqB)]; exact bQ)]
  simp [rdCells]
 ·exact hT.onto t (fun i hi=>by
   simp only [List.mem_cons,List.not_mem_nil,or_false] at hi
   rcases hi with rfl | rfl | rfl
   ·exact .inr hB
   ·exact .inl hqF
   ·exact .inr hN)
theorem next_read (w:World) (q r k n bx bm blk file:Nat) (v:Value) (x:Rec) (l:List UInt8) (d:DS) (M:List PF) (hq:RdAt w q r k ⟨#[]⟩) (hr:w.heap[r]?=some (.cells (runCells bx blk file x.row.length n v) 223 (0,0))) (hk:k < n) (hk2:n <= 1000000000)
  (hn:I64 x.no) (hf:∀ y∈x.row,Fair y) (hc1:1 <= x.row.length) (hc:x.row.length <= 1000) (hP:PD w bx bm d M)
  (hrd:∀ W,Touch [] w W -> Calls Tryz.prog 157 #[.pointer (some ⟨r,0,none⟩),.int .i64 (k:Int)] W fun e w'=>e=.returned (.string (BA (encR x++l))) /\ PD w' bx bm d M /\ Touch [bx] W w') :
  Calls Tryz.prog 117 #[.pointer (some ⟨q,0,none⟩)] w fun e w'=>∃ g,e=.returned (.tuple #[.agg #[.int .i64 x.no,.slice (some ⟨g,0,none⟩) x.row.length x.row.length],.bool true]) /\ RowAt w' (.slice (some ⟨g,0,none⟩) x.row.length x.row.length) x.row /\ RdAt w' q r (k+1) (BA l) /\ w.heap.size <= g /\ PD w' bx bm d M /\ Touch [q,bx] w w':=by
 have HTK:Hid (∀ W,Calls Tryz.prog 158 #[.string (BA (encR x++l)),.int .i64 (x.row.length:Int)] W fun e w'=>∃ g,e=.returned (.tuple #[.agg #[.int .i64 x.no,.slice (some ⟨g,0,none⟩) x.row.length x.row.length],.string (BA l)]) /\ RowAt w' (.slice (some ⟨g,0,none⟩) x.row.length x.row.length) x.row /\ W.heap.size <= g /\ Touch [] W w'):=fun W=>take_any x hn hf hc1 hc l W
 have HRD:Hid _:=hrd
 obtain ⟨a0,a1,a2⟩:=box3 hq
 obtain ⟨c0,c1,c2,c3,c4,c5,_⟩:=box6 hr
 have hlt:=lt_of_cell a0
 have hlt2:=lt_of_cell c0
 simp only at hlt hlt2
 have he:(ByteArray.toList ⟨#[]⟩).isEmpty=true:=by rw [ByteArray.toList_eq]; rfl
 have hkn:((k:Int) == (n:Int))=false:=by simp; omega
 have hqb:q≠bx:=fun e=>(hP.notag (t:=241) (by decide) (by decide)).not_mem hq (by rw [e]; exact List.mem_cons_self)
 have hrb:r≠bx:=fun e=>(hP.notag (t:=223) (by decide) (by decide)).not_mem hr (by rw [e]; exact List.mem_cons_self)
 have hqr:q≠r:=fun e=>by subst e; unfold RdAt at hq; rw [hq] at hr; simp at hr
 have hbxlt:bx < w.heap.size:=hP.lt bx List.mem_cons_self
 have HQD:Hid (q∉diskF bx bm M):=(hP.notag (t:=241) (by decide) (by decide)).not_mem hq
 have HQ:Hid (RdAt w q r k ⟨#[]⟩):=hq
 have HR:Hid (w.heap[r]?=some (.cells (runCells bx blk file x.row.length n v) 223 (0,0))):=hr
 have HPLT:Hid (∀ j∈diskF bx bm M,j < w.heap.size):=hP.lt
 clear hq hr hn hf hrd hP
 generalize BA (encR x++l)=s at *
 generalize BA l=s2 at *
 generalize hrow:x.row=row at *
 generalize x.no=no at *
 clear hrow
 generalize row.length=al at *
 have HW1:Hid (∀ W0 w1,Touch [bx] W0 w1 -> W0.heap=(w.alloc (.cells #[.int .i64 0,.slice none 0 0] 205)).heap -> RdAt w1 q r k ⟨#[]⟩ /\ w1.heap[w.heap.size]?=some (.cells #[.int .i64 0,.slice none 0 0] 205 (0,0)) /\ w1.heap[r]?=some (.cells (runCells bx blk file al n v) 223 (0,0)) /\ w.heap.size < w1.heap.size):=fun W0 w1 ht h0=>by
  refine ⟨?_,?_,?_,?_⟩
  ·unfold RdAt
   rw [ht.block q (by rw [h0]; simp; omega) (by simpa using hqb),h0,Below.heap_alloc _ _ _ hlt]; exact HQ.out
  ·rw [ht.block _ (by rw [h0]; simp) (by simp; omega),h0]; exact heap_alloc_new w _
  ·rw [ht.block r (by rw [h0]; simp; omega) (by simpa using hrb),h0,Below.heap_alloc _ _ _ hlt2]; exact HR.out
  ·have:=ht.size; rw [h0] at this; simp at this; omega
 go_enter Tryz.func117,Tryz.ntmps117
 go_wp2
 go_big_quiet (fail)
 go_wp2_with fail
 go_region_with (go_at_call 157; refine (HRD.out _ (((Touch.refl [] w).alloc _).drewN (nq+1))).mono ?_; rintro e w1 ⟨rfl,hP1,hT1⟩; obtain ⟨bQ,bA,bR,hsz1⟩:=HW1.out _ _ hT1 rfl; obtain ⟨z0,z1,z2⟩:=box3 bQ; have g1:w1.frozen? ⟨q,1,none⟩=false:=(by simp [World.frozen?,show w1.heap[q]?=_ from bQ]); have g2:w1.frozen? ⟨q,2,none⟩=false:=(by simp [World.frozen?,show w1.heap[q]?=_ from bQ]); have HBQ:Hid (RdAt w1 q r k ⟨#[]⟩):=bQ; have HBA:Hid _:=bA; have HBR:Hid _:=bR; clear bQ bA bR)
 all_goals
  obtain ⟨e0,e1,e2,e3,e4,e5,_⟩:=box6 HBR.out
  have HT1:Hid (Touch [q,bx] w w1):=((((Touch.refl [q,bx] w).alloc _).drewN (nq+1))).trans (hT1.mono (by simp))
  have HP1:Hid (PD w1 bx bm d M):=hP1
  have HAFT:Hid (∀ W0 w5,Touch [] W0 w5 -> W0.heap=(((w1.setCell ⟨q,2,none⟩ (.string s)).setCell ⟨q,1,none⟩ (.int .i64 ((k:Int)+1))).alloc (.cells #[.int .i64 0,.slice none 0 0] 205)).heap -> w5.heap[w.heap.size]?=some (.cells #[.int .i64 0,.slice none 0 0] 205 (0,0)) /\ w5.heap[w1.heap.size]?=some (.cells #[.int .i64 0,.slice none 0 0] 205 (0,0)) /\ RdAt w5 q r (k+1) s):=fun W0 w5 ht h0=>by
   have hql:q < w1.heap.size:=by omega
   have hNw:w.heap.size≠q:=by omega
   refine ⟨?_,?_,?_⟩
   ·rw [ht.block _ (by rw [h0]; simp; omega) (by simp),h0,Below.heap_alloc _ _ _ (by simp; omega),Below.heap_setCell _ _ _ _ (by simpa using hNw),Below.heap_setCell _ _ _ _ (by simpa using hNw)]; exact HBA.out
   ·have:=heap_alloc_new ((w1.setCell ⟨q,2,none⟩ (.string s)).setCell ⟨q,1,none⟩ (.int .i64 ((k:Int)+1))) (.cells #[.int .i64 0,.slice none 0 0] 205)
    rw [show ((w1.setCell ⟨q,2,none⟩ (.string s)).setCell ⟨q,1,none⟩ (.int .i64 ((k:Int)+1))).heap.size=w1.heap.size from by simp] at this
    rw [ht.block _ (by rw [h0]; simp) (by simp),h0]; exact this
   ·unfold RdAt
    rw [ht.block _ (by rw [h0]; simp; omega) (by simp),h0,Below.heap_alloc _ _ _ (by simp; omega)]
    rw [heap_setCell_same _ q 1 _ 241 _ (heap_setCell_same w1 q 2 _ 241 (.string s) HBQ.out)]
    simp [rdCells]
  have HTT:Hid (∀ W0 w5,Touch [] W0 w5 -> W0.heap=(((w1.setCell ⟨q,2,none⟩ (.string s)).setCell ⟨q,1,none⟩ (.int .i64 ((k:Int)+1))).alloc (.cells #[.int .i64 0,.slice none 0 0] 205)).heap -> W0.os=w1.os -> W0.tape=w1.tape -> W0.output=w1.output -> Touch [q] w1 w5):=fun W0 w5 ht h0 p1 p2 p3=>by
   have t1:Touch [q] w1 (((w1.setCell ⟨q,2,none⟩ (.string s)).setCell ⟨q,1,none⟩ (.int .i64 ((k:Int)+1))).alloc (.cells #[.int .i64 0,.slice none 0 0] 205)):=(((Touch.refl [q] w1).setCell (p:=⟨q,2,none⟩) (by simp) _).setCell (p:=⟨q,1,none⟩) (by simp) _).alloc _
   refine Touch.trans ⟨p1,p2,p3,by rw [h0]; exact t1.size,fun j hj hn=>by rw [h0]; exact t1.block j hj hn⟩ (ht.mono (by simp))
  clear hT1 hP1 a0 a1 a2 c0 c1 c2 c3 c4 c5
  have hq1:q < w1.heap.size:=by omega
  have hr1:r < w1.heap.size:=by omega
  go_wp2_with fail
  go_region_with (go_at_call 158; refine (HTK.out _).mono ?_; rintro e w5 ⟨g,rfl,hG5,hg5,hT5⟩; obtain ⟨bA,bB,bQ⟩:=HAFT.out _ _ hT5 rfl; obtain ⟨x0,x1⟩:=box2 bA; obtain ⟨y0,y1⟩:=box2 bB; obtain ⟨z5,z6,z7⟩:=box3 bQ; have g3:w5.frozen? ⟨w.heap.size,0,none⟩=false:=(by simp [World.frozen?,bA]); have g4:w5.frozen? ⟨w.heap.size,1,none⟩=false:=(by simp [World.frozen?,bA]); have g5:w5.frozen? ⟨w1.heap.size,0,none⟩=false:=(by simp [World.frozen?,bB]); have g6:w5.frozen? ⟨w1.heap.size,1,none⟩=false:=(by simp [World.frozen?,bB]); have g7:w5.frozen? ⟨q,2,none⟩=false:=(by simp [World.frozen?,show w5.heap[q]?=_ from bQ]); have HCA:Hid _:=bA; have HCB:Hid _:=bB; have HCQ:Hid (RdAt w5 q r (k+1) s):=bQ; have HT5:Hid (Touch [q] w1 w5):=HTT.out _ _ hT5 rfl rfl rfl rfl; clear bA bB bQ)
 all_goals
  have HG5:Hid _:=hG5
  have hgg:w.heap.size <= g:=by simp at hg5; omega
  have hNB:w.heap.size≠w1.heap.size:=by omega
  clear hT5 hG5 hg5 z0 z1 z2 e0 e1 e2 e3 e4 e5 HAFT HTT HTK HRD HW1
  go_wp2
  obtain ⟨r1,r2,r3,r4⟩:=next_fin2 (F:=[q,bx]) (no:=no) (s2:=s2) (HT1.out.trans (HT5.out.mono (by simp))) (by simp) (Nat.le_refl w.heap.size) (Nat.le_of_lt hsz1) hNB (by omega) (by omega) HCA.out HCB.out HCQ.out HG5.out
  refine bodyPost_ret (v:=.tuple #[.agg #[.int .i64 no,.slice (some ⟨g,0,none⟩) al al],.bool true]) (by simp [results,Tryz.results117,go_sem,x0,x1]) rfl ⟨g,rfl,r1,r2,hgg,(HP1.out.away HT5.out ?_).away r3 ?_,r4⟩
  ·intro j hj e
   rw [List.mem_singleton.1 e] at hj
   exact HQD.out hj
  ·intro j hj e
   have hjl:=HPLT.out j hj
   simp only [List.mem_cons,List.not_mem_nil,or_false] at e
   rcases e with e | e | e
   ·omega
   ·rw [e] at hj; exact HQD.out hj
   ·omega
def RdIs (w:World) (q r:Nat) (cs:List (List Rec)) (left:List Rec):Prop:=∃ k rest,RdAt w q r k (BA (encs rest)) /\ left=rest++(cs.drop k).flatten /\ k <= cs.length
theorem RdIs.touch {F:List Nat} {w w':World} {q r:Nat} {cs:List (List Rec)} {left:List Rec} (h:RdIs w q r cs left) (t:TouchU F w w') (hq:q∉F):RdIs w' q r cs left:=by
 obtain ⟨k,rest,h1,h2⟩:=h
 exact ⟨k,rest,t.keep h1 (by decide) hq,h2⟩
theorem RdIs.cell {w:World} {q r:Nat} {cs:List (List Rec)} {left:List Rec} (h:RdIs w q r cs left):∃ c,w.heap[q]?=some (.cells c 241 (0,0)):=by
 obtain ⟨k,rest,h1,h2⟩:=h
 exact ⟨_,h1⟩
theorem flatten_ne {cs:List (List Rec)} (hf:∀ c∈cs,c≠[]) (h:cs.flatten=[]):cs=[]:=by
 cases cs with
 | nil=>rfl
 | cons c cs=>
  exfalso
  have:=hf c (by simp)
  simp at h
  exact this h.1
theorem next_nil (w:World) (q r bx blk file cols:Nat) (cs:List (List Rec)) (d:DS) (hR:RunEnd w r bx blk file cols cs d) (hq:RdIs w q r cs []) :
  Calls Tryz.prog 117 #[.pointer (some ⟨q,0,none⟩)] w fun e w'=>e=.returned (.tuple #[.agg #[.int .i64 0,.slice none 0 0],.bool false]) /\ Touch [] w w':=by
 obtain ⟨k,rest,h1,h2,h3⟩:=hq
 have h4:=List.append_eq_nil_iff.1 h2.symm
 have h5:cs.drop k=[]:=flatten_ne (fun c hc=>(hR.full c (List.mem_of_mem_drop hc)).1) h4.2
 have h6:cs.length <= k:=List.drop_eq_nil_iff.1 h5
 rw [h4.1] at h1
 exact next_end w q r k cs.length bx blk file cols (.slice none 0 0) h1 hR.cell (by omega)
theorem encs_cons (x:Rec) (l:List Rec):encs (x::l)=encR x++encs l:=by simp [encs]
theorem next_cons (w:World) (q r bx bm blk file cols:Nat) (cs:List (List Rec)) (d:DS) (M:List PF) (x:Rec) (l:List Rec) (hR:RunEnd w r bx blk file cols cs d) (hq:RdIs w q r cs (x::l)) (hP:PD w bx bm d M) (ok:DiskOK d)
  (hall:∀ y∈x::l,RecOK blk cols y) (hc1:1 <= cols) (hc:cols <= 1000) (hfl:file <= 1000000000) (hn:cs.length <= 100000000) (hch:∀ c∈cs,(encs c).length <= 1000000) :
  Calls Tryz.prog 117 #[.pointer (some ⟨q,0,none⟩)] w fun e w'=>∃ g,e=.returned (.tuple #[.agg #[.int .i64 x.no,.slice (some ⟨g,0,none⟩) cols cols],.bool true]) /\ RowAt w' (.slice (some ⟨g,0,none⟩) cols cols) x.row /\ RdIs w' q r cs l /\ w.heap.size <= g /\ PD w' bx bm d M /\ Touch [q,bx] w w':=by
 obtain ⟨k,rest,h1,h2,h3⟩:=hq
 have hx:=hall x (by simp)
 have hlen:=hx.len
 have hcell:=hR.cell
 rw [<- hlen] at hcell
 cases rest with
 | cons y rest=>
  simp only [List.cons_append,List.cons.injEq] at h2
  obtain ⟨rfl,h2⟩:=h2
  rw [encs_cons] at h1
  refine (next_have w q r k cs.length bx blk file (.slice none 0 0) x (encs rest) h1 hcell hx.no hx.fair (by omega) (by omega)).mono ?_
  rintro e w' ⟨g,rfl,p1,p2,p3,p4⟩
  rw [hlen] at p1 ⊢
  have hqd:q∉diskF bx bm M:=(hP.notag (t:=241) (by decide) (by decide)).not_mem h1
  exact ⟨g,rfl,p1,⟨k,rest,p2,h2,h3⟩,p3,hP.away p4 (fun j hj e=>by rw [List.mem_singleton.1 e] at hj; exact hqd hj),p4.mono (by simp)⟩
 | nil=>
  have hk:k < cs.length:=by
   rcases Nat.lt_or_ge k cs.length with h | h
   ·exact h
   ·rw [List.drop_of_length_le h] at h2; simp at h2
  rw [List.drop_eq_getElem_cons hk] at h2
  have hne:=(hR.full cs[k] (List.getElem_mem _)).1
  cases hck:cs[k] with
  | nil=>exact absurd hck hne
  | cons y c'=>
   rw [hck] at h2
   simp only [List.nil_append,List.flatten_cons,List.cons_append,List.cons.injEq] at h2
   obtain ⟨rfl,h2⟩:=h2
   refine (next_read w q r k cs.length bx bm blk file (.slice none 0 0) x (encs c') d M h1 hcell hk (by omega) hx.no hx.fair (by omega) (by omega) hP (fun W hW=>?_)).mono ?_
   ·have hRW:RunEnd W r bx blk file cols cs d:=⟨by rw [hW.block r (Array.getElem?_eq_some_iff.1 hR.cell).1 (by simp)]; exact hR.cell,hR.got,hR.full⟩
    have:=read_any W r bx bm blk file cols k cs d M hRW (hP.away hW (by simp)) ok hk (hch _ (List.getElem_mem _)) hfl (by omega)
    rw [hck,encs_cons] at this
    exact this
   ·rintro e w' ⟨g,rfl,p1,p2,p3,p4,p5⟩
    rw [hlen] at p1 ⊢
    exact ⟨g,rfl,p1,⟨k+1,c',p2,h2,by omega⟩,p3,p4,p5⟩
theorem reader_any (w:World) (r:Nat) (cs:List (List Rec)):Calls Tryz.prog 116 #[.pointer (some ⟨r,0,none⟩)] w fun e w'=>e=.returned (.pointer (some ⟨w.heap.size,0,none⟩)) /\ RdIs w' w.heap.size r cs cs.flatten /\ w.heap.size < w'.heap.size /\ Touch [] w w':=by
 go_enter Tryz.func116,Tryz.ntmps116
 go_wp2
 go_ret
 exact ⟨rfl,⟨0,[],heap_alloc_new w _,by simp,Nat.zero_le _⟩,by simp,(Touch.refl _ _).alloc _⟩
end Go.Proofs.YtjoinhljdbljaaaGreat
