/- Two sides joined, and what follows. -/
import Derived.Test.YtjoinhljdbljaaaGreatJnOToJoB
set_option maxHeartbeats 4000000
set_option maxRecDepth 20000
set_option linter.unusedSectionVars false
namespace Go.Proofs.YtjoinhljdbljaaaGreat
open Go.RowKit Go.Proofs.Tryz
variable [Inhabited Ground]
attribute [local go_sem] Oper.semAt_some
variable {W w w3 wa:World} {bl bn bq br gl gr q rc:Nat} {ll lr:Array Value}
def FinOne (N:Nat)(D:List Nat)(ps bx bm blk cols m j:Nat)(ks:List K)(rows:List (List V))(W:World):Prop:=
 Calls prog 150 #[.pointer (some ⟨ps,0,none⟩)] W λe W'=>∃X lv rp s sp out sc d M pre,e=.returned (.agg #[lv,rp,.int .i64 0,.string s,.bool sp])/\IE X W' N D ps bx bm blk cols m j ks (rO rows) lv rp s sp out sc d M pre/\OO bm N D W W'
def JnT:List TypeId:=[83,246]
def JnK:List TypeId:=[79,167,206,246]
def JR (ks:List K)(rows:List (List V))(rs:List Rec):Prop:=rs.Perm (rO rows)/\Srt ks rs
def Jt (outer:Bool)(cols others:List Int)(rc:Nat)(ru rD:List (List V))(given:List (List V))(v:Value)(W:World)(given':List (List V)):Prop:=
 ∃r rs out,given'=given++[r]/\Ro W v r/\JR (others.map keyOf) rD rs/\First (cols.map keyOf) 20000 (rO ru) out/\given' <+: jA outer cols others rc (rs.map Rec.row) (out.map Rec.row)
def JFin (bx bm blk m j:Nat)(outer:Bool)(cols others:List Int)(rc:Nat)(ru rD:List (List V))(given:List (List V))(W:World):Prop:=
 (∃rs out,JR (others.map keyOf) rD rs/\First (cols.map keyOf) 20000 (rO ru) out/\(out.length=20000\/out.Perm (rO ru))/\given=jA outer cols others rc (rs.map Rec.row) (out.map Rec.row))/\∃d M,RS W bx bm blk rc d M [] none/\Left d m j
structure JoinIn (W:World)(bq bn br bl q:Nat)(tv wv:Value)(n:ND)(gr gl:Nat)(lr ll:Array Value)(cols others:List Int)(la rc bx blk fan bud:Nat)(XC:List Nat):Prop where
 hq:W.heap[bq]?=some (.cells #[.pointer (some ⟨q,0,none⟩)] 159 (0,0))
 hQ:W.heap[q]?=some (.cells #[tv,.int .i64 (blk:Int),.int .i64 (fan:Int),.int .i64 (bud:Int),.pointer (some ⟨bx,0,none⟩),wv] 162 (0,0))
 hn:W.heap[bn]?=some (.cells n.cells 79 (0,0))
 hr:W.heap[br]?=some (.cells #[.int .i64 (rc:Int),.func (.func gr) #[] lr] 167 (0,0))
 hl:W.heap[bl]?=some (.cells #[.func (.func gl) #[] ll] 165 (0,0))
 sides:Si W n cols others la rc
 inX:InX XC n
 cak:∀k∈XC,∃cs f,W.heap[k]?=some (.cells cs 3 f)
 sl:n.Slices
 b1:1<=blk
 bud2:bud<=9223372036854775807
 la1:1<=la
 la2:la<=1000
 rc1:1<=rc
 rc2:rc<=1000
theorem NewSorter.store {B ps bs ph bx blk fan bud count g n:Nat}{ks:List K}(t:Touch [] wa w3)(hB:w3.heap[B]?=some (.cells #[.pointer none] 228 (0,0)))(hBn:wa.heap.size<=B)(p4:Sr w3 ps (SC.new bx blk fan bud count (.slice (some ⟨g,0,none⟩) n n) ph))(p5:HeadAt w3 ph (.slice none 0 0) bs)(p6:w3.heap[bs]?=some (.cells #[.pointer (some ⟨ps,0,none⟩)] 228 (0,0)))(hk:KA w3 (.slice (some ⟨g,0,none⟩) n n) ks) :
  (w3.setCell ⟨B,0,none⟩ (.pointer (some ⟨ps,0,none⟩))).heap[B]?=some (.cells #[.pointer (some ⟨ps,0,none⟩)] 228 (0,0))/\Sr (w3.setCell ⟨B,0,none⟩ (.pointer (some ⟨ps,0,none⟩))) ps (SC.new bx blk fan bud count (.slice (some ⟨g,0,none⟩) n n) ph)/\HeadAt (w3.setCell ⟨B,0,none⟩ (.pointer (some ⟨ps,0,none⟩))) ph (.slice none 0 0) bs/\(w3.setCell ⟨B,0,none⟩ (.pointer (some ⟨ps,0,none⟩))).heap[bs]?=some (.cells #[.pointer (some ⟨ps,0,none⟩)] 228 (0,0))/\KA (w3.setCell ⟨B,0,none⟩ (.pointer (some ⟨ps,0,none⟩))) (.slice (some ⟨g,0,none⟩) n n) ks/\Touch [] wa (w3.setCell ⟨B,0,none⟩ (.pointer (some ⟨ps,0,none⟩))):=by
 have t2:Touch [B] w3 (w3.setCell ⟨B,0,none⟩ (.pointer (some ⟨ps,0,none⟩))):=(Touch.refl [B] w3).setCell (p:=⟨B,0,none⟩) (by simp) _;have nt:∀{t:TypeId},(228:TypeId)≠t->KT t w3 _:=λht=>t2.tag (nO hB ht);have hne:bs≠B:=λe=>by rw[e,hB]at p6;simp at p6
 refine⟨?_,p4.keep (nt (by decide)),p5.keep (nt (by decide)),t2.u.keep p6 (by decide) (by simpa using hne),Sl3.keep hk (nt (by decide)),t.onto t2 (λi hi=>.inr (by rw[ms_ hi];exact hBn))⟩;rw[heap_setCell_same w3 B 0 _ 228 _ hB];simp
theorem joined_seq (W0:World)(bq bn br bl q:Nat)(tv wv:Value)(n:ND)(gr gl:Nat)(lr ll:Array Value)(cols others:List Int)(la rc bx bm blk fan bud:Nat)(XC:List Nat)(D:List Nat)(outer:Bool)(ru rD:List (List V))(m j lc mL jL:Nat)(h:JoinIn W0 bq bn br bl q tv wv n gr gl lr ll cols others la rc bx blk fan bud XC)(hbm:bm<W0.heap.size)(hop:(n.op≠5/\outer=false)\/(n.op=5/\outer=true/\rD=[]))
  (hrl:∀r∈ru,r.length=la) (hrr:∀r∈rD,r.length=rc)
  (hR:∀wc ps bs ph kv b1 b2,Sr wc ps (SC.new bx blk fan bud 20000 kv ph)->HeadAt wc ph (.slice none 0 0) bs->wc.heap[bs]?=some (.cells #[.pointer (some ⟨ps,0,none⟩)] 228 (0,0))->KA wc kv (others.map keyOf)->wc.heap[b1]?=some (.cells #[.func (.func gr) #[] lr] 165 (0,0))->wc.heap[b2]?=some (.cells #[n.ov] 37 (0,0))->Touch [] W0 wc->W0.heap.size<=ps->W0.heap.size<=ph->Src JnT bm W0.heap.size D wc 178 #[.pointer (some ⟨b1,0,none⟩),.pointer (some ⟨b2,0,none⟩)] ps (FinOne W0.heap.size D ps bx bm blk rc m j (others.map keyOf) rD))
  (hL:∀W d M b1 bk bc b2 kv,PD W bx bm d M->Di d->(blk:Int)<=d.block->Left d m j->Hi bm (dI bx bm M)->OG JnT bm W0.heap.size D [] W0 W->W.heap[b1]?=some (.cells #[.pointer (some ⟨q,0,none⟩)] 159 (0,0))->W.heap[bk]?=some (.cells #[kv] 74 (0,0))->W.heap[bc]?=some (.cells #[.int .i64 (20000:Int)] 3 (0,0))->W.heap[b2]?=some (.cells #[.func (.func gl) #[] ll] 165 (0,0))->KA W kv (cols.map keyOf)->SG 132 #[.pointer (some ⟨b1,0,none⟩),.pointer (some ⟨bk,0,none⟩),.pointer (some ⟨bc,0,none⟩),.pointer (some ⟨b2,0,none⟩)] ([]:List Rec) (@TFin ⟨⟨d.last,gq d.files⟩⟩ bx bm blk lc mL jL (cols.map keyOf) 20000 (λl=>l=ru)) (@Tt ⟨⟨d.last,gq d.files⟩⟩ bx bm (cols.map keyOf) 20000 (λl=>l=ru)) [] [] [] bm W.heap.size (dI bx bm M) W) :
  SG 149 #[.pointer (some ⟨bq,0,none⟩),.pointer (some ⟨bn,0,none⟩),.pointer (some ⟨br,0,none⟩),.pointer (some ⟨bl,0,none⟩)] ([]:List (List V)) (JFin bx bm blk mL jL outer cols others rc ru rD) (Jt outer cols others rc ru rD) JnT JnK XC bm W0.heap.size D W0:=by
 intro l J hJ hM hY h0;obtain⟨_,⟨co,cn,cc,ecv⟩,⟨oo,on,oc,eov⟩,_⟩:=h.sl;have HBY:Hid (∀W,Touch [] W0 W->Calls prog 142 #[.slice oo on oc] W λe w'=>∃g,e=.returned (.slice (some ⟨g,0,none⟩) others.length others.length)/\Hid (KA w' (.slice (some ⟨g,0,none⟩) others.length others.length) (others.map keyOf))/\Touch [] W w'):=λW hW=>by
  have:=h.sides.few;have h3:=h.sides.ov.touch hW;rw[eov]at h3;exact bU W _ others h3 (by rw[h.sides.len];exact this)
 have Ho:Hid (∀W g k,Calls prog 133 #[.agg #[.int .i64 (blk:Int),.int .i64 (fan:Int),.int .i64 (bud:Int)],.pointer (some ⟨bx,0,none⟩),.slice (some ⟨g,0,none⟩) k k,.int .i64 (20000:Int)] W λe w'=>∃ps bs ph,e=.returned (.pointer (some ⟨ps,0,none⟩))/\Hid (W.heap.size<=ps/\W.heap.size<=bs/\W.heap.size<=ph/\Sr w' ps (SC.new bx blk fan bud 20000 (.slice (some ⟨g,0,none⟩) k k) ph)/\HeadAt w' ph (.slice none 0 0) bs/\w'.heap[bs]?=some (.cells #[.pointer (some ⟨ps,0,none⟩)] 228 (0,0)))/\Touch [] W w'):=λW g k=>by
  refine(sag W bx blk fan bud 20000 _ h.b1 h.bud2 ⟨_,_,_,rfl⟩).mono ?_;rintro e w' ⟨ps,bs,ph,rfl,p1,p2,p3,p4,p5,p6,p7⟩;exact⟨ps,bs,ph,rfl,⟨p1,p2,p3,p4,p5,p6⟩,p7⟩
 have c0:=bg h.hq;have hQ:=h.hQ;have q1:W0.cell? ⟨q,1,none⟩=some (.int .i64 (blk:Int)):=by simp[World.cell?,hQ]
 have q2:W0.cell? ⟨q,2,none⟩=some (.int .i64 (fan:Int)):=by simp[World.cell?,hQ]
 have q3:W0.cell? ⟨q,3,none⟩=some (.int .i64 (bud:Int)):=by simp[World.cell?,hQ]
 have q4:W0.cell? ⟨q,4,none⟩=some (.pointer (some ⟨bx,0,none⟩)):=by simp[World.cell?,hQ]
 have c7:W0.cell? ⟨bn,7,none⟩=some (.slice oo on oc):=by rw[<-eov];exact(box9 h.hn).2.2.2.2.2.2.2.1
 have n1:=(agi.1 h.hq).1;have n2:=(agi.1 h.hn).1;have n5:=(agi.1 hQ).1;clear hQ;refine callsIn_wide.1 (callsIn_of_wp_marks (n:=0) func149 rfl trivial (wpIn_wide.2 ?_));simp only[ntmps149,List.size_toArray,List.length_cons,List.length_nil,Nat.reduceAdd,Nat.reduceSub,P_,Array.replicate_zero,List.push_toArray,List.append_toArray,List.nil_append,List.cons_append];go_wp2;have tA:Touch [] W0 (W0.alloc (.cells #[.func (.yield l) #[] #[]] 206)):=tr_.alloc _;have hyb:=heap_alloc_new W0 (.cells #[.func (.yield l) #[] #[]] 206);have hsa:(W0.alloc (.cells #[.func (.yield l) #[] #[]] 206)).heap.size=W0.heap.size+1:=by simp
 obtain⟨wa,hwa⟩:∃wa,wa=W0.alloc (.cells #[.func (.yield l) #[] #[]] 206):=⟨_,rfl⟩;rw[<-hwa]at tA hyb hsa ⊢;clear hwa;have HK:Hid (∀W,Touch [] wa W->W.cell? ⟨bq,0,none⟩=some (.pointer (some ⟨q,0,none⟩))/\W.cell? ⟨q,1,none⟩=some (.int .i64 (blk:Int))/\W.cell? ⟨q,2,none⟩=some (.int .i64 (fan:Int))/\W.cell? ⟨q,3,none⟩=some (.int .i64 (bud:Int))/\W.cell? ⟨q,4,none⟩=some (.pointer (some ⟨bx,0,none⟩))/\W.cell? ⟨bn,7,none⟩=some (.slice oo on oc)):=λW hW=>by
  have t:=tA.trans hW;exact⟨cO c0 t,cO q1 t,cO q2 t,cO q3 t,cO q4 t,cO c7 t⟩
 obtain⟨k0,k1,k2,k3,k4,k5⟩:=HK.out wa tr_;have HA:Hid (Touch [] W0 wa):=tA;have HYB:Hid (wa.heap[W0.heap.size]?=some (.cells #[.func (.yield l) #[] #[]] 206 (0,0))):=hyb;clear c0 q1 q2 q3 q4 c7 hyb;have m1:wa.heap.size≠bq:=by omega
 have m2:wa.heap.size≠q:=by omega
 have m3:wa.heap.size≠bn:=by omega
 have n1':bq<wa.heap.size:=by omega
 have n2':bn<wa.heap.size:=by omega
 have n5':q<wa.heap.size:=by omega
 have HSA:Hid (wa.heap.size=W0.heap.size+1):=hsa;clear hsa
 go_cut [6] from 7 (λa wx=>∃B ps bs ph g,a=.pointer (some ⟨B,0,none⟩)/\wx.heap[B]?=some (.cells #[.pointer (some ⟨ps,0,none⟩)] 228 (0,0))/\Sr wx ps (SC.new bx blk fan bud 20000 (.slice (some ⟨g,0,none⟩) others.length others.length) ph)/\HeadAt wx ph (.slice none 0 0) bs/\wx.heap[bs]?=some (.cells #[.pointer (some ⟨ps,0,none⟩)] 228 (0,0))/\KA wx (.slice (some ⟨g,0,none⟩) others.length others.length) (others.map keyOf)/\Touch [] wa wx/\wa.heap.size<=B/\wa.heap.size<=ps/\wa.heap.size<=ph)
 case first=>
  clear h hJ hM hY h0 hR hL hop hrl hrr
  go_region_held3 (λw'=>w'.cell? ⟨bq,0,none⟩=some (.pointer (some ⟨q,0,none⟩))/\w'.cell? ⟨q,1,none⟩=some (.int .i64 (blk:Int))/\w'.cell? ⟨q,2,none⟩=some (.int .i64 (fan:Int))/\w'.cell? ⟨q,3,none⟩=some (.int .i64 (bud:Int))/\w'.cell? ⟨q,4,none⟩=some (.pointer (some ⟨bx,0,none⟩))/\w'.cell? ⟨bn,7,none⟩=some (.slice oo on oc)) (go_keep) (first
   | (go_at_call 142;refine(HBY.out _ (HA.out.trans (tr_.drew))).mono ?_;rintro e w1 ⟨g,rfl,hK1,hT1⟩;obtain⟨k0,k1,k2,k3,k4,k5⟩:=HK.out w1 ((tr_.drew).trans hT1);have HT1:Hid (Touch [] wa w1):=(tr_.drew).trans hT1;have s1:=HT1.out.size;have m4:w1.heap.size≠bq:=(by omega);have m5:w1.heap.size≠q:=(by omega);have m6:w1.heap.size≠bn:=(by omega);clear hT1)
   | (go_at_call 142;refine(HBY.out _ (HA.out.trans ((tr_.alloc _).drew))).mono ?_;rintro e w1 ⟨g,rfl,hK1,hT1⟩;obtain⟨k0,k1,k2,k3,k4,k5⟩:=HK.out w1 (((tr_.alloc _).drew).trans hT1);have HT1:Hid (Touch [] wa w1):=((tr_.alloc _).drew).trans hT1;have hbx:w1.heap[wa.heap.size]?=some (.cells #[.pointer none] 228 (0,0)):=(hT1.block wa.heap.size (by simp) (by simp)).trans (heap_alloc_new wa _);have HBX:Hid _:=hbx;clear hT1 hbx)
   | (go_at_call 133;refine(Ho.out _ _ _).mono ?_;rintro e w2 ⟨ps,bs,ph,rfl,hA,hT2⟩;have HT2:Hid (Touch [] wa w2):=HT1.out.trans ((tr_.alloc _).trans hT2);obtain⟨k0,k1,k2,k3,k4,k5⟩:=HK.out w2 HT2.out;have hbx:w2.heap[w1.heap.size]?=some (.cells #[.pointer none] 228 (0,0)):=(hT2.block w1.heap.size (by simp) (by simp)).trans (heap_alloc_new w1 _);have x0:=bg hbx;have z0:w2.frozen? ⟨w1.heap.size,0,none⟩=false:=(by simp[World.frozen?,hbx]);have HBX:Hid _:=hbx;have HKY:Hid _:=(hK1.out.touch (tr_.alloc _)).touch hT2;clear hT2 hbx)
   | (go_at_call 133;refine(Ho.out _ _ _).mono ?_;rintro e w2 ⟨ps,bs,ph,rfl,hA,hT2⟩;have HT2:Hid (Touch [] wa w2):=HT1.out.trans hT2;obtain⟨k0,k1,k2,k3,k4,k5⟩:=HK.out w2 HT2.out;have hbx:=hT2.tu 228 _ _ _ HBX.out;have x0:=bg hbx;have z0:w2.frozen? ⟨wa.heap.size,0,none⟩=false:=(by simp[World.frozen?,hbx]);have HBX2:Hid _:=hbx;have HKY:Hid _:=hK1.out.touch hT2;clear hT2 hbx)
   | (go_at_call 133;refine(Ho.out _ _ _).mono ?_;rintro e w2 ⟨ps,bs,ph,rfl,hA,hT2⟩;have HT2:Hid (Touch [] wa w2):=HT1.out.trans hT2;obtain⟨k0,k1,k2,k3,k4,k5⟩:=HK.out w2 HT2.out;have HKY:Hid _:=hK1.out.touch hT2;clear hT2))
  all_goals
   go_wp2_with fail
   go_meet
   case rel=>
    obtain⟨a1,a2,a3,a4,a5,a6⟩:=hA.out;have s1:=HT1.out.size;have s2:=HT2.out.size
    first
     | exact⟨_,ps,bs,ph,g,rfl,heap_alloc_new w2 _,a4.keep ((tr_.alloc _).tu 260),a5.keep ((tr_.alloc _).tu 302),(tr_.alloc _).tu 228 _ _ _ a6,Sl3.keep HKY.out ((tr_.alloc _).tu 73),HT2.out.alloc _,s2,by omega,by omega⟩
     | (have a1':w1.heap.size+1<=ps:=(by simpa using a1);have a3':w1.heap.size+1<=ph:=(by simpa using a3);obtain⟨z1,z2,z3,z4,z5,z6⟩:=NewSorter.store HT2.out HBX.out s1 a4 a5 a6 HKY.out;exact⟨_,ps,bs,ph,g,rfl,z1,z2,z3,z4,z5,z6,s1,by omega,by omega⟩)
     | (obtain⟨z1,z2,z3,z4,z5,z6⟩:=NewSorter.store HT2.out HBX2.out (e_ _) a4 a5 a6 HKY.out;exact⟨_,ps,bs,ph,g,rfl,z1,z2,z3,z4,z5,z6,e_ _,by omega,by omega⟩)
 case rest=>
  obtain⟨B,ps,bs,ph,g,rfl,hB,hS,hH,hBs,hKy,hT,hBn,hpn,hphn⟩:=hcut;have hTA:=HA.out.trans hT;have c3:wc.cell? ⟨br,1,none⟩=some (.func (.func gr) #[] lr):=cO (by simp[World.cell?,h.hr]) hTA;have c7:=(HK.out wc hT).2.2.2.2.2;have cB:=bg hB;have HWN:Hid (Calls prog 148 #[.func (.func gr) #[] lr,.slice oo on oc] wc λe w'=>∃b1 b2,e=.returned (.func (.func 178) #[] #[.pointer (some ⟨b1,0,none⟩),.pointer (some ⟨b2,0,none⟩)])/\Hid (w'.heap[b1]?=some (.cells #[.func (.func gr) #[] lr] 165 (0,0))/\w'.heap[b2]?=some (.cells #[.slice oo on oc] 37 (0,0)))/\Touch [] wc w'):=by
   refine(wH wc _ _ _ _ _ _).mono ?_;rintro e w' ⟨b1,b2,rfl,p1,p2,_,_,p5⟩;exact⟨b1,b2,rfl,⟨p1,p2⟩,p5⟩
  have HH:Hid (∀(P:Prop),P->P):=λ_ h=>h;clear k0 k1 k2 k3 k4 k5 HBY Ho m1 m2 m3 n1' n2' n5' n1 n2 n5
  go_wp2_with (first|(go_at_call 148;refine HWN.out.mono ?_;rintro e wd ⟨b1,b2,rfl,hbb,hTd⟩))
  obtain⟨p1,p2⟩:=hbb.out;have hTW:=hTA.trans hTd;have hsrc:=hR wd ps bs ph _ b1 b2 (hS.keep (hTd.tu 260)) (hH.keep (hTd.tu 302)) (hTd.tu 228 _ _ _ hBs) (Sl3.keep hKy (hTd.tu 73)) p1 (by rw[eov];exact p2) hTW (by have:=HSA.out;omega) (by have:=HSA.out;omega);have hBd:=hTd.tu 228 _ _ _ hB;have hYd:=(hT.trans hTd).tu 206 _ _ _ HYB.out;have HJ0:=hJ _ _ _ h0 (hTW.g JnT bm W0.heap.size D []);have hsN:=hTW.size;have hps:W0.heap.size<=ps:=by have:=HSA.out;omega
  clear hbb p1 p2 hS hH hBs hKy HWN c3 c7 cB HK HYB hR h0 hT hTd hB hpn hphn;obtain⟨σ,s0,fin,step,mov,Own,Keep,I,S1,S2,S3,S4,S5,S6,S7,S8,S9,S10,S11⟩:=hsrc;refine rG (w:=wd) (gf:=178) (lb:=#[.pointer (some ⟨b1,0,none⟩),.pointer (some ⟨b2,0,none⟩)]) rfl (enters_of func178 (by kernel_rfl) rfl) rfl S1 S2 S3 S4
   (λs W=>I s W/\W.heap[B]?=some (.cells #[.pointer (some ⟨ps,0,none⟩)] 228 (0,0))/\J ([],[]) W/\wd.heap.size<=W.heap.size/\OG JnT bm W0.heap.size D [] wd W)
   ?hI (λs s' A a b=>⟨S6 s s' A a.1 b,a.2⟩) ?hIp S8 ?h0
   (λv=>{ tmps:=#[.func (.yield l) #[] #[],.pointer (some ⟨bq,0,none⟩),.pointer (some ⟨bn,0,none⟩),.pointer (some ⟨br,0,none⟩),.pointer (some ⟨bl,0,none⟩),.pointer (some ⟨W0.heap.size,0,none⟩),.pointer (some ⟨B,0,none⟩),v,u8,u9,u10,u11,u12,u13,u14,u15,u16,u17,u18,u19,u20,u21,.pointer (some ⟨ps,0,none⟩),.pointer (some ⟨br,1,none⟩),.func (.func gr) #[] lr,.pointer (some ⟨bn,7,none⟩),.slice oo on oc,.func (.func 178) #[] #[.pointer (some ⟨b1,0,none⟩),.pointer (some ⟨b2,0,none⟩)],v,u29,u30,u31,u32,u33,u34,u35,u36,u37,u38,u39,u40,u41,u42,u43,u44,u45,u46,u47,u48,u49,u50,u51,u52,u53],defers:=[] }) ?assign ?body ?done
  case hI=>
   rintro s A B' ⟨h1,h2,h3,h4,h5⟩ ho;obtain⟨a1,a2⟩:=S5 s A B' h1 ho;exact⟨a1,a2.tag (by decide) (by decide) (by decide) _ _ _ h2,hJ _ _ _ h3 a2,k_ h4 a2.size,h5.trans a2⟩
  case hIp=>
   rintro s W r r' ⟨h1,h2,h3,h4,h5⟩ hl;have hg:=OG.putObj (T:=JnT) (lo:=bm) (N:=W0.heap.size) (D:=D) (F:=[]) (ob':=.loop r') hl (oL r) (by omega) (by omega);exact⟨S7 s W r r' h1 hl,hg.tag (by decide) (by decide) (by decide) _ _ _ h2,hJ _ _ _ h3 hg,by simpa using h4,h5.trans hg⟩
  case h0=>
   intro rec;have tW:Touch [] wd ((wd.alloc (.deferred (some []))).alloc (.loop rec)):=(tr_.alloc _).alloc _;exact⟨S9 rec,tW.tu 228 _ _ _ hBd,hJ _ _ _ HJ0 (tW.g JnT bm W0.heap.size D []),tW.size,tW.g JnT bm W0.heap.size D []⟩
  case assign=>
   intro v W K hK
   gi_wp2
   exact hK
  case body=>
   rintro s v s' W ⟨h1,h2,h3,h4,h5⟩ hst;obtain⟨⟨vo,vn,vC,rfl⟩,hadd⟩:=S10 s v s' W h1 hst;have cB2:=bg h2
   gi_wp2
   refine⟨trivial,rfl,(CallsIn.inRound _ (callsIn_wide.2 hadd)).mono ?_⟩;rintro e w1 ⟨rfl,p1,p2,p3,p4⟩
   gi_wp2
   exact⟨λk ob e ho _=>p4 k ob e (by rcases ho with⟨r,rfl⟩|⟨ds,rfl⟩;exact oL r;exact oD ds),p2,p1,p3.tag (by decide) (by decide) (by decide) _ _ _ h2,hJ _ _ _ h3 p3,k_ h4 p3.size,h5.trans p3⟩
  case done=>
   rintro s W r r' hfin ⟨h1,h2,h3,h4,h5⟩ hl hk;have hg:=OG.putObj (T:=JnT) (lo:=bm) (N:=W0.heap.size) (D:=D) (F:=[]) (ob':=.loop r') hl (oL r) (by omega) (by omega);have hend:=S11 s W r r' hfin h1 hl;have h2':=hg.tag (by decide) (by decide) (by decide) _ _ _ h2;have hk':(W.putObj (wd.heap.size+1) (.loop r')).heap[wd.heap.size]?=some (.deferred (some [])):=(World.putObj_heap_other (by omega)).trans hk;have h4':=hJ _ _ _ h3 hg;have h5':wd.heap.size<=(W.putObj (wd.heap.size+1) (.loop r')).heap.size:=by simpa using h4
   have h6':=h5.trans hg;generalize W.putObj (wd.heap.size+1) (.loop r')=W2 at *;clear h1 h2 h3 h4 h5 hl hk hg S1 S2 S3 S4 S5 S6 S7 S8 S9 S10 S11 hfin;have cB2:=bg h2';unfold FinOne at hend
   go_wp2_with (first|(go_at_call 150;refine hend.mono ?_;rintro e w3 ⟨XR,lv,rp,sb,sp,out,sc,d,M,pre,rfl,q1,q2⟩;obtain⟨lo,ln,lcap,rfl⟩:=q1.lvS;obtain⟨ra,rfl⟩:=q1.rpS;have HF:Hid _:=q1.first;have HQ1:Hid _:=q1;have HQ2:Hid _:=q2;clear q1 q2))
   refine Calls.mono HF.out ?_;rintro e w4 ⟨rfl,r1,r2⟩;clear HF;obtain⟨r3,r4,r5⟩:=r1.out;have hO34:OG JnT bm W0.heap.size D [] W2 w4:=(HQ2.out.1.mono (by decide) (e_ _)).trans (r2.g JnT bm W0.heap.size D []);have hOd4:=h6'.trans hO34;have hO4:=(hTW.g JnT bm W0.heap.size D []).trans hOd4;have hJ4:=hJ _ _ _ h4' hO34;have hk4:=(r2.o bm W0.heap.size D).2 _ _ (HQ2.out.2 _ _ hk' (oD _)) (oD _);have tg:∀t∈([206,79,167,159,165,3]:List TypeId),KT t wd w4/\KT t W0 w4:=λt ht=>by
    have h1:=(by decide:∀t∈([206,79,167,159,165,3]:List TypeId),t∉OT/\t≠5/\t∉JnT) t ht;exact⟨hOd4.tag h1.1 h1.2.1 h1.2.2,hO4.tag h1.1 h1.2.1 h1.2.2⟩
   have colsB4:∀k∈XC,∃cs f,w4.heap[k]?=some (.cells cs 3 f):=λk hk=>(h.cak k hk).imp λcs h=>h.imp λf h=>(tg 3 (by decide)).2 _ _ _ h;have sides4:Si w4 n cols others la rc:=h.sides.blocks h.inX (λk hk ob e=>by
    obtain⟨cs,f,e1⟩:=h.cak k hk;rw[e]at e1;rw[e1];rw[e1]at e;exact(tg 3 (by decide)).2 _ _ _ e)
   have hw3:wd.heap.size<=w3.heap.size:=k_ h5' HQ2.out.1.size;have hw4:wd.heap.size<=w4.heap.size:=k_ hw3 r2.size;have hlt34:w3.heap.size<w4.heap.size:=by
    obtain⟨m0,e0,_⟩:=r3;exact(agi.1 e0).1
   have HJB:Hid (@JB ⟨⟨d.last,gq d.files⟩⟩ ⟨bn,br,w3.heap.size,W0.heap.size,l,n,cols,others,la,rc,.func (.func gr) #[] lr,ps,sc,pre,XR,XC,bx,bm,blk,d⟩ (out.map Rec.row) w4):=
    by
    letI:Inhabited Ground:=⟨⟨d.last,gq d.files⟩⟩
    exact⟨(tg 79 (by decide)).2 _ _ _ h.hn,(tg 167 (by decide)).2 _ _ _ h.hr,(tg 206 (by decide)).1 _ _ _ hYd,r4,MS.mono r3 (λk hk=>C_ _ hk),colsB4,sides4,h.inX,h.sl⟩
   have HBY:Hid (∀W,Touch [] w4 W->Calls prog 142 #[.slice co cn cc] W λe w'=>∃g,e=.returned (.slice (some ⟨g,0,none⟩) cols.length cols.length)/\Hid (KA w' (.slice (some ⟨g,0,none⟩) cols.length cols.length) (cols.map keyOf))/\Touch [] W w'):=λW hW=>by
    have h3:=sides4.cv.touch hW;rw[ecv]at h3;exact bU W _ cols h3 h.sides.few
   have HK:Hid (∀W,Touch [] w4 W->W.cell? ⟨bq,0,none⟩=some (.pointer (some ⟨q,0,none⟩))/\W.cell? ⟨bl,0,none⟩=some (.func (.func gl) #[] ll)/\W.cell? ⟨bn,6,none⟩=some (.slice co cn cc)):=λW hW=>by
    have c6:=(box9 ((tg 79 (by decide)).2 _ _ _ h.hn)).2.2.2.2.2.2.1;rw[ecv]at c6;exact⟨cO (bg ((tg 159 (by decide)).2 _ _ _ h.hq)) hW,cO (bg ((tg 165 (by decide)).2 _ _ _ h.hl)) hW,cO c6 hW⟩
   have HO4:Hid _:=hO4;have HR5:Hid _:=r5;have HR4:Hid _:=r4;clear hO34 hOd4 hO4 sides4 colsB4 tg r1 r3 r4 r5 h6' h4' hk' h2' cB2 hend HQ2;go_wp2;obtain⟨k0,k1,k2⟩:=HK.out _ tr_
   go_region_held3 (λw'=>w'.cell? ⟨bq,0,none⟩=some (.pointer (some ⟨q,0,none⟩))/\w'.cell? ⟨bl,0,none⟩=some (.func (.func gl) #[] ll)/\w'.cell? ⟨bn,6,none⟩=some (.slice co cn cc)) (go_keep) (first
    | (go_at_call 142;refine(HBY.out _ (tr_.drew)).mono ?_;rintro e w5 ⟨g2,rfl,hK5,hT5⟩;have HT5:Hid (Touch [] w4 w5):=(tr_.drew).trans hT5;obtain⟨k0,k1,k2⟩:=HK.out _ HT5.out;clear hT5)
    | (go_at_call 106;refine(sorted_any w5 q gl ll 20000 (some ⟨g2,0,none⟩) cols.length cols.length).mono ?_;rintro e w6 ⟨b1',bk,bc,b2',rfl,y1,y2,y3,y4,y5⟩;have HT6:Hid (Touch [] w4 w6):=HT5.out.trans y5;obtain⟨k0,k1,k2⟩:=HK.out _ HT6.out;have HY:Hid _:=And.intro y1 (And.intro y2 (And.intro y3 (And.intro y4 (hK5.out.touch y5))));clear y1 y2 y3 y4 y5))
   go_wp2;obtain⟨y1,y2,y3,y4,y5⟩:=HY.out;have hsz6:=HT6.out.size;have hO6:OG JnT bm W0.heap.size D [] W0 w6:=HO4.out.trans (HT6.out.g JnT bm W0.heap.size D []);have hpd6:PD w6 bx bm d M:=HR5.out.away HT6.out (by simp);have hRB:RG (w6.heap.size+2) (dI bx bm M) ps sc pre XR:=(HR4.out.below HR5.out).mono (by omega);have hDL:∀k∈dI bx bm M,W0.heap.size<=k\/k∈D:=λk hk=>(HQ1.out.dsk k hk).1;have tW:∀rec:Loop,Touch [] w6 ((w6.alloc (.deferred (some []))).alloc (.loop rec)):=λrec=>(tr_.alloc _).alloc _;have HSEQ:∀rec:Loop,SG 132 #[.pointer (some ⟨b1',0,none⟩),.pointer (some ⟨bk,0,none⟩),.pointer (some ⟨bc,0,none⟩),.pointer (some ⟨b2',0,none⟩)] ([]:List Rec) (@TFin ⟨⟨d.last,gq d.files⟩⟩ bx bm blk lc mL jL (cols.map keyOf) 20000 (λl=>l=ru)) (@Tt ⟨⟨d.last,gq d.files⟩⟩ bx bm (cols.map keyOf) 20000 (λl=>l=ru)) [] [] [] bm (w6.heap.size+2) (dI bx bm M) ((w6.alloc (.deferred (some []))).alloc (.loop rec)):=λrec=>by
    have h1:=hL _ d M b1' bk bc b2' _ (hpd6.away (tW rec) (by simp)) HQ1.out.runs.ok HQ1.out.runs.block HQ1.out.left (λk hk=>(HQ1.out.dsk k hk).2) (hO6.trans ((tW rec).g JnT bm W0.heap.size D [])) ((tW rec).tu 159 _ _ _ y1) ((tW rec).tu 74 _ _ _ y3) ((tW rec).tu 3 _ _ _ y4) ((tW rec).tu 165 _ _ _ y2) (y5.touch (tW rec));have e:((w6.alloc (.deferred (some []))).alloc (.loop rec)).heap.size=w6.heap.size+2:=by simp
    rw[e]at h1;exact h1
   have hJ6:=hJ _ _ _ hJ4 (HT6.out.g JnT bm W0.heap.size D []);have hk6:=(HT6.out.o bm W0.heap.size D).2 _ _ hk4 (oD _);have HJB6:=@JB.all ⟨⟨d.last,gq d.files⟩⟩ _ _ _ w6 HJB.out (λi cs t f e=>HT6.out.tu t i cs f e);have hXR:∀k∈XR,W0.heap.size<=k\/k∈D:=λk hk=>(HQ1.out.new k hk).1;clear hL HY y1 y2 y3 y4 y5 HBY HK k0 k1 k2 hJ4 hk4 HR5 HO4 r2 hK5 HT5 HT6;refine rG (w:=w6) (gf:=132) (lb:=#[.pointer (some ⟨b1',0,none⟩),.pointer (some ⟨bk,0,none⟩),.pointer (some ⟨bc,0,none⟩),.pointer (some ⟨b2',0,none⟩)]) rfl (enters_of func132 (by kernel_rfl) rfl) rfl HSEQ
    (λs A B k ob ho e hk hle=>ho.others k ob (by omega) e (by rcases hk with⟨r,rfl⟩|⟨ds,rfl⟩;exact oL r;exact oD ds))
    (λ_ _ _ _ h1 h2=>h1.trans h2) (λs W r r' e=>(Guard.putObj (T:=Aa++[]) e (by omega)).g (by simp) _)
    (λs W=>J (ghF ps XR s.1,jA outer cols others rc (out.map Rec.row) (s.2.map Rec.row)) W/\@JB ⟨⟨d.last,gq d.files⟩⟩ ⟨bn,br,w3.heap.size,W0.heap.size,l,n,cols,others,la,rc,.func (.func gr) #[] lr,ps,sc,pre,XR,XC,bx,bm,blk,d⟩ (jr cols others (out.map Rec.row) (s.2.map Rec.row)) W/\w6.heap.size<=W.heap.size/\W.heap[wd.heap.size]?=some (.deferred (some [])))
    ?hI2 ?hIm2 ?hIp2 ?hSp2 ?h02
    (λv=>{ tmps:=#[.func (.yield l) #[] #[],.pointer (some ⟨bq,0,none⟩),.pointer (some ⟨bn,0,none⟩),.pointer (some ⟨br,0,none⟩),.pointer (some ⟨bl,0,none⟩),.pointer (some ⟨W0.heap.size,0,none⟩),.pointer (some ⟨B,0,none⟩),u7,.pointer (some ⟨w3.heap.size,0,none⟩),v,u10,u11,u12,u13,u14,u15,u16,u17,u18,u19,u20,u21,.pointer (some ⟨ps,0,none⟩),.pointer (some ⟨br,1,none⟩),.func (.func gr) #[] lr,.pointer (some ⟨bn,7,none⟩),.slice oo on oc,.func (.func 178) #[] #[.pointer (some ⟨b1,0,none⟩),.pointer (some ⟨b2,0,none⟩)],u28,u29,u30,u31,.pointer (some ⟨ps,0,none⟩),.agg #[.slice lo ln lcap,.pointer ra,.int .i64 0,.string sb,.bool sp],.agg #[.slice lo ln lcap,.pointer ra,.int .i64 0,.string sb,.bool sp,.slice none 0 0,.bool false],.tuple #[],.pointer (some ⟨q,0,none⟩),.func (.func gl) #[] ll,.pointer (some ⟨bn,6,none⟩),.slice co cn cc,.slice (some ⟨g2,0,none⟩) cols.length cols.length,.func (.func 132) #[] #[.pointer (some ⟨b1',0,none⟩),.pointer (some ⟨bk,0,none⟩),.pointer (some ⟨bc,0,none⟩),.pointer (some ⟨b2',0,none⟩)],v,u43,u44,u45,u46,u47,u48,u49,u50,u51,u52,u53],defers:=[] }) ?assign2 ?body2 ?done2
   case hI2=>
    rintro s A B' ⟨h1,h2,h3,h4⟩ ho;exact⟨hJ _ _ _ h1 (ho.up (by simp) (by omega) hDL (ghF_sub ps XR s.1) (ghF_nil ps XR s.1)),@JB.own ⟨⟨d.last,gq d.files⟩⟩ _ _ _ _ _ _ _ _ _ h2 hRB ho (by simp),k_ h3 ho.size,ho.others _ _ (by omega) h4 (oD _)⟩
   case hIm2=>
    rintro⟨F,o⟩ ⟨F',o'⟩ A ⟨h1,h2,h3,h4⟩ ⟨e1,e2,e3,e4,e5⟩;simp only at e1 e2 e3 e4 e5;subst e1 e2 e3;refine⟨hM _ _ _ h1 ⟨rfl,rfl,rfl,?_,λk hk=>?_⟩,h2,h3,h4⟩
    ·simp only[gI e4];simp
    ·simp only[gI e4,d_,a_]at hk;rcases hk with hk|rfl|hk
     ·rcases e5 k hk with h5|h5
      ·exact .inl (by omega)
      ·exact hDL k h5
     ·exact .inl hps
     ·exact hXR k hk
   case hIp2=>
    rintro s W r r' ⟨h1,h2,h3,h4⟩ hl;have hg:=OG.putObj (T:=JnT) (lo:=bm) (N:=W0.heap.size) (D:=D) (F:=ghF ps XR s.1) (ob':=.loop r') hl (oL r) (by omega) (by omega);exact⟨hJ _ _ _ h1 hg,@JB.odd ⟨⟨d.last,gq d.files⟩⟩ _ _ _ _ _ _ h2 hl (oL r),by simpa using h3,(World.putObj_heap_other (by omega)).trans h4⟩
   case hSp2=>
    rintro s v s' W r r' ⟨e0,e1,e2⟩ hl;exact⟨⟨e0.1,λk hk=>by simpa using e0.2 k hk⟩,e1,@Tt.loop ⟨⟨d.last,gq d.files⟩⟩ _ _ _ _ _ _ _ _ _ _ _ _ e2 hl⟩
   case h02=>
    intro rec;exact⟨hJ _ _ _ hJ6 ((tW rec).g JnT bm W0.heap.size D []),@JB.all ⟨⟨d.last,gq d.files⟩⟩ _ _ _ _ HJB6 (λi cs t f e=>(tW rec).tu t i cs f e),(tW rec).size,((tW rec).o bm W0.heap.size D).2 _ _ hk6 (oD _)⟩
   case assign2=>
    intro v W K hK
    gi_wp2
    exact hK
   case body2=>
    rintro⟨F,o⟩ v ⟨F',o'⟩ W ⟨j1,j2,j3,j4⟩ ⟨⟨f1,f2⟩,f3,⟨x,rows',e1,e2,hrow,hfirst⟩,dd,MM,hpd,hok⟩;simp only at j1 j2 f1 f2 f3 e1 e2 hrow hfirst;subst f3 e1 e2;obtain⟨vo,vC,ev⟩:=hrow.shape;subst ev;obtain⟨rest,hperm,_⟩:=hfirst.rest;have hxl:x.row.length=la:=by
     obtain⟨i,hi,e⟩:=r_ (hperm.mem_iff.1 (by simp:x∈o++[x]++rest));rw[e];exact hrl _ (m_ _)
    have hrs:∀ls,∀y∈jr cols others (out.map Rec.row) ls,y.length=rc:=λls y hy=>by
     obtain⟨z,hz,rfl⟩:=z_.1 (jrest_mem hy);obtain⟨i,hi,e⟩:=r_ (HQ1.out.perm.mem_iff.1 hz);rw[e];exact hrr _ (m_ _)
    have hadv:Calls prog 152 #[.pointer (some ⟨w3.heap.size,0,none⟩),.agg #[.int .i64 n.op,.int .i64 n.l,.int .i64 n.r,.string n.tb,n.kv,.int .i64 n.cnt,n.cv,n.ov,n.sv],.slice vo x.row.length vC] W λe w1=>e=.returned (.tuple #[])/\Hid (@JB ⟨⟨d.last,gq d.files⟩⟩ ⟨bn,br,w3.heap.size,W0.heap.size,l,n,cols,others,la,rc,.func (.func gr) #[] lr,ps,sc,pre,XR,XC,bx,bm,blk,d⟩ (jr cols others (out.map Rec.row) ((o++[x]).map Rec.row)) w1/\PD w1 bx bm dd MM/\Ro w1 (.slice vo x.row.length vC) x.row)/\Touch [w3.heap.size] W w1:=by
     refine(@JB.adv ⟨⟨d.last,gq d.files⟩⟩ _ _ _ j2 dd MM hpd hok vo _ vC x.row hrow hxl (hrs _)).mono ?_;rintro e w1 ⟨rfl,g1,g2,g3,g4⟩;rw[w_,List.map_singleton,jrest_snoc];exact⟨rfl,⟨g1,g2,g4⟩,g3⟩
    obtain⟨y0,y1,y2,y3,y4,y5,y6,y7,y8⟩:=box9 (show W.heap[bn]?=some (.cells n.cells 79 (0,0)) from @JB.node ⟨⟨d.last,gq d.files⟩⟩ _ _ _ j2);have hqm:=k_ hsN hw3;have HJ2:Hid _:=j2;have HOK:Hid _:=hok;have HXL:Hid _:=hxl;have HRS:Hid _:=hrs;have HFI:Hid _:=hfirst;clear j2 hpd hok hrow ecv eov hxl hrs hfirst hperm
    gi_wp2
    refine⟨trivial,rfl,(CallsIn.inRound _ (callsIn_wide.2 hadv)).mono ?_⟩;rintro e w7 ⟨rfl,g1,g3⟩;obtain⟨g1,gp,g5⟩:=g1.out;have hbn7:w7.heap[bn]?=some (.cells n.cells 79 (0,0)):=@JB.node ⟨⟨d.last,gq d.files⟩⟩ _ _ _ g1;have hbr7:w7.heap[br]?=some (.cells #[.int .i64 (rc:Int),.func (.func gr) #[] lr] 167 (0,0)):=@JB.right ⟨⟨d.last,gq d.files⟩⟩ _ _ _ g1;have hyl7:w7.heap[W0.heap.size]?=some (.cells #[.func (.yield l) #[] #[]] 206 (0,0)):=@JB.yld ⟨⟨d.last,gq d.files⟩⟩ _ _ _ g1;obtain⟨z0,z1,z2,z3,z4,z5,z6,z7,z8⟩:=box9 hbn7;have zr:w7.cell? ⟨br,0,none⟩=some (.int .i64 (rc:Int)):=by simp[World.cell?,hbr7]
    have zy:=bg hyl7;obtain⟨m',mk1,mk2⟩:=@JB.mark ⟨⟨d.last,gq d.files⟩⟩ _ _ _ g1;obtain⟨a0,a1,a2,a3,a4,a5,a6,af⟩:=boxQ (show MR w7 w3.heap.size m' from mk1);have hjoin:Calls prog 153 #[.agg #[.int .i64 n.op,.int .i64 n.l,.int .i64 n.r,.string n.tb,n.kv,.int .i64 n.cnt,n.cv,n.ov,n.sv],.slice vo x.row.length vC,.agg #[m'.lv,m'.rp,.int .i64 (m'.k:Int),.string m'.s,.bool m'.sp,m'.row,.bool m'.ok],.int .i64 (rc:Int),.func (.yield l) #[] #[]] w7 λe w'=>e=.returned (.bool true)/\Hid (J (ghF ps XR F',jA outer cols others rc (out.map Rec.row) ((o++[x]).map Rec.row)) w'/\@JB ⟨⟨d.last,gq d.files⟩⟩ ⟨bn,br,w3.heap.size,W0.heap.size,l,n,cols,others,la,rc,.func (.func gr) #[] lr,ps,sc,pre,XR,XC,bx,bm,blk,d⟩ (jr cols others (out.map Rec.row) ((o++[x]).map Rec.row)) w'/\KG [] [] W0.heap.size (ghF ps XR F') w7 w'):=by
     have hne:ghF ps XR F'≠[]:=by rw[gI f1];simp
     have h246:∀(A B':World) (k:Nat),Touch [k] A B'->W0.heap.size<=k->(∀ob,A.heap[k]?=some ob->∃cs f,ob=.cells cs 246 f)->OG JnT bm W0.heap.size D (ghF ps XR F') A B':=λA B' k t hk ht=>t.gO (λk' hk'=>by
      rw[ms_ hk'];exact⟨hk,λob e=>.inr (by obtain⟨cs,f,rfl⟩:=ht ob e;exact⟨cs,246,f,rfl,by decide,by decide⟩)⟩) (Z_ hbm) D _
     have hq0:∀ob,W.heap[w3.heap.size]?=some ob->∃cs f,ob=.cells cs 246 f:=λob e=>by
      obtain⟨m0,e0,_⟩:=@JB.mark ⟨⟨d.last,gq d.files⟩⟩ _ _ _ HJ2.out;have e0':W.heap[w3.heap.size]?=some (.cells m0.cells 246 (0,0)):=e0;rw[e]at e0';cases e0';exact⟨_,_,rfl⟩
     have hcase:(n.op≠5/\outer=false)\/(n.op=5/\outer=true/\atB cols others x.row (jr cols others (out.map Rec.row) ((o++[x]).map Rec.row))=false):=by
      rcases hop with h1|⟨h1,h2,h3⟩
      ·exact .inl h1
      ·refine .inr ⟨h1,h2,?_⟩;have hp:=HQ1.out.perm;rw[h3]at hp;have ho:out=[]:=List.perm_nil.1 hp;have hj:jr cols others (out.map Rec.row) ((o++[x]).map Rec.row)=[]:=Q_.2 (λy hy=>by
        have:=jrest_mem hy;rw[ho]at this;simp at this)
       rw[hj];rfl
     have hqp:=HQ1.out.perm;have hqs:=HQ1.out.srt;have hjr:=jall_snoc outer cols others rc (o.map Rec.row) (out.map Rec.row) x.row
     letI:Inhabited Ground:=⟨⟨d.last,gq d.files⟩⟩
     refine(JB.join (p:=⟨bn,br,w3.heap.size,W0.heap.size,l,n,cols,others,la,rc,.func (.func gr) #[] lr,ps,sc,pre,XR,XC,bx,bm,blk,d⟩) (outer:=outer) (K:=JnK) (A:=XC) (gh:=ghF ps XR F') (N:=W0.heap.size) (NL:=W0.heap.size) (given:=jA outer cols others rc (out.map Rec.row) (o.map Rec.row)) (J:=λs W=>J (ghF ps XR F',s) W) g1 mk1 mk2 hcase gp HOK.out g5 HXL.out (HRS.out _) h.la1 h.la2 h.rc1 h.rc2 (by decide) (by rw[gI f1];simp) (λi hi=>by rw[gI f1];simp[hi]) (λi hi=>hi) (e_ _) (by have:=g3.size;omega) (λs A B' k hj t hk ht=>hJ _ _ _ hj (h246 A B' k t hk ht)) (hJ _ _ _ j1 (h246 _ _ _ g3 hqm hq0)) ?_).mono ?_
     ·intro i v W' r hr hj hb hsw hv hrw;refine hY (ghF ps XR F',jA outer cols others rc (out.map Rec.row) (o.map Rec.row)++(jR outer cols others rc x.row (jr cols others (out.map Rec.row) ((o++[x]).map Rec.row))).take i) v (ghF ps XR F',jA outer cols others rc (out.map Rec.row) (o.map Rec.row)++(jR outer cols others rc x.row (jr cols others (out.map Rec.row) ((o++[x]).map Rec.row))).take (i+1)) W' hj ⟨⟨hne,λk hk=>?_⟩,rfl,r,out,o++[x],?_,hrw,⟨hqp,hqs⟩,HFI.out,?_⟩
      ·rw[gI f1]at hk;rcases d_.1 hk with hk|hk
       ·exact s_ (f2 k hk) (k_ g3.size hsw)
       ·rcases a_.1 hk with rfl|hk
        ·exact(agi.1 hb.sorter.sorter).1
        ·obtain⟨_,_,e,_⟩:=hb.sorter.list k hk;exact(agi.1 e).1
      ·obtain⟨hi,e⟩:=l_.1 hr;simp only;rw[F_]
       congr 1
       rw[<-e];exact(take_snoc' _ i hi)
      ·simp only[w_,List.map_singleton]at hjr ⊢;rw[hjr];exact prefix_take _ _ _
     ·rintro e w' ⟨rfl,u1,u2,u3,_⟩;refine⟨rfl,?_,u2,u3⟩;simp only[w_,List.map_singleton]at hjr u1 ⊢;rw[hjr];exact u1
    have HG3:Hid _:=g3;have HMK:Hid _:=mk1;clear g1 gp g5 hbn7 hbr7 hyl7 mk1 mk2 af g3
    gi_wp2
    refine⟨trivial,rfl,(CallsIn.inRound _ (callsIn_wide.2 hjoin)).mono ?_⟩;rintro e w8 ⟨rfl,t1⟩;obtain⟨t1,t2,t3⟩:=t1.out;have hq0:∀ob,W.heap[w3.heap.size]?=some ob->∃cs f,ob=.cells cs 246 f:=λob e=>by
     obtain⟨m0,e0,_⟩:=@JB.mark ⟨⟨d.last,gq d.files⟩⟩ _ _ _ HJ2.out;have e0':W.heap[w3.heap.size]?=some (.cells m0.cells 246 (0,0)):=e0;rw[e]at e0';cases e0';exact⟨_,_,rfl⟩
    have kg:=(keepG_other W0.heap.size (ghF ps XR F') HG3.out hq0).trans t3
    gi_wp2
    simp only[w_,List.map_singleton]at t1 t2;exact⟨λk ob e ho hk=>kg.guard.others k ob (by omega) e (by rcases ho with⟨r,rfl⟩|⟨ds,rfl⟩;exact oL r;exact oD ds),(kg.sub (ghF_sub ps XR F')).mono (by simp) (by simp) (by omega),t1,t2,k_ j3 kg.guard.size,kg.guard.others _ _ hsN j4 (oD _)⟩
   case done2=>
    rintro⟨F,o⟩ W r r' ⟨⟨f1,f2⟩,hfin⟩ ⟨j1,j2,j3,j4⟩ hl2 hk2;simp only at j1 j2 f1 f2 hfin;have hg:=OG.putObj (T:=JnT) (lo:=bm) (N:=W0.heap.size) (D:=D) (F:=ghF ps XR F) (ob':=.loop r') hl2 (oL r) (by omega) (by omega);have j1':=hJ _ _ _ j1 hg;have j2':=@JB.odd ⟨⟨d.last,gq d.files⟩⟩ _ _ _ _ _ (.loop r') j2 hl2 (oL r);have hfin':=@TFin.loop ⟨⟨d.last,gq d.files⟩⟩ _ _ _ _ _ _ _ _ _ _ _ _ _ (.loop r') hfin hl2 (oL r);have hk2':(W.putObj (w6.heap.size+1) (.loop r')).heap[w6.heap.size]?=some (.deferred (some [])):=(World.putObj_heap_other (by omega)).trans hk2;have j4':(W.putObj (w6.heap.size+1) (.loop r')).heap[wd.heap.size]?=some (.deferred (some [])):=(World.putObj_heap_other (by omega)).trans j4;have hW9:W.heap.size<=(W.putObj (w6.heap.size+1) (.loop r')).heap.size:=by simp
    generalize W.putObj (w6.heap.size+1) (.loop r')=W9 at *;clear hg j1 j2 hfin hk2 j4 hl2;have hne:ghF ps XR F≠[]:=by rw[gI f1];simp
    have o1:OG JnT bm W0.heap.size D (ghF ps XR F) W9 (W9.putObj w6.heap.size (.deferred none)):=OG.putObj hk2' (oD _) (by omega) (by omega);have j4'':(W9.putObj w6.heap.size (.deferred none)).heap[wd.heap.size]?=some (.deferred (some [])):=(World.putObj_heap_other (by omega)).trans j4';have o2:OG JnT bm W0.heap.size D (ghF ps XR F) (W9.putObj w6.heap.size (.deferred none)) ((W9.putObj w6.heap.size (.deferred none)).putObj wd.heap.size (.deferred none)):=OG.putObj j4'' (oD _) hsN (by omega);have j1'':=hJ _ _ _ (hJ _ _ _ j1' o1) o2;have j2'':=@JB.odd ⟨⟨d.last,gq d.files⟩⟩ _ _ _ _ _ (.deferred none) (@JB.odd ⟨⟨d.last,gq d.files⟩⟩ _ _ _ _ _ (.deferred none) j2' hk2' (oD _)) j4'' (oD _);have hR2:Ri ((W9.putObj w6.heap.size (.deferred none)).putObj wd.heap.size (.deferred none)) ps sc bx blk pre XR:=@JB.sorter ⟨⟨d.last,gq d.files⟩⟩ _ _ _ j2'';obtain⟨⟨rows',e2,hfi,hso⟩,d',M',z1,z2,z3⟩:=@TFin.loop ⟨⟨d.last,gq d.files⟩⟩ _ _ _ _ _ _ _ _ _ _ _ _ _ (.deferred none) (@TFin.loop ⟨⟨d.last,gq d.files⟩⟩ _ _ _ _ _ _ _ _ _ _ _ _ _ (.deferred none) hfin' hk2' (oD _)) j4'' (oD _);subst e2;have hSE:=HQ1.out.close hR2 z1 z2 z3;have hF3:∀k∈ghF ps XR F,k<((W9.putObj w6.heap.size (.deferred none)).putObj wd.heap.size (.deferred none)).heap.size:=λk hk=>by
     rw[gI f1]at hk;rcases d_.1 hk with hk|hk
     ·have:=f2 k hk;simp;omega
     ·rcases a_.1 hk with rfl|hk
      ·exact(agi.1 hR2.sorter).1
      ·obtain⟨_,_,e,_⟩:=hR2.list k hk;exact(agi.1 e).1
    have HQP:Hid (JR (others.map keyOf) rD out):=⟨HQ1.out.perm,HQ1.out.srt⟩;clear o1 o2 j1' j2' j2'' hfin' hR2 z1 z2 z3 HQ1;go_wp2;refine⟨by simp,.inl ⟨_,_,rfl,run_takeDeferred hk2',?_⟩⟩;refine⟨by simp,.inl ⟨_,_,rfl,run_takeDeferred j4'',?_⟩⟩
    letI:Inhabited Range:=⟨⟨W0.heap.size,D⟩⟩
    have hcl:=caw _ ps bx bm blk rc mL jL (0-1) .returning hSE;refine⟨by simp,.inr ⟨by simp[Fence.wide],_,_,134,#[.pointer (some ⟨ps,0,none⟩)],rfl,by simp[invoke,go_sem],λ_ _=>trivial,hcl.mono ?_⟩⟩;rintro e u' w10 ⟨rfl,rfl,hC⟩;obtain⟨d2,M2,y1,y2,_⟩:=hC.st;exact⟨_,results_none rfl _ _ _,⟨_,rfl⟩,(ghF ps XR F,jA outer cols others rc (out.map Rec.row) (o.map Rec.row)),⟨⟨hne,λk hk=>s_ (hF3 k hk) hC.step.step.size⟩,⟨out,o,HQP.out,hfi,hso,rfl⟩,d2,M2,y1,y2⟩,hJ _ _ _ j1'' (OM.g (hC.step.mono (by simp)) hne JnT)⟩
structure JM (w:World)(q:Nat)(n:ND)(gl:Nat)(ll:Array Value)(rc gr:Nat)(lr:Array Value)(bq bn br bl:Nat):Prop where
 hq:w.heap[bq]?=some (.cells #[.pointer (some ⟨q,0,none⟩)] 159 (0,0))
 hn:w.heap[bn]?=some (.cells n.cells 79 (0,0))
 hr:w.heap[br]?=some (.cells #[.int .i64 (rc:Int),.func (.func gr) #[] lr] 167 (0,0))
 hl:w.heap[bl]?=some (.cells #[.func (.func gl) #[] ll] 165 (0,0))
theorem JM.quiet {n:ND}(h:JM w q n gl ll rc gr lr bq bn br bl)(t:Touch [] w W):JM W q n gl ll rc gr lr bq bn br bl:=
 ⟨t.tu _ _ _ _ h.hq,t.tu _ _ _ _ h.hn,t.tu _ _ _ _ h.hr,t.tu _ _ _ _ h.hl⟩
theorem fresh4 (w:World)(a b c d:Obj):((((w.alloc a).alloc b).alloc c).alloc d).heap[w.heap.size]?=some a/\((((w.alloc a).alloc b).alloc c).alloc d).heap[w.heap.size+1]?=some b/\((((w.alloc a).alloc b).alloc c).alloc d).heap[w.heap.size+2]?=some c/\((((w.alloc a).alloc b).alloc c).alloc d).heap[w.heap.size+3]?=some d:=by
 have e0:=heap_alloc_new w a;have e1:=heap_alloc_new (w.alloc a) b;have e2:=heap_alloc_new ((w.alloc a).alloc b) c;have e3:=heap_alloc_new (((w.alloc a).alloc b).alloc c) d;simp only[World.size_alloc]at e1 e2 e3;have k:∀(W:World) (o:Obj) (i:Nat) (x:Obj),W.heap[i]?=some x->(W.alloc o).heap[i]?=some x:=λW o i x e=>(Below.heap_alloc _ _ _ (agi.1 e).1).trans e;exact⟨k _ _ _ _ (k _ _ _ _ (k _ _ _ _ e0)),k _ _ _ _ (k _ _ _ _ e1),k _ _ _ _ e2,e3⟩
theorem outer_any (w:World)(q:Nat)(n:ND)(gl:Nat)(ll:Array Value)(rc gr:Nat)(lr:Array Value)(hop:n.op=5)(hS:n.Slices) :
  Calls prog 110 #[.pointer (some ⟨q,0,none⟩),.agg n.cells,.func (.func gl) #[] ll,.agg #[.int .i64 (rc:Int),.func (.func gr) #[] lr]] w λe w'=>∃bq bn br bl,e=.returned (.func (.func 149) #[] #[.pointer (some ⟨bq,0,none⟩),.pointer (some ⟨bn,0,none⟩),.pointer (some ⟨br,0,none⟩),.pointer (some ⟨bl,0,none⟩)])/\JM w' q n gl ll rc gr lr bq bn br bl/\Touch [] w w':=by
 have hmf:∀(fn:Fn) (first cap:Array Value) (w:World),(Instr.makeFunc fn first cap).run prog w=.ok (.func fn first cap) w:=λ_ _ _ _=>rfl;obtain⟨op,nl,nr,tb,kv,cnt,cv,ov,sv⟩:=n;obtain⟨⟨k1,k2,k3,rfl⟩,⟨k4,k5,k6,rfl⟩,⟨k7,k8,k9,rfl⟩,⟨k10,k11,k12,rfl⟩⟩:=hS;simp only at hop;subst hop;unfold ND.cells;go_enter func110,ntmps110;go_wp2;go_ret;obtain⟨e0,e1,e2,e3⟩:=fresh4 w (.cells #[.pointer (some ⟨q,0,none⟩)] 159) (.cells #[.int .i64 5,.int .i64 nl,.int .i64 nr,.string tb,.slice k1 k2 k3,.int .i64 cnt,.slice k4 k5 k6,.slice k7 k8 k9,.slice k10 k11 k12] 79) (.cells #[.func (.func gl) #[] ll] 165) (.cells #[.int .i64 (rc:Int),.func (.func gr) #[] lr] 167);exact⟨_,_,_,_,rfl,⟨e0,e1,e3,e2⟩,(((tr_.alloc _).alloc _).alloc _).alloc _⟩
theorem inner_any (w:World)(q:Nat)(n:ND)(gl:Nat)(ll:Array Value)(rc gr:Nat)(lr:Array Value)(hop:n.op=4)(hS:n.Slices) :
  Calls prog 110 #[.pointer (some ⟨q,0,none⟩),.agg n.cells,.func (.func gl) #[] ll,.agg #[.int .i64 (rc:Int),.func (.func gr) #[] lr]] w λe w'=>∃bq bn br bl b1 b2,e=.returned (.func (.func 149) #[] #[.pointer (some ⟨bq,0,none⟩),.pointer (some ⟨bn,0,none⟩),.pointer (some ⟨br,0,none⟩),.pointer (some ⟨bl,0,none⟩)])/\JM w' q n 178 #[.pointer (some ⟨b1,0,none⟩),.pointer (some ⟨b2,0,none⟩)] rc gr lr bq bn br bl/\w'.heap[b1]?=some (.cells #[.func (.func gl) #[] ll] 165 (0,0))/\w'.heap[b2]?=some (.cells #[n.cv] 37 (0,0))/\Touch [] w w':=by
 obtain⟨op,nl,nr,tb,kv,cnt,cv,ov,sv⟩:=n;obtain⟨⟨k1,k2,k3,rfl⟩,⟨k4,k5,k6,rfl⟩,⟨k7,k8,k9,rfl⟩,⟨k10,k11,k12,rfl⟩⟩:=hS;simp only at hop;subst hop;unfold ND.cells;go_enter func110,ntmps110
 go_wp2_with fail
 obtain⟨e0,e1,e2,e3⟩:=fresh4 w (.cells #[.pointer (some ⟨q,0,none⟩)] 159) (.cells #[.int .i64 4,.int .i64 nl,.int .i64 nr,.string tb,.slice k1 k2 k3,.int .i64 cnt,.slice k4 k5 k6,.slice k7 k8 k9,.slice k10 k11 k12] 79) (.cells #[.func (.func gl) #[] ll] 165) (.cells #[.int .i64 (rc:Int),.func (.func gr) #[] lr] 167);have t0:Touch [] w ((((w.alloc (.cells #[.pointer (some ⟨q,0,none⟩)] 159)).alloc (.cells #[.int .i64 4,.int .i64 nl,.int .i64 nr,.string tb,.slice k1 k2 k3,.int .i64 cnt,.slice k4 k5 k6,.slice k7 k8 k9,.slice k10 k11 k12] 79)).alloc (.cells #[.func (.func gl) #[] ll] 165)).alloc (.cells #[.int .i64 (rc:Int),.func (.func gr) #[] lr] 167)):=(((tr_.alloc _).alloc _).alloc _).alloc _;generalize (((w.alloc (.cells #[.pointer (some ⟨q,0,none⟩)] 159)).alloc (.cells #[.int .i64 4,.int .i64 nl,.int .i64 nr,.string tb,.slice k1 k2 k3,.int .i64 cnt,.slice k4 k5 k6,.slice k7 k8 k9,.slice k10 k11 k12] 79)).alloc (.cells #[.func (.func gl) #[] ll] 165)).alloc (.cells #[.int .i64 (rc:Int),.func (.func gr) #[] lr] 167)=wa at *;refine(wH wa _ _ _ _ _ _).mono ?_;rintro e w1 ⟨b1,b2,rfl,p1,p2,p3,p4,p5⟩;have g2:=p5.tu _ _ _ _ e2;have c2:=bg g2;have f2:w1.frozen? ⟨w.heap.size+2,0,none⟩=false:=by simp[World.frozen?,g2]
 have hne:b1≠w.heap.size+2:=by have:=(agi.1 e2).1;omega
 have H:Hid _:=And.intro p1 (And.intro p2 (And.intro g2 (And.intro p5 hne)));clear p1 p2 p3 p4 p5 g2 hne;have hmf:∀(fn:Fn) (first cap:Array Value) (w:World),(Instr.makeFunc fn first cap).run prog w=.ok (.func fn first cap) w:=λ_ _ _ _=>rfl;go_wp2;go_ret;obtain⟨p1,p2,g2,p5,hne⟩:=H.out;have t5:Touch [w.heap.size+2] w1 (w1.setCell ⟨w.heap.size+2,0,none⟩ (.func (.func 178) #[] #[.pointer (some ⟨b1,0,none⟩),.pointer (some ⟨b2,0,none⟩)])):=(Touch.refl [w.heap.size+2] w1).setCell (p:=⟨w.heap.size+2,0,none⟩) (by simp) _;have n5:∀t,(165:TypeId)≠t->KT t w1 _:=λt ht=>t5.tag (nO g2 ht);refine⟨_,_,_,_,b1,b2,rfl,⟨n5 159 (by decide) _ _ _ (p5.tu _ _ _ _ e0),n5 79 (by decide) _ _ _ (p5.tu _ _ _ _ e1),n5 167 (by decide) _ _ _ (p5.tu _ _ _ _ e3),?_⟩,t5.u.keep p1 (by decide) (by simpa using hne),n5 37 (by decide) _ _ _ p2,(t0.trans p5).more t5 (λi hi=>.inr (by rw[ms_ hi];omega))⟩;rw[heap_setCell_same w1 (w.heap.size+2) 0 _ 165 _ g2];simp
end Go.Proofs.YtjoinhljdbljaaaGreat
namespace Go.Proofs.YtjoinhljdbljaaaGreat
open Go.RowKit
variable [Inhabited Ground]
variable {B N P1 P2 b b1 b2 bL bR bl blk bm bn bq br bs bud bx gr j j1 j2 j3 k l lo m ph ps q rc:Nat} {D XC:List Nat} {M:List PF} {P P' rD ru:List (List V)} {W W' w wc:World} {cols nc others:List Int} {cv kv sv tv v wv:Value} {d:DS} {ks:List K} {n:ND} {outer:Bool} {vs:List Value}
theorem aT {fan count cols mm:Nat}{rows:List (List V)}(p4:Sr w ps (SC.new bx blk fan bud count kv ph))(p5:HeadAt w ph (.slice none 0 0) bs)(p6:w.heap[bs]?=some (.cells #[.pointer (some ⟨ps,0,none⟩)] 228 (0,0)))(keys:KA w kv ks)(pd:PD w bx bm d M)(ok:Di d)(b1:16<=blk)(b2:blk<=4096)(b3:(blk:Int)<=d.block)(c2:cols<=1000)(hi:Hi bm (dI bx bm M))(hD:∀k∈dI bx bm M,N<=k\/k∈D)(hps:N<=ps)(hph:N<=ph)(hbm:bm<=N)(hl:Left d (2*rows.length+mm) (rows.length+j)):Ad N D w ps bs bx bm blk count (min fan (bud/2/blk)) (bud/2) cols mm j ks rows 0:=by
 have hS:=spSt_new (cols:=cols) p4 p5 p6 tr_ keys pd ok b1 b2 b3 c2 ⟨0,[]⟩;have hcase:∀k∈sbF ps (SC.new bx blk fan bud count kv ph) (.slice none 0 0) bm M ([]++(none:Option RI).toList),N<=k\/k∈dI bx bm M:=λk hk=>by
  simp only[sbF,h_,rF,SC.new,Value.ownBlock,Option.toList_none,H_,List.map_nil,List.nil_append,a_,d_,i_,or_false]at hk;rcases hk with rfl|rfl|hk
  ·exact .inl hps
  ·exact .inl hph
  ·exact .inr hk
 exact⟨SC.new bx blk fan bud count kv ph,_,[],d,M,[],none,_,by simpa using hS,λk hk=>(hcase k hk).elim (λe=>by omega) (hi k),λk hk=>(hcase k hk).elim .inl (hD k),rfl,⟨rfl,rfl,rfl,rfl,rfl,rfl,rfl⟩,by simpa using hl⟩
structure TB (W:World)(b:Nat)(sv:Value)(vs:List Value)(rows:List (List V)):Prop where
 hb:W.heap[b]?=some (.cells #[sv] 36 (0,0))
 list:LAt W sv vs
 len:vs.length=rows.length
 rW:∀i (_:i<vs.length) (_:i<rows.length),Ro W vs[i] rows[i]
theorem TB.quiet {rows:List (List V)}(h:TB W b sv vs rows)(t:Touch [] W W'):TB W' b sv vs rows:=
 ⟨t.tu _ _ _ _ h.hb,h.list.keep (t.tu 83),h.len,λi a b=>(h.rW i a b).touch t⟩
def ListOff (N:Nat)(D:List Nat)(sv:Value)(vs:List Value):Prop:=vs=[]\/∀g off n c,sv=.slice (some ⟨g,off,none⟩) n c->g<N/\g∉D
theorem TB.own {T:List TypeId}{rows:List (List V)}(h:TB W b sv vs rows)(o:OG T lo N D [] W W')(hT:∀t∈([36,85]:List TypeId),t∉T)(hoff:ListOff N D sv vs):TB W' b sv vs rows:=by
 refine⟨o.tag (by decide) (by decide) (hT 36 (by decide)) _ _ _ h.hb,?_,h.len,λi a b=>Sl3.keep (h.rW i a b) (o.tag (by decide) (by decide) (hT 85 (by decide)))⟩;obtain⟨op,cap,e,hx⟩:=h.list;refine⟨op,cap,e,?_⟩;rcases hx with hx|⟨g,off,cs,rfl,h1,h2⟩
 ·exact .inl hx
 ·rcases hoff with hoff|hoff
  ·exact .inl hoff
  ·obtain⟨a1,a2⟩:=hoff g off _ cap e;exact .inr ⟨g,off,cs,rfl,o.spec 83 (by decide) g cs _ (.inl ⟨rfl,a1,a2⟩) h1,h2⟩
theorem TB.off {w W:World}{b bx bm:Nat}{sv:Value}{vs:List Value}{rows:List (List V)}{d:DS}{M:List PF}(h:TB w b sv vs rows)(hp:PD w bx bm d M)(t:Touch [] w W):ListOff W.heap.size (dI bx bm M) sv vs:=by
 obtain⟨op,cap,e,hx⟩:=h.list;rcases hx with hx|⟨g,off,cs,rfl,h1,h2⟩
 ·exact .inl hx
 ·refine .inr (λg' off' n c e'=>?_);rw[e]at e';cases e';exact⟨s_ (agi.1 h1).1 t.size,(hp.nT (by decide) (by decide)).not_mem h1⟩
structure SL (blk fan bud cols:Nat)(ks:List K)(rows:List (List V)):Prop where
 oks:Rf blk cols ks rows
 b1:16<=blk
 b2:blk<=4096
 c1:1<=cols
 c2:cols<=1000
 bud1:4*blk<=bud
 bud2:bud<=9223372036854775807
 fan1:2<=fan
 fan2:fan<=1000000
 few:rows.length<=20000
theorem SL.fan {blk fan bud cols:Nat}{ks:List K}{rows:List (List V)}(h:SL blk fan bud cols ks rows):2<=min fan (bud/2/blk)/\min fan (bud/2/blk)<=1000000/\blk<=bud/2:=by
 have e1:=h.fan1;have e2:=h.fan2;have e3:=h.bud1;have e4:=h.b1;have e5:2<=bud/2/blk:=(Nat.le_div_iff_mul_le (by omega)).2 (by omega);omega
theorem nn_one {rows:List (List V)}{fan cols P:Nat}
  (p4:Sr wc ps (SC.new bx blk fan bud 20000 kv ph)) (p5:HeadAt wc ph (.slice none 0 0) bs) (p6:wc.heap[bs]?=some (.cells #[.pointer (some ⟨ps,0,none⟩)] 228 (0,0))) (keys:KA wc kv ks) (h1:wc.heap[b1]?=some (.cells #[.func (.func 162) #[] #[.pointer (some ⟨b,0,none⟩)]] 165 (0,0))) (h2:wc.heap[b2]?=some (.cells #[cv] 37 (0,0))) (hps:N<=ps) (hph:N<=ph) (hN:N<=wc.heap.size) (hbm:bm<=N)
  (tab:TB wc b sv vs rows) (num:SL blk fan bud cols ks rows) (pd:PD wc bx bm d M) (ok:Di d) (b3:(blk:Int)<=d.block) (hi:Hi bm (dI bx bm M)) (hD:∀k∈dI bx bm M,N<=k\/k∈D) (hl:Left d (2*rows.length+((P*(rows.length+1)+m)+1)) (rows.length+j))
  (hnn:nN nc rows=rows) (raw:Rt wc cv nc) (hin:∀c∈nc,0<=c/\c<(cols:Int)) (hrl:∀r∈rows,r.length=cols) (hfew:nc.length<=1000) (hX:∀b off n c,cv=.slice (some ⟨b,off,none⟩) n c->b∈XC) (hX3:∀k∈XC,∃cs f,wc.heap[k]?=some (.cells cs 3 f))
  (hP:1000000000<=P+j) (hPj:P+j2<=j) (hPs:P<=900000) (T:List TypeId) :
  Src T bm N D wc 178 #[.pointer (some ⟨b1,0,none⟩),.pointer (some ⟨b2,0,none⟩)] ps (FinOne N D ps bx bm blk cols m j2 ks rows):=by
 have hA:=aT (N:=N) (D:=D) (rows:=rows) p4 p5 p6 keys pd ok num.b1 num.b2 b3 num.c2 hi hD hps hph hbm hl;obtain⟨f1,f2,f3⟩:=num.fan;have hfw:=num.few;have hlen:=tab.len;refine nn_src T _ (by rw[hnn];exact hA) h1 h2 tab.hb tab.list (by omega) hlen tab.rW raw hin hrl hfew hX hX3 (by rw[hnn];exact num.oks) (by rw[hnn];omega) f3 hN (k_ hbm hN) (λW hW hNW=>?_);rw[hnn]at hW;exact addSt_one hW num.oks hP hPj hPs f1 f2 num.c1 hNW (by omega)
theorem nn_end {rows:List (List V)}{fan cols P:Nat}
  (p4:Sr wc ps (SC.new bx blk fan bud 20000 kv ph)) (p5:HeadAt wc ph (.slice none 0 0) bs) (p6:wc.heap[bs]?=some (.cells #[.pointer (some ⟨ps,0,none⟩)] 228 (0,0))) (keys:KA wc kv ks) (h1:wc.heap[b1]?=some (.cells #[.func (.func 162) #[] #[.pointer (some ⟨b,0,none⟩)]] 165 (0,0))) (h2:wc.heap[b2]?=some (.cells #[cv] 37 (0,0))) (hps:N<=ps) (hph:N<=ph) (hN:N<=wc.heap.size) (hbm:bm<=N)
  (tab:TB wc b sv vs rows) (num:SL blk fan bud cols ks rows) (pd:PD wc bx bm d M) (ok:Di d) (b3:(blk:Int)<=d.block) (hi:Hi bm (dI bx bm M)) (hD:∀k∈dI bx bm M,N<=k\/k∈D) (hl:Left d (2*rows.length+((P*(rows.length+1)+m)+1)) (rows.length+j))
  (hnn:nN nc rows=rows) (raw:Rt wc cv nc) (hin:∀c∈nc,0<=c/\c<(cols:Int)) (hrl:∀r∈rows,r.length=cols) (hfew:nc.length<=1000) (hX:∀b off n c,cv=.slice (some ⟨b,off,none⟩) n c->b∈XC) (hX3:∀k∈XC,∃cs f,wc.heap[k]?=some (.cells cs 3 f))
  (hP:1000000000<=P+j) (hPj:P+j2<=j) (hPs:P<=900000) (T:List TypeId) :
  Src T bm N D wc 178 #[.pointer (some ⟨b1,0,none⟩),.pointer (some ⟨b2,0,none⟩)] ps (FI N D ps bx bm blk 20000 cols m j2 ks (λl=>l=rows)):=by
 have hA:=aT (N:=N) (D:=D) (rows:=rows) p4 p5 p6 keys pd ok num.b1 num.b2 b3 num.c2 hi hD hps hph hbm hl;obtain⟨f1,f2,f3⟩:=num.fan;have hfw:=num.few;have hlen:=tab.len;refine nn_src T _ (by rw[hnn];exact hA) h1 h2 tab.hb tab.list (by omega) hlen tab.rW raw hin hrl hfew hX hX3 (by rw[hnn];exact num.oks) (by rw[hnn];omega) f3 hN (k_ hbm hN) (λW hW hNW=>?_);rw[hnn]at hW;exact⟨rows,rfl,by omega,addSt_end hW num.oks hP hPj hPs f1 f2 num.c1 hNW⟩
open Go.Proofs.Tryz
structure JCtx (w:World)(q:Nat)(tv wv sv:Value)(n:ND)(vs:List Value)(rows:List (List V))(cols others:List Int)(rc bx bm blk fan bud:Nat)(XC:List Nat)(d:DS)(M:List PF):Prop where
 hQ:w.heap[q]?=some (.cells #[tv,.int .i64 (blk:Int),.int .i64 (fan:Int),.int .i64 (bud:Int),.pointer (some ⟨bx,0,none⟩),wv] 162 (0,0))
 sides:Si w n cols others rc rc
 inX:InX XC n
 cak:∀k∈XC,∃cs f,w.heap[k]?=some (.cells cs 3 f)
 sl:n.Slices
 nU:SL blk fan bud rc (cols.map keyOf) rows
 pd:PD w bx bm d M
 ok:Di d
 b3:(blk:Int)<=d.block
 hi:Hi bm (dI bx bm M)
 rl:∀r∈rows,r.length=rc
theorem JCtx.quiet {rows:List (List V)}{fan:Nat}(h:JCtx w q tv wv sv n vs rows cols others rc bx bm blk fan bud XC d M)(t:Touch [] w W):JCtx W q tv wv sv n vs rows cols others rc bx bm blk fan bud XC d M:=
 { h with hQ:=t.tu _ _ _ _ h.hQ,sides:=h.sides.touch t,cak:=λk hk=>(h.cak k hk).imp λ_ h=>h.imp λ_ h=>t.tu _ _ _ _ h,pd:=h.pd.away t (by simp) }
structure SelfJ (w:World)(q bq bn br bl b1 b2 bL bR:Nat)(tv wv sv:Value)(n:ND)(vs:List Value)(rows:List (List V))(cols others:List Int)(rc bx bm blk fan bud:Nat)(XC:List Nat)(d:DS)(M:List PF):Prop where
 ctx:JCtx w q tv wv sv n vs rows cols others rc bx bm blk fan bud XC d M
 made:JM w q n 178 #[.pointer (some ⟨b1,0,none⟩),.pointer (some ⟨b2,0,none⟩)] rc 162 #[.pointer (some ⟨bR,0,none⟩)] bq bn br bl
 h1:w.heap[b1]?=some (.cells #[.func (.func 162) #[] #[.pointer (some ⟨bL,0,none⟩)]] 165 (0,0))
 h2:w.heap[b2]?=some (.cells #[n.cv] 37 (0,0))
 tabL:TB w bL sv vs rows
 tabR:TB w bR sv vs rows
 numR:SL blk fan bud rc (others.map keyOf) rows
 nnL:nN cols rows=rows
 nnR:nN others rows=rows
 op:n.op=4
theorem SelfJ.quiet {w W:World}{q bq bn br bl b1 b2 bL bR:Nat}{tv wv sv:Value}{n:ND}{vs:List Value}{rows:List (List V)}{cols others:List Int}{rc bx bm blk fan bud:Nat}{XC:List Nat}{d:DS}{M:List PF}(h:SelfJ w q bq bn br bl b1 b2 bL bR tv wv sv n vs rows cols others rc bx bm blk fan bud XC d M)(t:Touch [] w W):SelfJ W q bq bn br bl b1 b2 bL bR tv wv sv n vs rows cols others rc bx bm blk fan bud XC d M:=
 { h with ctx:=h.ctx.quiet t,made:=h.made.quiet t,h1:=t.tu _ _ _ _ h.h1,h2:=t.tu _ _ _ _ h.h2,tabL:=h.tabL.quiet t,tabR:=h.tabR.quiet t }
theorem self_seq {rows:List (List V)}{fan:Nat}(h:SelfJ w q bq bn br bl b1 b2 bL bR tv wv sv n vs rows cols others rc bx bm blk fan bud XC d M)
  (hl:Left d (2*rows.length+((P1*(rows.length+1)+(2*rows.length+((P2*(rows.length+1)+m)+1)))+1)) (rows.length+j1)) (hP1:1000000000<=P1+j1) (hPj1:P1+(rows.length+j2)<=j1) (hPs1:P1<=900000) (hP2:1000000000<=P2+j2) (hPj2:P2+j3<=j2) (hPs2:P2<=900000) :
  SG 149 #[.pointer (some ⟨bq,0,none⟩),.pointer (some ⟨bn,0,none⟩),.pointer (some ⟨br,0,none⟩),.pointer (some ⟨bl,0,none⟩)] ([]:List (List V)) (JFin bx bm blk m j3 false cols others rc rows rows) (Jt false cols others rc rows rows) JnT JnK XC bm w.heap.size (dI bx bm M) w:=by
 have hbm:bm<w.heap.size:=h.ctx.pd.lt bm (by simp);have c:=h.ctx;refine joined_seq w bq bn br bl q tv wv n 162 178 _ _ cols others rc rc bx bm blk fan bud XC (dI bx bm M) false rows rows (2*rows.length+((P2*(rows.length+1)+m)+1)) (rows.length+j2) rc m j3 ⟨h.made.hq,c.hQ,h.made.hn,h.made.hr,h.made.hl,c.sides,c.inX,c.cak,c.sl,by have:=c.nU.b1;omega,c.nU.bud2,c.nU.c1,c.nU.c2,c.nU.c1,c.nU.c2⟩ hbm (.inl ⟨by rw[h.op];decide,rfl⟩) c.rl c.rl ?_ ?_
 ·intro wc ps bs ph kv c1 c2 p4 p5 p6 keys e1 e2 t s1 s2;have hq:=h.quiet t;exact nn_one p4 p5 p6 keys e1 e2 s1 s2 t.size (Z_ hbm) hq.tabR hq.numR hq.ctx.pd hq.ctx.ok hq.ctx.b3 hq.ctx.hi (λk hk=>.inr hk) hl hq.nnR hq.ctx.sides.ov hq.ctx.sides.rin hq.ctx.rl (by rw[hq.ctx.sides.len];exact hq.ctx.sides.few) (λb off k c e=>hq.ctx.inX _ (.inr rfl) b off k c e) hq.ctx.cak hP1 hPj1 hPs1 JnT
 ·intro W d' M' c1 bk bc c2 kv pd' ok' blk' left' hi' ho e1 ek ec e2 keys';have oks:=ok'.self;have hsz:=ho.size;have tb:=h.tabL.own ho (by decide) (h.tabL.off c.pd tr_);have tg:∀t∈([162,165,37,3]:List TypeId),KT t w W:=λt ht=>by
   have h1:=(by decide:∀t∈([162,165,37,3]:List TypeId),t∉OT/\t≠5/\t∉JnT) t ht;exact ho.tag h1.1 h1.2.1 h1.2.2
  have cak:∀k∈XC,∃cs f,W.heap[k]?=some (.cells cs 3 f):=λk hk=>(c.cak k hk).imp λcs h=>h.imp λf h=>tg 3 (by decide) _ _ _ h;have sides:Si W n cols others rc rc:=c.sides.blocks c.inX (λk hk ob e=>by
   obtain⟨cs,f,e1⟩:=c.cak k hk;rw[e]at e1;rw[e1];rw[e1]at e;exact tg 3 (by decide) _ _ _ e)
  have hnn:=h.nnL;have num:=c.nU;have hQ:=tg 162 (by decide) _ _ _ c.hQ;have g1:=tg 165 (by decide) _ _ _ h.h1;have g2:=tg 37 (by decide) _ _ _ h.h2;have rl:=c.rl;have inX:=c.inX;clear h c ho
  letI:Inhabited Ground:=⟨⟨d'.last,gq d'.files⟩⟩
  refine sab [] W c1 bk bc c2 q tv wv kv 178 _ bx bm blk fan bud 20000 rc (cols.map keyOf) (λl=>l=rows) (dI bx bm M') m j3 ⟨e1,hQ,ek,keys'.slice,ec,e2,by have:=num.b1;omega,num.bud2⟩ (enters_of func178 (by kernel_rfl) rfl) (by simp) (by omega) (λwc ps bs ph p4 p5 p6 t s1 s2=>?_);exact nn_end p4 p5 p6 (keys'.touch t) (t.tu _ _ _ _ g1) (t.tu _ _ _ _ g2) s1 s2 t.size (by omega) (tb.quiet t) num (pd'.away t (by simp)) oks blk' hi' (λk hk=>.inr hk) left' hnn (sides.cv.touch t) sides.lin rl sides.few (λb off k c e=>inX _ (.inl rfl) b off k c e) (λk hk=>(cak k hk).imp λ_ h=>h.imp λ_ h=>t.tu _ _ _ _ h) hP2 hPj2 hPs2 []
structure JRows (blk:Nat)(outer:Bool)(cols others:List Int)(rc:Nat)(ru rD:List (List V)):Prop where
 cnt:∀rs out,JR (others.map keyOf) rD rs->First (cols.map keyOf) 20000 (rO ru) out->(jA outer cols others rc (rs.map Rec.row) (out.map Rec.row)).length<=20000
 row:∀rs out r,JR (others.map keyOf) rD rs->First (cols.map keyOf) 20000 (rO ru) out->r∈jA outer cols others rc (rs.map Rec.row) (out.map Rec.row)->(∀v∈r,Fair v)/\16+sZ r<=blk/\1<=r.length/\r.length<=1000
theorem Jt.rows (hr:JRows blk outer cols others rc ru rD)(h:Jt outer cols others rc ru rD P v W P'):∃r,P'=P++[r]/\P'.length<=20000/\Ro W v r/\(∀v∈r,Fair v)/\16+sZ r<=blk/\1<=r.length/\r.length<=1000:=by
 obtain⟨r,rs,out,rfl,h1,h2,h3,h4⟩:=h;have hm:r∈jA outer cols others rc (rs.map Rec.row) (out.map Rec.row):=h4.subset (by simp);exact⟨r,rfl,k_ h4.length_le (hr.cnt rs out h2 h3),h1,hr.row rs out r h2 h3 hm⟩
theorem Jt.stay (h:Jt outer cols others rc ru rD P v W P')(k:KT 85 W W'):Jt outer cols others rc ru rD P v W' P':=by
 obtain⟨r,rs,out,h0,h1,h2⟩:=h;exact⟨r,rs,out,h0,Sl3.keep h1 k,h2⟩
theorem JFin.odd {ob ob':Obj}(h:JFin bx bm blk m j outer cols others rc ru rD P W)(e:W.heap[l]?=some ob)(ho:Odd ob):JFin bx bm blk m j outer cols others rc ru rD P (W.putObj l ob'):=by
 obtain⟨h1,d,M,h2,h3⟩:=h;have g:Guard Aa (l+1) W (W.putObj l ob'):=Guard.putOdd e ho (by omega);exact⟨h1,d,M,h2.guard (g.mono (by decide) (e_ _)),h3⟩
def JcT:List TypeId:=JnT++[3,4]
def JcK:List TypeId:=JnK++[206,3,4,159,162]
theorem jC (W0:World)(cl cq q:Nat)(lb:Array Value)(tv wv:Value)(bx bm blk:Nat)(fan bud:Int)(XC D:List Nat)(m j:Nat)(outer:Bool)(cols others:List Int)(rc:Nat)(ru rD:List (List V))(hq:W0.heap[cq]?=some (.cells #[.pointer (some ⟨q,0,none⟩)] 159 (0,0)))(hQ:W0.heap[q]?=some (.cells #[tv,.int .i64 (blk:Int),.int .i64 fan,.int .i64 bud,.pointer (some ⟨bx,0,none⟩),wv] 162 (0,0)))(hl:W0.heap[cl]?=some (.cells #[.func (.func 149) #[] lb] 165 (0,0)))(b2:blk<=4096)(hlo:bm<=W0.heap.size)(hX:∀k∈XC,∃cs f,W0.heap[k]?=some (.cells cs 3 f))(hr:JRows blk outer cols others rc ru rD)
  (hseq:∀W,Touch [] W0 W->SG 149 lb ([]:List (List V)) (JFin bx bm blk m j outer cols others rc ru rD) (Jt outer cols others rc ru rD) JnT JnK XC bm W.heap.size D W) :
  SG 140 #[.pointer (some ⟨cl,0,none⟩),.pointer (some ⟨cq,0,none⟩)] ([]:List (List V)) (JFin bx bm blk m j outer cols others rc ru rD) (Jt outer cols others rc ru rD) JcT JcK XC bm W0.heap.size D W0:=by
 have hXlt:∀k∈XC,k<W0.heap.size:=λk hk=>by obtain⟨_,_,e⟩:=hX k hk;exact(agi.1 e).1
 refine checked_gen W0 cq cl q tv wv bx blk fan bud 149 lb ([],[]) _ _ (GMov ([]:List (List V)) (W0.heap.size+5) D) _ (λs=>OG JnT bm (W0.heap.size+5) D s.1) _ (λs=>KG JnK XC (W0.heap.size+5) s.1) _ (λs=>s.2.length) ⟨hq,hQ,hl,b2,enters_of func149 (by kernel_rfl) rfl,?_,?_,?_,?_,?_,?_,λs A B C=>KG.trans,?_,?_,?_,rfl,?_,?_,?_⟩
 ·intro W t hs;have:=hseq W t;rw[hs]at this;exact this
 ·intro s A B o;exact o.mono (by decide) (by omega)
 ·intro s A B F t hF;refine t.gO (λk hk=>?_) hlo D s.1;obtain⟨h1,ob,e,h2⟩:=hF k hk;refine⟨h1,λob' e'=>?_⟩;rw[e]at e';cases e';refine h2.imp id ?_;rintro⟨cs,t',f,e2,h3⟩;exact⟨cs,t',f,e2,by rcases h3 with rfl|rfl<;>decide,by rcases h3 with rfl|rfl<;>decide⟩
 ·intro s A B o t ht;simp only[a_,i_,or_false]at ht;rcases ht with rfl|rfl|rfl|rfl|rfl<;>exact o.tag (by decide) (by decide) (by decide)
 ·intro s A B k ob o e ho hk;exact o.others k ob hk e ho
 ·intro s A B g;refine⟨λt ht=>g.guard.cells t ?_,λk ob hk e ho=>g.guard.others k ob hk e ho,g.mono (by decide) (λ_ h=>h) (by omega)⟩;simp only[a_,i_,or_false]at ht;rcases ht with rfl|rfl|rfl|rfl|rfl<;>decide
 ·intro s A B F t hF;obtain⟨g1,g2⟩:=t_ (T:=Aa++JnK) (W0.heap.size+5) t (λk hk=>by
   obtain⟨_,cs,t',f,e,h3⟩:=hF k hk;exact⟨cs,t',f,e,by rcases h3 with rfl|rfl<;>decide⟩)
  exact g1.g (λk hk ob e=>(t.block k (agi.1 e).1 (λhm=>by have h1:=hXlt k hk;have h2:=(hF k hm).1;omega)).trans e) s.1
 ·intro s W r r' e;exact(Guard.putObj (T:=Aa++JnK) e (by omega)).g (λk hk ob e'=>by rw[World.putObj_heap_other (by have:=hXlt k hk;omega)];exact e') _
 ·rintro s s' ⟨e1,e2,e3,e4,e5⟩;exact⟨⟨e1,e2,e3,e4,λk hk=>(e5 k hk).imp (λz=>by omega) id⟩,by rw[e2,e3]⟩
 ·rintro⟨F,P⟩ v W s' ⟨_,e1,hst⟩;obtain⟨r,e,h0,h1,h2,h3,_,h4⟩:=hst.rows hr;exact⟨by rw[e];simp,by rw[<-e]at *;exact h0,r,h1,h2,h3,h4⟩
 ·rintro s v W W' s' ⟨e0,e1,hst⟩ k hs;exact⟨⟨e0.1,λk hk=>s_ (e0.2 k hk) hs⟩,e1,hst.stay k⟩
 ·rintro s W l ob ob' ⟨e0,h1⟩ e ho;exact⟨⟨e0.1,λk hk=>by simpa using e0.2 k hk⟩,h1.odd e ho⟩
theorem copiedJoin_any (w:World)(cl cq q:Nat)(lb:Array Value)(tv wv:Value)(bx bm blk:Nat)(fan bud:Int)(XC D:List Nat)(m j:Nat)(outer:Bool)(cols others:List Int)(rc:Nat)(ru rD:List (List V))(hq:w.heap[cq]?=some (.cells #[.pointer (some ⟨q,0,none⟩)] 159 (0,0)))(hQ:w.heap[q]?=some (.cells #[tv,.int .i64 (blk:Int),.int .i64 fan,.int .i64 bud,.pointer (some ⟨bx,0,none⟩),wv] 162 (0,0)))(hl:w.heap[cl]?=some (.cells #[.func (.func 149) #[] lb] 165 (0,0)))(b2:blk<=4096)(hlo:bm<=w.heap.size)(hX:∀k∈XC,∃cs f,w.heap[k]?=some (.cells cs 3 f))(hr:JRows blk outer cols others rc ru rD)
  (hseq:∀W,Touch [] w W->SG 149 lb ([]:List (List V)) (JFin bx bm blk m j outer cols others rc ru rD) (Jt outer cols others rc ru rD) JnT JnK XC bm W.heap.size D W) :
  Calls prog 82 #[.func (.func 140) #[] #[.pointer (some ⟨cl,0,none⟩),.pointer (some ⟨cq,0,none⟩)]] w λe w'=>∃lv out,e=.returned lv/\JFin bx bm blk m j outer cols others rc ru rD out w'/\(∃vs',LW w' lv vs'/\vs'.length=out.length/\∀i (_:i<vs'.length) (_:i<out.length),Ro w' vs'[i] out[i])/\Kept bm w w':=by
 have hXlt:∀k∈XC,k<w.heap.size:=λk hk=>by obtain⟨_,_,e⟩:=hX k hk;exact(agi.1 e).1
 refine(copied_gen JcT JcK XC w 140 _ ([]:List (List V)) _ _ bm D (λP=>P) hlo (enters_of func140 (by kernel_rfl) rfl) (by decide) (by decide) hXlt (λW hW=>jC W cl cq q lb tv wv bx bm blk fan bud XC D m j outer cols others rc ru rD (hW.tu _ _ _ _ hq) (hW.tu _ _ _ _ hQ) (hW.tu _ _ _ _ hl) b2 (k_ hlo hW.size) (λk hk=>(hX k hk).imp λ_ h=>h.imp λ_ h=>hW.tu _ _ _ _ h) hr (λW' t=>hseq W' (hW.trans t))) rfl ?_ ?_ ?_).mono ?_
 ·rintro P v W P' hst;obtain⟨r,e,h0,h1,h2,h3,h5,h4⟩:=hst.rows hr;exact⟨r,e,h1,h5,h4,by omega⟩
 ·rintro P v W P' l r r' hst e;exact hst.stay ((OG.putObj (T:=[]) (lo:=0) (N:=0) (D:=[]) (F:=[]) (ob':=.loop r') e (oL r) (x_ _) (x_ _)).tag (by decide) (by decide) (by simp))
 ·rintro P W l ob ob' h1 e ho;exact h1.odd e ho
 ·rintro e w' ⟨lv,P,rfl,h1,h2,h5⟩;exact⟨lv,P,rfl,h1,h2,h5⟩
attribute [local go_sem] Oper.semAt_some
def setR (cs:Array Value)(k:Nat)(i:Int)(f:Value):Array Value:=(cs.setIfInBounds (k*2) (.int .i64 i)).setIfInBounds (k*2+1) f
structure AnsStep (gp N q gr:Nat)(nd:Nat->ND)(I:Nat->Array Value->World->Prop)(R:Value->World->Prop):Prop where
 node:∀k cs W,k<N->I k cs W->(nd k).Slices/\W.cell? ⟨gp,k*9,none⟩=some (.int .i64 (nd k).op)/\W.cell? ⟨gp,k*9+1,none⟩=some (.int .i64 (nd k).l)/\W.cell? ⟨gp,k*9+2,none⟩=some (.int .i64 (nd k).r)/\W.cell? ⟨gp,k*9+3,none⟩=some (.string (nd k).tb)/\W.cell? ⟨gp,k*9+4,none⟩=some (nd k).kv/\W.cell? ⟨gp,k*9+5,none⟩=some (.int .i64 (nd k).cnt)/\W.cell? ⟨gp,k*9+6,none⟩=some (nd k).cv/\W.cell? ⟨gp,k*9+7,none⟩=some (nd k).ov/\W.cell? ⟨gp,k*9+8,none⟩=some (nd k).sv
 step:∀k cs W,k<N->I k cs W->Calls prog 79 #[.pointer (some ⟨q,0,none⟩),.agg (nd k).cells,.slice (some ⟨gr,0,none⟩) N N] (W.alloc (.cells (nd k).cells 79)) λe W2=>∃i fn fa fc,e=.returned (.agg #[.int .i64 i,.func fn fa fc])/\W2.heap[gr]?=some (.cells cs 167 (0,0))/\cs.size=2*N /\
  ∃b:Bool,Calls prog 80 #[.slice (some ⟨gp,0,none⟩) N N,.int .i64 (k:Int)] ((W2.setCell ⟨gr,k*2,none⟩ (.int .i64 i)).setCell ⟨gr,k*2+1,none⟩ (.func fn fa fc)) λe W4=>e=.returned (.bool b) /\
   ((b=false/\I (k+1) (setR cs k i (.func fn fa fc)) W4)\/(b=true/\W4.heap[gr]?=some (.cells (setR cs k i (.func fn fa fc)) 167 (0,0))/\Calls prog 81 #[.pointer (some ⟨q,0,none⟩),.func fn fa fc] W4 λe W5=>∃fn2 fa2 fc2,e=.returned (.func fn2 fa2 fc2)/\W5.heap[gr]?=some (.cells (setR cs k i (.func fn fa fc)) 167 (0,0))/\I (k+1) (setR cs k i (.func fn2 fa2 fc2)) (W5.setCell ⟨gr,k*2+1,none⟩ (.func fn2 fa2 fc2))))
 last:∀cs W,I N cs W->W.heap[gr]?=some (.cells cs 167 (0,0))/\∃fn fa fc,cs[2*N-1]?=some (.func fn fa fc)/\Calls prog 82 #[.func fn fa fc] W λe W'=>∃lv,e=.returned lv/\CallsD prog 78 #[.pointer (some ⟨q,0,none⟩)] .returning W' λe u w'=>u=.returning/\e=.returned (.tuple #[])/\R lv w'
theorem resCell {cs:Array Value}(h:W.heap[gr]?=some (.cells cs 167 (0,0)))(hs:cs.size=2*N)(hk:k<N):((∃v,W.cell? ⟨gr,k*2,none⟩=some v)/\∃v,W.cell? ⟨gr,k*2+1,none⟩=some v)/\W.frozen? ⟨gr,k*2,none⟩=false/\W.frozen? ⟨gr,k*2+1,none⟩=false:=by
 have h1:cs[k*2]?=some (cs[k*2]'(by omega)):=q_ _;have h2:cs[k*2+1]?=some (cs[k*2+1]'(by omega)):=q_ _;simp only[World.cell?,World.frozen?,h];exact⟨⟨⟨_,h1⟩,_,h2⟩,by simp,by simp⟩
theorem answer_gen (w:World)(gp N blk fan bud bx:Nat)(tO:Option Addr)(tn tc:Nat)(zs:Array Value)(nd:Nat->ND)(I:Nat->Array Value->World->Prop)(R:Value->World->Prop)(hN:1<=N)(hN2:N<=1000)
  (hmk:∀W:World,(Instr.makeSlice 163 (.int .i64 (N:Int)) (.int .i64 (N:Int))).run prog W=.ok (.slice (some ⟨W.heap.size,0,none⟩) N N) (W.alloc (.cells zs 167)))
  (h0:I 0 zs (((w.alloc (.cells #[.int .i64 (blk:Int),.int .i64 (fan:Int),.int .i64 (bud:Int)] 51)).alloc (.cells #[.slice tO tn tc,.int .i64 (blk:Int),.int .i64 (fan:Int),.int .i64 (bud:Int),.pointer (some ⟨bx,0,none⟩),.slice none 0 0] 162)).alloc (.cells zs 167)))
  (h:AnsStep gp N (w.heap.size+1) (w.heap.size+1+1) nd I R) :
  Calls prog 59 #[.slice tO tn tc,.slice (some ⟨gp,0,none⟩) N N,.agg #[.int .i64 (blk:Int),.int .i64 (fan:Int),.int .i64 (bud:Int)],.pointer (some ⟨bx,0,none⟩)] w λe w'=>∃lv,e=.returned lv/\R lv w':=by
 have H:Hid (AnsStep gp N (w.heap.size+1) (w.heap.size+1+1) nd I R):=h;have H0:Hid _:=h0;clear h h0
 go_enter_defers func59,ntmps59
 go_wp2;generalize ((w.alloc (.cells #[.int .i64 (blk:Int),.int .i64 (fan:Int),.int .i64 (bud:Int)] 51)).alloc (.cells #[.slice tO tn tc,.int .i64 (blk:Int),.int .i64 (fan:Int),.int .i64 (bud:Int),.pointer (some ⟨bx,0,none⟩),.slice none 0 0] 162)).alloc (.cells zs 167)=wa at *;generalize hq:w.heap.size+1=q at *;generalize hgr:q+1=gr at *;clear hmk hq hgr
 go_loopg [24] (N) (λg v wr=>∃(k:Nat) (cs:Array Value),v=.int .i64 (k:Int)/\k+g=N/\I k cs wr)
 case atStart=>exact⟨0,zs,rfl,by omega,H0.out⟩
 case round=>
  clear H0;obtain⟨k,cs,rfl,hg,hI⟩:=hrel;by_cases hk:k<N
  ·obtain⟨hS,p0,p1,p2,p3,p4,p5,p6,p7,p8⟩:=H.out.node k cs wr hk hI;have h79:=H.out.step k cs wr hk hI;obtain⟨⟨x1,x2,x3,e1⟩,⟨x4,x5,x6,e2⟩,⟨x7,x8,x9,e3⟩,⟨x10,x11,x12,e4⟩⟩:=hS;unfold ND.cells at h79;rw[e1,e2,e3,e4]at h79;rw[e1]at p4;rw[e2]at p6;rw[e3]at p7;rw[e4]at p8;have hlt:(k:Int)<(N:Int):=by omega
   clear e1 e2 e3 e4;have HG:Hid (k+gk=N):=hg;clear hg hI
   go_wp2_with (first|(go_at_call 79;refine h79.mono ?_;rintro e w2 ⟨i,fn,fa,fc,rfl,hG,hsz,b,h80⟩;obtain⟨⟨c0,c1⟩,f0,f1⟩:=resCell hG hsz hk;obtain⟨v0,y0⟩:=c0;obtain⟨v1,y1⟩:=c1;have HGR:Hid _:=And.intro hG hsz;clear hG hsz))
   have hwr:IntKind.i64.wrap ((k:Int)+1)=((k+1:Nat):Int):=by rw[wrap_small _ (by omega) (by omega)];omega
   refine h80.mono ?_;rintro e w4 ⟨rfl,hcase⟩;clear h79 h80 p0 p1 p2 p3 p4 p5 p6 p7 p8 y0 y1 f0 f1;rcases hcase with⟨rfl,hI4⟩|⟨rfl,hG4,h81⟩
   ·go_wp2
    go_roundg (gk-1)
    case measure=>have:=HG.out;omega
    case rel=>exact⟨k+1,_,by simp,by have:=HG.out;omega,hI4⟩
   ·have hsz2:(setR cs k i (.func fn fa fc)).size=2*N:=by simp[setR,HGR.out.2]
    obtain⟨⟨_,_⟩,_,f1⟩:=resCell hG4 hsz2 hk;have y1:w4.cell? ⟨gr,k*2+1,none⟩=some (.func fn fa fc):=by
     have hcs:=HGR.out.2;simp only[World.cell?,hG4];unfold setR;rw[Array.getElem?_setIfInBounds_self_of_lt (by simp;omega)];rfl
    have HGR2:Hid _:=And.intro hG4 hsz2;clear hG4 hsz2 HGR
    go_wp2_with (first|(go_at_call 81;refine h81.mono ?_;rintro e w5 ⟨fn2,fa2,fc2,rfl,hG5,hI5⟩;obtain⟨⟨c0,⟨v1,z1⟩⟩,g0,g1⟩:=resCell hG5 HGR2.out.2 hk;clear c0 g0;have HI5:Hid _:=hI5;clear hG5 hI5))
    go_roundg (gk-1)
    case measure=>have:=HG.out;omega
    case rel=>exact⟨k+1,_,by simp,by have:=HG.out;omega,HI5.out⟩
  ·obtain rfl:k=N:=by omega
   obtain⟨hG,fn,fa,fc,e,h82⟩:=H.out.last cs wr hI;have hN1:((k:Int)-1)=((k-1:Nat):Int):=by omega
   have hwr:IntKind.i64.wrap ((k:Int)-1)=((k-1:Nat):Int):=by rw[wrap_small _ (by omega) (by omega)];omega
   have y1:wr.cell? ⟨gr,(k-1)*2+1,none⟩=some (.func fn fa fc):=by
    simp only[World.cell?,hG];rw[show(k-1)*2+1=2*k-1 by omega];exact e
   have hlt:((k-1:Nat):Int)<(k:Int):=by omega
   have hge:¬((k:Int)<(k:Int)):=by omega
   clear hI hG e hg
   go_wp2_with (first|(go_at_call 82;refine h82.mono ?_;rintro e w6 ⟨lv,rfl,h78⟩))
   refine leaves_cons (f:=78) (args:=#[.pointer (some ⟨q,0,none⟩)]) (by simp) (by simp[go_sem]) ?_;refine h78.mono ?_;rintro e u' w7 ⟨rfl,rfl,hR⟩;exact⟨_,results_tmp rfl _ _ _,lv,rfl,hR⟩
theorem fE (w:World)(a b:Obj):((w.alloc a).alloc b).heap[w.heap.size]?=some a/\((w.alloc a).alloc b).heap[w.heap.size+1]?=some b:=⟨(Below.heap_alloc _ _ _ (by simp)).trans (heap_alloc_new w _),new2 w _ _⟩
theorem resStore (h:w.heap[B]?=some (.cells #[.int .i64 0,.nilFunc] 167 (0,0)))(i:Int)(f:Value):((w.setCell ⟨B,0,none⟩ (.int .i64 i)).setCell ⟨B,1,none⟩ f).heap[B]?=some (.cells #[.int .i64 i,f] 167 (0,0))/\Touch [B] w ((w.setCell ⟨B,0,none⟩ (.int .i64 i)).setCell ⟨B,1,none⟩ f):=by
 refine⟨?_,((Touch.refl [B] w).setCell (p:=⟨B,0,none⟩) (by simp) _).setCell (p:=⟨B,1,none⟩) (by simp) _⟩;rw[heap_setCell_same _ B 1 _ 167 _ (heap_setCell_same w B 0 _ 167 _ h)];simp
theorem rab (w:World)(q gr N l r gl gf:Nat)(n:ND)(kl kr:Nat)(ll lr:Array Value)(Made:Array Value->World->Prop)(hS:n.Slices)(hop:n.op=4\/n.op=5)(hl:n.l=(l:Int))(hr:n.r=(r:Int))(hlN:l<N)(hrN:r<N)(hkl:kl<=1000)(hkr:kr<=1000)(hg:gr<w.heap.size)
  (r0:w.cell? ⟨gr,l*2,none⟩=some (.int .i64 (kl:Int))) (r1:w.cell? ⟨gr,l*2+1,none⟩=some (.func (.func gl) #[] ll)) (r2:w.cell? ⟨gr,r*2,none⟩=some (.int .i64 (kr:Int))) (r3:w.cell? ⟨gr,r*2+1,none⟩=some (.func (.func gf) #[] lr))
  (h110:∀W,Touch [] w W->Calls prog 110 #[.pointer (some ⟨q,0,none⟩),.agg n.cells,.func (.func gl) #[] ll,.agg #[.int .i64 (kr:Int),.func (.func gf) #[] lr]] W λe w'=>∃lb,e=.returned (.func (.func 149) #[] lb)/\Made lb w'/\Touch [] W w')
  (hM:∀lb W W' B,Made lb W->W.heap[B]?=some (.cells #[.int .i64 0,.nilFunc] 167 (0,0))->Touch [B] W W'->Made lb W') (hMq:∀lb W W',Made lb W->Touch [] W W'->Made lb W') :
  Calls prog 79 #[.pointer (some ⟨q,0,none⟩),.agg n.cells,.slice (some ⟨gr,0,none⟩) N N] w λe w'=>∃cl cq lb,e=.returned (.agg #[.int .i64 ((kl+kr:Nat):Int),.func (.func 140) #[] #[.pointer (some ⟨cl,0,none⟩),.pointer (some ⟨cq,0,none⟩)]])/\w'.heap[cq]?=some (.cells #[.pointer (some ⟨q,0,none⟩)] 159 (0,0))/\w'.heap[cl]?=some (.cells #[.func (.func 149) #[] lb] 165 (0,0))/\Made lb w'/\Touch [] w w':=by
 obtain⟨op,nl,nr,tb,kv,cnt,cv,ov,sv⟩:=n;obtain⟨⟨k1,k2,k3,rfl⟩,⟨k4,k5,k6,rfl⟩,⟨k7,k8,k9,rfl⟩,⟨k10,k11,k12,rfl⟩⟩:=hS;simp only at hop hl hr;subst hl hr;unfold ND.cells at *;simp only at h110 ⊢;have HM:Hid _:=And.intro hM hMq;have H110:Hid _:=h110;clear hM hMq h110;have hl':((l:Int)<(N:Int)):=by omega
 have hr':((r:Int)<(N:Int)):=by omega
 have o1:¬op=1:=by omega
 have o2:¬op=2:=by omega
 have o3:¬op=3:=by omega
 have o6:¬op=6:=by omega
 have o7:¬op=7:=by omega
 have hwr:IntKind.i64.wrap ((kl:Int)+(kr:Int))=(kl:Int)+(kr:Int):=wrap_small _ (by omega) (by omega);clear hop;go_enter func79,ntmps79;go_wp2;obtain⟨hB4,hB6⟩:=fE w (.cells #[.int .i64 op,.int .i64 (l:Int),.int .i64 (r:Int),.string tb,.slice k1 k2 k3,.int .i64 cnt,.slice k4 k5 k6,.slice k7 k8 k9,.slice k10 k11 k12] 79) (.cells #[.int .i64 0,.nilFunc] 167);have tA:Touch [] w ((w.alloc (.cells #[.int .i64 op,.int .i64 (l:Int),.int .i64 (r:Int),.string tb,.slice k1 k2 k3,.int .i64 cnt,.slice k4 k5 k6,.slice k7 k8 k9,.slice k10 k11 k12] 79)).alloc (.cells #[.int .i64 0,.nilFunc] 167)):=(tr_.alloc _).alloc _;have hsz:w.heap.size+2<=((w.alloc (.cells #[.int .i64 op,.int .i64 (l:Int),.int .i64 (r:Int),.string tb,.slice k1 k2 k3,.int .i64 cnt,.slice k4 k5 k6,.slice k7 k8 k9,.slice k10 k11 k12] 79)).alloc (.cells #[.int .i64 0,.nilFunc] 167)).heap.size:=by simp
 replace r0:=cO r0 tA;replace r1:=cO r1 tA;replace r2:=cO r2 tA;replace r3:=cO r3 tA;generalize (w.alloc (.cells #[.int .i64 op,.int .i64 (l:Int),.int .i64 (r:Int),.string tb,.slice k1 k2 k3,.int .i64 cnt,.slice k4 k5 k6,.slice k7 k8 k9,.slice k10 k11 k12] 79)).alloc (.cells #[.int .i64 0,.nilFunc] 167)=wa at *;have c1:wa.cell? ⟨w.heap.size,1,none⟩=some (.int .i64 (l:Int)):=by simp[World.cell?,hB4]
 have c2:wa.cell? ⟨w.heap.size,2,none⟩=some (.int .i64 (r:Int)):=by simp[World.cell?,hB4]
 have l1:w.heap.size<wa.heap.size:=by omega
 have l2:gr<wa.heap.size:=by omega
 have l3:wa.heap.size≠w.heap.size:=by omega
 have l4:wa.heap.size≠gr:=by omega
 have l5:wa.heap.size+1≠w.heap.size:=by omega
 have l6:wa.heap.size+1≠gr:=by omega
 have HSZ:Hid (w.heap.size+2<=wa.heap.size):=hsz;have HB4:Hid _:=hB4;have HB6:Hid _:=hB6;clear hB4 hB6 hsz
 go_cut [7,8] from 9 (λa b wx=>∃B7 B8,a=.pointer (some ⟨B7,0,none⟩)/\b=.pointer (some ⟨B8,0,none⟩)/\wx.heap[B7]?=some (.cells #[.int .i64 (kl:Int),.func (.func gl) #[] ll] 167 (0,0))/\wx.heap[B8]?=some (.cells #[.int .i64 (kr:Int),.func (.func gf) #[] lr] 167 (0,0))/\Touch [] wa wx/\wa.heap.size<=B7/\wa.heap.size<=B8)
 case first=>
  go_region_held3 (λw'=>w'.cell? ⟨w.heap.size,1,none⟩=some (.int .i64 (l:Int))/\w'.cell? ⟨w.heap.size,2,none⟩=some (.int .i64 (r:Int))/\w'.cell? ⟨gr,l*2,none⟩=some (.int .i64 (kl:Int))/\w'.cell? ⟨gr,l*2+1,none⟩=some (.func (.func gl) #[] ll)/\w'.cell? ⟨gr,r*2,none⟩=some (.int .i64 (kr:Int))/\w'.cell? ⟨gr,r*2+1,none⟩=some (.func (.func gf) #[] lr)) (go_keep) (fail)
  all_goals
   go_wp2_with fail
   go_meet
   case rel=>
    first
     | exact⟨_,_,rfl,rfl,(fE wa _ _).1,(fE wa _ _).2,((tr_.alloc _).alloc _).drew,by omega,by omega⟩
     | exact⟨_,_,rfl,rfl,(fE wa _ _).2,(fE wa _ _).1,((tr_.alloc _).alloc _).drew,by omega,by omega⟩
 case rest=>
  obtain⟨B7,B8,rfl,rfl,hB7,hB8,tc,l7,l8⟩:=hcut;have hw:=HSZ.out;have tw:=tA.trans tc;have n1:w.heap.size+1≠w.heap.size:=by omega
  have n2:w.heap.size+1≠B7:=by omega
  have n3:w.heap.size+1≠B8:=by omega
  have HK:Hid (∀W,Touch [] wc W->W.cell? ⟨w.heap.size,0,none⟩=some (.int .i64 op)/\W.cell? ⟨w.heap.size,1,none⟩=some (.int .i64 (l:Int))/\W.cell? ⟨w.heap.size,2,none⟩=some (.int .i64 (r:Int))/\W.cell? ⟨w.heap.size,3,none⟩=some (.string tb)/\W.cell? ⟨w.heap.size,4,none⟩=some (.slice k1 k2 k3)/\W.cell? ⟨w.heap.size,5,none⟩=some (.int .i64 cnt)/\W.cell? ⟨w.heap.size,6,none⟩=some (.slice k4 k5 k6)/\W.cell? ⟨w.heap.size,7,none⟩=some (.slice k7 k8 k9)/\W.cell? ⟨w.heap.size,8,none⟩=some (.slice k10 k11 k12)/\W.cell? ⟨B7,0,none⟩=some (.int .i64 (kl:Int))/\W.cell? ⟨B7,1,none⟩=some (.func (.func gl) #[] ll)/\W.cell? ⟨B8,0,none⟩=some (.int .i64 (kr:Int))/\W.cell? ⟨B8,1,none⟩=some (.func (.func gf) #[] lr)):=λW hW=>by
   obtain⟨y0,y1,y2,y3,y4,y5,y6,y7,y8⟩:=box9 (n:=⟨op,l,r,tb,.slice k1 k2 k3,cnt,.slice k4 k5 k6,.slice k7 k8 k9,.slice k10 k11 k12⟩) ((tc.trans hW).tu 79 _ _ _ HB4.out);obtain⟨x0,x1⟩:=bF hB7;obtain⟨x2,x3⟩:=bF hB8;exact⟨y0,y1,y2,y3,y4,y5,y6,y7,y8,cO x0 hW,cO x1 hW,cO x2 hW,cO x3 hW⟩
  have H6:Hid (wc.heap[w.heap.size+1]?=some (.cells #[.int .i64 0,.nilFunc] 167 (0,0))):=tc.tu 167 _ _ _ HB6.out;have HX:Hid (∀W,Touch [] wc W->Calls prog 110 #[.pointer (some ⟨q,0,none⟩),.agg #[.int .i64 op,.int .i64 (l:Int),.int .i64 (r:Int),.string tb,.slice k1 k2 k3,.int .i64 cnt,.slice k4 k5 k6,.slice k7 k8 k9,.slice k10 k11 k12],.func (.func gl) #[] ll,.agg #[.int .i64 (kr:Int),.func (.func gf) #[] lr]] W λe w'=>∃lb,e=.returned (.func (.func 149) #[] lb)/\Hid (Made lb w')/\Touch [] W w'):=λW hW=>H110.out W (tw.trans hW);obtain⟨j0,j1,j2,j3,j4,j5,j6,j7,j8,j9,j10,j11,j12⟩:=HK.out wc tr_;clear c1 c2 r0 r1 r2 r3 H110 HB4 HB6 hB7 hB8;go_wp2
  go_cut [] from 19 (λwx=>∃cl cq lb,wx.heap[w.heap.size+1]?=some (.cells #[.int .i64 ((kl:Int)+(kr:Int)),.func (.func 140) #[] #[.pointer (some ⟨cl,0,none⟩),.pointer (some ⟨cq,0,none⟩)]] 167 (0,0))/\wx.heap[cq]?=some (.cells #[.pointer (some ⟨q,0,none⟩)] 159 (0,0))/\wx.heap[cl]?=some (.cells #[.func (.func 149) #[] lb] 165 (0,0))/\Made lb wx/\Touch [w.heap.size+1] wc wx)
  case first=>
   go_region_held3 (λW=>W.cell? ⟨w.heap.size,0,none⟩=some (.int .i64 op)/\W.cell? ⟨w.heap.size,1,none⟩=some (.int .i64 (l:Int))/\W.cell? ⟨w.heap.size,2,none⟩=some (.int .i64 (r:Int))/\W.cell? ⟨w.heap.size,3,none⟩=some (.string tb)/\W.cell? ⟨w.heap.size,4,none⟩=some (.slice k1 k2 k3)/\W.cell? ⟨w.heap.size,5,none⟩=some (.int .i64 cnt)/\W.cell? ⟨w.heap.size,6,none⟩=some (.slice k4 k5 k6)/\W.cell? ⟨w.heap.size,7,none⟩=some (.slice k7 k8 k9)/\W.cell? ⟨w.heap.size,8,none⟩=some (.slice k10 k11 k12)/\W.cell? ⟨B7,0,none⟩=some (.int .i64 (kl:Int))/\W.cell? ⟨B7,1,none⟩=some (.func (.func gl) #[] ll)/\W.cell? ⟨B8,0,none⟩=some (.int .i64 (kr:Int))/\W.cell? ⟨B8,1,none⟩=some (.func (.func gf) #[] lr)) (go_keep) (first
    | (go_at_call 110;refine(HX.out _ (tr_.drew)).mono ?_;rintro e w3 ⟨lb,rfl,hG,t3⟩;have HT3:Hid (Touch [] wc w3):=(tr_.drew).trans t3;obtain⟨j0,j1,j2,j3,j4,j5,j6,j7,j8,j9,j10,j11,j12⟩:=HK.out w3 HT3.out;clear t3)
    | (go_at_call 108;refine(checked_any _ q _ _).mono ?_;rintro e w4 ⟨cl,cq,rfl,z1,z2,t4⟩;obtain⟨j0,j1,j2,j3,j4,j5,j6,j7,j8,j9,j10,j11,j12⟩:=HK.out w4 (HT3.out.trans t4);have HZ:Hid _:=And.intro z1 (And.intro z2 t4);have h6:=(HT3.out.trans t4).tu 167 _ _ _ H6.out;have g0:w4.frozen? ⟨w.heap.size+1,0,none⟩=false:=(by simp[World.frozen?,h6]);have g1:w4.frozen? ⟨w.heap.size+1,1,none⟩=false:=(by simp[World.frozen?,h6]);obtain⟨y0,y1⟩:=bF h6;have HB6d:Hid (w4.heap[w.heap.size+1]?=some (.cells #[.int .i64 0,.nilFunc] 167 (0,0))):=h6;clear h6 z1 z2 t4))
   all_goals
    go_wp2_with fail
    go_meet
    case rel=>
     obtain⟨e6,t5⟩:=resStore HB6d.out ((kl:Int)+(kr:Int)) (.func (.func 140) #[] #[.pointer (some ⟨cl,0,none⟩),.pointer (some ⟨cq,0,none⟩)]);have n5:∀t,(167:TypeId)≠t->KT t w4 _:=λt ht=>t5.tag (nO HB6d.out ht);obtain⟨z1,z2,t4⟩:=HZ.out;exact⟨cl,cq,lb,e6,n5 159 (by decide) _ _ _ z1,n5 165 (by decide) _ _ _ z2,HM.out.1 _ _ _ _ (HM.out.2 _ _ _ hG.out t4) HB6d.out t5,((HT3.out.trans t4).mono (by simp)).trans t5⟩
  case rest=>
   obtain⟨cl,cq,lb,p0,p1,p2,p3,t5⟩:=hcut;obtain⟨z0,z1⟩:=bF p0;clear j0 j1 j2 j3 j4 j5 j6 j7 j8 j9 j10 j11 j12;go_wp2;exact bodyPost_ret (v:=.agg #[.int .i64 ((kl+kr:Nat):Int),.func (.func 140) #[] #[.pointer (some ⟨cl,0,none⟩),.pointer (some ⟨cq,0,none⟩)]]) (by simp[results,results79,go_sem,z0,z1]) rfl ⟨cl,cq,lb,rfl,p1,p2,p3,tw.more t5 (λi hi=>.inr (by rw[ms_ hi];omega))⟩
def sN (name:ByteArray):ND:=⟨1,0,0,name,.slice none 0 0,0,.slice none 0 0,.slice none 0 0,.slice none 0 0⟩
def IsF (f:Value):Prop:=f=.nilFunc\/∃fn fa fc,f=.func fn fa fc
theorem rY (w:World)(q gr N kn:Nat)(name:ByteArray)(sv:Value)(k0:Int)(f0:Value)(hf:IsF f0)(hN:1<=N)(hg:gr<w.heap.size)(r0:w.cell? ⟨gr,0,none⟩=some (.int .i64 k0))(r1:w.cell? ⟨gr,1,none⟩=some f0)
  (HSC:Hid (∀W,Touch [] w W->Calls prog 105 #[.pointer (some ⟨q,0,none⟩),.string name] W λe w'=>∃b,e=.returned (.agg #[.int .i64 (kn:Int),.func (.func 162) #[] #[.pointer (some ⟨b,0,none⟩)]])/\w'.heap[b]?=some (.cells #[sv] 36 (0,0))/\Touch [] W w')) :
  Calls prog 79 #[.pointer (some ⟨q,0,none⟩),.agg (sN name).cells,.slice (some ⟨gr,0,none⟩) N N] w λe w'=>∃b,e=.returned (.agg #[.int .i64 (kn:Int),.func (.func 162) #[] #[.pointer (some ⟨b,0,none⟩)]])/\w'.heap[b]?=some (.cells #[sv] 36 (0,0))/\Touch [] w w':=by
 have hn0:0<N:=by omega
 unfold sN ND.cells;simp only;rcases hf with rfl|⟨fn,fa,fc,rfl⟩
 all_goals
  go_enter func79,ntmps79;go_wp2;obtain⟨hB4,hB6⟩:=fE w (.cells #[.int .i64 1,.int .i64 0,.int .i64 0,.string name,.slice none 0 0,.int .i64 0,.slice none 0 0,.slice none 0 0,.slice none 0 0] 79) (.cells #[.int .i64 0,.nilFunc] 167);have tA:Touch [] w ((w.alloc (.cells #[.int .i64 1,.int .i64 0,.int .i64 0,.string name,.slice none 0 0,.int .i64 0,.slice none 0 0,.slice none 0 0,.slice none 0 0] 79)).alloc (.cells #[.int .i64 0,.nilFunc] 167)):=(tr_.alloc _).alloc _;have hsz:w.heap.size+2<=((w.alloc (.cells #[.int .i64 1,.int .i64 0,.int .i64 0,.string name,.slice none 0 0,.int .i64 0,.slice none 0 0,.slice none 0 0,.slice none 0 0] 79)).alloc (.cells #[.int .i64 0,.nilFunc] 167)).heap.size:=by simp
  have r0':=cO r0 tA;have r1':=cO r1 tA;clear r0 r1;generalize (w.alloc (.cells #[.int .i64 1,.int .i64 0,.int .i64 0,.string name,.slice none 0 0,.int .i64 0,.slice none 0 0,.slice none 0 0,.slice none 0 0] 79)).alloc (.cells #[.int .i64 0,.nilFunc] 167)=wa at *;have c1:wa.cell? ⟨w.heap.size,1,none⟩=some (.int .i64 0):=by simp[World.cell?,hB4]
  have c2:wa.cell? ⟨w.heap.size,2,none⟩=some (.int .i64 0):=by simp[World.cell?,hB4]
  have l1:w.heap.size<wa.heap.size:=by omega
  have l2:gr<wa.heap.size:=by omega
  have l3:wa.heap.size≠w.heap.size:=by omega
  have l4:wa.heap.size≠gr:=by omega
  have l5:wa.heap.size+1≠w.heap.size:=by omega
  have l6:wa.heap.size+1≠gr:=by omega
  go_cut [7,8] from 9 (λa b wx=>∃B7 B8,a=.pointer (some ⟨B7,0,none⟩)/\b=.pointer (some ⟨B8,0,none⟩)/\Touch [] wa wx)
  case first=>
   first
    | go_region_held3 (λw'=>w'.cell? ⟨w.heap.size,1,none⟩=some (.int .i64 0)/\w'.cell? ⟨w.heap.size,2,none⟩=some (.int .i64 0)/\w'.cell? ⟨gr,0,none⟩=some (.int .i64 k0)/\w'.cell? ⟨gr,1,none⟩=some .nilFunc) (go_keep) (fail)
    | go_region_held3 (λw'=>w'.cell? ⟨w.heap.size,1,none⟩=some (.int .i64 0)/\w'.cell? ⟨w.heap.size,2,none⟩=some (.int .i64 0)/\w'.cell? ⟨gr,0,none⟩=some (.int .i64 k0)/\w'.cell? ⟨gr,1,none⟩=some (.func fn fa fc)) (go_keep) (fail)
   all_goals
    go_wp2_with fail
    go_meet
    case rel=>exact⟨_,_,rfl,rfl,((tr_.alloc _).alloc _).drew⟩
  case rest=>
   obtain⟨B7,B8,rfl,rfl,tc⟩:=hcut;have tw:=tA.trans tc;have hB4c:=tc.tu 79 _ _ _ hB4;have hB6c:=tc.tu 167 _ _ _ hB6;clear c1 c2 r0' r1' hB4 hB6;have c0:wc.cell? ⟨w.heap.size,0,none⟩=some (.int .i64 1):=by simp[World.cell?,hB4c]
   have c3:wc.cell? ⟨w.heap.size,3,none⟩=some (.string name):=by simp[World.cell?,hB4c]
   go_wp2_with (go_at_call 105;refine(HSC.out _ tw).mono ?_;rintro e w3 ⟨b,rfl,hb,t3⟩;have hB6d:=t3.tu 167 _ _ _ hB6c;have g0:w3.frozen? ⟨w.heap.size+1,0,none⟩=false:=(by simp[World.frozen?,hB6d]);have g1:w3.frozen? ⟨w.heap.size+1,1,none⟩=false:=(by simp[World.frozen?,hB6d]);have HB6:Hid (w3.heap[w.heap.size+1]?=some (.cells #[.int .i64 0,.nilFunc] 167 (0,0))):=hB6d;obtain⟨y0,y1⟩:=bF hB6d;clear hB6d)
   obtain⟨hW,t5⟩:=resStore HB6.out (kn:Int) (.func (.func 162) #[] #[.pointer (some ⟨b,0,none⟩)]);obtain⟨z0,z1⟩:=bF hW;exact bodyPost_ret (v:=.agg #[.int .i64 (kn:Int),.func (.func 162) #[] #[.pointer (some ⟨b,0,none⟩)]]) (by simp[results,results79,go_sem,z0,z1]) rfl ⟨b,rfl,t5.tag (nO HB6.out (by decide)) _ _ _ hb,(tw.trans t3).more t5 (λi hi=>.inr (by rw[ms_ hi];omega))⟩
theorem wI (w:World)(gp N k:Nat)(hk:k<N)(hN:N<=1000)(h:k+1=N\/w.cell? ⟨gp,k*9,none⟩=some (.int .i64 1)):Calls prog 80 #[.slice (some ⟨gp,0,none⟩) N N,.int .i64 (k:Int)] w λe w'=>e=.returned (.bool false)/\w'=w:=by
 have hwr:IntKind.i64.wrap ((N:Int)-1)=((N-1:Nat):Int):=by rw[wrap_small _ (by omega) (by omega)];omega
 have hlt:(k:Int)<(N:Int):=by omega
 by_cases e:k+1=N
 ·have he:(k:Int)=((N-1:Nat):Int):=by omega
  clear h hlt;rw[he];go_enter func80,ntmps80;go_wp2;go_ret;exact⟨rfl,rfl⟩
 ·have h1:=h.resolve_left e;have he:¬(k:Int)=((N-1:Nat):Int):=by omega
  clear h e;go_enter func80,ntmps80;go_wp2;go_ret;exact⟨rfl,rfl⟩
theorem waits_yes (w:World)(gp N k:Nat)(n2:ND)(op:Int)(hk:k+1<N)(hN:N<=1000)(h:w.cell? ⟨gp,k*9,none⟩=some (.int .i64 op))(hop:op≠1)(hS:n2.Slices)(hl:n2.l≠(k:Int))(p0:w.cell? ⟨gp,(k+1)*9,none⟩=some (.int .i64 n2.op))(p1:w.cell? ⟨gp,(k+1)*9+1,none⟩=some (.int .i64 n2.l))(p2:w.cell? ⟨gp,(k+1)*9+2,none⟩=some (.int .i64 n2.r))(p3:w.cell? ⟨gp,(k+1)*9+3,none⟩=some (.string n2.tb))(p4:w.cell? ⟨gp,(k+1)*9+4,none⟩=some n2.kv)(p5:w.cell? ⟨gp,(k+1)*9+5,none⟩=some (.int .i64 n2.cnt))(p6:w.cell? ⟨gp,(k+1)*9+6,none⟩=some n2.cv)(p7:w.cell? ⟨gp,(k+1)*9+7,none⟩=some n2.ov)(p8:w.cell? ⟨gp,(k+1)*9+8,none⟩=some n2.sv):Calls prog 80 #[.slice (some ⟨gp,0,none⟩) N N,.int .i64 (k:Int)] w λe w'=>e=.returned (.bool true)/\Touch [] w w':=by
 have hwr:IntKind.i64.wrap ((N:Int)-1)=((N-1:Nat):Int):=by rw[wrap_small _ (by omega) (by omega)];omega
 have hwr2:IntKind.i64.wrap ((k:Int)+1)=((k+1:Nat):Int):=by rw[wrap_small _ (by omega) (by omega)];omega
 have hlt:(k:Int)<(N:Int):=by omega
 have hlt2:((k+1:Nat):Int)<(N:Int):=by omega
 have he:¬(k:Int)=((N-1:Nat):Int):=by omega
 obtain⟨⟨x1,x2,x3,e1⟩,⟨x4,x5,x6,e2⟩,⟨x7,x8,x9,e3⟩,⟨x10,x11,x12,e4⟩⟩:=hS;rw[e1]at p4;rw[e2]at p6;rw[e3]at p7;rw[e4]at p8;clear e1 e2 e3 e4;generalize hk2:k+1=k2 at *;have HK:Hid (k+1=k2):=hk2;clear hk2;have hb:(n2.l != (k:Int))=true:=by simpa using hl
 have hb1:((k:Int) == ((N-1:Nat):Int))=false:=by simpa using he
 have hb2:(op == 1)=false:=by simpa using hop
 go_enter func80,ntmps80;go_wp2;go_ret;exact⟨rfl,tr_.alloc _⟩
end Go.Proofs.YtjoinhljdbljaaaGreat
