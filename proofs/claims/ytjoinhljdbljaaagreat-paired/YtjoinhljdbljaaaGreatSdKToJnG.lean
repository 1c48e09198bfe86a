/- A query over one row answers it, and what follows. -/
import Derived.Test.YtjoinhljdbljaaaGreatQryLToSdJ
set_option maxHeartbeats 4000000
set_option maxRecDepth 20000
set_option linter.unusedSectionVars false
namespace Go.Proofs.YtjoinhljdbljaaaGreat
open Go.RowKit Go.Proofs.Tryz
variable [Inhabited Ground]
variable {W w w':World} {bs g k lc ln:Nat} {cols raw:List Int}
theorem Aw.cells {lo:Option Addr}{out:List Rec}{ks:List K}{rows:List (List V)}(h:Aw bs w w' (.slice lo ln lc) out ks rows):ln=out.length/\(1<=out.length->∃g o,lo=some ⟨g,o,none⟩/\∀i (hi:i<out.length),∃rv,w'.cell? ⟨g,o+i,none⟩=some rv/\Ro w' rv out[i].row):=by
 obtain⟨vs,h1,h2,h3⟩:=h.list;obtain⟨o,cap,e,h4⟩:=h1.at.1;simp only[Value.slice.injEq]at e;obtain⟨e1,e2,e3⟩:=e;refine⟨e2.trans h2,λhn=>?_⟩;rcases h4 with rfl|⟨g,off,cs,rfl,hg,_,_,hcs⟩
 ·simp at h2;omega
 ·refine⟨g,off,e1,λi hi=>⟨vs[i]'(by omega),?_,h3 i (by omega) hi⟩⟩;simp only[World.cell?,hg];rw[hcs i (by omega)];rfl
theorem raw_three (W:World):Rt (W.alloc (.cells #[.int .i64 3] 3)) (.slice (some ⟨W.heap.size,0,none⟩) 1 1) [3]:=by
 refine⟨λx hx=>?_,by simp,_,_,rfl,λ_=>⟨_,_,rfl,λj hj=>?_⟩⟩
 ·simp at hx;subst hx;unfold I64;omega
 ·have:j=0:=by simp at hj;omega
  subst this;have hn:=heap_alloc_new W (.cells #[.int .i64 3] 3);simp only[World.cell?,hn];rfl
theorem keys_one (W:World):KA (W.alloc (.cells #[.int .i64 1,.bool false,.bool false] 73)) (.slice (some ⟨W.heap.size,0,none⟩) 1 1) [⟨1,false,false⟩]:=by
 refine⟨_,_,rfl,by simp,by unfold maxLen;omega,λ_=>⟨_,_,_,_,rfl,heap_alloc_new W _,λi hi=>?_⟩⟩;have:i=0:=by simp at hi;omega
 subst this;exact⟨rfl,rfl,rfl⟩
theorem aOf_three:aOf 3=⟨1,-7,⟨#[]⟩⟩:=by kernel_rfl
theorem ask_one (w w1 w2:World)(bk gp:Nat)(so:Option Addr)(sn sc:Nat)(hTab:∃vs rows,Td (w.alloc (.cells #[.int .i64 3] 3)) w1 [3] bk (.slice so sn sc) vs rows)(hP:PL w2 gp nM (.slice (some ⟨w1.heap.size,0,none⟩) 1 1))(hT:Touch [] (w1.alloc (.cells #[.int .i64 1,.bool false,.bool false] 73)) w2) :
  Calls prog 32 #[.agg #[.string nM,.slice (some ⟨bk,0,none⟩) 4 4,.slice so sn sc],.slice (some ⟨gp,0,none⟩) 2 2,.agg #[.int .i64 64,.int .i64 2,.int .i64 256]] w2 λe w'=>∃g o c rb off cap,e=.returned (.tuple #[.slice (some ⟨g,o,none⟩) 1 c,.int .i64 0])/\w'.cell? ⟨g,o,none⟩=some (.slice (some ⟨rb,off,none⟩) 4 cap)/\(4<=cap/\cap<=maxLen)/\(w'.cell? ⟨rb,off,none⟩=some (.int .i64 1)/\w'.cell? ⟨rb,off+1,none⟩=some (.int .i64 (-7))/\w'.cell? ⟨rb,off+1+1,none⟩=some (.string ⟨#[]⟩))/\Kept w.heap.size w w':=by
 obtain⟨vs,rows,h⟩:=hTab;have t12:Touch [] w1 w2:=(tr_.alloc _).trans hT;have hn:rows.length=1:=by rw[h.num];rfl
 have hin:AskIn w2 gp bk (.slice so sn sc) (.slice (some ⟨w1.heap.size,0,none⟩) 1 1) 64 2 256 [3] [⟨1,false,false⟩] vs rows:=
  { plan:=hP,keys:=(keys_one w1).touch hT,kinds:=t12.tu _ _ _ _ h.kinds,list:=h.list.keep (t12.tu _),len:=h.len,rW:=λi a b=>(h.rW i a b).touch t12,tJ:=h.tJ,num:=by omega,good:=λy hy=>by simp at hy;subst hy;simp,k1:=by simp,k4:=by simp,b1:=by omega,b2:=by omega,f1:=by omega,f2:=by omega,u1:=by omega,u2:=by omega }
 refine(ask_any w2 gp bk _ 1 1 _ 64 2 256 [3] _ vs rows hin).mono ?_;rintro e w' ⟨lv,out,rfl,hA⟩;obtain⟨lo,ln,lc,rfl⟩:=hA.list.elim λ_ h=>h.1.slice;have hlen:out.length=1:=(out_len hA.perm).trans hn;obtain⟨e1,hx0⟩:=Aw.cells hA;obtain⟨g,o,rfl,hx⟩:=hx0 (by omega);obtain⟨rv,c0,hr⟩:=hx 0 (by omega);obtain⟨k,hk,_,hrow⟩:=out_at hA.perm 0 (by omega);obtain⟨s,hs,er⟩:=h.tJ k hk;obtain rfl:k=0:=by omega
 rw[hrow,er]at hr;obtain⟨rb,off,cap,rfl,hc1,hc2,hx⟩:=hr.cells (by simp[rowOf]);obtain⟨x0,x1,x2⟩:=hx 0 (by simp[rowOf]);have ea:(rowOf ([3].getD 0 0) 0 s)[0]'(by simp[rowOf])=⟨1,-7,⟨#[]⟩⟩:=aOf_three;rw[ea]at x0 x1 x2;simp only[Nat.zero_mul,Nat.add_zero]at x0 x1 x2 c0;rw[hlen]at e1;subst e1;exact⟨g,o,lc,rb,off,cap,rfl,c0,⟨hc1,hc2⟩,⟨x0,x1,x2⟩,((tr_.alloc _).trans (h.touch.trans t12)).kept.trans (hA.kept.mono ((tr_.alloc _).trans (h.touch.trans t12)).size)⟩
theorem lives_any (w:World) :
  Calls prog 31 #[] w λe w'=>e=.returned (.bool true)/\Kept w.heap.size w w':=by
 have HT:Hid (∀W:World,Calls prog 30 #[.slice (some ⟨W.heap.size,0,none⟩) 1 1] (W.alloc (.cells #[.int .i64 3] 3)) λe w'=>∃bk so sn sc,e=.returned (.agg #[.string nM,.slice (some ⟨bk,0,none⟩) 4 4,.slice so sn sc])/\(∃vs rows,Td (W.alloc (.cells #[.int .i64 3] 3)) w' [3] bk (.slice so sn sc) vs rows)):=λW=>by
  refine(table_any _ _ [3] (raw_three W)).mono ?_;rintro e w' ⟨bk,sv,vs,rows,rfl,h⟩;obtain⟨so,sn,sc,rfl⟩:=h.list.slice;exact⟨bk,so,sn,sc,rfl,vs,rows,h⟩
 have HW:Hid (∀W ko kn kc,Calls prog 33 #[nV (.slice ko kn kc)] W λe w'=>∃gp,e=.returned (.slice (some ⟨gp,0,none⟩) 2 2)/\PL w' gp nM (.slice ko kn kc)/\Touch [] W w'):=λW ko kn kc=>with_any W ko kn kc;unfold nV at HW;have HWH:Hid (∀n W,Calls prog 61 #[.int .i64 n] W λe w'=>e=.returned (.agg #[.int .i64 1,.int .i64 n,.string ⟨#[]⟩])/\Touch [] W w'):=λn W=>by
  refine(whole_any n W).mono ?_;rintro e w' ⟨rfl,hw⟩;rw[hw];exact⟨rfl,tr_.alloc _⟩
 go_enter func31,ntmps31
 go_wp2_with (first|(go_at_call 30;refine(HT.out w).mono ?_;rintro e w1 ⟨bk,so,sn,sc,rfl,hTab⟩;have HTAB:Hid (∃vs rows,Td (w.alloc (.cells #[.int .i64 3] 3)) w1 [3] bk (.slice so sn sc) vs rows):=hTab;clear hTab)|(go_at_call 33;refine(HW.out _ _ _ _).mono ?_;rintro e w2 ⟨gp,rfl,hP,hT⟩;have HPL:Hid (PL w2 gp nM (.slice (some ⟨w1.heap.size,0,none⟩) 1 1)):=hP;have HT2:Hid (Touch [] (w1.alloc (.cells #[.int .i64 1,.bool false,.bool false] 73)) w2):=hT;clear hP hT)|(go_at_call 32;refine(ask_one w w1 w2 bk gp so sn sc HTAB.out HPL.out HT2.out).mono ?_;rintro e w3 ⟨g,o,c,rb,off,cap,rfl,c0,hcap,⟨x0,x1,x2⟩,hK⟩;have HKP:Hid (Kept w.heap.size w w3):=hK;clear hK;obtain⟨k1,k2⟩:=hcap))
 have HC:Hid (∀W,Touch [] w3 W->W.cell? ⟨g,o,none⟩=some (.slice (some ⟨rb,off,none⟩) 4 cap)/\W.cell? ⟨rb,off,none⟩=some (.int .i64 1)/\W.cell? ⟨rb,off+1,none⟩=some (.int .i64 (-7))/\W.cell? ⟨rb,off+1+1,none⟩=some (.string ⟨#[]⟩)):=λW t=>⟨cO c0 t,cO x0 t,cO x1 t,cO x2 t⟩
 go_region_held3 (λw'=>w'.cell? ⟨g,o,none⟩=some (.slice (some ⟨rb,off,none⟩) 4 cap)/\w'.cell? ⟨rb,off,none⟩=some (.int .i64 1)/\w'.cell? ⟨rb,off+1,none⟩=some (.int .i64 (-7))/\w'.cell? ⟨rb,off+1+1,none⟩=some (.string ⟨#[]⟩)) (go_keep) (first|(go_at_call 61;refine(HWH.out _ _).mono ?_;rintro e w4 ⟨rfl,hT4⟩;have HT4:Hid (Touch [] w3 w4):=(tr_.drew).trans hT4;clear hT4;obtain⟨y0,y1,y2,y3⟩:=HC.out w4 HT4.out))
 all_goals
  go_wp2;go_ret;exact⟨by rfl,HKP.out.trans HT4.out.kept⟩
theorem Rt.quiet {v:Value}(h:Rt w v raw)(t:Touch [] w W):Rt W v raw:=by
 obtain⟨h1,h2,ao,cap,e,hx⟩:=h;refine⟨h1,h2,ao,cap,e,λhn=>?_⟩;obtain⟨b,off,e2,hx⟩:=hx hn;exact⟨b,off,e2,λj hj=>cO (hx j hj) t⟩
theorem roomy_any (w:World)(b f u:Int)(hb:I64 b)(hf:I64 f)(hu:I64 u) :
  Calls prog 37 #[.agg #[.int .i64 b,.int .i64 f,.int .i64 u]] w λe w'=>∃blk fan bud:Nat,e=.returned (.agg #[.int .i64 (blk:Int),.int .i64 (fan:Int),.int .i64 (bud:Int)])/\(192<=blk/\blk<=640)/\(2<=fan/\fan<=16)/\(4*blk<=bud/\6400<=bud/\bud<=110000)/\Touch [] w w':=by
 have HF:Hid (∀W,Calls prog 34 #[.agg #[.int .i64 b,.int .i64 f,.int .i64 u]] W λe w'=>∃blk fan bud:Nat,e=.returned (.agg #[.int .i64 (blk:Int),.int .i64 (fan:Int),.int .i64 (bud:Int)])/\(64<=blk/\blk<=512)/\(2<=fan/\fan<=16)/\(4*blk<=bud/\bud<=100000)/\Touch [] W w'):=λW=>fit_any W b f u hb hf hu;go_enter func37,ntmps37
 go_upto_region 2 with(first|(go_at_call 34;refine(HF.out _).mono ?_;rintro e w1 ⟨blk,fan,bud,rfl,h1,h2,h3,hT⟩;have hB:w1.heap[w.heap.size]?=some (.cells #[.int .i64 b,.int .i64 f,.int .i64 u] 51 (0,0)):=hT.tu 51 _ _ _ ((Below.heap_alloc _ _ _ (by simp)).trans (heap_alloc_new w _));obtain⟨c0,c1,c2⟩:=bD hB;have f0:w1.frozen? ⟨w.heap.size,0,none⟩=false:=(by simp[World.frozen?,hB]);have f1:w1.frozen? ⟨w.heap.size,1,none⟩=false:=(by simp[World.frozen?,hB]);have f2:w1.frozen? ⟨w.heap.size,2,none⟩=false:=(by simp[World.frozen?,hB]);have q1:IntKind.i64.wrap ((blk:Int)+128)=(blk:Int)+128:=(wrap_small _ (by omega) (by omega));have q2:IntKind.i64.wrap ((bud:Int)+6400)=(bud:Int)+6400:=(wrap_small _ (by omega) (by omega));have H123:Hid ((64<=blk/\blk<=512)/\(2<=fan/\fan<=16)/\(4*blk<=bud/\bud<=100000)):=⟨h1,h2,h3⟩;clear h1 h2 h3;have l0:=lt_of_cell c0;have HT:Hid (Touch [] ((w.alloc (.cells #[.int .i64 b,.int .i64 f,.int .i64 u] 51)).alloc (.cells #[.int .i64 0,.int .i64 0,.int .i64 0] 51)) w1):=hT;have HD:Hid (w1.heap[w.heap.size+1]?=some (.cells #[.int .i64 0,.int .i64 0,.int .i64 0] 51 (0,0))):=hT.tu 51 _ _ _ (new2 _ _ _);have HB:Hid (w1.heap[w.heap.size]?=some (.cells #[.int .i64 b,.int .i64 f,.int .i64 u] 51 (0,0))):=hB;clear hT hB))
 have hB3:(((w1.setCell ⟨w.heap.size,0,none⟩ (.int .i64 (blk:Int))).setCell ⟨w.heap.size,1,none⟩ (.int .i64 (fan:Int))).setCell ⟨w.heap.size,2,none⟩ (.int .i64 (bud:Int))).heap[w.heap.size]?=some (.cells #[.int .i64 (blk:Int),.int .i64 (fan:Int),.int .i64 (bud:Int)] 51 (0,0)):=by
  rw[heap_setCell_same _ w.heap.size 2 _ 51 _ (heap_setCell_same _ w.heap.size 1 _ 51 _ (heap_setCell_same w1 w.heap.size 0 _ 51 _ HB.out))];simp
 have hT3:Touch [] w (((w1.setCell ⟨w.heap.size,0,none⟩ (.int .i64 (blk:Int))).setCell ⟨w.heap.size,1,none⟩ (.int .i64 (fan:Int))).setCell ⟨w.heap.size,2,none⟩ (.int .i64 (bud:Int))):=(((tr_.alloc _).alloc _).trans HT.out).more ((((Touch.refl [w.heap.size] _).setCell (p:=⟨w.heap.size,0,none⟩) (by simp) _).setCell (p:=⟨w.heap.size,1,none⟩) (by simp) _).setCell (p:=⟨w.heap.size,2,none⟩) (by simp) _) (λi hi=>.inr (by rw[ms_ hi];exact e_ _));have HT3:Hid (Touch [] w (((w1.setCell ⟨w.heap.size,0,none⟩ (.int .i64 (blk:Int))).setCell ⟨w.heap.size,1,none⟩ (.int .i64 (fan:Int))).setCell ⟨w.heap.size,2,none⟩ (.int .i64 (bud:Int)))):=hT3;have HD2:Hid ((((w1.setCell ⟨w.heap.size,0,none⟩ (.int .i64 (blk:Int))).setCell ⟨w.heap.size,1,none⟩ (.int .i64 (fan:Int))).setCell ⟨w.heap.size,2,none⟩ (.int .i64 (bud:Int))).heap[w.heap.size+1]?=some (.cells #[.int .i64 0,.int .i64 0,.int .i64 0] 51 (0,0))):=by
  show _=_;rw[heap_setCell_other _ _ (w.heap.size+1) _ (by simp),heap_setCell_other _ _ (w.heap.size+1) _ (by simp),heap_setCell_other _ _ (w.heap.size+1) _ (by simp)];exact HD.out
 clear hT3 c0 c1 c2 f0 f1 f2 HB HT HD;generalize ((w1.setCell ⟨w.heap.size,0,none⟩ (.int .i64 (blk:Int))).setCell ⟨w.heap.size,1,none⟩ (.int .i64 (fan:Int))).setCell ⟨w.heap.size,2,none⟩ (.int .i64 (bud:Int))=w2 at *;obtain⟨c0,c1,c2⟩:=bD hB3;have f0:w2.frozen? ⟨w.heap.size,0,none⟩=false:=by simp[World.frozen?,hB3]
 have f2:w2.frozen? ⟨w.heap.size,2,none⟩=false:=by simp[World.frozen?,hB3]
 have HB3:Hid (w2.heap[w.heap.size]?=some (.cells #[.int .i64 (blk:Int),.int .i64 (fan:Int),.int .i64 (bud:Int)] 51 (0,0))):=hB3;clear hB3
 go_upto_region 4 with fail
 have hB4:((w2.setCell ⟨w.heap.size,0,none⟩ (.int .i64 ((blk:Int)+128))).setCell ⟨w.heap.size,2,none⟩ (.int .i64 ((bud:Int)+6400))).heap[w.heap.size]?=some (.cells #[.int .i64 ((blk:Int)+128),.int .i64 (fan:Int),.int .i64 ((bud:Int)+6400)] 51 (0,0)):=by
  rw[heap_setCell_same _ w.heap.size 2 _ 51 _ (heap_setCell_same w2 w.heap.size 0 _ 51 _ HB3.out)];simp
 have hD4:((w2.setCell ⟨w.heap.size,0,none⟩ (.int .i64 ((blk:Int)+128))).setCell ⟨w.heap.size,2,none⟩ (.int .i64 ((bud:Int)+6400))).heap[w.heap.size+1]?=some (.cells #[.int .i64 0,.int .i64 0,.int .i64 0] 51 (0,0)):=by
  rw[heap_setCell_other _ _ (w.heap.size+1) _ (by simp),heap_setCell_other _ _ (w.heap.size+1) _ (by simp)];exact HD2.out
 have HT4:Hid (Touch [] w ((w2.setCell ⟨w.heap.size,0,none⟩ (.int .i64 ((blk:Int)+128))).setCell ⟨w.heap.size,2,none⟩ (.int .i64 ((bud:Int)+6400)))):=HT3.out.more (((Touch.refl [w.heap.size] _).setCell (p:=⟨w.heap.size,0,none⟩) (by simp) _).setCell (p:=⟨w.heap.size,2,none⟩) (by simp) _) (λi hi=>.inr (by rw[ms_ hi];exact e_ _));clear c0 c1 c2 f0 f2 HB3 HT3 HD2;generalize (w2.setCell ⟨w.heap.size,0,none⟩ (.int .i64 ((blk:Int)+128))).setCell ⟨w.heap.size,2,none⟩ (.int .i64 ((bud:Int)+6400))=w3 at *;obtain⟨c0,c1,c2⟩:=bD hB4;obtain⟨d0,d1,d2⟩:=bD hD4;have f0:w3.frozen? ⟨w.heap.size+1,0,none⟩=false:=by simp[World.frozen?,hD4]
 have f1:w3.frozen? ⟨w.heap.size+1,1,none⟩=false:=by simp[World.frozen?,hD4]
 have f2:w3.frozen? ⟨w.heap.size+1,2,none⟩=false:=by simp[World.frozen?,hD4]
 go_wp2;have hD5:(((w3.setCell ⟨w.heap.size+1,0,none⟩ (.int .i64 ((blk:Int)+128))).setCell ⟨w.heap.size+1,1,none⟩ (.int .i64 (fan:Int))).setCell ⟨w.heap.size+1,2,none⟩ (.int .i64 ((bud:Int)+6400))).heap[w.heap.size+1]?=some (.cells #[.int .i64 ((blk:Int)+128),.int .i64 (fan:Int),.int .i64 ((bud:Int)+6400)] 51 (0,0)):=by
  rw[heap_setCell_same _ (w.heap.size+1) 2 _ 51 _ (heap_setCell_same _ (w.heap.size+1) 1 _ 51 _ (heap_setCell_same w3 (w.heap.size+1) 0 _ 51 _ hD4))];simp
 have HT5:Hid (Touch [] w (((w3.setCell ⟨w.heap.size+1,0,none⟩ (.int .i64 ((blk:Int)+128))).setCell ⟨w.heap.size+1,1,none⟩ (.int .i64 (fan:Int))).setCell ⟨w.heap.size+1,2,none⟩ (.int .i64 ((bud:Int)+6400)))):=HT4.out.more ((((Touch.refl [w.heap.size+1] _).setCell (p:=⟨w.heap.size+1,0,none⟩) (by simp) _).setCell (p:=⟨w.heap.size+1,1,none⟩) (by simp) _).setCell (p:=⟨w.heap.size+1,2,none⟩) (by simp) _) (λi hi=>.inr (by rw[ms_ hi];exact Nat.le_succ _));clear c0 c1 c2 d0 d1 d2 f0 f1 f2 hB4 hD4 HT4;generalize ((w3.setCell ⟨w.heap.size+1,0,none⟩ (.int .i64 ((blk:Int)+128))).setCell ⟨w.heap.size+1,1,none⟩ (.int .i64 (fan:Int))).setCell ⟨w.heap.size+1,2,none⟩ (.int .i64 ((bud:Int)+6400))=w4 at *;obtain⟨c0,c1,c2⟩:=bD hD5;obtain⟨⟨h1,h2⟩,⟨h3,h4⟩,⟨h5,h6⟩⟩:=H123.out;exact bodyPost_ret (v:=.agg #[.int .i64 ((blk:Int)+128),.int .i64 (fan:Int),.int .i64 ((bud:Int)+6400)]) (by simp[results,results37,go_sem,c0,c1,c2]) rfl ⟨blk+128,fan,bud+6400,by simp,⟨by omega,by omega⟩,⟨h3,h4⟩,⟨by omega,by omega⟩,HT5.out⟩
theorem info73:(prog.info? 73).map (λi=>(i.zero,i.size,i.bytes))=some (some (.agg #[.int .i64 0,.bool false,.bool false]),3,16):=by kernel_rfl
def keyOf (c:Int):K:=⟨c,false,false⟩
def KP (W:World)(g k:Nat)(cols:List Int):Prop:=∃cs,W.heap[g]?=some (.cells cs 73 (0,0))/\cs.size=cols.length*3/\∀i (h:i<cols.length),cs[i*3]?=some (.int .i64 (if i<k then cols[i]else 0))/\cs[i*3+1]?=some (.bool false)/\cs[i*3+1+1]?=some (.bool false)
theorem make_keys (n:Nat)(hn:n<=1000):∃M:Array Value,M.size=n*3/\(∀i,i<n->M[i*3]?=some (.int .i64 0)/\M[i*3+1]?=some (.bool false)/\M[i*3+1+1]?=some (.bool false))/\∀W:World,(Instr.makeSlice 74 (.int .i64 (n:Int)) (.int .i64 (n:Int))).run prog W=.ok (.slice (some ⟨W.heap.size,0,none⟩) n n) (W.alloc (.cells M 73)):=by
 obtain⟨i0,hi,hz0,hz1,hz2⟩:=info_parts info73;refine⟨madeCells (Value.agg #[.int .i64 0,.bool false,.bool false]).cells (((n:Nat):Int).toNat*i0.size),by rw[size_madeCells,hz1];simp,λj hj=>?_,λW=>?_⟩
 ·rw[hz1];have e0:j*3%3=0:=by omega
  have e1:(j*3+1)%3=1:=by omega
  have e2:(j*3+1+1)%3=2:=by omega
  have l0:j*3<n*3:=by omega
  have l1:j*3+1<n*3:=by omega
  have l2:j*3+1+1<n*3:=by omega
  refine⟨?_,?_,?_⟩
  ·simp[madeCells,l0,Value.cells,e0]
  ·simp[madeCells,l1,Value.cells,e1]
  ·simp[madeCells,l2,Value.cells,e2]
 ·have h:=run_make (P:=prog) W 74 73 i0 (.agg #[.int .i64 0,.bool false,.bool false]) underlying74 hi hz0 .i64 .i64 (n:Int) (n:Int) (by omega) (by omega) (by rw[hz2];omega) (by omega);simpa using h
theorem KP.set (h:KP W g k cols)(hk:k<cols.length):KP (W.setCell ⟨g,k*3,none⟩ (.int .i64 cols[k])) g (k+1) cols:=by
 obtain⟨cs,h1,h2,h3⟩:=h;refine⟨cs.setIfInBounds (k*3) (.int .i64 cols[k]),heap_setCell_same W g (k*3) cs 73 _ h1,by simpa using h2,λi hi=>?_⟩;obtain⟨a,b,c⟩:=h3 i hi;refine⟨?_,?_,?_⟩
 ·by_cases e:i=k
  ·subst e;rw[Array.getElem?_setIfInBounds_self_of_lt (by omega),if_pos (by omega)]
  ·rw[be_ (by omega),a];by_cases hik:i<k
   ·rw[if_pos hik,if_pos (by omega)]
   ·rw[if_neg hik,if_neg (by omega)]
 ·rw[be_ (by omega),b]
 ·rw[be_ (by omega),c]
theorem KP.cell {W:World}{g k:Nat}{cols:List Int}(h:KP W g k cols)(hk:k<cols.length):W.cell? ⟨g,k*3,none⟩=some (.int .i64 0)/\W.frozen? ⟨g,k*3,none⟩=false:=by
 obtain⟨cs,h1,h2,h3⟩:=h;obtain⟨a,_,_⟩:=h3 k hk;rw[if_neg (by omega)]at a;exact⟨by simp only[World.cell?,h1];exact a,by simp[World.frozen?,h1]⟩
theorem KP.full (h:KP W g cols.length cols)(hc:cols.length<=1000):KA W (.slice (some ⟨g,0,none⟩) cols.length cols.length) (cols.map keyOf):=by
 obtain⟨cs,h1,h2,h3⟩:=h;refine⟨some ⟨g,0,none⟩,cols.length,by simp,by simp,by unfold maxLen;omega,λ_=>⟨g,0,cs,_,rfl,h1,λi hi=>?_⟩⟩;simp only[u_]at hi;obtain⟨a,b,c⟩:=h3 i hi;rw[if_pos hi]at a;simp only[U_,ax_];exact⟨a,b,c⟩
theorem bU (w:World)(v:Value)(cols:List Int)(h:Rt w v cols)(hc:cols.length<=1000) :
  Calls prog 142 #[v] w λe w'=>∃g,e=.returned (.slice (some ⟨g,0,none⟩) cols.length cols.length)/\KA w' (.slice (some ⟨g,0,none⟩) cols.length cols.length) (cols.map keyOf)/\Touch [] w w':=by
 obtain⟨_,_,ao,cap,rfl,hx⟩:=h;obtain⟨M,hM1,hM2,hM3⟩:=make_keys cols.length hc;have HST:Hid (KP (w.alloc (.cells M 73)) w.heap.size 0 cols):=⟨M,heap_alloc_new w _,hM1,λi hi=>by
  obtain⟨a,b,c⟩:=hM2 i hi;exact⟨by rw[if_neg (by omega)];exact a,b,c⟩⟩
 have HX:Hid (1<=cols.length->∃b off,ao=some ⟨b,off,none⟩/\∀j (h:j<cols.length),w.cell? ⟨b,off+j,none⟩=some (.int .i64 cols[j])):=hx;have HDONE:Hid (∀W,KP W w.heap.size cols.length cols->KA W (.slice (some ⟨w.heap.size,0,none⟩) cols.length cols.length) (cols.map keyOf)):=λW h=>h.full hc;clear hx hM1 hM2;go_enter func142,ntmps142;go_wp2
 go_loopw [11] (λi wr=>∃k:Nat,k<=cols.length/\i=.int .i64 (k:Int)/\KP wr w.heap.size k cols/\Touch [] w wr) (λi _=>cols.length-(intOf i).toNat)
 case atStart=>exact⟨0,by omega,rfl,HST.out,tr_.alloc _⟩
 case round=>
  obtain⟨k,hk,rfl,hP,hT⟩:=hrel;by_cases hlt:k<cols.length
  ·obtain⟨b,off,rfl,hx⟩:=HX.out (by omega);have c0:=cO (hx k hlt) hT;obtain⟨c1,f1⟩:=hP.cell hlt;have HP:Hid (KP (wr.setCell ⟨w.heap.size,k*3,none⟩ (.int .i64 cols[k])) w.heap.size (k+1) cols):=hP.set hlt;have HT:Hid (∀u,Touch [] w (wr.setCell ⟨w.heap.size,k*3,none⟩ u)):=λu=>hT.more ((Touch.refl [w.heap.size] _).setCell (p:=⟨w.heap.size,k*3,none⟩) (by simp) u) (λi hi=>.inr (by rw[ms_ hi];exact e_ _));clear hx hP hT;generalize cols[k]=ck at *;go_wp2
   go_roundw
   case rel=>exact⟨k+1,by omega,by go_num,HP.out,HT.out _⟩
   case measure=>simp[intOf];omega
  ·obtain rfl:k=cols.length:=by omega
   have HK:=HDONE.out wr hP;have HK2:Hid (KA wr (.slice (some ⟨w.heap.size,0,none⟩) cols.length cols.length) (cols.map keyOf)):=HK;have HT:Hid (Touch [] w wr):=hT;clear HK hP hT;go_wp2;go_ret;exact⟨w.heap.size,rfl,HK2.out,HT.out⟩
end Go.Proofs.YtjoinhljdbljaaaGreat
namespace Go.Proofs.YtjoinhljdbljaaaGreat
open Go.RowKit Go.Proofs.Tryz
variable {B N al bm bx g k q r:Nat} {W0 w w' w1:World} {d:DS} {no:Int} {row:List V} {s s2:ByteArray}
structure ND where
 op:Int
 l:Int
 r:Int
 tb:ByteArray
 kv:Value
 cnt:Int
 cv:Value
 ov:Value
 sv:Value
def ND.cells (n:ND):Array Value:=#[.int .i64 n.op,.int .i64 n.l,.int .i64 n.r,.string n.tb,n.kv,.int .i64 n.cnt,n.cv,n.ov,n.sv]
def KZ:K:=⟨0,false,false⟩
def ND.val (n:ND):Value:=.agg n.cells
def cZ:List Int->List Int->List V->List V->Int
 | c::cs,o::os,l,r=>if caq KZ (l.getD c.toNat V0) (r.getD o.toNat V0)≠0 then caq KZ (l.getD c.toNat V0) (r.getD o.toNat V0)else cZ cs os l r
 | _,_,_,_=>0
theorem caA {cols others:List Int}(l r:List V)(h:k<cols.length)(h':k<others.length):cZ (cols.drop k) (others.drop k) l r=if caq KZ (l.getD cols[k].toNat V0) (r.getD others[k].toNat V0)≠0 then caq KZ (l.getD cols[k].toNat V0) (r.getD others[k].toNat V0)else cZ (cols.drop (k+1)) (others.drop (k+1)) l r:=by
 rw[J_ h,J_ h'];rfl
theorem box9 {n:ND}{t:TypeId}(h:w.heap[k]?=some (.cells n.cells t (0,0))):w.cell? ⟨k,0,none⟩=some (.int .i64 n.op)/\w.cell? ⟨k,1,none⟩=some (.int .i64 n.l)/\w.cell? ⟨k,2,none⟩=some (.int .i64 n.r)/\w.cell? ⟨k,3,none⟩=some (.string n.tb)/\w.cell? ⟨k,4,none⟩=some n.kv/\w.cell? ⟨k,5,none⟩=some (.int .i64 n.cnt)/\w.cell? ⟨k,6,none⟩=some n.cv/\w.cell? ⟨k,7,none⟩=some n.ov/\w.cell? ⟨k,8,none⟩=some n.sv:=by
 simp[World.cell?,h,ND.cells]
structure Si (w:World)(n:ND)(cols others:List Int)(la ra:Nat):Prop where
 cv:Rt w n.cv cols
 ov:Rt w n.ov others
 len:others.length=cols.length
 lin:∀c∈cols,0<=c/\c<la
 rin:∀c∈others,0<=c/\c<ra
 few:cols.length<=1000
theorem cav (w:World)(n:ND)(lo ro:Option Addr)(ln lc rn rc:Nat)(cols others:List Int)(left right:List V)(h:Si w n cols others left.length right.length)(hl:Ro w (.slice lo ln lc) left)(hr:Ro w (.slice ro rn rc) right) :
  Calls prog 184 #[.agg n.cells,.slice lo ln lc,.slice ro rn rc] w λe w'=>e=.returned (.int .i64 (cZ cols others left right))/\Touch [] w w':=by
 obtain⟨op,nl,nr,tb,kv,cnt,cv,ov,sv⟩:=n;obtain⟨⟨_,_,co,cc,rfl,hx⟩,⟨_,_,oo,oc,rfl,hy⟩,hlen,hlin,hrin,hfew⟩:=h;have HX:Hid (1<=cols.length->∃b off,co=some ⟨b,off,none⟩/\∀j (h:j<cols.length),w.cell? ⟨b,off+j,none⟩=some (.int .i64 cols[j])):=hx;have HY:Hid (1<=others.length->∃b off,oo=some ⟨b,off,none⟩/\∀j (h:j<others.length),w.cell? ⟨b,off+j,none⟩=some (.int .i64 others[j])):=hy;have HL:Hid (Ro w (.slice lo ln lc) left):=hl;have HR:Hid (Ro w (.slice ro rn rc) right):=hr;have HLEN:Hid (others.length=cols.length):=hlen;have HIN:Hid ((∀c∈cols,0<=c/\c<left.length)/\∀c∈others,0<=c/\c<right.length):=⟨hlin,hrin⟩;have HB:Hid (∀W,Touch [] (w.alloc (.cells #[.int .i64 op,.int .i64 nl,.int .i64 nr,.string tb,kv,.int .i64 cnt,.slice co cols.length cc,.slice oo others.length oc,sv] 79)) W->W.cell? ⟨w.heap.size,7,none⟩=some (.slice oo others.length oc)):=λW hW=>cO (by simp only[World.cell?,heap_alloc_new];rfl) hW;clear hx hy hl hr hlen hlin hrin;unfold ND.cells;go_enter func184,ntmps184;go_wp2
 go_loopw [13] (λi wr=>∃k:Nat,k<=cols.length/\i=.int .i64 (k:Int)/\cZ cols others left right=cZ (cols.drop k) (others.drop k) left right/\Touch [] (w.alloc (.cells #[.int .i64 op,.int .i64 nl,.int .i64 nr,.string tb,kv,.int .i64 cnt,.slice co cols.length cc,.slice oo others.length oc,sv] 79)) wr) (λi _=>cols.length-(intOf i).toNat)
 case atStart=>exact⟨0,by omega,rfl,by simp,tr_⟩
 case round=>
  obtain⟨k,hk,rfl,hE,hT⟩:=hrel;have HE:Hid (cZ cols others left right=cZ (cols.drop k) (others.drop k) left right):=hE;have HT0:Hid (Touch [] (w.alloc (.cells #[.int .i64 op,.int .i64 nl,.int .i64 nr,.string tb,kv,.int .i64 cnt,.slice co cols.length cc,.slice oo others.length oc,sv] 79)) wr):=hT;have HT:Hid (Touch [] w wr):=(tr_.alloc _).trans hT;clear hE hT;by_cases hlt:k<cols.length
  ·have hlto:k<others.length:=by have:=HLEN.out;omega
   obtain⟨b,off,rfl,hx⟩:=HX.out (by omega);obtain⟨ob,ooff,rfl,hy⟩:=HY.out (by omega);have c0:=cO (hx k hlt) HT.out;obtain⟨hi0,hi1⟩:=HIN.out.1 cols[k] (m_ hlt);obtain⟨hj0,hj1⟩:=HIN.out.2 others[k] (m_ hlto);obtain⟨c,hcc⟩:∃c:Nat,cols[k]=(c:Int):=⟨cols[k].toNat,by omega⟩;obtain⟨o,hoc⟩:∃o:Nat,others[k]=(o:Int):=⟨others[k].toNat,by omega⟩;rw[hcc]at c0 hi1;rw[hoc]at hj1;have hcl2:c<left.length:=by omega
   have hol2:o<right.length:=by omega
   obtain⟨lb,loff,lcap,el,hlc1,hlc2,hlx⟩:=HL.out.cells (by omega);simp only[Value.slice.injEq]at el;obtain⟨rfl,rfl,rfl⟩:=el;obtain⟨rb,roff,rP,er,hrc1,hrc2,hrx⟩:=HR.out.cells (by omega);simp only[Value.slice.injEq]at er;obtain⟨rfl,rfl,rfl⟩:=er;obtain⟨x0,x1,x2⟩:=hlx c hcl2;obtain⟨z0,z1,z2⟩:=hrx o hol2;have y0:=hy k hlto;rw[hoc]at y0;have HC:Hid (left.getD cols[k].toNat V0=left[c]/\right.getD others[k].toNat V0=right[o]):=by{ unfold Hid;rw[hcc,hoc,Int.toNat_natCast,Int.toNat_natCast,V_,p_ hcl2,V_,p_ hol2];exact⟨rfl,rfl⟩ }
   have HNZ:Hid (caq KZ left[c] right[o]≠0->cZ cols others left right=caq KZ left[c] right[o]):=λh=>by rw[HE.out,caA left right hlt hlto,HC.out.1,HC.out.2,if_pos h]
   have HZ:Hid (caq KZ left[c] right[o]=0->cZ cols others left right=cZ (cols.drop (k+1)) (others.drop (k+1)) left right):=λh=>by rw[HE.out,caA left right hlt hlto,HC.out.1,HC.out.2,if_neg (λe=>e h)]
   have HSK:Hid (∀W',Touch [] (w.alloc (.cells #[.int .i64 op,.int .i64 nl,.int .i64 nr,.string tb,kv,.int .i64 cnt,.slice (some ⟨b,off,none⟩) cols.length cc,.slice (some ⟨ob,ooff,none⟩) others.length oc,sv] 79)) W'->W'.cell? ⟨w.heap.size,7,none⟩=some (.slice (some ⟨ob,ooff,none⟩) others.length oc)/\W'.cell? ⟨ob,ooff+k,none⟩=some (.int .i64 (o:Int))/\(W'.cell? ⟨lb,loff+c*3,none⟩=some (.int .i64 left[c].k)/\W'.cell? ⟨lb,loff+c*3+1,none⟩=some (.int .i64 left[c].n)/\W'.cell? ⟨lb,loff+c*3+1+1,none⟩=some (.string left[c].s))/\(W'.cell? ⟨rb,roff+o*3,none⟩=some (.int .i64 right[o].k)/\W'.cell? ⟨rb,roff+o*3+1,none⟩=some (.int .i64 right[o].n)/\W'.cell? ⟨rb,roff+o*3+1+1,none⟩=some (.string right[o].s))):=λW' t0=>by
    have t:Touch [] w W':=(tr_.alloc _).trans t0;exact⟨HB.out W' t0,cO y0 t,⟨cO x0 t,cO x1 t,cO x2 t⟩,⟨cO z0 t,cO z1 t,cO z2 t⟩⟩
   have HCV:Hid (∀W,Calls prog 177 #[left[c].val,right[o].val,KZ.val] W λe w'=>e=.returned (.int .i64 (caq KZ left[c] right[o]))/\Touch [] W w'):=cau left[c] right[o] KZ;clear hx hy hlx hrx x0 x1 x2 z0 z1 z2 y0 HC;generalize left[c]=a at *;generalize right[o]=d at *;generalize caq KZ a d=r at *;obtain⟨ak,an,ax⟩:=a;obtain⟨dk,dn,dx⟩:=d;unfold V.val K.val KZ at HCV;simp only at HSK HCV;obtain⟨m0,m7,⟨m1,m2,m3⟩,⟨m4,m5,m6⟩⟩:=HSK.out wr HT0.out
   go_upto_region 4 with fail
   by_cases hr0:r=0
   ·go_region_held3 (λw'=>w'.cell? ⟨w.heap.size,7,none⟩=some (.slice (some ⟨ob,ooff,none⟩) others.length oc)/\w'.cell? ⟨ob,ooff+k,none⟩=some (.int .i64 (o:Int))/\(w'.cell? ⟨lb,loff+c*3,none⟩=some (.int .i64 ak)/\w'.cell? ⟨lb,loff+c*3+1,none⟩=some (.int .i64 an)/\w'.cell? ⟨lb,loff+c*3+1+1,none⟩=some (.string ax))/\(w'.cell? ⟨rb,roff+o*3,none⟩=some (.int .i64 dk)/\w'.cell? ⟨rb,roff+o*3+1,none⟩=some (.int .i64 dn)/\w'.cell? ⟨rb,roff+o*3+1+1,none⟩=some (.string dx))) (go_keep) (first|(go_at_call 177;refine(HCV.out _).mono ?_;rintro e w1 ⟨rfl,hT1⟩;have HT1:Hid (Touch [] (w.alloc (.cells #[.int .i64 op,.int .i64 nl,.int .i64 nr,.string tb,kv,.int .i64 cnt,.slice (some ⟨b,off,none⟩) cols.length cc,.slice (some ⟨ob,ooff,none⟩) others.length oc,sv] 79)) w1):=(HT0.out.drew).trans hT1;obtain⟨n0,n7,⟨n1,n2,n3⟩,⟨n4,n5,n6⟩⟩:=HSK.out w1 HT1.out;clear hT1))
    all_goals
     subst hr0;have HZ2:=HZ.out rfl;have HZ3:Hid (cZ cols others left right=cZ (cols.drop (k+1)) (others.drop (k+1)) left right):=HZ2;clear HZ2 HZ HNZ;go_wp2
     go_roundw
     case rel=>exact⟨k+1,by omega,by go_num,HZ3.out,HT1.out⟩
     case measure=>simp[intOf];omega
   ·go_region_held3 (λw'=>w'.cell? ⟨w.heap.size,7,none⟩=some (.slice (some ⟨ob,ooff,none⟩) others.length oc)/\w'.cell? ⟨ob,ooff+k,none⟩=some (.int .i64 (o:Int))/\(w'.cell? ⟨lb,loff+c*3,none⟩=some (.int .i64 ak)/\w'.cell? ⟨lb,loff+c*3+1,none⟩=some (.int .i64 an)/\w'.cell? ⟨lb,loff+c*3+1+1,none⟩=some (.string ax))/\(w'.cell? ⟨rb,roff+o*3,none⟩=some (.int .i64 dk)/\w'.cell? ⟨rb,roff+o*3+1,none⟩=some (.int .i64 dn)/\w'.cell? ⟨rb,roff+o*3+1+1,none⟩=some (.string dx))) (go_keep) (first|(go_at_call 177;refine(HCV.out _).mono ?_;rintro e w1 ⟨rfl,hT1⟩;have HT1:Hid (Touch [] (w.alloc (.cells #[.int .i64 op,.int .i64 nl,.int .i64 nr,.string tb,kv,.int .i64 cnt,.slice (some ⟨b,off,none⟩) cols.length cc,.slice (some ⟨ob,ooff,none⟩) others.length oc,sv] 79)) w1):=(HT0.out.drew).trans hT1;obtain⟨n0,n7,⟨n1,n2,n3⟩,⟨n4,n5,n6⟩⟩:=HSK.out w1 HT1.out;clear hT1))
    all_goals
     have HNA:Hid (cZ cols others left right=r):=HNZ.out hr0;go_wp2;go_ret;refine⟨?_,(tr_.alloc _).trans HT1.out⟩;show Ending.returned (.int .i64 r)=_;rw[HNA.out]
  ·have hke:k=cols.length:=by omega
   go_wp2;go_ret;refine⟨?_,HT.out⟩;show Ending.returned (.int .i64 0)=_;rw[HE.out,hke];simp[cZ]
variable [Inhabited Ground]
structure MkR where
 lv:Value
 sp:Bool
 row:Value
 ok:Bool
def mD (m:MkR)(r k:Nat)(s:ByteArray):Array Value:=#[m.lv,.pointer (some ⟨r,0,none⟩),.int .i64 (k:Int),.string s,.bool m.sp,m.row,.bool m.ok]
def MK (m:MkR)(w:World)(q r k:Nat)(s:ByteArray):Prop:=w.heap[q]?=some (.cells (mD m r k s) 246 (0,0))
theorem boxK {m:MkR}(h:MK m w q r k s):w.cell? ⟨q,1,none⟩=some (.pointer (some ⟨r,0,none⟩))/\w.cell? ⟨q,2,none⟩=some (.int .i64 (k:Int))/\w.cell? ⟨q,3,none⟩=some (.string s):=by
 unfold MK at h;simp[World.cell?,h,mD]
theorem mnext_end (mk:MkR)(w:World)(q r k n bx blk file cols:Nat)(v:Value)(hq:MK mk w q r k ⟨#[]⟩)(hr:w.heap[r]?=some (.cells (rC bx blk file cols n v) 223 (0,0)))(hk:k=n) :
  Calls prog 117 #[.pointer (some ⟨q,1,none⟩)] w λe w'=>e=.returned (.tuple #[.agg #[.int .i64 0,.slice none 0 0],.bool false])/\Touch [] w w':=by
 subst hk;obtain⟨a0,a1,a2⟩:=boxK hq;obtain⟨c0,c1,c2,c3,c4,c5,_⟩:=bI hr;have hlt:=lt_of_cell a0;have hlt2:=lt_of_cell c0;simp only at hlt hlt2;have he:(ByteArray.toList ⟨#[]⟩).isEmpty=true:=by rw[ByteArray.toList_eq];rfl
 have hkk:((k:Int) == (k:Int))=true:=by simp
 clear hq hr;go_enter func117,ntmps117;go_wp2
 go_big_quiet (fail)
 go_wp2;exact bodyPost_ret (v:=.tuple #[.agg #[.int .i64 0,.slice none 0 0],.bool false]) (by simp[results,results117,go_sem]) rfl ⟨rfl,((tr_.alloc _).drewN nq).onto (((Touch.refl [w.heap.size] _).setCell (p:=⟨w.heap.size,0,none⟩) (by simp) _).setCell (p:=⟨w.heap.size,1,none⟩) (by simp) _) (λi hi=>.inr (by simp at hi;omega))⟩
theorem mnext_boxes {mk:MkR}(hq:MK mk w q r k s)(ht:Touch [] W0 w1)(h0:W0.heap=((w.alloc (.cells #[.int .i64 0,.slice none 0 0] 205)).alloc (.cells #[.int .i64 0,.slice none 0 0] 205)).heap) :
  w1.heap[w.heap.size]?=some (.cells #[.int .i64 0,.slice none 0 0] 205 (0,0))/\w1.heap[w.heap.size+1]?=some (.cells #[.int .i64 0,.slice none 0 0] 205 (0,0))/\MK mk w1 q r k s:=by
 refine⟨?_,?_,?_⟩
 ·rw[ht.block _ (by rw[h0];simp;omega) (by simp),h0,Below.heap_alloc _ _ _ (by simp)];exact heap_alloc_new w _
 ·have:=heap_alloc_new (w.alloc (.cells #[.int .i64 0,.slice none 0 0] 205)) (.cells #[.int .i64 0,.slice none 0 0] 205);rw[World.size_alloc]at this;rw[ht.block _ (by rw[h0];simp) (by simp),h0];exact this
 ·unfold MK at *;have hl:=(agi.1 hq).1;rw[ht.block _ (by rw[h0];simp;omega) (by simp),h0,Below.heap_alloc _ _ _ (by simp;omega),Below.heap_alloc _ _ _ hl];exact hq
theorem mnext_fin {mk:MkR}(hT:Touch [] w w1)(hq:q<w.heap.size)(bA:w1.heap[w.heap.size]?=some (.cells #[.int .i64 0,.slice none 0 0] 205 (0,0)))(bB:w1.heap[w.heap.size+1]?=some (.cells #[.int .i64 0,.slice none 0 0] 205 (0,0)))(bQ:MK mk w1 q r k s)(hG:Ro w1 (.slice (some ⟨g,0,none⟩) al al) row) :
  Ro (((((w1.setCell ⟨w.heap.size+1,0,none⟩ (.int .i64 no)).setCell ⟨w.heap.size+1,1,none⟩ (.slice (some ⟨g,0,none⟩) al al)).setCell ⟨q,3,none⟩ (.string s2)).setCell ⟨w.heap.size,0,none⟩ (.int .i64 no)).setCell ⟨w.heap.size,1,none⟩ (.slice (some ⟨g,0,none⟩) al al)) (.slice (some ⟨g,0,none⟩) al al) row /\
  MK mk (((((w1.setCell ⟨w.heap.size+1,0,none⟩ (.int .i64 no)).setCell ⟨w.heap.size+1,1,none⟩ (.slice (some ⟨g,0,none⟩) al al)).setCell ⟨q,3,none⟩ (.string s2)).setCell ⟨w.heap.size,0,none⟩ (.int .i64 no)).setCell ⟨w.heap.size,1,none⟩ (.slice (some ⟨g,0,none⟩) al al)) q r k s2 /\
  Touch [q] w (((((w1.setCell ⟨w.heap.size+1,0,none⟩ (.int .i64 no)).setCell ⟨w.heap.size+1,1,none⟩ (.slice (some ⟨g,0,none⟩) al al)).setCell ⟨q,3,none⟩ (.string s2)).setCell ⟨w.heap.size,0,none⟩ (.int .i64 no)).setCell ⟨w.heap.size,1,none⟩ (.slice (some ⟨g,0,none⟩) al al)):=by
 have t:=(((((Touch.refl [w.heap.size+1,q,w.heap.size] w1).setCell (p:=⟨w.heap.size+1,0,none⟩) (by simp) (.int .i64 no)).setCell (p:=⟨w.heap.size+1,1,none⟩) (by simp) (.slice (some ⟨g,0,none⟩) al al)).setCell (p:=⟨q,3,none⟩) (by simp) (.string s2)).setCell (p:=⟨w.heap.size,0,none⟩) (by simp) (.int .i64 no)).setCell (p:=⟨w.heap.size,1,none⟩) (by simp) (.slice (some ⟨g,0,none⟩) al al);refine⟨?_,?_,?_⟩
 ·refine Sl3.keep hG (t.tag (λi hi cs f e=>?_));simp only[a_,i_,or_false]at hi;rcases hi with rfl|rfl|rfl
  ·rw[bB]at e;simp at e
  ·rw[show w1.heap[i]?=_ from bQ]at e;simp at e
  ·rw[bA]at e;simp at e
 ·unfold MK at *;rw[Below.heap_setCell _ _ _ _ (by simp;omega),Below.heap_setCell _ _ _ _ (by simp;omega)];rw[heap_setCell_same _ q 3 (mD mk r k s) 246 (.string s2) (by rw[Below.heap_setCell _ _ _ _ (by simp;omega),Below.heap_setCell _ _ _ _ (by simp;omega)];exact bQ)];simp[mD]
 ·exact(hT.mono (by simp)).onto t (λi hi=>by
   simp only[a_,i_,or_false]at hi;rcases hi with rfl|rfl|rfl
   ·exact .inr (by omega)
   ·exact .inl (by simp)
   ·exact .inr (e_ _))
theorem mnext_have (mk:MkR)(w:World)(q r k n bx blk file:Nat)(v:Value)(x:Rec)(l:List UInt8)(hq:MK mk w q r k (BA (encR x++l)))(hr:w.heap[r]?=some (.cells (rC bx blk file x.row.length n v) 223 (0,0)))
  (hn:I64 x.no) (hf:∀y∈x.row,Fair y) (hc1:1<=x.row.length) (hc:x.row.length<=1000) :
  Calls prog 117 #[.pointer (some ⟨q,1,none⟩)] w λe w'=>∃g,e=.returned (.tuple #[.agg #[.int .i64 x.no,.slice (some ⟨g,0,none⟩) x.row.length x.row.length],.bool true])/\Ro w' (.slice (some ⟨g,0,none⟩) x.row.length x.row.length) x.row/\MK mk w' q r k (BA l)/\w.heap.size<=g/\Touch [q] w w':=by
 have HTK:Hid (∀W,Calls prog 158 #[.string (BA (encR x++l)),.int .i64 (x.row.length:Int)] W λe w'=>∃g,e=.returned (.tuple #[.agg #[.int .i64 x.no,.slice (some ⟨g,0,none⟩) x.row.length x.row.length],.string (BA l)])/\Ro w' (.slice (some ⟨g,0,none⟩) x.row.length x.row.length) x.row/\W.heap.size<=g/\Touch [] W w'):=λW=>take_any x hn hf hc1 hc l W;obtain⟨a0,a1,a2⟩:=boxK hq;obtain⟨c0,c1,c2,c3,c4,c5,_⟩:=bI hr;have hlt:=lt_of_cell a0;have hlt2:=lt_of_cell c0;simp only at hlt hlt2;have he:(BA (encR x++l)).toList.isEmpty=false:=by
  have h1:(BA (encR x++l)).toList=encR x++l:=by rw[ByteArray.toList_eq]
  rw[h1];have h2:=eY (r:=x) hf;unfold sZ at h2;cases h3:encR x++l with
  | nil=>have:=congrArg List.length h3;simp at this;rw[this.1]at h2;simp at h2;omega
  | cons=>rfl
 have HQ:Hid (MK mk w q r k (BA (encR x++l))):=hq;have HR:Hid (w.heap[r]?=some (.cells (rC bx blk file x.row.length n v) 223 (0,0))):=hr;clear hq hr hn hf;generalize BA (encR x++l)=s at *;generalize BA l=s2 at *;generalize hrow:x.row=row at *;generalize x.no=no at *;clear hrow;generalize hal:row.length=al at *;have HAL:Hid (row.length=al):=hal;clear hal;go_enter func117,ntmps117;go_wp2
 go_big_quiet (fail)
 go_wp2_with fail
 go_region_with (go_at_call 158;refine(HTK.out _).mono ?_;rintro e w1 ⟨g,rfl,hG1,hg1,hT1⟩;obtain⟨bA,bB,bQ⟩:=mnext_boxes HQ.out hT1 rfl;obtain⟨x0,x1⟩:=bF bA;obtain⟨y0,y1⟩:=bF bB;obtain⟨z0,z1,z2⟩:=boxK bQ;have g0:w1.frozen? ⟨w.heap.size,0,none⟩=false:=(by simp[World.frozen?,bA]);have g1:w1.frozen? ⟨w.heap.size,1,none⟩=false:=(by simp[World.frozen?,bA]);have g2:w1.frozen? ⟨w.heap.size+1,0,none⟩=false:=(by simp[World.frozen?,bB]);have g3:w1.frozen? ⟨w.heap.size+1,1,none⟩=false:=(by simp[World.frozen?,bB]);have g4:w1.frozen? ⟨q,3,none⟩=false:=(by simp[World.frozen?,show w1.heap[q]?=_ from bQ]);have HBA:Hid _:=bA;have HBB:Hid _:=bB;have HBQ:Hid (MK mk w1 q r k s):=bQ;clear bA bB bQ)
 all_goals
  have HT1:Hid (Touch [] w w1):=by
   refine Touch.trans ?_ hT1;exact((tr_.alloc (.cells #[.int .i64 0,.slice none 0 0] 205)).alloc (.cells #[.int .i64 0,.slice none 0 0] 205)).trans ⟨rfl,rfl,rfl,e_ _,λ_ _ _=>rfl⟩
  have HG1:Hid _:=hG1;have hgg:w.heap.size<=g:=by simp at hg1;omega
  clear hT1 hG1 a0 a1 a2 c0 c1 c2 c3 c4 c5 hg1;go_wp2;obtain⟨r1,r2,r3⟩:=mnext_fin (no:=no) (s2:=s2) HT1.out hlt HBA.out HBB.out HBQ.out HG1.out;exact bodyPost_ret (v:=.tuple #[.agg #[.int .i64 no,.slice (some ⟨g,0,none⟩) al al],.bool true]) (by simp[results,results117,go_sem,x0,x1]) rfl ⟨g,rfl,r1,r2,hgg,r3⟩
theorem mnext_fin2 {mk:MkR}{F:List Nat}(hT:Touch F w w1)(hqF:q∈F)(hN:w.heap.size<=N)(hB:w.heap.size<=B)(hNB:N≠B)(hqN:q≠N)(hqB:q≠B)(bA:w1.heap[N]?=some (.cells #[.int .i64 0,.slice none 0 0] 205 (0,0)))(bB:w1.heap[B]?=some (.cells #[.int .i64 0,.slice none 0 0] 205 (0,0)))(bQ:MK mk w1 q r k s)(hG:Ro w1 (.slice (some ⟨g,0,none⟩) al al) row) :
  Ro (((((w1.setCell ⟨B,0,none⟩ (.int .i64 no)).setCell ⟨B,1,none⟩ (.slice (some ⟨g,0,none⟩) al al)).setCell ⟨q,3,none⟩ (.string s2)).setCell ⟨N,0,none⟩ (.int .i64 no)).setCell ⟨N,1,none⟩ (.slice (some ⟨g,0,none⟩) al al)) (.slice (some ⟨g,0,none⟩) al al) row /\
  MK mk (((((w1.setCell ⟨B,0,none⟩ (.int .i64 no)).setCell ⟨B,1,none⟩ (.slice (some ⟨g,0,none⟩) al al)).setCell ⟨q,3,none⟩ (.string s2)).setCell ⟨N,0,none⟩ (.int .i64 no)).setCell ⟨N,1,none⟩ (.slice (some ⟨g,0,none⟩) al al)) q r k s2 /\
  Touch [B,q,N] w1 (((((w1.setCell ⟨B,0,none⟩ (.int .i64 no)).setCell ⟨B,1,none⟩ (.slice (some ⟨g,0,none⟩) al al)).setCell ⟨q,3,none⟩ (.string s2)).setCell ⟨N,0,none⟩ (.int .i64 no)).setCell ⟨N,1,none⟩ (.slice (some ⟨g,0,none⟩) al al)) /\
  Touch F w (((((w1.setCell ⟨B,0,none⟩ (.int .i64 no)).setCell ⟨B,1,none⟩ (.slice (some ⟨g,0,none⟩) al al)).setCell ⟨q,3,none⟩ (.string s2)).setCell ⟨N,0,none⟩ (.int .i64 no)).setCell ⟨N,1,none⟩ (.slice (some ⟨g,0,none⟩) al al)):=by
 have t:=(((((Touch.refl [B,q,N] w1).setCell (p:=⟨B,0,none⟩) (by simp) (.int .i64 no)).setCell (p:=⟨B,1,none⟩) (by simp) (.slice (some ⟨g,0,none⟩) al al)).setCell (p:=⟨q,3,none⟩) (by simp) (.string s2)).setCell (p:=⟨N,0,none⟩) (by simp) (.int .i64 no)).setCell (p:=⟨N,1,none⟩) (by simp) (.slice (some ⟨g,0,none⟩) al al);refine⟨?_,?_,t,?_⟩
 ·refine Sl3.keep hG (t.tag (λi hi cs f e=>?_));simp only[a_,i_,or_false]at hi;rcases hi with rfl|rfl|rfl
  ·rw[bB]at e;simp at e
  ·rw[show w1.heap[i]?=_ from bQ]at e;simp at e
  ·rw[bA]at e;simp at e
 ·unfold MK at *;rw[Below.heap_setCell _ _ _ _ (by simpa using hqN),Below.heap_setCell _ _ _ _ (by simpa using hqN)];rw[heap_setCell_same _ q 3 (mD mk r k s) 246 (.string s2) (by rw[Below.heap_setCell _ _ _ _ (by simpa using hqB),Below.heap_setCell _ _ _ _ (by simpa using hqB)];exact bQ)];simp[mD]
 ·exact hT.onto t (λi hi=>by
   simp only[a_,i_,or_false]at hi;rcases hi with rfl|rfl|rfl
   ·exact .inr hB
   ·exact .inl hqF
   ·exact .inr hN)
theorem mnext_read (mk:MkR)(w:World)(q r k n bx bm blk file:Nat)(v:Value)(x:Rec)(l:List UInt8)(d:DS)(M:List PF)(hq:MK mk w q r k ⟨#[]⟩)(hr:w.heap[r]?=some (.cells (rC bx blk file x.row.length n v) 223 (0,0)))(hk:k<n)(hk2:n<=1000000000)
  (hn:I64 x.no) (hf:∀y∈x.row,Fair y) (hc1:1<=x.row.length) (hc:x.row.length<=1000) (hP:PD w bx bm d M)
  (hrd:∀W,Touch [] w W->Calls prog 157 #[.pointer (some ⟨r,0,none⟩),.int .i64 (k:Int)] W λe w'=>e=.returned (.string (BA (encR x++l)))/\PD w' bx bm d M/\Touch [bx] W w') :
  Calls prog 117 #[.pointer (some ⟨q,1,none⟩)] w λe w'=>∃g,e=.returned (.tuple #[.agg #[.int .i64 x.no,.slice (some ⟨g,0,none⟩) x.row.length x.row.length],.bool true])/\Ro w' (.slice (some ⟨g,0,none⟩) x.row.length x.row.length) x.row/\MK mk w' q r (k+1) (BA l)/\w.heap.size<=g/\PD w' bx bm d M/\Touch [q,bx] w w':=by
 have HTK:Hid (∀W,Calls prog 158 #[.string (BA (encR x++l)),.int .i64 (x.row.length:Int)] W λe w'=>∃g,e=.returned (.tuple #[.agg #[.int .i64 x.no,.slice (some ⟨g,0,none⟩) x.row.length x.row.length],.string (BA l)])/\Ro w' (.slice (some ⟨g,0,none⟩) x.row.length x.row.length) x.row/\W.heap.size<=g/\Touch [] W w'):=λW=>take_any x hn hf hc1 hc l W;have HRD:Hid _:=hrd;obtain⟨a0,a1,a2⟩:=boxK hq;obtain⟨c0,c1,c2,c3,c4,c5,_⟩:=bI hr;have hlt:=lt_of_cell a0;have hlt2:=lt_of_cell c0;simp only at hlt hlt2;have he:(ByteArray.toList ⟨#[]⟩).isEmpty=true:=by rw[ByteArray.toList_eq];rfl
 have hkn:((k:Int) == (n:Int))=false:=by simp;omega
 have hqb:q≠bx:=λe=>(hP.nT (t:=246) (by decide) (by decide)).not_mem hq (by rw[e];exact I_);have hrb:r≠bx:=λe=>(hP.nT (t:=223) (by decide) (by decide)).not_mem hr (by rw[e];exact I_);have hqr:q≠r:=λe=>by subst e;unfold MK at hq;rw[hq]at hr;simp at hr
 have hbxlt:bx<w.heap.size:=hP.lt bx I_;have HQD:Hid (q∉dI bx bm M):=(hP.nT (t:=246) (by decide) (by decide)).not_mem hq;have HQ:Hid (MK mk w q r k ⟨#[]⟩):=hq;have HR:Hid (w.heap[r]?=some (.cells (rC bx blk file x.row.length n v) 223 (0,0))):=hr;have HPLT:Hid (∀j∈dI bx bm M,j<w.heap.size):=hP.lt;clear hq hr hn hf hrd hP;generalize BA (encR x++l)=s at *;generalize BA l=s2 at *;generalize hrow:x.row=row at *;generalize x.no=no at *;clear hrow;generalize row.length=al at *;have HW1:Hid (∀W0 w1,Touch [bx] W0 w1->W0.heap=(w.alloc (.cells #[.int .i64 0,.slice none 0 0] 205)).heap->MK mk w1 q r k ⟨#[]⟩/\w1.heap[w.heap.size]?=some (.cells #[.int .i64 0,.slice none 0 0] 205 (0,0))/\w1.heap[r]?=some (.cells (rC bx blk file al n v) 223 (0,0))/\w.heap.size<w1.heap.size):=λW0 w1 ht h0=>by
  refine⟨?_,?_,?_,?_⟩
  ·unfold MK;rw[ht.block q (by rw[h0];simp;omega) (by simpa using hqb),h0,Below.heap_alloc _ _ _ hlt];exact HQ.out
  ·rw[ht.block _ (by rw[h0];simp) (by simp;omega),h0];exact heap_alloc_new w _
  ·rw[ht.block r (by rw[h0];simp;omega) (by simpa using hrb),h0,Below.heap_alloc _ _ _ hlt2];exact HR.out
  ·have:=ht.size;rw[h0]at this;simp at this;omega
 go_enter func117,ntmps117;go_wp2
 go_big_quiet (fail)
 go_wp2_with fail
 go_region_with (go_at_call 157;refine(HRD.out _ ((tr_.alloc _).drewN (nq+1))).mono ?_;rintro e w1 ⟨rfl,hP1,hT1⟩;obtain⟨bQ,bA,bR,hsz1⟩:=HW1.out _ _ hT1 rfl;obtain⟨z0,z1,z2⟩:=boxK bQ;have g1:w1.frozen? ⟨q,2,none⟩=false:=(by simp[World.frozen?,show w1.heap[q]?=_ from bQ]);have g2:w1.frozen? ⟨q,3,none⟩=false:=(by simp[World.frozen?,show w1.heap[q]?=_ from bQ]);have HBQ:Hid (MK mk w1 q r k ⟨#[]⟩):=bQ;have HBA:Hid _:=bA;have HBR:Hid _:=bR;clear bQ bA bR)
 all_goals
  obtain⟨e0,e1,e2,e3,e4,e5,_⟩:=bI HBR.out;have HT1:Hid (Touch [q,bx] w w1):=((((Touch.refl [q,bx] w).alloc _).drewN (nq+1))).trans (hT1.mono (by simp));have HP1:Hid (PD w1 bx bm d M):=hP1;have HAFT:Hid (∀W0 w5,Touch [] W0 w5->W0.heap=(((w1.setCell ⟨q,3,none⟩ (.string s)).setCell ⟨q,2,none⟩ (.int .i64 ((k:Int)+1))).alloc (.cells #[.int .i64 0,.slice none 0 0] 205)).heap->w5.heap[w.heap.size]?=some (.cells #[.int .i64 0,.slice none 0 0] 205 (0,0))/\w5.heap[w1.heap.size]?=some (.cells #[.int .i64 0,.slice none 0 0] 205 (0,0))/\MK mk w5 q r (k+1) s):=λW0 w5 ht h0=>by
   have hql:q<w1.heap.size:=by omega
   have hNw:w.heap.size≠q:=by omega
   refine⟨?_,?_,?_⟩
   ·rw[ht.block _ (by rw[h0];simp;omega) (by simp),h0,Below.heap_alloc _ _ _ (by simp;omega),Below.heap_setCell _ _ _ _ (by simpa using hNw),Below.heap_setCell _ _ _ _ (by simpa using hNw)];exact HBA.out
   ·have:=heap_alloc_new ((w1.setCell ⟨q,3,none⟩ (.string s)).setCell ⟨q,2,none⟩ (.int .i64 ((k:Int)+1))) (.cells #[.int .i64 0,.slice none 0 0] 205);rw[show((w1.setCell ⟨q,3,none⟩ (.string s)).setCell ⟨q,2,none⟩ (.int .i64 ((k:Int)+1))).heap.size=w1.heap.size from by simp]at this;rw[ht.block _ (by rw[h0];simp) (by simp),h0];exact this
   ·unfold MK;rw[ht.block _ (by rw[h0];simp;omega) (by simp),h0,Below.heap_alloc _ _ _ (by simp;omega)];rw[heap_setCell_same _ q 2 _ 246 _ (heap_setCell_same w1 q 3 _ 246 (.string s) HBQ.out)];simp[mD]
  have HTT:Hid (∀W0 w5,Touch [] W0 w5->W0.heap=(((w1.setCell ⟨q,3,none⟩ (.string s)).setCell ⟨q,2,none⟩ (.int .i64 ((k:Int)+1))).alloc (.cells #[.int .i64 0,.slice none 0 0] 205)).heap->W0.os=w1.os->W0.tape=w1.tape->W0.output=w1.output->Touch [q] w1 w5):=λW0 w5 ht h0 p1 p2 p3=>by
   have t1:Touch [q] w1 (((w1.setCell ⟨q,3,none⟩ (.string s)).setCell ⟨q,2,none⟩ (.int .i64 ((k:Int)+1))).alloc (.cells #[.int .i64 0,.slice none 0 0] 205)):=(((Touch.refl [q] w1).setCell (p:=⟨q,3,none⟩) (by simp) _).setCell (p:=⟨q,2,none⟩) (by simp) _).alloc _;refine Touch.trans ⟨p1,p2,p3,by rw[h0];exact t1.size,λj hj hn=>by rw[h0];exact t1.block j hj hn⟩ (ht.mono (by simp))
  clear hT1 hP1 a0 a1 a2 c0 c1 c2 c3 c4 c5;have hq1:q<w1.heap.size:=by omega
  have hr1:r<w1.heap.size:=by omega
  go_wp2_with fail
  go_region_with (go_at_call 158;refine(HTK.out _).mono ?_;rintro e w5 ⟨g,rfl,hG5,hg5,hT5⟩;obtain⟨bA,bB,bQ⟩:=HAFT.out _ _ hT5 rfl;obtain⟨x0,x1⟩:=bF bA;obtain⟨y0,y1⟩:=bF bB;obtain⟨z5,z6,z7⟩:=boxK bQ;have g3:w5.frozen? ⟨w.heap.size,0,none⟩=false:=(by simp[World.frozen?,bA]);have g4:w5.frozen? ⟨w.heap.size,1,none⟩=false:=(by simp[World.frozen?,bA]);have g5:w5.frozen? ⟨w1.heap.size,0,none⟩=false:=(by simp[World.frozen?,bB]);have g6:w5.frozen? ⟨w1.heap.size,1,none⟩=false:=(by simp[World.frozen?,bB]);have g7:w5.frozen? ⟨q,3,none⟩=false:=(by simp[World.frozen?,show w5.heap[q]?=_ from bQ]);have HCA:Hid _:=bA;have HCB:Hid _:=bB;have HCQ:Hid (MK mk w5 q r (k+1) s):=bQ;have HT5:Hid (Touch [q] w1 w5):=HTT.out _ _ hT5 rfl rfl rfl rfl;clear bA bB bQ)
 all_goals
  have HG5:Hid _:=hG5;have hgg:w.heap.size<=g:=by simp at hg5;omega
  have hNB:w.heap.size≠w1.heap.size:=by omega
  clear hT5 hG5 hg5 z0 z1 z2 e0 e1 e2 e3 e4 e5 HAFT HTT HTK HRD HW1;go_wp2;obtain⟨r1,r2,r3,r4⟩:=mnext_fin2 (F:=[q,bx]) (no:=no) (s2:=s2) (HT1.out.trans (HT5.out.mono (by simp))) (by simp) (e_ w.heap.size) (Z_ hsz1) hNB (by omega) (by omega) HCA.out HCB.out HCQ.out HG5.out;refine bodyPost_ret (v:=.tuple #[.agg #[.int .i64 no,.slice (some ⟨g,0,none⟩) al al],.bool true]) (by simp[results,results117,go_sem,x0,x1]) rfl ⟨g,rfl,r1,r2,hgg,(HP1.out.away HT5.out ?_).away r3 ?_,r4⟩
  ·intro j hj e;rw[ms_ e]at hj;exact HQD.out hj
  ·intro j hj e;have hjl:=HPLT.out j hj;simp only[a_,i_,or_false]at e;rcases e with e|e|e
   ·omega
   ·rw[e]at hj;exact HQD.out hj
   ·omega
structure MV where
 lv:Value
 rp:Value
 k:Nat
 s:ByteArray
 sp:Bool
 row:Value
 ok:Bool
def MV.cells (m:MV):Array Value:=#[m.lv,m.rp,.int .i64 (m.k:Int),.string m.s,.bool m.sp,m.row,.bool m.ok]
def MR (w:World)(q:Nat)(m:MV):Prop:=w.heap[q]?=some (.cells m.cells 246 (0,0))
theorem boxQ {m:MV}(h:MR w q m):w.cell? ⟨q,0,none⟩=some m.lv/\w.cell? ⟨q,1,none⟩=some m.rp/\w.cell? ⟨q,2,none⟩=some (.int .i64 (m.k:Int))/\w.cell? ⟨q,3,none⟩=some (.string m.s)/\w.cell? ⟨q,4,none⟩=some (.bool m.sp)/\w.cell? ⟨q,5,none⟩=some m.row/\w.cell? ⟨q,6,none⟩=some (.bool m.ok)/\∀o,w.frozen? ⟨q,o,none⟩=false:=by
 unfold MR at h;simp[World.cell?,World.frozen?,h,MV.cells]
def OldF (file:Nat)(cs:List (List Rec)):Prop:=(file:Int)<=gla/\gold file=some (textsOf file cs)
structure PassR (X:List Nat)(w:World)(bx blk cols:Nat)(d:DS)(m:MV)(l:List (List V)):Prop where
 st:∃r file c0 cs rest,(m.rp=.pointer (some ⟨r,0,none⟩)/\r∈X)/\m.s=BA (encs rest)/\m.k<=cs.length/\l=(rest++(cs.drop m.k).flatten).map Rec.row/\(∀y∈rest++(cs.drop m.k).flatten,Rh blk cols y)/\(l≠[]->c0=cols)/\w.heap[r]?=some (.cells (rC bx blk file c0 cs.length (.slice none 0 0)) 223 (0,0))/\OldF file cs/\(∀c∈cs,c≠[]/\16+(encs c).length<=blk)/\file<=1000000000/\cs.length<=100000000
 b2:blk<=4096
 c1:1<=cols
 c2:cols<=1000
def PV (X:List Nat)(w:World)(bx blk cols:Nat)(d:DS)(m:MV)(l:List (List V)):Prop:=
 (m.sp=false/\l.length<=100000/\(∀g off n c,m.lv=.slice (some ⟨g,off,none⟩) n c->g∈X)/\∃vs,LAt w m.lv vs/\vs.length=l.length/\∀i (_:i<vs.length) (_:i<l.length),Ro w vs[i] l[i])\/(m.sp=true/\(∃o n c,m.lv=.slice o n c)/\PassR X w bx blk cols d m l)
variable {X:List Nat}
theorem Di.any (h:Di d):@Di ⟨⟨-1,gq d.files⟩⟩ d:=by
 obtain⟨a,b,c,e,f,g,i,_,_⟩:=h
 letI:Inhabited Ground:=⟨⟨-1,gq d.files⟩⟩
 exact⟨a,b,c,e,f,g,i,λ_ _=>rfl,by show(-1:Int)<=d.last;omega⟩
theorem MR.mk {m:MV}(h:MR w q m)(e:m.rp=.pointer (some ⟨r,0,none⟩)):MK ⟨m.lv,m.sp,m.row,m.ok⟩ w q r m.k m.s:=by
 unfold MR MV.cells at h;unfold MK mD;rw[e]at h;exact h
theorem MK.mark {lv row:Value}{sp ok:Bool}(h:MK ⟨lv,sp,row,ok⟩ w q r k s):MR w q ⟨lv,.pointer (some ⟨r,0,none⟩),k,s,sp,row,ok⟩:=h
theorem Touch.read {M:List PF}(h:Touch [q,bx] w w')(h1:PD w bx bm d M)(h2:PD w' bx bm d M):Touch [q] w w':=
 ⟨h.os,h.tape,h.output,h.size,λk hk hn=>by
  by_cases e:k=bx
  ·subst e;exact h2.disk.trans h1.disk.symm
  ·exact h.block k hk (by simp at hn ⊢;exact⟨hn,e⟩)⟩
theorem rnext_nil (w:World)(q bx blk cols:Nat)(d:DS)(m:MV)(hm:MR w q m)(h:PassR X w bx blk cols d m []) :
  Calls prog 117 #[.pointer (some ⟨q,1,none⟩)] w λe w'=>e=.returned (.tuple #[.agg #[.int .i64 0,.slice none 0 0],.bool false])/\Touch [] w w':=by
 obtain⟨r,file,c0,cs,rest,⟨e1,eX⟩,e2,e3,e4,_,_,e7,_,e9,_⟩:=h.st;have h4:=au_.1 (List.map_eq_nil_iff.1 e4.symm);have h5:cs.drop m.k=[]:=flatten_ne (λc hc=>(e9 c (ak_ hc)).1) h4.2;have h6:cs.length<=m.k:=List.drop_eq_nil_iff.1 h5;have h1:=hm.mk e1;rw[e2,h4.1]at h1;exact mnext_end _ w q r m.k cs.length bx blk file c0 (.slice none 0 0) h1 e7 (by omega)
theorem rnext_cons (w:World)(q bx bm blk cols:Nat)(d:DS)(M:List PF)(m:MV)(x:List V)(l:List (List V))(hm:MR w q m)(h:PassR X w bx blk cols d m (x::l))(hP:PD w bx bm d M)(ok:Di d) :
  Calls prog 117 #[.pointer (some ⟨q,1,none⟩)] w λe w'=>∃(g:Nat) (no:Int),e=.returned (.tuple #[.agg #[.int .i64 no,.slice (some ⟨g,0,none⟩) cols cols],.bool true])/\Ro w' (.slice (some ⟨g,0,none⟩) cols cols) x/\(∃k s,MR w' q { m with k:=k,s:=s }/\PassR X w' bx blk cols d { m with k:=k,s:=s } l)/\PD w' bx bm d M/\Touch [q] w w':=by
 obtain⟨r,file,c0,cs,rest,⟨e1,eX⟩,e2,e3,e4,e5,e6,e7,e8,e9,e10,e11⟩:=h.st;obtain rfl:=e6 (by simp);have hqd:q∉dI bx bm M:=(hP.nT (t:=246) (by decide) (by decide)).not_mem hm;have hqr:r∉[q]:=λe=>by
  rw[ms_ e]at e7;unfold MR at hm;rw[hm]at e7;simp at e7
 cases rest with
 | cons y rest=>
  simp only[List.cons_append,List.map_cons,al_]at e4;obtain⟨rfl,e4⟩:=e4;have hx:=e5 y (by simp);have h1:=hm.mk e1;rw[e2,eU]at h1;have hlen:=hx.len;rw[<-hlen]at e7;refine(mnext_have _ w q r m.k cs.length bx blk file (.slice none 0 0) y (encs rest) h1 e7 hx.no hx.fair (by have:=h.c1;omega) (by have:=h.c2;omega)).mono ?_;rintro e w' ⟨g,rfl,p1,p2,p3,p4⟩;rw[hlen]at p1 e7 ⊢;have hp:PD w' bx bm d M:=hP.away p4 (λj hj e=>by rw[ms_ e]at hj;exact hqd hj);refine⟨g,y.no,rfl,p1,⟨m.k,BA (encs rest),?_,⟨⟨r,file,c0,cs,rest,⟨e1,eX⟩,rfl,e3,e4,λz hz=>e5 z (by simp only[List.cons_append,a_];exact .inr hz),λ_=>rfl,?_,e8,e9,e10,e11⟩,h.b2,h.c1,h.c2⟩⟩,hp,p4⟩
  ·have:=p2.mark;rw[<-e1]at this;exact this
  ·rw[p4.block r (agi.1 e7).1 hqr];exact e7
 | nil=>
  have hk:m.k<cs.length:=by
   rcases ar_ m.k cs.length with h|h
   ·exact h
   ·rw[O_ h]at e4;simp at e4
  rw[J_ hk]at e4 e5;have hne:=(e9 cs[m.k] (m_ _)).1;have hfit:=(e9 cs[m.k] (m_ _)).2;cases hck:cs[m.k]with
  | nil=>exact absurd hck hne
  | cons y c'=>
   rw[hck]at e4 e5;simp only[List.nil_append,List.flatten_cons,List.cons_append,List.map_cons,al_]at e4 e5;obtain⟨rfl,e4⟩:=e4;have hx:=e5 y (by simp);have hlen:=hx.len;have h1:=hm.mk e1;have e7':=e7;rw[<-hlen]at e7';have hb2:=h.b2;rw[e2]at h1;refine(mnext_read _ w q r m.k cs.length bx bm blk file (.slice none 0 0) y (encs c') d M h1 e7' hk (by omega) hx.no hx.fair (by have:=h.c1;omega) (by have:=h.c2;omega) hP (λW hW=>?_)).mono ?_
   ·have e8':gq d.files file=some (textsOf file cs):=(ok.keep _ e8.1).trans e8.2;have oka:=ok.any
    letI:Inhabited Ground:=⟨⟨-1,gq d.files⟩⟩
    have hRW:Ru W r bx blk file c0 cs d:=⟨by rw[hW.block r (agi.1 e7).1 (by simp)];exact e7,by show(-1:Int)<(file:Int);omega,e8',e9⟩;have:=read_any W r bx bm blk file c0 m.k cs d M hRW (hP.away hW (by simp)) oka hk (by rw[hck]at hfit ⊢;omega) e10 (by omega);rw[hck,eU]at this;exact this
   ·rintro e w' ⟨g,rfl,p1,p2,p3,p4,p5⟩;rw[hlen]at p1 ⊢;have t:=p5.read hP p4;refine⟨g,y.no,rfl,p1,⟨m.k+1,BA (encs c'),?_,⟨⟨r,file,c0,cs,c',⟨e1,eX⟩,rfl,by show m.k+1<=_;omega,e4,λz hz=>e5 z (o_ _ hz),λ_=>rfl,?_,e8,e9,e10,e11⟩,h.b2,h.c1,h.c2⟩⟩,p4,t⟩
    ·have:=p2.mark;rw[<-e1]at this;exact this
    ·rw[t.block r (agi.1 e7).1 hqr];exact e7
end Go.Proofs.YtjoinhljdbljaaaGreat
namespace Go.Proofs.YtjoinhljdbljaaaGreat
open Go.RowKit Go.Proofs.Tryz
variable [Inhabited Ground] {X:List Nat}
variable {F X':List Nat} {M:List PF} {blk bm bx cols q rc:Nat} {d:DS} {l l' t:List (List V)} {left x:List V} {lv v:Value} {m:MV} {n:ND} {w w' wr:World}
theorem pass_nil (w:World)(q bx blk cols:Nat)(d:DS)(m:MV)(hm:MR w q m)(h:PV X w bx blk cols d m []) :
  Calls prog 183 #[.pointer (some ⟨q,0,none⟩)] w λe w'=>e=.returned (.tuple #[.slice none 0 0,.bool false])/\Touch [] w w':=by
 obtain⟨a0,a1,a2,a3,a4,a5,a6,af⟩:=boxQ hm;rcases h with⟨hs,_,_,vs,hL,hlen,_⟩|⟨hs,⟨lo,ln,lc,hlv⟩,hR⟩
 ·obtain⟨o,cap,e,_⟩:=hL;have h0:vs.length=0:=by simpa using hlen
  rw[e,h0]at a0;rw[hs]at a4;clear hm af hs e;go_enter func183,ntmps183;go_wp2;exact bodyPost_ret (v:=.tuple #[.slice none 0 0,.bool false]) (by simp[results,results183,go_sem]) rfl ⟨rfl,tr_⟩
 ·have HN:Hid (Calls prog 117 #[.pointer (some ⟨q,1,none⟩)] w λe w'=>e=.returned (.tuple #[.agg #[.int .i64 0,.slice none 0 0],.bool false])/\Touch [] w w'):=rnext_nil w q bx blk cols d m hm hR;rw[hs]at a4;clear hm af hs hR;go_enter func183,ntmps183
  go_wp2_with (go_at_call 117;refine HN.out.mono ?_;rintro e w1 ⟨rfl,t1⟩)
  exact bodyPost_ret (v:=.tuple #[.slice none 0 0,.bool false]) (by simp[results,results183,go_sem]) rfl ⟨rfl,t1.alloc _⟩
theorem MR.setLv (h:MR w q m)(v:Value):MR (w.setCell ⟨q,0,none⟩ v) q { m with lv:=v }:=by
 unfold MR at *;rw[heap_setCell_same w q 0 _ 246 _ h];simp[MV.cells]
theorem MR.u (h:MR w q m)(t:Touch [] w w'):MR w' q m:=by
 unfold MR at *;rw[t.block q (agi.1 h).1 (by simp)];exact h
theorem LAt.keepX {vs:List Value}(h:LAt w v vs)(hX:∀g off n c,v=.slice (some ⟨g,off,none⟩) n c->g∈X)(k:∀k∈X,∀cs f,w.heap[k]?=some (.cells cs 83 f)->w'.heap[k]?=some (.cells cs 83 f)):LAt w' v vs:=by
 obtain⟨o,cap,e,h⟩:=h;refine⟨o,cap,e,h.imp id ?_⟩;rintro⟨g,off,cs,rfl,h1,h2⟩;exact⟨g,off,cs,rfl,k g (hX g off _ cap e) _ _ h1,h2⟩
theorem PV.keep {w w':World}{bx blk cols:Nat}{d:DS}{m:MV}{l:List (List V)}(h:PV X w bx blk cols d m l)(k1:∀k∈X,∀cs t f,w.heap[k]?=some (.cells cs t f)->w'.heap[k]?=some (.cells cs t f))(k2:KT 85 w w'):PV X w' bx blk cols d m l:=by
 rcases h with⟨hs,hl,hX,vs,hL,hlen,hx⟩|⟨hs,hlv,hR⟩
 ·exact .inl ⟨hs,hl,hX,vs,hL.keepX hX (λk hk cs f e=>k1 k hk cs 83 f e),hlen,λi a b=>Sl3.keep (hx i a b) k2⟩
 ·obtain⟨r,file,c0,cs,rest,e1,e2,e3,e4,e5,e6,e7,e8⟩:=hR.st;exact .inr ⟨hs,hlv,⟨r,file,c0,cs,rest,e1,e2,e3,e4,e5,e6,k1 r e1.2 _ _ _ e7,e8⟩,hR.b2,hR.c1,hR.c2⟩
theorem PV.touch (h:PV X w bx blk cols d m l)(t:Touch F w w')(n1:NT 83 w F)(n2:NT 85 w F)(n3:NT 223 w F):PV X w' bx blk cols d m l:=by
 rcases h with⟨hs,hl,hX,vs,hL,hlen,hx⟩|⟨hs,hlv,hR⟩
 ·exact .inl ⟨hs,hl,hX,vs,hL.keep (t.tag n1),hlen,λi a b=>Sl3.keep (hx i a b) (t.tag n2)⟩
 ·obtain⟨r,file,c0,cs,rest,e1,e2,e3,e4,e5,e6,e7,e8⟩:=hR.st;exact .inr ⟨hs,hlv,⟨r,file,c0,cs,rest,e1,e2,e3,e4,e5,e6,t.tag n3 _ _ _ e7,e8⟩,hR.b2,hR.c1,hR.c2⟩
theorem PV.mono (h:PV X w bx blk cols d m l)(hX:∀k∈X,k∈X'):PV X' w bx blk cols d m l:=by
 rcases h with⟨hs,hl,h1,h2⟩|⟨hs,hlv,hR⟩
 ·exact .inl ⟨hs,hl,λg off n c e=>hX _ (h1 g off n c e),h2⟩
 ·obtain⟨r,file,c0,cs,rest,e1,e2⟩:=hR.st;exact .inr ⟨hs,hlv,⟨r,file,c0,cs,rest,⟨e1.1,hX _ e1.2⟩,e2⟩,hR.b2,hR.c1,hR.c2⟩
theorem PV.set (h:PV X w bx blk cols d m l)(row:Value)(ok:Bool):PV X w bx blk cols d { m with row:=row,ok:=ok } l:=by
 rcases h with h|⟨hs,hlv,hR⟩
 ·exact .inl h
 ·exact .inr ⟨hs,hlv,⟨hR.st,hR.b2,hR.c1,hR.c2⟩⟩
theorem pass_cons (w:World)(q bx bm blk cols:Nat)(d:DS)(M:List PF)(m:MV)(x:List V)(l:List (List V))(hm:MR w q m)(h:PV X w bx blk cols d m (x::l))(hP:PD w bx bm d M)(ok:Di d) :
  Calls prog 183 #[.pointer (some ⟨q,0,none⟩)] w λe w'=>∃o n c,e=.returned (.tuple #[.slice o n c,.bool true])/\Ro w' (.slice o n c) x/\(∃m',MR w' q m'/\m'.row=m.row/\m'.ok=m.ok/\PV X w' bx blk cols d m' l)/\PD w' bx bm d M/\Touch [q] w w':=by
 obtain⟨a0,a1,a2,a3,a4,a5,a6,af⟩:=boxQ hm;have hqd:q∉dI bx bm M:=(hP.nT (t:=246) (by decide) (by decide)).not_mem hm;rcases h with⟨hs,hsm,hX,vs,hL,hlen,hx⟩|⟨hs,⟨lo,ln,lc,hlv⟩,hR⟩
 ·obtain⟨o,cap,e,hL⟩:=hL;cases vs with
  | nil=>simp at hlen
  | cons v0 vt=>
   rcases hL with hL|⟨g,off,cs,rfl,hg,hc1,hc2,hcs⟩
   ·exact absurd hL (by simp)
   have hrow:=hx 0 (by simp) (by simp);simp only[List.getElem_cons_zero]at hrow;obtain⟨vo,vc,ev⟩:=hrow.shape;subst ev;have hv0:w.cell? ⟨g,off,none⟩=some (.slice vo x.length vc):=by
    have:=hcs 0 (by simp);simp only[Nat.add_zero,List.getElem_cons_zero]at this;simp[World.cell?,hg,this]
   have hgX:g∈X:=hX g off _ cap e;have HGX:Hid (g∈X):=hgX;clear hgX;have f0:=af 0;rw[e]at a0;rw[hs]at a4;have hlen2:vt.length=l.length:=by simpa using hlen
   have HST:Hid (∀v,(∀g' off n c,v=.slice (some ⟨g',off,none⟩) n c->g'∈X)->LAt w v vt->Ro (w.setCell ⟨q,0,none⟩ v) (.slice vo x.length vc) x/\(∃m',MR (w.setCell ⟨q,0,none⟩ v) q m'/\m'.row=m.row/\m'.ok=m.ok/\PV X (w.setCell ⟨q,0,none⟩ v) bx blk cols d m' l)/\PD (w.setCell ⟨q,0,none⟩ v) bx bm d M/\Touch [q] w (w.setCell ⟨q,0,none⟩ v)):=λv hvX hv=>by
    have t:Touch [q] w (w.setCell ⟨q,0,none⟩ v):=(Touch.refl [q] w).setCell (p:=⟨q,0,none⟩) (by simp) v;have nt:∀t',(246:TypeId)≠t'->NT t' w [q]:=λt' h=>nO hm h;refine⟨Sl3.keep hrow (t.tag (nt 85 (by decide))),⟨{ m with lv:=v },hm.setLv v,rfl,rfl,.inl ⟨hs,by simp at hsm;omega,hvX,vt,hv.keep (t.tag (nt 83 (by decide))),hlen2,λi a b=>?_⟩⟩,hP.away t (λj hj e=>by rw[ms_ e]at hj;exact hqd hj),t⟩;have:=hx (i+1) (by simp;exact a) (by simp;exact b);simp only[List.getElem_cons_succ]at this;exact Sl3.keep this (t.tag (nt 85 (by decide)))
   have hsm2:vt.length<=100000:=by simp at hsm;omega
   have hLt:∀c o',(vt=[]\/(o'=off+1/\c=cap-1))->LAt w (.slice (some ⟨g,o',none⟩) vt.length c) vt:=λc o' hc=>by
    refine⟨_,c,rfl,?_⟩;rcases hc with hc|⟨rfl,rfl⟩
    ·exact .inl hc
    ·refine .inr ⟨g,off+1,cs,rfl,hg,by omega,by simp at hc2;omega,λi hi=>?_⟩;have:=hcs (i+1) (by simp;exact hi);simp only[List.getElem_cons_succ]at this;rw[show off+1+i=off+(i+1) by omega];exact this
   have HLT:Hid (∀c o',(vt=[]\/(o'=off+1/\c=cap-1))->LAt w (.slice (some ⟨g,o',none⟩) vt.length c) vt):=hLt;simp only[List.length_cons]at a0 hc2;clear hm af hs e hX hx hcs hrow hP ok hg hlen hlen2 hLt hsm hqd;generalize hn:vt.length=n at *;have HN:Hid (vt.length=n):=hn;clear hn;unfold maxLen at hc1;have hz:¬((n:Int)+1=0):=by omega
   by_cases hcap:1<cap
   ·go_enter func183,ntmps183;go_wp2
    all_goals
     obtain⟨p1,p2,p3,p4⟩:=HST.out (.slice (some ⟨g,off+1,none⟩) n (cap-1)) (by intro g' o' n' c' e';cases e';exact HGX.out) (by have:=HLT.out (cap-1) (off+1) (.inr ⟨rfl,rfl⟩);exact this);exact bodyPost_ret (v:=.tuple #[.slice vo x.length vc,.bool true]) (by simp[results,results183,go_sem]) rfl ⟨vo,x.length,vc,rfl,p1,p2,p3,p4⟩
   ·have hn0:n=0:=by omega
    have hc0:cap=1:=by omega
    subst hn0;subst hc0;go_enter func183,ntmps183;go_wp2
    all_goals
     obtain⟨p1,p2,p3,p4⟩:=HST.out (.slice (some ⟨g,off,none⟩) 0 0) (by intro g' o' n' c' e';cases e';exact HGX.out) (by have:=HLT.out 0 off (.inl (D_.1 HN.out));exact this);exact bodyPost_ret (v:=.tuple #[.slice vo x.length vc,.bool true]) (by simp[results,results183,go_sem]) rfl ⟨vo,x.length,vc,rfl,p1,p2,p3,p4⟩
 ·have HN:Hid (Calls prog 117 #[.pointer (some ⟨q,1,none⟩)] w λe w'=>∃(g:Nat) (no:Int),e=.returned (.tuple #[.agg #[.int .i64 no,.slice (some ⟨g,0,none⟩) cols cols],.bool true])/\Ro w' (.slice (some ⟨g,0,none⟩) cols cols) x/\(∃k s,MR w' q { m with k:=k,s:=s }/\PassR X w' bx blk cols d { m with k:=k,s:=s } l)/\PD w' bx bm d M/\Touch [q] w w'):=rnext_cons w q bx bm blk cols d M m x l hm hR hP ok;have HS:Hid (m.sp=true/\∃o n c,m.lv=.slice o n c):=⟨hs,lo,ln,lc,hlv⟩;rw[hs]at a4;clear hm af hs hR hP ok;go_enter func183,ntmps183
  go_wp2_with (go_at_call 117;refine HN.out.mono ?_;rintro e w1 ⟨g,no,rfl,p1,p2,p3,p4⟩)
  obtain⟨k,s,p2,p5⟩:=p2;have t2:Touch [] w1 (w1.alloc (.cells #[.int .i64 no,.slice (some ⟨g,0,none⟩) cols cols] 205)):=tr_.alloc _;exact bodyPost_ret (v:=.tuple #[.slice (some ⟨g,0,none⟩) cols cols,.bool true]) (by simp[results,results183,go_sem]) rfl ⟨_,_,_,rfl,p1.touch t2,⟨_,p2.u t2,rfl,rfl,PV.touch (F:=[]) (.inr ⟨HS.out.1,HS.out.2,p5⟩) t2 (λk hk=>by simp at hk) (λk hk=>by simp at hk) (λk hk=>by simp at hk)⟩,p3.away t2 (by simp),p4.trans (t2.mono (by simp))⟩
variable [Inhabited Ground] {X:List Nat}
def Md (X:List Nat)(w:World)(bx blk cols:Nat)(d:DS)(m:MV)(l:List (List V)):Prop:=
 (l=[]/\m.ok=false/\PV X w bx blk cols d m [])\/∃x t,l=x::t/\m.ok=true/\Ro w m.row x/\PV X w bx blk cols d m t
def MS (X:List Nat)(w:World)(q bx blk cols:Nat)(d:DS)(l:List (List V)):Prop:=∃m,MR w q m/\Md X w bx blk cols d m l
theorem MR.setRow (h:MR w q m)(v:Value)(b:Bool):MR ((w.setCell ⟨q,5,none⟩ v).setCell ⟨q,6,none⟩ (.bool b)) q { m with row:=v,ok:=b }:=by
 unfold MR at *;rw[heap_setCell_same _ q 6 _ 246 _ (heap_setCell_same w q 5 _ 246 v h)];simp[MV.cells]
theorem Md.keep {w w':World}{bx blk cols:Nat}{d:DS}{m:MV}{l:List (List V)}(h:Md X w bx blk cols d m l)(k1:∀k∈X,∀cs t f,w.heap[k]?=some (.cells cs t f)->w'.heap[k]?=some (.cells cs t f))(k2:KT 85 w w'):Md X w' bx blk cols d m l:=by
 rcases h with⟨a,b,c⟩|⟨x,t,a,b,c,e⟩
 ·exact .inl ⟨a,b,c.keep k1 k2⟩
 ·exact .inr ⟨x,t,a,b,Sl3.keep c k2,e.keep k1 k2⟩
theorem Md.touch {F:List Nat}{w w':World}{bx blk cols:Nat}{d:DS}{m:MV}{l:List (List V)}(h:Md X w bx blk cols d m l)(t:Touch F w w')(n1:NT 83 w F)(n2:NT 85 w F)(n3:NT 223 w F):Md X w' bx blk cols d m l:=
 h.imp (λ⟨a,b,c⟩=>⟨a,b,c.touch t n1 n2 n3⟩) (λ⟨x,tl,a,b,c,e⟩=>⟨x,tl,a,b,Sl3.keep c (t.tag n2),e.touch t n1 n2 n3⟩)
theorem MS.touch {w w':World}{q bx blk cols:Nat}{d:DS}{l:List (List V)}(h:MS X w q bx blk cols d l)(t:Touch [] w w'):MS X w' q bx blk cols d l:=by
 obtain⟨m,h1,h2⟩:=h;exact⟨m,h1.u t,h2.touch t (λk hk=>by simp at hk) (λk hk=>by simp at hk) (λk hk=>by simp at hk)⟩
theorem aA (w:World)(q bx bm blk cols:Nat)(d:DS)(M:List PF)(m:MV)(l:List (List V))(hm:MR w q m)(h:PV X w bx blk cols d m l)(hP:PD w bx bm d M)(ok:Di d) :
  Calls prog 151 #[.pointer (some ⟨q,0,none⟩)] w λe w'=>e=.returned (.tuple #[])/\MS X w' q bx blk cols d l/\PD w' bx bm d M/\Touch [q] w w':=by
 have hqd:∀W m,MR W q m->PD W bx bm d M->q∉dI bx bm M:=λW m hm hP=>(hP.nT (t:=246) (by decide) (by decide)).not_mem hm;have HN:Hid (∃b:Bool,Calls prog 183 #[.pointer (some ⟨q,0,none⟩)] w λe w'=>∃o n c,e=.returned (.tuple #[.slice o n c,.bool b])/\∃m',MR w' q m'/\PD w' bx bm d M/\Touch [q] w w'/\((l=[]/\b=false/\PV X w' bx blk cols d m' [])\/∃x t,l=x::t/\b=true/\Ro w' (.slice o n c) x/\PV X w' bx blk cols d m' t)):=by
  cases l with
  | nil=>
   refine⟨false,(pass_nil w q bx blk cols d m hm h).mono ?_⟩;rintro e w' ⟨rfl,t⟩;exact⟨_,_,_,rfl,m,hm.u t,hP.away t (by simp),t.mono (by simp),.inl ⟨rfl,rfl,h.touch t (λk hk=>by simp at hk) (λk hk=>by simp at hk) (λk hk=>by simp at hk)⟩⟩
  | cons x l=>
   refine⟨true,(pass_cons w q bx bm blk cols d M m x l hm h hP ok).mono ?_⟩;rintro e w' ⟨o,n,c,rfl,p1,⟨m',p2,_,_,p3⟩,p4,p5⟩;exact⟨o,n,c,rfl,m',p2,p4,p5,.inr ⟨x,l,rfl,rfl,p1,p3⟩⟩
 obtain⟨b,hN⟩:=HN.out;have HN2:Hid (Calls prog 183 #[.pointer (some ⟨q,0,none⟩)] w λe w'=>∃o n c,e=.returned (.tuple #[.slice o n c,.bool b])/\∃m',MR w' q m'/\PD w' bx bm d M/\Touch [q] w w'/\((l=[]/\b=false/\PV X w' bx blk cols d m' [])\/∃x t,l=x::t/\b=true/\Ro w' (.slice o n c) x/\PV X w' bx blk cols d m' t)):=hN;have HQD:Hid (∀W m,MR W q m->PD W bx bm d M->q∉dI bx bm M):=hqd;clear HN hN h hP ok hm hqd;go_enter func151,ntmps151
 go_wp2_with (go_at_call 183;refine HN2.out.mono ?_;rintro e w1 ⟨o,n,c,rfl,m',p1,p2,p3,p4⟩;obtain⟨a0,a1,a2,a3,a4,a5,a6,af⟩:=boxQ p1;have f5:=af 5;have f6:=af 6;have HP1:Hid (MR w1 q m'/\PD w1 bx bm d M/\Touch [q] w w1):=⟨p1,p2,p3⟩;have HP4:Hid ((l=[]/\b=false/\PV X w1 bx blk cols d m' [])\/∃x t,l=x::t/\b=true/\Ro w1 (.slice o n c) x/\PV X w1 bx blk cols d m' t):=p4;clear p1 p2 p3 p4 af)
 go_end0
 obtain⟨p1,p2,p3⟩:=HP1.out;have t:Touch [q] w1 ((w1.setCell ⟨q,5,none⟩ (.slice o n c)).setCell ⟨q,6,none⟩ (.bool b)):=((Touch.refl [q] w1).setCell (p:=⟨q,5,none⟩) (by simp) _).setCell (p:=⟨q,6,none⟩) (by simp) _;have nt:∀t',(246:TypeId)≠t'->NT t' w1 [q]:=λt' h=>nO p1 h;refine⟨rfl,⟨_,p1.setRow (.slice o n c) b,?_⟩,p2.away t (λj hj e=>by rw[ms_ e]at hj;exact HQD.out _ _ p1 p2 hj),p3.trans t⟩;rcases HP4.out with⟨e1,e2,e3⟩|⟨x,tl,e1,e2,e3,e4⟩
 ·exact .inl ⟨e1,e2,(e3.touch t (nt _ (by decide)) (nt _ (by decide)) (nt _ (by decide))).set _ _⟩
 ·exact .inr ⟨x,tl,e1,e2,Sl3.keep e3 (t.tag (nt _ (by decide))),(e4.touch t (nt _ (by decide)) (nt _ (by decide)) (nt _ (by decide))).set _ _⟩
variable [Inhabited Ground] {X:List Nat}
def atB (cols others:List Int)(left:List V):List (List V)->Bool
 | []=>false
 | x::_=>cZ cols others left x == 0
theorem Rt.touch {l:List Int}(h:Rt w v l)(t:Touch [] w w'):Rt w' v l:=by
 obtain⟨h1,h2,ao,cap,e,hx⟩:=h;refine⟨h1,h2,ao,cap,e,λhl=>?_⟩;obtain⟨b,off,e2,hx⟩:=hx hl;exact⟨b,off,e2,λj hj=>cO (hx j hj) t⟩
theorem Si.touch {w w':World}{n:ND}{cols others:List Int}{la ra:Nat}(h:Si w n cols others la ra)(t:Touch [] w w'):Si w' n cols others la ra:=⟨h.cv.touch t,h.ov.touch t,h.len,h.lin,h.rin,h.few⟩
def ND.Slices (n:ND):Prop:=(∃o l c,n.kv=.slice o l c)/\(∃o l c,n.cv=.slice o l c)/\(∃o l c,n.ov=.slice o l c)/\∃o l c,n.sv=.slice o l c
theorem nodeBox (W:World)(t:Touch [] (w.alloc (.cells n.cells 79)) W):W.heap[w.heap.size]?=some (.cells n.cells 79 (0,0)):=by
 rw[t.block _ (by simp) (by simp)];exact heap_alloc_new w _
theorem matches_any (w:World)(q bx blk rc:Nat)(d:DS)(n:ND)(lo:Option Addr)(ln lc:Nat)(cols others:List Int)(left:List V)(l:List (List V))(h:Si w n cols others left.length rc)(hl:Ro w (.slice lo ln lc) left)(hM:MS X w q bx blk rc d l)(hlen:∀x∈l,x.length=rc)(hS:n.Slices) :
  Calls prog 185 #[.pointer (some ⟨q,0,none⟩),.agg n.cells,.slice lo ln lc] w λe w'=>e=.returned (.bool (atB cols others left l))/\Touch [] w w':=by
 obtain⟨m,h1,h2⟩:=hM;obtain⟨a0,a1,a2,a3,a4,a5,a6,af⟩:=boxQ h1;have hq:=lt_of_cell a0;simp only at hq;rcases h2 with⟨rfl,hok,_⟩|⟨x,t,rfl,hok,hrow,_⟩
 ·rw[hok]at a6;clear h hl h1 af hok hS;unfold ND.cells;go_enter func185,ntmps185;go_wp2
  go_big_quiet (fail)
  go_wp2;go_ret;exact⟨rfl,(tr_.alloc _).drewN _⟩
 ·rw[hok]at a6;obtain⟨ro,rP,er⟩:=hrow.shape;have HCS:Hid (∀W,Touch [] w W->Calls prog 184 #[.agg n.cells,.slice lo ln lc,.slice ro x.length rP] W λe w'=>e=.returned (.int .i64 (cZ cols others left x))/\Touch [] W w'):=λW hW=>by
   have hx:=hlen x (by simp);refine cav W n lo ro ln lc x.length rP cols others left x ?_ (hl.touch hW) (by rw[<-er];exact hrow.touch hW);rw[hx];exact h.touch hW
  have HMK:Hid (∀W,Touch [] w W->W.cell? ⟨q,5,none⟩=some (.slice ro x.length rP)/\W.cell? ⟨q,6,none⟩=some (.bool true)):=λW hW=>⟨cO (by rw[a5,er]) hW,cO a6 hW⟩;rw[er]at a5;clear h hl h1 af hok hrow er hlen;generalize x.length=xl at *;unfold atB;generalize hrr:cZ cols others left x=r at *;have HRR:Hid (cZ cols others left x=r):=hrr;clear hrr;have HND:Hid (∀W,Touch [] (w.alloc (.cells n.cells 79)) W->W.heap[w.heap.size]?=some (.cells n.cells 79 (0,0))):=λW hW=>nodeBox W hW;obtain⟨op,nl,nr,tb,kv,cnt,cv,ov,sv⟩:=n;obtain⟨⟨k1,k2,k3,rfl⟩,⟨k4,k5,k6,rfl⟩,⟨k7,k8,k9,rfl⟩,⟨k10,k11,k12,rfl⟩⟩:=hS;unfold ND.cells at *;simp only at HCS HND ⊢;go_enter func185,ntmps185;go_wp2
  go_region_held3 (λw'=>w'.cell? ⟨q,5,none⟩=some (.slice ro xl rP)/\w'.cell? ⟨q,6,none⟩=some (.bool true)/\(w'.cell? ⟨w.heap.size,0,none⟩=some (.int .i64 op)/\w'.cell? ⟨w.heap.size,1,none⟩=some (.int .i64 nl)/\w'.cell? ⟨w.heap.size,2,none⟩=some (.int .i64 nr)/\w'.cell? ⟨w.heap.size,3,none⟩=some (.string tb)/\w'.cell? ⟨w.heap.size,4,none⟩=some (.slice k1 k2 k3)/\w'.cell? ⟨w.heap.size,5,none⟩=some (.int .i64 cnt)/\w'.cell? ⟨w.heap.size,6,none⟩=some (.slice k4 k5 k6)/\w'.cell? ⟨w.heap.size,7,none⟩=some (.slice k7 k8 k9)/\w'.cell? ⟨w.heap.size,8,none⟩=some (.slice k10 k11 k12))) (go_keep) (first|(go_at_call 184;refine(HCS.out _ ((tr_.alloc _).drew)).mono ?_;rintro e w1 ⟨rfl,t1⟩;obtain⟨n5,n6⟩:=HMK.out w1 (((tr_.alloc _).drew).trans t1);obtain⟨y0,y1,y2,y3,y4,y5,y6,y7,y8⟩:=box9 (n:=⟨op,nl,nr,tb,.slice k1 k2 k3,cnt,.slice k4 k5 k6,.slice k7 k8 k9,.slice k10 k11 k12⟩) (HND.out w1 ((tr_.drew).trans t1))))
  all_goals
   go_wp2;go_ret;refine⟨?_,((tr_.alloc _).drew).trans t1⟩;simp[go_sem,HRR.out]
variable [Inhabited Ground] {X:List Nat}
def bH (cols others:List Int)(left:List V)(x:List V):Bool:=decide (0<cZ cols others left x)
theorem Rt.touchF {l:List Int}(h:Rt w v l)(t:Touch F w w')(hF:∀b off n c,v=.slice (some ⟨b,off,none⟩) n c->b∉F):Rt w' v l:=by
 obtain⟨h1,h2,ao,cap,e,hx⟩:=h;refine⟨h1,h2,ao,cap,e,λhl=>?_⟩;obtain⟨b,off,e2,hx⟩:=hx hl;exact⟨b,off,e2,λj hj=>cah (hx j hj) t (hF b off _ cap (by rw[e,e2]))⟩
structure AO (X:List Nat)(w:World)(q bx bm blk rc:Nat)(d:DS)(M:List PF)(n:ND)(cols others:List Int)(left:List V)(lv:Value)(l l':List (List V))(wr:World):Prop where
 mark:MS X wr q bx blk rc d l'
 pd:PD wr bx bm d M
 sides:Si wr n cols others left.length rc
 row:Ro wr lv left
 box:wr.heap[w.heap.size]?=some (.cells n.cells 79 (0,0))
 drop:l.dropWhile (bH cols others left)=l'.dropWhile (bH cols others left)
 sub:∀x∈l',x∈l
 touch:Touch [q] w wr
def Apart (q:Nat)(n:ND):Prop:=∀v,(v=n.cv\/v=n.ov)->∀b off k c,v=.slice (some ⟨b,off,none⟩) k c->b≠q
theorem Si.touchF {q:Nat}{w w':World}{n:ND}{cols others:List Int}{la ra:Nat}(h:Si w n cols others la ra)(t:Touch [q] w w')(ha:Apart q n):Si w' n cols others la ra:=
 ⟨h.cv.touchF t (λb off k c e=>by simpa using ha _ (.inl rfl) b off k c e),h.ov.touchF t (λb off k c e=>by simpa using ha _ (.inr rfl) b off k c e),h.len,h.lin,h.rin,h.few⟩
theorem AO.quiet {cols others:List Int}(h:AO X w q bx bm blk rc d M n cols others left lv l l' wr)(t:Touch [] wr w'):AO X w q bx bm blk rc d M n cols others left lv l l' w':=
 ⟨h.mark.touch t,h.pd.away t (by simp),h.sides.touch t,h.row.touch t,by rw[t.block _ (agi.1 h.box).1 (by simp)];exact h.box,h.drop,h.sub,h.touch.trans (t.mono (by simp))⟩
theorem advTo_step {cols others:List Int}(h:AO X w q bx bm blk rc d M n cols others left lv l (x::t) wr)(ok:Di d)(ha:Apart q n)(hb:bH cols others left x=true)(hq:q<w.heap.size) :
  Calls prog 151 #[.pointer (some ⟨q,0,none⟩)] wr λe w'=>e=.returned (.tuple #[])/\AO X w q bx bm blk rc d M n cols others left lv l t w':=by
 obtain⟨m,h1,h2⟩:=h.mark;rcases h2 with⟨e,_⟩|⟨x',t',e,_,_,hp⟩
 ·cases e
 ·cases e;refine(aA wr q bx bm blk rc d M m t h1 hp h.pd ok).mono ?_;rintro e w' ⟨rfl,p1,p2,p3⟩;have nt:∀t',(246:TypeId)≠t'->NT t' wr [q]:=λt' h=>nO h1 h;refine⟨rfl,p1,p2,h.sides.touchF p3 ha,Sl3.keep h.row (p3.tag (nt 85 (by decide))),?_,?_,λy hy=>h.sub y (o_ _ hy),h.touch.trans p3⟩
  ·rw[p3.block _ (agi.1 h.box).1 (by simp;omega)];exact h.box
  ·rw[h.drop,List.dropWhile_cons_of_pos hb]
theorem advanceTo_any (w:World)(q bx bm blk rc:Nat)(d:DS)(M:List PF)(n:ND)(lo:Option Addr)(ln lc:Nat)(cols others:List Int)(left:List V)(l:List (List V))(h:Si w n cols others left.length rc)(hl:Ro w (.slice lo ln lc) left)(hM:MS X w q bx blk rc d l)(hlen:∀x∈l,x.length=rc)(hS:n.Slices)(hP:PD w bx bm d M)(ok:Di d)(ha:Apart q n) :
  Calls prog 152 #[.pointer (some ⟨q,0,none⟩),.agg n.cells,.slice lo ln lc] w λe w'=>e=.returned (.tuple #[])/\MS X w' q bx blk rc d (l.dropWhile (bH cols others left))/\PD w' bx bm d M/\Touch [q] w w':=by
 have hq:q<w.heap.size:=by obtain⟨m,h1,_⟩:=hM;exact(agi.1 h1).1
 have H0:Hid (AO X w q bx bm blk rc d M n cols others left (.slice lo ln lc) l l (w.alloc (.cells n.cells 79))):=by
  have t:Touch [] w (w.alloc (.cells n.cells 79)):=tr_.alloc _;exact⟨hM.touch t,hP.away t (by simp),h.touch t,hl.touch t,heap_alloc_new w _,rfl,λx hx=>hx,t.mono (by simp)⟩
 have HOK:Hid (Di d/\Apart q n/\∀x∈l,x.length=rc):=⟨ok,ha,hlen⟩;clear h hl hM hlen hP ok ha;obtain⟨op,nl,nr,tb,kv,cnt,cv,ov,sv⟩:=n;obtain⟨⟨k1,k2,k3,rfl⟩,⟨k4,k5,k6,rfl⟩,⟨k7,k8,k9,rfl⟩,⟨k10,k11,k12,rfl⟩⟩:=hS;generalize hn:(⟨op,nl,nr,tb,.slice k1 k2 k3,cnt,.slice k4 k5 k6,.slice k7 k8 k9,.slice k10 k11 k12⟩:ND)=n at *;have hnc:n.cells=#[.int .i64 op,.int .i64 nl,.int .i64 nr,.string tb,.slice k1 k2 k3,.int .i64 cnt,.slice k4 k5 k6,.slice k7 k8 k9,.slice k10 k11 k12]:=by rw[<-hn];rfl
 have HNC:Hid (n.cells=#[.int .i64 op,.int .i64 nl,.int .i64 nr,.string tb,.slice k1 k2 k3,.int .i64 cnt,.slice k4 k5 k6,.slice k7 k8 k9,.slice k10 k11 k12]):=hnc;rw[hnc]at H0 ⊢;have HN:Hid ((⟨op,nl,nr,tb,.slice k1 k2 k3,cnt,.slice k4 k5 k6,.slice k7 k8 k9,.slice k10 k11 k12⟩:ND)=n):=hn;clear hn hnc;go_enter func152,ntmps152;go_wp2
 go_loopg [] (l.length) (λg wr=>∃l',l'.length=g/\AO X w q bx bm blk rc d M n cols others left (.slice lo ln lc) l l' wr)
 case atStart=>exact⟨l,rfl,H0.out⟩
 case round=>
  clear H0;obtain⟨l',hg,hI⟩:=hrel;have HI:Hid (AO X w q bx bm blk rc d M n cols others left (.slice lo ln lc) l l' wr/\l'.length=gk):=⟨hI,hg⟩;obtain⟨m,h1,h2⟩:=hI.mark;obtain⟨a0,a1,a2,a3,a4,a5,a6,af⟩:=boxQ h1;rcases h2 with⟨rfl,hok,_⟩|⟨x,t,rfl,hok,hrow,_⟩
  ·rw[hok]at a6;clear hI h1 af hok hg;go_wp2
   go_big_quiet (fail)
   go_wp2
   go_end0
   have hD:=HI.out.1.quiet (tr_.drewN nq);refine⟨rfl,?_,hD.pd,hD.touch⟩;rw[hD.drop];exact hD.mark
  ·rw[hok]at a6;obtain⟨ro,rP,er⟩:=hrow.shape;have HCS:Hid (∀W,Touch [] wr W->Calls prog 184 #[.agg #[.int .i64 op,.int .i64 nl,.int .i64 nr,.string tb,.slice k1 k2 k3,.int .i64 cnt,.slice k4 k5 k6,.slice k7 k8 k9,.slice k10 k11 k12],.slice lo ln lc,.slice ro x.length rP] W λe w'=>e=.returned (.int .i64 (cZ cols others left x))/\Touch [] W w'):=λW hW=>by
    have hx:=HOK.out.2.2 x (hI.sub x (by simp));rw[<-HNC.out];refine cav W n lo ro ln lc x.length rP cols others left x ?_ (hI.row.touch hW) (by rw[<-er];exact hrow.touch hW);rw[hx];exact hI.sides.touch hW
   have HMK:Hid (∀W,Touch [] wr W->(W.cell? ⟨q,5,none⟩=some (.slice ro x.length rP)/\W.cell? ⟨q,6,none⟩=some (.bool true))/\W.heap[w.heap.size]?=some (.cells #[.int .i64 op,.int .i64 nl,.int .i64 nr,.string tb,.slice k1 k2 k3,.int .i64 cnt,.slice k4 k5 k6,.slice k7 k8 k9,.slice k10 k11 k12] 79 (0,0))):=λW hW=>⟨⟨cO (by rw[a5,er]) hW,cO a6 hW⟩,by rw[<-HNC.out];rw[hW.block _ (agi.1 hI.box).1 (by simp)];exact hI.box⟩;rw[er]at a5;obtain⟨y0,y1,y2,y3,y4,y5,y6,y7,y8⟩:=box9 (n:=⟨op,nl,nr,tb,.slice k1 k2 k3,cnt,.slice k4 k5 k6,.slice k7 k8 k9,.slice k10 k11 k12⟩) (HMK.out wr tr_).2;clear hI h1 af hok hrow er hg;generalize hxl:x.length=xl at *;clear hxl;generalize hrr:cZ cols others left x=r at *;have HRR:Hid (cZ cols others left x=r):=hrr;clear hrr;by_cases hr0:0<r
   ·have hrd:decide (0<r)=true:=by simpa using hr0
    have HST:Hid (∀W,Touch [] wr W->Calls prog 151 #[.pointer (some ⟨q,0,none⟩)] W λe w'=>e=.returned (.tuple #[])/\AO X w q bx bm blk rc d M n cols others left (.slice lo ln lc) l t w'):=λW hW=>advTo_step (HI.out.1.quiet hW) HOK.out.1 HOK.out.2.1 (by unfold bH;rw[HRR.out];exact hrd) hq;go_wp2
    go_region_held3 (λw'=>w'.cell? ⟨q,5,none⟩=some (.slice ro xl rP)/\w'.cell? ⟨q,6,none⟩=some (.bool true)/\(w'.cell? ⟨w.heap.size,0,none⟩=some (.int .i64 op)/\w'.cell? ⟨w.heap.size,1,none⟩=some (.int .i64 nl)/\w'.cell? ⟨w.heap.size,2,none⟩=some (.int .i64 nr)/\w'.cell? ⟨w.heap.size,3,none⟩=some (.string tb)/\w'.cell? ⟨w.heap.size,4,none⟩=some (.slice k1 k2 k3)/\w'.cell? ⟨w.heap.size,5,none⟩=some (.int .i64 cnt)/\w'.cell? ⟨w.heap.size,6,none⟩=some (.slice k4 k5 k6)/\w'.cell? ⟨w.heap.size,7,none⟩=some (.slice k7 k8 k9)/\w'.cell? ⟨w.heap.size,8,none⟩=some (.slice k10 k11 k12))) (go_keep) (first|(go_at_call 184;refine(HCS.out _ (tr_.drew)).mono ?_;rintro e w1 ⟨rfl,t1⟩;obtain⟨⟨n5,n6⟩,nb⟩:=HMK.out w1 ((tr_.drew).trans t1);obtain⟨z0,z1,z2,z3,z4,z5,z6,z7,z8⟩:=box9 (n:=⟨op,nl,nr,tb,.slice k1 k2 k3,cnt,.slice k4 k5 k6,.slice k7 k8 k9,.slice k10 k11 k12⟩) nb))
    all_goals
     have HT1:Hid (Touch [] wr w1):=(tr_.drew).trans t1
     go_wp2_with (go_at_call 151;refine(HST.out _ HT1.out).mono ?_;rintro e w2 ⟨rfl,hA2⟩)
     go_roundg (t.length)
     case measure=>have:=HI.out.2;simp at this;omega
     case rel=>exact⟨t,rfl,hA2⟩
   ·have hrd:decide (0<r)=false:=by simpa using hr0
    go_wp2
    go_region_held3 (λw'=>w'.cell? ⟨q,5,none⟩=some (.slice ro xl rP)/\w'.cell? ⟨q,6,none⟩=some (.bool true)/\(w'.cell? ⟨w.heap.size,0,none⟩=some (.int .i64 op)/\w'.cell? ⟨w.heap.size,1,none⟩=some (.int .i64 nl)/\w'.cell? ⟨w.heap.size,2,none⟩=some (.int .i64 nr)/\w'.cell? ⟨w.heap.size,3,none⟩=some (.string tb)/\w'.cell? ⟨w.heap.size,4,none⟩=some (.slice k1 k2 k3)/\w'.cell? ⟨w.heap.size,5,none⟩=some (.int .i64 cnt)/\w'.cell? ⟨w.heap.size,6,none⟩=some (.slice k4 k5 k6)/\w'.cell? ⟨w.heap.size,7,none⟩=some (.slice k7 k8 k9)/\w'.cell? ⟨w.heap.size,8,none⟩=some (.slice k10 k11 k12))) (go_keep) (first|(go_at_call 184;refine(HCS.out _ (tr_.drew)).mono ?_;rintro e w1 ⟨rfl,t1⟩;obtain⟨⟨n5,n6⟩,nb⟩:=HMK.out w1 ((tr_.drew).trans t1);obtain⟨z0,z1,z2,z3,z4,z5,z6,z7,z8⟩:=box9 (n:=⟨op,nl,nr,tb,.slice k1 k2 k3,cnt,.slice k4 k5 k6,.slice k7 k8 k9,.slice k10 k11 k12⟩) nb))
    all_goals
     have HT1:Hid (Touch [] wr w1):=(tr_.drew).trans t1;go_wp2
     go_end0
     have hD:=HI.out.1.quiet HT1.out;refine⟨rfl,?_,hD.pd,hD.touch⟩;rw[hD.drop,List.dropWhile_cons_of_neg (by unfold bH;rw[HRR.out,hrd];decide)];exact hD.mark
end Go.Proofs.YtjoinhljdbljaaaGreat
