/- What Pop does to a heap's items, ahead of siftDown, and what follows. -/
import Derived.Test.YtjoinhljdbljaaaGreatHepBToHepF
import Derived.Lib.SliceRun
set_option maxHeartbeats 4000000
set_option maxRecDepth 20000
namespace Go.Proofs.YtjoinhljdbljaaaGreat
open Go.RowKit Go.Proofs.Tryz
variable {L:List EV} {N bs cap g n ph ps:Nat} {W X w w' w6:World} {ks:List K}
theorem setCells4 (w:World)(b o:Nat)(p q r s:Value):w.setCells b o [p,q,r,s]=pF w b o p q r s:=by
 simp[World.setCells,pF]
theorem run_clear4 (w:World)(b o c:Nat)(ty:TypeId)(hc:∀j,j<4->(w.cell? ⟨b,o+j,none⟩).isSome=true)(hf:∀j,j<4->w.frozen? ⟨b,o+j,none⟩=false) :
  (Builtin.clear_ #[300] ty #[.slice (some ⟨b,o,none⟩) 1 c]).run prog w=.ok (.tuple #[]) (pF w b o (.int .i64 0) (.slice none 0 0) (.int .i64 0) (.int .i64 0)):=by
 have hst:=run_storeCells_cells (P:=prog) b o [.int .i64 0,.slice none 0 0,.int .i64 0,.int .i64 0] 0 w (by simpa using hc) (by simpa using hf) (by intro v hv;simp at hv;rcases hv with rfl|rfl|rfl<;>rfl);simp only[Nat.add_zero]at hst;rw[setCells4]at hst;have hz:(Builtin.zeroCells (Value.agg #[.int .i64 0,.slice none 0 0,.int .i64 0,.int .i64 0]).cells 1).toList=[.int .i64 0,.slice none 0 0,.int .i64 0,.int .i64 0]:=by kernel_rfl
 simp[Builtin.clear_,run_underlying underlying300,hz,hst]
theorem II.take {cur:Array Value}{cap:Nat}{L:List EV}(h:II cur cap L)(n:Nat):II cur cap (L.take n):=by
 obtain⟨h1,h2,h3,h4⟩:=h;refine⟨h1,by rw[W_];omega,h3,λi hi=>?_⟩;rw[W_]at hi;have:=h4 i (by omega);simpa using this
theorem II.beyond {cur:Array Value}(h:II cur cap L)(o:Nat)(v:Value)(ho:L.length*4<=o):II (cur.setIfInBounds o v) cap L:=by
 obtain⟨h1,h2,h3,h4⟩:=h;refine⟨by simpa using h1,h2,h3,λi hi=>?_⟩;obtain⟨a,b,c,d⟩:=h4 i hi;simp only[gJ];rw[if_neg (by omega),if_neg (by omega),if_neg (by omega),if_neg (by omega)];exact⟨a,b,c,d⟩
theorem Ie.cut (h:Ie w g cap L)(n:Nat)(hn:n<=L.length)(a b c d:Value):Ie (pF w g (n*4) a b c d) g cap (L.take n):=by
 obtain⟨cur,hb,hx⟩:=h;have hl:(L.take n).length=n:=by rw[W_];omega
 refine⟨_,put4_heap hb,?_⟩;exact(((hx.take n).beyond (n*4) a (by omega)).beyond (n*4+1) b (by omega)).beyond (n*4+2) c (by omega) |>.beyond (n*4+3) d (by omega)
def popW (W:World)(ph g cap n:Nat)(y:EV):World:=
 (pF (pF W g 0 (.int .i64 y.1.rc.no) y.2 (.int .i64 y.1.run) (.int .i64 y.1.size)) g (n*4) (.int .i64 0) (.slice none 0 0) (.int .i64 0) (.int .i64 0)).setCell ⟨ph,0,none⟩ (.slice (some ⟨g,0,none⟩) n cap)
theorem Ht.popped (h:Ht w ph g cap bs ps ks L)(hn:L.length=n+1)(hW:Touch [] w W) :
  Ht (popW W ph g cap n (L[n]'(by omega))) ph g cap bs ps ks ((L.set 0 (L[n]'(by omega))).take n)/\Touch [ph,g] w (popW W ph g cap n (L[n]'(by omega))):=by
 have hH:=h.quiet hW;have hne:=h.ne;have hI:=(hH.items.put 0 (by omega) (L[n]'(by omega))).cut n (by simp;omega) (.int .i64 0) (.slice none 0 0) (.int .i64 0) (.int .i64 0);simp only[Nat.zero_mul]at hI;have hT:Touch [g] W _:=(pU W g 0 (.int .i64 (L[n]'(by omega)).1.rc.no) (L[n]'(by omega)).2 (.int .i64 (L[n]'(by omega)).1.run) (.int .i64 (L[n]'(by omega)).1.size)).trans (pU _ g (n*4) (.int .i64 0) (.slice none 0 0) (.int .i64 0) (.int .i64 0));have hhead:=hH.head.touch hT (by simpa using hne);have hT5:Touch [ph] _ (popW W ph g cap n (L[n]'(by omega))):=(Touch.refl [ph] (pF (pF W g 0 (.int .i64 (L[n]'(by omega)).1.rc.no) (L[n]'(by omega)).2 (.int .i64 (L[n]'(by omega)).1.run) (.int .i64 (L[n]'(by omega)).1.size)) g (n*4) (.int .i64 0) (.slice none 0 0) (.int .i64 0) (.int .i64 0))).setCell (p:=⟨ph,0,none⟩) (by simp) (.slice (some ⟨g,0,none⟩) n cap);obtain⟨cur,hb,_⟩:=hH.items;have hk:∀t,(263:TypeId)≠t->(302:TypeId)≠t->KT t W (popW W ph g cap n (L[n]'(by omega))):=λt h1 h2=>(hT.tag (nO hb h1)).trans (hT5.tag (nO hhead h2));have hlen:((L.set 0 (L[n]'(by omega))).take n).length=n:=by simp;omega
 refine⟨⟨?_,hI.touch hT5 (by simpa using λe=>hne e.symm),hH.ctx.keep (hk _ (by decide) (by decide)) (hk _ (by decide) (by decide)) (hk _ (by decide) (by decide)),λx hx=>?_⟩,?_⟩
 ·have:=heap_setCell_same _ ph 0 _ 302 (.slice (some ⟨g,0,none⟩) n cap) hhead;unfold HeadAt popW;rw[this,hlen];simp[haD]
 ·have hx2:x∈L:=by
   have:=L_ hx;rcases List.mem_or_eq_of_mem_set this with h|h
   ·exact h
   ·rw[h];exact m_ _
  exact⟨Sl3.keep (hH.rows x hx2).1 (hk _ (by decide) (by decide)),(hH.rows x hx2).2⟩
 ·exact(hW.mono (by simp)).trans ((hT.mono (by simp)).trans (hT5.mono (by simp)))
theorem siftDownNil_any (w:World)(ph g cap bs:Nat)(h:HeadAt w ph (.slice (some ⟨g,0,none⟩) 0 cap) bs) :
  Calls prog 219 #[.pointer (some ⟨ph,0,none⟩),.int .i64 0] w λe w'=>e=.returned (.tuple #[])/\w'=w:=by
 obtain⟨hd0,hd1⟩:=h.cell;clear h;go_enter func219,ntmps219;go_wp2;refine wp_loop_rounds 1 ?_;rw[rounds_succ];go_wp2;refine wp_loop_rounds 1 ?_;rw[rounds_succ];go_wp2
 first|go_end0|refine bodyPost_ret (results_none rfl _ _ _) rfl ?_
 exact⟨rfl,rfl⟩
theorem siftDown_all (w:World)(ph g cap bs ps:Nat)(ks:List K)(L:List EV)(h:Ht w ph g cap bs ps ks L)(hu:DI (lT ks) L 0)(hsmall:L.length<=1000000000) :
  Calls prog 219 #[.pointer (some ⟨ph,0,none⟩),.int .i64 0] w λe w'=>e=.returned (.tuple #[])/\∃L',Ht w' ph g cap bs ps ks L'/\L'.Perm L/\He (lT ks) L'/\Touch [g] w w':=by
 rcases Nat.eq_zero_or_pos L.length with h0|h0
 ·have hL:L=[]:=D_.1 h0;subst hL;refine(siftDownNil_any w ph g cap bs h.head).mono ?_;rintro e w' ⟨rfl,rfl⟩;exact⟨rfl,[],h,List.Perm.refl _,He.nil,Touch.refl _ _⟩
 ·exact siftDown_any w ph g cap bs ps ks L h hu h0 hsmall
theorem two_new {A B:Obj}(hs:X.heap.size=N)(ht:Touch [g] ((X.alloc A).alloc B).drew w6)(hg:g<N):w6.heap[N]?=some A/\w6.heap[N+1]?=some B/\N+2<=w6.heap.size:=by
 have h1:((X.alloc A).alloc B).drew.heap[N]?=some A:=by
  show((X.alloc A).alloc B).heap[N]?=some A;rw[Below.heap_alloc _ _ _ (by simp;omega),<-hs];exact heap_alloc_new X A
 have h2:((X.alloc A).alloc B).drew.heap[N+1]?=some B:=by
  show((X.alloc A).alloc B).heap[N+1]?=some B;have:=heap_alloc_new (X.alloc A) B;rw[World.size_alloc,hs]at this;exact this
 refine⟨?_,?_,?_⟩
 ·rw[ht.block N (agi.1 h1).1 (by simp;omega)];exact h1
 ·rw[ht.block (N+1) (agi.1 h2).1 (by simp;omega)];exact h2
 ·have:=ht.size;have e:((X.alloc A).alloc B).drew.heap.size=X.heap.size+1+1:=by simp
  omega
theorem Ht.away {F:List Nat}(h:Ht w ph g cap bs ps ks L)(t:Touch F w w')(h1:ph∉F)(h2:g∉F)(n1:NT 228 w F)(n2:NT 260 w F)(n3:NT 73 w F)(n4:NT 85 w F):Ht w' ph g cap bs ps ks L:=
 ⟨h.head.touch t h1,h.items.touch t h2,h.ctx.keep (t.tag n1) (t.tag n2) (t.tag n3),λx hx=>⟨Sl3.keep (h.rows x hx).1 (t.tag n4),(h.rows x hx).2⟩⟩
theorem size_put4 (w:World)(g o:Nat)(a b c d:Value):(pF w g o a b c d).heap.size=w.heap.size:=by simp[pF]
theorem put4_alloc (w:World)(g o:Nat)(a b c d:Value)(x:Obj)(h:g<w.heap.size):pF (w.alloc x) g o a b c d=(pF w g o a b c d).alloc x:=by
 unfold pF;rw[World.setCell_alloc_past _ _ _ _ h,World.setCell_alloc_past _ _ _ _ (by simpa using h),World.setCell_alloc_past _ _ _ _ (by simpa using h),World.setCell_alloc_past _ _ _ _ (by simpa using h)]
theorem pop_clear (h:Ie W g cap L)(hn:n<L.length)(hg:g<W.heap.size)(A B:Obj) :
  (Builtin.clear_ #[300] 0 #[.slice (some ⟨g,n*4,none⟩) 1 (cap-n)]).run prog ((W.alloc A).alloc B).drew=.ok (.tuple #[]) (((pF W g (n*4) (.int .i64 0) (.slice none 0 0) (.int .i64 0) (.int .i64 0)).alloc A).alloc B).drew:=by
 have hI:Ie ((W.alloc A).alloc B).drew g cap L:=h.touch (((tr_.alloc _).alloc _).drew) (by simp);obtain⟨i0,i1,i2,i3⟩:=hI.cell n hn;rw[run_clear4 _ g (n*4) (cap-n) 0 (λj hj=>by
   match j,hj with
   | 0,_=>rw[Nat.add_zero,i0];rfl
   | 1,_=>rw[i1];rfl
   | 2,_=>rw[i2];rfl
   | 3,_=>rw[i3];rfl) (λj _=>hI.frozen _)]
 have e:pF ((W.alloc A).alloc B).drew g (n*4) (.int .i64 0) (.slice none 0 0) (.int .i64 0) (.int .i64 0)=(pF ((W.alloc A).alloc B) g (n*4) (.int .i64 0) (.slice none 0 0) (.int .i64 0) (.int .i64 0)).drew:=rfl;rw[e,put4_alloc _ _ _ _ _ _ _ _ (by simp;omega),put4_alloc _ _ _ _ _ _ _ _ hg]
theorem len_any (w:World)(ph:Nat)(v:Value)(bs ps:Nat)(ks:List K)(L:List EV)(h:Hf w ph v bs ps ks L) :
  Calls prog 173 #[.pointer (some ⟨ph,0,none⟩)] w λe w'=>e=.returned (.int .i64 (L.length:Int))/\w'=w:=by
 obtain⟨hd0,hd1⟩:=h.head.cell;rcases h.items.shape with⟨rfl,rfl⟩|⟨g,cap,rfl,_⟩
 ·clear h;go_enter func173,ntmps173;go_wp2;go_ret;exact⟨rfl,rfl⟩
 ·clear h;go_enter func173,ntmps173;go_wp2;go_ret;exact⟨rfl,rfl⟩
theorem pop_at (w:World)(ph g cap bs ps:Nat)(ks:List K)(L:List EV)(n:Nat)(h:Ht w ph g cap bs ps ks L)(ok:He (lT ks) L)(hn:L.length=n+1)(hsmall:L.length<=100000000) :
  Calls prog 207 #[.pointer (some ⟨ph,0,none⟩)] w λe w'=>e=.returned (L[0]'(by omega)).val/\∃L',Hf w' ph (.slice (some ⟨g,0,none⟩) n cap) bs ps ks L'/\((L[0]'(by omega))::L').Perm L/\Touch [ph,g] w w':=by
 obtain⟨hd0,hd1⟩:=h.head.cell;obtain⟨hphlt,hglt,hpg,hc1,hc2⟩:=h.bounds;have hn0:0<L.length:=by omega
 have hnn:n<L.length:=by omega
 obtain⟨o0,k0,e0,h0_⟩:=h.item 0 hn0;obtain⟨on,kn,en,hn_⟩:=h.item n hnn;obtain⟨c0,c1,c2,c3⟩:=h0_ w (Touch.refl _ _);obtain⟨d0,d1,d2,d3⟩:=hn_ w (Touch.refl _ _);have hfz:=h.items.frozen;simp only[Nat.zero_mul,U_]at c0 c1 c2 c3;rw[hn]at hd0;have HH:Hid (Ht w ph g cap bs ps ks L/\He (lT ks) L):=⟨h,ok⟩;have EV0:(L[0]'(by omega)).val=.agg #[.int .i64 L[0].1.rc.no,.slice o0 L[0].1.rc.row.length k0,.int .i64 L[0].1.run,.int .i64 L[0].1.size]:=by unfold EV.val eP;rw[e0]
 rw[EV0];have f0:=hfz 0;have f1:=hfz 1;have f2:=hfz 2;have f3:=hfz 3;have HPOP:Hid (∀W,Touch [] w W->Ht (popW W ph g cap n L[n]) ph g cap bs ps ks ((L.set 0 L[n]).take n)/\Touch [ph,g] w (popW W ph g cap n L[n])):=λW hW=>h.popped hn hW;simp only[popW,pF,en,U_]at HPOP;have hit:Ie (pF w g 0 (.int .i64 L[n].1.rc.no) (.slice on L[n].1.rc.row.length kn) (.int .i64 L[n].1.run) (.int .i64 L[n].1.size)) g cap (L.set 0 L[n]):=by
  have:=h.items.put 0 hn0 L[n];rw[en]at this;simpa using this
 have HIT:Hid _:=hit;have fph:=h.head.frozen 0;clear hit;have HLE:Hid ((L.set 0 L[n]).length=L.length):=by show _=_;simp
 have HDOWN:Hid (DI (lT ks) ((L.set 0 L[n]).take n) 0):=⟨λi hi h0 hne=>by
   simp only[W_,List.length_set]at hi;simp only[List.getElem_take];exact(DI.first ok L[n]).ok i (by simp;omega) h0 hne,λi hi h0 he h1=>by omega⟩
 have HPERM:Hid ((L[0]::(L.set 0 L[n]).take n).Perm L):=by
  have:=pop_perm (l:=L) (x:=L[n]) hn0 (by rw[hn];simp[hnn]);rw[hn]at this;exact this
 have HLEN:Hid (((L.set 0 L[n]).take n).length=n):=by show _=_;simp;omega
 generalize (L.set 0 L[n]).take n=L1 at *;generalize L.set 0 L[n]=L1' at *;clear h ok EV0 h0_ hn_ hfz;generalize L[0].1.rc.row.length=al at *;generalize L[0].1.rc.no=an at *;generalize L[0].1.run=au at *;generalize L[0].1.size=asz at *;generalize L[n].1.rc.row.length=bl at *;generalize L[n].1.rc.no=bn at *;generalize L[n].1.run=bK at *;generalize L[n].1.size=bsz at *;have hn9:n<cap:=by omega
 have hn8:n<=100000000:=by omega
 have HN:Hid (L.length=n+1):=hn;generalize L[0]=X0 at *;clear hn en e0 hsmall hc1;have hI:Ie (pF w g 0 (.int .i64 bn) (.slice on bl kn) (.int .i64 bK) (.int .i64 bsz)) g cap L1':=HIT.out;have hcl:=pop_clear hI (n:=n) (by have:=HLE.out;have:=HN.out;omega) (by rw[size_put4];exact hglt) (.cells #[.int .i64 0,.slice none 0 0,.int .i64 0,.int .i64 0] 263) (.cells #[.int .i64 an,.slice o0 al k0,.int .i64 au,.int .i64 asz] 263);simp only[pF]at hcl;clear hI;simp only[U_]at hcl;go_enter func207,ntmps207;go_wp2
 go_region
 go_wp2_with fail
 refine(siftDown_all _ ph g cap bs ps ks L1 ((HPOP.out w (Touch.refl _ _)).1.quiet (((tr_.alloc (.cells #[.int .i64 0,.slice none 0 0,.int .i64 0,.int .i64 0] 263)).alloc (.cells #[.int .i64 an,.slice o0 al k0,.int .i64 au,.int .i64 asz] 263)).drew)) HDOWN.out (by have:=HLEN.out;omega)).mono ?_;rintro e w6 ⟨rfl,L',hH6,hP6,hO6,hT6⟩;obtain⟨b0,b1,hsz6⟩:=two_new (N:=w.heap.size) (by simp) hT6 hglt;obtain⟨x0,x1,x2,x3⟩:=bJ b0;obtain⟨y0,y1,y2,y3⟩:=bJ b1;have z0:w6.frozen? ⟨w.heap.size,0,none⟩=false:=by simp[World.frozen?,b0]
 have z1:w6.frozen? ⟨w.heap.size,1,none⟩=false:=by simp[World.frozen?,b0]
 have z2:w6.frozen? ⟨w.heap.size,2,none⟩=false:=by simp[World.frozen?,b0]
 have z3:w6.frozen? ⟨w.heap.size,3,none⟩=false:=by simp[World.frozen?,b0]
 have HB0:Hid _:=b0;have HT6:Hid _:=hT6;clear b0 b1 hT6 c0 c1 c2 c3 d0 d1 d2 d3 hd0 hd1 f0 f1 f2 f3 fph hcl;go_wp2;refine bodyPost_ret (v:=.agg #[.int .i64 an,.slice o0 al k0,.int .i64 au,.int .i64 asz]) (by simp[results,results207,go_sem,x0,x1,x2,x3]) rfl ⟨rfl,L',?_,?_,?_⟩
 ·have hT7:=pU w6 w.heap.size 0 (.int .i64 an) (.slice o0 al k0) (.int .i64 au) (.int .i64 asz);have hA:=hH6.away hT7 (by simp;omega) (by simp;omega) (nO HB0.out (by decide)) (nO HB0.out (by decide)) (nO HB0.out (by decide)) (nO HB0.out (by decide));have hS:=hA.st hO6;have e:L'.length=n:=by rw[hP6.length_eq];exact HLEN.out
  rw[e]at hS;exact hS
 ·exact(hP6.cons X0).trans HPERM.out
 ·have hT7:=pU w6 w.heap.size 0 (.int .i64 an) (.slice o0 al k0) (.int .i64 au) (.int .i64 asz);have h1:=(HPOP.out w (Touch.refl _ _)).2;have h2:=(((h1.alloc (.cells #[.int .i64 0,.slice none 0 0,.int .i64 0,.int .i64 0] 263)).alloc (.cells #[.int .i64 an,.slice o0 al k0,.int .i64 au,.int .i64 asz] 263)).drew).trans (HT6.out.mono (by simp));exact h2.more hT7 (λi hi=>.inr (by simp at hi;omega))
end Go.Proofs.YtjoinhljdbljaaaGreat
