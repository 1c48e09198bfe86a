/- A sorter while runs are merged: its cells, its keys, its runs, the list of them at any place of its row. -/
import Derived.Test.YtjoinhljdbljaaaGreatCurGToCurH
import Derived.Deep.RegionLawGrows
set_option linter.unusedSectionVars false
namespace Go.Proofs.YtjoinhljdbljaaaGreat
open Go.RowKit Go.Proofs.Tryz
variable [Inhabited Ground]
variable {R:List RI} {cap g len n o:Nat} {v:Value} {w w':World}
def PO (w:World)(v:Value)(R:List RI):Prop:=∃g o cap cur,v=.slice (some ⟨g,o,none⟩) R.length cap/\w.heap[g]?=some (.cells cur 194 (0,0))/\R.length<=cap/\o+cap<=cur.size/\cap<=maxLen/\∀i (_:i<R.length),cur[o+i]?=some R[i].ptr
theorem PW.off (h:PW w v R)(hn:R≠[]):PO w v R:=by
 rcases h.shape with⟨_,e⟩|⟨g,cap,cur,e,hh,hc,hm,hs,hx⟩
 ·exact absurd e hn
 ·exact⟨g,0,cap,cur,e,hh,hc,by omega,hm,λi hi=>by rw[U_];exact hx i hi⟩
theorem PO.keep (h:PO w v R)(k:KT 194 w w'):PO w' v R:=by
 obtain⟨g,o,cap,cur,e,hh,rest⟩:=h;exact⟨g,o,cap,cur,e,k _ _ _ hh,rest⟩
theorem PO.block (h:PO w v R):∀k,v.ownBlock=some k->∃cs,w.heap[k]?=some (.cells cs 194 (0,0)):=λk hk=>by
 obtain⟨g,o,cap,cur,rfl,hh,_⟩:=h;simp[Value.ownBlock]at hk;subst hk;exact⟨_,hh⟩
theorem PO.cell {w:World}{g o n cap:Nat}{R:List RI}(h:PO w (.slice (some ⟨g,o,none⟩) n cap) R):n=R.length/\R.length<=cap/\cap<=maxLen/\(∀i (_:i<R.length),w.cell? ⟨g,o+i,none⟩=some R[i].ptr):=by
 obtain⟨g',o',cap',cur,e,hh,h1,h2,h3,h4⟩:=h;simp only[Value.slice.injEq,j_,Addr.mk.injEq,and_true]at e;obtain⟨⟨rfl,rfl⟩,rfl,rfl⟩:=e;exact⟨rfl,h1,h3,λi hi=>by simp only[World.cell?,hh];exact h4 i hi⟩
theorem PO.first (h:PO w (.slice (some ⟨g,o,none⟩) len cap) R)(n:Nat)(hn:n<=R.length):PO w (.slice (some ⟨g,o,none⟩) n n) (R.take n):=by
 obtain⟨g',o',cap',cur,e,hh,h1,h2,h3,h4⟩:=h;simp only[Value.slice.injEq,j_,Addr.mk.injEq,and_true]at e;obtain⟨⟨rfl,rfl⟩,rfl,rfl⟩:=e;have hl:(R.take n).length=n:=by rw[W_];omega
 refine⟨g,o,n,cur,by rw[hl],hh,by omega,by omega,by omega,λi hi=>?_⟩;rw[hl]at hi;rw[List.getElem_take];exact h4 i (by omega)
theorem PO.rest (h:PO w (.slice (some ⟨g,o,none⟩) len cap) R)(n:Nat)(hn:n<=R.length):PO w (.slice (some ⟨g,o+n,none⟩) (len-n) (cap-n)) (R.drop n):=by
 obtain⟨g',o',cap',cur,e,hh,h1,h2,h3,h4⟩:=h;simp only[Value.slice.injEq,j_,Addr.mk.injEq,and_true]at e;obtain⟨⟨rfl,rfl⟩,rfl,rfl⟩:=e;have hl:(R.drop n).length=R.length-n:=by simp
 refine⟨g,o+n,cap-n,cur,by rw[hl],hh,by omega,by omega,by omega,λi hi=>?_⟩;rw[List.getElem_drop,show o+n+i=o+(n+i) by omega];exact h4 (n+i) (by omega)
def KR (g n:Nat)(w w':World):Prop:=∀cur,w.heap[g]?=some (.cells cur 194 (0,0))->∃cur',w'.heap[g]?=some (.cells cur' 194 (0,0))/\cur'.size=cur.size/\∀i,i<n->cur'[i]?=cur[i]?
theorem PO.row (h:PO w (.slice (some ⟨g,o,none⟩) len cap) R)(k:KR g n w w')(hn:o+len<=n):PO w' (.slice (some ⟨g,o,none⟩) len cap) R:=by
 obtain⟨g',o',cap',cur,e,hh,h1,h2,h3,h4⟩:=h;simp only[Value.slice.injEq,j_,Addr.mk.injEq,and_true]at e;obtain⟨⟨rfl,rfl⟩,rfl,rfl⟩:=e;obtain⟨cur',k1,k2,k3⟩:=k cur hh;exact⟨g,o,cap,cur',rfl,k1,h1,by omega,h3,λi hi=>by rw[k3 _ (by omega)];exact h4 i hi⟩
theorem step_off {ops:Array Oper}{o:Oper}{a:Act}{K:Act->World->Prop}{Q:Exit->Act->World->Prop}{E:Prop}(hgd:o.guard=none)(s x:Operand)
  (ho:o.op=.call { callee:=.builtin .append,args:=#[s,x],argTypes:=#[160,160] }) (g of len cap:Nat) (R:List RI) (hs:a.eval s=.slice (some ⟨g,of,none⟩) len cap) (hown:PO w (.slice (some ⟨g,of,none⟩) len cap) R)
  (ad:Addr) (y:RI) (c:Nat) (hx:a.eval x=.slice (some ad) 1 c) (hnews:w.cell? ad=some y.ptr) (hlen:R.length<=1000000000)
  (h:∀g' o' cap' w',PO w' (.slice (some ⟨g',o',none⟩) (R.length+1) cap') (R++[y])->Touch [g] w w'->KR g (of+len) w w'->(g'=g\/w.heap.size<=g')->K (a.put o.dst (.slice (some ⟨g',o',none⟩) (R.length+1) cap')) w') :
  if Region.wanted o (yielded ops a.tmps)=true then Oper.wp prog o a w K Q else E:=by
 obtain⟨i0,hi,hz0,hz1,hz2⟩:=info_parts info194;obtain⟨g',o',cap',cur,e,hh,h1,h2,h3,h4⟩:=hown;simp only[Value.slice.injEq,j_,Addr.mk.injEq,and_true]at e;obtain⟨⟨rfl,rfl⟩,rfl,rfl⟩:=e;have hn:∀j u,[y.ptr][j]?=some u->w.cell? (ad.add j)=some u:=λj u hj=>by
  match j,hj with
  | 0,hj=>simp at hj;subst hj;exact hnews
 by_cases hr:R.length+1<=cap
 ·refine step_append_room hgd s x 160 ho 194 i0 1 underlying160 hi hz1 g of R.length cap hs ad 1 c [y.ptr] hx (by simp) hn (by simp[RI.ptr,Value.oneCell']) hr (λj hj=>?_) ?_
  ·simp only[List.length_singleton]at hj;have:j=0:=by omega
   subst this;refine⟨?_,by simp[World.frozen?,hh]⟩;simp only[World.cell?,hh,Option.isSome_iff_exists];exact⟨_,q_ (by omega)⟩
  ·have e1:w.setCells g (of+R.length*1) [y.ptr]=w.setCell ⟨g,of+R.length,none⟩ y.ptr:=by simp[World.setCells]
   rw[e1];have hb:=heap_setCell_same w g (of+R.length) cur 194 y.ptr hh;refine h g of cap _ ⟨g,of,cap,_,by simp,hb,by simp;omega,by simpa using h2,h3,λi hi=>?_⟩ ((Touch.refl [g] w).setCell (p:=⟨g,of+R.length,none⟩) (by simp) _) (λcur2 hc2=>?_) (.inl rfl)
   ·rw[gJ];simp only[c_,List.length_singleton]at hi;by_cases e:i<R.length
    ·rw[if_neg (by omega),G_ e];exact h4 i e
    ·have:i=R.length:=by omega
     subst this;rw[if_pos rfl,if_pos (by omega)];simp
   ·rw[hh]at hc2;simp only[j_,Obj.cells.injEq,and_true]at hc2;subst hc2;refine⟨_,hb,by simp,λi hi=>?_⟩;rw[gJ,if_neg (by omega)]
 ·refine step_append_grows hgd s x 160 ho 194 i0 (.pointer none) 1 8 underlying160 hi hz0 hz1 hz2 rfl (by decide) (some ⟨g,of,none⟩) R.length cap (R.map RI.ptr) hs (by simp) (by simp) (λb hb j u hj=>?_) ad 1 c [y.ptr] hx (by simp) hn (by simp[RI.ptr,Value.oneCell']) (by omega) (by unfold maxLen;omega) (by omega) ?_
  ·simp only[j_]at hb;subst hb;rw[Addr.add_lit];obtain⟨hj1,hj2⟩:=l_.1 hj;simp only[u_]at hj1;simp only[World.cell?,hh];rw[h4 j hj1];simp at hj2;rw[hj2];rfl
  ·intro v' w' hO hG;rw[<-List.map_singleton,<-w_]at hO;have hO':PW w' v' (R++[y]):=by
    unfold PW;rw[c_,List.length_singleton];exact⟨hO.1,by
     rcases hO.2 with h'|⟨g2,c2,cur2,e2,_,rest⟩
     ·exact .inl h'
     ·exact .inr ⟨g2,c2,cur2,e2,x_ _,rest⟩⟩
   have hge:∀k,v'.ownBlock=some k->w.heap.size<=k:=λk hk=>by
    rcases hO.2 with⟨e2,_⟩|⟨g2,c2,cur2,e2,hb2,rest⟩
    ·rw[e2]at hk;simp[Value.ownBlock]at hk
    ·rw[e2]at hk;simp[Value.ownBlock]at hk;omega
   obtain⟨g2,o2,c2,cur2,e2,rest⟩:=hO'.off (by simp);subst e2;rw[c_,List.length_singleton];have hglt:=(agi.1 hh).1;have tt:Touch [] w w':=(tr_.grown hG (λk hk=>by simp at hk));refine h g2 o2 c2 w' ⟨g2,o2,c2,cur2,by simp,rest⟩ (tt.mono (by simp)) (λcur3 hc3=>⟨cur3,?_,rfl,λ_ _=>rfl⟩) (.inr (hge g2 (by simp[Value.ownBlock])));rw[tt.block g hglt (by simp)];exact hc3
structure SM (w:World)(ps:Nat)(s:SC)(ks:List K)(bm cols:Nat)(d:DS)(M:List PF)(pre:List RI)(o:Option RI)(R:List RI):Prop where
 sorter:Sr w ps s
 keys:KA w s.kv ks
 runs:RS w s.bx bm s.blk cols d M pre o
 own:PO w s.rv R
def smF (ps:Nat)(s:SC)(bm:Nat)(M:List PF)(R:List RI):List Nat:=ps::(s.rv.ownBlock.toList++rF s.bx bm M R)
end Go.Proofs.YtjoinhljdbljaaaGreat
