/- The walk of spillAll, and what follows. -/
import Derived.Test.YtjoinhljdbljaaaGreatSrtFToSrtH
import Derived.Deep.LoopGhost
set_option maxHeartbeats 4000000
set_option maxRecDepth 20000
set_option linter.unusedSectionVars false
namespace Go.Proofs.YtjoinhljdbljaaaGreat
open Go.RowKit Go.Proofs.Tryz
variable [Inhabited Ground]
variable {B aC al bf blk bm bs bud bx cap cols count fan g j m n p ph ps rd sz:Nat} {F:List Nat} {L L':List EV} {M M':List PF} {W w w' w4 wr:World} {a b c e hv hv' kv sv v:Value} {an asz au:Int} {ao:Option Addr} {d d':DS} {ks:List K} {lr lr':Rec} {o o':Option RI} {pre pre':List RI} {rows:List Rec} {s s':SC}
structure SpInv (w:World)(ps bs:Nat)(s:SC)(F:List Nat)(ks:List K)(bm cols:Nat)(rows:List Rec)(m j:Nat)(wr:World)(s':SC)(hv':Value)(L':List EV)(d':DS)(M':List PF)(pre':List RI)(o':Option RI)(lr':Rec):Prop where
 st:SS wr ps bs s' hv' ks L' bm cols d' M' pre' o' rows lr'
 same:Same s s'
 left:Left d' (2*L'.length+m) (L'.length+j)
 touch:TU F w wr
 sub:Sub w (sbF ps s' hv' bm M' (pre'++o'.toList)) F
theorem SS.quiet {w w':World}{ps bs:Nat}{s:SC}{hv:Value}{ks:List K}{L:List EV}{bm cols:Nat}{d:DS}{M:List PF}{pre:List RI}{o:Option RI}{rows:List Rec}{lr:Rec}{F:List Nat}(h:SS w ps bs s hv ks L bm cols d M pre o rows lr)(t:Touch F w w')(hF:∀k∈F,k∉sbF ps s hv bm M (pre++o.toList))(n1:NT 228 w F)(n2:NT 73 w F)(n3:NT 85 w F)(n4:NT 5 w F):SS w' ps bs s hv ks L bm cols d M pre o rows lr:=
 ⟨h.sb.quiet t hF n1 n2 n3 n4,h.lists,λhn=>⟨(h.last hn).1,Sl3.keep (h.last hn).2.1 (t.tag n3),(h.last hn).2.2⟩,h.length,h.none,h.few,h.most,h.run,h.many⟩
theorem SS.qU (h:SS w ps bs s hv ks L bm cols d M pre o rows lr)(t:Touch [] w w'):SS w' ps bs s hv ks L bm cols d M pre o rows lr:=
 h.quiet t (by simp) (λk hk=>by simp at hk) (λk hk=>by simp at hk) (λk hk=>by simp at hk) (λk hk=>by simp at hk)
theorem spInv_spill (h:SpInv w ps bs s F ks bm cols rows m j wr s' hv' L' d' M' pre' o' lr')(hL:L'≠[]) :
  Calls prog 167 #[.pointer (some ⟨ps,0,none⟩)] wr λe w'=>e=.returned (.tuple #[])/\∃s2 hv2 L2 d2 M2 pre2 x2 lr2,SpInv w ps bs s F ks bm cols rows m j w' s2 hv2 L2 d2 M2 pre2 (some x2) lr2/\L2.length+1=L'.length/\TU (sbF ps s' hv' bm M' (pre'++o'.toList)) wr w':=by
 obtain⟨n,hn⟩:∃n,L'.length=n+1:=by
  cases L' with
  | nil=>exact absurd rfl hL
  | cons a l=>exact⟨l.length,rfl⟩
 have hl:=h.left;refine(spill_any wr ps bs s' hv' ks L' bm cols d' M' pre' o' rows lr' (2*n+m) (n+j) h.st hL (hl.mono (by omega) (by omega))).mono ?_;rintro e w' ⟨rfl,s2,hv2,L2,d2,M2,pre2,x2,lr2,p1,p2,p3,p4,p5,p6⟩;have:L2.length=n:=by omega
 subst this;exact⟨rfl,s2,hv2,L2,d2,M2,pre2,x2,lr2,⟨p1,h.same.trans p2,p4,h.touch.onto p5 h.sub,h.sub.trans p6 h.touch.size⟩,p3,p5⟩
theorem spillAll_any (w:World)(ps bs:Nat)(s:SC)(hv:Value)(ks:List K)(L:List EV)(bm cols:Nat)(d:DS)(M:List PF)(pre:List RI)(o:Option RI)(rows:List Rec)(lr:Rec)(m j:Nat)(h:SS w ps bs s hv ks L bm cols d M pre o rows lr)(hl:Left d (2*L.length+(m+1)) (L.length+j)) :
  Calls prog 169 #[.pointer (some ⟨ps,0,none⟩)] w λe w'=>e=.returned (.tuple #[])/\∃s' hv' d' M' pre',SB w' ps bs s' hv' ks [] bm cols d' M' pre' none/\Runs ks s.count rows (pre'.map RI.recs)/\Same s s'/\Left d' m j/\(pre'.length:Int)<=d'.last/\(pre++o.toList≠[]->pre'≠[])/\TU (sbF ps s hv bm M (pre++o.toList)) w w'/\Sub w (sbF ps s' hv' bm M' pre') (sbF ps s hv bm M (pre++o.toList)):=by
 have H0:Hid (∃s' hv' L' d' M' pre' o' lr',SpInv w ps bs s (sbF ps s hv bm M (pre++o.toList)) ks bm cols rows (m+1) j w s' hv' L' d' M' pre' o' lr'/\L'.length=L.length/\(pre++o.toList≠[]->pre'++o'.toList≠[])):=⟨s,hv,L,d,M,pre,o,lr,⟨h,Same.refl s,hl,TU.refl _ _,Sub.refl _ _⟩,rfl,λh=>h⟩;clear h hl;go_enter func169,ntmps169;go_wp2
 go_loopg [] (L.length) (λg wr=>∃s' hv' L' d' M' pre' o' lr',SpInv w ps bs s (sbF ps s hv bm M (pre++o.toList)) ks bm cols rows (m+1) j wr s' hv' L' d' M' pre' o' lr'/\L'.length=g/\(pre++o.toList≠[]->pre'++o'.toList≠[]))
 case atStart=>exact H0.out
 case round=>
  clear H0;obtain⟨s',hv',L',d',M',pre',o',lr',hI,hg,hne⟩:=hrel;obtain⟨c0,c1,c2,c3,c4,c5,c6,c7,c8,c9,c10,c11,c12,c13,c14,c15,cf⟩:=hI.st.sb.sorter.cell;have HI:Hid (SpInv w ps bs s (sbF ps s hv bm M (pre++o.toList)) ks bm cols rows (m+1) j wr s' hv' L' d' M' pre' o' lr'/\L'.length=gk/\(pre++o.toList≠[]->pre'++o'.toList≠[])):=⟨hI,hg,hne⟩;have HLEN:Hid (Calls prog 173 #[.pointer (some ⟨s'.ph,0,none⟩)] wr λe w'=>e=.returned (.int .i64 (L'.length:Int))/\w'=wr):=len_any wr s'.ph hv' bs ps ks L' hI.st.sb.heap;by_cases hL:L'=[]
  ·have hz:¬(0:Int)<(L'.length:Int):=by rw[hL];simp
   have HEND:Hid (Calls prog 197 #[.pointer (some ⟨ps,0,none⟩)] wr λe w'=>e=.returned (.tuple #[])/\∃pre2 d2 M2,SB w' ps bs s' hv' ks L' bm cols d2 M2 pre2 none/\pre2.map RI.recs=(pre'++o'.toList).map RI.recs/\pre2.map RI.r=(pre'++o'.toList).map RI.r/\Left d2 m j/\d2.last=d'.last/\Sub wr (rowsOf M2) (rowsOf M')/\Touch (rF s'.bx bm M' (pre'++o'.toList)) wr w'):=
    sbEndRun_any m j hI.st.sb hI.st.none (hI.left.mono (by omega) (by omega))
   clear hI hg hne cf
   go_wp2_with (first|(go_at_call 173;refine HLEN.out.mono ?_;rintro e w1 ⟨rfl,rfl⟩)|(go_at_call 197;refine HEND.out.mono ?_;rintro e w2 ⟨rfl,pre2,d2,M2,q1,q2,q3,q4,q5,q6,q7⟩;have HQ1:Hid _:=q1;have HQ7:Hid _:=q7;clear q1 q7))
   go_end0
   obtain⟨hI,hg,hne⟩:=HI.out;have hlen:pre2.length=(pre'++o'.toList).length:=by have:=congrArg List.length q3;rw[u_,u_]at this;exact this
   have hr:Sub w1 (sbF ps s' hv' bm M2 pre2) (sbF ps s' hv' bm M' (pre'++o'.toList)):=λk hk=>by
    simp only[sbF,rF,dI,a_,d_]at hk ⊢;rcases hk with hk|hk|hk|hk|hk|hk
    ·exact .inl (.inl hk)
    ·exact .inl (.inr (.inl hk))
    ·rw[q3]at hk;exact .inl (.inr (.inr (.inl hk)))
    ·exact .inl (.inr (.inr (.inr (.inl hk))))
    ·exact .inl (.inr (.inr (.inr (.inr (.inl hk)))))
    ·rcases q6 k hk with h|h
     ·exact .inl (.inr (.inr (.inr (.inr (.inr h)))))
     ·exact .inr h
   subst hL;refine⟨rfl,s',hv',d2,M2,pre2,HQ1.out,?_,hI.same,q4,?_,λh1 h2=>?_,hI.touch.onto HQ7.out.u (λk hk=>hI.sub k (by simp only[sbF,a_,d_];exact .inr (.inr hk))),hI.sub.trans hr hI.touch.size⟩
   ·rw[q2,<-hI.same.count];exact hI.st.lists.whole
   ·rw[hlen,q5];exact hI.st.many
   ·rw[h2]at hlen;exact hne h1 (D_.1 hlen.symm)
  ·have hz:(0:Int)<(L'.length:Int):=by have:=ay_.2 hL;omega
   have HSP:Hid (Calls prog 167 #[.pointer (some ⟨ps,0,none⟩)] wr λe w'=>e=.returned (.tuple #[])/\∃s2 hv2 L2 d2 M2 pre2 x2 lr2,SpInv w ps bs s (sbF ps s hv bm M (pre++o.toList)) ks bm cols rows (m+1) j w' s2 hv2 L2 d2 M2 pre2 (some x2) lr2/\L2.length+1=L'.length/\TU (sbF ps s' hv' bm M' (pre'++o'.toList)) wr w'):=spInv_spill hI hL;clear hI hg hne cf
   go_wp2_with (first|(go_at_call 173;refine HLEN.out.mono ?_;rintro e w1 ⟨rfl,rfl⟩)|(go_at_call 167;refine HSP.out.mono ?_;rintro e w2 ⟨rfl,s2,hv2,L2,d2,M2,pre2,x2,lr2,q1,q2,q3⟩;have HQ1:Hid _:=q1;clear q1 q3))
   go_roundg (gk-1)
   case measure=>have:=HI.out.2.1;omega
   case rel=>exact⟨s2,hv2,L2,d2,M2,pre2,some x2,lr2,HQ1.out,by have:=HI.out.2.1;omega,by simp⟩
theorem sizes_snoc (L:List EV)(x:EV):sizes (L++[x])=sizes L+x.1.size:=by simp[sizes]
theorem addEnd {Wm w9:World}{hv9:Value}{L9:List EV}{x:EV}{cb:Array Value}{fb:Nat×Nat}
  (h:SS wr ps bs s' hv' ks L' bm cols d' M' pre' o' rows lr') (hS:Sr Wm ps { s' with held:=n }) (hB:wr.heap[B]?=some (.cells cb 263 fb)) (hBF:B∉sbF ps s' hv' bm M' (pre'++o'.toList)) (tm:Touch [ps,B] wr Wm) (hp:Hf w9 s'.ph hv9 bs ps ks L9) (perm:L9.Perm (L'++[x])) (tp:Touch (h_ s'.ph hv') Wm w9) (own:∀k,hv9.ownBlock=some k->hv'.ownBlock=some k\/Wm.heap.size<=k)
  (hn:(n:Int)=s'.held+x.1.size) (hx:x.1.size=sZ x.1.rc.row/\Rh s'.blk cols x.1.rc) (hrun:x.1.run=if pre'++o'.toList≠[]/\aB ks x.1.rc lr'=true then s'.run+1 else s'.run) (few:rows.length+1<=100000) :
  SS w9 ps bs { s' with held:=n } hv9 ks L9 bm cols d' M' pre' o' (rows++[x.1.rc]) lr'/\Touch (sbF ps s' hv' bm M' (pre'++o'.toList)++[B]) wr w9/\Sub wr (sbF ps { s' with held:=n } hv9 bm M' (pre'++o'.toList)) (sbF ps s' hv' bm M' (pre'++o'.toList)):=by
 have nb:∀t,(260:TypeId)≠t->(263:TypeId)≠t->NT t wr [ps,B]:=λt h1 h2=>(nO hB h2).cons h.sb.sorter h1;have hRm:RS Wm s'.bx bm s'.blk cols d' M' pre' o':=by
  refine h.sb.runs.quiet tm (λk hk e=>?_) (nb 5 (by decide) (by decide));rcases a_.1 hk with rfl|hk
  ·exact(h.sb.runs.nT (t:=260) (by decide) (by decide) (by decide)).not_mem h.sb.sorter e
  ·rw[ms_ hk]at e;exact hBF (by simp[sbF,e])
 have hOm:PW Wm s'.rv (pre'++o'.toList):=h.sb.own.u tm.u (λk hk e=>by
  obtain⟨cs,hc⟩:=h.sb.own.block k hk;exact(nb 194 (by decide) (by decide)).not_mem hc e)
 have hHm:Hf Wm s'.ph hv' bs ps ks L':=by
  refine h.sb.heap.away h.sb.sorter hS rfl tm.u (λk hk e=>?_) (nb _ (by decide) (by decide)) (nb _ (by decide) (by decide)) (nb _ (by decide) (by decide));rcases a_.1 hk with rfl|hk
  ·exact(h.sb.heap.nT (t:=260) (by decide) (by decide)).not_mem h.sb.sorter e
  ·rw[ms_ hk]at e;exact hBF (by simp[sbF,e])
 have np:∀t,(302:TypeId)≠t->(263:TypeId)≠t->NT t Wm (h_ s'.ph hv'):=λt h1 h2=>hHm.nT h1 h2;have hS9:Sr w9 ps { s' with held:=n }:=hS.u tp.u ((np 260 (by decide) (by decide)).not_mem hS);have sb9:SB w9 ps bs { s' with held:=n } hv9 ks L9 bm cols d' M' pre' o':=by
  refine⟨hS9,hp,?_,λy hy=>?_,?_,hOm.u tp.u (λk hk e=>?_)⟩
  ·rw[sizes_perm perm,sizes_snoc,h.sb.held,hn]
  ·rcases d_.1 (perm.mem_iff.1 hy)with hy|hy
   ·exact h.sb.ents y hy
   ·rw[ms_ hy];exact hx
  ·refine hRm.quiet tp (λk hk e=>?_) (np 5 (by decide) (by decide));rcases a_.1 hk with rfl|hk
   ·exact(hRm.nT (t:=302) (by decide) (by decide) (by decide)).not_mem hHm.head e
   ·obtain⟨cs,f,hc⟩:=hHm.items.tag k (by simpa using hk);exact(hRm.nT (t:=263) (by decide) (by decide) (by decide)).not_mem hc e
  ·obtain⟨cs,hc⟩:=hOm.block k hk;exact(np 194 (by decide) (by decide)).not_mem hc e
 refine⟨⟨sb9,?_,λhne=>⟨(h.last hne).1,Sl3.keep (Sl3.keep (h.last hne).2.1 (tm.tag (nb _ (by decide) (by decide)))) (tp.tag (np _ (by decide) (by decide))),(h.last hne).2.2⟩,h.length,h.none,by rw[c_];exact few,h.most,h.run,h.many⟩,?_,λk hk=>?_⟩
 ·refine h.lists.add (items':=L9.map Prod.fst) x.1 ?_ (haC hp.ok) (by simpa using perm.map Prod.fst);rw[hrun];simp only[ne_eq,List.map_eq_nil_iff]
 ·refine(tm.mono (λk hk=>?_)).trans (tp.mono (λk hk=>?_))
  ·simp only[a_,i_,or_false]at hk;rcases hk with rfl|rfl<;>simp[sbF]
  ·simp[sbF,hk]
 ·simp only[sbF,h_,a_,d_,bb_]at hk ⊢;rcases hk with hk|((hk|hk)|hk)|hk
  ·exact .inl (.inl hk)
  ·exact .inl (.inr (.inl (.inl (.inl hk))))
  ·rcases own k hk with h1|h1
   ·exact .inl (.inr (.inl (.inl (.inr h1))))
   ·exact .inr (k_ tm.size h1)
  ·exact .inl (.inr (.inl (.inr hk)))
  ·exact .inl (.inr (.inr hk))
structure AV (w:World)(ps bs:Nat)(s:SC)(F:List Nat)(ks:List K)(bm cols:Nat)(rows:List Rec)(m j B:Nat)(an:Int)(ao:Option Addr)(al aC:Nat)(sz:Nat)(row:List V)(wr:World)(s':SC)(hv':Value)(L':List EV)(d':DS)(M':List PF)(pre':List RI)(o':Option RI)(lr':Rec):Prop where
 inv:SpInv w ps bs s F ks bm cols rows m j wr s' hv' L' d' M' pre' o' lr'
 box:Eo wr B an ao al aC 0 (sz:Int)
 far:B∉sbF ps s' hv' bm M' (pre'++o'.toList)
 row:Ro wr (.slice ao al aC) row
theorem AV.qU {w wr wr2:World}{ps bs:Nat}{s s':SC}{F:List Nat}{hv':Value}{ks:List K}{L':List EV}{bm cols:Nat}{d':DS}{M':List PF}{pre':List RI}{o':Option RI}{rows:List Rec}{lr':Rec}{m j B al aC sz:Nat}{an:Int}{ao:Option Addr}{row:List V}(h:AV w ps bs s F ks bm cols rows m j B an ao al aC sz row wr s' hv' L' d' M' pre' o' lr')(t:Touch [] wr wr2):AV w ps bs s F ks bm cols rows m j B an ao al aC sz row wr2 s' hv' L' d' M' pre' o' lr':=
 ⟨⟨h.inv.st.qU t,h.inv.same,h.inv.left,h.inv.touch.trans (t.mono (by simp)).u,h.inv.sub⟩,t.u.keep h.box (by decide) (by simp),h.far,h.row.touch t⟩
theorem ebox_run (h:Eo w B an ao al aC au asz)(r:Int):Eo (w.setCell ⟨B,2,none⟩ (.int .i64 r)) B an ao al aC r asz:=by
 unfold Eo at *;rw[heap_setCell_same w B 2 _ 263 _ h];simp
theorem spSt_setCame (h:SS w ps bs s hv ks L bm cols d M pre o rows lr)(n:Nat):SS (w.setCell ⟨ps,8,none⟩ (.int .i64 (n:Int))) ps bs { s with came:=n } hv ks L bm cols d M pre o rows lr:=by
 have t:Touch [ps] w (w.setCell ⟨ps,8,none⟩ (.int .i64 (n:Int))):=(Touch.refl [ps] w).setCell (p:=⟨ps,8,none⟩) (by simp) _;exact⟨h.sb.cells (h.sb.sorter.setCame n) t rfl rfl rfl rfl rfl rfl,h.lists,λhn=>⟨(h.last hn).1,Sl3.keep (h.last hn).2.1 (t.tag (nO h.sb.sorter (by decide))),(h.last hn).2.2⟩,h.length,h.none,h.few,h.most,h.run,h.many⟩
theorem ebox_set (h:w.heap[B]?=some (.cells #[a,b,c,e] 263 (0,0)))(an:Int)(ao:Option Addr)(al aC:Nat)(au asz:Int):Eo ((((w.setCell ⟨B,0,none⟩ (.int .i64 an)).setCell ⟨B,1,none⟩ (.slice ao al aC)).setCell ⟨B,2,none⟩ (.int .i64 au)).setCell ⟨B,3,none⟩ (.int .i64 asz)) B an ao al aC au asz:=by
 have hB:=heap_setCell_same _ B 3 _ 263 (.int .i64 asz) (heap_setCell_same _ B 2 _ 263 (.int .i64 au) (heap_setCell_same _ B 1 _ 263 (.slice ao al aC) (heap_setCell_same _ B 0 _ 263 (.int .i64 an) h)));simp at hB;exact hB
theorem addInv_spill {row:List V}(h:AV w ps bs s F ks bm cols rows m j B an ao al aC sz row wr s' hv' L' d' M' pre' o' lr')(hL:L'≠[]) :
  Calls prog 167 #[.pointer (some ⟨ps,0,none⟩)] wr λe w'=>e=.returned (.tuple #[])/\∃s2 hv2 L2 d2 M2 pre2 x2 lr2,AV w ps bs s F ks bm cols rows m j B an ao al aC sz row w' s2 hv2 L2 d2 M2 pre2 (some x2) lr2/\L2.length+1=L'.length:=by
 obtain⟨n,hn⟩:∃n,L'.length=n+1:=by
  cases L' with
  | nil=>exact absurd rfl hL
  | cons a l=>exact⟨l.length,rfl⟩
 have hl:=h.inv.left;refine(spill_any wr ps bs s' hv' ks L' bm cols d' M' pre' o' rows lr' (2*n+m) (n+j) h.inv.st hL (hl.mono (by omega) (by omega))).mono ?_;rintro e w' ⟨rfl,s2,hv2,L2,d2,M2,pre2,x2,lr2,p1,p2,p3,p4,p5,p6⟩;have:L2.length=n:=by omega
 subst this;have hBl:B<wr.heap.size:=(agi.1 h.box).1;refine⟨rfl,s2,hv2,L2,d2,M2,pre2,x2,lr2,⟨⟨p1,h.inv.same.trans p2,p4,h.inv.touch.onto p5 h.inv.sub,h.inv.sub.trans p6 h.inv.touch.size⟩,p5.keep h.box (by decide) h.far,λe=>?_,Sl3.keep h.row (p5.tag (by decide) (h.inv.st.sb.nT (by decide) (by decide) (by decide) (by decide) (by decide) (by decide) (by decide)))⟩,p3⟩;rcases p6 B e with h1|h1
 ·exact h.far h1
 ·omega
theorem SB.keys {w:World}{ps bs:Nat}{s:SC}{hv:Value}{ks:List K}{L:List EV}{bm cols:Nat}{d:DS}{M:List PF}{pre:List RI}{o:Option RI}(h:SB w ps bs s hv ks L bm cols d M pre o):KA w s.kv ks:=by
 obtain⟨cs,f,vk,k1,k2,k3⟩:=h.heap.ctx.keys;have hs:=h.sorter;unfold Sr at hs;rw[hs]at k1;simp only[j_,Obj.cells.injEq]at k1;rw[<-k1.1]at k2;simp[SC.cells]at k2;rw[k2];exact k3
theorem spAhead_any (a:Rec)(h:SS w ps bs s hv ks L bm cols d M pre o rows lr)(hne:pre++o.toList≠[])(ha:Ro w v a.row)(fa:AB ks a.row)(t:Touch F w W)(hps:ps∉F)(n1:NT 73 w F)(n2:NT 85 w F) :
  Calls prog 165 #[.pointer (some ⟨ps,0,none⟩),.agg #[.int .i64 a.no,v],.agg #[.int .i64 s.lno,s.lv]] W λe w'=>e=.returned (.bool (aB ks a lr))/\Touch [] W w':=by
 obtain⟨l1,l2,l3⟩:=h.last hne;have:=ahead_any W ps v s.lv s.kv a lr ks (h.sb.sorter.u t.u hps).cell.2.2.1 (Sl3.keep ha (t.tag n2)) (Sl3.keep l2 (t.tag n2)) (Sl3.keep h.sb.keys (t.tag n1)) fa l3;rw[l1]at this;exact this
theorem sorterAdd_any (w:World)(ps bs:Nat)(s:SC)(hv:Value)(ks:List K)(L:List EV)(bm cols:Nat)(d:DS)(M:List PF)(pre:List RI)(o:Option RI)(rows:List Rec)(lr:Rec)(m j:Nat)(v:Value)(row:List V)(h:SS w ps bs s hv ks L bm cols d M pre o rows lr)(hl:Left d (2*L.length+(m+2)) (L.length+(j+1)))(hcame:s.came=rows.length)(hrow:Ro w v row)(hrec:Rh s.blk cols ⟨rows.length,row⟩)(hable:AB ks row)(few:rows.length+1<=100000)(hmost:s.blk<=s.most) :
  Calls prog 135 #[.pointer (some ⟨ps,0,none⟩),v] w λe w'=>e=.returned (.tuple #[])/\∃s' hv' L' d' M' pre' o' lr',SS w' ps bs s' hv' ks L' bm cols d' M' pre' o' (rows++[⟨rows.length,row⟩]) lr'/\Same { s with came:=rows.length+1 } s'/\Left d' (2*L'.length+m) (L'.length+j)/\TU (sbF ps s hv bm M (pre++o.toList)) w w'/\Sub w (sbF ps s' hv' bm M' (pre'++o'.toList)) (sbF ps s hv bm M (pre++o.toList)):=by
 have HSZ:Hid (∀W,Touch [] w W->Calls prog 141 #[v] W λe w'=>e=.returned (.int .i64 (sZ row:Int))/\Touch [] W w'):=λW hW=>size_any W v row (hrow.touch hW) hrec.fair (by have h1:=hrec.len;have h2:=h.sb.runs.c2;have h3:row.length=cols:=h1;omega);obtain⟨ao,aC,ea⟩:=hrow.shape;have HS:Hid (SS w ps bs s hv ks L bm cols d M pre o rows lr/\Left d (2*L.length+(m+2)) (L.length+(j+1))/\Ro w v row/\Rh s.blk cols ⟨rows.length,row⟩/\AB ks row):=⟨h,hl,hrow,hrec,hable⟩;obtain⟨c0,c1,c2,c3,c4,c5,c6,c7,c8,c9,c10,c11,c12,c13,c14,c15,cf⟩:=h.sb.sorter.cell;have hps:ps<w.heap.size:=(agi.1 h.sb.sorter).1;have hszb:sZ row<=4096/\sZ row<=s.most:=by have h1:=hrec.size;have h2:=h.sb.runs.b2;have h3:16+sZ row<=s.blk:=h1;omega
 obtain⟨hsz1,hsz2⟩:=hszb;have f8:=cf 8;have HCA0:Hid (s.came=rows.length):=hcame;rw[hcame]at c8;clear h hl hrow hrec hable cf hcame;subst ea;generalize hal:row.length=al at *;have HAL:Hid (row.length=al):=hal;clear hal;generalize hsz:sZ row=sz at *;have HZ:Hid (sZ row=sz):=hsz;clear hsz;generalize hn:rows.length=n at *;have HN:Hid (rows.length=n):=hn;have HCA:Hid ((s.came:Int)=(n:Int)):=by have:=HCA0.out;show(s.came:Int)=n;omega
 clear hn HCA0;go_enter func135,ntmps135;go_wp2
 go_cut [4] from 5 (λa wx=>∃B,a=.pointer (some ⟨B,0,none⟩)/\Eo wx B (n:Int) ao al aC 0 (sz:Int)/\Touch [] w wx/\w.heap.size<=B)
 case first=>
  have HC8:Hid (∀W,Touch [] w W->W.cell? ⟨ps,8,none⟩=some (.int .i64 (n:Int))):=λW hW=>cO c8 hW;have hne1:w.heap.size≠ps:=by omega
  have hne2:ps≠w.heap.size:=by omega
  go_region_held3 (λw'=>w'.cell? ⟨ps,8,none⟩=some (.int .i64 (n:Int))) (go_keep) (first|(go_at_call 141;refine(HSZ.out _ (tr_.drew)).mono ?_;rintro e w1 ⟨rfl,hT1⟩;have b8:=HC8.out w1 ((tr_.drew).trans hT1);have HT1:Hid (Touch [] w w1):=((tr_.drew).trans hT1);clear hT1)|(go_at_call 141;refine(HSZ.out _ ((tr_.alloc _).drew)).mono ?_;rintro e w1 ⟨rfl,hT1⟩;have b8:=HC8.out w1 (((tr_.alloc _).drew).trans hT1);have HT1:Hid (Touch [] w w1):=(((tr_.alloc _).drew).trans hT1);have hbx:w1.heap[w.heap.size]?=some (.cells #[.int .i64 0,.slice none 0 0,.int .i64 0,.int .i64 0] 263 (0,0)):=(hT1.block w.heap.size (by simp) (by simp)).trans (heap_alloc_new w _);obtain⟨x0,x1,x2,x3⟩:=bJ hbx;have z0:w1.frozen? ⟨w.heap.size,0,none⟩=false:=(by simp[World.frozen?,hbx]);have z1:w1.frozen? ⟨w.heap.size,1,none⟩=false:=(by simp[World.frozen?,hbx]);have z2:w1.frozen? ⟨w.heap.size,2,none⟩=false:=(by simp[World.frozen?,hbx]);have z3:w1.frozen? ⟨w.heap.size,3,none⟩=false:=(by simp[World.frozen?,hbx]);have HBX:Hid _:=hbx;clear hT1 hbx))
  all_goals
   go_wp2_with fail
   go_meet
   case rel=>first|exact⟨_,rfl,heap_alloc_new w1 _,HT1.out.alloc _,HT1.out.size⟩|exact⟨_,rfl,ebox_set HBX.out _ _ _ _ _ _,HT1.out.onto (((((Touch.refl [w.heap.size] w1).setCell (p:=⟨w.heap.size,0,none⟩) (by simp) _).setCell (p:=⟨w.heap.size,1,none⟩) (by simp) _).setCell (p:=⟨w.heap.size,2,none⟩) (by simp) _).setCell (p:=⟨w.heap.size,3,none⟩) (by simp) _) (λi hi=>.inr (by simp at hi;omega)),e_ _⟩
 case rest=>
  obtain⟨B,rfl,hbox,hT0,hBn⟩:=hcut;have hSw:=HS.out.1.qU hT0;clear c0 c1 c2 c3 c4 c5 c6 c7 c8 c9 c10 c11 c12 c13 c14 c15 f8;obtain⟨c0,c1,c2,c3,c4,c5,c6,c7,c8,c9,c10,c11,c12,c13,c14,c15,cf⟩:=hSw.sb.sorter.cell;have f8:=cf 8;have c8':wc.cell? ⟨ps,8,none⟩=some (.int .i64 (n:Int)):=by rw[c8,HCA.out]
  have hBF:B∉sbF ps s hv bm M (pre++o.toList):=λe=>by have:=HS.out.1.sb.lt B e;omega
  have hBp:B≠ps:=λe=>hBF (by simp[sbF,e]);have t8:Touch [ps] wc (wc.setCell ⟨ps,8,none⟩ (.int .i64 ((n+1:Nat):Int))):=(Touch.refl [ps] wc).setCell (p:=⟨ps,8,none⟩) (by simp) _;have H0:Hid (AV (wc.setCell ⟨ps,8,none⟩ (.int .i64 ((n+1:Nat):Int))) ps bs { s with came:=n+1 } (sbF ps s hv bm M (pre++o.toList)) ks bm cols rows (m+2) (j+1) B n ao al aC sz row (wc.setCell ⟨ps,8,none⟩ (.int .i64 ((n+1:Nat):Int))) { s with came:=n+1 } hv L d M pre o lr):=
   ⟨⟨spSt_setCame hSw (n+1),Same.refl _,HS.out.2.1,TU.refl _ _,Sub.refl _ _⟩,t8.u.keep hbox (by decide) (by simpa using hBp),hBF,Sl3.keep (HS.out.2.2.1.touch hT0) (t8.tag (nO hSw.sb.sorter (by decide)))⟩
  have HT8:Hid (TU (sbF ps s hv bm M (pre++o.toList)) w (wc.setCell ⟨ps,8,none⟩ (.int .i64 ((n+1:Nat):Int)))):=((hT0.mono (by simp)).trans (t8.mono (by simp[sbF]))).u;have hw0:IntKind.i64.wrap ((n:Int)+1)=(n:Int)+1:=wrap_small _ (by omega) (by omega);clear c8 cf hSw hbox t8;go_wp2
  go_loopg [] (L.length) (λg wr=>∃s' hv' L' d' M' pre' o' lr',AV (wc.setCell ⟨ps,8,none⟩ (.int .i64 ((n+1:Nat):Int))) ps bs { s with came:=n+1 } (sbF ps s hv bm M (pre++o.toList)) ks bm cols rows (m+2) (j+1) B n ao al aC sz row wr s' hv' L' d' M' pre' o' lr'/\L'.length=g)
  case atStart=>exact⟨_,_,_,_,_,_,_,_,H0.out,rfl⟩
  case round=>
   clear H0 c0 c1 c2 c3 c4 c5 c6 c7 c8' c9 c10 c11 c12 c13 c14 c15 f8;obtain⟨s',hv',L',d',M',pre',o',lr',hI,hg⟩:=hrel;have HI:Hid (AV (wc.setCell ⟨ps,8,none⟩ (.int .i64 ((n+1:Nat):Int))) ps bs { s with came:=n+1 } (sbF ps s hv bm M (pre++o.toList)) ks bm cols rows (m+2) (j+1) B n ao al aC sz row wr s' hv' L' d' M' pre' o' lr'/\L'.length=gk):=⟨hI,hg⟩;obtain⟨c0,c1,c2,c3,c4,c5,c6,c7,c8,c9,c10,c11,c12,c13,c14,c15,cf⟩:=hI.inv.st.sb.sorter.cell;obtain⟨x0,x1,x2,x3⟩:=bJ hI.box;have hL':L'.length<=100000:=by
    have h1:=hI.inv.st.lists.perm.len;simp only[c_,u_]at h1;have h2:=hI.inv.st.few;omega
   have hheld:s'.held<=1000000000:=(hI.inv.st.sb.small hL').1;have hpsr:ps<wr.heap.size:=(agi.1 hI.inv.st.sb.sorter).1;have hm2:sz<=s'.most:=by have h1:s'.most=s.most:=hI.inv.same.most;omega
   have hw1:IntKind.i64.wrap ((s'.held:Int)+(sz:Int))=(s'.held:Int)+(sz:Int):=wrap_small _ (by omega) (by omega);have HB0:Hid (0<=s'.run/\s'.run<=1000000000):=by
    have h1:=hI.inv.st.run;have h2:=hI.inv.left.last;exact⟨h1.1,by omega⟩
   by_cases ht:(s'.most:Int)<(s'.held:Int)+(sz:Int)
   ·have hL:L'≠[]:=λe=>by
     have h1:=hI.inv.st.sb.held;rw[e]at h1;simp[sizes]at h1;omega
    have HSP':Hid (∀W,Touch [] wr W->Calls prog 167 #[.pointer (some ⟨ps,0,none⟩)] W λe w'=>e=.returned (.tuple #[])/\∃s2 hv2 L2 d2 M2 pre2 x2 lr2,AV (wc.setCell ⟨ps,8,none⟩ (.int .i64 ((n+1:Nat):Int))) ps bs { s with came:=n+1 } (sbF ps s hv bm M (pre++o.toList)) ks bm cols rows (m+2) (j+1) B n ao al aC sz row w' s2 hv2 L2 d2 M2 pre2 (some x2) lr2/\L2.length+1=L'.length):=λW hW=>
     addInv_spill (hI.qU hW) hL
    clear hI hg cf;go_wp2
    go_big_quiet (fail)
    go_wp2_with (go_at_call 167;refine(HSP'.out _ (tr_.drewN _)).mono ?_;rintro e w2 ⟨rfl,s2,hv2,L2,d2,M2,pre2,x2,lr2,q1,q2⟩;have HQ1:Hid _:=q1;clear q1)
    go_roundg (gk-1)
    case measure=>have:=HI.out.2;omega
    case rel=>exact⟨s2,hv2,L2,d2,M2,pre2,some x2,lr2,HQ1.out,by have:=HI.out.2;omega⟩
   ·have fB:=(show wr.frozen? ⟨B,2,none⟩=false by have:=hI.box;unfold Eo at this;simp[World.frozen?,this]);have hrv:∃vo cap,s'.rv=.slice vo (pre'++o'.toList).length cap:=by
     rcases hI.inv.st.sb.own.shape with⟨e1,e2⟩|⟨g,cap,cur,e,_⟩
     ·exact⟨none,0,by rw[e1,e2];rfl⟩
     ·exact⟨_,cap,e⟩
    obtain⟨vo,vC,hrv⟩:=hrv;rw[hrv]at c13;generalize hq:(pre'++o'.toList).length=q at *;have HQ:Hid ((pre'++o'.toList).length=q):=hq;have HRV:Hid (s'.rv=.slice vo q vC):=hrv;clear hI hg cf hq hrv;go_wp2
    go_big_quiet (fail)
    go_wp2;have hBr:B<wr.heap.size:=lt_of_cell x0;generalize hahd:aB ks ⟨(n:Int),row⟩ lr'=ahd at *;have HAHD:Hid (aB ks ⟨(n:Int),row⟩ lr'=ahd):=hahd;clear hahd;have hlv:∃lv,s'.lv=lv:=⟨_,rfl⟩
    go_cut [55] from 40 (λb wx=>b=.bool (decide (q≠0) && ahd)/\Touch [B] wr wx/\Eo wx B n ao al aC s'.run sz)
    case first=>
     have hB4:Eo ((wr.drewN nq).setCell ⟨B,2,none⟩ (.int .i64 s'.run)) B n ao al aC s'.run sz:=ebox_run (w:=wr.drewN nq) HI.out.1.box s'.run;have T4:Touch [B] wr ((wr.drewN nq).setCell ⟨B,2,none⟩ (.int .i64 s'.run)):=((Touch.refl [B] wr).drewN nq).setCell (p:=⟨B,2,none⟩) (by simp) _;have HB4:Hid _:=hB4;have HT4:Hid _:=T4;by_cases hq0:q=0
     ·subst hq0;clear hB4 T4
      go_big_quiet (fail)
      go_wp2;go_meet
      case rel=>exact⟨by simp,HT4.out.drewN _,HB4.out⟩
     ·have b1:(0:Int)<(q:Int):=by omega
      have b2:0<q:=by omega
      have b3:decide (0<q)=true:=by simpa using b2
      have b4:decide ((0:Int)<(q:Int))=true:=by simpa using b2
      obtain⟨y0,y1,y2,y3⟩:=bJ hB4;have HAH:Hid (∀W,Touch [] ((wr.drewN nq).setCell ⟨B,2,none⟩ (.int .i64 s'.run)) W->Calls prog 165 #[.pointer (some ⟨ps,0,none⟩),.agg #[.int .i64 (n:Int),.slice ao al aC],.agg #[.int .i64 s'.lno,s'.lv]] W λe w'=>e=.returned (.bool ahd)/\Touch [] W w'):=λW hW=>by
       have nb:∀t,(263:TypeId)≠t->NT t wr [B]:=λt ht=>nO HI.out.1.box ht;have:=spAhead_any (W:=W) ⟨(n:Int),row⟩ HI.out.1.inv.st (λe=>hq0 (by rw[<-HQ.out,e];rfl)) HI.out.1.row HS.out.2.2.2.2 (HT4.out.trans (hW.mono (by simp))) (by simpa using hBp.symm) (nb _ (by decide)) (nb _ (by decide));rw[HAHD.out]at this;exact this
      have HAF:Hid (∀W,Touch [] ((wr.drewN nq).setCell ⟨B,2,none⟩ (.int .i64 s'.run)) W->W.cell? ⟨ps,13,none⟩=some (.slice vo q vC)/\W.cell? ⟨ps,11,none⟩=some (.int .i64 s'.lno)/\W.cell? ⟨ps,12,none⟩=some s'.lv/\W.cell? ⟨B,0,none⟩=some (.int .i64 (n:Int))/\W.cell? ⟨B,1,none⟩=some (.slice ao al aC)):=λW hW=>
       ⟨cah c13 (HT4.out.trans (hW.mono (by simp))) (by simpa using hBp.symm),cah c11 (HT4.out.trans (hW.mono (by simp))) (by simpa using hBp.symm),cah c12 (HT4.out.trans (hW.mono (by simp))) (by simpa using hBp.symm),cO y0 hW,cO y1 hW⟩
      obtain⟨k1,k2,k3,k4,k5⟩:=HAF.out _ (Touch.refl _ _);clear hB4 T4
      go_region_held3 (λw'=>w'.cell? ⟨ps,13,none⟩=some (.slice vo q vC)/\w'.cell? ⟨ps,11,none⟩=some (.int .i64 s'.lno)/\w'.cell? ⟨ps,12,none⟩=some s'.lv/\w'.cell? ⟨B,0,none⟩=some (.int .i64 (n:Int))/\w'.cell? ⟨B,1,none⟩=some (.slice ao al aC)) (go_keep) (first|(go_at_call 165;refine(HAH.out _ (tr_.drew)).mono ?_;rintro e w5 ⟨rfl,hT5⟩;obtain⟨r1,r2,r3,r4,r5⟩:=HAF.out w5 ((tr_.drew).trans hT5);have HT5:Hid (Touch [] ((wr.drewN nq).setCell ⟨B,2,none⟩ (.int .i64 s'.run)) w5):=(tr_.drew).trans hT5;clear hT5))
      all_goals
       go_wp2_with fail
       go_meet
       case rel=>exact⟨by simp[hq0],HT4.out.trans (HT5.out.mono (by simp)),HT5.out.u.keep HB4.out (by decide) (by simp)⟩
    case rest=>
     obtain⟨rfl,hT5,hB5⟩:=hcut;generalize hcc:(decide (q≠0) && ahd)=cc at *;have HCC:Hid ((decide (q≠0) && ahd)=cc):=hcc;clear hcc;obtain⟨y0,y1,y2,y3⟩:=bJ hB5;have fB5:wc.frozen? ⟨B,2,none⟩=false:=by unfold Eo at hB5;simp[World.frozen?,hB5]
     have HT5:Hid _:=hT5;have HB5:Hid _:=hB5;have hrb:=HB0.out;obtain⟨hr0,hr1⟩:=hrb;have hw5:IntKind.i64.wrap (s'.run+1)=s'.run+1:=wrap_small _ (by omega) (by omega);clear c0 c1 c2 c3 c4 c5 c6 c7 c8 c9 c10 c11 c12 c13 c14 c15 x0 x1 x2 x3 hT5 hB5
     go_upto_if 55 with fail
     go_cut [] from 55 (λwx=>Touch [B] wr wx/\Eo wx B n ao al aC (if cc=true then s'.run+1 else s'.run) sz)
     case first=>
      cases cc with
      | true=>
       go_wp2;go_meet
       case rel=>exact⟨HT5.out.setCell (p:=⟨B,2,none⟩) (by simp) _,ebox_run HB5.out (s'.run+1)⟩
      | false=>
       go_wp2;go_meet
       case rel=>exact⟨HT5.out,HB5.out⟩
     case rest=>
      obtain⟨hT6,hB6⟩:=hcut;have HRN:Hid (∃r:Int,(if cc=true then s'.run+1 else s'.run)=r/\r=if pre'++o'.toList≠[]/\aB ks ⟨(n:Int),row⟩ lr'=true then s'.run+1 else s'.run):=by
       refine⟨_,rfl,?_⟩;rw[HAHD.out,<-HCC.out];have hqe:(q≠0)↔(pre'++o'.toList≠[]):=by
        rw[<-HQ.out];exact⟨λh e=>h (by rw[e];rfl),λh e=>h (D_.1 e)⟩
       simp only[Bool.and_eq_true,decide_eq_true_eq,hqe]
      obtain⟨r,hre,hrr⟩:=HRN.out;rw[hre]at hB6;have HR:Hid (r=if pre'++o'.toList≠[]/\aB ks ⟨(n:Int),row⟩ lr'=true then s'.run+1 else s'.run):=hrr;clear hre hrr HRN y0 y1 y2 y3 fB5;have hS6:Sr wc ps s':=HI.out.1.inv.st.sb.sorter.u hT6.u (by simpa using hBp.symm);obtain⟨c0,c1,c2,c3,c4,c5,c6,c7,c8,c9,c10,c11,c12,c13,c14,c15,cf⟩:=hS6.cell;obtain⟨y0,y1,y2,y3⟩:=bJ hB6;have f7:=cf 7;have hBp2:ps≠B:=hBp.symm;obtain⟨nh,hnh⟩:∃nh:Nat,(s'.held:Int)+(sz:Int)=(nh:Int):=⟨s'.held+sz,by omega⟩;have HNH:Hid ((s'.held:Int)+(sz:Int)=(nh:Int)):=hnh;have HM:Hid (Sr (wc.setCell ⟨ps,7,none⟩ (.int .i64 (nh:Int))) ps { s' with held:=nh }/\Touch [ps,B] wr (wc.setCell ⟨ps,7,none⟩ (.int .i64 (nh:Int)))/\Eo (wc.setCell ⟨ps,7,none⟩ (.int .i64 (nh:Int))) B n ao al aC r sz):=by
       have t7:Touch [ps] wc (wc.setCell ⟨ps,7,none⟩ (.int .i64 (nh:Int))):=(Touch.refl [ps] wc).setCell (p:=⟨ps,7,none⟩) (by simp) _;exact⟨hS6.held nh,(hT6.mono (by simp)).trans (t7.mono (by simp)),t7.u.keep hB6 (by decide) (by simpa using hBp)⟩
      have HPUSH:Hid (∀W,Touch [] (wc.setCell ⟨ps,7,none⟩ (.int .i64 (nh:Int))) W->Calls prog 168 #[.pointer (some ⟨s'.ph,0,none⟩),.agg #[.int .i64 (n:Int),.slice ao al aC,.int .i64 r,.int .i64 (sz:Int)]] W λe w'=>e=.returned (.tuple #[])/\∃hv9 L9,SS w' ps bs { s' with held:=nh } hv9 ks L9 bm cols d' M' pre' o' (rows++[⟨(n:Int),row⟩]) lr'/\L9.length=L'.length+1/\Touch (sbF ps s' hv' bm M' (pre'++o'.toList)++[B]) wr w'/\Sub wr (sbF ps { s' with held:=nh } hv9 bm M' (pre'++o'.toList)) (sbF ps s' hv' bm M' (pre'++o'.toList))/\(∃cs f,w'.heap[ps]?=some (.cells cs 260 f)/\cs[6]?=some (.pointer (some ⟨s'.ph,0,none⟩)))/\Eo w' B n ao al aC r sz):=λW hW=>by
       obtain⟨hA,hF⟩:=HI.out;obtain⟨m1,m2,m3⟩:=HM.out;have hSW:Sr W ps { s' with held:=nh }:=m1.u hW.u (by simp);have tW:Touch [ps,B] wr W:=m2.trans (hW.mono (by simp));have nb:∀t,(260:TypeId)≠t->(263:TypeId)≠t->NT t wr [ps,B]:=λt h1 h2=>(nO hA.box h2).cons hA.inv.st.sb.sorter h1;have hHW:Hf W s'.ph hv' bs ps ks L':=by
        refine hA.inv.st.sb.heap.away hA.inv.st.sb.sorter hSW rfl tW.u (λk hk e=>?_) (nb _ (by decide) (by decide)) (nb _ (by decide) (by decide)) (nb _ (by decide) (by decide));rcases a_.1 hk with rfl|hk
        ·exact(hA.inv.st.sb.heap.nT (t:=260) (by decide) (by decide)).not_mem hA.inv.st.sb.sorter e
        ·rw[ms_ hk]at e;exact hA.far (by simp[sbF,e])
       refine(push_any W s'.ph hv' bs ps ks L' (⟨⟨(n:Int),row⟩,r,(sz:Int)⟩,.slice ao al aC) hHW ⟨Sl3.keep hA.row (tW.tag (nb _ (by decide) (by decide))),HS.out.2.2.2.2⟩ (by omega)).mono ?_;rintro e w9 ⟨rfl,hv9,L9,p1,p2,p3,p4⟩;have hblk:s'.blk=s.blk:=hA.inv.same.blk;obtain⟨e1,e2,e3⟩:=addEnd hA.inv.st hSW hA.box hA.far tW p1 p2 p3 p4 (by have:=HNH.out;show(nh:Int)=(s'.held:Int)+(sz:Int);omega) ⟨by show(sz:Int)=_;rw[<-HZ.out],by rw[hblk];exact HS.out.2.2.2.1⟩ HR.out (by rw[HN.out];exact few);refine⟨rfl,hv9,L9,e1,by have:=p2.length_eq;simpa using this,e2,e3,⟨_,_,e1.sb.sorter,by simp[SC.cells]⟩,?_⟩;refine p3.u.keep (hW.u.keep m3 (by decide) (by simp)) (by decide) (λe=>hA.far ?_);simp[sbF,e]
      clear cf hT6 hB6 hS6;rw[hnh]at hw1;go_wp2
      go_region
      go_wp2;obtain⟨v0,v1,v2,v3⟩:=bJ HM.out.2.2;have v6:=HM.out.1.cell.2.2.2.2.2.2.1
      go_region_held3 (λw'=>w'.cell? ⟨ps,6,none⟩=some (.pointer (some ⟨s'.ph,0,none⟩))/\w'.cell? ⟨B,0,none⟩=some (.int .i64 (n:Int))/\w'.cell? ⟨B,1,none⟩=some (.slice ao al aC)/\w'.cell? ⟨B,2,none⟩=some (.int .i64 r)/\w'.cell? ⟨B,3,none⟩=some (.int .i64 (sz:Int))) (go_keep) (first|(go_at_call 168;refine(HPUSH.out _ (by first|exact(tr_.drew).drew|exact tr_.drew|exact(tr_.drewN _).drew)).mono ?_;rintro e w9 ⟨rfl,hv9,L9,q1,q2,q3,q4,⟨qc,qf,q5,q6⟩,q7⟩;obtain⟨g0,g1,g2,g3⟩:=bJ q7;have g6:w9.cell? ⟨ps,6,none⟩=some (.pointer (some ⟨s'.ph,0,none⟩)):=(by simp[World.cell?,q5,q6]);have HQ1:Hid _:=q1;have HQ2:Hid (L9.length=L'.length+1):=q2;have HQ3:Hid _:=q3;clear q1 q2 q3 q5 q6 q7))
      all_goals
       go_wp2
       go_end0
       obtain⟨hA,hF⟩:=HI.out;have hsm:=hA.inv.same;have hl:=hA.inv.left;have h2:=HQ2.out;refine⟨rfl,_,hv9,L9,d',M',pre',o',lr',HQ1.out,⟨hsm.bx,hsm.blk,hsm.kv,hsm.count,hsm.most,hsm.fan,hsm.ph,hsm.came,hsm.mg,hsm.given⟩,hl.mono (by omega) (by omega),?_,?_⟩
       ·refine(HT8.out.onto hA.inv.touch (λk hk=>.inl hk)).onto HQ3.out.u (λk hk=>?_);rcases d_.1 hk with hk|hk
        ·rcases hA.inv.sub k hk with h|h
         ·exact .inl h
         ·exact .inr (k_ HT8.out.size h)
        ·exact .inr (by rw[ms_ hk];exact hBn)
       ·have h3:=hA.inv.sub.trans q4 hA.inv.touch.size;intro k hk;rcases h3 k hk with h|h
        ·exact .inl h
        ·exact .inr (k_ HT8.out.size h)
theorem heapsNew_any (w:World)(bs:Nat):Calls prog 163 #[.func (.func 164) #[] #[.pointer (some ⟨bs,0,none⟩)]] w λe w'=>e=.returned (.pointer (some ⟨w.heap.size,0,none⟩))/\HeadAt w' w.heap.size (.slice none 0 0) bs/\w.heap.size<w'.heap.size/\Touch [] w w':=by
 go_enter func163,ntmps163;go_wp2;go_ret;exact⟨rfl,heap_alloc_new w _,by simp,(Touch.refl _ _).alloc _⟩
def SC.new (bx blk fan bud count:Nat)(kv:Value)(ph:Nat):SC:=⟨bx,blk,kv,count,bud/2,min fan (bud/2/blk),ph,0,0,0,0,0,.slice none 0 0,.slice none 0 0,.pointer none,0⟩
def rJ (bx:Nat)(blk fan bud count:Nat)(kv:Value):Array Value:=#[.pointer (some ⟨bx,0,none⟩),.int .i64 (blk:Int),kv,.int .i64 (count:Int),.int .i64 ((bud:Int)/2),.int .i64 (min (fan:Int) ((bud:Int)/2/(blk:Int))),.pointer none,.int .i64 0,.int .i64 0,.int .i64 0,.int .i64 0,.int .i64 0,.slice none 0 0,.slice none 0 0,.pointer none,.int .i64 0]
theorem raw_set (h:w.heap[ps]?=some (.cells (rJ bx blk fan bud count kv) 260 (0,0))):Sr (w.setCell ⟨ps,6,none⟩ (.pointer (some ⟨ph,0,none⟩))) ps (SC.new bx blk fan bud count kv ph):=by
 unfold Sr;rw[heap_setCell_same w ps 6 _ 260 _ h];have e1:((bud/2:Nat):Int)=(bud:Int)/2:=by omega
 have e2:((bud/2/blk:Nat):Int)=(bud:Int)/2/(blk:Int):=by rw[Int.natCast_ediv,e1]
 have e3:((min fan (bud/2/blk):Nat):Int)=min (fan:Int) ((bud:Int)/2/(blk:Int)):=by rw[<-e2];omega
 simp only[rJ,SC.cells,SC.new,e1,e3];simp
theorem raw_cells (h:w.heap[ps]?=some (.cells (rJ bx blk fan bud count kv) 260 (0,0))):w.cell? ⟨ps,6,none⟩=some (.pointer none)/\w.frozen? ⟨ps,6,none⟩=false:=by
 constructor
 ·simp[World.cell?,h,rJ]
 ·simp[World.frozen?,h]
theorem alloc3 (w:World)(a b c:Obj):(((w.alloc a).alloc b).alloc c).heap[w.heap.size+1]?=some b/\(((w.alloc a).alloc b).alloc c).heap[w.heap.size+1+1]?=some c:=by
 have h1:(w.alloc a).heap.size=w.heap.size+1:=by simp
 have h2:((w.alloc a).alloc b).heap.size=w.heap.size+1+1:=by simp
 constructor
 ·rw[Below.heap_alloc _ _ _ (by rw[h2];omega),<-h1];exact heap_alloc_new _ _
 ·rw[<-h2];exact heap_alloc_new _ _
theorem sag (w:World)(bx blk fan bud count:Nat)(kv:Value)(hb:1<=blk)(hbud:bud<=9223372036854775807)(hkv:∃o n c,kv=.slice o n c) :
  Calls prog 133 #[.agg #[.int .i64 (blk:Int),.int .i64 (fan:Int),.int .i64 (bud:Int)],.pointer (some ⟨bx,0,none⟩),kv,.int .i64 (count:Int)] w λe w'=>∃ps bs ph,e=.returned (.pointer (some ⟨ps,0,none⟩))/\w.heap.size<=ps/\w.heap.size<=bs/\w.heap.size<=ph /\
   Sr w' ps (SC.new bx blk fan bud count kv ph)/\HeadAt w' ph (.slice none 0 0) bs/\w'.heap[bs]?=some (.cells #[.pointer (some ⟨ps,0,none⟩)] 228 (0,0))/\Touch [] w w':=by
 obtain⟨ko,kn,kc,rfl⟩:=hkv;have HN:Hid (∀W bs,Calls prog 163 #[.func (.func 164) #[] #[.pointer (some ⟨bs,0,none⟩)]] W λe w'=>e=.returned (.pointer (some ⟨W.heap.size,0,none⟩))/\HeadAt w' W.heap.size (.slice none 0 0) bs/\W.heap.size<w'.heap.size/\Touch [] W w'):=heapsNew_any;have hd1:(0:Int)<=(bud:Int)/2/\(bud:Int)/2<=9223372036854775807:=by omega
 have hd2:(0:Int)<=(bud:Int)/2/(blk:Int)/\(bud:Int)/2/(blk:Int)<=9223372036854775807:=by
  refine⟨Int.ediv_nonneg hd1.1 (by omega),Int.le_trans (Int.ediv_le_self _ hd1.1) hd1.2⟩
 have w1:wrap64 ((bud:Int)/2)=(bud:Int)/2:=by unfold wrap64;omega
 have w2:wrap64 ((bud:Int)/2/(blk:Int))=(bud:Int)/2/(blk:Int):=by generalize (bud:Int)/2/(blk:Int)=z at *;unfold wrap64;omega
 have hb0:¬(blk:Int)=0:=by omega
 have hb1:¬blk=0:=by omega
 go_enter func133,ntmps133;go_wp2
 go_cut [10] from 11 (λa wx=>∃bs ps,a=.pointer (some ⟨bs,0,none⟩)/\w.heap.size<=ps/\w.heap.size<=bs/\ps≠bs/\wx.heap[bs]?=some (.cells #[.pointer (some ⟨ps,0,none⟩)] 228 (0,0))/\wx.heap[ps]?=some (.cells (rJ bx blk fan bud count (.slice ko kn kc)) 260 (0,0))/\Touch [] w wx)
 case first=>
  go_region
  all_goals
   go_wp2;go_meet
   case rel=>first|exact⟨_,w.heap.size+1,rfl,by omega,by omega,by omega,(alloc3 w _ _ _).2,(alloc3 w _ _ _).1,((tr_.alloc _).alloc _).alloc _ |>.drew⟩|exact⟨_,w.heap.size+1+1,rfl,by omega,by omega,by omega,(alloc3 w _ _ _).1,(alloc3 w _ _ _).2,((tr_.alloc _).alloc _).alloc _ |>.drew⟩
 case rest=>
  obtain⟨bs,ps,rfl,hps,hbs,hne,hB,hP,hT⟩:=hcut;have hp1:=(agi.1 hP).1;have hb1:=(agi.1 hB).1;have e0:=bg hB;have HH:Hid (wc.heap[bs]?=some (.cells #[.pointer (some ⟨ps,0,none⟩)] 228 (0,0))/\wc.heap[ps]?=some (.cells (rJ bx blk fan bud count (.slice ko kn kc)) 260 (0,0))/\Touch [] w wc):=⟨hB,hP,hT⟩;have HAF:Hid (∀W,Touch [] wc W->W.heap[bs]?=some (.cells #[.pointer (some ⟨ps,0,none⟩)] 228 (0,0))/\W.heap[ps]?=some (.cells (rJ bx blk fan bud count (.slice ko kn kc)) 260 (0,0))):=λW hW=>⟨hW.u.keep hB (by decide) (by simp),hW.u.keep hP (by decide) (by simp)⟩;clear hB hP hT;go_wp2
  go_region_with (go_at_call 163;refine(HN.out _ _).mono ?_;rintro e w1 ⟨rfl,h1,h2,h3⟩;obtain⟨a1,a2⟩:=HAF.out w1 ((tr_.drew).trans h3);have a0:=bg a1;obtain⟨k6,kf⟩:=raw_cells a2;have HA1:Hid _:=a1;have HA2:Hid _:=a2;have H1:Hid _:=h1;have HT3:Hid (Touch [] wc w1):=((tr_.drew).trans h3);clear a1 a2 h1 h3)
  all_goals
   go_wp2;go_ret;have t6:Touch [ps] w1 (w1.setCell ⟨ps,6,none⟩ (.pointer (some ⟨wc.heap.size,0,none⟩))):=(Touch.refl [ps] w1).setCell (p:=⟨ps,6,none⟩) (by simp) _;exact⟨ps,bs,wc.heap.size,rfl,hps,hbs,HH.out.2.2.size,raw_set HA2.out,t6.u.keep H1.out (by decide) (by simp;omega),t6.u.keep HA1.out (by decide) (by simp;omega),(HH.out.2.2.trans HT3.out).onto t6 (λi hi=>.inr (by rw[ms_ hi];exact hps))⟩
theorem spSt_new (hS:Sr w' ps (SC.new bx blk fan bud count kv ph))(hH:HeadAt w' ph (.slice none 0 0) bs)(hB:w'.heap[bs]?=some (.cells #[.pointer (some ⟨ps,0,none⟩)] 228 (0,0)))(t:Touch [] w w')(hk:KA w kv ks)(hP:PD w bx bm d M)(ok:Di d)(b1:16<=blk)(b2:blk<=4096)(b3:(blk:Int)<=d.block)(c2:cols<=1000)(lr:Rec) :
  SS w' ps bs (SC.new bx blk fan bud count kv ph) (.slice none 0 0) ks [] bm cols d M [] none [] lr:=by
 have h0:PW w' (.slice none 0 0) []:=World.ownsRow_nil _ _ _ _;refine⟨⟨hS,⟨hH,EO.nil w',⟨hB,_,_,kv,hS,by simp[SC.cells,SC.new],hk.touch t⟩,by simp,He.nil⟩,rfl,by simp,⟨hP.away t (by simp),ok,by simp,by simp,by simp,by simp,by simp,by simp,by simp,b3,b2,b1,c2⟩,h0⟩,SI.start ks _ lr,by simp,by simp,by simp,by simp,by simp,⟨Int.le_refl _,ok.last⟩,ok.last⟩
structure CU where
 ptr:Nat
 rd:Nat
 rv:Value
 run:RI
 first:Rec
 rest:List Rec
def CU.val (u:CU):Value:=.pointer (some ⟨u.ptr,0,none⟩)
def CU.cur (u:CU):Cur:=⟨u.ptr,u.first,u.rest⟩
def lC (ks:List K)(a b:CU):Bool:=aB ks a.first b.first
theorem ltCU_law (ks:List K):Law (lC ks):=((cax ks).on CU.first).law
structure CBox (w:World)(ks:List K)(u:CU):Prop where
 box:w.heap[u.ptr]?=some (.cells #[.pointer (some ⟨u.rd,0,none⟩),.int .i64 u.first.no,u.rv] 307 (0,0))
 row:Ro w u.rv u.first.row
 able:AB ks u.first.row
theorem CBox.keep {w w':World}{ks:List K}{u:CU}(h:CBox w ks u)(h1:KT 307 w w')(h2:KT 85 w w'):CBox w' ks u:=⟨h1 _ _ _ h.box,Sl3.keep h.row h2,h.able⟩
def CItemsIn (cur:Array Value)(cap:Nat)(L:List CU):Prop:=cur.size=cap/\L.length<=cap/\cap<=maxLen/\∀i (h:i<L.length),cur[i]?=some L[i].val
def Cm (w:World)(g cap:Nat)(L:List CU):Prop:=∃cur,w.heap[g]?=some (.cells cur 305 (0,0))/\CItemsIn cur cap L
theorem Cm.cell {w:World}{g cap:Nat}{L:List CU}(h:Cm w g cap L)(i:Nat)(hi:i<L.length):w.cell? ⟨g,i,none⟩=some L[i].val:=by
 obtain⟨cur,hb,_,_,_,hx⟩:=h;simp only[World.cell?,hb];exact hx i hi
theorem Cm.frozen {w:World}{g cap:Nat}{L:List CU}(h:Cm w g cap L)(o:Nat):w.frozen? ⟨g,o,none⟩=false:=by
 obtain⟨cur,hb,_⟩:=h;simp[World.frozen?,hb]
theorem Cm.touch {L:List CU}(h:Cm w g cap L)(t:TU F w w')(hg:g∉F):Cm w' g cap L:=by
 obtain⟨cur,hb,hx⟩:=h;exact⟨cur,t.keep hb (by decide) hg,hx⟩
theorem Cm.put {L:List CU}(h:Cm w g cap L)(i:Nat)(hi:i<L.length)(x:CU):Cm (w.setCell ⟨g,i,none⟩ x.val) g cap (L.set i x):=by
 obtain⟨cur,hb,h1,h2,h3,h4⟩:=h;refine⟨_,heap_setCell_same w g i _ 305 _ hb,by simpa using h1,by simpa using h2,h3,λj hj=>?_⟩;rw[List.length_set]at hj;rw[gJ];by_cases e:i=j
 ·subst e;rw[if_pos rfl,if_pos (by omega)];simp
 ·rw[if_neg e,ao_ e];exact h4 j hj
def caj (v:Value)(bf:Nat):Array Value:=#[v,.func (.func 200) #[] #[.pointer (some ⟨bf,0,none⟩)]]
def Cb (w:World)(ph:Nat)(v:Value)(bf:Nat):Prop:=w.heap[ph]?=some (.cells (caj v bf) 331 (0,0))
theorem Cb.cell {w:World}{ph:Nat}{v:Value}{bf:Nat}(h:Cb w ph v bf):w.cell? ⟨ph,0,none⟩=some v/\w.cell? ⟨ph,1,none⟩=some (.func (.func 200) #[] #[.pointer (some ⟨bf,0,none⟩)]):=bF h
theorem Cb.frozen {w:World}{ph:Nat}{v:Value}{bf:Nat}(h:Cb w ph v bf)(o:Nat):w.frozen? ⟨ph,o,none⟩=false:=by simp[World.frozen?,show w.heap[ph]?=_ from h]
theorem Cb.touch (h:Cb w ph v bf)(t:TU F w w')(hg:ph∉F):Cb w' ph v bf:=t.keep h (by decide) hg
structure CCtx (w:World)(bf ps:Nat)(ks:List K):Prop where
 f:w.heap[bf]?=some (.cells #[.func (.func 165) #[.pointer (some ⟨ps,0,none⟩)] #[]] 264 (0,0))
 keys:∃cs f vk,w.heap[ps]?=some (.cells cs 260 f)/\cs[2]?=some vk/\KA w vk ks
theorem CCtx.keep {w w':World}{bf ps:Nat}{ks:List K}(h:CCtx w bf ps ks)(h1:KT 264 w w')(h2:KT 260 w w')(h3:KT 73 w w'):CCtx w' bf ps ks:=by
 obtain⟨cs,f,vk,a,b,c⟩:=h.keys;exact⟨h1 _ _ _ h.f,cs,f,vk,h2 _ _ _ a,b,Sl3.keep c h3⟩
theorem ctest_any (h:CCtx w bf ps ks)(a b:CU)(ha:CBox w ks a)(hb:CBox w ks b) :
  Calls prog 200 #[a.val,b.val,.pointer (some ⟨bf,0,none⟩)] w λe w'=>e=.returned (.bool (lC ks a b))/\Touch [] w w':=by
 obtain⟨cs,f,vk,h1,h2,h3⟩:=h.keys;have HA:Hid (∀W,Touch [] w W->Calls prog 165 #[.pointer (some ⟨ps,0,none⟩),.agg #[.int .i64 a.first.no,a.rv],.agg #[.int .i64 b.first.no,b.rv]] W λe w'=>e=.returned (.bool (aB ks a.first b.first))/\Touch [] W w'):=λW hW=>
  ahead_any W ps a.rv b.rv vk a.first b.first ks (cO (by simp[World.cell?,h1,h2]) hW) (ha.row.touch hW) (hb.row.touch hW) (h3.touch hW) ha.able hb.able
 obtain⟨x0,x1,x2⟩:=bD ha.box;obtain⟨y0,y1,y2⟩:=bD hb.box;have z0:=bg h.f;have HK:Hid (∀W,Touch [] w W->W.cell? ⟨a.ptr,1,none⟩=some (.int .i64 a.first.no)/\W.cell? ⟨a.ptr,2,none⟩=some a.rv/\W.cell? ⟨b.ptr,1,none⟩=some (.int .i64 b.first.no)/\W.cell? ⟨b.ptr,2,none⟩=some b.rv/\W.cell? ⟨bf,0,none⟩=some (.func (.func 165) #[.pointer (some ⟨ps,0,none⟩)] #[])):=λW hW=>⟨cO x1 hW,cO x2 hW,cO y1 hW,cO y2 hW,cO z0 hW⟩;unfold lC CU.val;clear ha hb h h1 h2 h3;generalize aB ks a.first b.first=r at *;go_enter func200,ntmps200;go_wp2
 go_region_held3 (λw'=>w'.cell? ⟨a.ptr,1,none⟩=some (.int .i64 a.first.no)/\w'.cell? ⟨a.ptr,2,none⟩=some a.rv/\w'.cell? ⟨b.ptr,1,none⟩=some (.int .i64 b.first.no)/\w'.cell? ⟨b.ptr,2,none⟩=some b.rv/\w'.cell? ⟨bf,0,none⟩=some (.func (.func 165) #[.pointer (some ⟨ps,0,none⟩)] #[])) (go_keep) (first|(go_at_call 165;refine(HA.out _ (tr_.drew)).mono ?_;rintro e w1 ⟨rfl,hT1⟩;obtain⟨k1,k2,k3,k4,k5⟩:=HK.out w1 ((tr_.drew).trans hT1)))
 all_goals
  go_wp2;go_ret;exact⟨rfl,(tr_.drew).trans hT1⟩
structure Ce (w:World)(ph g cap bf ps:Nat)(ks:List K)(L:List CU):Prop where
 head:Cb w ph (.slice (some ⟨g,0,none⟩) L.length cap) bf
 items:Cm w g cap L
 ctx:CCtx w bf ps ks
 rows:∀x∈L,CBox w ks x
theorem Ce.ne {L:List CU}(h:Ce w ph g cap bf ps ks L):ph≠g:=by
 obtain⟨cur,hb,_⟩:=h.items;have:=h.head;unfold Cb at this;intro e;subst e;rw[hb]at this;simp at this
theorem Ce.quiet {L:List CU}(h:Ce w ph g cap bf ps ks L)(t:Touch [] w w'):Ce w' ph g cap bf ps ks L:=
 ⟨h.head.touch t.u (by simp),h.items.touch t.u (by simp),h.ctx.keep (t.tu _) (t.tu _) (t.tu _),λx hx=>(h.rows x hx).keep (t.tu _) (t.tu _)⟩
theorem Ce.turn {L L':List CU}(h:Ce w ph g cap bf ps ks L)(t:Touch [g] w w')(hi:Cm w' g cap L')(hl:L'.length=L.length)(hm:∀x∈L',x∈L):Ce w' ph g cap bf ps ks L':=by
 obtain⟨cur,hb,_⟩:=h.items;refine⟨by rw[hl];exact h.head.touch t.u (by simp[h.ne]),hi,h.ctx.keep (t.tag (nO hb (by decide))) (t.tag (nO hb (by decide))) (t.tag (nO hb (by decide))),λx hx=>(h.rows x (hm x hx)).keep (t.tag (nO hb (by decide))) (t.tag (nO hb (by decide)))⟩
theorem Ce.bounds {L:List CU}(h:Ce w ph g cap bf ps ks L):ph<w.heap.size/\g<w.heap.size/\ph≠g/\L.length<=cap/\cap<=2 ^ 63-1:=by
 have h1:=(agi.1 h.head).1;have h2:=h.ne;obtain⟨cur,hb,_,h3,h4,_⟩:=h.items;exact⟨h1,(agi.1 hb).1,h2,h3,h4⟩
theorem Ce.test {L:List CU}(h:Ce w ph g cap bf ps ks L)(i j:Nat)(hi:i<L.length)(hj:j<L.length)(ht:Touch [] w w') :
  Calls prog 200 #[.pointer (some ⟨L[i].ptr,0,none⟩),.pointer (some ⟨L[j].ptr,0,none⟩),.pointer (some ⟨bf,0,none⟩)] w' λe w''=>e=.returned (.bool (lC ks L[i] L[j]))/\Touch [] w' w'':=
 ctest_any (h.quiet ht).ctx L[i] L[j] ((h.quiet ht).rows _ (m_ _)) ((h.quiet ht).rows _ (m_ _))
theorem Ce.swapped {L:List CU}(h:Ce w ph g cap bf ps ks L)(i j:Nat)(hi:i<L.length)(hj:j<L.length)(ht:Touch [] w W) :
  Ce ((W.setCell ⟨g,i,none⟩ (.pointer (some ⟨L[j].ptr,0,none⟩))).setCell ⟨g,j,none⟩ (.pointer (some ⟨L[i].ptr,0,none⟩))) ph g cap bf ps ks (sK L i j hi hj)/\Touch [g] w ((W.setCell ⟨g,i,none⟩ (.pointer (some ⟨L[j].ptr,0,none⟩))).setCell ⟨g,j,none⟩ (.pointer (some ⟨L[i].ptr,0,none⟩))):=by
 have ht2:=(ht.mono (F':=[g]) (by simp)).trans (((Touch.refl [g] W).setCell (p:=⟨g,i,none⟩) (by simp) (.pointer (some ⟨L[j].ptr,0,none⟩))).setCell (p:=⟨g,j,none⟩) (by simp) (.pointer (some ⟨L[i].ptr,0,none⟩)));refine⟨h.turn ht2 ?_ (sW _ _ _ _ _) swapL_mem,ht2⟩;exact((h.items.touch ht.u (by simp)).put i hi L[j]).put j (by simpa using hj) L[i]
def CUp (w:World)(ph g cap bf ps:Nat)(ks:List K)(L:List CU)(k:Nat)(wr:World):Prop:=
 ∃L',Ce wr ph g cap bf ps ks L'/\L'.Perm L/\Un (lC ks) L' k/\Touch [g] w wr
theorem CUp.drew {w:World}{ph g cap bf ps:Nat}{ks:List K}{L:List CU}{k:Nat}{wr:World}(h:CUp w ph g cap bf ps ks L k wr):CUp w ph g cap bf ps ks L k wr.drew:=by
 obtain⟨L',a,b,c,d⟩:=h;exact⟨L',a.quiet (tr_.drew),b,c,d.drew⟩
theorem csiftUp_any (w:World)(ph g cap bf ps:Nat)(ks:List K)(L:List CU)(k0:Nat)(h:Ce w ph g cap bf ps ks L)(hu:Un (lC ks) L k0)(hsmall:L.length<=1000000000) :
  Calls prog 217 #[.pointer (some ⟨ph,0,none⟩),.int .i64 k0] w λe w'=>e=.returned (.tuple #[])/\∃L',Ce w' ph g cap bf ps ks L'/\L'.Perm L/\He (lC ks) L'/\Touch [g] w w':=by
 have HS:Hid (CUp w ph g cap bf ps ks L k0 w):=⟨L,h,List.Perm.refl _,hu,Touch.refl _ _⟩;have hk0:=hu.here;clear h hu;go_enter func217,ntmps217;go_wp2
 go_loopw [1] (λi wr=>∃k:Nat,k<L.length/\i=.int .i64 k/\CUp w ph g cap bf ps ks L k wr) (λi _=>(intOf i).toNat)
 case atStart=>exact⟨k0,hk0,rfl,HS.out⟩
 case round=>
  obtain⟨k,hk,rfl,L',hH,hP,hU,hT⟩:=hrel;by_cases hk1:0<k
  ·have hkl:=hU.here;have hpl:(k-1)/2<L'.length:=by omega
   have hq:((k:Int)-1)/2=(((k-1)/2:Nat):Int):=by omega
   obtain⟨hd0,hd1⟩:=hH.head.cell;have c0:=hH.items.cell k hkl;have d0:=hH.items.cell ((k-1)/2) hpl;unfold CU.val at c0 d0;obtain⟨hphlt,hglt,hne,hc1,hc2⟩:=hH.bounds;have Hr:Hid (∀w',Touch [] wr w'->Calls prog 200 #[.pointer (some ⟨L'[k].ptr,0,none⟩),.pointer (some ⟨L'[(k-1)/2].ptr,0,none⟩),.pointer (some ⟨bf,0,none⟩)] w' λe w''=>e=.returned (.bool (lC ks L'[k] L'[(k-1)/2]))/\Touch [] w' w''):=λw' ht=>hH.test k ((k-1)/2) hkl hpl ht;have HF:Hid (lC ks L'[k] L'[(k-1)/2]=false->He (lC ks) L'):=λhb=>hU.done hk1 hb;have HT:Hid (lC ks L'[k] L'[(k-1)/2]=true->∀W,Touch [] wr W->CUp w ph g cap bf ps ks L ((k-1)/2) ((W.setCell ⟨g,k,none⟩ (.pointer (some ⟨L'[(k-1)/2].ptr,0,none⟩))).setCell ⟨g,(k-1)/2,none⟩ (.pointer (some ⟨L'[k].ptr,0,none⟩)))):=λhb W ht=>by
    obtain⟨s1,s2⟩:=hH.swapped k ((k-1)/2) hkl hpl ht;exact⟨_,s1,(sQ L' k _ hkl hpl).trans hP,hU.step (ltCU_law ks) hk1 hb,hT.trans s2⟩
   have HQ:Hid (Ce wr ph g cap bf ps ks L'/\L'.Perm L/\Touch [g] w wr):=⟨hH,hP,hT⟩;have hfz:=hH.items.frozen;have hlen:=hP.length_eq;clear hH hP hU hT;generalize hr:lC ks L'[k] L'[(k-1)/2]=r at *;generalize L'[k].ptr=pa at *;generalize L'[(k-1)/2].ptr=pb at *;clear hr;have hpk:(k-1)/2<k:=by omega
   generalize hp:(k-1)/2=p at *;have hkc:k<cap:=by omega
   have hpc:p<cap:=by omega
   have HL:Hid (p<L.length/\L'.length=L.length):=⟨by omega,hlen⟩;clear hp hk0 HS hk hlen hsmall;have HK:Hid (∀w',Touch [] wr w'->w'.cell? ⟨ph,0,none⟩=some (.slice (some ⟨g,0,none⟩) L'.length cap)/\w'.cell? ⟨ph,1,none⟩=some (.func (.func 200) #[] #[.pointer (some ⟨bf,0,none⟩)])/\w'.cell? ⟨g,k,none⟩=some (.pointer (some ⟨pa,0,none⟩))/\w'.cell? ⟨g,p,none⟩=some (.pointer (some ⟨pb,0,none⟩))):=λw' ht=>
    ⟨cO hd0 ht,cO hd1 ht,cO c0 ht,cO d0 ht⟩
   cases r with
   | false=>
    go_wp2
    go_region_held3 (λw'=>w'.cell? ⟨ph,0,none⟩=some (.slice (some ⟨g,0,none⟩) L'.length cap)/\w'.cell? ⟨ph,1,none⟩=some (.func (.func 200) #[] #[.pointer (some ⟨bf,0,none⟩)])/\w'.cell? ⟨g,k,none⟩=some (.pointer (some ⟨pa,0,none⟩))/\w'.cell? ⟨g,p,none⟩=some (.pointer (some ⟨pb,0,none⟩))) (go_keep) (first|(go_at_call 200;refine(Hr.out _ (tr_.drew)).mono ?_;rintro e w1 ⟨rfl,hT1⟩;obtain⟨e0,e1,e2,e3⟩:=HK.out _ ((tr_.drew).trans hT1)))
    go_wp2;refine bodyPost_ret (results_none rfl _ _ _) rfl ?_;obtain⟨q1,q2,q3⟩:=HQ.out;exact⟨rfl,L',q1.quiet ((tr_.drew).trans hT1),q2,HF.out trivial,q3.trans (((tr_.drew).trans hT1).mono (by simp))⟩
   | true=>
    go_wp2
    go_region_held3 (λw'=>w'.cell? ⟨ph,0,none⟩=some (.slice (some ⟨g,0,none⟩) L'.length cap)/\w'.cell? ⟨ph,1,none⟩=some (.func (.func 200) #[] #[.pointer (some ⟨bf,0,none⟩)])/\w'.cell? ⟨g,k,none⟩=some (.pointer (some ⟨pa,0,none⟩))/\w'.cell? ⟨g,p,none⟩=some (.pointer (some ⟨pb,0,none⟩))) (go_keep) (first|(go_at_call 200;refine(Hr.out _ (tr_.drew)).mono ?_;rintro e w1 ⟨rfl,hT1⟩;obtain⟨e0,e1,e2,e3⟩:=HK.out _ ((tr_.drew).trans hT1)))
    have hT2:Touch [] wr w1:=(tr_.drew).trans hT1;have hfz1:∀o,w1.frozen? ⟨g,o,none⟩=false:=λo=>(World.frozen?_of_block (w:=wr) (hT2.block g hglt (by simp))).trans (hfz o);have HT2:Hid (Touch [] wr w1):=hT2;have f0:=hfz1 k;have f4:=hfz1 p;clear hd0 hd1 c0 d0 hT1 hT2 hfz hfz1;go_wp2
    go_region
    go_wp2
    go_roundw
    case rel=>exact⟨p,HL.out.1,rfl,CUp.drew (HT.out trivial w1 HT2.out)⟩
    case measure=>simp[intOf];omega
  ·obtain rfl:k=0:=by omega
   have HF:=hU.zero;have HQ:Hid (Ce wr ph g cap bf ps ks L'/\L'.Perm L/\Touch [g] w wr/\He (lC ks) L'):=⟨hH,hP,hT,HF⟩;clear hH hP hU hT HF HS hk0;go_wp2
   first|go_end0|refine bodyPost_ret (results_none rfl _ _ _) rfl ?_
   obtain⟨q1,q2,q3,q4⟩:=HQ.out;exact⟨rfl,L',q1,q2,q4,q3⟩
def CDn (w:World)(ph g cap bf ps:Nat)(ks:List K)(L:List CU)(k:Nat)(wr:World):Prop:=
 ∃L',Ce wr ph g cap bf ps ks L'/\L'.Perm L/\DI (lC ks) L' k/\Touch [g] w wr
theorem CDn.drew {w:World}{ph g cap bf ps:Nat}{ks:List K}{L:List CU}{k:Nat}{wr:World}(h:CDn w ph g cap bf ps ks L k wr):CDn w ph g cap bf ps ks L k wr.drew:=by
 obtain⟨L',a,b,c,d⟩:=h;exact⟨L',a.quiet (tr_.drew),b,c,d.drew⟩
theorem Ce.cells {L:List CU}(h:Ce w ph g cap bf ps ks L)(k:Nat)(hk:k<L.length)(ht:Touch [] w w'):w'.cell? ⟨g,k,none⟩=some (.pointer (some ⟨L[k].ptr,0,none⟩)):=(h.quiet ht).items.cell k hk
def CInDn (wr:World)(ks:List K)(L':List CU)(k m n:Nat)(w2:World):Prop:=Le (lC ks) L' k m n/\2*k+1<=n/\n<=2*k+3/\Touch [] wr w2
theorem caz (w:World)(ph g cap bf ps:Nat)(ks:List K)(L:List CU)(h:Ce w ph g cap bf ps ks L)(hu:DI (lC ks) L 0)(hne:0<L.length)(hsmall:L.length<=1000000000) :
  Calls prog 218 #[.pointer (some ⟨ph,0,none⟩),.int .i64 0] w λe w'=>e=.returned (.tuple #[])/\∃L',Ce w' ph g cap bf ps ks L'/\L'.Perm L/\He (lC ks) L'/\Touch [g] w w':=by
 have HS:Hid (CDn w ph g cap bf ps ks L 0 w):=⟨L,h,List.Perm.refl _,hu,Touch.refl _ _⟩;clear h hu;go_enter func218,ntmps218;go_wp2
 go_loopw [1] (λi wr=>∃k:Nat,k<L.length/\i=.int .i64 k/\CDn w ph g cap bf ps ks L k wr) (λi _=>L.length-(intOf i).toNat)
 case atStart=>exact⟨0,hne,rfl,HS.out⟩
 case round=>
  obtain⟨k,hk,rfl,L',hH,hP,hU,hT⟩:=hrel;have hlen:=hP.length_eq;have hk9:k<=1000000000:=by omega
  have hkl:k<L'.length:=by omega
  have hl9:L'.length<=1000000000:=by omega
  obtain⟨hphlt,hglt,hpg,hc1,hc2⟩:=hH.bounds;have HH:Hid (Ce wr ph g cap bf ps ks L'/\L'.Perm L/\DI (lC ks) L' k/\Touch [g] w wr):=⟨hH,hP,hU,hT⟩;have HL:Hid (L'.length=L.length):=hlen;clear hH hP hU hT HS hk hlen hsmall hne
  rename World=>W0
  go_wp2
  go_loopw [4,5] (λa b w2=>∃m n:Nat,a=.int .i64 m/\b=.int .i64 n/\CInDn W0 ks L' k m n w2) (λ_ b _=>2*k+3-(intOf b).toNat)
  case atStart=>exact⟨k,2*k+1,rfl,by go_num,Le.start hkl,by omega,by omega,Touch.refl _ _⟩
  case round=>
   obtain⟨m,n,rfl,rfl,hLe,hn1,hn2,hT2⟩:=hrel;have hml:=hLe.hm;have hH:=HH.out.1;have hph2:ph<wr.heap.size:=by have:=hT2.size;omega
   have hg2:g<wr.heap.size:=by have:=hT2.size;omega
   obtain⟨hd0,hd1⟩:=(hH.quiet hT2).head.cell;by_cases hin:n<=2*k+2/\n<L'.length
   ·obtain⟨hin1,hin2⟩:=hin;have Hr:Hid (∀w',Touch [] W0 w'->Calls prog 200 #[.pointer (some ⟨L'[n].ptr,0,none⟩),.pointer (some ⟨L'[m].ptr,0,none⟩),.pointer (some ⟨bf,0,none⟩)] w' λe w''=>e=.returned (.bool (lC ks L'[n] L'[m]))/\Touch [] w' w''):=λw' ht=>hH.test n m hin2 hml ht;have HKEEP:Hid (lC ks L'[n] L'[m]=false->∀W,Touch [] W0 W->CInDn W0 ks L' k m (n+1) W):=λhb W ht=>⟨hLe.keep hin2 hb,by omega,by omega,ht⟩;have HTAKE:Hid (lC ks L'[n] L'[m]=true->∀W,Touch [] W0 W->CInDn W0 ks L' k n (n+1) W):=λhb W ht=>⟨hLe.take (ltCU_law ks) hin2 hn1 hin1 hb,by omega,by omega,ht⟩;have HK:Hid (∀w',Touch [] W0 w'->w'.cell? ⟨ph,0,none⟩=some (.slice (some ⟨g,0,none⟩) L'.length cap)/\w'.cell? ⟨ph,1,none⟩=some (.func (.func 200) #[] #[.pointer (some ⟨bf,0,none⟩)])/\w'.cell? ⟨g,n,none⟩=some (.pointer (some ⟨L'[n].ptr,0,none⟩))/\w'.cell? ⟨g,m,none⟩=some (.pointer (some ⟨L'[m].ptr,0,none⟩))):=λw' ht=>⟨(hH.quiet ht).head.cell.1,(hH.quiet ht).head.cell.2,hH.cells n hin2 ht,hH.cells m hml ht⟩;have c0:=hH.cells n hin2 hT2;have d0:=hH.cells m hml hT2;have HT2:Hid (Touch [] W0 wr):=hT2;clear hH hLe hT2;generalize lC ks L'[n] L'[m]=r at *;generalize L'[n].ptr=pa at *;generalize L'[m].ptr=pb at *;cases r with
    | false=>
     go_wp2
     go_region_held3 (λw'=>w'.cell? ⟨ph,0,none⟩=some (.slice (some ⟨g,0,none⟩) L'.length cap)/\w'.cell? ⟨ph,1,none⟩=some (.func (.func 200) #[] #[.pointer (some ⟨bf,0,none⟩)])/\w'.cell? ⟨g,n,none⟩=some (.pointer (some ⟨pa,0,none⟩))/\w'.cell? ⟨g,m,none⟩=some (.pointer (some ⟨pb,0,none⟩))) (go_keep) (first|(go_at_call 200;refine(Hr.out _ (HT2.out.drew)).mono ?_;rintro e w1 ⟨rfl,hT1⟩;obtain⟨e0,e1,e2,e3⟩:=HK.out _ ((HT2.out.drew).trans hT1)))
     go_wp2
     go_roundw
     case rel=>exact⟨m,n+1,rfl,by go_num,HKEEP.out trivial _ ((HT2.out.drew).trans hT1)⟩
     case measure=>simp[intOf];omega
    | true=>
     go_wp2
     go_region_held3 (λw'=>w'.cell? ⟨ph,0,none⟩=some (.slice (some ⟨g,0,none⟩) L'.length cap)/\w'.cell? ⟨ph,1,none⟩=some (.func (.func 200) #[] #[.pointer (some ⟨bf,0,none⟩)])/\w'.cell? ⟨g,n,none⟩=some (.pointer (some ⟨pa,0,none⟩))/\w'.cell? ⟨g,m,none⟩=some (.pointer (some ⟨pb,0,none⟩))) (go_keep) (first|(go_at_call 200;refine(Hr.out _ (HT2.out.drew)).mono ?_;rintro e w1 ⟨rfl,hT1⟩;obtain⟨e0,e1,e2,e3⟩:=HK.out _ ((HT2.out.drew).trans hT1)))
     go_wp2
     go_roundw
     case rel=>exact⟨n,n+1,rfl,by go_num,HTAKE.out trivial _ ((HT2.out.drew).trans hT1)⟩
     case measure=>simp[intOf];omega
   ·have hend:n=2*k+3\/L'.length<=n:=by omega
    have HT2:Hid (Touch [] W0 wr):=hT2;by_cases hmk:m=k
    ·subst hmk;have HD:Hid (m=m->He (lC ks) L'):=λ_=>HH.out.2.2.1.done hLe hend;clear hH hLe hT2 hend;by_cases hlast:n<=2*m+2
     ·have hin2:L'.length<=n:=by omega
      clear hin;go_wp2
      first|go_end0|refine bodyPost_ret (results_none rfl _ _ _) rfl ?_
      obtain⟨q1,q2,_,q4⟩:=HH.out;exact⟨rfl,L',q1.quiet HT2.out,q2,HD.out trivial,q4.trans (HT2.out.mono (by simp))⟩
     ·have hin2:2*m+2<n:=by omega
      clear hin hlast;go_wp2
      first|go_end0|refine bodyPost_ret (results_none rfl _ _ _) rfl ?_
      obtain⟨q1,q2,_,q4⟩:=HH.out;exact⟨rfl,L',q1.quiet HT2.out,q2,HD.out trivial,q4.trans (HT2.out.mono (by simp))⟩
    ·have hmk2:k<m:=by have:=hLe.who;omega
     have hmk3:((m:Int) == (k:Int))=false:=by simp;omega
     have HL2:Hid (L'.length=L.length/\m<L.length):=⟨HL.out,by have:=HL.out;omega⟩;have HSW:Hid (∀W,Touch [] W0 W->CDn w ph g cap bf ps ks L m ((W.setCell ⟨g,k,none⟩ (.pointer (some ⟨L'[m].ptr,0,none⟩))).setCell ⟨g,m,none⟩ (.pointer (some ⟨L'[k].ptr,0,none⟩)))):=λW ht=>by
      obtain⟨a,b⟩:=hH.swapped k m hkl hml ht;exact⟨_,a,(sQ L' k m hkl hml).trans HH.out.2.1,HH.out.2.2.1.step (ltCU_law ks) hLe hmk hend,HH.out.2.2.2.trans b⟩
     have c0:=hH.cells k hkl hT2;have d0:=hH.cells m hml hT2;have f0:=(hH.quiet hT2).items.frozen k;have f4:=(hH.quiet hT2).items.frozen m;clear hH hLe hT2 hend;generalize L'[m].ptr=pb at *;generalize L'[k].ptr=pa at *;by_cases hlast:n<=2*k+2
     ·have hin2:L'.length<=n:=by omega
      clear hin;go_wp2
      go_region
      go_wp2
      go_roundw
      case rel=>exact⟨m,HL2.out.2,rfl,CDn.drew (HSW.out wr HT2.out)⟩
      case measure=>have:=HL2.out;simp[intOf];omega
     ·have hin2:2*k+2<n:=by omega
      clear hin hlast;go_wp2
      go_region
      go_wp2
      go_roundw
      case rel=>exact⟨m,HL2.out.2,rfl,CDn.drew (HSW.out wr HT2.out)⟩
      case measure=>have:=HL2.out;simp[intOf];omega
theorem info305:(prog.info? 305).map (λi=>(i.zero,i.size,i.bytes))=some (some (.pointer none),1,8):=by kernel_rfl
def CW (w:World)(v:Value)(L:List CU):Prop:=w.ownsRow 0 305 1 v L.length (L.map CU.val)
theorem CW.nil (w:World):CW w (.slice none 0 0) []:=World.ownsRow_nil _ _ _ _
theorem CW.items {L:List CU}(h:CW w (.slice (some ⟨g,0,none⟩) n cap) L):n=L.length/\Cm w g cap L:=by
 rcases h.2 with⟨e,_⟩|⟨g',cap',cur,e,_,hh,hc,hm,hs,ht⟩
 ·simp at e
 ·simp only[Value.slice.injEq,j_,Addr.mk.injEq,and_true]at e;obtain⟨rfl,rfl,rfl⟩:=e;refine⟨rfl,cur,hh,by simpa using hs,hc,hm,λi hi=>?_⟩;have h3:(List.take (L.length*1) cur.toList)[i]?=(L.map CU.val)[i]?:=by rw[ht]
  rw[S_,if_pos (by omega)]at h3;simpa[hi]using h3
theorem Cm.own {L:List CU}(h:Cm w g cap L):CW w (.slice (some ⟨g,0,none⟩) L.length cap) L:=by
 obtain⟨cur,hb,hs,hc,hm,hx⟩:=h;refine⟨by simp,.inr ⟨g,cap,cur,rfl,x_ _,hb,hc,hm,by simpa using hs,?_⟩⟩;apply List.ext_getElem?;intro j;rw[S_,Y_];by_cases hj:j<L.length*1
 ·rw[if_pos hj,hx j (by omega)];simp[show j<L.length by omega]
 ·rw[if_neg hj,List.getElem?_eq_none (by simp;omega)]
structure CS (w:World)(ph:Nat)(v:Value)(bf ps:Nat)(ks:List K)(L:List CU):Prop where
 head:Cb w ph v bf
 items:CW w v L
 ctx:CCtx w bf ps ks
 rows:∀x∈L,CBox w ks x
 ok:He (lC ks) L
theorem CW.shape {L:List CU}(h:CW w v L):(v=.slice none 0 0/\L=[])\/∃g cap,v=.slice (some ⟨g,0,none⟩) L.length cap/\Cm w g cap L:=by
 rcases h.2 with⟨rfl,h0⟩|⟨g,cap,cur,rfl,_⟩
 ·exact .inl ⟨rfl,D_.1 h0⟩
 ·exact .inr ⟨g,cap,rfl,h.items.2⟩
theorem CS.at {L:List CU}(h:CS w ph v bf ps ks L)(hL:L≠[]):∃g cap,v=.slice (some ⟨g,0,none⟩) L.length cap/\Ce w ph g cap bf ps ks L:=by
 rcases h.items.shape with⟨rfl,e⟩|⟨g,cap,rfl,hi⟩
 ·exact absurd e hL
 ·exact⟨g,cap,rfl,h.head,hi,h.ctx,h.rows⟩
theorem Ce.st {L:List CU}(h:Ce w ph g cap bf ps ks L)(ok:He (lC ks) L):CS w ph (.slice (some ⟨g,0,none⟩) L.length cap) bf ps ks L:=⟨h.head,h.items.own,h.ctx,h.rows,ok⟩
theorem CW.tag {L:List CU}(h:CW w v L):∀k,v.ownBlock=some k->∃cs f,w.heap[k]?=some (.cells cs 305 f):=by
 intro k hk;rcases h.2 with⟨rfl,_⟩|⟨g,cap,cur,rfl,_,hg,_⟩
 ·simp[Value.ownBlock]at hk
 ·simp[Value.ownBlock]at hk;subst hk;exact⟨_,_,hg⟩
theorem CW.nT {L:List CU}(h:CW w v L){t:TypeId}(ht:305≠t):NT t w v.ownBlock.toList:=by
 intro k hk cs f e;obtain⟨cs',f',e'⟩:=h.tag k (by simpa using hk);rw[e']at e;simp only[j_,Obj.cells.injEq]at e;exact ht e.2.1
theorem CS.nT {w:World}{ph:Nat}{v:Value}{bf ps:Nat}{ks:List K}{L:List CU}(h:CS w ph v bf ps ks L){t:TypeId}(h1:331≠t)(h2:305≠t):NT t w (h_ ph v):=
 (h.items.nT h2).cons h.head h1
theorem cpush_mid {L:List CU}{x:CU}(h:CS w ph v bf ps ks L)(hx:CBox w ks x)(hW:Touch [] w W)(hG:W.grownBy w4 v.ownBlock)(hI:Cm w4 g cap (L++[x])) :
  Cb w4 ph v bf/\Ce (w4.setCell ⟨ph,0,none⟩ (.slice (some ⟨g,0,none⟩) (L.length+1) cap)) ph g cap bf ps ks (L++[x])/\Touch (h_ ph v) w (w4.setCell ⟨ph,0,none⟩ (.slice (some ⟨g,0,none⟩) (L.length+1) cap)):=by
 have hT4:Touch v.ownBlock.toList w w4:=(hW.mono (by simp)).grown hG (λk hk=>by simp[hk]);have hhead:=h.head;have hpv:ph∉v.ownBlock.toList:=λe=>by
  obtain⟨cs,f,e'⟩:=h.items.tag ph (by simpa using e);unfold Cb at hhead;rw[hhead]at e';simp at e'
 have h4:Cb w4 ph v bf:=hhead.touch hT4.u hpv;have hgp:g≠ph:=λe=>by
  obtain⟨cur,hb,_⟩:=hI;subst e;unfold Cb at h4;rw[h4]at hb;simp at hb
 have hT5:Touch [ph] w4 (w4.setCell ⟨ph,0,none⟩ (.slice (some ⟨g,0,none⟩) (L.length+1) cap)):=(Touch.refl _ _).setCell (by simp) _;have hn5:∀t,(331:TypeId)≠t->KT t w4 (w4.setCell ⟨ph,0,none⟩ (.slice (some ⟨g,0,none⟩) (L.length+1) cap)):=λt ht=>hT5.tag (nO h4 ht);have hk:∀t,(305:TypeId)≠t->(331:TypeId)≠t->KT t w (w4.setCell ⟨ph,0,none⟩ (.slice (some ⟨g,0,none⟩) (L.length+1) cap)):=λt h1 h2=>(hT4.tag (h.items.nT h1)).trans (hn5 t h2);refine⟨h4,⟨?_,hI.touch hT5.u (by simpa using hgp),h.ctx.keep (hk _ (by decide) (by decide)) (hk _ (by decide) (by decide)) (hk _ (by decide) (by decide)),λy hy=>?_⟩,?_⟩
 ·have:=heap_setCell_same w4 ph 0 (caj v bf) 331 (.slice (some ⟨g,0,none⟩) (L.length+1) cap) h4;unfold Cb;rw[this];simp[caj]
 ·rcases d_.1 hy with hy|hy
  ·exact(h.rows y hy).keep (hk _ (by decide) (by decide)) (hk _ (by decide) (by decide))
  ·rw[ms_ hy];exact hx.keep (hk _ (by decide) (by decide)) (hk _ (by decide) (by decide))
 ·exact(hT4.mono (λk hk=>o_ _ hk)).trans (hT5.mono (λk hk=>by rw[ms_ hk];exact I_))
theorem cpush_any (w:World)(ph:Nat)(v:Value)(bf ps:Nat)(ks:List K)(L:List CU)(x:CU)(h:CS w ph v bf ps ks L)(hx:CBox w ks x)(hsmall:L.length<=100000000) :
  Calls prog 202 #[.pointer (some ⟨ph,0,none⟩),.pointer (some ⟨x.ptr,0,none⟩)] w λe w'=>e=.returned (.tuple #[])/\∃v' L',CS w' ph v' bf ps ks L'/\L'.Perm (L++[x])/\Touch (h_ ph v) w w'/\(∀k,v'.ownBlock=some k->v.ownBlock=some k\/w.heap.size<=k):=by
 obtain⟨hd0,hd1⟩:=h.head.cell;have hphlt:ph<w.heap.size:=(agi.1 h.head).1;have HH:Hid (CS w ph v bf ps ks L/\CBox w ks x):=⟨h,hx⟩;have hv:∃o n c,v=.slice o n c:=by
  rcases h.items.shape with⟨rfl,_⟩|⟨g,cap,rfl,_⟩
  ·exact⟨_,_,_,rfl⟩
  ·exact⟨_,_,_,rfl⟩
 have HUP:Hid (Un (lC ks) (L++[x]) L.length):=Un.push h.ok x;clear h hx;obtain⟨vo,vn,vc,rfl⟩:=hv;obtain⟨i0,hi,hz0,hz1,hz2⟩:=info_parts info305;have HI:Hid (prog.info? 305=some i0/\i0.zero=some (.pointer none)/\i0.size=1/\i0.bytes=8):=⟨hi,hz0,hz1,hz2⟩;clear hi hz0 hz1 hz2;go_enter func202,ntmps202
 go_wp2_with (first|(at_builtin;refine wpList_append_lies _ rfl (.tmp 8) (.tmp 10) 329 rfl 0 305 i0 (.pointer none) 1 8 underlying329 HI.out.1 HI.out.2.1 HI.out.2.2.1 HI.out.2.2.2 rfl (by decide) (.slice vo vn vc) L.length (L.map CU.val) rfl (by exact World.ownsRow.alloc HH.out.1.items _) ⟨w.heap.size,0,none⟩ 1 1 [.pointer (some ⟨x.ptr,0,none⟩)] rfl (by simp) (by exact World.news_of_block (heap_alloc_new w _)) (by intro u hu;simp at hu;subst hu;rfl) (by decide) (by unfold maxLen;omega) (by omega) (x_ _) _ rfl ?_;intro g cp w4 hO4 hG4 hat4 hlt4;obtain⟨hH4,hM4,hT4⟩:=cpush_mid HH.out.1 HH.out.2 (tr_.alloc (.cells #[.pointer (some ⟨x.ptr,0,none⟩)] 305)) hG4 (CW.items (L:=L++[x]) (by unfold CW;rw[c_,w_];exact hO4)).2;obtain⟨q0,q1⟩:=hH4.cell;have qf:=hH4.frozen 0;have HM:Hid _:=hM4;have HT4:Hid _:=hT4;clear hM4 hT4 hO4 hG4)|(go_at_call 217;refine(csiftUp_any _ ph g cp bf ps ks (L++[x]) L.length HM.out HUP.out (by simp;omega)).mono ?_;rintro e w6 ⟨rfl,L',hH6,hP6,hO6,hT6⟩))
 go_end0
 refine⟨rfl,_,L',hH6.st hO6,hP6,?_,λk hk=>?_⟩
 ·refine HT4.out.more (G:=[g]) hT6 ?_;intro k hk;rw[ms_ hk];rcases hat4 with h|h
  ·exact .inl (by simp[h_,h])
  ·exact .inr (by rw[h];simp)
 ·simp only[Value.ownBlock,j_]at hk;subst hk;rcases hat4 with h|h
  ·exact .inl h
  ·exact .inr (by rw[h];simp)
theorem clen_any (w:World)(ph:Nat)(v:Value)(bf ps:Nat)(ks:List K)(L:List CU)(h:CS w ph v bf ps ks L) :
  Calls prog 203 #[.pointer (some ⟨ph,0,none⟩)] w λe w'=>e=.returned (.int .i64 (L.length:Int))/\w'=w:=by
 obtain⟨hd0,hd1⟩:=h.head.cell;rcases h.items.shape with⟨rfl,rfl⟩|⟨g,cap,rfl,_⟩
 ·clear h;go_enter func203,ntmps203;go_wp2;go_ret;exact⟨rfl,rfl⟩
 ·clear h;go_enter func203,ntmps203;go_wp2;go_ret;exact⟨rfl,rfl⟩
theorem cleast_any (w:World)(ph:Nat)(v:Value)(bf ps:Nat)(ks:List K)(L:List CU)(x:CU)(h:CS w ph v bf ps ks L)(h0:L[0]?=some x) :
  Calls prog 204 #[.pointer (some ⟨ph,0,none⟩)] w λe w'=>e=.returned (.pointer (some ⟨x.ptr,0,none⟩))/\w'=w:=by
 obtain⟨hl,hx⟩:=l_.1 h0;obtain⟨g,cap,rfl,hA⟩:=h.at (λe=>by subst e;simp at hl);obtain⟨hd0,hd1⟩:=hA.head.cell;have c0:=hA.items.cell 0 hl;rw[hx]at c0;unfold CU.val at c0;have hlz:(0:Int)<(L.length:Int):=by omega
 clear h hA;go_enter func204,ntmps204;go_wp2;go_ret;exact⟨rfl,rfl⟩
theorem creplace_any (w:World)(ph g cap bf ps:Nat)(ks:List K)(L:List CU)(x:CU)(h:Ce w ph g cap bf ps ks L)(hu:DI (lC ks) L 0)(h0:L[0]?=some x)(hsmall:L.length<=1000000000) :
  Calls prog 205 #[.pointer (some ⟨ph,0,none⟩),.pointer (some ⟨x.ptr,0,none⟩)] w λe w'=>e=.returned (.tuple #[])/\∃L',CS w' ph (.slice (some ⟨g,0,none⟩) L.length cap) bf ps ks L'/\L'.Perm L/\Touch [g] w w':=by
 obtain⟨hl,hx⟩:=l_.1 h0;obtain⟨hd0,hd1⟩:=h.head.cell;have c0:=h.items.cell 0 hl;have f0:=h.items.frozen 0;have hlz:(0:Int)<(L.length:Int):=by omega
 have HSI:Hid (Calls prog 218 #[.pointer (some ⟨ph,0,none⟩),.int .i64 0] (w.setCell ⟨g,0,none⟩ (.pointer (some ⟨x.ptr,0,none⟩))) λe w'=>e=.returned (.tuple #[])/\∃L',CS w' ph (.slice (some ⟨g,0,none⟩) L.length cap) bf ps ks L'/\L'.Perm L/\Touch [g] w w'):=by
  have t1:Touch [g] w (w.setCell ⟨g,0,none⟩ (.pointer (some ⟨x.ptr,0,none⟩))):=(Touch.refl [g] w).setCell (p:=⟨g,0,none⟩) (by simp) _;have hL:L.set 0 x=L:=by rw[<-hx];simp
  have hi:=h.items.put 0 hl x;rw[hL]at hi;refine(caz _ ph g cap bf ps ks L (h.turn t1 hi rfl (λy hy=>hy)) hu hl hsmall).mono ?_;rintro e w' ⟨rfl,L',p1,p2,p3,p4⟩;have hst:=p1.st p3;rw[p2.length_eq]at hst;exact⟨rfl,L',hst,p2,t1.trans p4⟩
 clear h hu;go_enter func205,ntmps205
 go_wp2_with (go_at_call 218;refine HSI.out.mono ?_;rintro e w6 ⟨rfl,L',hH6,hP6,hT6⟩)
 go_end0
 exact⟨rfl,L',hH6,hP6,hT6⟩
theorem run_clear1 (w:World)(b o c:Nat)(ty:TypeId)(hc:(w.cell? ⟨b,o,none⟩).isSome=true)(hf:w.frozen? ⟨b,o,none⟩=false) :
  (Builtin.clear_ #[329] ty #[.slice (some ⟨b,o,none⟩) 1 c]).run prog w=.ok (.tuple #[]) (w.setCell ⟨b,o,none⟩ (.pointer none)):=by
 have hst:=run_storeCells_cells (P:=prog) b o [.pointer none] 0 w (by intro j hj;simp at hj;subst hj;simpa using hc) (by intro j hj;simp at hj;subst hj;simpa using hf) (by intro v hv;simp at hv;subst hv;rfl);simp only[Nat.add_zero]at hst;have hset:w.setCells b o [.pointer none]=w.setCell ⟨b,o,none⟩ (.pointer none):=by simp[World.setCells]
 rw[hset]at hst;have hz:(Builtin.zeroCells (Value.pointer none).cells 1).toList=[.pointer none]:=by kernel_rfl
 simp[Builtin.clear_,run_underlying underlying329,hz,hst]
theorem Cm.cut {L:List CU}(h:Cm w g cap L)(n:Nat)(hn:n<=L.length)(a:Value):Cm (w.setCell ⟨g,n,none⟩ a) g cap (L.take n):=by
 obtain⟨cur,hb,h1,h2,h3,h4⟩:=h;have hl:(L.take n).length=n:=by rw[W_];omega
 refine⟨_,heap_setCell_same w g n _ 305 _ hb,by simpa using h1,by rw[hl];omega,h3,λi hi=>?_⟩;rw[hl]at hi;rw[gJ,if_neg (by omega)];have:=h4 i (by omega);simpa using this
def cpopW (W:World)(ph g cap n:Nat)(y:CU):World:=
 ((W.setCell ⟨g,0,none⟩ (.pointer (some ⟨y.ptr,0,none⟩))).setCell ⟨g,n,none⟩ (.pointer none)).setCell ⟨ph,0,none⟩ (.slice (some ⟨g,0,none⟩) n cap)
structure CStale (w:World)(ph g cap bf ps:Nat)(ks:List K)(L:List CU):Prop where
 head:Cb w ph (.slice (some ⟨g,0,none⟩) L.length cap) bf
 items:Cm w g cap L
 ctx:CCtx w bf ps ks
 rows:∀i (h:i<L.length),0<i->CBox w ks L[i]
theorem CStale.ne {L:List CU}(h:CStale w ph g cap bf ps ks L):ph≠g:=by
 obtain⟨cur,hb,_⟩:=h.items;have:=h.head;unfold Cb at this;intro e;subst e;rw[hb]at this;simp at this
theorem CStale.popped {L:List CU}(h:CStale w ph g cap bf ps ks L)(hn:L.length=n+1)(hW:Touch [] w W) :
  Ce (cpopW W ph g cap n (L[n]'(by omega))) ph g cap bf ps ks ((L.set 0 (L[n]'(by omega))).take n)/\Touch [ph,g] w (cpopW W ph g cap n (L[n]'(by omega))):=by
 have hne:=h.ne;have hI:=((h.items.touch hW.u (by simp)).put 0 (by omega) (L[n]'(by omega))).cut n (by simp;omega) (.pointer none);have hT:Touch [g] W ((W.setCell ⟨g,0,none⟩ (.pointer (some ⟨(L[n]'(by omega)).ptr,0,none⟩))).setCell ⟨g,n,none⟩ (.pointer none)):=((Touch.refl [g] W).setCell (p:=⟨g,0,none⟩) (by simp) _).setCell (p:=⟨g,n,none⟩) (by simp) _;have hheadW:=h.head.touch hW.u (by simp);have hhead:=hheadW.touch hT.u (by simpa using hne);have hT5:Touch [ph] ((W.setCell ⟨g,0,none⟩ (.pointer (some ⟨(L[n]'(by omega)).ptr,0,none⟩))).setCell ⟨g,n,none⟩ (.pointer none)) (cpopW W ph g cap n (L[n]'(by omega))):=(Touch.refl [ph] _).setCell (p:=⟨ph,0,none⟩) (by simp) (.slice (some ⟨g,0,none⟩) n cap);obtain⟨cur,hb,_⟩:=h.items.touch hW.u (by simp);have hk:∀t,(305:TypeId)≠t->(331:TypeId)≠t->KT t w (cpopW W ph g cap n (L[n]'(by omega))):=λt h1 h2=>(hW.tu t).trans ((hT.tag (nO hb h1)).trans (hT5.tag (nO hhead h2)));have hlen:((L.set 0 (L[n]'(by omega))).take n).length=n:=by simp;omega
 refine⟨⟨?_,hI.touch hT5.u (by simpa using λe=>hne e.symm),h.ctx.keep (hk _ (by decide) (by decide)) (hk _ (by decide) (by decide)) (hk _ (by decide) (by decide)),λx hx=>?_⟩,?_⟩
 ·have:=heap_setCell_same _ ph 0 _ 331 (.slice (some ⟨g,0,none⟩) n cap) hhead;unfold Cb cpopW;rw[this,hlen];simp[caj]
 ·have hx2:∃i,∃hi:i<L.length,0<i/\x=L[i]:=by
   obtain⟨i,hi,rfl⟩:=A_ hx;rw[hlen]at hi;by_cases e:i=0
   ·subst e;exact⟨n,by omega,hi,by simp⟩
   ·exact⟨i,by omega,by omega,by simp[ao_ (Ne.symm e)]⟩
  obtain⟨i,hi,h0,rfl⟩:=hx2;exact(h.rows i hi h0).keep (hk _ (by decide) (by decide)) (hk _ (by decide) (by decide))
 ·exact(hW.mono (by simp)).trans ((hT.mono (by simp)).trans (hT5.mono (by simp)))
theorem csiftDownNil_any (w:World)(ph g cap bf:Nat)(h:Cb w ph (.slice (some ⟨g,0,none⟩) 0 cap) bf) :
  Calls prog 218 #[.pointer (some ⟨ph,0,none⟩),.int .i64 0] w λe w'=>e=.returned (.tuple #[])/\w'=w:=by
 obtain⟨hd0,hd1⟩:=h.cell;clear h;go_enter func218,ntmps218;go_wp2;refine wp_loop_rounds 1 ?_;rw[rounds_succ];go_wp2;refine wp_loop_rounds 1 ?_;rw[rounds_succ];go_wp2
 first|go_end0|refine bodyPost_ret (results_none rfl _ _ _) rfl ?_
 exact⟨rfl,rfl⟩
theorem csiftDown_all (w:World)(ph g cap bf ps:Nat)(ks:List K)(L:List CU)(h:Ce w ph g cap bf ps ks L)(hu:DI (lC ks) L 0)(hsmall:L.length<=1000000000) :
  Calls prog 218 #[.pointer (some ⟨ph,0,none⟩),.int .i64 0] w λe w'=>e=.returned (.tuple #[])/\∃L',Ce w' ph g cap bf ps ks L'/\L'.Perm L/\He (lC ks) L'/\Touch [g] w w':=by
 rcases Nat.eq_zero_or_pos L.length with h0|h0
 ·have hL:L=[]:=D_.1 h0;subst hL;refine(csiftDownNil_any w ph g cap bf h.head).mono ?_;rintro e w' ⟨rfl,rfl⟩;exact⟨rfl,[],h,List.Perm.refl _,He.nil,Touch.refl _ _⟩
 ·exact caz w ph g cap bf ps ks L h hu h0 hsmall
theorem cpop_at (w:World)(ph g cap bf ps:Nat)(ks:List K)(L:List CU)(n:Nat)(h:CStale w ph g cap bf ps ks L)(ok:He (lC ks) L)(hn:L.length=n+1)(hsmall:L.length<=100000000) :
  Calls prog 206 #[.pointer (some ⟨ph,0,none⟩)] w λe w'=>e=.returned (.pointer (some ⟨(L[0]'(by omega)).ptr,0,none⟩))/\∃L',CS w' ph (.slice (some ⟨g,0,none⟩) n cap) bf ps ks L'/\((L[0]'(by omega))::L').Perm L/\Touch [ph,g] w w':=by
 obtain⟨hd0,hd1⟩:=h.head.cell;have hphlt:=(agi.1 h.head).1;have hpg:=h.ne;have hgb:g<w.heap.size/\L.length<=cap/\cap<=2 ^ 63-1:=by obtain⟨cur,hb,_,h3,h4,_⟩:=h.items;exact⟨(agi.1 hb).1,h3,h4⟩
 obtain⟨hglt,hc1,hc2⟩:=hgb;have hn0:0<L.length:=by omega
 have hnn:n<L.length:=by omega
 have c0:=h.items.cell 0 hn0;have d0:=h.items.cell n hnn;unfold CU.val at c0 d0;have f0:=h.items.frozen 0;have fph:=h.head.frozen 0;rw[hn]at hd0;have HPOP:Hid (∀W,Touch [] w W->Ce (((W.setCell ⟨g,0,none⟩ (.pointer (some ⟨L[n].ptr,0,none⟩))).setCell ⟨g,n,none⟩ (.pointer none)).setCell ⟨ph,0,none⟩ (.slice (some ⟨g,0,none⟩) n cap)) ph g cap bf ps ks ((L.set 0 L[n]).take n)/\Touch [ph,g] w (((W.setCell ⟨g,0,none⟩ (.pointer (some ⟨L[n].ptr,0,none⟩))).setCell ⟨g,n,none⟩ (.pointer none)).setCell ⟨ph,0,none⟩ (.slice (some ⟨g,0,none⟩) n cap))):=λW hW=>h.popped hn hW;have HIT:Hid (Cm (w.setCell ⟨g,0,none⟩ (.pointer (some ⟨L[n].ptr,0,none⟩))) g cap (L.set 0 L[n])):=h.items.put 0 hn0 L[n];have HLE:Hid ((L.set 0 L[n]).length=L.length):=by show _=_;simp
 have HDOWN:Hid (DI (lC ks) ((L.set 0 L[n]).take n) 0):=⟨λi hi h0 hne=>by
   simp only[W_,List.length_set]at hi;simp only[List.getElem_take];exact(DI.first ok L[n]).ok i (by simp;omega) h0 hne,λi hi h0 he h1=>by omega⟩
 have HPERM:Hid ((L[0]::(L.set 0 L[n]).take n).Perm L):=by
  have:=pop_perm (l:=L) (x:=L[n]) hn0 (by rw[hn];simp[hnn]);rw[hn]at this;exact this
 have HLEN:Hid (((L.set 0 L[n]).take n).length=n):=by show _=_;simp;omega
 have hcl:∀ty,(Builtin.clear_ #[329] ty #[.slice (some ⟨g,n,none⟩) 1 (cap-n)]).run prog (w.setCell ⟨g,0,none⟩ (.pointer (some ⟨L[n].ptr,0,none⟩))).drew=.ok (.tuple #[]) ((w.setCell ⟨g,0,none⟩ (.pointer (some ⟨L[n].ptr,0,none⟩))).setCell ⟨g,n,none⟩ (.pointer none)).drew:=λty=>by
  have hi:=HIT.out.cell n (by simp;omega);have:=run_clear1 (w.setCell ⟨g,0,none⟩ (.pointer (some ⟨L[n].ptr,0,none⟩))).drew g n (cap-n) ty (by
   show((w.setCell ⟨g,0,none⟩ (.pointer (some ⟨L[n].ptr,0,none⟩))).cell? ⟨g,n,none⟩).isSome=true;rw[hi];rfl) (by
   show(w.setCell ⟨g,0,none⟩ (.pointer (some ⟨L[n].ptr,0,none⟩))).frozen? ⟨g,n,none⟩=false;exact HIT.out.frozen n)
  exact this
 generalize (L.set 0 L[n]).take n=L1 at *;generalize L.set 0 L[n]=L1' at *;clear h ok;generalize L[n].ptr=pb at *;have hn9:n<cap:=by omega
 have hn8:n<=100000000:=by omega
 have HN:Hid (L.length=n+1):=hn;generalize L[0]=X0 at *;have hcl0:=hcl 0;clear hn hsmall hc1 hcl;go_enter func206,ntmps206;go_wp2
 go_region
 go_wp2_with fail
 refine(csiftDown_all _ ph g cap bf ps ks L1 ((HPOP.out w (Touch.refl _ _)).1.quiet (tr_.drew)) HDOWN.out (by have:=HLEN.out;omega)).mono ?_;rintro e w6 ⟨rfl,L',hH6,hP6,hO6,hT6⟩;have HH6:Hid _:=hH6;have HT6:Hid _:=hT6;clear hH6 hT6 c0 d0 hd0 hd1 f0 fph hcl0;go_wp2;go_ret;have hS:=HH6.out.st hO6;have e:L'.length=n:=by rw[hP6.length_eq];exact HLEN.out
 rw[e]at hS;exact⟨rfl,L',hS,(hP6.cons X0).trans HPERM.out,(((HPOP.out w (Touch.refl _ _)).2).drew).trans (HT6.out.mono (by simp))⟩
theorem cbox_set {a:Int}(h:w.heap[p]?=some (.cells #[.pointer (some ⟨rd,0,none⟩),.int .i64 a,sv] 307 (0,0)))(b:Int)(v:Value):((w.setCell ⟨p,1,none⟩ (.int .i64 b)).setCell ⟨p,2,none⟩ v).heap[p]?=some (.cells #[.pointer (some ⟨rd,0,none⟩),.int .i64 b,v] 307 (0,0)):=by
 rw[heap_setCell_same _ p 2 _ 307 _ (heap_setCell_same w p 1 _ 307 _ h)];simp
theorem advance_nil (w:World)(p rd r bx blk file cols:Nat)(a:Int)(sv:Value)(cs:List (List Rec))(d:DS)(hB:w.heap[p]?=some (.cells #[.pointer (some ⟨rd,0,none⟩),.int .i64 a,sv] 307 (0,0)))(hR:Ru w r bx blk file cols cs d)(hq:Rj w rd r cs []) :
  Calls prog 201 #[.pointer (some ⟨p,0,none⟩)] w λe w'=>e=.returned (.bool false)/\w'.heap[p]?=some (.cells #[.pointer (some ⟨rd,0,none⟩),.int .i64 0,.slice none 0 0] 307 (0,0))/\Touch [p] w w':=by
 have HN:Hid (Calls prog 117 #[.pointer (some ⟨rd,0,none⟩)] w λe w'=>e=.returned (.tuple #[.agg #[.int .i64 0,.slice none 0 0],.bool false])/\Touch [] w w'):=next_nil w rd r bx blk file cols cs d hR hq;obtain⟨c0,c1,c2⟩:=bD hB;have HB:Hid (∀W,Touch [] w W->W.heap[p]?=some (.cells #[.pointer (some ⟨rd,0,none⟩),.int .i64 a,sv] 307 (0,0))):=λW hW=>hW.u.keep hB (by decide) (by simp);clear hB hR hq;go_enter func201,ntmps201
 go_wp2_with (go_at_call 117;refine HN.out.mono ?_;rintro e w1 ⟨rfl,hT1⟩;have hb1:=HB.out w1 hT1;obtain⟨b0,b1,b2⟩:=bD hb1;have g1:w1.frozen? ⟨p,1,none⟩=false:=(by simp[World.frozen?,hb1]);have g2:w1.frozen? ⟨p,2,none⟩=false:=(by simp[World.frozen?,hb1]);have hp1:=(agi.1 hb1).1;have HT1:Hid _:=hT1;have HB1:Hid _:=hb1;clear hT1 hb1)
 go_ret;have t2:Touch [p] w1 (((w1.setCell ⟨p,1,none⟩ (.int .i64 0)).setCell ⟨p,2,none⟩ (.slice none 0 0)).alloc (.cells #[.int .i64 0,.slice none 0 0] 205)):=(((Touch.refl [p] w1).setCell (p:=⟨p,1,none⟩) (by simp) _).setCell (p:=⟨p,2,none⟩) (by simp) _).alloc _;have hb2:=cbox_set HB1.out 0 (.slice none 0 0);exact⟨rfl,(Below.heap_alloc _ _ _ (agi.1 hb2).1).trans hb2,(HT1.out.mono (by simp)).trans t2⟩
theorem aV (w:World)(p rd r bx bm blk file cols:Nat)(a:Int)(sv:Value)(cs:List (List Rec))(d:DS)(M:List PF)(x:Rec)(l:List Rec)(hB:w.heap[p]?=some (.cells #[.pointer (some ⟨rd,0,none⟩),.int .i64 a,sv] 307 (0,0)))(hR:Ru w r bx blk file cols cs d)(hq:Rj w rd r cs (x::l))(hP:PD w bx bm d M)(ok:Di d)
  (hall:∀y∈x::l,Rh blk cols y) (hc1:1<=cols) (hc:cols<=1000) (hfl:file<=1000000000) (hn:cs.length<=100000000) (hch:∀c∈cs,(encs c).length<=1000000) :
  Calls prog 201 #[.pointer (some ⟨p,0,none⟩)] w λe w'=>∃g,e=.returned (.bool true)/\w'.heap[p]?=some (.cells #[.pointer (some ⟨rd,0,none⟩),.int .i64 x.no,.slice (some ⟨g,0,none⟩) cols cols] 307 (0,0))/\Ro w' (.slice (some ⟨g,0,none⟩) cols cols) x.row/\Rj w' rd r cs l/\PD w' bx bm d M/\Touch [p,rd,bx] w w':=by
 have HN:Hid (Calls prog 117 #[.pointer (some ⟨rd,0,none⟩)] w λe w'=>∃g,e=.returned (.tuple #[.agg #[.int .i64 x.no,.slice (some ⟨g,0,none⟩) cols cols],.bool true])/\Ro w' (.slice (some ⟨g,0,none⟩) cols cols) x.row/\Rj w' rd r cs l/\w.heap.size<=g/\PD w' bx bm d M/\Touch [rd,bx] w w'):=next_cons w rd r bx bm blk file cols cs d M x l hR hq hP ok hall hc1 hc hfl hn hch;obtain⟨c0,c1,c2⟩:=bD hB;have hprd:p∉[rd,bx]:=λe=>by
  obtain⟨c,hc⟩:=hq.cell;have hd:=hP.disk;simp only[a_,i_,or_false]at e;rcases e with rfl|rfl
  ·rw[hB]at hc;simp at hc
  ·rw[hB]at hd;simp at hd
 have HB:Hid (∀W,Touch [rd,bx] w W->W.heap[p]?=some (.cells #[.pointer (some ⟨rd,0,none⟩),.int .i64 a,sv] 307 (0,0))):=λW hW=>hW.u.keep hB (by decide) hprd;clear hB hR hq hP ok hall hch;generalize x.no=an at *;go_enter func201,ntmps201
 go_wp2_with (go_at_call 117;refine HN.out.mono ?_;rintro e w1 ⟨g,rfl,p1,p2,p3,p4,hT1⟩;have hb1:=HB.out w1 hT1;obtain⟨b0,b1,b2⟩:=bD hb1;have g1:w1.frozen? ⟨p,1,none⟩=false:=(by simp[World.frozen?,hb1]);have g2:w1.frozen? ⟨p,2,none⟩=false:=(by simp[World.frozen?,hb1]);have hp1:=(agi.1 hb1).1;have HT1:Hid _:=hT1;have HB1:Hid _:=hb1;have HP1:Hid _:=p1;have HP2:Hid (Rj w1 rd r cs l):=p2;have HP4:Hid _:=p4;clear hT1 hb1 p1 p2 p4)
 go_ret;have t2:Touch [p] w1 (((w1.setCell ⟨p,1,none⟩ (.int .i64 an)).setCell ⟨p,2,none⟩ (.slice (some ⟨g,0,none⟩) cols cols)).alloc (.cells #[.int .i64 an,.slice (some ⟨g,0,none⟩) cols cols] 205)):=(((Touch.refl [p] w1).setCell (p:=⟨p,1,none⟩) (by simp) _).setCell (p:=⟨p,2,none⟩) (by simp) _).alloc _;have hb2:=cbox_set HB1.out an (.slice (some ⟨g,0,none⟩) cols cols);refine⟨g,rfl,(Below.heap_alloc _ _ _ (agi.1 hb2).1).trans hb2,Sl3.keep HP1.out (t2.tag (nO HB1.out (by decide))),HP2.out.touch t2.u (λe=>?_),HP4.out.away t2 (λk hk e=>?_),(HT1.out.mono (by simp)).trans (t2.mono (by simp))⟩
 ·obtain⟨c,hc⟩:=HP2.out.cell;rw[ms_ e,HB1.out]at hc;simp at hc
 ·rw[ms_ e]at hk;exact(HP4.out.nT (t:=307) (by decide) (by decide)).not_mem HB1.out hk
end Go.Proofs.YtjoinhljdbljaaaGreat
