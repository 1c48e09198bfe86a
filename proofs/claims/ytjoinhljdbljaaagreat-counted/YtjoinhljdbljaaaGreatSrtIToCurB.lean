/- The walk of spillAll, and what follows. -/
import Derived.Test.YtjoinhljdbljaaaGreatSrtGToSrtH
import Derived.Deep.LoopGhost
import Derived.BigQuiet
import Derived.BigRegion
set_option maxHeartbeats 4000000
set_option maxRecDepth 20000
namespace Go.Proofs.YtjoinhljdbljaaaGreat
open Go.RowKit
structure SpInv (w:World) (ps bs:Nat) (s:SC) (F:List Nat) (ks:List K) (bm cols:Nat) (rows:List Rec) (m j:Nat) (wr:World) (s':SC) (hv':Value) (L':List EV) (d':DS) (M':List PF) (pre':List RI) (o':Option RI) (lr':Rec):Prop where
 st:SpSt wr ps bs s' hv' ks L' bm cols d' M' pre' o' rows lr'
 same:Same s s'
 left:Left d' (2 * L'.length+m) (L'.length+j)
 touch:TouchU F w wr
 sub:Sub w (sbF ps s' hv' bm M' (pre'++o'.toList)) F
theorem SpSt.quiet {w w':World} {ps bs:Nat} {s:SC} {hv:Value} {ks:List K} {L:List EV} {bm cols:Nat} {d:DS} {M:List PF} {pre:List RI} {o:Option RI} {rows:List Rec} {lr:Rec} {F:List Nat} (h:SpSt w ps bs s hv ks L bm cols d M pre o rows lr) (t:Touch F w w') (hF:∀ k∈F,k∉sbF ps s hv bm M (pre++o.toList)) (n1:NoTag 228 w F) (n2:NoTag 73 w F) (n3:NoTag 85 w F) (n4:NoTag 5 w F):SpSt w' ps bs s hv ks L bm cols d M pre o rows lr:=
 ⟨h.sb.quiet t hF n1 n2 n3 n4,h.lists,fun hn=>⟨(h.last hn).1,Sl3.keep (h.last hn).2.1 (t.tag n3),(h.last hn).2.2⟩,h.length,h.none,h.few,h.count,h.run,h.many⟩
theorem SpSt.quiet0 {w w':World} {ps bs:Nat} {s:SC} {hv:Value} {ks:List K} {L:List EV} {bm cols:Nat} {d:DS} {M:List PF} {pre:List RI} {o:Option RI} {rows:List Rec} {lr:Rec} (h:SpSt w ps bs s hv ks L bm cols d M pre o rows lr) (t:Touch [] w w'):SpSt w' ps bs s hv ks L bm cols d M pre o rows lr:=
 h.quiet t (by simp) (fun k hk=>by simp at hk) (fun k hk=>by simp at hk) (fun k hk=>by simp at hk) (fun k hk=>by simp at hk)
theorem spInv_spill {w wr:World} {ps bs:Nat} {s s':SC} {F:List Nat} {hv':Value} {ks:List K} {L':List EV} {bm cols:Nat} {d':DS} {M':List PF} {pre':List RI} {o':Option RI} {rows:List Rec} {lr':Rec} {m j:Nat} (h:SpInv w ps bs s F ks bm cols rows m j wr s' hv' L' d' M' pre' o' lr') (hL:L'≠[]) :
  Calls Tryz.prog 167 #[.pointer (some ⟨ps,0,none⟩)] wr fun e w'=>e=.returned (.tuple #[]) /\ ∃ s2 hv2 L2 d2 M2 pre2 x2 lr2,SpInv w ps bs s F ks bm cols rows m j w' s2 hv2 L2 d2 M2 pre2 (some x2) lr2 /\ L2.length+1=L'.length /\ TouchU (sbF ps s' hv' bm M' (pre'++o'.toList)) wr w':=by
 obtain ⟨n,hn⟩:∃ n,L'.length=n+1:=by
  cases L' with
  | nil=>exact absurd rfl hL
  | cons a l=>exact ⟨l.length,rfl⟩
 have hl:=h.left
 refine (spill_any wr ps bs s' hv' ks L' bm cols d' M' pre' o' rows lr' (2 * n+m) (n+j) h.st hL (hl.mono (by omega) (by omega))).mono ?_
 rintro e w' ⟨rfl,s2,hv2,L2,d2,M2,pre2,x2,lr2,p1,p2,p3,p4,p5,p6⟩
 have:L2.length=n:=by omega
 subst this
 exact ⟨rfl,s2,hv2,L2,d2,M2,pre2,x2,lr2,⟨p1,h.same.trans p2,p4,h.touch.onto p5 h.sub,h.sub.trans p6 h.touch.size⟩,p3,p5⟩
theorem spillAll_any (w:World) (ps bs:Nat) (s:SC) (hv:Value) (ks:List K) (L:List EV) (bm cols:Nat) (d:DS) (M:List PF) (pre:List RI) (o:Option RI) (rows:List Rec) (lr:Rec) (m j:Nat) (h:SpSt w ps bs s hv ks L bm cols d M pre o rows lr) (hl:Left d (2 * L.length+(m+1)) (L.length+j)) :
  Calls Tryz.prog 169 #[.pointer (some ⟨ps,0,none⟩)] w fun e w'=>e=.returned (.tuple #[]) /\ ∃ s' hv' d' M' pre',SB w' ps bs s' hv' ks [] bm cols d' M' pre' none /\ Runs ks rows (pre'.map RI.recs) /\ Same s s' /\ Left d' m j /\ (pre'.length:Int) <= d'.last /\ (pre++o.toList≠[] -> pre'≠[]) /\ TouchU (sbF ps s hv bm M (pre++o.toList)) w w' /\ Sub w (sbF ps s' hv' bm M' pre') (sbF ps s hv bm M (pre++o.toList)):=by
 have H0:Hid (∃ s' hv' L' d' M' pre' o' lr',SpInv w ps bs s (sbF ps s hv bm M (pre++o.toList)) ks bm cols rows (m+1) j w s' hv' L' d' M' pre' o' lr' /\ L'.length=L.length /\ (pre++o.toList≠[] -> pre'++o'.toList≠[])):=⟨s,hv,L,d,M,pre,o,lr,⟨h,Same.refl s,hl,TouchU.refl _ _,Sub.refl _ _⟩,rfl,fun h=>h⟩
 clear h hl
 go_enter Tryz.func169,Tryz.ntmps169
 go_wp2
 go_loopg [] (L.length) (fun g wr=>∃ s' hv' L' d' M' pre' o' lr',SpInv w ps bs s (sbF ps s hv bm M (pre++o.toList)) ks bm cols rows (m+1) j wr s' hv' L' d' M' pre' o' lr' /\ L'.length=g /\ (pre++o.toList≠[] -> pre'++o'.toList≠[]))
 case atStart=>exact H0.out
 case round=>
  clear H0
  obtain ⟨s',hv',L',d',M',pre',o',lr',hI,hg,hne⟩:=hrel
  obtain ⟨c0,c1,c2,c3,c4,c5,c6,c7,c8,c9,c10,c11,c12,c13,c14,c15,cf⟩:=hI.st.sb.sorter.cell
  have HI:Hid (SpInv w ps bs s (sbF ps s hv bm M (pre++o.toList)) ks bm cols rows (m+1) j wr s' hv' L' d' M' pre' o' lr' /\ L'.length=gk /\ (pre++o.toList≠[] -> pre'++o'.toList≠[])):=⟨hI,hg,hne⟩
  have HLEN:Hid (Calls Tryz.prog 173 #[.pointer (some ⟨s'.ph,0,none⟩)] wr fun e w'=>e=.returned (.int .i64 (L'.length:Int)) /\ w'=wr):=len_any wr s'.ph hv' bs ps ks L' hI.st.sb.heap
  by_cases hL:L'=[]
  ·have hz:¬ (0:Int) < (L'.length:Int):=by rw [hL]; simp
   have HEND:Hid (Calls Tryz.prog 197 #[.pointer (some ⟨ps,0,none⟩)] wr fun e w'=>e=.returned (.tuple #[]) /\ ∃ pre2 d2 M2,SB w' ps bs s' hv' ks L' bm cols d2 M2 pre2 none /\ pre2.map RI.recs=(pre'++o'.toList).map RI.recs /\ pre2.map RI.r=(pre'++o'.toList).map RI.r /\ Left d2 m j /\ d2.last=d'.last /\ Sub wr (rowsOf M2) (rowsOf M') /\ Touch (runsF s'.bx bm M' (pre'++o'.toList)) wr w'):=
    sbEndRun_any m j hI.st.sb hI.st.none (hI.left.mono (by omega) (by omega))
   clear hI hg hne cf
   go_wp2_with (first | (go_at_call 173; refine HLEN.out.mono ?_; rintro e w1 ⟨rfl,rfl⟩) | (go_at_call 197; refine HEND.out.mono ?_; rintro e w2 ⟨rfl,pre2,d2,M2,q1,q2,q3,q4,q5,q6,q7⟩; have HQ1:Hid _:=q1; have HQ7:Hid _:=q7; clear q1 q7))
   go_end0
   obtain ⟨hI,hg,hne⟩:=HI.out
   have hlen:pre2.length=(pre'++o'.toList).length:=by have:=congrArg List.length q3; rw [List.length_map,List.length_map] at this; exact this
   have hr:Sub w1 (sbF ps s' hv' bm M2 pre2) (sbF ps s' hv' bm M' (pre'++o'.toList)):=fun k hk=>by
    simp only [sbF,runsF,diskF,List.mem_cons,List.mem_append] at hk ⊢
    rcases hk with hk | hk | hk | hk | hk | hk
    ·exact .inl (.inl hk)
    ·exact .inl (.inr (.inl hk))
    ·rw [q3] at hk; exact .inl (.inr (.inr (.inl hk)))
    ·exact .inl (.inr (.inr (.inr (.inl hk))))
    ·exact .inl (.inr (.inr (.inr (.inr (.inl hk)))))
    ·rcases q6 k hk with h | h
     ·exact .inl (.inr (.inr (.inr (.inr (.inr h)))))
     ·exact .inr h
   subst hL
   refine ⟨rfl,s',hv',d2,M2,pre2,HQ1.out,?_,hI.same,q4,?_,fun h1 h2=>?_,hI.touch.onto HQ7.out.u (fun k hk=>hI.sub k (by simp only [sbF,List.mem_cons,List.mem_append]; exact .inr (.inr hk))),hI.sub.trans hr hI.touch.size⟩
   ·rw [q2]; exact hI.st.lists.all
   ·rw [hlen,q5]; exact hI.st.many
   ·rw [h2] at hlen
    exact hne h1 (List.length_eq_zero_iff.1 hlen.symm)
  ·have hz:(0:Int) < (L'.length:Int):=by have:=List.length_pos_iff.2 hL; omega
   have HSP:Hid (Calls Tryz.prog 167 #[.pointer (some ⟨ps,0,none⟩)] wr fun e w'=>e=.returned (.tuple #[]) /\ ∃ s2 hv2 L2 d2 M2 pre2 x2 lr2,SpInv w ps bs s (sbF ps s hv bm M (pre++o.toList)) ks bm cols rows (m+1) j w' s2 hv2 L2 d2 M2 pre2 (some x2) lr2 /\ L2.length+1=L'.length /\ TouchU (sbF ps s' hv' bm M' (pre'++o'.toList)) wr w'):=spInv_spill hI hL
   clear hI hg hne cf
   go_wp2_with (first | (go_at_call 173; refine HLEN.out.mono ?_; rintro e w1 ⟨rfl,rfl⟩) | (go_at_call 167; refine HSP.out.mono ?_; rintro e w2 ⟨rfl,s2,hv2,L2,d2,M2,pre2,x2,lr2,q1,q2,q3⟩; have HQ1:Hid _:=q1; clear q1 q3))
   go_roundg (gk - 1)
   case measure=>have:=HI.out.2.1; omega
   case rel=>exact ⟨s2,hv2,L2,d2,M2,pre2,some x2,lr2,HQ1.out,by have:=HI.out.2.1; omega,by simp⟩
theorem sizes_snoc (L:List EV) (x:EV):sizes (L++[x])=sizes L+x.1.size:=by simp [sizes]
theorem addEnd {wr Wm w9:World} {ps bs B:Nat} {s':SC} {hv' hv9:Value} {ks:List K} {L' L9:List EV} {bm cols n:Nat} {d':DS} {M':List PF} {pre':List RI} {o':Option RI} {rows:List Rec} {lr':Rec} {x:EV} {cb:Array Value} {fb:Nat × Nat}
  (h:SpSt wr ps bs s' hv' ks L' bm cols d' M' pre' o' rows lr') (hS:SorterAt Wm ps { s' with held:=n }) (hB:wr.heap[B]?=some (.cells cb 263 fb)) (hBF:B∉sbF ps s' hv' bm M' (pre'++o'.toList)) (tm:Touch [ps,B] wr Wm) (hp:HeapSt w9 s'.ph hv9 bs ps ks L9) (perm:L9.Perm (L'++[x])) (tp:Touch (heapF s'.ph hv') Wm w9) (own:∀ k,hv9.ownBlock=some k -> hv'.ownBlock=some k \/ Wm.heap.size <= k)
  (hn:(n:Int)=s'.held+x.1.size) (hx:x.1.size=sizeR x.1.rc.row /\ RecOK s'.blk cols x.1.rc) (hrun:x.1.run=if pre'++o'.toList≠[] /\ aheadB ks x.1.rc lr'=true then s'.run+1 else s'.run) (few:rows.length+1 <= 100000) (cnt:rows.length+1 <= s'.count) :
  SpSt w9 ps bs { s' with held:=n } hv9 ks L9 bm cols d' M' pre' o' (rows++[x.1.rc]) lr' /\ Touch (sbF ps s' hv' bm M' (pre'++o'.toList)++[B]) wr w9 /\ Sub wr (sbF ps { s' with held:=n } hv9 bm M' (pre'++o'.toList)) (sbF ps s' hv' bm M' (pre'++o'.toList)):=by
 have nb:∀ t,(260:TypeId)≠t -> (263:TypeId)≠t -> NoTag t wr [ps,B]:=fun t h1 h2=>(notag_of hB h2).cons h.sb.sorter h1
 have hRm:RunsSt Wm s'.bx bm s'.blk cols d' M' pre' o':=by
  refine h.sb.runs.quiet tm (fun k hk e=>?_) (nb 5 (by decide) (by decide))
  rcases List.mem_cons.1 hk with rfl | hk
  ·exact (h.sb.runs.notag (t:=260) (by decide) (by decide) (by decide)).not_mem h.sb.sorter e
  ·rw [List.mem_singleton.1 hk] at e
   exact hBF (by simp [sbF,e])
 have hOm:POwn Wm s'.rv (pre'++o'.toList):=h.sb.own.u tm.u (fun k hk e=>by
  obtain ⟨cs,hc⟩:=h.sb.own.block k hk
  exact (nb 194 (by decide) (by decide)).not_mem hc e)
 have hHm:HeapSt Wm s'.ph hv' bs ps ks L':=by
  refine h.sb.heap.away h.sb.sorter hS rfl tm.u (fun k hk e=>?_) (nb _ (by decide) (by decide)) (nb _ (by decide) (by decide)) (nb _ (by decide) (by decide))
  rcases List.mem_cons.1 hk with rfl | hk
  ·exact (h.sb.heap.notag (t:=260) (by decide) (by decide)).not_mem h.sb.sorter e
  ·rw [List.mem_singleton.1 hk] at e
   exact hBF (by simp [sbF,e])
 have np:∀ t,(302:TypeId)≠t -> (263:TypeId)≠t -> NoTag t Wm (heapF s'.ph hv'):=fun t h1 h2=>hHm.notag h1 h2
 have hS9:SorterAt w9 ps { s' with held:=n }:=hS.u tp.u ((np 260 (by decide) (by decide)).not_mem hS)
 have sb9:SB w9 ps bs { s' with held:=n } hv9 ks L9 bm cols d' M' pre' o':=by
  refine ⟨hS9,hp,?_,fun y hy=>?_,?_,hOm.u tp.u (fun k hk e=>?_)⟩
  ·rw [sizes_perm perm,sizes_snoc,h.sb.held,hn]
  ·rcases List.mem_append.1 (perm.mem_iff.1 hy) with hy | hy
   ·exact h.sb.ents y hy
   ·rw [List.mem_singleton.1 hy]; exact hx
  ·refine hRm.quiet tp (fun k hk e=>?_) (np 5 (by decide) (by decide))
   rcases List.mem_cons.1 hk with rfl | hk
   ·exact (hRm.notag (t:=302) (by decide) (by decide) (by decide)).not_mem hHm.head e
   ·obtain ⟨cs,f,hc⟩:=hHm.items.tag k (by simpa using hk)
    exact (hRm.notag (t:=263) (by decide) (by decide) (by decide)).not_mem hc e
  ·obtain ⟨cs,hc⟩:=hOm.block k hk
   exact (np 194 (by decide) (by decide)).not_mem hc e
 refine ⟨⟨sb9,?_,fun hne=>⟨(h.last hne).1,Sl3.keep (Sl3.keep (h.last hne).2.1 (tm.tag (nb _ (by decide) (by decide)))) (tp.tag (np _ (by decide) (by decide))),(h.last hne).2.2⟩,h.length,h.none,by rw [List.length_append]; exact few,by rw [List.length_append]; exact cnt,h.run,h.many⟩,?_,fun k hk=>?_⟩
 ·refine h.lists.add (items':=L9.map Prod.fst) x.1 ?_ (heap_fst hp.ok) (by simpa using perm.map Prod.fst)
  rw [hrun]
  simp only [ne_eq,List.map_eq_nil_iff]
 ·refine (tm.mono (fun k hk=>?_)).trans (tp.mono (fun k hk=>?_))
  ·simp only [List.mem_cons,List.not_mem_nil,or_false] at hk
   rcases hk with rfl | rfl<;>simp [sbF]
  ·simp [sbF,hk]
 ·simp only [sbF,heapF,List.mem_cons,List.mem_append,Option.mem_toList] at hk ⊢
  rcases hk with hk | ((hk | hk) | hk) | hk
  ·exact .inl (.inl hk)
  ·exact .inl (.inr (.inl (.inl (.inl hk))))
  ·rcases own k hk with h1 | h1
   ·exact .inl (.inr (.inl (.inl (.inr h1))))
   ·exact .inr (Nat.le_trans tm.size h1)
  ·exact .inl (.inr (.inl (.inr hk)))
  ·exact .inl (.inr (.inr hk))
structure AddInv (w:World) (ps bs:Nat) (s:SC) (F:List Nat) (ks:List K) (bm cols:Nat) (rows:List Rec) (m j B:Nat) (an:Int) (ao:Option Addr) (al acap:Nat) (sz:Nat) (row:List V) (wr:World) (s':SC) (hv':Value) (L':List EV) (d':DS) (M':List PF) (pre':List RI) (o':Option RI) (lr':Rec):Prop where
 inv:SpInv w ps bs s F ks bm cols rows m j wr s' hv' L' d' M' pre' o' lr'
 box:EBox wr B an ao al acap 0 (sz:Int)
 far:B∉sbF ps s' hv' bm M' (pre'++o'.toList)
 row:RowAt wr (.slice ao al acap) row
theorem AddInv.quiet0 {w wr wr2:World} {ps bs:Nat} {s s':SC} {F:List Nat} {hv':Value} {ks:List K} {L':List EV} {bm cols:Nat} {d':DS} {M':List PF} {pre':List RI} {o':Option RI} {rows:List Rec} {lr':Rec} {m j B al acap sz:Nat} {an:Int} {ao:Option Addr} {row:List V} (h:AddInv w ps bs s F ks bm cols rows m j B an ao al acap sz row wr s' hv' L' d' M' pre' o' lr') (t:Touch [] wr wr2):AddInv w ps bs s F ks bm cols rows m j B an ao al acap sz row wr2 s' hv' L' d' M' pre' o' lr':=
 ⟨⟨h.inv.st.quiet0 t,h.inv.same,h.inv.left,h.inv.touch.trans (t.mono (by simp)).u,h.inv.sub⟩,t.u.keep h.box (by decide) (by simp),h.far,h.row.touch t⟩
theorem ebox_run {w:World} {B:Nat} {an:Int} {ao:Option Addr} {al acap:Nat} {arun asz:Int} (h:EBox w B an ao al acap arun asz) (r:Int):EBox (w.setCell ⟨B,2,none⟩ (.int .i64 r)) B an ao al acap r asz:=by
 unfold EBox at *
 rw [heap_setCell_same w B 2 _ 263 _ h]
 simp
theorem spSt_setCame {w:World} {ps bs:Nat} {s:SC} {hv:Value} {ks:List K} {L:List EV} {bm cols:Nat} {d:DS} {M:List PF} {pre:List RI} {o:Option RI} {rows:List Rec} {lr:Rec} (h:SpSt w ps bs s hv ks L bm cols d M pre o rows lr) (n:Nat):SpSt (w.setCell ⟨ps,8,none⟩ (.int .i64 (n:Int))) ps bs { s with came:=n } hv ks L bm cols d M pre o rows lr:=by
 have t:Touch [ps] w (w.setCell ⟨ps,8,none⟩ (.int .i64 (n:Int))):=(Touch.refl [ps] w).setCell (p:=⟨ps,8,none⟩) (by simp) _
 exact ⟨h.sb.cells (h.sb.sorter.setCame n) t rfl rfl rfl rfl rfl rfl,h.lists,fun hn=>⟨(h.last hn).1,Sl3.keep (h.last hn).2.1 (t.tag (notag_of h.sb.sorter (by decide))),(h.last hn).2.2⟩,h.length,h.none,h.few,h.count,h.run,h.many⟩
theorem ebox_set {w:World} {B:Nat} {a b c e:Value} (h:w.heap[B]?=some (.cells #[a,b,c,e] 263 (0,0))) (an:Int) (ao:Option Addr) (al acap:Nat) (arun asz:Int):EBox ((((w.setCell ⟨B,0,none⟩ (.int .i64 an)).setCell ⟨B,1,none⟩ (.slice ao al acap)).setCell ⟨B,2,none⟩ (.int .i64 arun)).setCell ⟨B,3,none⟩ (.int .i64 asz)) B an ao al acap arun asz:=by
 have hB:=heap_setCell_same _ B 3 _ 263 (.int .i64 asz) (heap_setCell_same _ B 2 _ 263 (.int .i64 arun) (heap_setCell_same _ B 1 _ 263 (.slice ao al acap) (heap_setCell_same _ B 0 _ 263 (.int .i64 an) h)))
 simp at hB
 exact hB
theorem addInv_spill {w wr:World} {ps bs:Nat} {s s':SC} {F:List Nat} {hv':Value} {ks:List K} {L':List EV} {bm cols:Nat} {d':DS} {M':List PF} {pre':List RI} {o':Option RI} {rows:List Rec} {lr':Rec} {m j B al acap sz:Nat} {an:Int} {ao:Option Addr} {row:List V} (h:AddInv w ps bs s F ks bm cols rows m j B an ao al acap sz row wr s' hv' L' d' M' pre' o' lr') (hL:L'≠[]) :
  Calls Tryz.prog 167 #[.pointer (some ⟨ps,0,none⟩)] wr fun e w'=>e=.returned (.tuple #[]) /\ ∃ s2 hv2 L2 d2 M2 pre2 x2 lr2,AddInv w ps bs s F ks bm cols rows m j B an ao al acap sz row w' s2 hv2 L2 d2 M2 pre2 (some x2) lr2 /\ L2.length+1=L'.length:=by
 obtain ⟨n,hn⟩:∃ n,L'.length=n+1:=by
  cases L' with
  | nil=>exact absurd rfl hL
  | cons a l=>exact ⟨l.length,rfl⟩
 have hl:=h.inv.left
 refine (spill_any wr ps bs s' hv' ks L' bm cols d' M' pre' o' rows lr' (2 * n+m) (n+j) h.inv.st hL (hl.mono (by omega) (by omega))).mono ?_
 rintro e w' ⟨rfl,s2,hv2,L2,d2,M2,pre2,x2,lr2,p1,p2,p3,p4,p5,p6⟩
 have:L2.length=n:=by omega
 subst this
 have hBl:B < wr.heap.size:=(Array.getElem?_eq_some_iff.1 h.box).1
 refine ⟨rfl,s2,hv2,L2,d2,M2,pre2,x2,lr2,⟨⟨p1,h.inv.same.trans p2,p4,h.inv.touch.onto p5 h.inv.sub,h.inv.sub.trans p6 h.inv.touch.size⟩,p5.keep h.box (by decide) h.far,fun e=>?_,Sl3.keep h.row (p5.tag (by decide) (h.inv.st.sb.notag (by decide) (by decide) (by decide) (by decide) (by decide) (by decide) (by decide)))⟩,p3⟩
 rcases p6 B e with h1 | h1
 ·exact h.far h1
 ·omega
theorem SB.keys {w:World} {ps bs:Nat} {s:SC} {hv:Value} {ks:List K} {L:List EV} {bm cols:Nat} {d:DS} {M:List PF} {pre:List RI} {o:Option RI} (h:SB w ps bs s hv ks L bm cols d M pre o):KeysAt w s.kv ks:=by
 obtain ⟨cs,f,vk,k1,k2,k3⟩:=h.heap.ctx.keys
 have hs:=h.sorter
 unfold SorterAt at hs
 rw [hs] at k1
 simp only [Option.some.injEq,Obj.cells.injEq] at k1
 rw [<- k1.1] at k2
 simp [SC.cells] at k2
 rw [k2]
 exact k3
theorem spAhead_any {w W:World} {ps bs:Nat} {s:SC} {hv:Value} {ks:List K} {L:List EV} {bm cols:Nat} {d:DS} {M:List PF} {pre:List RI} {o:Option RI} {rows:List Rec} {lr:Rec} {v:Value} {F:List Nat} (a:Rec) (h:SpSt w ps bs s hv ks L bm cols d M pre o rows lr) (hne:pre++o.toList≠[]) (ha:RowAt w v a.row) (fa:Able ks a.row) (t:Touch F w W) (hps:ps∉F) (n1:NoTag 73 w F) (n2:NoTag 85 w F) :
  Calls Tryz.prog 165 #[.pointer (some ⟨ps,0,none⟩),.agg #[.int .i64 a.no,v],.agg #[.int .i64 s.lno,s.lv]] W fun e w'=>e=.returned (.bool (aheadB ks a lr)) /\ Touch [] W w':=by
 obtain ⟨l1,l2,l3⟩:=h.last hne
 have:=ahead_any W ps v s.lv s.kv a lr ks (h.sb.sorter.u t.u hps).cell.2.2.1 (Sl3.keep ha (t.tag n2)) (Sl3.keep l2 (t.tag n2)) (Sl3.keep h.sb.keys (t.tag n1)) fa l3
 rw [l1] at this
 exact this
theorem sorterAdd_any (w:World) (ps bs:Nat) (s:SC) (hv:Value) (ks:List K) (L:List EV) (bm cols:Nat) (d:DS) (M:List PF) (pre:List RI) (o:Option RI) (rows:List Rec) (lr:Rec) (m j:Nat) (v:Value) (row:List V) (h:SpSt w ps bs s hv ks L bm cols d M pre o rows lr) (hl:Left d (2 * L.length+(m+2)) (L.length+(j+1))) (hcame:s.came=rows.length) (hrow:RowAt w v row) (hrec:RecOK s.blk cols ⟨rows.length,row⟩) (hable:Able ks row) (few:rows.length+1 <= 100000) (cnt:rows.length+1 <= s.count) (hmost:s.blk <= s.most) :
  Calls Tryz.prog 135 #[.pointer (some ⟨ps,0,none⟩),v] w fun e w'=>e=.returned (.tuple #[]) /\ ∃ s' hv' L' d' M' pre' o' lr',SpSt w' ps bs s' hv' ks L' bm cols d' M' pre' o' (rows++[⟨rows.length,row⟩]) lr' /\ Same { s with came:=rows.length+1 } s' /\ Left d' (2 * L'.length+m) (L'.length+j) /\ TouchU (sbF ps s hv bm M (pre++o.toList)) w w' /\ Sub w (sbF ps s' hv' bm M' (pre'++o'.toList)) (sbF ps s hv bm M (pre++o.toList)):=by
 have HSZ:Hid (∀ W,Touch [] w W -> Calls Tryz.prog 141 #[v] W fun e w'=>e=.returned (.int .i64 (sizeR row:Int)) /\ Touch [] W w'):=fun W hW=>size_any W v row (hrow.touch hW) hrec.fair (by have h1:=hrec.len; have h2:=h.sb.runs.c2; have h3:row.length=cols:=h1; omega)
 obtain ⟨ao,acap,ea⟩:=hrow.shape
 have HS:Hid (SpSt w ps bs s hv ks L bm cols d M pre o rows lr /\ Left d (2 * L.length+(m+2)) (L.length+(j+1)) /\ RowAt w v row /\ RecOK s.blk cols ⟨rows.length,row⟩ /\ Able ks row /\ rows.length+1 <= s.count):=⟨h,hl,hrow,hrec,hable,cnt⟩
 obtain ⟨c0,c1,c2,c3,c4,c5,c6,c7,c8,c9,c10,c11,c12,c13,c14,c15,cf⟩:=h.sb.sorter.cell
 have hps:ps < w.heap.size:=(Array.getElem?_eq_some_iff.1 h.sb.sorter).1
 have hszb:sizeR row <= 4096 /\ sizeR row <= s.most:=by have h1:=hrec.size; have h2:=h.sb.runs.b2; have h3:16+sizeR row <= s.blk:=h1; omega
 obtain ⟨hsz1,hsz2⟩:=hszb
 have f8:=cf 8
 have HCA0:Hid (s.came=rows.length):=hcame
 rw [hcame] at c8
 clear h hl hrow hrec hable cnt cf hcame
 subst ea
 generalize hal:row.length=al at *
 have HAL:Hid (row.length=al):=hal
 clear hal
 generalize hsz:sizeR row=sz at *
 have HZ:Hid (sizeR row=sz):=hsz
 clear hsz
 generalize hn:rows.length=n at *
 have HN:Hid (rows.length=n):=hn
 have HCA:Hid ((s.came:Int)=(n:Int)):=by have:=HCA0.out; show (s.came:Int)=n; omega
 clear hn HCA0
 go_enter Tryz.func135,Tryz.ntmps135
 go_wp2
 go_cut [4] from 5 (fun a wx=>∃ B,a=.pointer (some ⟨B,0,none⟩) /\ EBox wx B (n:Int) ao al acap 0 (sz:Int) /\ Touch [] w wx /\ w.heap.size <= B)
 case first=>
  have HC8:Hid (∀ W,Touch [] w W -> W.cell? ⟨ps,8,none⟩=some (.int .i64 (n:Int))):=fun W hW=>cell_touch c8 hW
  have hne1:w.heap.size≠ps:=by omega
  have hne2:ps≠w.heap.size:=by omega
  go_region_held3 (fun w'=>w'.cell? ⟨ps,8,none⟩=some (.int .i64 (n:Int))) (go_keep) (first | (go_at_call 141; refine (HSZ.out _ ((Touch.refl [] _).drew)).mono ?_; rintro e w1 ⟨rfl,hT1⟩; have b8:=HC8.out w1 (((Touch.refl [] _).drew).trans hT1); have HT1:Hid (Touch [] w w1):=(((Touch.refl [] _).drew).trans hT1); clear hT1) | (go_at_call 141; refine (HSZ.out _ (((Touch.refl [] _).alloc _).drew)).mono ?_; rintro e w1 ⟨rfl,hT1⟩; have b8:=HC8.out w1 ((((Touch.refl [] _).alloc _).drew).trans hT1); have HT1:Hid (Touch [] w w1):=((((Touch.refl [] _).alloc _).drew).trans hT1); have hbx:w1.heap[w.heap.size]?=some (.cells #[.int .i64 0,.slice none 0 0,.int .i64 0,.int .i64 0] 263 (0,0)):=(hT1.block w.heap.size (by simp) (by simp)).trans (heap_alloc_new w _); obtain ⟨x0,x1,x2,x3⟩:=box4 hbx; have z0:w1.frozen? ⟨w.heap.size,0,none⟩=false:=(by simp [World.frozen?,hbx]); have z1:w1.frozen? ⟨w.heap.size,1,none⟩=false:=(by simp [World.frozen?,hbx]); have z2:w1.frozen? ⟨w.heap.size,2,none⟩=false:=(by simp [World.frozen?,hbx]); have z3:w1.frozen? ⟨w.heap.size,3,none⟩=false:=(by simp [World.frozen?,hbx]); have HBX:Hid _:=hbx; clear hT1 hbx))
  all_goals
   go_wp2_with fail
   go_meet
   case rel=>first | exact ⟨_,rfl,heap_alloc_new w1 _,HT1.out.alloc _,HT1.out.size⟩ | exact ⟨_,rfl,ebox_set HBX.out _ _ _ _ _ _,HT1.out.onto (((((Touch.refl [w.heap.size] w1).setCell (p:=⟨w.heap.size,0,none⟩) (by simp) _).setCell (p:=⟨w.heap.size,1,none⟩) (by simp) _).setCell (p:=⟨w.heap.size,2,none⟩) (by simp) _).setCell (p:=⟨w.heap.size,3,none⟩) (by simp) _) (fun i hi=>.inr (by simp at hi; omega)),Nat.le_refl _⟩
 case rest=>
  obtain ⟨B,rfl,hbox,hT0,hBn⟩:=hcut
  have hSw:=HS.out.1.quiet0 hT0
  clear c0 c1 c2 c3 c4 c5 c6 c7 c8 c9 c10 c11 c12 c13 c14 c15 f8
  obtain ⟨c0,c1,c2,c3,c4,c5,c6,c7,c8,c9,c10,c11,c12,c13,c14,c15,cf⟩:=hSw.sb.sorter.cell
  have f8:=cf 8
  have c8':wc.cell? ⟨ps,8,none⟩=some (.int .i64 (n:Int)):=by rw [c8,HCA.out]
  have hBF:B∉sbF ps s hv bm M (pre++o.toList):=fun e=>by have:=HS.out.1.sb.lt B e; omega
  have hBp:B≠ps:=fun e=>hBF (by simp [sbF,e])
  have t8:Touch [ps] wc (wc.setCell ⟨ps,8,none⟩ (.int .i64 ((n+1:Nat):Int))):=(Touch.refl [ps] wc).setCell (p:=⟨ps,8,none⟩) (by simp) _
  have H0:Hid (AddInv (wc.setCell ⟨ps,8,none⟩ (.int .i64 ((n+1:Nat):Int))) ps bs { s with came:=n+1 } (sbF ps s hv bm M (pre++o.toList)) ks bm cols rows (m+2) (j+1) B n ao al acap sz row (wc.setCell ⟨ps,8,none⟩ (.int .i64 ((n+1:Nat):Int))) { s with came:=n+1 } hv L d M pre o lr):=
   ⟨⟨spSt_setCame hSw (n+1),Same.refl _,HS.out.2.1,TouchU.refl _ _,Sub.refl _ _⟩,t8.u.keep hbox (by decide) (by simpa using hBp),hBF,Sl3.keep (HS.out.2.2.1.touch hT0) (t8.tag (notag_of hSw.sb.sorter (by decide)))⟩
  have HT8:Hid (TouchU (sbF ps s hv bm M (pre++o.toList)) w (wc.setCell ⟨ps,8,none⟩ (.int .i64 ((n+1:Nat):Int)))):=((hT0.mono (by simp)).trans (t8.mono (by simp [sbF]))).u
  have hw0:IntKind.i64.wrap ((n:Int)+1)=(n:Int)+1:=wrap_small _ (by omega) (by omega)
  clear c8 cf hSw hbox t8
  go_wp2
  go_loopg [] (L.length) (fun g wr=>∃ s' hv' L' d' M' pre' o' lr',AddInv (wc.setCell ⟨ps,8,none⟩ (.int .i64 ((n+1:Nat):Int))) ps bs { s with came:=n+1 } (sbF ps s hv bm M (pre++o.toList)) ks bm cols rows (m+2) (j+1) B n ao al acap sz row wr s' hv' L' d' M' pre' o' lr' /\ L'.length=g)
  case atStart=>exact ⟨_,_,_,_,_,_,_,_,H0.out,rfl⟩
  case round=>
   clear H0 c0 c1 c2 c3 c4 c5 c6 c7 c8' c9 c10 c11 c12 c13 c14 c15 f8
   obtain ⟨s',hv',L',d',M',pre',o',lr',hI,hg⟩:=hrel
   have HI:Hid (AddInv (wc.setCell ⟨ps,8,none⟩ (.int .i64 ((n+1:Nat):Int))) ps bs { s with came:=n+1 } (sbF ps s hv bm M (pre++o.toList)) ks bm cols rows (m+2) (j+1) B n ao al acap sz row wr s' hv' L' d' M' pre' o' lr' /\ L'.length=gk):=⟨hI,hg⟩
   obtain ⟨c0,c1,c2,c3,c4,c5,c6,c7,c8,c9,c10,c11,c12,c13,c14,c15,cf⟩:=hI.inv.st.sb.sorter.cell
   obtain ⟨x0,x1,x2,x3⟩:=box4 hI.box
   have hL':L'.length <= 100000:=by
    have h1:=hI.inv.st.lists.perm.length_eq
    simp only [List.length_append,List.length_map] at h1
    have h2:=hI.inv.st.few
    omega
   have hheld:s'.held <= 1000000000:=(hI.inv.st.sb.small hL').1
   have hpsr:ps < wr.heap.size:=(Array.getElem?_eq_some_iff.1 hI.inv.st.sb.sorter).1
   have hm2:sz <= s'.most:=by have h1:s'.most=s.most:=hI.inv.same.most; omega
   have hw1:IntKind.i64.wrap ((s'.held:Int)+(sz:Int))=(s'.held:Int)+(sz:Int):=wrap_small _ (by omega) (by omega)
   have HB0:Hid (0 <= s'.run /\ s'.run <= 1000000000):=by
    have h1:=hI.inv.st.run
    have h2:=hI.inv.left.last
    exact ⟨h1.1,by omega⟩
   by_cases ht:(s'.most:Int) < (s'.held:Int)+(sz:Int)
   ·have hL:L'≠[]:=fun e=>by
     have h1:=hI.inv.st.sb.held
     rw [e] at h1
     simp [sizes] at h1
     omega
    have HSP':Hid (∀ W,Touch [] wr W -> Calls Tryz.prog 167 #[.pointer (some ⟨ps,0,none⟩)] W fun e w'=>e=.returned (.tuple #[]) /\ ∃ s2 hv2 L2 d2 M2 pre2 x2 lr2,AddInv (wc.setCell ⟨ps,8,none⟩ (.int .i64 ((n+1:Nat):Int))) ps bs { s with came:=n+1 } (sbF ps s hv bm M (pre++o.toList)) ks bm cols rows (m+2) (j+1) B n ao al acap sz row w' s2 hv2 L2 d2 M2 pre2 (some x2) lr2 /\ L2.length+1=L'.length):=fun W hW=>
     addInv_spill (hI.quiet0 hW) hL
    clear hI hg cf
    go_wp2
    go_big_quiet (fail)
    go_wp2_with (go_at_call 167; refine (HSP'.out _ ((Touch.refl [] _).drewN _)).mono ?_; rintro e w2 ⟨rfl,s2,hv2,L2,d2,M2,pre2,x2,lr2,q1,q2⟩; have HQ1:Hid _:=q1; clear q1)
    go_roundg (gk - 1)
    case measure=>have:=HI.out.2; omega
    case rel=>exact ⟨s2,hv2,L2,d2,M2,pre2,some x2,lr2,HQ1.out,by have:=HI.out.2; omega⟩
   ·have fB:=(show wr.frozen? ⟨B,2,none⟩=false by have:=hI.box; unfold EBox at this; simp [World.frozen?,this])
    have hrv:∃ vo cap,s'.rv=.slice vo (pre'++o'.toList).length cap:=by
     rcases hI.inv.st.sb.own.shape with ⟨e1,e2⟩ | ⟨g,cap,cur,e,_⟩
     ·exact ⟨none,0,by rw [e1,e2]; rfl⟩
     ·exact ⟨_,cap,e⟩
    obtain ⟨vo,vcap,hrv⟩:=hrv
    rw [hrv] at c13
    generalize hq:(pre'++o'.toList).length=q at *
    have HQ:Hid ((pre'++o'.toList).length=q):=hq
    have HRV:Hid (s'.rv=.slice vo q vcap):=hrv
    clear hI hg cf hq hrv
    go_wp2
    go_big_quiet (fail)
    go_wp2
    have hBr:B < wr.heap.size:=lt_of_cell x0
    generalize hahd:aheadB ks ⟨(n:Int),row⟩ lr'=ahd at *
    have HAHD:Hid (aheadB ks ⟨(n:Int),row⟩ lr'=ahd):=hahd
    clear hahd
    have hlv:∃ lv,s'.lv=lv:=⟨_,rfl⟩
    go_cut [55] from 40 (fun b wx=>b=.bool (decide (q≠0) && ahd) /\ Touch [B] wr wx /\ EBox wx B n ao al acap s'.run sz)
    case first=>
     have hB4:EBox ((wr.drewN nq).setCell ⟨B,2,none⟩ (.int .i64 s'.run)) B n ao al acap s'.run sz:=ebox_run (w:=wr.drewN nq) HI.out.1.box s'.run
     have T4:Touch [B] wr ((wr.drewN nq).setCell ⟨B,2,none⟩ (.int .i64 s'.run)):=((Touch.refl [B] wr).drewN nq).setCell (p:=⟨B,2,none⟩) (by simp) _
     have HB4:Hid _:=hB4
     have HT4:Hid _:=T4
     by_cases hq0:q=0
     ·subst hq0
      clear hB4 T4
      go_big_quiet (fail)
      go_wp2
      go_meet
      case rel=>exact ⟨by simp,HT4.out.drewN _,HB4.out⟩
     ·have b1:(0:Int) < (q:Int):=by omega
      have b2:0 < q:=by omega
      have b3:decide (0 < q)=true:=by simpa using b2
      have b4:decide ((0:Int) < (q:Int))=true:=by simpa using b2
      obtain ⟨y0,y1,y2,y3⟩:=box4 hB4
      have HAH:Hid (∀ W,Touch [] ((wr.drewN nq).setCell ⟨B,2,none⟩ (.int .i64 s'.run)) W -> Calls Tryz.prog 165 #[.pointer (some ⟨ps,0,none⟩),.agg #[.int .i64 (n:Int),.slice ao al acap],.agg #[.int .i64 s'.lno,s'.lv]] W fun e w'=>e=.returned (.bool ahd) /\ Touch [] W w'):=fun W hW=>by
       have nb:∀ t,(263:TypeId)≠t -> NoTag t wr [B]:=fun t ht=>notag_of HI.out.1.box ht
       have:=spAhead_any (W:=W) ⟨(n:Int),row⟩ HI.out.1.inv.st (fun e=>hq0 (by rw [<- HQ.out,e]; rfl)) HI.out.1.row HS.out.2.2.2.2.1 (HT4.out.trans (hW.mono (by simp))) (by simpa using hBp.symm) (nb _ (by decide)) (nb _ (by decide))
       rw [HAHD.out] at this
       exact this
      have HAF:Hid (∀ W,Touch [] ((wr.drewN nq).setCell ⟨B,2,none⟩ (.int .i64 s'.run)) W -> W.cell? ⟨ps,13,none⟩=some (.slice vo q vcap) /\ W.cell? ⟨ps,11,none⟩=some (.int .i64 s'.lno) /\ W.cell? ⟨ps,12,none⟩=some s'.lv /\ W.cell? ⟨B,0,none⟩=some (.int .i64 (n:Int)) /\ W.cell? ⟨B,1,none⟩=some (.slice ao al acap)):=fun W hW=>
       ⟨cell_touchF c13 (HT4.out.trans (hW.mono (by simp))) (by simpa using hBp.symm),cell_touchF c11 (HT4.out.trans (hW.mono (by simp))) (by simpa using hBp.symm),cell_touchF c12 (HT4.out.trans (hW.mono (by simp))) (by simpa using hBp.symm),cell_touch y0 hW,cell_touch y1 hW⟩
      obtain ⟨k1,k2,k3,k4,k5⟩:=HAF.out _ (Touch.refl _ _)
      clear hB4 T4
      go_region_held3 (fun w'=>w'.cell? ⟨ps,13,none⟩=some (.slice vo q vcap) /\ w'.cell? ⟨ps,11,none⟩=some (.int .i64 s'.lno) /\ w'.cell? ⟨ps,12,none⟩=some s'.lv /\ w'.cell? ⟨B,0,none⟩=some (.int .i64 (n:Int)) /\ w'.cell? ⟨B,1,none⟩=some (.slice ao al acap)) (go_keep) (first | (go_at_call 165; refine (HAH.out _ ((Touch.refl [] _).drew)).mono ?_; rintro e w5 ⟨rfl,hT5⟩; obtain ⟨r1,r2,r3,r4,r5⟩:=HAF.out w5 (((Touch.refl [] _).drew).trans hT5); have HT5:Hid (Touch [] ((wr.drewN nq).setCell ⟨B,2,none⟩ (.int .i64 s'.run)) w5):=((Touch.refl [] _).drew).trans hT5; clear hT5))
      all_goals
       go_wp2_with fail
       go_meet
       case rel=>exact ⟨by simp [hq0],HT4.out.trans (HT5.out.mono (by simp)),HT5.out.u.keep HB4.out (by decide) (by simp)⟩
    case rest=>
     obtain ⟨rfl,hT5,hB5⟩:=hcut
     generalize hcc:(decide (q≠0) && ahd)=cc at *
     have HCC:Hid ((decide (q≠0) && ahd)=cc):=hcc
     clear hcc
     obtain ⟨y0,y1,y2,y3⟩:=box4 hB5
     have fB5:wc.frozen? ⟨B,2,none⟩=false:=by unfold EBox at hB5; simp [World.frozen?,hB5]
     have HT5:Hid _:=hT5
     have HB5:Hid _:=hB5
     have hrb:=HB0.out
     obtain ⟨hr0,hr1⟩:=hrb
     have hw5:IntKind.i64.wrap (s'.run+1)=s'.run+1:=wrap_small _ (by omega) (by omega)
     clear c0 c1 c2 c3 c4 c5 c6 c7 c8 c9 c10 c11 c12 c13 c14 c15 x0 x1 x2 x3 hT5 hB5
     go_upto_if 55 with fail
     go_cut [] from 55 (fun wx=>Touch [B] wr wx /\ EBox wx B n ao al acap (if cc=true then s'.run+1 else s'.run) sz)
     case first=>
      cases cc with
      | true=>
       go_wp2
       go_meet
       case rel=>exact ⟨HT5.out.setCell (p:=⟨B,2,none⟩) (by simp) _,ebox_run HB5.out (s'.run+1)⟩
      | false=>
       go_wp2
       go_meet
       case rel=>exact ⟨HT5.out,HB5.out⟩
     case rest=>
      obtain ⟨hT6,hB6⟩:=hcut
      have HRN:Hid (∃ r:Int,(if cc=true then s'.run+1 else s'.run)=r /\ r=if pre'++o'.toList≠[] /\ aheadB ks ⟨(n:Int),row⟩ lr'=true then s'.run+1 else s'.run):=by
       refine ⟨_,rfl,?_⟩
       rw [HAHD.out,<- HCC.out]
       have hqe:(q≠0)↔(pre'++o'.toList≠[]):=by
        rw [<- HQ.out]
        exact ⟨fun h e=>h (by rw [e]; rfl),fun h e=>h (List.length_eq_zero_iff.1 e)⟩
       simp only [Bool.and_eq_true,decide_eq_true_eq,hqe]
      obtain ⟨r,hre,hrr⟩:=HRN.out
      rw [hre] at hB6
      have HR:Hid (r=if pre'++o'.toList≠[] /\ aheadB ks ⟨(n:Int),row⟩ lr'=true then s'.run+1 else s'.run):=hrr
      clear hre hrr HRN y0 y1 y2 y3 fB5
      have hS6:SorterAt wc ps s':=HI.out.1.inv.st.sb.sorter.u hT6.u (by simpa using hBp.symm)
      obtain ⟨c0,c1,c2,c3,c4,c5,c6,c7,c8,c9,c10,c11,c12,c13,c14,c15,cf⟩:=hS6.cell
      obtain ⟨y0,y1,y2,y3⟩:=box4 hB6
      have f7:=cf 7
      have hBp2:ps≠B:=hBp.symm
      obtain ⟨nh,hnh⟩:∃ nh:Nat,(s'.held:Int)+(sz:Int)=(nh:Int):=⟨s'.held+sz,by omega⟩
      have HNH:Hid ((s'.held:Int)+(sz:Int)=(nh:Int)):=hnh
      have HM:Hid (SorterAt (wc.setCell ⟨ps,7,none⟩ (.int .i64 (nh:Int))) ps { s' with held:=nh } /\ Touch [ps,B] wr (wc.setCell ⟨ps,7,none⟩ (.int .i64 (nh:Int))) /\ EBox (wc.setCell ⟨ps,7,none⟩ (.int .i64 (nh:Int))) B n ao al acap r sz):=by
       have t7:Touch [ps] wc (wc.setCell ⟨ps,7,none⟩ (.int .i64 (nh:Int))):=(Touch.refl [ps] wc).setCell (p:=⟨ps,7,none⟩) (by simp) _
       exact ⟨hS6.held nh,(hT6.mono (by simp)).trans (t7.mono (by simp)),t7.u.keep hB6 (by decide) (by simpa using hBp)⟩
      have HPUSH:Hid (∀ W,Touch [] (wc.setCell ⟨ps,7,none⟩ (.int .i64 (nh:Int))) W -> Calls Tryz.prog 168 #[.pointer (some ⟨s'.ph,0,none⟩),.agg #[.int .i64 (n:Int),.slice ao al acap,.int .i64 r,.int .i64 (sz:Int)]] W fun e w'=>e=.returned (.tuple #[]) /\ ∃ hv9 L9,SpSt w' ps bs { s' with held:=nh } hv9 ks L9 bm cols d' M' pre' o' (rows++[⟨(n:Int),row⟩]) lr' /\ L9.length=L'.length+1 /\ Touch (sbF ps s' hv' bm M' (pre'++o'.toList)++[B]) wr w' /\ Sub wr (sbF ps { s' with held:=nh } hv9 bm M' (pre'++o'.toList)) (sbF ps s' hv' bm M' (pre'++o'.toList)) /\ (∃ cs f,w'.heap[ps]?=some (.cells cs 260 f) /\ cs[6]?=some (.pointer (some ⟨s'.ph,0,none⟩))) /\ EBox w' B n ao al acap r sz):=fun W hW=>by
       obtain ⟨hA,hF⟩:=HI.out
       obtain ⟨m1,m2,m3⟩:=HM.out
       have hSW:SorterAt W ps { s' with held:=nh }:=m1.u hW.u (by simp)
       have tW:Touch [ps,B] wr W:=m2.trans (hW.mono (by simp))
       have nb:∀ t,(260:TypeId)≠t -> (263:TypeId)≠t -> NoTag t wr [ps,B]:=fun t h1 h2=>(notag_of hA.box h2).cons hA.inv.st.sb.sorter h1
       have hHW:HeapSt W s'.ph hv' bs ps ks L':=by
        refine hA.inv.st.sb.heap.away hA.inv.st.sb.sorter hSW rfl tW.u (fun k hk e=>?_) (nb _ (by decide) (by decide)) (nb _ (by decide) (by decide)) (nb _ (by decide) (by decide))
        rcases List.mem_cons.1 hk with rfl | hk
        ·exact (hA.inv.st.sb.heap.notag (t:=260) (by decide) (by decide)).not_mem hA.inv.st.sb.sorter e
        ·rw [List.mem_singleton.1 hk] at e
         exact hA.far (by simp [sbF,e])
       refine (push_any W s'.ph hv' bs ps ks L' (⟨⟨(n:Int),row⟩,r,(sz:Int)⟩,.slice ao al acap) hHW ⟨Sl3.keep hA.row (tW.tag (nb _ (by decide) (by decide))),HS.out.2.2.2.2.1⟩ (by omega)).mono ?_
       rintro e w9 ⟨rfl,hv9,L9,p1,p2,p3,p4⟩
       have hblk:s'.blk=s.blk:=hA.inv.same.blk
       have hcnt:s'.count=s.count:=hA.inv.same.count
       obtain ⟨e1,e2,e3⟩:=addEnd hA.inv.st hSW hA.box hA.far tW p1 p2 p3 p4 (by have:=HNH.out; show (nh:Int)=(s'.held:Int)+(sz:Int); omega) ⟨by show (sz:Int)=_; rw [<- HZ.out],by rw [hblk]; exact HS.out.2.2.2.1⟩ HR.out (by rw [HN.out]; exact few) (by rw [HN.out,hcnt]; exact HS.out.2.2.2.2.2)
       refine ⟨rfl,hv9,L9,e1,by have:=p2.length_eq; simpa using this,e2,e3,⟨_,_,e1.sb.sorter,by simp [SC.cells]⟩,?_⟩
       refine p3.u.keep (hW.u.keep m3 (by decide) (by simp)) (by decide) (fun e=>hA.far ?_)
       simp [sbF,e]
      clear cf hT6 hB6 hS6
      rw [hnh] at hw1
      go_wp2
      go_region
      go_wp2
      obtain ⟨v0,v1,v2,v3⟩:=box4 HM.out.2.2
      have v6:=HM.out.1.cell.2.2.2.2.2.2.1
      go_region_held3 (fun w'=>w'.cell? ⟨ps,6,none⟩=some (.pointer (some ⟨s'.ph,0,none⟩)) /\ w'.cell? ⟨B,0,none⟩=some (.int .i64 (n:Int)) /\ w'.cell? ⟨B,1,none⟩=some (.slice ao al acap) /\ w'.cell? ⟨B,2,none⟩=some (.int .i64 r) /\ w'.cell? ⟨B,3,none⟩=some (.int .i64 (sz:Int))) (go_keep) (first | (go_at_call 168; refine (HPUSH.out _ (by first | exact ((Touch.refl [] _).drew).drew | exact (Touch.refl [] _).drew | exact ((Touch.refl [] _).drewN _).drew)).mono ?_; rintro e w9 ⟨rfl,hv9,L9,q1,q2,q3,q4,⟨qc,qf,q5,q6⟩,q7⟩; obtain ⟨g0,g1,g2,g3⟩:=box4 q7; have g6:w9.cell? ⟨ps,6,none⟩=some (.pointer (some ⟨s'.ph,0,none⟩)):=(by simp [World.cell?,q5,q6]); have HQ1:Hid _:=q1; have HQ2:Hid (L9.length=L'.length+1):=q2; have HQ3:Hid _:=q3; clear q1 q2 q3 q5 q6 q7))
      all_goals
       go_wp2
       go_end0
       obtain ⟨hA,hF⟩:=HI.out
       have hsm:=hA.inv.same
       have hl:=hA.inv.left
       have h2:=HQ2.out
       refine ⟨rfl,_,hv9,L9,d',M',pre',o',lr',HQ1.out,⟨hsm.bx,hsm.blk,hsm.kv,hsm.count,hsm.most,hsm.fan,hsm.ph,hsm.came,hsm.mg,hsm.given⟩,hl.mono (by omega) (by omega),?_,?_⟩
       ·refine (HT8.out.onto hA.inv.touch (fun k hk=>.inl hk)).onto HQ3.out.u (fun k hk=>?_)
        rcases List.mem_append.1 hk with hk | hk
        ·rcases hA.inv.sub k hk with h | h
         ·exact .inl h
         ·exact .inr (Nat.le_trans HT8.out.size h)
        ·exact .inr (by rw [List.mem_singleton.1 hk]; exact hBn)
       ·have h3:=hA.inv.sub.trans q4 hA.inv.touch.size
        intro k hk
        rcases h3 k hk with h | h
        ·exact .inl h
        ·exact .inr (Nat.le_trans HT8.out.size h)
theorem heapsNew_any (w:World) (bs:Nat):Calls Tryz.prog 163 #[.func (.func 164) #[] #[.pointer (some ⟨bs,0,none⟩)]] w fun e w'=>e=.returned (.pointer (some ⟨w.heap.size,0,none⟩)) /\ HeadAt w' w.heap.size (.slice none 0 0) bs /\ w.heap.size < w'.heap.size /\ Touch [] w w':=by
 go_enter Tryz.func163,Tryz.ntmps163
 go_wp2
 go_ret
 exact ⟨rfl,heap_alloc_new w _,by simp,(Touch.refl _ _).alloc _⟩
def SC.new (bx blk fan bud count:Nat) (kv:Value) (ph:Nat):SC:=⟨bx,blk,kv,count,bud / 2,min fan (bud / 2 / blk),ph,0,0,0,0,0,.slice none 0 0,.slice none 0 0,.pointer none,0⟩
def rawSorter (bx:Nat) (blk fan bud count:Nat) (kv:Value):Array Value:=#[.pointer (some ⟨bx,0,none⟩),.int .i64 (blk:Int),kv,.int .i64 (count:Int),.int .i64 ((bud:Int) / 2),.int .i64 (min (fan:Int) ((bud:Int) / 2 / (blk:Int))),.pointer none,.int .i64 0,.int .i64 0,.int .i64 0,.int .i64 0,.int .i64 0,.slice none 0 0,.slice none 0 0,.pointer none,.int .i64 0]
theorem raw_set {w:World} {ps bx blk fan bud count ph:Nat} {kv:Value} (h:w.heap[ps]?=some (.cells (rawSorter bx blk fan bud count kv) 260 (0,0))):SorterAt (w.setCell ⟨ps,6,none⟩ (.pointer (some ⟨ph,0,none⟩))) ps (SC.new bx blk fan bud count kv ph):=by
 unfold SorterAt
 rw [heap_setCell_same w ps 6 _ 260 _ h]
 have e1:((bud / 2:Nat):Int)=(bud:Int) / 2:=by omega
 have e2:((bud / 2 / blk:Nat):Int)=(bud:Int) / 2 / (blk:Int):=by rw [Int.natCast_ediv,e1]
 have e3:((min fan (bud / 2 / blk):Nat):Int)=min (fan:Int) ((bud:Int) / 2 / (blk:Int)):=by rw [<- e2]; omega
 simp only [rawSorter,SC.cells,SC.new,e1,e3]
 simp
theorem raw_cells {w:World} {ps bx blk fan bud count:Nat} {kv:Value} (h:w.heap[ps]?=some (.cells (rawSorter bx blk fan bud count kv) 260 (0,0))):w.cell? ⟨ps,6,none⟩=some (.pointer none) /\ w.frozen? ⟨ps,6,none⟩=false:=by
 constructor
 ·simp [World.cell?,h,rawSorter]
 ·simp [World.frozen?,h]
theorem alloc3 (w:World) (a b c:Obj):(((w.alloc a).alloc b).alloc c).heap[w.heap.size+1]?=some b /\ (((w.alloc a).alloc b).alloc c).heap[w.heap.size+1+1]?=some c:=by
 have h1:(w.alloc a).heap.size=w.heap.size+1:=by simp
 have h2:((w.alloc a).alloc b).heap.size=w.heap.size+1+1:=by simp
 constructor
 ·rw [Below.heap_alloc _ _ _ (by rw [h2]; omega),<- h1]
  exact heap_alloc_new _ _
 ·rw [<- h2]
  exact heap_alloc_new _ _
theorem sorterNew_any (w:World) (bx blk fan bud count:Nat) (kv:Value) (hb:1 <= blk) (hbud:bud <= 9223372036854775807) (hkv:∃ o n c,kv=.slice o n c) :
  Calls Tryz.prog 133 #[.agg #[.int .i64 (blk:Int),.int .i64 (fan:Int),.int .i64 (bud:Int)],.pointer (some ⟨bx,0,none⟩),kv,.int .i64 (count:Int)] w fun e w'=>∃ ps bs ph,e=.returned (.pointer (some ⟨ps,0,none⟩)) /\ w.heap.size <= ps /\ w.heap.size <= bs /\ w.heap.size <= ph /\
   SorterAt w' ps (SC.new bx blk fan bud count kv ph) /\ HeadAt w' ph (.slice none 0 0) bs /\ w'.heap[bs]?=some (.cells #[.pointer (some ⟨ps,0,none⟩)] 228 (0,0)) /\ Touch [] w w':=by
 obtain ⟨ko,kn,kc,rfl⟩:=hkv
 have HN:Hid (∀ W bs,Calls Tryz.prog 163 #[.func (.func 164) #[] #[.pointer (some ⟨bs,0,none⟩)]] W fun e w'=>e=.returned (.pointer (some ⟨W.heap.size,0,none⟩)) /\ HeadAt w' W.heap.size (.slice none 0 0) bs /\ W.heap.size < w'.heap.size /\ Touch [] W w'):=heapsNew_any
 have hd1:(0:Int) <= (bud:Int) / 2 /\ (bud:Int) / 2 <= 9223372036854775807:=by omega
 have hd2:(0:Int) <= (bud:Int) / 2 / (blk:Int) /\ (bud:Int) / 2 / (blk:Int) <= 9223372036854775807:=by
  refine ⟨Int.ediv_nonneg hd1.1 (by omega),Int.le_trans (Int.ediv_le_self _ hd1.1) hd1.2⟩
 have w1:wrap64 ((bud:Int) / 2)=(bud:Int) / 2:=by unfold wrap64; omega
 have w2:wrap64 ((bud:Int) / 2 / (blk:Int))=(bud:Int) / 2 / (blk:Int):=by generalize (bud:Int) / 2 / (blk:Int)=z at *; unfold wrap64; omega
 have hb0:¬ (blk:Int)=0:=by omega
 have hb1:¬ blk=0:=by omega
 go_enter Tryz.func133,Tryz.ntmps133
 go_wp2
 go_cut [10] from 11 (fun a wx=>∃ bs ps,a=.pointer (some ⟨bs,0,none⟩) /\ w.heap.size <= ps /\ w.heap.size <= bs /\ ps≠bs /\ wx.heap[bs]?=some (.cells #[.pointer (some ⟨ps,0,none⟩)] 228 (0,0)) /\ wx.heap[ps]?=some (.cells (rawSorter bx blk fan bud count (.slice ko kn kc)) 260 (0,0)) /\ Touch [] w wx)
 case first=>
  go_region
  all_goals
   go_wp2
   go_meet
   case rel=>first | exact ⟨_,w.heap.size+1,rfl,by omega,by omega,by omega,(alloc3 w _ _ _).2,(alloc3 w _ _ _).1,(((Touch.refl [] w).alloc _).alloc _).alloc _ |>.drew⟩ | exact ⟨_,w.heap.size+1+1,rfl,by omega,by omega,by omega,(alloc3 w _ _ _).1,(alloc3 w _ _ _).2,(((Touch.refl [] w).alloc _).alloc _).alloc _ |>.drew⟩
 case rest=>
  obtain ⟨bs,ps,rfl,hps,hbs,hne,hB,hP,hT⟩:=hcut
  have hp1:=(Array.getElem?_eq_some_iff.1 hP).1
  have hb1:=(Array.getElem?_eq_some_iff.1 hB).1
  have e0:=boxOne hB
  have HH:Hid (wc.heap[bs]?=some (.cells #[.pointer (some ⟨ps,0,none⟩)] 228 (0,0)) /\ wc.heap[ps]?=some (.cells (rawSorter bx blk fan bud count (.slice ko kn kc)) 260 (0,0)) /\ Touch [] w wc):=⟨hB,hP,hT⟩
  have HAF:Hid (∀ W,Touch [] wc W -> W.heap[bs]?=some (.cells #[.pointer (some ⟨ps,0,none⟩)] 228 (0,0)) /\ W.heap[ps]?=some (.cells (rawSorter bx blk fan bud count (.slice ko kn kc)) 260 (0,0))):=fun W hW=>⟨hW.u.keep hB (by decide) (by simp),hW.u.keep hP (by decide) (by simp)⟩
  clear hB hP hT
  go_wp2
  go_region_with (go_at_call 163; refine (HN.out _ _).mono ?_; rintro e w1 ⟨rfl,h1,h2,h3⟩; obtain ⟨a1,a2⟩:=HAF.out w1 (((Touch.refl [] _).drew).trans h3); have a0:=boxOne a1; obtain ⟨k6,kf⟩:=raw_cells a2; have HA1:Hid _:=a1; have HA2:Hid _:=a2; have H1:Hid _:=h1; have HT3:Hid (Touch [] wc w1):=(((Touch.refl [] _).drew).trans h3); clear a1 a2 h1 h3)
  all_goals
   go_wp2
   go_ret
   have t6:Touch [ps] w1 (w1.setCell ⟨ps,6,none⟩ (.pointer (some ⟨wc.heap.size,0,none⟩))):=(Touch.refl [ps] w1).setCell (p:=⟨ps,6,none⟩) (by simp) _
   exact ⟨ps,bs,wc.heap.size,rfl,hps,hbs,HH.out.2.2.size,raw_set HA2.out,t6.u.keep H1.out (by decide) (by simp; omega),t6.u.keep HA1.out (by decide) (by simp; omega),(HH.out.2.2.trans HT3.out).onto t6 (fun i hi=>.inr (by rw [List.mem_singleton.1 hi]; exact hps))⟩
theorem spSt_new {w w':World} {ps bs ph bx bm blk fan bud count cols:Nat} {kv:Value} {ks:List K} {d:DS} {M:List PF} (hS:SorterAt w' ps (SC.new bx blk fan bud count kv ph)) (hH:HeadAt w' ph (.slice none 0 0) bs) (hB:w'.heap[bs]?=some (.cells #[.pointer (some ⟨ps,0,none⟩)] 228 (0,0))) (t:Touch [] w w') (hk:KeysAt w kv ks) (hP:PD w bx bm d M) (ok:DiskOK d) (b1:16 <= blk) (b2:blk <= 4096) (b3:(blk:Int) <= d.block) (c2:cols <= 1000) (lr:Rec) :
  SpSt w' ps bs (SC.new bx blk fan bud count kv ph) (.slice none 0 0) ks [] bm cols d M [] none [] lr:=by
 have h0:POwn w' (.slice none 0 0) []:=World.ownsRow_nil _ _ _ _
 refine ⟨⟨hS,⟨hH,EOwn.nil w',⟨hB,_,_,kv,hS,by simp [SC.cells,SC.new],hk.touch t⟩,by simp,HeapOK.nil⟩,rfl,by simp,⟨hP.away t (by simp),ok,by simp,by simp,by simp,by simp,by simp,by simp,by simp,b3,b2,b1,c2⟩,h0⟩,Spill.start ks lr,by simp,by simp,by simp,by simp,by simp,⟨Int.le_refl _,ok.last⟩,ok.last⟩
structure CU where
 ptr:Nat
 rd:Nat
 rv:Value
 run:RI
 first:Rec
 rest:List Rec
def CU.val (u:CU):Value:=.pointer (some ⟨u.ptr,0,none⟩)
def CU.cur (u:CU):Cur:=⟨u.ptr,u.first,u.rest⟩
def ltCU (ks:List K) (a b:CU):Bool:=aheadB ks a.first b.first
theorem ltCU_law (ks:List K):Law (ltCU ks):=((cmpRec_cmp ks).on CU.first).law
structure CBox (w:World) (ks:List K) (u:CU):Prop where
 box:w.heap[u.ptr]?=some (.cells #[.pointer (some ⟨u.rd,0,none⟩),.int .i64 u.first.no,u.rv] 307 (0,0))
 row:RowAt w u.rv u.first.row
 able:Able ks u.first.row
theorem CBox.keep {w w':World} {ks:List K} {u:CU} (h:CBox w ks u) (h1:KeepTag 307 w w') (h2:KeepTag 85 w w'):CBox w' ks u:=⟨h1 _ _ _ h.box,Sl3.keep h.row h2,h.able⟩
def CItemsIn (cur:Array Value) (cap:Nat) (L:List CU):Prop:=cur.size=cap /\ L.length <= cap /\ cap <= maxLen /\ ∀ i (h:i < L.length),cur[i]?=some L[i].val
def CItemsAt (w:World) (g cap:Nat) (L:List CU):Prop:=∃ cur,w.heap[g]?=some (.cells cur 305 (0,0)) /\ CItemsIn cur cap L
theorem CItemsAt.cell {w:World} {g cap:Nat} {L:List CU} (h:CItemsAt w g cap L) (i:Nat) (hi:i < L.length):w.cell? ⟨g,i,none⟩=some L[i].val:=by
 obtain ⟨cur,hb,_,_,_,hx⟩:=h
 simp only [World.cell?,hb]
 exact hx i hi
theorem CItemsAt.frozen {w:World} {g cap:Nat} {L:List CU} (h:CItemsAt w g cap L) (o:Nat):w.frozen? ⟨g,o,none⟩=false:=by
 obtain ⟨cur,hb,_⟩:=h
 simp [World.frozen?,hb]
theorem CItemsAt.touch {F:List Nat} {w w':World} {g cap:Nat} {L:List CU} (h:CItemsAt w g cap L) (t:TouchU F w w') (hg:g∉F):CItemsAt w' g cap L:=by
 obtain ⟨cur,hb,hx⟩:=h
 exact ⟨cur,t.keep hb (by decide) hg,hx⟩
theorem CItemsAt.put {w:World} {g cap:Nat} {L:List CU} (h:CItemsAt w g cap L) (i:Nat) (hi:i < L.length) (x:CU):CItemsAt (w.setCell ⟨g,i,none⟩ x.val) g cap (L.set i x):=by
 obtain ⟨cur,hb,h1,h2,h3,h4⟩:=h
 refine ⟨_,heap_setCell_same w g i _ 305 _ hb,by simpa using h1,by simpa using h2,h3,fun j hj=>?_⟩
 rw [List.length_set] at hj
 rw [get_set]
 by_cases e:i=j
 ·subst e
  rw [if_pos rfl,if_pos (by omega)]
  simp
 ·rw [if_neg e,List.getElem_set_ne e]
  exact h4 j hj
def cheadCells (v:Value) (bf:Nat):Array Value:=#[v,.func (.func 200) #[] #[.pointer (some ⟨bf,0,none⟩)]]
def CHeadAt (w:World) (ph:Nat) (v:Value) (bf:Nat):Prop:=w.heap[ph]?=some (.cells (cheadCells v bf) 331 (0,0))
theorem CHeadAt.cell {w:World} {ph:Nat} {v:Value} {bf:Nat} (h:CHeadAt w ph v bf):w.cell? ⟨ph,0,none⟩=some v /\ w.cell? ⟨ph,1,none⟩=some (.func (.func 200) #[] #[.pointer (some ⟨bf,0,none⟩)]):=box2 h
theorem CHeadAt.frozen {w:World} {ph:Nat} {v:Value} {bf:Nat} (h:CHeadAt w ph v bf) (o:Nat):w.frozen? ⟨ph,o,none⟩=false:=by simp [World.frozen?,show w.heap[ph]?=_ from h]
theorem CHeadAt.touch {F:List Nat} {w w':World} {ph:Nat} {v:Value} {bf:Nat} (h:CHeadAt w ph v bf) (t:TouchU F w w') (hg:ph∉F):CHeadAt w' ph v bf:=t.keep h (by decide) hg
structure CCtx (w:World) (bf ps:Nat) (ks:List K):Prop where
 f:w.heap[bf]?=some (.cells #[.func (.func 165) #[.pointer (some ⟨ps,0,none⟩)] #[]] 264 (0,0))
 keys:∃ cs f vk,w.heap[ps]?=some (.cells cs 260 f) /\ cs[2]?=some vk /\ KeysAt w vk ks
theorem CCtx.keep {w w':World} {bf ps:Nat} {ks:List K} (h:CCtx w bf ps ks) (h1:KeepTag 264 w w') (h2:KeepTag 260 w w') (h3:KeepTag 73 w w'):CCtx w' bf ps ks:=by
 obtain ⟨cs,f,vk,a,b,c⟩:=h.keys
 exact ⟨h1 _ _ _ h.f,cs,f,vk,h2 _ _ _ a,b,Sl3.keep c h3⟩
theorem ctest_any {w:World} {bf ps:Nat} {ks:List K} (h:CCtx w bf ps ks) (a b:CU) (ha:CBox w ks a) (hb:CBox w ks b) :
  Calls Tryz.prog 200 #[a.val,b.val,.pointer (some ⟨bf,0,none⟩)] w fun e w'=>e=.returned (.bool (ltCU ks a b)) /\ Touch [] w w':=by
 obtain ⟨cs,f,vk,h1,h2,h3⟩:=h.keys
 have HA:Hid (∀ W,Touch [] w W -> Calls Tryz.prog 165 #[.pointer (some ⟨ps,0,none⟩),.agg #[.int .i64 a.first.no,a.rv],.agg #[.int .i64 b.first.no,b.rv]] W fun e w'=>e=.returned (.bool (aheadB ks a.first b.first)) /\ Touch [] W w'):=fun W hW=>
  ahead_any W ps a.rv b.rv vk a.first b.first ks (cell_touch (by simp [World.cell?,h1,h2]) hW) (ha.row.touch hW) (hb.row.touch hW) (h3.touch hW) ha.able hb.able
 obtain ⟨x0,x1,x2⟩:=box3 ha.box
 obtain ⟨y0,y1,y2⟩:=box3 hb.box
 have z0:=boxOne h.f
 have HK:Hid (∀ W,Touch [] w W -> W.cell? ⟨a.ptr,1,none⟩=some (.int .i64 a.first.no) /\ W.cell? ⟨a.ptr,2,none⟩=some a.rv /\ W.cell? ⟨b.ptr,1,none⟩=some (.int .i64 b.first.no) /\ W.cell? ⟨b.ptr,2,none⟩=some b.rv /\ W.cell? ⟨bf,0,none⟩=some (.func (.func 165) #[.pointer (some ⟨ps,0,none⟩)] #[])):=fun W hW=>⟨cell_touch x1 hW,cell_touch x2 hW,cell_touch y1 hW,cell_touch y2 hW,cell_touch z0 hW⟩
 unfold ltCU CU.val
 clear ha hb h h1 h2 h3
 generalize aheadB ks a.first b.first=r at *
 go_enter Tryz.func200,Tryz.ntmps200
 go_wp2
 go_region_held3 (fun w'=>w'.cell? ⟨a.ptr,1,none⟩=some (.int .i64 a.first.no) /\ w'.cell? ⟨a.ptr,2,none⟩=some a.rv /\ w'.cell? ⟨b.ptr,1,none⟩=some (.int .i64 b.first.no) /\ w'.cell? ⟨b.ptr,2,none⟩=some b.rv /\ w'.cell? ⟨bf,0,none⟩=some (.func (.func 165) #[.pointer (some ⟨ps,0,none⟩)] #[])) (go_keep) (first | (go_at_call 165; refine (HA.out _ ((Touch.refl [] _).drew)).mono ?_; rintro e w1 ⟨rfl,hT1⟩; obtain ⟨k1,k2,k3,k4,k5⟩:=HK.out w1 (((Touch.refl [] _).drew).trans hT1)))
 all_goals
  go_wp2
  go_ret
  exact ⟨rfl,((Touch.refl [] _).drew).trans hT1⟩
structure CHeapAt (w:World) (ph g cap bf ps:Nat) (ks:List K) (L:List CU):Prop where
 head:CHeadAt w ph (.slice (some ⟨g,0,none⟩) L.length cap) bf
 items:CItemsAt w g cap L
 ctx:CCtx w bf ps ks
 rows:∀ x∈L,CBox w ks x
theorem CHeapAt.ne {w:World} {ph g cap bf ps:Nat} {ks:List K} {L:List CU} (h:CHeapAt w ph g cap bf ps ks L):ph≠g:=by
 obtain ⟨cur,hb,_⟩:=h.items
 have:=h.head
 unfold CHeadAt at this
 intro e
 subst e
 rw [hb] at this
 simp at this
theorem CHeapAt.quiet {w w':World} {ph g cap bf ps:Nat} {ks:List K} {L:List CU} (h:CHeapAt w ph g cap bf ps ks L) (t:Touch [] w w'):CHeapAt w' ph g cap bf ps ks L:=
 ⟨h.head.touch t.u (by simp),h.items.touch t.u (by simp),h.ctx.keep (t.tag0 _) (t.tag0 _) (t.tag0 _),fun x hx=>(h.rows x hx).keep (t.tag0 _) (t.tag0 _)⟩
theorem CHeapAt.turn {w w':World} {ph g cap bf ps:Nat} {ks:List K} {L L':List CU} (h:CHeapAt w ph g cap bf ps ks L) (t:Touch [g] w w') (hi:CItemsAt w' g cap L') (hl:L'.length=L.length) (hm:∀ x∈L',x∈L):CHeapAt w' ph g cap bf ps ks L':=by
 obtain ⟨cur,hb,_⟩:=h.items
 refine ⟨by rw [hl]; exact h.head.touch t.u (by simp [h.ne]),hi,h.ctx.keep (t.tag (notag_of hb (by decide))) (t.tag (notag_of hb (by decide))) (t.tag (notag_of hb (by decide))),fun x hx=>(h.rows x (hm x hx)).keep (t.tag (notag_of hb (by decide))) (t.tag (notag_of hb (by decide)))⟩
theorem CHeapAt.bounds {w:World} {ph g cap bf ps:Nat} {ks:List K} {L:List CU} (h:CHeapAt w ph g cap bf ps ks L):ph < w.heap.size /\ g < w.heap.size /\ ph≠g /\ L.length <= cap /\ cap <= 2 ^ 63 - 1:=by
 have h1:=(Array.getElem?_eq_some_iff.1 h.head).1
 have h2:=h.ne
 obtain ⟨cur,hb,_,h3,h4,_⟩:=h.items
 exact ⟨h1,(Array.getElem?_eq_some_iff.1 hb).1,h2,h3,h4⟩
theorem CHeapAt.test {w:World} {ph g cap bf ps:Nat} {ks:List K} {L:List CU} (h:CHeapAt w ph g cap bf ps ks L) (i j:Nat) (hi:i < L.length) (hj:j < L.length) {w':World} (ht:Touch [] w w') :
  Calls Tryz.prog 200 #[.pointer (some ⟨L[i].ptr,0,none⟩),.pointer (some ⟨L[j].ptr,0,none⟩),.pointer (some ⟨bf,0,none⟩)] w' fun e w''=>e=.returned (.bool (ltCU ks L[i] L[j])) /\ Touch [] w' w'':=
 ctest_any (h.quiet ht).ctx L[i] L[j] ((h.quiet ht).rows _ (List.getElem_mem _)) ((h.quiet ht).rows _ (List.getElem_mem _))
theorem CHeapAt.swapped {w:World} {ph g cap bf ps:Nat} {ks:List K} {L:List CU} (h:CHeapAt w ph g cap bf ps ks L) (i j:Nat) (hi:i < L.length) (hj:j < L.length) {W:World} (ht:Touch [] w W) :
  CHeapAt ((W.setCell ⟨g,i,none⟩ (.pointer (some ⟨L[j].ptr,0,none⟩))).setCell ⟨g,j,none⟩ (.pointer (some ⟨L[i].ptr,0,none⟩))) ph g cap bf ps ks (swapL L i j hi hj) /\ Touch [g] w ((W.setCell ⟨g,i,none⟩ (.pointer (some ⟨L[j].ptr,0,none⟩))).setCell ⟨g,j,none⟩ (.pointer (some ⟨L[i].ptr,0,none⟩))):=by
 have ht2:=(ht.mono (F':=[g]) (by simp)).trans (((Touch.refl [g] W).setCell (p:=⟨g,i,none⟩) (by simp) (.pointer (some ⟨L[j].ptr,0,none⟩))).setCell (p:=⟨g,j,none⟩) (by simp) (.pointer (some ⟨L[i].ptr,0,none⟩)))
 refine ⟨h.turn ht2 ?_ (swapL_len _ _ _ _ _) swapL_mem,ht2⟩
 exact ((h.items.touch ht.u (by simp)).put i hi L[j]).put j (by simpa using hj) L[i]
def CUp (w:World) (ph g cap bf ps:Nat) (ks:List K) (L:List CU) (k:Nat) (wr:World):Prop:=
 ∃ L',CHeapAt wr ph g cap bf ps ks L' /\ L'.Perm L /\ UpInv (ltCU ks) L' k /\ Touch [g] w wr
theorem CUp.drew {w:World} {ph g cap bf ps:Nat} {ks:List K} {L:List CU} {k:Nat} {wr:World} (h:CUp w ph g cap bf ps ks L k wr):CUp w ph g cap bf ps ks L k wr.drew:=by
 obtain ⟨L',a,b,c,d⟩:=h
 exact ⟨L',a.quiet ((Touch.refl [] _).drew),b,c,d.drew⟩
theorem csiftUp_any (w:World) (ph g cap bf ps:Nat) (ks:List K) (L:List CU) (k0:Nat) (h:CHeapAt w ph g cap bf ps ks L) (hu:UpInv (ltCU ks) L k0) (hsmall:L.length <= 1000000000) :
  Calls Tryz.prog 217 #[.pointer (some ⟨ph,0,none⟩),.int .i64 k0] w fun e w'=>e=.returned (.tuple #[]) /\ ∃ L',CHeapAt w' ph g cap bf ps ks L' /\ L'.Perm L /\ HeapOK (ltCU ks) L' /\ Touch [g] w w':=by
 have HS:Hid (CUp w ph g cap bf ps ks L k0 w):=⟨L,h,List.Perm.refl _,hu,Touch.refl _ _⟩
 have hk0:=hu.here
 clear h hu
 go_enter Tryz.func217,Tryz.ntmps217
 go_wp2
 go_loopw [1] (fun i wr=>∃ k:Nat,k < L.length /\ i=.int .i64 k /\ CUp w ph g cap bf ps ks L k wr) (fun i _=>(intOf i).toNat)
 case atStart=>exact ⟨k0,hk0,rfl,HS.out⟩
 case round=>
  obtain ⟨k,hk,rfl,L',hH,hP,hU,hT⟩:=hrel
  by_cases hk1:0 < k
  ·have hkl:=hU.here
   have hpl:(k - 1) / 2 < L'.length:=by omega
   have hq:((k:Int) - 1) / 2=(((k - 1) / 2:Nat):Int):=by omega
   obtain ⟨hd0,hd1⟩:=hH.head.cell
   have c0:=hH.items.cell k hkl
   have d0:=hH.items.cell ((k - 1) / 2) hpl
   unfold CU.val at c0 d0
   obtain ⟨hphlt,hglt,hne,hc1,hc2⟩:=hH.bounds
   have HTEST:Hid (∀ w',Touch [] wr w' -> Calls Tryz.prog 200 #[.pointer (some ⟨L'[k].ptr,0,none⟩),.pointer (some ⟨L'[(k - 1) / 2].ptr,0,none⟩),.pointer (some ⟨bf,0,none⟩)] w' fun e w''=>e=.returned (.bool (ltCU ks L'[k] L'[(k - 1) / 2])) /\ Touch [] w' w''):=fun w' ht=>hH.test k ((k - 1) / 2) hkl hpl ht
   have HF:Hid (ltCU ks L'[k] L'[(k - 1) / 2]=false -> HeapOK (ltCU ks) L'):=fun hb=>hU.done hk1 hb
   have HT:Hid (ltCU ks L'[k] L'[(k - 1) / 2]=true -> ∀ W,Touch [] wr W -> CUp w ph g cap bf ps ks L ((k - 1) / 2) ((W.setCell ⟨g,k,none⟩ (.pointer (some ⟨L'[(k - 1) / 2].ptr,0,none⟩))).setCell ⟨g,(k - 1) / 2,none⟩ (.pointer (some ⟨L'[k].ptr,0,none⟩)))):=fun hb W ht=>by
    obtain ⟨s1,s2⟩:=hH.swapped k ((k - 1) / 2) hkl hpl ht
    exact ⟨_,s1,(swapL_perm L' k _ hkl hpl).trans hP,hU.step (ltCU_law ks) hk1 hb,hT.trans s2⟩
   have HQ:Hid (CHeapAt wr ph g cap bf ps ks L' /\ L'.Perm L /\ Touch [g] w wr):=⟨hH,hP,hT⟩
   have hfz:=hH.items.frozen
   have hlen:=hP.length_eq
   clear hH hP hU hT
   generalize hr:ltCU ks L'[k] L'[(k - 1) / 2]=r at *
   generalize L'[k].ptr=pa at *
   generalize L'[(k - 1) / 2].ptr=pb at *
   clear hr
   have hpk:(k - 1) / 2 < k:=by omega
   generalize hp:(k - 1) / 2=p at *
   have hkc:k < cap:=by omega
   have hpc:p < cap:=by omega
   have HL:Hid (p < L.length /\ L'.length=L.length):=⟨by omega,hlen⟩
   clear hp hk0 HS hk hlen hsmall
   have HK:Hid (∀ w',Touch [] wr w' -> w'.cell? ⟨ph,0,none⟩=some (.slice (some ⟨g,0,none⟩) L'.length cap) /\ w'.cell? ⟨ph,1,none⟩=some (.func (.func 200) #[] #[.pointer (some ⟨bf,0,none⟩)]) /\ w'.cell? ⟨g,k,none⟩=some (.pointer (some ⟨pa,0,none⟩)) /\ w'.cell? ⟨g,p,none⟩=some (.pointer (some ⟨pb,0,none⟩))):=fun w' ht=>
    ⟨cell_touch hd0 ht,cell_touch hd1 ht,cell_touch c0 ht,cell_touch d0 ht⟩
   cases r with
   | false=>
    go_wp2
    go_region_held3 (fun w'=>w'.cell? ⟨ph,0,none⟩=some (.slice (some ⟨g,0,none⟩) L'.length cap) /\ w'.cell? ⟨ph,1,none⟩=some (.func (.func 200) #[] #[.pointer (some ⟨bf,0,none⟩)]) /\ w'.cell? ⟨g,k,none⟩=some (.pointer (some ⟨pa,0,none⟩)) /\ w'.cell? ⟨g,p,none⟩=some (.pointer (some ⟨pb,0,none⟩))) (go_keep) (first | (go_at_call 200; refine (HTEST.out _ ((Touch.refl [] _).drew)).mono ?_; rintro e w1 ⟨rfl,hT1⟩; obtain ⟨e0,e1,e2,e3⟩:=HK.out _ (((Touch.refl [] _).drew).trans hT1)))
    go_wp2
    refine bodyPost_ret (results_none rfl _ _ _) rfl ?_
    obtain ⟨q1,q2,q3⟩:=HQ.out
    exact ⟨rfl,L',q1.quiet (((Touch.refl [] _).drew).trans hT1),q2,HF.out trivial,q3.trans ((((Touch.refl [] _).drew).trans hT1).mono (by simp))⟩
   | true=>
    go_wp2
    go_region_held3 (fun w'=>w'.cell? ⟨ph,0,none⟩=some (.slice (some ⟨g,0,none⟩) L'.length cap) /\ w'.cell? ⟨ph,1,none⟩=some (.func (.func 200) #[] #[.pointer (some ⟨bf,0,none⟩)]) /\ w'.cell? ⟨g,k,none⟩=some (.pointer (some ⟨pa,0,none⟩)) /\ w'.cell? ⟨g,p,none⟩=some (.pointer (some ⟨pb,0,none⟩))) (go_keep) (first | (go_at_call 200; refine (HTEST.out _ ((Touch.refl [] _).drew)).mono ?_; rintro e w1 ⟨rfl,hT1⟩; obtain ⟨e0,e1,e2,e3⟩:=HK.out _ (((Touch.refl [] _).drew).trans hT1)))
    have hT2:Touch [] wr w1:=((Touch.refl [] _).drew).trans hT1
    have hfz1:∀ o,w1.frozen? ⟨g,o,none⟩=false:=fun o=>(World.frozen?_of_block (w:=wr) (hT2.block g hglt (by simp))).trans (hfz o)
    have HT2:Hid (Touch [] wr w1):=hT2
    have f0:=hfz1 k
    have f4:=hfz1 p
    clear hd0 hd1 c0 d0 hT1 hT2 hfz hfz1
    go_wp2
    go_region
    go_wp2
    go_roundw
    case rel=>exact ⟨p,HL.out.1,rfl,CUp.drew (HT.out trivial w1 HT2.out)⟩
    case measure=>simp [intOf]; omega
  ·obtain rfl:k=0:=by omega
   have HF:=hU.zero
   have HQ:Hid (CHeapAt wr ph g cap bf ps ks L' /\ L'.Perm L /\ Touch [g] w wr /\ HeapOK (ltCU ks) L'):=⟨hH,hP,hT,HF⟩
   clear hH hP hU hT HF HS hk0
   go_wp2
   first | go_end0 | refine bodyPost_ret (results_none rfl _ _ _) rfl ?_
   obtain ⟨q1,q2,q3,q4⟩:=HQ.out
   exact ⟨rfl,L',q1,q2,q4,q3⟩
end Go.Proofs.YtjoinhljdbljaaaGreat
