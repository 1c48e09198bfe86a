/- What stands behind the test of spill, and what follows. -/
import Derived.Test.YtjoinhljdbljaaaGreatSrtAToSrtF
import Derived.BigQuiet
set_option maxHeartbeats 2000000
set_option maxRecDepth 20000
namespace Go.Proofs.YtjoinhljdbljaaaGreat
open Go.RowKit
structure SpSt (w:World) (ps bs:Nat) (s:SC) (hv:Value) (ks:List K) (L:List EV) (bm cols:Nat) (d:DS) (M:List PF) (pre:List RI) (o:Option RI) (rows:List Rec) (lr:Rec):Prop where
 sb:SB w ps bs s hv ks L bm cols d M pre o
 lists:Spill ks rows (L.map Prod.fst) s.run ((pre++o.toList).map RI.recs) lr
 last:pre++o.toList≠[] -> lr.no=s.lno /\ RowAt w s.lv lr.row /\ Able ks lr.row
 length:∀ x,o=some x -> s.length=x.recs.length
 none:o=none -> pre=[]
 few:rows.length <= 100000
 count:rows.length <= s.count
 run:0 <= s.run /\ s.run <= d.last
 many:((pre++o.toList).length:Int) <= d.last
theorem SB.lt {w:World} {ps bs:Nat} {s:SC} {hv:Value} {ks:List K} {L:List EV} {bm cols:Nat} {d:DS} {M:List PF} {pre:List RI} {o:Option RI} (h:SB w ps bs s hv ks L bm cols d M pre o):∀ k∈sbF ps s hv bm M (pre++o.toList),k < w.heap.size:=by
 intro k hk
 simp only [sbF,heapF,runsF,List.mem_cons,List.mem_append,List.mem_map,Option.mem_toList] at hk
 rcases hk with rfl | ((rfl | hk) | hk) | ⟨x,hx,rfl⟩ | hk
 ·exact (Array.getElem?_eq_some_iff.1 h.sorter).1
 ·exact (Array.getElem?_eq_some_iff.1 h.heap.head).1
 ·obtain ⟨cs,f,hc⟩:=h.heap.items.tag k hk
  exact (Array.getElem?_eq_some_iff.1 hc).1
 ·obtain ⟨cs,hc⟩:=h.own.block k hk
  exact (Array.getElem?_eq_some_iff.1 hc).1
 ·obtain ⟨n,v,hc⟩:=h.runs.cell (x:=x) (by simpa using hx)
  exact (Array.getElem?_eq_some_iff.1 hc).1
 ·exact h.runs.pd.lt k hk
def EBox (w:World) (B:Nat) (an:Int) (ao:Option Addr) (al acap:Nat) (arun asz:Int):Prop:=w.heap[B]?=some (.cells #[.int .i64 an,.slice ao al acap,.int .i64 arun,.int .i64 asz] 263 (0,0))
structure Mid (w:World) (ps bs:Nat) (s:SC) (hv:Value) (ks:List K) (bm cols:Nat) (M:List PF) (R:List RI) (rows:List Rec) (m j:Nat) (hv1:Value) (L1:List EV) (x:EV) (B:Nat) (an:Int) (ao:Option Addr) (al acap:Nat) (arun asz:Int) (s3:SC) (d3:DS) (M3:List PF) (pre3:List RI) (x3:RI) (wx:World):Prop where
 sb:SB wx ps bs s3 hv1 ks L1 bm cols d3 M3 pre3 (some x3)
 lists:Spill ks rows (L1.map Prod.fst) s3.run (pre3.map RI.recs++[x3.recs++[x.1.rc]]) x.1.rc
 length:s3.length=x3.recs.length
 same:Same s s3
 left:Left d3 (m+1) j
 row:RowAt wx x.2 x.1.rc.row
 touch:TouchU (sbF ps s hv bm M R) w wx
 sub:Sub w (sbF ps s3 hv1 bm M3 (pre3++[x3])) (sbF ps s hv bm M R)
 run:0 <= s3.run /\ s3.run <= d3.last
 many:((pre3++[x3]).length:Int) <= d3.last
 box:EBox wx B an ao al acap arun asz
 new:w.heap.size <= B
 far:B∉sbF ps s3 hv1 bm M3 (pre3++[x3])
theorem TouchU.onto {F G:List Nat} {a b c:World} (h:TouchU F a b) (k:TouchU G b c) (hG:∀ i∈G,i∈F \/ a.heap.size <= i):TouchU F a c:=h.more k hG
theorem mid_fresh {w w1 Wb w2 w5:World} {ps bs:Nat} {s s1:SC} {hv hv1 v':Value} {ks:List K} {L L1:List EV} {bm cols:Nat} {d d2 d3:DS} {M M2 M3:List PF} {pre pre2:List RI} {o:Option RI} {rows:List Rec} {lr:Rec} {m j:Nat} {x:EV} {y:RI} {an:Int} {ao:Option Addr} {al acap:Nat} {arun asz:Int}
  (hS:SpSt w ps bs s hv ks L bm cols d M pre o rows lr) (h0:L[0]?=some x) (hp:(x::L1).Perm L) (ok1:SB w1 ps bs s1 hv1 ks L1 bm cols d M pre o) (same:Same s s1) (hrow:RowAt w1 x.2 x.1.rc.row) (t1:Touch (ps::heapF s.ph hv) w w1) (hF:sbF ps s1 hv1 bm M (pre++o.toList)=sbF ps s hv bm M (pre++o.toList)) (hc:(pre++o.toList).length=0 \/ s.run < x.1.run) (harun:x.1.run=arun)
  (tb:Touch [] w1 Wb) (hWb:w1.heap.size < Wb.heap.size) (r2:pre2.map RI.recs=(pre++o.toList).map RI.recs) (r3:pre2.map RI.r=(pre++o.toList).map RI.r) (r5:d2.last=d.last) (r6:Sub Wb (rowsOf M2) (rowsOf M)) (r7:Touch (runsF s1.bx bm M (pre++o.toList)) Wb w2)
  (y1:w2.heap.size <= y.r) (y2:y.recs=[]) (y4:Left d3 (m+1) j) (y5:d3.last=d2.last+1) (y6:rowsOf M3=rowsOf M2) (sb5:SB w5 ps bs { s1 with rv:=v' } hv1 ks L1 bm cols d3 M3 pre2 (some y)) (t5:Touch (ps::s1.bx::bm::s1.rv.ownBlock.toList) w2 w5) (hat:∀ g,v'.ownBlock=some g -> s1.rv.ownBlock=some g \/ w2.heap.size <= g) (box5:EBox w5 w1.heap.size an ao al acap arun asz) :
  Mid w ps bs s hv ks bm cols M (pre++o.toList) rows m j hv1 L1 x w1.heap.size an ao al acap arun asz { s1 with rv:=v',run:=arun,length:=0 } d3 M3 pre2 y ((w5.setCell ⟨ps,9,none⟩ (.int .i64 arun)).setCell ⟨ps,10,none⟩ (.int .i64 0)):=by
 have t6:Touch [ps] w5 ((w5.setCell ⟨ps,9,none⟩ (.int .i64 arun)).setCell ⟨ps,10,none⟩ (.int .i64 0)):=((Touch.refl [ps] w5).setCell (p:=⟨ps,9,none⟩) (by simp) _).setCell (p:=⟨ps,10,none⟩) (by simp) _
 have hS6:SorterAt ((w5.setCell ⟨ps,9,none⟩ (.int .i64 arun)).setCell ⟨ps,10,none⟩ (.int .i64 0)) ps { s1 with rv:=v',run:=arun,length:=0 }:=(sb5.sorter.setRun arun).setLength 0
 have sb6:=sb5.cells hS6 t6 rfl rfl rfl rfl rfl rfl
 have hr:Sub Wb (sbF ps { s1 with rv:=v',run:=arun,length:=0 } hv1 bm M3 (pre2++[y])) (sbF ps s1 hv1 bm M (pre++o.toList)):=by
  intro k hk
  simp only [sbF,runsF,diskF,List.map_append,List.map_cons,List.map_nil,List.mem_cons,List.mem_append,List.not_mem_nil,or_false,Option.mem_toList] at hk ⊢
  rcases hk with hk | (hk | hk) | (hk | hk) | hk | hk | hk
  ·exact .inl (.inl hk)
  ·exact .inl (.inr (.inl (.inl hk)))
  ·rcases hat k hk with h | h
   ·exact .inl (.inr (.inl (.inr h)))
   ·exact .inr (Nat.le_trans r7.size h)
  ·rw [r3,List.map_append] at hk
   exact .inl (.inr (.inr (.inl (List.mem_append.1 hk))))
  ·exact .inr (by rw [hk]; exact Nat.le_trans r7.size y1)
  ·exact .inl (.inr (.inr (.inr (.inl hk))))
  ·exact .inl (.inr (.inr (.inr (.inr (.inl hk)))))
  ·rw [y6] at hk
   rcases r6 k hk with h | h
   ·exact .inl (.inr (.inr (.inr (.inr (.inr h)))))
   ·exact .inr h
 have T16:TouchU (sbF ps s1 hv1 bm M (pre++o.toList)) w1 ((w5.setCell ⟨ps,9,none⟩ (.int .i64 arun)).setCell ⟨ps,10,none⟩ (.int .i64 0)):=by
  refine ((((tb.mono (by simp)).trans (r7.mono (fun k hk=>?_))).trans (t5.mono (fun k hk=>?_))).trans (t6.mono (by simp [sbF]))).u
  ·simp only [sbF,List.mem_cons,List.mem_append]; exact .inr (.inr hk)
  ·simp only [List.mem_cons] at hk
   simp only [sbF,runsF,diskF,List.mem_cons,List.mem_append]
   rcases hk with hk | hk | hk | hk
   ·exact .inl hk
   ·exact .inr (.inr (.inr (.inl hk)))
   ·exact .inr (.inr (.inr (.inr (.inl hk))))
   ·exact .inr (.inl (.inr hk))
 have hx1:=hS.lists.who x.1 (List.mem_map_of_mem (List.mem_of_getElem? h0))
 have hrun:=hS.run
 refine ⟨sb6,?_,?_,⟨same.bx,same.blk,same.kv,same.count,same.most,same.fan,same.ph,same.came,same.mg,same.given⟩,y4,Sl3.keep hrow (T16.tag (by decide) (ok1.notag (by decide) (by decide) (by decide) (by decide) (by decide) (by decide) (by decide))),?_,fun k hk=>?_,⟨?_,?_⟩,?_,?_,t1.size,fun e=>?_⟩
 ·have:=hS.lists.fresh (e:=x.1) (rest:=L1.map Prod.fst) (by simp [h0]) (by simpa using hp.map Prod.fst) (heap_fst sb5.heap.ok) (by
   rcases hc with hc | hc
   ·left; rw [List.length_eq_zero_iff.1 hc]; rfl
   ·exact .inr hc)
  rw [r2,y2]
  rw [harun] at this
  exact this
 ·show 0=y.recs.length; rw [y2]; rfl
 ·rw [<- hF]
  exact ((t1.mono (fun k hk=>by rw [hF]; simp only [sbF,List.mem_cons,List.mem_append] at hk ⊢; rcases hk with hk | hk; exact .inl hk; exact .inr (.inl (.inl hk)))).u).trans T16
 ·rcases hr k hk with h | h
  ·exact .inl (by rw [<- hF]; exact h)
  ·exact .inr (Nat.le_trans t1.size (Nat.le_trans tb.size h))
 ·show 0 <= arun
  omega
 ·show arun <= d3.last
  omega
 ·have h1:=congrArg List.length r3
  rw [List.length_map,List.length_map] at h1
  have:=hS.many
  rw [List.length_append,List.length_singleton]
  omega
 ·unfold EBox at box5 ⊢
  exact t6.u.keep box5 (by decide) (fun e=>by
   have:=(Array.getElem?_eq_some_iff.1 ok1.sorter).1
   rw [<- List.mem_singleton.1 e] at this
   omega)
 ·rcases hr _ e with h | h
  ·have:=ok1.lt _ h; omega
  ·omega
theorem mid_same {w w1 Wb:World} {ps bs:Nat} {s s1:SC} {hv hv1:Value} {ks:List K} {L L1:List EV} {bm cols:Nat} {d:DS} {M:List PF} {pre:List RI} {o:Option RI} {rows:List Rec} {lr:Rec} {m j:Nat} {x:EV} {an:Int} {ao:Option Addr} {al acap:Nat} {arun asz:Int}
  (hS:SpSt w ps bs s hv ks L bm cols d M pre o rows lr) (h0:L[0]?=some x) (hl:Left d (m+2) (j+1)) (hp:(x::L1).Perm L) (ok1:SB w1 ps bs s1 hv1 ks L1 bm cols d M pre o) (same:Same s s1) (hrun1:s1.run=s.run) (hlen1:s1.length=s.length) (hrow:RowAt w1 x.2 x.1.rc.row) (t1:Touch (ps::heapF s.ph hv) w w1) (hF:sbF ps s1 hv1 bm M (pre++o.toList)=sbF ps s hv bm M (pre++o.toList)) (hc:¬ ((pre++o.toList).length=0 \/ s.run < x.1.run))
  (tb:Touch [] w1 Wb) (hb:EBox Wb w1.heap.size an ao al acap arun asz) :
  ∃ s3 d3 M3 pre3 x3,Mid w ps bs s hv ks bm cols M (pre++o.toList) rows m j hv1 L1 x w1.heap.size an ao al acap arun asz s3 d3 M3 pre3 x3 Wb:=by
 cases o with
 | none=>
  have:=hS.none rfl
  subst this
  exact absurd (.inl rfl) hc
 | some x3=>
  refine ⟨s1,d,M,pre,x3,ok1.quiet tb (by simp) (fun k hk=>by simp at hk) (fun k hk=>by simp at hk) (fun k hk=>by simp at hk) (fun k hk=>by simp at hk),?_,?_,same,hl.mono (by omega) (by omega),hrow.touch tb,?_,fun k hk=>.inl ?_,?_,hS.many,hb,t1.size,fun e=>?_⟩
  ·have:=hS.lists
   rw [List.map_append] at this
   have:=this.same (e:=x.1) (rest:=L1.map Prod.fst) (by simp [h0]) (by simpa using hp.map Prod.fst) (heap_fst ok1.heap.ok) (fun h=>hc (.inr h))
   rw [hrun1]
   exact this
  ·rw [hlen1]; exact hS.length x3 rfl
  ·rw [<- hF]
   exact ((t1.mono (fun k hk=>by rw [hF]; simp only [sbF,List.mem_cons,List.mem_append] at hk ⊢; rcases hk with hk | hk; exact .inl hk; exact .inr (.inl (.inl hk)))).trans (tb.mono (by simp))).u
  ·rw [<- hF]; exact hk
  ·rw [hrun1]; exact hS.run
  ·have:=ok1.lt _ e; omega
theorem mid_count {w wx:World} {ps bs:Nat} {s s3:SC} {hv hv1:Value} {ks:List K} {L L1:List EV} {bm cols:Nat} {d d3:DS} {M M3:List PF} {pre pre3:List RI} {o:Option RI} {rows:List Rec} {lr:Rec} {m j B:Nat} {x:EV} {x3:RI} {an:Int} {ao:Option Addr} {al acap:Nat} {arun asz:Int}
  (hS:SpSt w ps bs s hv ks L bm cols d M pre o rows lr) (hM:Mid w ps bs s hv ks bm cols M (pre++o.toList) rows m j hv1 L1 x B an ao al acap arun asz s3 d3 M3 pre3 x3 wx):s3.length < s3.count /\ x3.recs.length < 100000:=by
 have h1:=hM.lists.perm.length_eq
 simp only [List.length_append,List.length_map,List.flatten_append,List.flatten_cons,List.flatten_nil,List.length_nil,List.length_cons] at h1
 have h2:=hS.few
 have h3:=hS.count
 have h4:=hM.length
 have h5:=hM.same.count
 omega
theorem mid_end {w wx w6:World} {ps bs:Nat} {s s3:SC} {hv hv1:Value} {ks:List K} {L L1:List EV} {bm cols:Nat} {d d3 d':DS} {M M3 M':List PF} {pre pre3:List RI} {o:Option RI} {rows:List Rec} {lr:Rec} {m j B n:Nat} {x:EV} {x3 x':RI} {an:Int} {ao:Option Addr} {al acap:Nat} {arun asz:Int}
  (hS:SpSt w ps bs s hv ks L bm cols d M pre o rows lr) (h0:L[0]?=some x) (hx:x.2=.slice ao al acap) (han:x.1.rc.no=an) (hM:Mid w ps bs s hv ks bm cols M (pre++o.toList) rows m j hv1 L1 x B an ao al acap arun asz s3 d3 M3 pre3 x3 wx)
  (q1:SB w6 ps bs { s3 with lno:=an,lv:=.slice ao al acap } hv1 ks L1 bm cols d' M' pre3 (some x')) (q2:x'.r=x3.r) (q3:x'.recs=x3.recs++[x.1.rc]) (q4:Left d' m j) (q5:d'.last=d3.last) (q6:Sub wx (rowsOf M') (rowsOf M3)) (q7:TouchU (ps::runsF s3.bx bm M3 (pre3++[x3])) wx w6) (hn:n=s3.length+1) (hp:(x::L1).Perm L) :
  SpSt (w6.setCell ⟨ps,10,none⟩ (.int .i64 (n:Int))) ps bs { s3 with lno:=an,lv:=.slice ao al acap,length:=n } hv1 ks L1 bm cols d' M' pre3 (some x') rows x.1.rc /\ Same s { s3 with lno:=an,lv:=.slice ao al acap,length:=n } /\ L1.length+1=L.length /\ Left d' m j /\ TouchU (sbF ps s hv bm M (pre++o.toList)) w (w6.setCell ⟨ps,10,none⟩ (.int .i64 (n:Int))) /\ Sub w (sbF ps { s3 with lno:=an,lv:=.slice ao al acap,length:=n } hv1 bm M' (pre3++[x'])) (sbF ps s hv bm M (pre++o.toList)):=by
 have t7:Touch [ps] w6 (w6.setCell ⟨ps,10,none⟩ (.int .i64 (n:Int))):=(Touch.refl [ps] w6).setCell (p:=⟨ps,10,none⟩) (by simp) _
 have hS7:=q1.sorter.setLength n
 have sb7:=q1.cells hS7 t7 rfl rfl rfl rfl rfl rfl
 have hsub3:∀ k∈ps::runsF s3.bx bm M3 (pre3++[x3]),k∈sbF ps s3 hv1 bm M3 (pre3++[x3]):=fun k hk=>by
  simp only [sbF,List.mem_cons,List.mem_append] at hk ⊢
  rcases hk with hk | hk
  ·exact .inl hk
  ·exact .inr (.inr hk)
 have T:TouchU (sbF ps s3 hv1 bm M3 (pre3++[x3])) wx (w6.setCell ⟨ps,10,none⟩ (.int .i64 (n:Int))):=(q7.mono hsub3).trans ((t7.mono (by simp [sbF])).u)
 have hsame:Same s { s3 with lno:=an,lv:=.slice ao al acap,length:=n }:=⟨hM.same.bx,hM.same.blk,hM.same.kv,hM.same.count,hM.same.most,hM.same.fan,hM.same.ph,hM.same.came,hM.same.mg,hM.same.given⟩
 refine ⟨⟨sb7,?_,fun _=>⟨han,?_,(hS.sb.heap.rows x (List.mem_of_getElem? h0)).2⟩,fun z hz=>?_,by simp,hS.few,?_,?_,?_⟩,hsame,?_,q4,hM.touch.onto T hM.sub,fun k hk=>?_⟩
 ·have:=hM.lists
  rw [<- q3] at this
  simpa using this
 ·show RowAt _ (.slice ao al acap) _
  rw [<- hx]
  exact Sl3.keep hM.row (T.tag (by decide) (hM.sb.notag (by decide) (by decide) (by decide) (by decide) (by decide) (by decide) (by decide)))
 ·simp at hz
  subst hz
  show n=_
  rw [q3,List.length_append,List.length_singleton,hn,hM.length]
 ·have:=hS.count; rw [hsame.count]; exact this
 ·show 0 <= s3.run /\ s3.run <= d'.last
  rw [q5]; exact hM.run
 ·rw [q5]
  have:=hM.many
  simpa using this
 ·have:=hp.length_eq
  simpa using this
 ·have h1:k∈sbF ps s3 hv1 bm M3 (pre3++[x3]) \/ wx.heap.size <= k:=by
   simp only [sbF,runsF,diskF,List.map_append,List.map_cons,List.map_nil,List.mem_cons,List.mem_append,List.not_mem_nil,or_false] at hk ⊢
   rcases hk with hk | hk | (hk | hk) | hk | hk | hk
   ·exact .inl (.inl hk)
   ·exact .inl (.inr (.inl hk))
   ·exact .inl (.inr (.inr (.inl (.inl hk))))
   ·exact .inl (.inr (.inr (.inl (.inr (by rw [<- q2]; exact hk)))))
   ·exact .inl (.inr (.inr (.inr (.inl hk))))
   ·exact .inl (.inr (.inr (.inr (.inr (.inl hk)))))
   ·rcases q6 k hk with h | h
    ·exact .inl (.inr (.inr (.inr (.inr (.inr h)))))
    ·exact .inr h
  rcases h1 with h | h
  ·exact hM.sub k h
  ·exact .inr (Nat.le_trans hM.touch.size h)
theorem boxOne {w:World} {k:Nat} {a:Value} {t:TypeId} (h:w.heap[k]?=some (.cells #[a] t (0,0))):w.cell? ⟨k,0,none⟩=some a:=by simp [World.cell?,h]
theorem push_mid4 {w2 w3 w4:World} {ps bs:Nat} {s1:SC} {hv:Value} {ks:List K} {L:List EV} {bm cols:Nat} {d2 d3:DS} {M2 M3:List PF} {pre2:List RI} {y:RI} {ob:Obj} {v v':Value} {B:Nat} {an:Int} {ao:Option Addr} {al acap:Nat} {arun asz:Int} (h:SB w2 ps bs s1 hv ks L bm cols d2 M2 pre2 none) (hB:EBox w2 B an ao al acap arun asz) (hv0:s1.rv=v) (hR3:RunsSt w3 s1.bx bm s1.blk cols d3 M3 pre2 (some y)) (t3:Touch [s1.bx,bm] w2 w3) (hP:POwn w4 v' (pre2++[y])) (hG:(w3.alloc ob).grownBy w4 v.ownBlock) :
  SorterAt w4 ps s1 /\ SB (w4.setCell ⟨ps,13,none⟩ v') ps bs { s1 with rv:=v' } hv ks L bm cols d3 M3 pre2 (some y) /\ Touch (ps::s1.bx::bm::s1.rv.ownBlock.toList) w2 (w4.setCell ⟨ps,13,none⟩ v') /\ EBox w4 B an ao al acap arun asz /\ EBox (w4.setCell ⟨ps,13,none⟩ v') B an ao al acap arun asz:=by
 subst hv0
 have t4:Touch s1.rv.ownBlock.toList w3 w4:=((Touch.refl s1.rv.ownBlock.toList w3).alloc ob).grown hG (fun k hk=>by simp [hk])
 obtain ⟨h1,h2,h3⟩:=h.pushRun hR3 t3 t4 hP
 have hBS:B≠ps:=fun e=>by
  have:=h.sorter
  unfold SorterAt at this
  unfold EBox at hB
  rw [e,this] at hB
  simp at hB
 have n2:NoTag 263 w2 [s1.bx,bm]:=(h.runs.notag (t:=263) (by decide) (by decide) (by decide)).sub (fun k hk=>by
  simp only [List.mem_cons,List.not_mem_nil,or_false] at hk
  rcases hk with rfl | rfl<;>simp [runsF,diskF])
 have hB4:EBox w4 B an ao al acap arun asz:=by
  have hT:Touch (s1.bx::bm::s1.rv.ownBlock.toList) w2 w4:=(t3.mono (by simp)).trans (t4.mono (fun k hk=>by simp at hk; simp [hk]))
  refine hT.u.keep hB (by decide) (fun e=>?_)
  simp only [List.mem_cons,Option.mem_toList] at e
  rcases e with e | e | e
  ·exact n2.not_mem hB (by simp [e])
  ·exact n2.not_mem hB (by simp [e])
  ·exact (h.own.notag (t:=263) (by decide)).not_mem hB (by simp [e])
 refine ⟨h1,h2,h3,hB4,?_⟩
 have t5:Touch [ps] w4 (w4.setCell ⟨ps,13,none⟩ v'):=(Touch.refl [ps] w4).setCell (p:=⟨ps,13,none⟩) (by simp) v'
 exact t5.u.keep hB4 (by decide) (by simpa using hBS)
theorem spill_any (w:World) (ps bs:Nat) (s:SC) (hv:Value) (ks:List K) (L:List EV) (bm cols:Nat) (d:DS) (M:List PF) (pre:List RI) (o:Option RI) (rows:List Rec) (lr:Rec) (m j:Nat) (h:SpSt w ps bs s hv ks L bm cols d M pre o rows lr) (hL:L≠[]) (hl:Left d (m+2) (j+1)) :
  Calls Tryz.prog 167 #[.pointer (some ⟨ps,0,none⟩)] w fun e w'=>e=.returned (.tuple #[]) /\ ∃ s' hv' L' d' M' pre' x' lr',SpSt w' ps bs s' hv' ks L' bm cols d' M' pre' (some x') rows lr' /\ Same s s' /\ L'.length+1=L.length /\ Left d' m j /\ TouchU (sbF ps s hv bm M (pre++o.toList)) w w' /\ Sub w (sbF ps s' hv' bm M' (pre'++[x'])) (sbF ps s hv bm M (pre++o.toList)):=by
 obtain ⟨x,h0⟩:∃ x,L[0]?=some x:=by
  cases L with
  | nil=>exact absurd rfl hL
  | cons a l=>exact ⟨a,rfl⟩
 have hlen:L.length <= rows.length:=by
  have:=h.lists.perm.length_eq
  simp only [List.length_append,List.length_map] at this
  omega
 have hfew:=h.few
 have hxm:x∈L:=List.mem_of_getElem? h0
 obtain ⟨ao,acap,ea⟩:=(h.sb.heap.rows x hxm).1.shape
 have HV:Hid (x.val=.agg #[.int .i64 x.1.rc.no,.slice ao x.1.rc.row.length acap,.int .i64 x.1.run,.int .i64 x.1.size]):=by show _=_; unfold EV.val entVal; rw [ea]
 have HPOP:Hid (Calls Tryz.prog 174 #[.pointer (some ⟨ps,0,none⟩)] w fun e w'=>e=.returned (.agg #[.int .i64 x.1.rc.no,.slice ao x.1.rc.row.length acap,.int .i64 x.1.run,.int .i64 x.1.size]) /\ ∃ hv' L' s1,SB w' ps bs s1 hv' ks L' bm cols d M pre o /\ Same s s1 /\ s1.run=s.run /\ s1.length=s.length /\ s1.rv=s.rv /\ (x::L').Perm L /\ RowAt w' x.2 x.1.rc.row /\ Touch (ps::heapF s.ph hv) w w' /\ sbF ps s1 hv' bm M (pre++o.toList)=sbF ps s hv bm M (pre++o.toList)):=by
  have:=sbPop_any w ps bs s hv ks L bm cols d M pre o x h.sb h0 (by omega)
  rw [HV.out] at this
  refine this.mono ?_
  rintro e w' ⟨rfl,hv',L',n,p1,p2,p3,p4,p5⟩
  exact ⟨rfl,hv',L',_,p1,⟨rfl,rfl,rfl,rfl,rfl,rfl,rfl,rfl,rfl,rfl⟩,rfl,rfl,rfl,p2,p3,p5,by simp [sbF,heapF,p4]⟩
 have HX:Hid (x.2=.slice ao x.1.rc.row.length acap):=ea
 have HS:Hid (SpSt w ps bs s hv ks L bm cols d M pre o rows lr /\ L[0]?=some x /\ Left d (m+2) (j+1)):=⟨h,h0,hl⟩
 have hrv:∃ vo cap,s.rv=.slice vo (pre++o.toList).length cap /\ ((pre++o.toList).length=0 -> True):=by
  rcases h.sb.own.shape with ⟨e1,e2⟩ | ⟨g,cap,cur,e,_⟩
  ·exact ⟨none,0,by rw [e1,e2]; rfl,fun _=>trivial⟩
  ·exact ⟨_,cap,e,fun _=>trivial⟩
 obtain ⟨vo,vcap,hrv,_⟩:=hrv
 clear h h0 hxm ea HV hL hl hlen hfew
 generalize hal:x.1.rc.row.length=al at *
 generalize han:x.1.rc.no=an at *
 generalize harun:x.1.run=arun at *
 generalize hasz:x.1.size=asz at *
 have HE:Hid (x.1.rc.row.length=al /\ x.1.rc.no=an /\ x.1.run=arun /\ x.1.size=asz):=⟨hal,han,harun,hasz⟩
 clear hal han harun hasz
 generalize hq:(pre++o.toList).length=q at *
 have HQ:Hid ((pre++o.toList).length=q):=hq
 clear hq
 go_enter Tryz.func167,Tryz.ntmps167
 go_wp2_with (go_at_call 174; refine HPOP.out.mono ?_; rintro e w1 ⟨rfl,hv1,L1,s1,p1,p2,p3,p4,p5,p6,p7,p8,p9⟩; have HP1:Hid _:=p1; have HP2:Hid (Same s s1):=p2; obtain ⟨c0,c1,c2,c3,c4,c5,c6,c7,c8,c9,c10,c11,c12,c13,c14,c15,cf⟩:=p1.sorter.cell; have HP5:Hid (s1.rv=s.rv):=p5; rw [p5,hrv] at c13; have HP3:Hid (s1.run=s.run):=p3; rw [p3] at c9; have HP4:Hid (s1.length=s.length):=p4; have hps1:=(Array.getElem?_eq_some_iff.1 p1.sorter).1; have HT:Hid _:=p8; have HF9:Hid _:=p9; clear p1 p2 p3 p4 p5 p8 p9 cf)
 go_cut [19] from 5 (fun c wx=>c=.bool (decide (q=0 \/ s.run < arun)) /\ ∃ k,wx=((w1.alloc (.cells #[.int .i64 an,.slice ao al acap,.int .i64 arun,.int .i64 asz] 263))).drewN k)
 case first=>
  by_cases hq0:q=0
  ·subst hq0
   go_big_quiet (fail)
   go_wp2
   go_meet
   case rel=>exact ⟨by simp,_,rfl⟩
  ·have b1:((q:Int) == 0)=false:=by simp; omega
   have b2:(q == 0)=false:=by simp; omega
   have b3:¬ (q:Int)=0:=by omega
   by_cases hlt:s.run < arun
   ·go_big_quiet (fail)
    go_wp2
    go_meet
    case rel=>exact ⟨by simp [hlt],_,rfl⟩
   ·go_big_quiet (fail)
    go_wp2
    go_meet
    case rel=>exact ⟨by simp [hlt,hq0],_,rfl⟩
 case rest=>
  obtain ⟨rfl,kd,rfl⟩:=hcut
  have HT1:Hid (Touch [] w1 ((w1.alloc (.cells #[.int .i64 an,.slice ao al acap,.int .i64 arun,.int .i64 asz] 263)).drewN kd)):=((Touch.refl [] w1).alloc _).drewN kd
  go_upto_if 19 with fail
  go_cut [] from 19 (fun wx=>∃ s3 d3 M3 pre3 x3,Mid w ps bs s hv ks bm cols M (pre++o.toList) rows m j hv1 L1 x w1.heap.size an ao al acap arun asz s3 d3 M3 pre3 x3 wx)
  case first=>
   by_cases hc:q=0 \/ s.run < arun
   ·have hd:decide (q=0 \/ s.run < arun)=true:=by simpa using hc
    have HEND:Hid (∀ W,Touch [] w1 W -> Calls Tryz.prog 197 #[.pointer (some ⟨ps,0,none⟩)] W fun e w'=>e=.returned (.tuple #[]) /\ ∃ pre' d' M',SB w' ps bs s1 hv1 ks L1 bm cols d' M' pre' none /\ pre'.map RI.recs=(pre++o.toList).map RI.recs /\ pre'.map RI.r=(pre++o.toList).map RI.r /\ Left d' (m+1) (j+1) /\ d'.last=d.last /\ Sub W (rowsOf M') (rowsOf M) /\ Touch (runsF s1.bx bm M (pre++o.toList)) W w'):=fun W hW=>
     sbEndRun_any (m+1) (j+1) (HP1.out.quiet hW (by simp) (fun k hk=>by simp at hk) (fun k hk=>by simp at hk) (fun k hk=>by simp at hk) (fun k hk=>by simp at hk)) HS.out.1.none HS.out.2.2
    have HAF1:Hid (∀ w2,Touch (runsF s1.bx bm M (pre++o.toList)) ((w1.alloc (.cells #[.int .i64 an,.slice ao al acap,.int .i64 arun,.int .i64 asz] 263)).drewN kd) w2 -> EBox w2 w1.heap.size an ao al acap arun asz):=fun w2 ht=>by
     have hb:EBox ((w1.alloc (.cells #[.int .i64 an,.slice ao al acap,.int .i64 arun,.int .i64 asz] 263)).drewN kd) w1.heap.size an ao al acap arun asz:=heap_alloc_new w1 _
     exact ht.u.keep hb (by decide) (fun e=>by have:=HP1.out.lt w1.heap.size (by simp only [sbF,List.mem_cons,List.mem_append]; exact .inr (.inr e)); omega)
    go_wp2_with (go_at_call 197; refine (HEND.out _ HT1.out).mono ?_; rintro e w2 ⟨rfl,pre2,d2,M2,r1,r2,r3,r4,r5,r6,r7⟩; have hbox:=HAF1.out _ r7; have HR1:Hid _:=r1; have HBOX:Hid (EBox w2 w1.heap.size an ao al acap arun asz):=hbox; obtain ⟨x0,x1,x2,x3⟩:=box4 hbox; clear c0 c1 c2 c3 c4 c5 c6 c7 c8 c9 c10 c11 c12 c13 c14 c15; obtain ⟨c0,c1,c2,c3,c4,c5,c6,c7,c8,c9,c10,c11,c12,c13,c14,c15,cf⟩:=r1.sorter.cell; rw [HP5.out,hrv] at c13; have f9:=cf 9; have f10:=cf 10; have f13:=cf 13; have hps2:=(Array.getElem?_eq_some_iff.1 r1.sorter).1; have HR2:Hid _:=r2; have HR3:Hid _:=r3; have HR7:Hid _:=r7; clear r1 r2 r3 r7 cf hbox)
    have HNEW:Hid (∀ W,Touch [] w2 W -> Calls Tryz.prog 112 #[.agg #[.pointer (some ⟨s1.bx,0,none⟩),.int .i64 (s1.blk:Int)]] W fun e w'=>∃ y:RI,e=.returned (.pointer (some ⟨y.r,0,none⟩)) /\ w2.heap.size <= y.r /\ y.recs=[] /\ ∃ d' M',RunsSt w' s1.bx bm s1.blk cols d' M' pre2 (some y) /\ Left d' (m+1) j /\ d'.last=d2.last+1 /\ rowsOf M'=rowsOf M2 /\ Touch [s1.bx,bm] w2 w'):=fun W hW=>by
     refine (sbNew_any (m+1) j (HR1.out.quiet hW (by simp) (fun k hk=>by simp at hk) (fun k hk=>by simp at hk) (fun k hk=>by simp at hk) (fun k hk=>by simp at hk)) r4).mono ?_
     rintro e w' ⟨y,rfl,y1,y2,d',M',y3,y4,y5,y6,y7⟩
     exact ⟨y,rfl,Nat.le_trans hW.size y1,y2,d',M',y3,y4,y5,y6,(hW.mono (by simp)).trans y7⟩
    have HL2:Hid (pre2.length=q):=by have:=congrArg List.length HR3.out; rw [List.length_map,List.length_map,HQ.out] at this; exact this
    have HAF3:Hid (∀ w3,Touch [s1.bx,bm] w2 w3 -> SorterAt w3 ps s1 /\ POwn w3 (.slice vo q vcap) pre2 /\ EBox w3 w1.heap.size an ao al acap arun asz):=fun w3 ht=>by
     have n2:∀ t,(117:TypeId)≠t -> (9:TypeId)≠t -> (223:TypeId)≠t -> NoTag t w2 [s1.bx,bm]:=fun t h1 h2 h3=>(HR1.out.runs.notag h1 h2 h3).sub (fun k hk=>by
      simp only [List.mem_cons,List.not_mem_nil,or_false] at hk
      rcases hk with rfl | rfl<;>simp [runsF,diskF])
     refine ⟨HR1.out.sorter.u ht.u ((n2 260 (by decide) (by decide) (by decide)).not_mem HR1.out.sorter),?_,ht.u.keep HBOX.out (by decide) ((n2 263 (by decide) (by decide) (by decide)).not_mem HBOX.out)⟩
     have h1:=HR1.out.own
     simp only [Option.toList_none,List.append_nil] at h1
     rw [HP5.out,hrv] at h1
     exact h1.u ht.u (fun k hk e=>(n2 194 (by decide) (by decide) (by decide)).not_mem (h1.block k hk).choose_spec e)
    have HQS:Hid (q <= 1000000000):=by
     have h1:=HS.out.1.many
     have h2:=HS.out.2.2.last
     rw [HQ.out] at h1
     show q <= 1000000000
     omega
    go_region_law (first | (refine step_ptr rfl (.tmp 26) (.tmp 32) rfl (.slice vo q vcap) pre2 (by simp [Act.eval]) (by exact World.ownsRow.alloc HOWN3.out _) ⟨w3.heap.size,0,none⟩ y 1 (by simp [Act.eval]) (by exact (boxOne (heap_alloc_new w3 _))) (by rw [HL2.out]; exact HQS.out) ?_; intro g cp w4 hP4 hG4 hat4 hlt4; obtain ⟨s4,sb4,t4,bx4,bx5⟩:=HAF4.out _ _ _ hP4 hG4; obtain ⟨a0,a1,a2,a3,a4,a5,a6,a7,a8,a9,a10,a11,a12,a13,a14,a15,af⟩:=s4.cell; have g9:=af 9; have g10:=af 10; have g13:=af 13; obtain ⟨e0,e1,e2,e3⟩:=box4 bx4; have HSB4:Hid _:=sb4; have HT4:Hid _:=t4; have HBX5:Hid _:=bx5; have HS4:Hid _:=s4; rw [HP5.out,hrv] at a13; clear sb4 t4 bx4 bx5 s4 af) | (go_simp; go_at_call 112; refine (HNEW.out _ ((Touch.refl [] _).drew)).mono ?_; rintro e w3 ⟨y,rfl,y1,y2,d3,M3,y3,y4,y5,y6,y7⟩; obtain ⟨s3,own3,bx3⟩:=HAF3.out _ y7; have HOWN3:Hid _:=own3; have HAF4:Hid (∀ g cp w4,POwn w4 (.slice (some ⟨g,0,none⟩) (pre2.length+1) cp) (pre2++[y]) -> (w3.alloc (.cells #[.pointer (some ⟨y.r,0,none⟩)] 194)).grownBy w4 (Value.slice vo q vcap).ownBlock -> _):=(fun g cp w4 hP hG=>push_mid4 HR1.out HBOX.out (HP5.out.trans hrv) y3 y7 hP hG); obtain ⟨b0,b1,b2,b3,b4,b5,b6,b7,b8,b9,b10,b11,b12,b13,b14,b15,bf⟩:=s3.cell; rw [HP5.out,hrv] at b13; have hps3:=(Array.getElem?_eq_some_iff.1 s3).1; have HY3:Hid _:=y3; have HY7:Hid _:=y7; clear own3 bx3 s3 bf y3 y7))
    all_goals
     go_wp2
     go_meet
     case rel=>
      refine ⟨_,_,_,_,_,mid_fresh HS.out.1 HS.out.2.1 p6 HP1.out HP2.out p7 HT.out HF9.out (by rw [HQ.out,HE.out.2.2.1]; exact hc) HE.out.2.2.1 HT1.out (by show w1.heap.size < _; simp [World.drewN]) HR2.out HR3.out r5 r6 HR7.out y1 y2 y4 y5 y6 HSB4.out HT4.out (fun g' hg'=>?_) HBX5.out⟩
      simp only [Value.ownBlock,Option.some.injEq] at hg'
      subst hg'
      rcases hat4 with h | h
      ·exact .inl (by rw [HP5.out,hrv]; exact h)
      ·exact .inr (by have:=HY7.out.size; rw [h]; simp; omega)
   ·have hd:decide (q=0 \/ s.run < arun)=false:=by simpa using hc
    go_wp2
    go_meet
    case rel=>exact mid_same HS.out.1 HS.out.2.1 HS.out.2.2 p6 HP1.out HP2.out HP3.out HP4.out p7 HT.out HF9.out (by rw [HQ.out,HE.out.2.2.1]; exact hc) HT1.out (heap_alloc_new w1 _)
  case rest=>
   obtain ⟨s3,d3,M3,pre3,x3,hM⟩:=hcut
   have HM:Hid (Mid w ps bs s hv ks bm cols M (pre++o.toList) rows m j hv1 L1 x w1.heap.size an ao al acap arun asz s3 d3 M3 pre3 x3 wc):=hM
   obtain ⟨hcnt,hrl⟩:=mid_count HS.out.1 hM
   clear c0 c1 c2 c3 c4 c5 c6 c7 c8 c9 c10 c11 c12 c13 c14 c15 hps1
   obtain ⟨c0,c1,c2,c3,c4,c5,c6,c7,c8,c9,c10,c11,c12,c13,c14,c15,cf⟩:=hM.sb.sorter.cell
   obtain ⟨x0,x1,x2,x3c⟩:=box4 hM.box
   have f11:=cf 11
   have f12:=cf 12
   have hBp:w1.heap.size≠ps:=fun e=>hM.far (by rw [e]; simp [sbF])
   have hBp2:ps≠w1.heap.size:=fun e=>hBp e.symm
   rcases hM.sb.own.shape with ⟨_,e⟩ | ⟨g,cap,cur,hv3,hh,hgc,hgm,hsz,hx⟩
   ·simp at e
   have hlast:=hx pre3.length (by simp)
   have hlc:wc.cell? ⟨g,pre3.length,none⟩=some (.pointer (some ⟨x3.r,0,none⟩)):=by
    simp only [World.cell?,hh]
    rw [hlast]
    simp [RI.ptr]
   have hgp:g≠ps:=fun e=>by
    have:=hM.sb.sorter
    unfold SorterAt at this
    rw [e,this] at hh
    simp at hh
   have hgB:g≠w1.heap.size:=fun e=>by
    have:=hM.box
    unfold EBox at this
    rw [e,this] at hh
    simp at hh
   rw [hv3] at c13
   simp only [Option.toList_some,List.length_append,List.length_cons,List.length_nil,Nat.zero_add] at c13 hgc
   have hlm:pre3.length+1 <= maxLen:=Nat.le_trans hgc hgm
   have HADD:Hid (∀ W,Touch [] ((wc.setCell ⟨ps,11,none⟩ (.int .i64 an)).setCell ⟨ps,12,none⟩ (.slice ao al acap)) W -> Calls Tryz.prog 113 #[.pointer (some ⟨x3.r,0,none⟩),.agg #[.int .i64 an,.slice ao al acap]] W fun e w'=>e=.returned (.tuple #[]) /\ ∃ (x':RI) (d':DS) (M':List PF),SB w' ps bs { s3 with lno:=an,lv:=.slice ao al acap } hv1 ks L1 bm cols d' M' pre3 (some x') /\ x'.r=x3.r /\ x'.recs=x3.recs++[x.1.rc] /\ Left d' m j /\ d'.last=d3.last /\ Sub wc (rowsOf M') (rowsOf M3) /\ TouchU (ps::runsF s3.bx bm M3 (pre3++[x3])) wc w'):=fun W hW=>by
    have t5:Touch [ps] wc ((wc.setCell ⟨ps,11,none⟩ (.int .i64 an)).setCell ⟨ps,12,none⟩ (.slice ao al acap)):=((Touch.refl [ps] wc).setCell (p:=⟨ps,11,none⟩) (by simp) _).setCell (p:=⟨ps,12,none⟩) (by simp) _
    have sb5:=(HM.out.sb.cells ((HM.out.sb.sorter.setLno an).setLv (.slice ao al acap)) t5 rfl rfl rfl rfl rfl rfl).quiet hW (by simp) (fun k hk=>by simp at hk) (fun k hk=>by simp at hk) (fun k hk=>by simp at hk) (fun k hk=>by simp at hk)
    have T5:Touch [ps] wc W:=t5.trans (hW.mono (by simp))
    have hrow:RowAt W (.slice ao al acap) x.1.rc.row:=by
     rw [<- HX.out]
     exact Sl3.keep HM.out.row (T5.tag (notag_of HM.out.sb.sorter (by decide)))
    have:=sbAdd_any m j x.1.rc (.slice ao al acap) sb5 (by have h1:=(HS.out.1.sb.ents x (List.mem_of_getElem? HS.out.2.1)).2; rw [<- HM.out.same.blk] at h1; exact h1) hrow (by omega) HM.out.left
    rw [HE.out.2.1] at this
    refine this.mono ?_
    rintro e w' ⟨rfl,x',d',M',p1,p2,p3,p4,p5,p6,p7⟩
    exact ⟨rfl,x',d',M',p1,p2,p3,p4,p5,fun k hk=>by rcases p6 k hk with h | h; exact .inl h; exact .inr (Nat.le_trans T5.size h),(T5.u.mono (by simp)).trans (p7.mono (fun k hk=>List.mem_cons_of_mem _ hk))⟩
   have HAF:Hid (∀ W,TouchU (ps::runsF s3.bx bm M3 (pre3++[x3])) wc W -> W.cell? ⟨g,pre3.length,none⟩=some (.pointer (some ⟨x3.r,0,none⟩)) /\ EBox W w1.heap.size an ao al acap arun asz):=fun W hW=>by
    have nt:∀ t,260≠t -> 117≠t -> 9≠t -> 223≠t -> NoTag t wc (ps::runsF s3.bx bm M3 (pre3++[x3])):=fun t h0 h1 h2 h3=>(HM.out.sb.runs.notag h1 h2 h3).cons HM.out.sb.sorter h0
    refine ⟨?_,hW.keep HM.out.box (by decide) ((nt 263 (by decide) (by decide) (by decide) (by decide)).not_mem HM.out.box)⟩
    have h1:=hW.keep hh (by decide) ((nt 194 (by decide) (by decide) (by decide) (by decide)).not_mem hh)
    simp only [World.cell?,h1]
    rw [hlast]
    simp [RI.ptr]
   have hcz:(s3.length:Int) < (s3.count:Int):=by omega
   have HLN:Hid (s3.length=x3.recs.length):=hM.length
   have hs3:s3.length < 100000:=by have:=hM.length; omega
   clear hx hh hlast hsz hM cf
   generalize hnn:pre3.length=n at *
   have HN:Hid (pre3.length=n):=hnn
   clear hnn
   have hlm2:n+1 <= 9223372036854775807:=by unfold maxLen at hlm; omega
   have hw1:IntKind.i64.wrap ((n:Int)+1 - 1)=(n:Int):=by rw [wrap_small _ (by omega) (by omega)]; omega
   have hw2:IntKind.i64.wrap (n:Int)=(n:Int):=wrap_small _ (by omega) (by omega)
   have hpos:(0:Int) < (n:Int)+1:=by omega
   have hn1:(n:Int) < (n:Int)+1:=by omega
   have hn2:n < n+1:=by omega
   have HV3:Hid (s3.rv=.slice (some ⟨g,0,none⟩) (n+1) cap):=by have:=hv3; simp only [Option.toList_some,List.length_append,List.length_cons,List.length_nil,Nat.zero_add] at this; exact HN.out▸this
   clear hv3
   have k1:((wc.setCell ⟨ps,11,none⟩ (.int .i64 an)).setCell ⟨ps,12,none⟩ (.slice ao al acap)).cell? ⟨ps,13,none⟩=some (.slice (some ⟨g,0,none⟩) (n+1) cap):=by simp [c13,go_sem]
   have k2:((wc.setCell ⟨ps,11,none⟩ (.int .i64 an)).setCell ⟨ps,12,none⟩ (.slice ao al acap)).cell? ⟨g,n,none⟩=some (.pointer (some ⟨x3.r,0,none⟩)):=by simp [hlc,go_sem]
   go_wp2
   go_big_quiet (fail)
   go_wp2
   go_region_held3 (fun w'=>w'.cell? ⟨ps,13,none⟩=some (.slice (some ⟨g,0,none⟩) (n+1) cap) /\ w'.cell? ⟨g,n,none⟩=some (.pointer (some ⟨x3.r,0,none⟩)) /\ w'.cell? ⟨w1.heap.size,0,none⟩=some (.int .i64 an) /\ w'.cell? ⟨w1.heap.size,1,none⟩=some (.slice ao al acap)) (go_keep) (first | (go_at_call 113; refine (HADD.out _ (by first | exact ((Touch.refl [] _).drewN _).drew | exact (Touch.refl [] _).drew)).mono ?_; rintro e w6 ⟨rfl,x',d',M',q1,q2,q3,q4,q5,q6,q7⟩; obtain ⟨a1,a2⟩:=HAF.out _ q7; obtain ⟨z0,z1,z2,z3⟩:=box4 a2; obtain ⟨b0,b1,b2,b3,b4,b5,b6,b7,b8,b9,b10,b11,b12,b13,b14,b15,bf⟩:=q1.sorter.cell; have g10:=bf 10; have b13':=b13.trans (congrArg some HV3.out); have HQ1:Hid _:=q1; have HQ7:Hid _:=q7; clear q1 q7 a2 b13 bf))
   all_goals
    go_wp2
    go_end0
    exact ⟨rfl,_,_,_,_,_,_,_,_,mid_end HS.out.1 HS.out.2.1 HX.out HE.out.2.1 HM.out HQ1.out q2 q3 q4 q5 q6 HQ7.out rfl p6⟩
end Go.Proofs.YtjoinhljdbljaaaGreat
