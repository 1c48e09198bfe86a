/- A sorter that holds all its rows in memory, and what follows. -/
import Derived.Test.YtjoinhljdbljaaaGreatCntRToCntV
import Derived.BigQuiet
set_option maxHeartbeats 4000000
set_option maxRecDepth 20000
namespace Go.Proofs.YtjoinhljdbljaaaGreat
open Go.RowKit
structure MB (w:World) (ps bs:Nat) (s:SC) (hv:Value) (ks:List K) (L:List EV) (cols:Nat) (rows:List Rec) (lr:Rec):Prop where
 sorter:SorterAt w ps s
 heap:HeapSt w s.ph hv bs ps ks L
 held:sizes L=s.held
 ents:∀ x∈L,x.1.size=sizeR x.1.rc.row /\ RecOK s.blk cols x.1.rc
 rv:s.rv=.slice none 0 0
 lists:Spill ks rows (L.map Prod.fst) s.run [] lr
 run:s.run=0
 few:rows.length <= 100000
theorem MB.quiet {w w':World} {ps bs:Nat} {s:SC} {hv:Value} {ks:List K} {L:List EV} {cols:Nat} {rows:List Rec} {lr:Rec} (h:MB w ps bs s hv ks L cols rows lr) (t:Touch [] w w'):MB w' ps bs s hv ks L cols rows lr:=
 { h with sorter:=h.sorter.u t.u (by simp),heap:=h.heap.away h.sorter (h.sorter.u t.u (by simp)) rfl t.u (by simp) (fun k hk=>by simp at hk) (fun k hk=>by simp at hk) (fun k hk=>by simp at hk) }
theorem memEnd {wr Wm w9:World} {ps bs:Nat} {s s':SC} {hv hv9:Value} {ks:List K} {L L9:List EV} {cols:Nat} {rows:List Rec} {lr:Rec} {x:EV}
  (h:MB wr ps bs s hv ks L cols rows lr) (hS:SorterAt Wm ps s') (eph:s'.ph=s.ph) (eblk:s'.blk=s.blk) (erv:s'.rv=s.rv) (erun:s'.run=s.run) (hp:HeapSt w9 s.ph hv9 bs ps ks L9) (perm:L9.Perm (L++[x])) (tp:Touch (heapF s.ph hv) Wm w9) (hHm:HeapSt Wm s.ph hv bs ps ks L)
  (hn:(s'.held:Int)=s.held+x.1.size) (hx:x.1.size=sizeR x.1.rc.row /\ RecOK s.blk cols x.1.rc) (hrun:x.1.run=s.run) (few:rows.length+1 <= 100000) :
  MB w9 ps bs s' hv9 ks L9 cols (rows++[x.1.rc]) lr:=by
 have np:∀ t,(302:TypeId)≠t -> (263:TypeId)≠t -> NoTag t Wm (heapF s.ph hv):=fun t h1 h2=>hHm.notag h1 h2
 refine ⟨hS.u tp.u ((np 260 (by decide) (by decide)).not_mem hS),by rw [eph]; exact hp,?_,fun y hy=>?_,erv.trans h.rv,?_,erun.trans h.run,by simp; omega⟩
 ·rw [sizes_perm perm,sizes_snoc,h.held,hn]
 ·rw [eblk]
  rcases List.mem_append.1 (perm.mem_iff.1 hy) with hy | hy
  ·exact h.ents y hy
  ·rw [List.mem_singleton.1 hy]; exact hx
 ·rw [erun]
  refine h.lists.add (items':=L9.map Prod.fst) x.1 ?_ (heap_fst hp.ok) (by simpa using perm.map Prod.fst)
  simp [hrun]
theorem sorterAdd_mem (w:World) (ps bs:Nat) (s:SC) (hv:Value) (ks:List K) (L:List EV) (cols:Nat) (rows:List Rec) (lr:Rec) (v:Value) (row:List V) (h:MB w ps bs s hv ks L cols rows lr) (hcame:s.came=rows.length) (hrow:RowAt w v row) (hrec:RecOK s.blk cols ⟨rows.length,row⟩) (hable:Able ks row) (few:rows.length+1 <= 100000) (hc2:cols <= 1000) (hb2:s.blk <= 4096) (hmost:s.held+sizeR row <= s.most) (hmm:s.most <= 1000000000) :
  Calls Tryz.prog 135 #[.pointer (some ⟨ps,0,none⟩),v] w fun e w'=>e=.returned (.tuple #[]) /\ ∃ hv9 L9 nh,MB w' ps bs { s with came:=rows.length+1,held:=nh } hv9 ks L9 cols (rows++[⟨rows.length,row⟩]) lr /\ nh=s.held+sizeR row /\ Touch (ps::heapF s.ph hv) w w' /\ ∀ k,hv9.ownBlock=some k -> hv.ownBlock=some k \/ w.heap.size <= k:=by
 have HSZ:Hid (∀ W,Touch [] w W -> Calls Tryz.prog 141 #[v] W fun e w'=>e=.returned (.int .i64 (sizeR row:Int)) /\ Touch [] W w'):=fun W hW=>size_any W v row (hrow.touch hW) hrec.fair (by have h1:=hrec.len; have h3:row.length=cols:=h1; omega)
 obtain ⟨ao,acap,ea⟩:=hrow.shape
 have HS:Hid (MB w ps bs s hv ks L cols rows lr /\ RowAt w v row /\ RecOK s.blk cols ⟨rows.length,row⟩ /\ Able ks row /\ rows.length+1 <= 100000):=⟨h,hrow,hrec,hable,few⟩
 obtain ⟨c0,c1,c2,c3,c4,c5,c6,c7,c8,c9,c10,c11,c12,c13,c14,c15,cf⟩:=h.sorter.cell
 have hps:ps < w.heap.size:=(Array.getElem?_eq_some_iff.1 h.sorter).1
 have hszb:sizeR row <= 4096:=by have h1:=hrec.size; have h3:16+sizeR row <= s.blk:=h1; omega
 have f8:=cf 8
 have HCA0:Hid (s.came=rows.length):=hcame
 rw [hcame] at c8
 have hL':L.length <= 100000:=by
  have h1:=h.lists.perm.length_eq
  simp only [List.length_append,List.length_map,List.flatten_nil,List.length_nil] at h1
  omega
 clear h hrow hrec hable cf hcame
 subst ea
 generalize hal:row.length=al at *
 have HAL:Hid (row.length=al):=hal
 clear hal
 generalize hsz:sizeR row=sz at *
 have HZ:Hid (sizeR row=sz):=hsz
 clear hsz
 generalize hn:rows.length=n at *
 have HN:Hid (rows.length=n):=hn
 have HCA:Hid ((s.came:Int)=(n:Int)):=by have:=HCA0.out; show (s.came:Int)=n; omega
 clear hn HCA0
 go_enter Tryz.func135,Tryz.ntmps135
 go_wp2
 go_cut [4] from 5 (fun a wx=>∃ B,a=.pointer (some ⟨B,0,none⟩) /\ EBox wx B (n:Int) ao al acap 0 (sz:Int) /\ Touch [] w wx /\ w.heap.size <= B)
 case first=>
  have HC8:Hid (∀ W,Touch [] w W -> W.cell? ⟨ps,8,none⟩=some (.int .i64 (n:Int))):=fun W hW=>cell_touch c8 hW
  have hne1:w.heap.size≠ps:=by omega
  have hne2:ps≠w.heap.size:=by omega
  go_region_held3 (fun w'=>w'.cell? ⟨ps,8,none⟩=some (.int .i64 (n:Int))) (go_keep) (first | (go_at_call 141; refine (HSZ.out _ ((Touch.refl [] _).drew)).mono ?_; rintro e w1 ⟨rfl,hT1⟩; have b8:=HC8.out w1 (((Touch.refl [] _).drew).trans hT1); have HT1:Hid (Touch [] w w1):=(((Touch.refl [] _).drew).trans hT1); clear hT1) | (go_at_call 141; refine (HSZ.out _ (((Touch.refl [] _).alloc _).drew)).mono ?_; rintro e w1 ⟨rfl,hT1⟩; have b8:=HC8.out w1 ((((Touch.refl [] _).alloc _).drew).trans hT1); have HT1:Hid (Touch [] w w1):=((((Touch.refl [] _).alloc _).drew).trans hT1); have hbx:w1.heap[w.heap.size]?=some (.cells #[.int .i64 0,.slice none 0 0,.int .i64 0,.int .i64 0] 263 (0,0)):=(hT1.block w.heap.size (by simp) (by simp)).trans (heap_alloc_new w _); obtain ⟨x0,x1,x2,x3⟩:=box4 hbx; have z0:w1.frozen? ⟨w.heap.size,0,none⟩=false:=(by simp [World.frozen?,hbx]); have z1:w1.frozen? ⟨w.heap.size,1,none⟩=false:=(by simp [World.frozen?,hbx]); have z2:w1.frozen? ⟨w.heap.size,2,none⟩=false:=(by simp [World.frozen?,hbx]); have z3:w1.frozen? ⟨w.heap.size,3,none⟩=false:=(by simp [World.frozen?,hbx]); have HBX:Hid _:=hbx; clear hT1 hbx))
  all_goals
   go_wp2_with fail
   go_meet
   case rel=>first | exact ⟨_,rfl,heap_alloc_new w1 _,HT1.out.alloc _,HT1.out.size⟩ | exact ⟨_,rfl,ebox_set HBX.out _ _ _ _ _ _,HT1.out.onto (((((Touch.refl [w.heap.size] w1).setCell (p:=⟨w.heap.size,0,none⟩) (by simp) _).setCell (p:=⟨w.heap.size,1,none⟩) (by simp) _).setCell (p:=⟨w.heap.size,2,none⟩) (by simp) _).setCell (p:=⟨w.heap.size,3,none⟩) (by simp) _) (fun i hi=>.inr (by simp at hi; omega)),Nat.le_refl _⟩
 case rest=>
  obtain ⟨B,rfl,hbox,hT0,hBn⟩:=hcut
  have hSw:=HS.out.1.quiet hT0
  clear c0 c1 c2 c3 c4 c5 c6 c7 c8 c9 c10 c11 c12 c13 c14 c15 f8
  obtain ⟨c0,c1,c2,c3,c4,c5,c6,c7,c8,c9,c10,c11,c12,c13,c14,c15,cf⟩:=hSw.sorter.cell
  have f8:=cf 8
  have c8':wc.cell? ⟨ps,8,none⟩=some (.int .i64 (n:Int)):=by rw [c8,HCA.out]
  have hBp:B≠ps:=by omega
  have t8:Touch [ps] wc (wc.setCell ⟨ps,8,none⟩ (.int .i64 ((n+1:Nat):Int))):=(Touch.refl [ps] wc).setCell (p:=⟨ps,8,none⟩) (by simp) _
  have hS8:=hSw.sorter.setCame (n+1)
  have hw0:IntKind.i64.wrap ((n:Int)+1)=(n:Int)+1:=wrap_small _ (by omega) (by omega)
  have HSW:Hid (MB wc ps bs s hv ks L cols rows lr):=hSw
  have hb8:=t8.u.keep hbox (by decide) (by simpa using hBp)
  clear c8 cf hSw hbox
  go_wp2
  have hS8':SorterAt (wc.setCell ⟨ps,8,none⟩ (.int .i64 ((n:Int)+1))) ps { s with came:=n+1 }:=hS8
  have t8':Touch [ps] wc (wc.setCell ⟨ps,8,none⟩ (.int .i64 ((n:Int)+1))):=t8
  have hb8':EBox (wc.setCell ⟨ps,8,none⟩ (.int .i64 ((n:Int)+1))) B n ao al acap 0 sz:=hb8
  clear hS8 t8 hb8
  generalize wc.setCell ⟨ps,8,none⟩ (.int .i64 ((n:Int)+1))=wr at *
  have hpsr:ps < wr.heap.size:=(Array.getElem?_eq_some_iff.1 hS8').1
  have hBr:B < wr.heap.size:=(Array.getElem?_eq_some_iff.1 hb8').1
  clear c0 c1 c2 c3 c4 c5 c6 c7 c8' c9 c10 c11 c12 c13 c14 c15 f8
  obtain ⟨c0,c1,c2,c3,c4,c5,c6,c7,c8,c9,c10,c11,c12,c13,c14,c15,cf⟩:=hS8'.cell
  simp only at c0 c1 c2 c3 c4 c5 c6 c7 c8 c9 c10 c11 c12 c13 c14 c15
  obtain ⟨x0,x1,x2,x3⟩:=box4 hb8'
  have fB:=(show wr.frozen? ⟨B,2,none⟩=false by have:=hb8'; unfold EBox at this; simp [World.frozen?,this])
  have hrn:s.run=0:=HSW.out.run
  rw [hrn] at c9
  rw [HSW.out.rv] at c13
  have ht:¬ (s.most:Int) < (s.held:Int)+(sz:Int):=by omega
  have hw1:IntKind.i64.wrap ((s.held:Int)+(sz:Int))=(s.held:Int)+(sz:Int):=wrap_small _ (by omega) (by omega)
  have HWR:Hid (SorterAt wr ps { s with came:=n+1 } /\ Touch [ps] wc wr /\ EBox wr B n ao al acap 0 sz):=⟨hS8',t8',hb8'⟩
  have nb1:∀ t,(260:TypeId)≠t -> NoTag t wc [ps]:=fun t ht=>notag_of HSW.out.sorter ht
  have HMB:Hid (MB wr ps bs { s with came:=n+1 } hv ks L cols rows lr /\ Touch [ps] w wr /\ B∉heapF s.ph hv /\ RowAt wr (.slice ao al acap) row):=by
   refine ⟨{ HSW.out with sorter:=hS8',heap:=HSW.out.heap.away HSW.out.sorter hS8' rfl t8'.u (fun k hk e=>?_) (nb1 _ (by decide)) (nb1 _ (by decide)) (nb1 _ (by decide)) },(hT0.mono (by simp)).trans t8',fun e=>?_,Sl3.keep (HS.out.2.1.touch hT0) (t8'.tag (nb1 _ (by decide)))⟩
   ·rw [List.mem_singleton.1 hk] at e
    exact (HSW.out.heap.notag (t:=260) (by decide) (by decide)).not_mem HSW.out.sorter e
   ·have h1:B < w.heap.size:=by
     rcases List.mem_cons.1 e with e | e
     ·rw [e]; exact (Array.getElem?_eq_some_iff.1 HS.out.1.heap.head).1
     ·obtain ⟨cs,f,hc⟩:=HS.out.1.heap.items.tag B (by simpa using e)
      exact (Array.getElem?_eq_some_iff.1 hc).1
    omega
  clear hS8' t8' hb8' cf hrn nb1
  refine wp_loop_rounds 1 ?_
  rw [rounds_succ]
  go_wp2
  go_big_quiet (fail)
  go_wp2
  have hB4:EBox ((wr.drewN nq).setCell ⟨B,2,none⟩ (.int .i64 0)) B n ao al acap 0 sz:=ebox_run (w:=wr.drewN nq) HWR.out.2.2 0
  have T4:Touch [B] wr ((wr.drewN nq).setCell ⟨B,2,none⟩ (.int .i64 0)):=((Touch.refl [B] wr).drewN nq).setCell (p:=⟨B,2,none⟩) (by simp) _
  have HB4:Hid _:=hB4
  have HT4:Hid _:=T4
  clear hB4 T4
  go_cut [55] from 40 (fun b wx=>b=.bool false /\ Touch [B] wr wx /\ EBox wx B n ao al acap 0 sz)
  case first=>
   go_big_quiet (fail)
   go_wp2
   go_meet
   case rel=>exact ⟨by simp,HT4.out.drewN _,HB4.out⟩
  case rest=>
   obtain ⟨rfl,hT6,hB6⟩:=hcut
   clear c0 c1 c2 c3 c4 c5 c6 c7 c8 c9 c10 c11 c12 c13 c14 c15 x0 x1 x2 x3 fB
   have hS6:SorterAt wc ps { s with came:=n+1 }:=HWR.out.1.u hT6.u (by simpa using hBp.symm)
   obtain ⟨c0,c1,c2,c3,c4,c5,c6,c7,c8,c9,c10,c11,c12,c13,c14,c15,cf⟩:=hS6.cell
   simp only at c0 c1 c2 c3 c4 c5 c6 c7 c8 c9 c10 c11 c12 c13 c14 c15
   obtain ⟨y0,y1,y2,y3⟩:=box4 hB6
   have f7:=cf 7
   obtain ⟨nh,hnh⟩:∃ nh:Nat,(s.held:Int)+(sz:Int)=(nh:Int):=⟨s.held+sz,by omega⟩
   have HNH:Hid ((s.held:Int)+(sz:Int)=(nh:Int)):=hnh
   have hBp2:ps≠B:=hBp.symm
   have HM:Hid (SorterAt (wc.setCell ⟨ps,7,none⟩ (.int .i64 (nh:Int))) ps { s with came:=n+1,held:=nh } /\ Touch [ps,B] wr (wc.setCell ⟨ps,7,none⟩ (.int .i64 (nh:Int))) /\ EBox (wc.setCell ⟨ps,7,none⟩ (.int .i64 (nh:Int))) B n ao al acap 0 sz):=by
    have t7:Touch [ps] wc (wc.setCell ⟨ps,7,none⟩ (.int .i64 (nh:Int))):=(Touch.refl [ps] wc).setCell (p:=⟨ps,7,none⟩) (by simp) _
    exact ⟨hS6.held nh,(hT6.mono (by simp)).trans (t7.mono (by simp)),t7.u.keep hB6 (by decide) (by simpa using hBp)⟩
   have HPUSH:Hid (∀ W,Touch [] (wc.setCell ⟨ps,7,none⟩ (.int .i64 (nh:Int))) W -> Calls Tryz.prog 168 #[.pointer (some ⟨s.ph,0,none⟩),.agg #[.int .i64 (n:Int),.slice ao al acap,.int .i64 0,.int .i64 (sz:Int)]] W fun e w'=>e=.returned (.tuple #[]) /\ ∃ hv9 L9,MB w' ps bs { s with came:=n+1,held:=nh } hv9 ks L9 cols (rows++[⟨(n:Int),row⟩]) lr /\ Touch (ps::heapF s.ph hv) w w' /\ (∀ k,hv9.ownBlock=some k -> hv.ownBlock=some k \/ w.heap.size <= k) /\ (∃ cs f,w'.heap[ps]?=some (.cells cs 260 f) /\ cs[6]?=some (.pointer (some ⟨s.ph,0,none⟩))) /\ EBox w' B n ao al acap 0 sz):=fun W hW=>by
    obtain ⟨hA,hTw,hBF,hRw⟩:=HMB.out
    obtain ⟨m1,m2,m3⟩:=HM.out
    have hSW:SorterAt W ps { s with came:=n+1,held:=nh }:=m1.u hW.u (by simp)
    have tW:Touch [ps,B] wr W:=m2.trans (hW.mono (by simp))
    have nb:∀ t,(260:TypeId)≠t -> (263:TypeId)≠t -> NoTag t wr [ps,B]:=fun t h1 h2=>(notag_of HWR.out.2.2 h2).cons hA.sorter h1
    have hHW:HeapSt W s.ph hv bs ps ks L:=by
     refine hA.heap.away hA.sorter hSW rfl tW.u (fun k hk e=>?_) (nb _ (by decide) (by decide)) (nb _ (by decide) (by decide)) (nb _ (by decide) (by decide))
     rcases List.mem_cons.1 hk with rfl | hk
     ·exact (hA.heap.notag (t:=260) (by decide) (by decide)).not_mem hA.sorter e
     ·rw [List.mem_singleton.1 hk] at e
      exact hBF e
    refine (push_any W s.ph hv bs ps ks L (⟨⟨(n:Int),row⟩,0,(sz:Int)⟩,.slice ao al acap) hHW ⟨Sl3.keep hRw (tW.tag (nb _ (by decide) (by decide))),HS.out.2.2.2.1⟩ (by omega)).mono ?_
    rintro e w9 ⟨rfl,hv9,L9,p1,p2,p3,p4⟩
    have hfin:=memEnd hA hSW rfl rfl rfl rfl p1 p2 p3 hHW (by have:=HNH.out; show (nh:Int)=(s.held:Int)+(sz:Int); omega) ⟨by show (sz:Int)=_; rw [<- HZ.out],HS.out.2.2.1⟩ hA.run.symm (by rw [HN.out]; exact HS.out.2.2.2.2)
    refine ⟨rfl,hv9,L9,hfin,?_,fun k hk=>?_,⟨_,_,hfin.sorter,by simp [SC.cells]⟩,?_⟩
    ·refine (hTw.mono (by simp)).onto ((tW.mono (F':=ps::B::heapF s.ph hv) (by simp)).trans (p3.mono (fun k hk=>by simp [hk]))) (fun k hk=>?_)
     rcases List.mem_cons.1 hk with rfl | hk
     ·exact .inl (by simp)
     ·rcases List.mem_cons.1 hk with rfl | hk
      ·exact .inr hBn
      ·exact .inl (List.mem_cons_of_mem _ hk)
    ·rcases p4 k hk with h1 | h1
     ·exact .inl h1
     ·exact .inr (Nat.le_trans (Nat.le_trans hTw.size tW.size) h1)
    ·exact p3.u.keep (hW.u.keep m3 (by decide) (by simp)) (by decide) hBF
   clear cf hT6 hB6 hS6
   rw [hnh] at hw1
   go_wp2
   go_region
   go_wp2
   obtain ⟨v0,v1,v2,v3⟩:=box4 HM.out.2.2
   have v6:=HM.out.1.cell.2.2.2.2.2.2.1
   go_region_held3 (fun w'=>w'.cell? ⟨ps,6,none⟩=some (.pointer (some ⟨s.ph,0,none⟩)) /\ w'.cell? ⟨B,0,none⟩=some (.int .i64 (n:Int)) /\ w'.cell? ⟨B,1,none⟩=some (.slice ao al acap) /\ w'.cell? ⟨B,2,none⟩=some (.int .i64 0) /\ w'.cell? ⟨B,3,none⟩=some (.int .i64 (sz:Int))) (go_keep) (first | (go_at_call 168; refine (HPUSH.out _ (by first | exact ((Touch.refl [] _).drew).drew | exact (Touch.refl [] _).drew | exact ((Touch.refl [] _).drewN _).drew)).mono ?_; rintro e w9 ⟨rfl,hv9,L9,q1,q2,q3,⟨qc,qf,q5,q6⟩,q7⟩; obtain ⟨g0,g1,g2,g3⟩:=box4 q7; have g6:w9.cell? ⟨ps,6,none⟩=some (.pointer (some ⟨s.ph,0,none⟩)):=(by simp [World.cell?,q5,q6]); have HQ1:Hid _:=q1; have HQ2:Hid _:=q2; have HQ3:Hid _:=q3; clear q1 q2 q3 q5 q6 q7))
   all_goals
    go_wp2
    go_end0
    exact ⟨rfl,hv9,L9,nh,HQ1.out,by have:=HNH.out; omega,HQ2.out,HQ3.out⟩
theorem end_mem (w:World) (ps:Nat) (s:SC) (hS:SorterAt w ps s) (hrv:s.rv=.slice none 0 0):Calls Tryz.prog 136 #[.pointer (some ⟨ps,0,none⟩)] w fun e w'=>e=.returned (.tuple #[]) /\ w'=w:=by
 obtain ⟨c0,c1,c2,c3,c4,c5,c6,c7,c8,c9,c10,c11,c12,c13,c14,c15,cf⟩:=hS.cell
 rw [hrv] at c13
 clear hS cf hrv
 go_enter Tryz.func136,Tryz.ntmps136
 go_wp2
 first | go_end0 | refine bodyPost_ret (results_none rfl _ _ _) rfl ?_
 exact ⟨rfl,rfl⟩
theorem recsOf_snoc (l:List (List V)) (r:List V):recsOf (l++[r])=recsOf l++[⟨(l.length:Int),r⟩]:=by simp [recsOf]
theorem MB.stay {W W':World} {ps bs:Nat} {s:SC} {hv:Value} {ks:List K} {L:List EV} {cols:Nat} {rows:List Rec} {lr:Rec} (h:MB W ps bs s hv ks L cols rows lr) (sp:∀ t∈SpT,∀ k∈ps::heapF s.ph hv,∀ (cs:Array Value) (f:Nat × Nat),W.heap[k]?=some (.cells cs t f) -> W'.heap[k]?=some (.cells cs t f)) (k:∀ t∈[228,73,85],KeepTag t W W'):MB W' ps bs s hv ks L cols rows lr:=by
 obtain ⟨cs,f,vk,k1,k2,k3⟩:=h.heap.ctx.keys
 have hS:SorterAt W' ps s:=sp 260 (by decide) _ (by simp) _ _ h.sorter
 refine { h with sorter:=hS,heap:=⟨sp 302 (by decide) _ (by simp [heapF]) _ _ h.heap.head,?_,⟨k 228 (by decide) _ _ _ h.heap.ctx.s,cs,f,vk,sp 260 (by decide) _ (by simp) _ _ k1,k2,Sl3.keep k3 (k 73 (by decide))⟩,fun x hx=>⟨Sl3.keep (h.heap.rows x hx).1 (k 85 (by decide)),(h.heap.rows x hx).2⟩,h.heap.ok⟩ }
 obtain ⟨a1,a2⟩:=h.heap.items
 refine ⟨a1,?_⟩
 rcases a2 with a2 | ⟨i,cap,cur,e,hb,hh,rest⟩
 ·exact .inl a2
 ·exact .inr ⟨i,cap,cur,e,hb,sp 263 (by decide) i (by rw [e]; simp [heapF,Value.ownBlock]) _ _ hh,rest⟩
structure GsI (N N':Nat) (D:List Nat) (ps bs ph bx blk count most:Nat) (ks:List K) (pr:List Rec -> List V) (s:List Nat × List (List Rec)) (W:World):Prop where
 st:∃ s1 hv L lr,MB W ps bs s1 hv ks L 1 (recsOf (s.2.map pr)) lr /\ (s1.came=s.2.length /\ s1.ph=ph /\ s1.bx=bx /\ s1.blk=blk /\ s1.count=count /\ s1.most=most /\ s1.mg=.pointer none /\ s1.given=0) /\ s1.held <= 48 * s.2.length /\ ∀ k∈ps::heapF ph hv,N <= k /\ k∉s.1 /\ (s.1=[] -> k < N' /\ k∉D)
 F:∀ k∈s.1,N' <= k \/ k∈D
 N_:N <= N'
section
variable {N N':Nat} {D:List Nat} {ps bs ph bx blk count most:Nat} {ks:List K} {pr:List Rec -> List V} {s:List Nat × List (List Rec)} {W W':World}
theorem GsI.keep (h:GsI N N' D ps bs ph bx blk count most ks pr s W) (sp:∀ t∈SpT,∀ k,N <= k -> k∉s.1 -> (s.1=[] -> k < N' /\ k∉D) -> ∀ (cs:Array Value) (f:Nat × Nat),W.heap[k]?=some (.cells cs t f) -> W'.heap[k]?=some (.cells cs t f)) (k:∀ t∈[228,73,85],KeepTag t W W'):GsI N N' D ps bs ph bx blk count most ks pr s W':=by
 obtain ⟨s1,hv,L,lr,h1,h2,h3,h4⟩:=h.st
 exact ⟨⟨s1,hv,L,lr,h1.stay (fun t ht i hi cs f e=>by
  rw [h2.2.1] at hi
  exact sp t ht i (h4 i hi).1 (h4 i hi).2.1 (h4 i hi).2.2 cs f e) k,h2,h3,h4⟩,h.F,h.N_⟩
theorem GsI.own {bm:Nat} (h:GsI N N' D ps bs ph bx blk count most ks pr s W) (o:OwnG GcT bm N' D s.1 W W'):GsI N N' D ps bs ph bx blk count most ks pr s W' /\ OwnG GcT bm N D [] W W':=by
 refine ⟨h.keep (fun t ht k _ h2 h3 cs f e=>o.spec t ((by decide:∀ t∈SpT,t∈SpG) t ht) k cs f ?_ e) (fun t ht=>?_),o.size,fun t h1 h2 k cs f h3 e=>o.cells t h1 h2 k cs f (h3.imp (fun z=>Nat.lt_of_lt_of_le z h.N_) id) e,fun t ht k cs f h3 e=>o.spec t ht k cs f ?_ e,fun k ob hk e ho=>o.others k ob (Nat.lt_of_lt_of_le hk h.N_) e ho,o.low⟩
 ·by_cases hs:s.1=[]
  ·exact .inl ⟨hs,h3 hs⟩
  ·exact .inr ⟨hs,h2⟩
 ·simp only [List.mem_cons,List.not_mem_nil,or_false] at ht
  rcases ht with rfl | rfl | rfl<;>exact o.tag (by decide) (by decide) (by decide)
 ·rcases h3 with ⟨_,h4,h5⟩ | ⟨h4,_⟩
  ·by_cases hs:s.1=[]
   ·exact .inl ⟨hs,Nat.lt_of_lt_of_le h4 h.N_,h5⟩
   ·refine .inr ⟨hs,fun hk=>?_⟩
    rcases h.F k hk with h6 | h6
    ·have:=h.N_; omega
    ·exact h5 h6
  ·exact absurd rfl h4
theorem GsI.odd {l:Nat} {ob ob':Obj} (h:GsI N N' D ps bs ph bx blk count most ks pr s W) (e:W.heap[l]?=some ob) (ho:Odd ob):GsI N N' D ps bs ph bx blk count most ks pr s (W.putObj l ob'):=by
 have hk:∀ (k:Nat) (cs:Array Value) (t:TypeId) (f:Nat × Nat),W.heap[k]?=some (Obj.cells cs t f) -> (W.putObj l ob').heap[k]?=some (Obj.cells cs t f):=fun k cs t f e'=>by
  rw [World.putObj_heap_other (fun e2=>by subst e2; rw [e] at e'; cases e'; exact ho.1 _ _ _ rfl)]; exact e'
 exact h.keep (fun t _ k _ _ _ cs f e=>hk k cs t f e) (fun t _ k cs f e=>hk k cs t f e)
theorem GsI.add {bm:Nat} {X:List Nat} {v:Value} {C:List Rec} (h:GsI N N' D ps bs ph bx blk count most ks pr s W) (hs:s.1≠[] /\ ∀ k∈s.1,k < W.heap.size) (hr:RowAt W v (pr C)) (hrec:RecOK blk 1 ⟨(s.2.length:Int),pr C⟩) (hable:Able ks (pr C)) (hsz:sizeR (pr C) <= 48) (hfew:s.2.length+1 <= 21) (hm:48 * 21 <= most) (hm2:most <= 1000000000) (hb2:blk <= 4096) (hbm:bm <= N) (hN:N <= W.heap.size) (hX:∀ k∈X,∀ cs t f,W.heap[k]?=some (.cells cs t f) -> t∉SpT) :
  Calls Tryz.prog 135 #[.pointer (some ⟨ps,0,none⟩),v] W fun e W'=>e=.returned (.tuple #[]) /\ GsI N N' D ps bs ph bx blk count most ks pr (s.1,s.2++[C]) W' /\ KeepG GcK X N' s.1 W W' /\ OwnG GcT bm N D [] W W' /\ ∀ (k:Nat) (ob:Obj),W.heap[k]?=some ob -> Odd ob -> W'.heap[k]?=some ob:=by
 obtain ⟨s1,hv,L,lr,h1,⟨a1,a2,a3,a4,a5,a6,a7,a8⟩,h3,h4⟩:=h.st
 have hrl:(recsOf (s.2.map pr)).length=s.2.length:=by rw [recsOf_len,List.length_map]
 refine (sorterAdd_mem W ps bs s1 hv ks L 1 (recsOf (s.2.map pr)) lr v (pr C) h1 (by rw [hrl]; exact a1) hr (by rw [hrl,a4]; exact hrec) hable (by omega) (by omega) (by omega) (by rw [a6]; omega) (by omega)).mono ?_
 rintro e W' ⟨rfl,hv9,L9,nh,p1,p2,p3,p4⟩
 rw [a2] at p3
 have htag:∀ k∈ps::heapF ph hv,∃ cs t f,W.heap[k]?=some (Obj.cells cs t f) /\ t∈SpT:=fun k hk=>by
  rcases List.mem_cons.1 hk with rfl | hk
  ·exact ⟨_,_,_,h1.sorter,by decide⟩
  ·rcases List.mem_cons.1 hk with rfl | hk
   ·have:=h1.heap.head; rw [a2] at this; exact ⟨_,_,_,this,by decide⟩
   ·obtain ⟨cs,f,hc⟩:=h1.heap.items.tag k (by simpa using hk)
    exact ⟨cs,_,f,hc,by decide⟩
 have stay:∀ (k:Nat) (ob:Obj),W.heap[k]?=some ob -> k∉ps::heapF ph hv -> W'.heap[k]?=some ob:=fun k ob e hn=>(p3.block k (Array.getElem?_eq_some_iff.1 e).1 hn).trans e
 have keepC:∀ (k:Nat) (cs:Array Value) (t:TypeId) (f:Nat × Nat),W.heap[k]?=some (Obj.cells cs t f) -> t∉SpT -> W'.heap[k]?=some (Obj.cells cs t f):=fun k cs t f e hn=>stay k _ e (fun hk=>by
  obtain ⟨cs',t',f',e',ht⟩:=htag k hk
  rw [e] at e'
  simp only [Option.some.injEq,Obj.cells.injEq] at e'
  exact hn (e'.2.1▸ht))
 have keepO:∀ (k:Nat) (ob:Obj),W.heap[k]?=some ob -> (∀ cs t f,ob≠.cells cs t f) -> W'.heap[k]?=some ob:=fun k ob e hn=>stay k _ e (fun hk=>by
  obtain ⟨cs',t',f',e',ht⟩:=htag k hk
  rw [e] at e'
  cases e'
  exact hn _ _ _ rfl)
 refine ⟨rfl,⟨⟨{ s1 with came:=s.2.length+1,held:=nh },hv9,L9,lr,?_,⟨by simp,a2,a3,a4,a5,a6,a7,a8⟩,?_,fun k hk=>?_⟩,h.F,h.N_⟩,⟨⟨p3.size,fun t ht k cs f e=>keepC k cs t f e (fun hn=>?_),fun k es c e=>keepO k _ e (by simp),fun k ob _ e ho=>keepO k ob e ho.1⟩,fun t ht k hk cs f e=>stay k _ e (fun hm=>(h4 k hm).2.1 hk),fun k hk ob e=>?_⟩,⟨p3.size,fun t ht _ k cs f _ e=>keepC k cs t f e (fun hn=>ht ((by decide:∀ t∈SpT,t∈OwnT) t hn)),fun t ht k cs f h5 e=>stay k _ e (fun hm=>?_),fun k ob _ e ho=>keepO k ob e ho.1,p3.low (fun k hk=>Nat.le_trans hbm (h4 k hk).1)⟩,fun k ob e ho=>keepO k ob e ho.1⟩
 ·rw [hrl] at p1
  rw [List.map_append,List.map_singleton,recsOf_snoc,List.length_map]
  exact p1
 ·simp only [List.length_append,List.length_singleton]
  omega
 ·rcases List.mem_cons.1 hk with rfl | hk
  ·exact ⟨(h4 k (by simp)).1,(h4 k (by simp)).2.1,fun e=>absurd e hs.1⟩
  ·rcases List.mem_cons.1 hk with rfl | hk
   ·exact ⟨(h4 k (by simp [heapF])).1,(h4 k (by simp [heapF])).2.1,fun e=>absurd e hs.1⟩
   ·rcases p4 k (by simpa using hk) with h5 | h5
    ·have:=h4 k (by simp [heapF,h5])
     exact ⟨this.1,this.2.1,fun e=>absurd e hs.1⟩
    ·exact ⟨Nat.le_trans hN h5,fun hm=>by have:=hs.2 k hm; omega,fun e=>absurd e hs.1⟩
 ·exact absurd hn ((by decide:∀ t∈KeepT++GcK,t∉SpT) t ht)
 ·by_cases hc:∃ cs t f,ob=.cells cs t f
  ·obtain ⟨cs,t,f,rfl⟩:=hc
   exact keepC k cs t f e (hX k hk cs t f e)
  ·exact keepO k ob e (fun cs t f e'=>hc ⟨cs,t,f,e'⟩)
 ·rcases h5 with ⟨_,h6,_⟩ | ⟨h6,_⟩
  ·have:=(h4 k hm).1; omega
  ·exact h6 rfl
end
def PartRows (ks:List K) (cols:List Int) (sums:List (Int × Int)) (rows l:List (List V)):Prop:=∃ out,out.Perm (recsOf rows) /\ Srt ks out /\ l=(gall (sameR ks) out).map (partRow cols sums)
structure PsCtx (W:World) (cl cq q bn bl:Nat) (tv wv cv sv:Value) (bx bm blk fan bud:Nat) (gf:Nat) (lb:Array Value) (cols:List Int) (sums:List (Int × Int)) (ks:List K) (rows:List (List V)) (X D:List Nat) (rc m j:Nat):Prop where
 chk:GrpChk W cl cq q bn bl tv wv cv sv bx blk (fan:Int) (bud:Int) gf lb cols sums ks (fun l=>l=rows) X bm
 eg:∀ args w,(callFunc gf args).run Tryz.prog w=.ok (.enter gf args) w
 seq:∀ W',Touch [] W W' -> SeqG gf lb ([]:List Rec) (SFin bx bm blk rc m j ks (fun l=>l=rows)) (SStep ks (fun l=>l=rows)) [] [] [] bm W'.heap.size D W'
 hD:∀ k∈D,k < W.heap.size
 low:bm <= bx
 hbm:bm < W.heap.size
 few:rows.length <= 20000
 most:48 * 21 <= bud / 2
 bud2:bud <= 1000000000
 pr:∀ P C out rest,gparts (sameR ks) out=(P,C) -> C≠[] -> Srt ks out -> (out++rest).Perm (recsOf rows) -> RecOK blk 1 ⟨(P.length:Int),partRow cols sums C⟩ /\ Able ks (partRow cols sums C) /\ sizeR (partRow cols sums C) <= 48 /\ P.length+1 <= 21
theorem PsCtx.quiet {W W':World} {cl cq q bn bl:Nat} {tv wv cv sv:Value} {bx bm blk fan bud:Nat} {gf:Nat} {lb:Array Value} {cols:List Int} {sums:List (Int × Int)} {ks:List K} {rows:List (List V)} {X D:List Nat} {rc m j:Nat} (h:PsCtx W cl cq q bn bl tv wv cv sv bx bm blk fan bud gf lb cols sums ks rows X D rc m j) (t:Touch [] W W'):PsCtx W' cl cq q bn bl tv wv cv sv bx bm blk fan bud gf lb cols sums ks rows X D rc m j:=
 { h with chk:=h.chk.quiet t,seq:=fun W2 t2=>h.seq W2 (t.trans t2),hD:=fun k hk=>Nat.lt_of_lt_of_le (h.hD k hk) t.size,hbm:=Nat.lt_of_lt_of_le h.hbm t.size }
theorem RunsSt.one {W:World} {bx bm blk cols:Nat} {d:DS} {M:List PF} (h:RunsSt W bx bm blk cols d M [] none):RunsSt W bx bm blk 1 d M [] none:=
 ⟨h.pd,h.ok,by simp,by simp,by simp,by simp,by simp,by simp,by simp,h.block,h.b2,h.b1,by omega⟩
theorem group_src {W0:World} {cl cq q bn bl:Nat} {tv wv cv sv:Value} {bx bm blk fan bud:Nat} {gf:Nat} {lb:Array Value} {cols:List Int} {sums:List (Int × Int)} {ks:List K} {rows:List (List V)} {X D:List Nat} {rc m j:Nat} (h:PsCtx W0 cl cq q bn bl tv wv cv sv bx bm blk fan bud gf lb cols sums ks rows X D rc m j) (kv:Value) (wc:World) (ps bs ph:Nat) (p4:SorterAt wc ps (SC.new bx blk fan bud 20000 kv ph)) (p5:HeadAt wc ph (.slice none 0 0) bs) (p6:wc.heap[bs]?=some (.cells #[.pointer (some ⟨ps,0,none⟩)] 228 (0,0))) (hk:KeysAt wc kv ks) (t:Touch [] W0 wc) (hps:W0.heap.size <= ps) (hph:W0.heap.size <= ph) :
  Src GcT bm W0.heap.size D wc 140 #[.pointer (some ⟨cl,0,none⟩),.pointer (some ⟨cq,0,none⟩)] ps (FinEnd W0.heap.size D ps bx bm blk 20000 1 m j ks (PartRows ks cols sums rows)):=by
 have hb2:=h.chk.b2
 have tW:∀ rec:Loop,Touch [] wc ((wc.alloc (.deferred (some []))).alloc (.loop rec)):=fun rec=>((Touch.refl [] wc).alloc _).alloc _
 have hXlt:∀ k∈X,k < W0.heap.size:=fun k hk=>by obtain ⟨_,_,_,e,_⟩:=h.chk.grp.hX k hk; exact (Array.getElem?_eq_some_iff.1 e).1
 have hsz:=t.size
 refine ⟨List Nat × List (List Rec),([],[]),fun s W=>(s.1≠[] /\ ∀ k∈s.1,k < W.heap.size) /\ ∃ out,s.2=gall (sameR ks) out /\ SFin bx bm blk rc m j ks (fun l=>l=rows) out W,GStep (GrStep cols sums ks (fun l=>l=rows)),GMov ([]:List (List Rec)) (wc.heap.size+2) D,fun s=>OwnG GcT bm (wc.heap.size+2) D s.1,fun s=>KeepG GcK X (wc.heap.size+2) s.1,
  fun s W=>GsI W0.heap.size (wc.heap.size+2) D ps bs ph bx blk 20000 (bud / 2) ks (partRow cols sums) s W /\ (∀ k∈X,W.heap[k]?=W0.heap[k]?) /\ W0.heap.size <= W.heap.size,
  fun rec=>?seq,fun s A B k ob ho e hk hle=>ho.others k ob (by omega) e (by rcases hk with ⟨r,rfl⟩ | ⟨ds,rfl⟩; exact odd_loop r; exact odd_deferred ds),fun s A B C=>KeepG.trans,fun s W r r' e=>(Guard.putObj (T:=AllT++GcK) e (by omega)).g (fun k hk ob e'=>by rw [World.putObj_heap_other (by have:=hXlt k hk; omega)]; exact e') _,?own,?mov,?put,?stp,?ini,?add,?fin⟩
 case seq=>
  have h1:=grpChecked_seq _ cl cq q bn bl tv wv cv sv bx blk fan bud gf lb cols sums ks _ X bm D bm rc m j (h.chk.quiet (t.trans (tW rec))) h.eg (fun W' t'=>h.seq W' ((t.trans (tW rec)).trans t'))
  have e:((wc.alloc (.deferred (some []))).alloc (.loop rec)).heap.size=wc.heap.size+2:=by simp
  rw [e] at h1
  exact h1
 case own=>
  rintro s A B ⟨h1,h2,h3⟩ o
  obtain ⟨a1,a2⟩:=h1.own o
  refine ⟨⟨a1,fun k hk=>?_,Nat.le_trans h3 o.size⟩,a2⟩
  obtain ⟨cs,t',f,e,b1,b2,_⟩:=h.chk.grp.hX k hk
  have e2:=h2 k hk
  rw [e] at e2 ⊢
  exact o.cells t' b1 b2 k cs f (.inl (by have:=hXlt k hk; omega)) e2
 case mov=>
  rintro s s' A ⟨h1,h2⟩ ⟨e1,e2,e3,e4,e5⟩
  refine ⟨⟨?_,e5,h1.N_⟩,h2⟩
  obtain ⟨s1,hv,L,lr,a1,a2,a3,a4⟩:=h1.st
  rw [e2] at a1 a2 a3
  refine ⟨s1,hv,L,lr,by rw [e3]; exact a1,by rw [e3]; exact a2,by rw [e3]; exact a3,fun k hk=>⟨(a4 k hk).1,fun hm=>?_,fun e=>absurd e e4⟩⟩
  obtain ⟨c1,c2⟩:=(a4 k hk).2.2 e1
  rcases e5 k hm with h6 | h6
  ·omega
  ·exact c2 h6
 case put=>
  rintro s W r r' ⟨h1,h2,h3⟩ e
  exact ⟨h1.odd e (odd_loop r),fun k hk=>by rw [World.putObj_heap_other (by have:=hXlt k hk; omega)]; exact h2 k hk,by simpa using h3⟩
 case stp=>
  rintro s v s' W r r' ⟨e0,e1,hst⟩ e
  exact ⟨⟨e0.1,fun k hk=>by simpa using e0.2 k hk⟩,e1,hst.stay ((OwnG.putObj (T:=[]) (lo:=0) (N:=0) (D:=[]) (F:=[]) (ob':=.loop r') e (odd_loop r) (Nat.zero_le _) (Nat.zero_le _)).tag (by decide) (by decide) (by simp))⟩
 case ini=>
  intro rec
  have hk':∀ (k:Nat) (ob:Obj),wc.heap[k]?=some ob -> ((wc.alloc (.deferred (some []))).alloc (.loop rec)).heap[k]?=some ob:=fun k ob e=>by
   rw [(tW rec).block k (Array.getElem?_eq_some_iff.1 e).1 (by simp)]
   exact e
  have hS:=hk' _ _ p4
  have l1:=(Array.getElem?_eq_some_iff.1 p4).1
  have l2:=(Array.getElem?_eq_some_iff.1 p5).1
  refine ⟨⟨⟨SC.new bx blk fan bud 20000 kv ph,.slice none 0 0,[],⟨0,[]⟩,⟨hS,⟨hk' _ _ p5,EOwn.nil _,⟨hk' _ _ p6,_,_,kv,hS,by simp [SC.cells,SC.new],hk.touch (tW rec)⟩,by simp,HeapOK.nil⟩,rfl,by simp,rfl,Spill.start ks _,rfl,by simp [recsOf]⟩,⟨rfl,rfl,rfl,rfl,rfl,rfl,rfl,rfl⟩,by simp [SC.new],fun k hk=>?_⟩,by simp,by omega⟩,fun k hk=>?_,(t.trans (tW rec)).size⟩
  ·simp only [heapF,Value.ownBlock,Option.toList_none,List.mem_cons,List.not_mem_nil,or_false] at hk
   rcases hk with rfl | rfl
   ·exact ⟨hps,by simp,fun _=>⟨by omega,fun hd=>by have:=h.hD _ hd; omega⟩⟩
   ·exact ⟨hph,by simp,fun _=>⟨by omega,fun hd=>by have:=h.hD _ hd; omega⟩⟩
  ·obtain ⟨cs,t',f,e,_⟩:=h.chk.grp.hX k hk
   rw [e]
   exact (t.trans (tW rec)).tag0 _ _ _ _ e
 case add=>
  rintro ⟨F,P⟩ v ⟨F',P'⟩ W ⟨h1,h2,h3⟩ ⟨e0,e1,C,out,rows',rest,e2,b1,b2,b3,rfl,b5,b6⟩
  simp only at e0 e1 e2 b1
  subst e2
  obtain rfl:F=F':=e1.symm
  obtain ⟨c1,c2,c3,c4⟩:=h.pr P C out rest b1 b2 b5 b6
  obtain ⟨vo,vcap,e⟩:=b3.shape
  refine ⟨⟨_,_,_,e⟩,(h1.add (bm:=bm) (X:=X) e0 b3 c1 c2 c3 c4 h.most (by have:=h.bud2; omega) hb2 (Nat.le_of_lt h.hbm) h3 (fun k hk cs t' f e'=>?_)).mono ?_⟩
  ·obtain ⟨cs2,t2,f2,e2,d1,_⟩:=h.chk.grp.hX k hk
   rw [h2 k hk,e2] at e'
   simp only [Option.some.injEq,Obj.cells.injEq] at e'
   rw [<- e'.2.1]
   exact fun hn=>d1 ((by decide:∀ t∈SpT,t∈OwnT) _ hn)
  ·rintro e W' ⟨rfl,a1,a2,a3,a4⟩
   refine ⟨rfl,⟨a1,fun k hk=>?_,Nat.le_trans h3 a3.size⟩,a2,a3,a4⟩
   obtain ⟨cs2,t2,f2,e2,d1,_⟩:=h.chk.grp.hX k hk
   have e3:=h2 k hk
   rw [e2] at e3 ⊢
   exact a2.blocks k hk _ e3
 case fin=>
  rintro ⟨F,P⟩ W r r' ⟨e0,out,e1,⟨⟨rows',rfl,hperm⟩,hsrt,d',M',hR,hL⟩⟩ ⟨h1,h2,h3⟩ e
  simp only at e1 e0
  subst e1
  have h1':=h1.odd (ob':=.loop r') e (odd_loop r)
  have hR':=hR.guard (Guard.putOdd (B:=wc.heap.size+2) (ob':=.loop r') e (odd_loop r) (by omega))
  obtain ⟨s1,hv,L,lr,a1,⟨d1,d2,d3,d4,d5,d6,d7,d8⟩,a3,a4⟩:=h1'.st
  have hlen:(gall (sameR ks) out).length <= 20000:=by
   have g1:=gflat_len (gall_full (sameR ks) out)
   rw [gall_flat] at g1
   have g2:=hperm.length_eq
   rw [recsOf_len] at g2
   have:=h.few
   omega
  have hLl:L.length <= 100000:=by
   have g1:=a1.lists.perm.length_eq
   have g2:(recsOf ((gall (sameR ks) out).map (partRow cols sums))).length <= 100000:=a1.few
   simp only [List.length_append,List.length_map,List.flatten_nil,List.length_nil] at g1
   omega
  refine ⟨(gall (sameR ks) out).map (partRow cols sums),⟨out,hperm,hsrt,rfl⟩,by rw [List.length_map]; omega,by rw [List.length_map]; omega,(end_mem _ ps s1 a1.sorter a1.rv).mono ?_⟩
  rintro e2 W' ⟨rfl,rfl⟩
  refine ⟨rfl,⟨ps::heapF s1.ph hv,⟨s1,d',M',d3,d4,d5,hL,.inl ⟨bs,hv,L,rfl,⟨⟨a1.sorter,a1.heap,a1.held,a1.ents,by rw [d3,d4]; exact hR'.one,by rw [a1.rv]; exact World.ownsRow_nil _ _ _ _⟩,a1.lists.giving,d7,by simpa using d8,hLl,fun k hk=>?_⟩⟩⟩,by simp,fun k hk=>.inl ?_⟩,⟨[],TouchU.refl _ _,by simp [OwnF],Hi.nil _,by simp⟩⟩
  ·simp only [List.mem_cons] at hk
   have hbm:=h.hbm
   rcases hk with rfl | rfl | hk
   ·have:=(a4 k (by simp)).1; omega
   ·rw [d3]; exact h.low
   ·rw [d2] at hk; have:=(a4 k (List.mem_cons_of_mem _ hk)).1; omega
  ·rw [d2] at hk
   exact (a4 k hk).1
theorem parts_seq {W0:World} {cl cq q bn bl:Nat} {tv wv cv sv:Value} {bx bm blk fan bud:Nat} {gf:Nat} {lb:Array Value} {cols:List Int} {sums:List (Int × Int)} {ks:List K} {rows:List (List V)} {X D:List Nat} {rc m j:Nat} (h:PsCtx W0 cl cq q bn bl tv wv cv sv bx bm blk fan bud gf lb cols sums ks rows X D rc m j) {b1 b2 b3 b4:Nat} {kv:Value} (hb:SrtBox W0 b1 b2 b3 b4 q tv wv kv 140 #[.pointer (some ⟨cl,0,none⟩),.pointer (some ⟨cq,0,none⟩)] bx blk fan bud 20000) (hk:KeysAt W0 kv ks) :
  SeqG 132 #[.pointer (some ⟨b1,0,none⟩),.pointer (some ⟨b2,0,none⟩),.pointer (some ⟨b3,0,none⟩),.pointer (some ⟨b4,0,none⟩)] ([]:List Rec) (SFin bx bm blk 1 m j ks (PartRows ks cols sums rows)) (SStep ks (PartRows ks cols sums rows)) GcT [] [] bm W0.heap.size D W0:=
 sorted_gen GcT W0 b1 b2 b3 b4 q tv wv kv 140 _ bx bm blk fan bud 20000 1 ks _ D m j hb (enters_of Tryz.func140 (by kernel_rfl) rfl) (by decide) h.hbm (fun wc ps bs ph p4 p5 p6 t a b=>group_src h kv wc ps bs ph p4 p5 p6 (hk.touch t) t a b)
end Go.Proofs.YtjoinhljdbljaaaGreat
namespace Go.Proofs.YtjoinhljdbljaaaGreat
open Go.RowKit
attribute [local go_sem] Oper.semAt_some
theorem KeepG.less {T T':List TypeId} {X X':List Nat} {B B':Nat} {F F':List Nat} {W W':World} (h:KeepG T X B F W W') (hT:∀ t∈T',t∈T) (hX:∀ k∈X',k∈X) (hB:B <= B') (hF:∀ k∈F',k∈F):KeepG T' X' B' F' W W':=
 ⟨(h.mono hT hX hB).guard,fun t ht k hk=>h.spec t ht k (hF k hk),fun k hk=>h.blocks k (hX k hk)⟩
def oneMore (b:Nat) (F:List Nat):List Nat:=if F=[] then [] else b::F
theorem oneMore_ne {b:Nat} {F:List Nat} (h:F≠[]):oneMore b F=b::F:=if_neg h
theorem OwnG.oneMore {T:List TypeId} {lo N N' b:Nat} {D F:List Nat} {W W':World} (h:OwnG T lo N' D F W W') (hN:N <= N') (T':List TypeId):OwnG (T++T') lo N D (oneMore b F) W W':=by
 have h1:=h.mono (T':=T++T') (N':=N) (fun t ht=>List.mem_append_left _ ht) hN
 refine ⟨h1.size,h1.cells,fun t ht k cs f h2 e=>h1.spec t ht k cs f ?_ e,h1.others,h1.low⟩
 by_cases hF:F=[]
 ·subst hF
  exact h2
 ·rw [oneMore_ne hF] at h2
  rcases h2 with ⟨h3,_⟩ | ⟨_,h3⟩
  ·exact absurd h3 (by simp)
  ·exact .inr ⟨hF,fun hk=>h3 (List.mem_cons_of_mem _ hk)⟩
theorem recsOf_rows (rows:List (List V)):(recsOf rows).map Rec.row=rows:=by
 apply List.ext_getElem
 ·simp [recsOf]
 ·intro i h1 h2
  simp [recsOf]
theorem step_differs {Q:List (List V) -> Prop} (hQ:∀ l,Q l -> l.Nodup) {out0:List Rec} {z x:Rec} {rows:List (List V)} {rest:List Rec} (hq:Q rows) (hp:(out0++[z]++[x]++rest).Perm (recsOf rows)):x.row≠z.row:=by
 have h1:=hp.map Rec.row
 rw [recsOf_rows] at h1
 have h2:=(h1.nodup_iff).2 (hQ rows hq)
 simp only [List.map_append,List.map_cons,List.append_assoc,List.cons_append,List.nil_append] at h2
 have h3:=(List.nodup_append.1 h2).2.1
 intro e
 rw [List.nodup_cons] at h3
 exact h3.1 (by rw [e]; simp)
structure DsB (N:Nat) (W:World) (l:Nat) (out:List Rec):Prop where
 y:W.heap[N]?=some (.cells #[.func (.yield l) #[] #[]] 206 (0,0))
 last:∃ lv,W.heap[N+1]?=some (.cells #[lv] 83 (0,0)) /\ (out=[] -> lv=.slice none 0 0) /\ ∀ o z,out=o++[z] -> RowAt W lv z.row /\ 1 <= z.row.length /\ z.row.length <= 1000
theorem DsB.keep {N:Nat} {W W':World} {l:Nat} {out:List Rec} (h:DsB N W l out) (k1:KeepTag 206 W W') (k2:KeepTag 85 W W') (k3:∀ (cs:Array Value) (f:Nat × Nat),W.heap[N+1]?=some (.cells cs 83 f) -> W'.heap[N+1]?=some (.cells cs 83 f)):DsB N W' l out:=by
 obtain ⟨lv,h1,h2,h3⟩:=h.last
 exact ⟨k1 _ _ _ h.y,lv,k3 _ _ h1,h2,fun o z e=>⟨Sl3.keep (h3 o z e).1 k2,(h3 o z e).2⟩⟩
theorem distinct_seq (W0:World) (ba bb bc q:Nat) (cn:Int) (gf:Nat) (lb:Array Value) (ko:Option Addr) (kn kc:Nat) (ks:List K) (Q:List (List V) -> Prop) (T:List TypeId) (lo:Nat) (D:List Nat) (fin:List Rec -> World -> Prop) (ha:W0.heap[ba]?=some (.cells #[.pointer (some ⟨q,0,none⟩)] 159 (0,0))) (hb:W0.heap[bb]?=some (.cells #[.int .i64 cn,.func (.func gf) #[] lb] 167 (0,0))) (hc:W0.heap[bc]?=some (.cells #[.slice ko kn kc] 74 (0,0))) (hlo:lo <= W0.heap.size) (hD:∀ k∈D,k < W0.heap.size) (hT:∀ t∈[206,83,85],t∉T)
  (hQ:∀ l,Q l -> l.Nodup /\ ∀ r∈l,1 <= r.length /\ r.length <= 1000) (hfin:∀ out (W:World) l ob ob',fin out W -> W.heap[l]?=some ob -> Odd ob -> fin out (W.putObj l ob'))
  (hseq:∀ W bq bk bn bl,Touch [] W0 W -> W.heap[bq]?=some (.cells #[.pointer (some ⟨q,0,none⟩)] 159 (0,0)) -> W.heap[bl]?=some (.cells #[.func (.func gf) #[] lb] 165 (0,0)) -> W.heap[bk]?=some (.cells #[.slice ko kn kc] 74 (0,0)) -> W.heap[bn]?=some (.cells #[.int .i64 (20000:Int)] 3 (0,0)) -> SeqG 132 #[.pointer (some ⟨bq,0,none⟩),.pointer (some ⟨bk,0,none⟩),.pointer (some ⟨bn,0,none⟩),.pointer (some ⟨bl,0,none⟩)] ([]:List Rec) fin (SStep ks Q) T [] [] lo W.heap.size D W) :
  SeqG 138 #[.pointer (some ⟨ba,0,none⟩),.pointer (some ⟨bb,0,none⟩),.pointer (some ⟨bc,0,none⟩)] ([]:List Rec) fin (SStep ks Q) (T++[83]) [206] [] lo W0.heap.size D W0:=by
 intro l J hJ hM hY h0
 have n1:=(Array.getElem?_eq_some_iff.1 ha).1
 have n2:=(Array.getElem?_eq_some_iff.1 hb).1
 have n3:=(Array.getElem?_eq_some_iff.1 hc).1
 have tA:Touch [] W0 ((W0.alloc (.cells #[.func (.yield l) #[] #[]] 206)).alloc (.cells #[.slice none 0 0] 83)):=((Touch.refl [] W0).alloc _).alloc _
 have c0:=cell_touch (boxOne ha) tA
 have c1:=cell_touch (show W0.cell? ⟨bb,1,none⟩=some (.func (.func gf) #[] lb) by simp [World.cell?,hb]) tA
 have c2:=cell_touch (boxOne hc) tA
 refine callsIn_wide.1 (callsIn_of_wp_marks (n:=0) Tryz.func138 rfl trivial (wpIn_wide.2 ?_))
 simp only [Tryz.ntmps138,List.size_toArray,List.length_cons,List.length_nil,Nat.reduceAdd,Nat.reduceSub,Array.replicate_succ,Array.replicate_zero,List.push_toArray,List.append_toArray,List.nil_append,List.cons_append]
 go_wp2_with (go_at_call 106; refine (sorted_new _ q gf lb 20000 ko kn kc).mono ?_; rintro e wa ⟨bq,bk,bn,bl,rfl,p1,p2,p3,p4,p6,p5⟩)
 have tB:Touch [] W0 wa:=tA.trans p5
 have x0:wa.heap[W0.heap.size]?=some (.cells #[.func (.yield l) #[] #[]] 206 (0,0)):=p5.tag0 _ _ _ _ ((Below.heap_alloc _ _ _ (by simp)).trans (heap_alloc_new W0 _))
 have x1:wa.heap[W0.heap.size+1]?=some (.cells #[.slice none 0 0] 83 (0,0)):=p5.tag0 _ _ _ _ (new2 W0 _ _)
 have hsz:W0.heap.size+2 <= wa.heap.size:=by have:=p5.size; simp at this; omega
 clear c0 c1 c2 p5 p6 tA
 have tW:∀ rec:Loop,Touch [] wa ((wa.alloc (.deferred (some []))).alloc (.loop rec)):=fun rec=>((Touch.refl [] wa).alloc _).alloc _
 have HSEQ:∀ rec:Loop,SeqG 132 #[.pointer (some ⟨bq,0,none⟩),.pointer (some ⟨bk,0,none⟩),.pointer (some ⟨bn,0,none⟩),.pointer (some ⟨bl,0,none⟩)] ([]:List Rec) fin (SStep ks Q) T [] [] lo (wa.heap.size+2) D ((wa.alloc (.deferred (some []))).alloc (.loop rec)):=fun rec=>by
  have h1:=hseq _ bq bk bn bl (tB.trans (tW rec)) ((tW rec).tag0 _ _ _ _ p1) ((tW rec).tag0 _ _ _ _ p2) ((tW rec).tag0 _ _ _ _ p3) ((tW rec).tag0 _ _ _ _ p4)
  have e:((wa.alloc (.deferred (some []))).alloc (.loop rec)).heap.size=wa.heap.size+2:=by simp
  rw [e] at h1
  exact h1
 refine range_law (w:=wa) (gf:=132) (lb:=#[.pointer (some ⟨bq,0,none⟩),.pointer (some ⟨bk,0,none⟩),.pointer (some ⟨bn,0,none⟩),.pointer (some ⟨bl,0,none⟩)]) rfl (enters_of Tryz.func132 (by kernel_rfl) rfl) rfl HSEQ
  (fun s A B k ob ho e hk hle=>ho.others k ob (by omega) e (by rcases hk with ⟨r,rfl⟩ | ⟨ds,rfl⟩; exact odd_loop r; exact odd_deferred ds))
  (fun _ _ _ _ h1 h2=>h1.trans h2) (fun s W r r' e=>(Guard.putObj (T:=AllT++[]) e (by omega)).g (by simp) _)
  (fun s W=>J (oneMore (W0.heap.size+1) s.1,s.2) W /\ DsB W0.heap.size W l s.2 /\ (∀ k∈s.1,wa.heap.size+2 <= k \/ k∈D) /\ W0.heap.size <= W.heap.size)
  ?hI ?hIm ?hIp ?hSp ?h0
  (fun v=>{ tmps:=#[.func (.yield l) #[] #[],.pointer (some ⟨ba,0,none⟩),.pointer (some ⟨bb,0,none⟩),.pointer (some ⟨bc,0,none⟩),.pointer (some ⟨W0.heap.size,0,none⟩),.pointer (some ⟨W0.heap.size+1,0,none⟩),v,.pointer (some ⟨q,0,none⟩),.pointer (some ⟨bb,1,none⟩),.func (.func gf) #[] lb,.slice ko kn kc,.func (.func 132) #[] #[.pointer (some ⟨bq,0,none⟩),.pointer (some ⟨bk,0,none⟩),.pointer (some ⟨bn,0,none⟩),.pointer (some ⟨bl,0,none⟩)],v,undef,undef,undef,undef,undef,undef,undef,undef,undef,undef,undef,undef],defers:=[] }) ?assign ?body ?done
 case hI=>
  rintro s A B ⟨h1,h2,h3,h4⟩ o
  exact ⟨hJ _ _ _ h1 (o.oneMore (by omega) [83]),h2.keep (o.tag (by decide) (by decide) (hT 206 (by decide))) (o.tag (by decide) (by decide) (hT 85 (by decide))) (fun cs f e=>o.tag (by decide) (by decide) (hT 83 (by decide)) _ _ _ e),h3,Nat.le_trans h4 o.size⟩
 case hIm=>
  rintro ⟨F,s⟩ ⟨F',s'⟩ A ⟨h1,h2,h3,h4⟩ ⟨e1,e2,e3,e4,e5⟩
  simp only at e1 e2 e3 e4 e5
  subst e1 e2 e3
  refine ⟨hM _ (oneMore (W0.heap.size+1) F',[]) _ h1 ⟨rfl,rfl,rfl,by rw [oneMore_ne e4]; simp,fun k hk=>?_⟩,h2,e5,h4⟩
  simp only [oneMore_ne e4] at hk
  rcases List.mem_cons.1 hk with rfl | hk
  ·exact .inl (by omega)
  ·exact (e5 k hk).imp (fun z=>by omega) id
 case hIp=>
  rintro s W r r' ⟨h1,h2,h3,h4⟩ hl
  have hg:=OwnG.putObj (T:=T) (lo:=lo) (N:=W0.heap.size) (D:=D) (F:=s.1) (ob':=.loop r') hl (odd_loop r) (by omega) (by omega)
  exact ⟨hJ _ _ _ h1 (hg.oneMore (Nat.le_refl _) [83]),h2.keep (hg.tag (by decide) (by decide) (hT 206 (by decide))) (hg.tag (by decide) (by decide) (hT 85 (by decide))) (fun cs f e=>hg.tag (by decide) (by decide) (hT 83 (by decide)) _ _ _ e),h3,Nat.le_trans h4 hg.size⟩
 case hSp=>
  rintro s v s' W r r' ⟨h0,h1,x,rows,e1,e2,hr,e3⟩ hl
  exact ⟨⟨h0.1,fun k hk=>by simpa using h0.2 k hk⟩,h1,x,rows,e1,e2,Sl3.keep hr ((OwnG.putObj (T:=[]) (lo:=0) (N:=0) (D:=[]) (F:=[]) (ob':=.loop r') hl (odd_loop r) (Nat.zero_le _) (Nat.zero_le _)).tag (by decide) (by decide) (by simp)),e3⟩
 case h0=>
  intro rec
  exact ⟨hJ _ _ _ h0 ((tB.trans (tW rec)).g _ _ _ _ _),⟨(tW rec).tag0 _ _ _ _ x0,_,(tW rec).tag0 _ _ _ _ x1,fun _=>rfl,fun o z e=>by simp at e⟩,by simp,(tB.trans (tW rec)).size⟩
 case assign=>
  intro v W K hK
  gi_wp2
  exact hK
 case body=>
  rintro ⟨F,out⟩ v ⟨F',out'⟩ W ⟨hJ1,hB,hFF,hWs⟩ ⟨hFne,e1,x,rows,e2,hQr,hrow,hsrt,rest,hperm⟩
  simp only at e1 e2 hJ1 hB hrow hperm hsrt hFne hFF
  subst e2
  obtain rfl:F=F':=e1.symm
  obtain ⟨hnd,hlen⟩:=hQ rows hQr
  have hxr:1 <= x.row.length /\ x.row.length <= 1000:=by
   have:x.row∈rows:=by
    rw [<- recsOf_rows rows]
    exact List.mem_map_of_mem (hperm.mem_iff.1 (by simp))
   exact hlen _ this
  obtain ⟨lv,hl1,hl2,hl3⟩:=hB.last
  obtain ⟨vb,vf,vcap,rfl,_⟩:=hrow.cells hxr.1
  have f1:W.frozen? ⟨W0.heap.size+1,0,none⟩=false:=by simp [World.frozen?,hl1]
  have c5:=boxOne hl1
  have hNF:W0.heap.size+1∉F:=fun hk=>by
   rcases hFF _ hk with h6 | h6
   ·omega
   ·have:=hD _ h6; omega
  rw [oneMore_ne hFne.1] at hJ1
  have HP:Hid (∀ wc,Touch [] W wc -> (wc.setCell ⟨W0.heap.size+1,0,none⟩ (.slice (some ⟨vb,vf,none⟩) x.row.length vcap)).cell? ⟨W0.heap.size,0,none⟩=some (.func (.yield l) #[] #[]) /\ wc.cell? ⟨W0.heap.size+1,0,none⟩=some lv /\ wc.frozen? ⟨W0.heap.size+1,0,none⟩=false /\ YieldAt Fence.wide 0 Tryz.prog l #[.slice (some ⟨vb,vf,none⟩) x.row.length vcap] (wc.setCell ⟨W0.heap.size+1,0,none⟩ (.slice (some ⟨vb,vf,none⟩) x.row.length vcap)) fun e W'=>e=.returned (.bool true) /\ Hid ((∀ (k:Nat) (ob:Obj),W.heap[k]?=some ob -> ((∃ r,ob=.loop r) \/ ∃ ds,ob=.deferred ds) -> (k=wa.heap.size \/ k=wa.heap.size+1) -> W'.heap[k]?=some ob) /\ KeepG [] [] (wa.heap.size+2) F W W' /\ J (oneMore (W0.heap.size+1) F,out++[x]) W' /\ DsB W0.heap.size W' l (out++[x]) /\ (∀ k∈F,wa.heap.size+2 <= k \/ k∈D) /\ W0.heap.size <= W'.heap.size)):=fun wc tc=>by
   have hlc:=tc.tag0 83 _ _ _ hl1
   have t5:Touch [W0.heap.size+1] wc (wc.setCell ⟨W0.heap.size+1,0,none⟩ (.slice (some ⟨vb,vf,none⟩) x.row.length vcap)):=(Touch.refl [W0.heap.size+1] wc).setCell (p:=⟨W0.heap.size+1,0,none⟩) (by simp) _
   have n5:∀ t,(83:TypeId)≠t -> KeepTag t wc (wc.setCell ⟨W0.heap.size+1,0,none⟩ (.slice (some ⟨vb,vf,none⟩) x.row.length vcap)):=fun t ht=>t5.tag (notag_of hlc ht)
   have hl5:(wc.setCell ⟨W0.heap.size+1,0,none⟩ (.slice (some ⟨vb,vf,none⟩) x.row.length vcap)).heap[W0.heap.size+1]?=some (.cells #[.slice (some ⟨vb,vf,none⟩) x.row.length vcap] 83 (0,0)):=by rw [heap_setCell_same wc (W0.heap.size+1) 0 _ 83 _ hlc]; simp
   have tt:Touch [W0.heap.size+1] W (wc.setCell ⟨W0.heap.size+1,0,none⟩ (.slice (some ⟨vb,vf,none⟩) x.row.length vcap)):=(tc.mono (by simp)).trans t5
   have hy5:=n5 206 (by decide) _ _ _ (tc.tag0 206 _ _ _ hB.y)
   have hr5:RowAt (wc.setCell ⟨W0.heap.size+1,0,none⟩ (.slice (some ⟨vb,vf,none⟩) x.row.length vcap)) (.slice (some ⟨vb,vf,none⟩) x.row.length vcap) x.row:=Sl3.keep (hrow.touch tc) (n5 85 (by decide))
   obtain ⟨g1,g2⟩:=touch_guard (T:=KeepT++[]) (wa.heap.size+2) tt (fun k hk=>by rw [List.mem_singleton.1 hk]; exact ⟨_,_,_,hl1,by decide⟩)
   have hstay:∀ (k:Nat) (ob:Obj),W.heap[k]?=some ob -> k≠W0.heap.size+1 -> (wc.setCell ⟨W0.heap.size+1,0,none⟩ (.slice (some ⟨vb,vf,none⟩) x.row.length vcap)).heap[k]?=some ob:=fun k ob e hne=>(tt.block k (Array.getElem?_eq_some_iff.1 e).1 (by simpa using hne)).trans e
   have hk5:KeepG [] [] (wa.heap.size+2) F W (wc.setCell ⟨W0.heap.size+1,0,none⟩ (.slice (some ⟨vb,vf,none⟩) x.row.length vcap)):=⟨g1,fun t _ k hk cs f e=>hstay k _ e (fun e2=>hNF (e2▸hk)),by simp⟩
   have ho5:OwnG (T++[83]) lo W0.heap.size D ((W0.heap.size+1)::F) W (wc.setCell ⟨W0.heap.size+1,0,none⟩ (.slice (some ⟨vb,vf,none⟩) x.row.length vcap)):=by
    refine ⟨tt.size,fun t _ _ k cs f h3 e=>hstay k _ e (fun e2=>?_),fun t _ k cs f h3 e=>hstay k _ e (fun e2=>?_),fun k ob hk e _=>hstay k _ e (by omega),tt.low (fun k hk=>by rw [List.mem_singleton.1 hk]; omega)⟩
    ·subst e2
     rw [hl1] at e
     simp only [Option.some.injEq,Obj.cells.injEq] at e
     rcases h3 with h3 | h3
     ·omega
     ·exact h3 (by rw [<- e.2.1]; simp)
    ·subst e2
     rcases h3 with ⟨h3,_⟩ | ⟨_,h3⟩
     ·exact absurd h3 (by simp)
     ·exact h3 (by simp)
   refine ⟨boxOne hy5,boxOne hlc,by simp [World.frozen?,hlc],(hY ((W0.heap.size+1)::F,out) _ ((W0.heap.size+1)::F,out++[x]) _ (hJ _ _ _ hJ1 ho5) ⟨⟨by simp,fun k hk=>?_⟩,rfl,x,rows,rfl,hQr,hr5,hsrt,rest,hperm⟩).mono ?_⟩
   ·rcases List.mem_cons.1 hk with rfl | hk
    ·exact (Array.getElem?_eq_some_iff.1 hl5).1
    ·exact Nat.lt_of_lt_of_le (hFne.2 k hk) tt.size
   ·rintro e W' ⟨rfl,a1,a2⟩
    refine ⟨rfl,fun k ob e ho hk=>?_,hk5.trans (a2.less (by simp) (by simp) (by omega) (fun k hk=>List.mem_cons_of_mem _ hk)),by rw [oneMore_ne hFne.1]; exact a1,⟨a2.guard.cells 206 (by decide) _ _ _ hy5,_,a2.spec 83 (by decide) _ (by simp) _ _ hl5,fun e=>by simp at e,fun o z e=>?_⟩,hFF,Nat.le_trans hWs (Nat.le_trans tt.size a2.guard.size)⟩
    ·have hodd:Odd ob:=by rcases ho with ⟨r,rfl⟩ | ⟨ds,rfl⟩; exact odd_loop r; exact odd_deferred ds
     exact a2.guard.others k ob (by omega) (g2 k ob e hodd) hodd
    ·obtain ⟨rfl,e3⟩:=List.append_inj' e rfl
     simp only [List.cons.injEq,and_true] at e3
     subst e3
     exact ⟨Sl3.keep hr5 (a2.guard.cells 85 (by decide)),hxr⟩
  have HEQ:Hid (∀ o z,out=o++[z] -> (∃ lb' lf lc',lv=.slice (some ⟨lb',lf,none⟩) z.row.length lc') /\ Calls Tryz.prog 139 #[.slice (some ⟨vb,vf,none⟩) x.row.length vcap,lv] W fun e w'=>e=.returned (.bool false) /\ Touch [] W w'):=fun o z e=>by
   obtain ⟨a1,a2,a3⟩:=hl3 o z e
   refine ⟨?_,(equal_any W _ lv x.row z.row hrow a1 hxr.2 a3).mono ?_⟩
   ·obtain ⟨b',f',c',e',_⟩:=a1.cells a2
    exact ⟨b',f',c',e'⟩
   ·rintro e2 w' ⟨r,rfl,h1,h2⟩
    refine ⟨?_,h2⟩
    have hne:x.row≠z.row:=step_differs (fun l hl=>(hQ l hl).1) hQr (by rw [<- e]; exact hperm)
    cases r with
    | false=>rfl
    | true=>exact absurd (h1.1 rfl) hne
  clear hB hl1 hl3 hJ1 hperm hsrt hrow hnd hlen HSEQ tB tW x0 x1 p1 p2 p3 p4 hFF hFne hNF
  gi_upto_region 4 with fail
  gi_cut [19] from 13 (fun b wx=>b=.bool false /\ Touch [] W wx)
  case first=>
   by_cases hout:out=[]
   ·rw [hl2 hout] at c5
    gi_wp2
    refine ⟨trivial,?_⟩
    gi_wp2
    gi_meet
    case rel=>exact ⟨rfl,Touch.refl [] W⟩
   ·obtain ⟨o,z,hoz⟩:∃ o z,out=o++[z]:=⟨out.dropLast,out.getLast hout,(List.dropLast_concat_getLast hout).symm⟩
    obtain ⟨⟨lb',lf,lc',rfl⟩,hcall⟩:=HEQ.out o z hoz
    gi_wp2
    refine ⟨trivial,rfl,(CallsIn.inRound _ (callsIn_wide.2 hcall)).mono ?_⟩
    rintro e w1 ⟨rfl,hT1⟩
    gi_wp2
    gi_meet
    case rel=>exact ⟨rfl,hT1⟩
  case rest=>
   obtain ⟨rfl,tc⟩:=hcut
   obtain ⟨k1,k2,k3,fn,tmps,assign,body,hy,hR⟩:=HP.out wc tc
   clear c5 f1 hl2
   gi_wp2
   refine ⟨rfl,hR.mono ?_⟩
   rintro e W5 ⟨rfl,hG⟩
   gi_wp2
   exact hG.out
 case done=>
  rintro ⟨F,out⟩ W r r' ⟨hFne,hf⟩ ⟨hJ1,hB,hFF,hWs⟩ hl hk
  simp only at hJ1 hB hFF hFne hf
  have hk1:(W.putObj (wa.heap.size+1) (.loop r')).heap[wa.heap.size]?=some (.deferred (some [])):=(World.putObj_heap_other (by omega)).trans hk
  have hJ2:=hJ _ _ _ hJ1 ((OwnG.putObj (T:=T) (lo:=lo) (N:=W0.heap.size) (D:=D) (F:=F) (ob':=.loop r') hl (odd_loop r) (by omega) (by omega)).oneMore (Nat.le_refl _) [83])
  have hf2:=hfin _ _ _ _ (.loop r') hf hl (odd_loop r)
  have hs2:(W.putObj (wa.heap.size+1) (.loop r')).heap.size=W.heap.size:=by simp
  have hlt:W0.heap.size+1 < W.heap.size:=by
   obtain ⟨lv,h1,_⟩:=hB.last
   exact (Array.getElem?_eq_some_iff.1 h1).1
  have HFN:Hid (F≠[] /\ ∀ k∈F,k < W.heap.size):=hFne
  generalize W.putObj (wa.heap.size+1) (.loop r')=W2 at *
  have hJ3:=hJ _ _ _ hJ2 ((OwnG.putObj (T:=T) (lo:=lo) (N:=W0.heap.size) (D:=D) (F:=F) (ob':=.deferred none) hk1 (odd_deferred _) (by omega) (by omega)).oneMore (Nat.le_refl _) [83])
  have hf3:=hfin _ _ _ _ (.deferred none) hf2 hk1 (odd_deferred _)
  have HEND:Hid ((oneMore (W0.heap.size+1) F≠[] /\ ∀ k∈oneMore (W0.heap.size+1) F,k < (W2.putObj wa.heap.size (.deferred none)).heap.size) /\ fin out (W2.putObj wa.heap.size (.deferred none))):=by
   rw [oneMore_ne HFN.out.1]
   refine ⟨⟨by simp,fun k hk=>?_⟩,hf3⟩
   have e:(W2.putObj wa.heap.size (.deferred none)).heap.size=W2.heap.size:=by simp
   rw [e,hs2]
   rcases List.mem_cons.1 hk with rfl | hk
   ·exact hlt
   ·exact HFN.out.2 k hk
  clear hJ1 hB hFF hFne hf hl hk hJ2 hf2 hs2 hlt HSEQ tB tW x0 x1 p1 p2 p3 p4 hf3
  go_wp2
  refine ⟨by simp,.inl ⟨_,_,rfl,run_takeDeferred hk1,?_⟩⟩
  exact ⟨_,results_none rfl _ _ _,⟨_,rfl⟩,(oneMore (W0.heap.size+1) F,out),HEND.out,hJ3⟩
structure DisMade (w:World) (ba bb bc q:Nat) (gf:Nat) (lb:Array Value) (kg:Nat):Prop where
 ha:w.heap[ba]?=some (.cells #[.pointer (some ⟨q,0,none⟩)] 159 (0,0))
 hb:w.heap[bb]?=some (.cells #[.int .i64 1,.func (.func gf) #[] lb] 167 (0,0))
 hc:w.heap[bc]?=some (.cells #[.slice (some ⟨kg,0,none⟩) 1 1] 74 (0,0))
 hk:w.heap[kg]?=some (.cells #[.int .i64 0,.bool false,.bool false] 73 (0,0))
theorem DisMade.quiet {w W:World} {ba bb bc q gf kg:Nat} {lb:Array Value} (h:DisMade w ba bb bc q gf lb kg) (t:Touch [] w W):DisMade W ba bb bc q gf lb kg:=⟨t.tag0 _ _ _ _ h.ha,t.tag0 _ _ _ _ h.hb,t.tag0 _ _ _ _ h.hc,t.tag0 _ _ _ _ h.hk⟩
theorem makeKey1 (W:World):(Instr.makeSlice 74 (.int .i64 1) (.int .i64 1)).run Tryz.prog W=.ok (.slice (some ⟨W.heap.size,0,none⟩) 1 1) (W.alloc (.cells #[.int .i64 0,.bool false,.bool false] 73)):=by kernel_rfl
theorem distinct_any (w:World) (q gf:Nat) (lb:Array Value):Calls Tryz.prog 107 #[.pointer (some ⟨q,0,none⟩),.agg #[.int .i64 1,.func (.func gf) #[] lb]] w fun e w'=>∃ ba bb bc kg,e=.returned (.func (.func 138) #[] #[.pointer (some ⟨ba,0,none⟩),.pointer (some ⟨bb,0,none⟩),.pointer (some ⟨bc,0,none⟩)]) /\ DisMade w' ba bb bc q gf lb kg /\ Touch [] w w':=by
 have hmf:∀ (fn:Fn) (first cap:Array Value) (w:World),(Instr.makeFunc fn first cap).run Tryz.prog w=.ok (.func fn first cap) w:=fun _ _ _ _=>rfl
 have hmk:=makeKey1
 go_enter Tryz.func107,Tryz.ntmps107
 go_wp2
 have tA:Touch [] w ((((w.alloc (.cells #[.pointer (some ⟨q,0,none⟩)] 159)).alloc (.cells #[.int .i64 1,.func (.func gf) #[] lb] 167)).alloc (.cells #[.int .i64 0,.bool false,.bool false] 73)).alloc (.cells #[.slice (some ⟨w.heap.size+1+1,0,none⟩) 1 1] 74)):=((((Touch.refl [] w).alloc _).alloc _).alloc _).alloc _
 have hM:DisMade ((((w.alloc (.cells #[.pointer (some ⟨q,0,none⟩)] 159)).alloc (.cells #[.int .i64 1,.func (.func gf) #[] lb] 167)).alloc (.cells #[.int .i64 0,.bool false,.bool false] 73)).alloc (.cells #[.slice (some ⟨w.heap.size+1+1,0,none⟩) 1 1] 74)) w.heap.size (w.heap.size+1) (w.heap.size+1+1+1) q gf lb (w.heap.size+1+1):=by
  refine ⟨?_,?_,?_,?_⟩
  ·exact (Below.heap_alloc _ _ _ (by simp only [World.size_alloc]; omega)).trans ((Below.heap_alloc _ _ _ (by simp only [World.size_alloc]; omega)).trans ((Below.heap_alloc _ _ _ (by simp only [World.size_alloc]; omega)).trans (heap_alloc_new w _)))
  ·exact (Below.heap_alloc _ _ _ (by simp only [World.size_alloc]; omega)).trans ((Below.heap_alloc _ _ _ (by simp only [World.size_alloc]; omega)).trans (new2 _ _ _))
  ·have:=new3 (w.alloc (.cells #[.pointer (some ⟨q,0,none⟩)] 159)) (.cells #[.int .i64 1,.func (.func gf) #[] lb] 167) (.cells #[.int .i64 0,.bool false,.bool false] 73) (.cells #[.slice (some ⟨w.heap.size+1+1,0,none⟩) 1 1] 74)
   rw [World.size_alloc] at this
   exact this
  ·exact (Below.heap_alloc _ _ _ (by simp only [World.size_alloc]; omega)).trans (new3 _ _ _ _)
 generalize (((w.alloc (.cells #[.pointer (some ⟨q,0,none⟩)] 159)).alloc (.cells #[.int .i64 1,.func (.func gf) #[] lb] 167)).alloc (.cells #[.int .i64 0,.bool false,.bool false] 73)).alloc (.cells #[.slice (some ⟨w.heap.size+1+1,0,none⟩) 1 1] 74)=wa at *
 have c0:=boxOne hM.hc
 obtain ⟨k0,k1,k2⟩:=box3 hM.hk
 have f0:wa.frozen? ⟨w.heap.size+1+1,0,none⟩=false:=by simp [World.frozen?,hM.hk]
 have HM:Hid (DisMade (wa.setCell ⟨w.heap.size+1+1,0,none⟩ (.int .i64 0)) w.heap.size (w.heap.size+1) (w.heap.size+1+1+1) q gf lb (w.heap.size+1+1) /\ Touch [] w (wa.setCell ⟨w.heap.size+1+1,0,none⟩ (.int .i64 0))):=by
  have t5:Touch [w.heap.size+1+1] wa (wa.setCell ⟨w.heap.size+1+1,0,none⟩ (.int .i64 0)):=(Touch.refl [w.heap.size+1+1] wa).setCell (p:=⟨w.heap.size+1+1,0,none⟩) (by simp) _
  have n5:∀ t,(73:TypeId)≠t -> KeepTag t wa _:=fun t ht=>t5.tag (notag_of hM.hk ht)
  refine ⟨⟨n5 159 (by decide) _ _ _ hM.ha,n5 167 (by decide) _ _ _ hM.hb,n5 74 (by decide) _ _ _ hM.hc,?_⟩,tA.more t5 (fun i hi=>.inr (by rw [List.mem_singleton.1 hi]; omega))⟩
  rw [heap_setCell_same wa (w.heap.size+1+1) 0 _ 73 _ hM.hk]; simp
 clear hM tA
 refine wp_loop_rounds 2 ?_
 rw [rounds_succ]
 go_wp2
 rw [rounds_succ]
 go_wp2
 go_ret
 exact ⟨_,_,_,_,rfl,HM.out⟩
end Go.Proofs.YtjoinhljdbljaaaGreat
