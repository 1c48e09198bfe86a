/- A sorter's own cells; the walk of its pop, and what follows. -/
import Derived.Test.YtjoinhljdbljaaaGreatRunEToRunK
set_option maxHeartbeats 2000000
set_option maxRecDepth 20000
namespace Go.Proofs.YtjoinhljdbljaaaGreat
open Go.RowKit
structure SC where
 bx:Nat
 blk:Nat
 kv:Value
 count:Nat
 most:Nat
 fan:Nat
 ph:Nat
 held:Nat
 came:Nat
 run:Int
 length:Nat
 lno:Int
 lv:Value
 rv:Value
 mg:Value
 given:Nat
def SC.cells (s:SC):Array Value:=
 #[.pointer (some ⟨s.bx,0,none⟩),.int .i64 (s.blk:Int),s.kv,.int .i64 (s.count:Int),.int .i64 (s.most:Int),.int .i64 (s.fan:Int),.pointer (some ⟨s.ph,0,none⟩),.int .i64 (s.held:Int),.int .i64 (s.came:Int),.int .i64 s.run,.int .i64 (s.length:Int),.int .i64 s.lno,s.lv,s.rv,s.mg,.int .i64 (s.given:Int)]
def SorterAt (w:World) (ps:Nat) (s:SC):Prop:=w.heap[ps]?=some (.cells s.cells 260 (0,0))
theorem SorterAt.cell {w:World} {ps:Nat} {s:SC} (h:SorterAt w ps s) :
  w.cell? ⟨ps,0,none⟩=some (.pointer (some ⟨s.bx,0,none⟩)) /\ w.cell? ⟨ps,1,none⟩=some (.int .i64 (s.blk:Int)) /\ w.cell? ⟨ps,2,none⟩=some s.kv /\ w.cell? ⟨ps,3,none⟩=some (.int .i64 (s.count:Int)) /\ w.cell? ⟨ps,4,none⟩=some (.int .i64 (s.most:Int)) /\ w.cell? ⟨ps,5,none⟩=some (.int .i64 (s.fan:Int)) /\ w.cell? ⟨ps,6,none⟩=some (.pointer (some ⟨s.ph,0,none⟩)) /\ w.cell? ⟨ps,7,none⟩=some (.int .i64 (s.held:Int)) /\ w.cell? ⟨ps,8,none⟩=some (.int .i64 (s.came:Int)) /\ w.cell? ⟨ps,9,none⟩=some (.int .i64 s.run) /\ w.cell? ⟨ps,10,none⟩=some (.int .i64 (s.length:Int)) /\ w.cell? ⟨ps,11,none⟩=some (.int .i64 s.lno) /\ w.cell? ⟨ps,12,none⟩=some s.lv /\ w.cell? ⟨ps,13,none⟩=some s.rv /\ w.cell? ⟨ps,14,none⟩=some s.mg /\ w.cell? ⟨ps,15,none⟩=some (.int .i64 (s.given:Int)) /\ ∀ o,w.frozen? ⟨ps,o,none⟩=false:=by
 unfold SorterAt at h
 refine ⟨?_,?_,?_,?_,?_,?_,?_,?_,?_,?_,?_,?_,?_,?_,?_,?_,?_⟩
 all_goals first | (intro o; simp [World.frozen?,h]; done) | simp [World.cell?,h,SC.cells]
theorem SorterAt.u {F:List Nat} {w w':World} {ps:Nat} {s:SC} (h:SorterAt w ps s) (t:TouchU F w w') (hn:ps∉F):SorterAt w' ps s:=t.keep h (by decide) hn
theorem SorterAt.held {w:World} {ps:Nat} {s:SC} (h:SorterAt w ps s) (n:Nat):SorterAt (w.setCell ⟨ps,7,none⟩ (.int .i64 (n:Int))) ps { s with held:=n }:=by
 unfold SorterAt at *
 rw [heap_setCell_same w ps 7 _ 260 _ h]
 simp [SC.cells]
theorem HeapSt.away {w w':World} {ph:Nat} {v:Value} {bs ps:Nat} {ks:List K} {L:List EV} {s s':SC} {F:List Nat} (h:HeapSt w ph v bs ps ks L) (hs:SorterAt w ps s) (hs':SorterAt w' ps s') (hk:s'.kv=s.kv) (t:TouchU F w w') (hF:∀ k∈F,k∉heapF ph v) (n1:NoTag 228 w F) (n2:NoTag 73 w F) (n3:NoTag 85 w F):HeapSt w' ph v bs ps ks L:=by
 obtain ⟨cs,f,vk,k1,k2,k3⟩:=h.ctx.keys
 refine ⟨t.keep h.head (by decide) (fun e=>hF _ e (by simp [heapF])),?_,⟨t.tag (by decide) n1 _ _ _ h.ctx.s,s'.cells,(0,0),vk,hs',?_,Sl3.keep k3 (t.tag (by decide) n2)⟩,fun x hx=>⟨Sl3.keep (h.rows x hx).1 (t.tag (by decide) n3),(h.rows x hx).2⟩,h.ok⟩
 ·obtain ⟨h1,h2⟩:=h.items
  refine ⟨h1,?_⟩
  rcases h2 with h2 | ⟨g,cap,cur,e,hb,hh,rest⟩
  ·exact .inl h2
  ·exact .inr ⟨g,cap,cur,e,hb,t.keep hh (by decide) (fun e'=>hF _ e' (by simp [heapF,e,Value.ownBlock])),rest⟩
 ·unfold SorterAt at hs
  rw [hs] at k1
  simp only [Option.some.injEq,Obj.cells.injEq] at k1
  rw [<- k1.1] at k2
  simp only [SC.cells] at k2 ⊢
  simpa [hk] using k2
theorem HeapSt.notag {w:World} {ph:Nat} {v:Value} {bs ps:Nat} {ks:List K} {L:List EV} (h:HeapSt w ph v bs ps ks L) {t:TypeId} (h1:302≠t) (h2:263≠t):NoTag t w (heapF ph v):=
 (h.items.notag h2).cons h.head h1
theorem HeapSt.turn {w w':World} {ph:Nat} {v:Value} {bs ps:Nat} {ks:List K} {L:List EV} {s s':SC} (h:HeapSt w ph v bs ps ks L) (hs:SorterAt w ps s) (hs':SorterAt w' ps s') (hk:s'.kv=s.kv) (t:TouchU [ps] w w'):HeapSt w' ph v bs ps ks L:=by
 have hps:∀ t',(260:TypeId)≠t' -> NoTag t' w [ps]:=fun t' ht=>notag_of hs ht
 refine h.away hs hs' hk t (fun k e=>?_) (hps _ (by decide)) (hps _ (by decide)) (hps _ (by decide))
 rw [List.mem_singleton.1 e]
 exact (h.notag (t:=260) (by decide) (by decide)).not_mem hs
def sizes (L:List EV):Int:=(L.map fun x=>x.1.size).sum
theorem size_le {L:List EV} {x:EV} (hx:x∈L) (hp:∀ y∈L,0 <= y.1.size):x.1.size <= sizes L:=by
 induction L with
 | nil=>simp at hx
 | cons a L ih=>
  have h0:=hp a (by simp)
  have hn:0 <= sizes L:=sizes_nn (fun y hy=>hp y (by simp [hy]))
  have e:sizes (a::L)=a.1.size+sizes L:=by simp [sizes]
  rcases List.mem_cons.1 hx with rfl | hx
  ·omega
  ·have:=ih hx (fun y hy=>hp y (by simp [hy])); omega
 where
 sizes_nn {L:List EV} (hp:∀ y∈L,0 <= y.1.size):0 <= sizes L:=by
  induction L with
  | nil=>simp [sizes]
  | cons a L ih=>
   have h0:=hp a (by simp)
   have:=ih (fun y hy=>hp y (by simp [hy]))
   have e:sizes (a::L)=a.1.size+sizes L:=by simp [sizes]
   omega
theorem HeapSt.quiet {w w':World} {ph:Nat} {v:Value} {bs ps:Nat} {ks:List K} {L:List EV} (h:HeapSt w ph v bs ps ks L) (t:Touch [] w w'):HeapSt w' ph v bs ps ks L:=by
 refine ⟨h.head.touch t (by simp),?_,h.ctx.keep (t.tag0 _) (t.tag0 _) (t.tag0 _),fun x hx=>⟨(h.rows x hx).1.touch t,(h.rows x hx).2⟩,h.ok⟩
 obtain ⟨h1,h2⟩:=h.items
 refine ⟨h1,?_⟩
 rcases h2 with h2 | ⟨g,cap,cur,e,hb,hh,rest⟩
 ·exact .inl h2
 ·exact .inr ⟨g,cap,cur,e,hb,t.tag0 _ _ _ _ hh,rest⟩
theorem pop_any (w:World) (ph:Nat) (v:Value) (bs ps:Nat) (ks:List K) (L:List EV) (x:EV) (h:HeapSt w ph v bs ps ks L) (h0:L[0]?=some x) (hsmall:L.length <= 100000000) :
  Calls Tryz.prog 207 #[.pointer (some ⟨ph,0,none⟩)] w fun e w'=>e=.returned x.val /\ ∃ v' L',HeapSt w' ph v' bs ps ks L' /\ (x::L').Perm L /\ v'.ownBlock=v.ownBlock /\ Touch (heapF ph v) w w':=by
 obtain ⟨hl,hx⟩:=List.getElem?_eq_some_iff.1 h0
 obtain ⟨g,cap,rfl,hA⟩:=h.at (fun e=>by subst e; simp at hl)
 obtain ⟨n,hn⟩:∃ n,L.length=n+1:=⟨L.length - 1,by omega⟩
 refine (pop_at w ph g cap bs ps ks L n hA h.ok hn hsmall).mono ?_
 rintro e w' ⟨rfl,L',p1,p2,p3⟩
 rw [hx] at p2 ⊢
 exact ⟨rfl,_,L',p1,p2,rfl,p3.mono (by simp [heapF,Value.ownBlock])⟩
theorem perm_sum {a b:List Int} (h:a.Perm b):a.sum=b.sum:=by
 induction h with
 | nil=>rfl
 | cons x _ ih=>simp [ih]
 | swap x y l=>simp only [List.sum_cons]; omega
 | trans _ _ h1 h2=>exact h1.trans h2
theorem sizes_perm {L L':List EV} (h:L.Perm L'):sizes L=sizes L':=perm_sum (h.map _)
theorem sorterPop_any (w:World) (ps bs:Nat) (s:SC) (hv:Value) (ks:List K) (L:List EV) (x:EV) (hs:SorterAt w ps s) (hh:HeapSt w s.ph hv bs ps ks L) (h0:L[0]?=some x) (hsmall:L.length <= 100000000) (hsz:(sizes L:Int)=s.held) (hpos:∀ y∈L,0 <= y.1.size) (hbig:s.held <= 1000000000) :
  Calls Tryz.prog 174 #[.pointer (some ⟨ps,0,none⟩)] w fun e w'=>e=.returned x.val /\ ∃ hv' L' n,SorterAt w' ps { s with held:=n } /\ (sizes L':Int)=n /\ HeapSt w' s.ph hv' bs ps ks L' /\ (x::L').Perm L /\ hv'.ownBlock=hv.ownBlock /\ Touch (ps::heapF s.ph hv) w w':=by
 obtain ⟨c0,c1,c2,c3,c4,c5,c6,c7,c8,c9,c10,c11,c12,c13,c14,c15,cf⟩:=hs.cell
 have hxm:x∈L:=List.mem_of_getElem? h0
 obtain ⟨ao,acap,ea⟩:=(hh.rows x hxm).1.shape
 have hle:x.1.size <= s.held /\ 0 <= x.1.size:=by
  refine ⟨?_,hpos x hxm⟩
  rw [<- hsz]
  exact size_le hxm hpos
 have HPOP:Hid (∀ W,Touch [] w W -> Calls Tryz.prog 207 #[.pointer (some ⟨s.ph,0,none⟩)] W fun e w'=>e=.returned x.val /\ ∃ v' L',HeapSt w' s.ph v' bs ps ks L' /\ (x::L').Perm L /\ v'.ownBlock=hv.ownBlock /\ Touch (heapF s.ph hv) W w'):=fun W hW=>pop_any W s.ph hv bs ps ks L x (hh.quiet hW) h0 hsmall
 have HSZ:Hid (sizes L=s.held):=hsz
 have HS:Hid (SorterAt w ps s):=hs
 have hpslt:ps < w.heap.size:=(Array.getElem?_eq_some_iff.1 hs).1
 have HPN:Hid (ps∉heapF s.ph hv):=(hh.notag (t:=260) (by decide) (by decide)).not_mem hs
 have HLT:Hid (∀ k∈heapF s.ph hv,k < w.heap.size):=fun k hk=>by
  rcases List.mem_cons.1 hk with e | e
  ·rw [e]; exact (Array.getElem?_eq_some_iff.1 hh.head).1
  ·obtain ⟨cs,f,e'⟩:=hh.items.tag k (by simpa using e)
   exact (Array.getElem?_eq_some_iff.1 e').1
 have HV:Hid (x.val=.agg #[.int .i64 x.1.rc.no,.slice ao x.1.rc.row.length acap,.int .i64 x.1.run,.int .i64 x.1.size]):=by show _=_; unfold EV.val entVal; rw [ea]
 rw [HV.out] at HPOP ⊢
 have f7:=cf 7
 obtain ⟨hle1,hle2⟩:=hle
 clear hs hh cf hsz hpos hxm ea h0
 have HX:Hid (x.1.size=x.1.size):=rfl
 generalize hsx:x.1.size=xs at *
 have HXS:Hid (x.1.size=xs):=hsx
 clear hsx HX
 obtain ⟨m,rfl⟩:∃ m:Nat,xs=(m:Int):=⟨xs.toNat,by omega⟩
 obtain ⟨n,hsub⟩:∃ n:Nat,(s.held:Int) - (m:Int)=(n:Int):=⟨s.held - m,by omega⟩
 have HSUB:Hid ((s.held:Int) - (m:Int)=(n:Int)):=hsub
 generalize x.1.rc.row.length=al at *
 generalize x.1.rc.no=an at *
 generalize x.1.run=arun at *
 have HCELL:Hid (∀ W0 w1:World,Touch (heapF s.ph hv) W0 w1 -> W0.heap=(w.alloc (.cells #[.int .i64 0,.slice none 0 0,.int .i64 0,.int .i64 0] 263)).heap -> SorterAt w1 ps s /\ w1.heap[w.heap.size]?=some (.cells #[.int .i64 0,.slice none 0 0,.int .i64 0,.int .i64 0] 263 (0,0)) /\ w.heap.size < w1.heap.size):=fun W0 w1 ht h0=>by
  refine ⟨?_,?_,?_⟩
  ·unfold SorterAt
   rw [ht.block ps (by rw [h0]; simp; omega) HPN.out,h0,Below.heap_alloc _ _ _ hpslt]; exact HS.out
  ·rw [ht.block _ (by rw [h0]; simp) (fun e=>by have:=HLT.out _ e; omega),h0]; exact heap_alloc_new w _
  ·have:=ht.size; rw [h0] at this; simp at this; omega
 go_enter Tryz.func174,Tryz.ntmps174
 go_wp2_with (go_at_call 207; refine (HPOP.out _ ((Touch.refl [] _).alloc _)).mono ?_; rintro e w1 ⟨rfl,v1,L1,p1,p2,p3,p4⟩; obtain ⟨q1,q2,q3⟩:=HCELL.out _ _ p4 rfl; clear c0 c1 c2 c3 c4 c5 c6 c7 c8 c9 c10 c11 c12 c13 c14 c15 f7; obtain ⟨c0,c1,c2,c3,c4,c5,c6,c7,c8,c9,c10,c11,c12,c13,c14,c15,cf⟩:=q1.cell; have f7:=cf 7; have HQ1:Hid (SorterAt w1 ps s):=q1; have HQ2:Hid _:=q2; have HP1:Hid _:=p1; have HP4:Hid _:=p4; clear cf q1 q2 p1 p4)
 have hps1:ps < w1.heap.size:=by omega
 go_region
 obtain ⟨x0,x1,x2,x3⟩:=box4 HQ2.out
 have z0:w1.frozen? ⟨w.heap.size,0,none⟩=false:=by simp [World.frozen?,HQ2.out]
 have z1:w1.frozen? ⟨w.heap.size,1,none⟩=false:=by simp [World.frozen?,HQ2.out]
 have z2:w1.frozen? ⟨w.heap.size,2,none⟩=false:=by simp [World.frozen?,HQ2.out]
 have z3:w1.frozen? ⟨w.heap.size,3,none⟩=false:=by simp [World.frozen?,HQ2.out]
 have hne:w.heap.size≠ps:=by omega
 have hne2:ps≠w.heap.size:=by omega
 go_wp2
 have T0:Touch [ps,w.heap.size] w1 ((((((w1.setCell ⟨ps,7,none⟩ (.int .i64 (n:Int))).setCell ⟨w.heap.size,0,none⟩ (.int .i64 an)).setCell ⟨w.heap.size,1,none⟩ (.slice ao al acap)).setCell ⟨w.heap.size,2,none⟩ (.int .i64 arun)).setCell ⟨w.heap.size,3,none⟩ (.int .i64 (m:Int))).alloc (.cells #[.int .i64 an,.slice ao al acap,.int .i64 arun,.int .i64 (m:Int)] 263)).drew:=
  ((((((Touch.refl [ps,w.heap.size] w1).setCell (p:=⟨ps,7,none⟩) (by simp) _).setCell (p:=⟨w.heap.size,0,none⟩) (by simp) _).setCell (p:=⟨w.heap.size,1,none⟩) (by simp) _).setCell (p:=⟨w.heap.size,2,none⟩) (by simp) _).setCell (p:=⟨w.heap.size,3,none⟩) (by simp) _).alloc _ |>.drew
 have T1:Touch [w.heap.size] (w1.setCell ⟨ps,7,none⟩ (.int .i64 (n:Int))) ((((((w1.setCell ⟨ps,7,none⟩ (.int .i64 (n:Int))).setCell ⟨w.heap.size,0,none⟩ (.int .i64 an)).setCell ⟨w.heap.size,1,none⟩ (.slice ao al acap)).setCell ⟨w.heap.size,2,none⟩ (.int .i64 arun)).setCell ⟨w.heap.size,3,none⟩ (.int .i64 (m:Int))).alloc (.cells #[.int .i64 an,.slice ao al acap,.int .i64 arun,.int .i64 (m:Int)] 263)).drew:=
  (((((Touch.refl [w.heap.size] _).setCell (p:=⟨w.heap.size,0,none⟩) (by simp) _).setCell (p:=⟨w.heap.size,1,none⟩) (by simp) _).setCell (p:=⟨w.heap.size,2,none⟩) (by simp) _).setCell (p:=⟨w.heap.size,3,none⟩) (by simp) _).alloc _ |>.drew
 have hS:=(HQ1.out.held n).u T1.u (by simpa using hne2)
 have hB:=heap_setCell_same _ w.heap.size 3 _ 263 (.int .i64 (m:Int)) (heap_setCell_same _ w.heap.size 2 _ 263 (.int .i64 arun) (heap_setCell_same _ w.heap.size 1 _ 263 (.slice ao al acap) (heap_setCell_same _ w.heap.size 0 _ 263 (.int .i64 an) ((heap_setCell_other w1 ⟨ps,7,none⟩ w.heap.size (.int .i64 (n:Int)) hne).trans HQ2.out))))
 simp at hB
 have hB2:=(Below.heap_alloc _ (.cells #[.int .i64 an,.slice ao al acap,.int .i64 arun,.int .i64 (m:Int)] 263) _ (Array.getElem?_eq_some_iff.1 hB).1).trans hB
 obtain ⟨y0,y1,y2,y3⟩:=box4 hB2
 refine bodyPost_ret (v:=.agg #[.int .i64 an,.slice ao al acap,.int .i64 arun,.int .i64 m]) (by simp [results,Tryz.results174,go_sem,y0,y1,y2,y3]) rfl ⟨rfl,v1,L1,n,hS,?_,?_,p2,p3,?_⟩
 ·have e1:=sizes_perm p2
  have e2:sizes (x::L1)=x.1.size+sizes L1:=by simp [sizes]
  have e3:=HSZ.out; have e4:=HXS.out; have e5:=HSUB.out
  omega
 ·have nt:∀ t',(260:TypeId)≠t' -> (263:TypeId)≠t' -> NoTag t' w1 [ps,w.heap.size]:=fun t' h1 h2=>(notag_of HQ2.out h2).cons HQ1.out h1
  refine HP1.out.away HQ1.out hS rfl T0.u (fun k hk e=>?_) (nt _ (by decide) (by decide)) (nt _ (by decide) (by decide)) (nt _ (by decide) (by decide))
  have e':k∈heapF s.ph hv:=by simpa [heapF,p3] using e
  rcases List.mem_cons.1 hk with rfl | hk
  ·exact HPN.out e'
  ·have:=HLT.out _ e'; simp at hk; omega
 ·have:=((((Touch.refl (ps::heapF s.ph hv) w).alloc _).trans (HP4.out.mono (fun k hk=>List.mem_cons_of_mem _ hk))))
  exact this.onto T0 (fun i hi=>by simp at hi; rcases hi with rfl | rfl; exact .inl (by simp); exact .inr (Nat.le_refl _))
structure RI where
 r:Nat
 file:Nat
 cols:Nat
 v:Value
 cs:List (List Rec)
 cur:List Rec
def RI.recs (x:RI):List Rec:=x.cs.flatten++x.cur
def RI.ptr (x:RI):Value:=.pointer (some ⟨x.r,0,none⟩)
def RI.Done (w:World) (bx blk:Nat) (d:DS) (x:RI):Prop:=RunEnd w x.r bx blk x.file x.cols x.cs d /\ x.cur=[]
def RI.Open (w:World) (bx blk:Nat) (d:DS) (x:RI):Prop:=RunIs w x.r bx blk x.file x.cols x.v x.cs x.cur d
structure Left (d:DS) (k j:Nat):Prop where
 used:(usedOf d.files:Int) <= d.wrote
 room:d.wrote+k <= d.blocks
 small:d.wrote+k <= 1000000000
 last:d.last+j <= 1000000000
theorem Left.mono {d:DS} {k j k' j':Nat} (h:Left d k j) (h1:k' <= k) (h2:j' <= j):Left d k' j':=by
 obtain ⟨a,b,c,e⟩:=h
 exact ⟨a,by omega,by omega,by omega⟩
theorem Left.roomy {d:DS} {k j:Nat} (h:Left d k j):Roomy d k:=by
 obtain ⟨a,b,c,e⟩:=h
 exact ⟨by omega,by omega,by omega⟩
theorem Left.wrote {w w':World} {bx bm:Nat} {d d':DS} {M M':List PF} {file:Nat} {bs:List ByteArray} {k m j:Nat} (h:Left d (m+k) j) (hw:Wrote w w' bx bm d M file bs d' M' k):Left d' m j:=by
 obtain ⟨a,b,c,e⟩:=h
 have h1:=hw.wrote
 have h2:=hw.used
 have h3:=hw.last
 have h4:=hw.step.blocks
 exact ⟨by omega,by omega,by omega,by omega⟩
theorem RI.Done.keep {w w':World} {bx blk:Nat} {d d':DS} {x:RI} {F:List Nat} {file:Int} {c:Option (List ByteArray)} (h:x.Done w bx blk d) (t:TouchU F w w') (hr:x.r∉F) (hd:DStep d d' file c) (hf:(x.file:Int)≠file):x.Done w' bx blk d':=by
 obtain ⟨⟨h1,h2,h3⟩,h4⟩:=h
 refine ⟨⟨t.keep h1 (by decide) hr,?_,h3⟩,h4⟩
 rw [hd.get,if_neg hf]
 exact h2
theorem RI.Done.quiet {w w':World} {bx blk:Nat} {d:DS} {x:RI} {F:List Nat} (h:x.Done w bx blk d) (t:TouchU F w w') (hr:x.r∉F):x.Done w' bx blk d:=by
 obtain ⟨⟨h1,h2,h3⟩,h4⟩:=h
 exact ⟨⟨t.keep h1 (by decide) hr,h2,h3⟩,h4⟩
theorem RI.Open.quiet {w w':World} {bx blk:Nat} {d:DS} {x:RI} {F:List Nat} (h:x.Open w bx blk d) (t:Touch F w w') (hr:x.r∉F) (h5:NoTag 5 w F):x.Open w' bx blk d:=by
 obtain ⟨⟨h1,h2⟩,h3,h4,h6⟩:=h
 refine ⟨⟨t.u.keep h1 (by decide) hr,h2.touch t (fun k hk=>?_)⟩,h3,h4,h6⟩
 obtain ⟨c,f,hc⟩:=h2.bytes k hk
 exact h5.not_mem hc
structure RunsSt (w:World) (bx bm blk cols:Nat) (d:DS) (M:List PF) (pre:List RI) (o:Option RI):Prop where
 pd:PD w bx bm d M
 ok:DiskOK d
 done:∀ x∈pre,x.Done w bx blk d
 opn:∀ x,o=some x -> x.Open w bx blk d
 files:((pre++o.toList).map RI.file).Nodup
 recs:∀ x∈pre++o.toList,∀ y∈x.recs,RecOK blk cols y
 known:∀ x∈pre++o.toList,(x.file:Int) <= d.last
 len:∀ x∈pre++o.toList,x.cs.length <= x.recs.length /\ x.recs.length <= 1000000
 col:∀ x∈pre++o.toList,x.recs≠[] -> x.cols=cols
 block:(blk:Int) <= d.block
 b2:blk <= 4096
 b1:16 <= blk
 c2:cols <= 1000
def runsF (bx bm:Nat) (M:List PF) (R:List RI):List Nat:=R.map RI.r++diskF bx bm M
theorem RunsSt.cell {w:World} {bx bm blk cols:Nat} {d:DS} {M:List PF} {pre:List RI} {o:Option RI} (h:RunsSt w bx bm blk cols d M pre o) {x:RI} (hx:x∈pre++o.toList):∃ n v,w.heap[x.r]?=some (.cells (runCells bx blk x.file x.cols n v) 223 (0,0)):=by
 rcases List.mem_append.1 hx with hx | hx
 ·exact ⟨_,_,(h.done x hx).1.cell⟩
 ·exact ⟨_,_,(h.opn x (by simpa using hx)).run.cell⟩
theorem RunsSt.notag {w:World} {bx bm blk cols:Nat} {d:DS} {M:List PF} {pre:List RI} {o:Option RI} (h:RunsSt w bx bm blk cols d M pre o) {t:TypeId} (h1:117≠t) (h2:9≠t) (h3:223≠t):NoTag t w (runsF bx bm M (pre++o.toList)):=by
 intro k hk cs f e
 rcases List.mem_append.1 hk with hk | hk
 ·obtain ⟨x,hx,rfl⟩:=List.mem_map.1 hk
  obtain ⟨n,v,hc⟩:=h.cell hx
  rw [hc] at e
  simp only [Option.some.injEq,Obj.cells.injEq] at e
  exact h3 e.2.1
 ·exact h.pd.notag h1 h2 k hk cs f e
theorem RunsSt.boxes {w:World} {bx bm blk cols:Nat} {d:DS} {M:List PF} {pre:List RI} {o:Option RI} (h:RunsSt w bx bm blk cols d M pre o) {x y:RI} (hx:x∈pre++o.toList) (hy:y∈pre++o.toList) (e:x.r=y.r):x.file=y.file:=by
 obtain ⟨n,v,hc⟩:=h.cell hx
 obtain ⟨n',v',hc'⟩:=h.cell hy
 rw [e,hc'] at hc
 simp only [Option.some.injEq,Obj.cells.injEq,runCells] at hc
 have:=hc.1
 simp at this
 omega
theorem RunsSt.r_disk {w:World} {bx bm blk cols:Nat} {d:DS} {M:List PF} {pre:List RI} {o:Option RI} (h:RunsSt w bx bm blk cols d M pre o) {x:RI} (hx:x∈pre++o.toList):x.r∉diskF bx bm M:=by
 obtain ⟨n,v,hc⟩:=h.cell hx
 exact (h.pd.notag (t:=223) (by decide) (by decide)).not_mem hc
theorem RunsSt.quiet {w w':World} {bx bm blk cols:Nat} {d:DS} {M:List PF} {pre:List RI} {o:Option RI} {F:List Nat} (h:RunsSt w bx bm blk cols d M pre o) (t:Touch F w w') (hF:∀ k∈F,k∉runsF bx bm M (pre++o.toList)) (h5:NoTag 5 w F):RunsSt w' bx bm blk cols d M pre o:=
 { h with
  pd:=h.pd.away t (fun k hk e=>hF k e (by simp only [runsF,List.mem_append]; exact .inr hk))
  done:=fun x hx=>(h.done x hx).quiet t.u (fun e=>hF _ e (by simp only [runsF,List.mem_append,List.mem_map]; exact .inl ⟨x,.inl hx,rfl⟩))
  opn:=fun x hx=>(h.opn x hx).quiet t (fun e=>hF _ e (by simp only [runsF,List.mem_append,List.mem_map]; exact .inl ⟨x,.inr (by simp [hx]),rfl⟩)) h5 }
theorem nodup_last {α:Type} {l:List α} {a:α} (h:(l++[a]).Nodup):∀ b∈l,b≠a:=fun b hb e=>(List.nodup_append.1 h).2.2 b hb a (by simp) e
def POwn (w:World) (v:Value) (R:List RI):Prop:=w.ownsRow 0 194 1 v R.length (R.map RI.ptr)
theorem POwn.shape {w:World} {v:Value} {R:List RI} (h:POwn w v R):(v=.slice none 0 0 /\ R=[]) \/ ∃ g cap cur,v=.slice (some ⟨g,0,none⟩) R.length cap /\ w.heap[g]?=some (.cells cur 194 (0,0)) /\ R.length <= cap /\ cap <= maxLen /\ cur.size=cap /\ ∀ i (hi:i < R.length),cur[i]?=some R[i].ptr:=by
 obtain ⟨h1,h2⟩:=h
 rcases h2 with ⟨rfl,h0⟩ | ⟨g,cap,cur,e,hb,hh,hc,hm,hs,hx⟩
 ·exact .inl ⟨rfl,List.length_eq_zero_iff.1 h0⟩
 ·refine .inr ⟨g,cap,cur,e,hh,hc,hm,by simpa using hs,fun i hi=>?_⟩
  have h3:(List.take (R.length * 1) cur.toList)[i]?=(R.map RI.ptr)[i]?:=by rw [hx]
  rw [List.getElem?_take,if_pos (by omega)] at h3
  simpa [hi] using h3
theorem POwn.u {F:List Nat} {w w':World} {v:Value} {R:List RI} (h:POwn w v R) (t:TouchU F w w') (hn:∀ k,v.ownBlock=some k -> k∉F):POwn w' v R:=by
 obtain ⟨h1,h2⟩:=h
 refine ⟨h1,?_⟩
 rcases h2 with h2 | ⟨g,cap,cur,e,hb,hh,rest⟩
 ·exact .inl h2
 ·exact .inr ⟨g,cap,cur,e,hb,t.keep hh (by decide) (hn g (by simp [e,Value.ownBlock])),rest⟩
theorem POwn.notag {w:World} {v:Value} {R:List RI} (h:POwn w v R) {t:TypeId} (h1:194≠t):NoTag t w v.ownBlock.toList:=by
 intro k hk cs f e
 rcases h.shape with ⟨rfl,_⟩ | ⟨g,cap,cur,rfl,hh,_⟩
 ·simp [Value.ownBlock] at hk
 ·simp [Value.ownBlock] at hk
  subst hk
  rw [hh] at e
  simp only [Option.some.injEq,Obj.cells.injEq] at e
  exact h1 e.2.1
theorem len_flatten {cs:List (List Rec)} (h:∀ c∈cs,c≠[]):cs.length <= cs.flatten.length:=by
 induction cs with
 | nil=>simp
 | cons c cs ih=>
  have h1:=ih (fun c hc=>h c (by simp [hc]))
  have h2:1 <= c.length:=by
   have:=h c (by simp)
   cases c with
   | nil=>exact absurd rfl this
   | cons=>simp
  simp only [List.length_cons,List.flatten_cons,List.length_append]
  omega
theorem RunsSt.ended {w w':World} {bx bm blk cols:Nat} {d d':DS} {M M':List PF} {pre:List RI} {x:RI} {cs':List (List Rec)} {k:Nat} (h:RunsSt w bx bm blk cols d M pre (some x)) (hE:RunEnd w' x.r bx blk x.file x.cols cs' d') (hr:cs'.flatten=x.cs.flatten++x.cur)
  (hW:Wrote w w' bx bm d M x.file (textsOf x.file cs') d' M' k) (t:Touch (x.r::diskF bx bm M) w w'):RunsSt w' bx bm blk cols d' M' (pre++[⟨x.r,x.file,x.cols,.slice none 0 0,cs',[]⟩]) none:=by
 have hrec:RI.recs ⟨x.r,x.file,x.cols,.slice none 0 0,cs',[]⟩=x.recs:=by simp [RI.recs,hr]
 have hxm:x∈pre++(some x).toList:=by simp
 have hmem:∀ y∈pre++[(⟨x.r,x.file,x.cols,.slice none 0 0,cs',[]⟩:RI)]++(none:Option RI).toList,∃ z∈pre++(some x).toList,z.file=y.file /\ z.recs=y.recs /\ z.cols=y.cols:=by
  intro y hy
  simp only [Option.toList_none,List.append_nil] at hy
  rcases List.mem_append.1 hy with hy | hy
  ·exact ⟨y,by simp [hy],rfl,rfl,rfl⟩
  ·rw [List.mem_singleton.1 hy]; exact ⟨x,hxm,rfl,hrec.symm,rfl⟩
 have hfne:∀ y∈pre,y.file≠x.file:=fun y hy=>by
  have:=h.files
  simp only [List.map_append,Option.toList_some,List.map_cons,List.map_nil] at this
  exact nodup_last this _ (List.mem_map_of_mem hy)
 refine ⟨hW.pd,hW.step.ok,fun y hy=>?_,by simp,?_,fun y hy z hz=>?_,fun y hy=>?_,fun y hy=>?_,fun y hy hn=>?_,by have:=hW.step.block; have:=h.block; omega,h.b2,h.b1,h.c2⟩
 ·rcases List.mem_append.1 hy with hy | hy
  ·refine (h.done y hy).keep t.u (fun e=>?_) hW.step (by have:=hfne y hy; omega)
   rcases List.mem_cons.1 e with e | e
   ·exact hfne y hy (h.boxes (by simp [hy]) hxm e)
   ·exact h.r_disk (by simp [hy]) e
  ·rw [List.mem_singleton.1 hy]; exact ⟨hE,rfl⟩
 ·have:=h.files
  simpa using this
 ·obtain ⟨u,hu,_,e,_⟩:=hmem y hy
  exact h.recs u hu z (by rw [e]; exact hz)
 ·obtain ⟨u,hu,e,_⟩:=hmem y hy
  rw [<- e,hW.last]
  exact h.known u hu
 ·simp only [Option.toList_none,List.append_nil] at hy
  rcases List.mem_append.1 hy with hy | hy
  ·exact h.len y (by simp [hy])
  ·rw [List.mem_singleton.1 hy,hrec]
   refine ⟨?_,(h.len x hxm).2⟩
   have:=len_flatten (fun c hc=>(hE.full c hc).1)
   rw [hr] at this
   exact this
 ·obtain ⟨u,hu,_,e,e2⟩:=hmem y hy
  rw [<- e2]
  exact h.col u hu (by rw [e]; exact hn)
theorem endRun_none (w:World) (ps:Nat) (s:SC) (ao:Option Addr) (cap:Nat) (hs:SorterAt w ps s) (hv:s.rv=.slice ao 0 cap) :
  Calls Tryz.prog 197 #[.pointer (some ⟨ps,0,none⟩)] w fun e w'=>e=.returned (.tuple #[]) /\ w'=w:=by
 obtain ⟨c0,c1,c2,c3,c4,c5,c6,c7,c8,c9,c10,c11,c12,c13,c14,c15,cf⟩:=hs.cell
 rw [hv] at c13
 clear hs cf
 go_enter Tryz.func197,Tryz.ntmps197
 go_wp2
 go_end0
 exact ⟨rfl,rfl⟩
theorem endRun_some (w:World) (ps bm cols m j:Nat) (s:SC) (d:DS) (M:List PF) (pre:List RI) (x:RI) (hs:SorterAt w ps s) (hp:POwn w s.rv (pre++[x])) (hR:RunsSt w s.bx bm s.blk cols d M pre (some x)) (hl:Left d (m+1) j) :
  Calls Tryz.prog 197 #[.pointer (some ⟨ps,0,none⟩)] w fun e w'=>e=.returned (.tuple #[]) /\ ∃ x' d' M',x'.r=x.r /\ x'.file=x.file /\ x'.recs=x.recs /\ d'.last=d.last /\ RunsSt w' s.bx bm s.blk cols d' M' (pre++[x']) none /\ Left d' m j /\ (∀ k∈rowsOf M',k∈rowsOf M \/ w.heap.size <= k) /\ Touch (x.r::diskF s.bx bm M) w w':=by
 have hxm:x∈pre++(some x).toList:=by simp
 have hb:=hR.block
 have hk:=hR.known x hxm
 have hll:=hl.last
 have hlen:=hR.len x hxm
 have HEND:Hid (∀ W,Touch [] w W -> Calls Tryz.prog 114 #[.pointer (some ⟨x.r,0,none⟩)] W fun e w'=>e=.returned (.tuple #[]) /\ ∃ x' d' M',x'.r=x.r /\ x'.file=x.file /\ x'.recs=x.recs /\ d'.last=d.last /\ RunsSt w' s.bx bm s.blk cols d' M' (pre++[x']) none /\ Left d' m j /\ (∀ k∈rowsOf M',k∈rowsOf M \/ w.heap.size <= k) /\ Touch (x.r::diskF s.bx bm M) w w'):=fun W hW=>by
  have hR':=hR.quiet hW (by simp) (fun k hk=>by simp at hk)
  refine (runEnd_any W x.r s.bx bm s.blk x.file x.cols x.v x.cs x.cur d M (hR'.opn x rfl) hR'.pd hR'.ok (fun y hy=>(hR'.recs x hxm y (by simp [RI.recs,hy])).fair) hb hR.b2 (by omega) (by omega) (hl.mono (by omega) (Nat.le_refl _):Left d 1 j).roomy).mono ?_
  rintro e w' ⟨rfl,cs',d',M',k,hk1,p1,p2,p3,p4,p5⟩
  refine ⟨rfl,⟨x.r,x.file,x.cols,.slice none 0 0,cs',[]⟩,d',M',rfl,rfl,?_,p4.last,hR'.ended p1 p2 p4 p5,(hl.mono (by omega) (Nat.le_refl _):Left d (m+k) j).wrote p4,fun q hq=>?_,(hW.mono (by simp)).trans p5⟩
  ·simp [RI.recs,p2]
  ·rcases p4.rows q hq with h | h
   ·exact .inl h
   ·exact .inr (Nat.le_trans hW.size h)
 rcases hp.shape with ⟨_,e⟩ | ⟨g,cap,cur,hv,hh,hc,hm,hsz,hx⟩
 ·simp at e
 obtain ⟨c0,c1,c2,c3,c4,c5,c6,c7,c8,c9,c10,c11,c12,c13,c14,c15,cf⟩:=hs.cell
 have hlast:=hx pre.length (by simp)
 have hlc:w.cell? ⟨g,pre.length,none⟩=some (.pointer (some ⟨x.r,0,none⟩)):=by
  simp only [World.cell?,hh]
  rw [hlast]
  simp [RI.ptr]
 rw [hv] at c13
 simp only [List.length_append,List.length_cons,List.length_nil,Nat.zero_add] at c13 hc
 have hlm:pre.length+1 <= maxLen:=Nat.le_trans hc hm
 have HAFT:Hid (∀ W,Touch (x.r::diskF s.bx bm M) w W -> W.cell? ⟨ps,13,none⟩=some (.slice (some ⟨g,0,none⟩) (pre.length+1) cap) /\ W.cell? ⟨g,pre.length,none⟩=some (.pointer (some ⟨x.r,0,none⟩))):=fun W hW=>by
  have nt:∀ t,117≠t -> 9≠t -> 223≠t -> NoTag t w (x.r::diskF s.bx bm M):=fun t h1 h2 h3=>(hR.notag h1 h2 h3).sub (fun k hk=>by
   rcases List.mem_cons.1 hk with rfl | hk
   ·simp [runsF]
   ·simp only [runsF,List.mem_append]; exact .inr hk)
  exact ⟨cell_touchF c13 hW ((nt 260 (by decide) (by decide) (by decide)).not_mem hs),cell_touchF hlc hW ((nt 194 (by decide) (by decide) (by decide)).not_mem hh)⟩
 clear hs cf hp hR hl hk hlen hb hx hlast hv
 generalize pre.length=n at *
 have hlm2:n+1 <= 9223372036854775807:=by unfold maxLen at hlm; omega
 have hw1:IntKind.i64.wrap ((n:Int)+1 - 1)=(n:Int):=by rw [wrap_small _ (by omega) (by omega)]; omega
 have hw2:IntKind.i64.wrap (n:Int)=(n:Int):=wrap_small _ (by omega) (by omega)
 have hpos:(0:Int) < (n:Int)+1:=by omega
 have hn1:(n:Int) < (n:Int)+1:=by omega
 have hn2:n < n+1:=by omega
 go_enter Tryz.func197,Tryz.ntmps197
 go_wp2
 go_region_held3 (fun w'=>w'.cell? ⟨ps,13,none⟩=some (.slice (some ⟨g,0,none⟩) (n+1) cap) /\ w'.cell? ⟨g,n,none⟩=some (.pointer (some ⟨x.r,0,none⟩))) (go_keep) (first | (go_at_call 114; refine (HEND.out _ ((Touch.refl [] _).drew)).mono ?_; rintro e w1 ⟨rfl,x',d',M',q1,q2,q3,q0,q4,q5,q6,q7⟩; obtain ⟨a1,a2⟩:=HAFT.out _ q7; have HQ0:Hid (d'.last=d.last):=q0; clear q0; have HQ4:Hid _:=q4; have HQ7:Hid _:=q7; clear q4 q7))
 all_goals go_end0
 all_goals exact ⟨rfl,x',d',M',q1,q2,q3,HQ0.out,HQ4.out,q5,q6,HQ7.out⟩
theorem SorterAt.setCame {w:World} {ps:Nat} {s:SC} (h:SorterAt w ps s) (n:Nat):SorterAt (w.setCell ⟨ps,8,none⟩ (.int .i64 (n:Int))) ps { s with came:=n }:=by
 unfold SorterAt at *; rw [heap_setCell_same w ps 8 _ 260 _ h]; simp [SC.cells]
theorem SorterAt.setRun {w:World} {ps:Nat} {s:SC} (h:SorterAt w ps s) (n:Int):SorterAt (w.setCell ⟨ps,9,none⟩ (.int .i64 n)) ps { s with run:=n }:=by
 unfold SorterAt at *; rw [heap_setCell_same w ps 9 _ 260 _ h]; simp [SC.cells]
theorem SorterAt.setLength {w:World} {ps:Nat} {s:SC} (h:SorterAt w ps s) (n:Nat):SorterAt (w.setCell ⟨ps,10,none⟩ (.int .i64 (n:Int))) ps { s with length:=n }:=by
 unfold SorterAt at *; rw [heap_setCell_same w ps 10 _ 260 _ h]; simp [SC.cells]
theorem SorterAt.setLno {w:World} {ps:Nat} {s:SC} (h:SorterAt w ps s) (n:Int):SorterAt (w.setCell ⟨ps,11,none⟩ (.int .i64 n)) ps { s with lno:=n }:=by
 unfold SorterAt at *; rw [heap_setCell_same w ps 11 _ 260 _ h]; simp [SC.cells]
theorem SorterAt.setLv {w:World} {ps:Nat} {s:SC} (h:SorterAt w ps s) (v:Value):SorterAt (w.setCell ⟨ps,12,none⟩ v) ps { s with lv:=v }:=by
 unfold SorterAt at *; rw [heap_setCell_same w ps 12 _ 260 _ h]; simp [SC.cells]
theorem SorterAt.setRv {w:World} {ps:Nat} {s:SC} (h:SorterAt w ps s) (v:Value):SorterAt (w.setCell ⟨ps,13,none⟩ v) ps { s with rv:=v }:=by
 unfold SorterAt at *; rw [heap_setCell_same w ps 13 _ 260 _ h]; simp [SC.cells]
theorem SorterAt.setMg {w:World} {ps:Nat} {s:SC} (h:SorterAt w ps s) (v:Value):SorterAt (w.setCell ⟨ps,14,none⟩ v) ps { s with mg:=v }:=by
 unfold SorterAt at *; rw [heap_setCell_same w ps 14 _ 260 _ h]; simp [SC.cells]
theorem SorterAt.setGiven {w:World} {ps:Nat} {s:SC} (h:SorterAt w ps s) (n:Nat):SorterAt (w.setCell ⟨ps,15,none⟩ (.int .i64 (n:Int))) ps { s with given:=n }:=by
 unfold SorterAt at *; rw [heap_setCell_same w ps 15 _ 260 _ h]; simp [SC.cells]
structure SB (w:World) (ps bs:Nat) (s:SC) (hv:Value) (ks:List K) (L:List EV) (bm cols:Nat) (d:DS) (M:List PF) (pre:List RI) (o:Option RI):Prop where
 sorter:SorterAt w ps s
 heap:HeapSt w s.ph hv bs ps ks L
 held:sizes L=s.held
 ents:∀ x∈L,x.1.size=sizeR x.1.rc.row /\ RecOK s.blk cols x.1.rc
 runs:RunsSt w s.bx bm s.blk cols d M pre o
 own:POwn w s.rv (pre++o.toList)
def sbF (ps:Nat) (s:SC) (hv:Value) (bm:Nat) (M:List PF) (R:List RI):List Nat:=ps::(heapF s.ph hv++s.rv.ownBlock.toList++runsF s.bx bm M R)
theorem NoTag.append {t:TypeId} {w:World} {F G:List Nat} (h:NoTag t w F) (k:NoTag t w G):NoTag t w (F++G):=fun i hi=>by
 rcases List.mem_append.1 hi with hi | hi
 ·exact h i hi
 ·exact k i hi
section
variable {w w':World} {ps bs:Nat} {s:SC} {hv:Value} {ks:List K} {L:List EV} {bm cols:Nat} {d:DS} {M:List PF} {pre:List RI} {o:Option RI} {F:List Nat}
theorem SB.notag (h:SB w ps bs s hv ks L bm cols d M pre o) {t:TypeId} (h1:260≠t) (h2:302≠t) (h3:263≠t) (h4:194≠t) (h5:117≠t) (h6:9≠t) (h7:223≠t):NoTag t w (sbF ps s hv bm M (pre++o.toList)):=
 (((h.heap.notag h2 h3).append (h.own.notag h4)).append (h.runs.notag h5 h6 h7)).cons h.sorter h1
theorem SB.small (h:SB w ps bs s hv ks L bm cols d M pre o) (hL:L.length <= 100000):s.held <= 1000000000 /\ ∀ y∈L,0 <= y.1.size:=by
 have hp:∀ y∈L,0 <= y.1.size /\ y.1.size <= 4096:=fun y hy=>by
  have h1:=h.ents y hy
  have h2:=h1.2.size
  have:=h.runs.b2
  omega
 have hs:∀ l:List EV,(∀ y∈l,0 <= y.1.size /\ y.1.size <= 4096) -> sizes l <= 4096 * l.length:=by
  intro l
  induction l with
  | nil=>simp [sizes]
  | cons a l ih=>
   intro hl
   have h0:=hl a (by simp)
   have:=ih (fun y hy=>hl y (by simp [hy]))
   have e:sizes (a::l)=a.1.size+sizes l:=by simp [sizes]
   simp only [List.length_cons]
   omega
 have h1:=hs L hp
 have h2:=h.held
 exact ⟨by omega,fun y hy=>(hp y hy).1⟩
theorem SB.quiet (h:SB w ps bs s hv ks L bm cols d M pre o) (t:Touch F w w') (hF:∀ k∈F,k∉sbF ps s hv bm M (pre++o.toList)) (n1:NoTag 228 w F) (n2:NoTag 73 w F) (n3:NoTag 85 w F) (n4:NoTag 5 w F):SB w' ps bs s hv ks L bm cols d M pre o:=by
 have hS:SorterAt w' ps s:=h.sorter.u t.u (fun e=>hF _ e (by simp [sbF]))
 exact ⟨hS,h.heap.away h.sorter hS rfl t.u (fun k hk e=>hF k hk (by simp [sbF,e])) n1 n2 n3,h.held,h.ents,h.runs.quiet t (fun k hk e=>hF k hk (by simp [sbF,e])) n4,h.own.u t.u (fun k hk e=>hF k e (by simp [sbF,hk]))⟩
theorem SB.cells {s':SC} (h:SB w ps bs s hv ks L bm cols d M pre o) (hS:SorterAt w' ps s') (t:Touch [ps] w w') (e1:s'.bx=s.bx) (e2:s'.blk=s.blk) (e3:s'.kv=s.kv) (e4:s'.ph=s.ph) (e5:s'.held=s.held) (e6:s'.rv=s.rv):SB w' ps bs s' hv ks L bm cols d M pre o:=by
 have hps:∀ t',(260:TypeId)≠t' -> NoTag t' w [ps]:=fun t' ht=>notag_of h.sorter ht
 refine ⟨hS,?_,by rw [e5]; exact h.held,by rw [e2]; exact h.ents,?_,?_⟩
 ·rw [e4]; exact h.heap.turn h.sorter hS e3 t.u
 ·rw [e1,e2]
  refine h.runs.quiet t (fun k hk=>?_) (hps 5 (by decide))
  rw [List.mem_singleton.1 hk]
  exact (h.runs.notag (by decide) (by decide) (by decide)).not_mem h.sorter
 ·rw [e6]
  refine h.own.u t.u (fun k hk e=>?_)
  rw [List.mem_singleton.1 e] at hk
  exact (h.own.notag (t:=260) (by decide)).not_mem h.sorter (by simp [hk])
theorem SB.turnRuns {d':DS} {M':List PF} {pre':List RI} {o':Option RI} (h:SB w ps bs s hv ks L bm cols d M pre o) (t:TouchU F w w') (hF:∀ k∈F,k∈runsF s.bx bm M (pre++o.toList) \/ w.heap.size <= k) (hR:RunsSt w' s.bx bm s.blk cols d' M' pre' o') (he:(pre'++o'.toList).map RI.ptr=(pre++o.toList).map RI.ptr):SB w' ps bs s hv ks L bm cols d' M' pre' o':=by
 have nt:∀ t',(117:TypeId)≠t' -> (9:TypeId)≠t' -> (223:TypeId)≠t' -> NoTag t' w F:=fun t' h1 h2 h3 k hk cs f e=>by
  rcases hF k hk with hk' | hk'
  ·exact h.runs.notag h1 h2 h3 k hk' cs f e
  ·have:=(Array.getElem?_eq_some_iff.1 e).1
   omega
 have hS:SorterAt w' ps s:=h.sorter.u t ((nt 260 (by decide) (by decide) (by decide)).not_mem h.sorter)
 refine ⟨hS,h.heap.away h.sorter hS rfl t (fun k hk e=>?_) (nt _ (by decide) (by decide) (by decide)) (nt _ (by decide) (by decide) (by decide)) (nt _ (by decide) (by decide) (by decide)),h.held,h.ents,hR,?_⟩
 ·rcases List.mem_cons.1 e with e | e
  ·exact (nt 302 (by decide) (by decide) (by decide)).not_mem h.heap.head (by rw [<- e]; exact hk)
  ·obtain ⟨cs,f,hc⟩:=h.heap.items.tag k (by simpa using e)
   exact (nt 263 (by decide) (by decide) (by decide)).not_mem hc hk
 ·have hl:(pre'++o'.toList).length=(pre++o.toList).length:=by simpa using congrArg List.length he
  have:=h.own.u t (fun k hk e=>by
   rcases h.own.shape with ⟨hv0,_⟩ | ⟨g,cap,cur,hv0,hh,_⟩
   ·rw [hv0] at hk; simp [Value.ownBlock] at hk
   ·rw [hv0] at hk
    simp [Value.ownBlock] at hk
    subst hk
    exact (nt 194 (by decide) (by decide) (by decide)).not_mem hh e)
  unfold POwn at this ⊢
  rw [hl,he]
  exact this
end
theorem sbPop_any (w:World) (ps bs:Nat) (s:SC) (hv:Value) (ks:List K) (L:List EV) (bm cols:Nat) (d:DS) (M:List PF) (pre:List RI) (o:Option RI) (x:EV) (h:SB w ps bs s hv ks L bm cols d M pre o) (h0:L[0]?=some x) (hL:L.length <= 100000) :
  Calls Tryz.prog 174 #[.pointer (some ⟨ps,0,none⟩)] w fun e w'=>e=.returned x.val /\ ∃ hv' L' n,SB w' ps bs { s with held:=n } hv' ks L' bm cols d M pre o /\ (x::L').Perm L /\ RowAt w' x.2 x.1.rc.row /\ hv'.ownBlock=hv.ownBlock /\ Touch (ps::heapF s.ph hv) w w':=by
 obtain ⟨hb1,hb2⟩:=h.small hL
 refine (sorterPop_any w ps bs s hv ks L x h.sorter h.heap h0 (by omega) h.held hb2 hb1).mono ?_
 rintro e w' ⟨rfl,hv',L',n,p1,p2,p3,p4,p5,p6⟩
 have hps:∀ t',(260:TypeId)≠t' -> (302:TypeId)≠t' -> (263:TypeId)≠t' -> NoTag t' w (ps::heapF s.ph hv):=fun t' h1 h2 h3=>(h.heap.notag h2 h3).cons h.sorter h1
 have hd:∀ k∈ps::heapF s.ph hv,∃ cs t' f,w.heap[k]?=some (.cells cs t' f) /\ (t'=260 \/ t'=302 \/ t'=263):=fun k hk=>by
  rcases List.mem_cons.1 hk with rfl | hk
  ·exact ⟨_,_,_,h.sorter,.inl rfl⟩
  ·rcases List.mem_cons.1 hk with rfl | hk
   ·exact ⟨_,_,_,h.heap.head,.inr (.inl rfl)⟩
   ·obtain ⟨cs,f,hc⟩:=h.heap.items.tag k (by simpa using hk)
    exact ⟨_,_,_,hc,.inr (.inr rfl)⟩
 refine ⟨rfl,hv',L',n,⟨p1,p3,p2,fun y hy=>h.ents y (p4.mem_iff.1 (List.mem_cons_of_mem _ hy)),h.runs.quiet p6 (fun k hk e=>?_) (hps 5 (by decide) (by decide) (by decide)),h.own.u p6.u (fun k hk e=>?_)⟩,p4,Sl3.keep (h.heap.rows x (p4.mem_iff.1 (by simp))).1 (p6.tag (hps 85 (by decide) (by decide) (by decide))),p5,p6⟩
 ·obtain ⟨cs,t',f,hc,ht⟩:=hd k hk
  rcases ht with rfl | rfl | rfl
  all_goals exact (h.runs.notag (by decide) (by decide) (by decide)).not_mem hc e
 ·obtain ⟨cs,t',f,hc,ht⟩:=hd k e
  rcases ht with rfl | rfl | rfl
  all_goals exact (h.own.notag (by decide)).not_mem hc (by simp [hk])
theorem info194:(Tryz.prog.info? 194).map (fun i=>(i.zero,i.size,i.bytes))=some (some (.pointer none),1,8):=by kernel_rfl
theorem step_ptr {ops:Array Oper} {o:Oper} {a:Act} {w:World} {K:Act -> World -> Prop} {Q:Exit -> Act -> World -> Prop} {E:Prop} (hgd:o.guard=none) (s x:Operand)
  (ho:o.op=.call { callee:=.builtin .append,args:=#[s,x],argTypes:=#[160,160] }) (v:Value) (R:List RI) (hs:a.eval s=v) (hown:POwn w v R)
  (ad:Addr) (y:RI) (c:Nat) (hx:a.eval x=.slice (some ad) 1 c) (hnews:w.cell? ad=some y.ptr) (hlen:R.length <= 1000000000)
  (h:∀ g cap w',POwn w' (.slice (some ⟨g,0,none⟩) (R.length+1) cap) (R++[y]) -> w.grownBy w' v.ownBlock -> (v.ownBlock=some g \/ g=w.heap.size) -> g < w'.heap.size -> K (a.put o.dst (.slice (some ⟨g,0,none⟩) (R.length+1) cap)) w') :
  if Region.wanted o (yielded ops a.tmps)=true then Oper.wp Tryz.prog o a w K Q else E:=by
 obtain ⟨i0,hi,hz0,hz1,hz2⟩:=info_parts info194
 refine step_append_lies w hgd s x 160 ho 0 194 i0 (.pointer none) 1 8 Tryz.underlying160 hi hz0 hz1 hz2 rfl (by decide) v _ _ hs hown ad 1 c [y.ptr] hx (by simp) (fun j u hj=>?_) (by simp [RI.ptr,Value.oneCell']) (by decide) ?_ ?_ (Nat.zero_le _) _ rfl ?_
 ·match j,hj with
  | 0,hj=>simp at hj; subst hj; exact hnews
 ·unfold maxLen; omega
 ·omega
 ·intro g cap w' h1 h2 h3 h4
  refine h g cap w' ?_ h2 h3 h4
  unfold POwn
  rw [List.length_append,List.map_append]
  exact h1
theorem POwn.block {w:World} {v:Value} {R:List RI} (h:POwn w v R):∀ k,v.ownBlock=some k -> ∃ cs,w.heap[k]?=some (.cells cs 194 (0,0)):=fun k hk=>by
 rcases h.shape with ⟨rfl,_⟩ | ⟨g,cap,cur,rfl,hh,_⟩
 ·simp [Value.ownBlock] at hk
 ·simp [Value.ownBlock] at hk
  subst hk
  exact ⟨_,hh⟩
theorem RunsSt.fresh {w w':World} {bx bm blk cols r file:Nat} {d d':DS} {M M':List PF} {pre:List RI} (h:RunsSt w bx bm blk cols d M pre none) (hR:RunIs w' r bx blk file 0 (.slice none 0 0) [] [] d') (hP:PD w' bx bm d' M') (hD:DStep d d' file (some [])) (hl:d'.last=d.last+1) (hf:(file:Int)=d.last+1) (t:Touch [bx,bm] w w') :
  RunsSt w' bx bm blk cols d' M' pre (some ⟨r,file,0,.slice none 0 0,[],[]⟩):=by
 have hk:∀ x∈pre,(x.file:Int) <= d.last:=fun x hx=>h.known x (by simp [hx])
 have hsub:∀ x∈pre++(some (⟨r,file,0,.slice none 0 0,[],[]⟩:RI)).toList,x∈pre++(none:Option RI).toList \/ x=⟨r,file,0,.slice none 0 0,[],[]⟩:=fun x hx=>by
  rcases List.mem_append.1 hx with hx | hx
  ·exact .inl (by simp [hx])
  ·exact .inr (by simpa using hx)
 refine ⟨hP,hD.ok,fun x hx=>(h.done x hx).keep t.u (fun e=>?_) hD (by have:=hk x hx; omega),fun x hx=>by simp at hx; subst hx; exact hR,?_,fun x hx y hy=>?_,fun x hx=>?_,fun x hx=>?_,fun x hx hn=>?_,by have:=hD.block; have:=h.block; omega,h.b2,h.b1,h.c2⟩
 ·exact h.r_disk (x:=x) (by simp [hx]) (by simp only [List.mem_cons,List.not_mem_nil,or_false] at e; rcases e with e | e<;>simp [diskF,e])
 ·have:=h.files
  simp only [Option.toList_none,List.append_nil] at this
  simp only [List.map_append,Option.toList_some,List.map_cons,List.map_nil]
  refine List.nodup_append.2 ⟨this,by simp,fun a ha b hb e=>?_⟩
  obtain ⟨x,hx,rfl⟩:=List.mem_map.1 ha
  have:=hk x hx
  simp at hb
  omega
 ·rcases hsub x hx with hx | rfl
  ·exact h.recs x hx y hy
  ·simp [RI.recs] at hy
 ·rcases hsub x hx with hx | rfl
  ·have:=h.known x hx; omega
  ·show (file:Int) <= _; omega
 ·rcases hsub x hx with hx | rfl
  ·exact h.len x hx
  ·simp [RI.recs]
 ·rcases hsub x hx with hx | rfl
  ·exact h.col x hx hn
  ·simp [RI.recs] at hn
section
variable {w w':World} {ps bs:Nat} {s:SC} {hv:Value} {ks:List K} {L:List EV} {bm cols:Nat} {d:DS} {M:List PF} {pre:List RI} {o:Option RI} {F:List Nat}
theorem SB.pushRun {w2 w4:World} {d':DS} {M':List PF} {x:RI} {v':Value} (h:SB w ps bs s hv ks L bm cols d M pre none) (hR2:RunsSt w2 s.bx bm s.blk cols d' M' pre (some x)) (t2:Touch [s.bx,bm] w w2) (t4:Touch s.rv.ownBlock.toList w2 w4) (hP:POwn w4 v' (pre++[x])) :
  SorterAt w4 ps s /\ SB (w4.setCell ⟨ps,13,none⟩ v') ps bs { s with rv:=v' } hv ks L bm cols d' M' pre (some x) /\ Touch (ps::s.bx::bm::s.rv.ownBlock.toList) w (w4.setCell ⟨ps,13,none⟩ v'):=by
 have n2:∀ t,(117:TypeId)≠t -> (9:TypeId)≠t -> (223:TypeId)≠t -> NoTag t w [s.bx,bm]:=fun t h1 h2 h3=>(h.runs.notag h1 h2 h3).sub (fun k hk=>by
  simp only [List.mem_cons,List.not_mem_nil,or_false] at hk
  rcases hk with rfl | rfl<;>simp [runsF,diskF])
 have hown2:POwn w2 s.rv (pre++(none:Option RI).toList):=h.own.u t2.u (fun k hk e=>(n2 194 (by decide) (by decide) (by decide)).not_mem (h.own.block k hk).choose_spec e)
 have n4:∀ t,(194:TypeId)≠t -> NoTag t w2 s.rv.ownBlock.toList:=fun t ht=>hown2.notag ht
 have hS2:SorterAt w2 ps s:=h.sorter.u t2.u ((n2 260 (by decide) (by decide) (by decide)).not_mem h.sorter)
 have hS4:SorterAt w4 ps s:=hS2.u t4.u ((n4 260 (by decide)).not_mem hS2)
 have hS5:SorterAt (w4.setCell ⟨ps,13,none⟩ v') ps { s with rv:=v' }:=hS4.setRv v'
 have t5:Touch [ps] w4 (w4.setCell ⟨ps,13,none⟩ v'):=(Touch.refl [ps] w4).setCell (p:=⟨ps,13,none⟩) (by simp) v'
 have n5:∀ t,(260:TypeId)≠t -> NoTag t w4 [ps]:=fun t ht=>notag_of hS4 ht
 have hh2:HeapSt w2 s.ph hv bs ps ks L:=by
  refine h.heap.away h.sorter hS2 rfl t2.u (fun k hk e=>?_) (n2 _ (by decide) (by decide) (by decide)) (n2 _ (by decide) (by decide) (by decide)) (n2 _ (by decide) (by decide) (by decide))
  rcases List.mem_cons.1 e with e | e
  ·exact (n2 302 (by decide) (by decide) (by decide)).not_mem h.heap.head (by rw [<- e]; exact hk)
  ·obtain ⟨cs,f,hc⟩:=h.heap.items.tag k (by simpa using e)
   exact (n2 263 (by decide) (by decide) (by decide)).not_mem hc hk
 have hh4:HeapSt w4 s.ph hv bs ps ks L:=by
  refine hh2.away hS2 hS4 rfl t4.u (fun k hk e=>?_) (n4 _ (by decide)) (n4 _ (by decide)) (n4 _ (by decide))
  rcases List.mem_cons.1 e with e | e
  ·exact (n4 302 (by decide)).not_mem hh2.head (by rw [<- e]; exact hk)
  ·obtain ⟨cs,f,hc⟩:=hh2.items.tag k (by simpa using e)
   exact (n4 263 (by decide)).not_mem hc hk
 have hR4:RunsSt w4 s.bx bm s.blk cols d' M' pre (some x):=by
  refine hR2.quiet t4 (fun k hk e=>?_) (n4 5 (by decide))
  obtain ⟨cs,hc⟩:=hown2.block k (by simpa using hk)
  exact (hR2.notag (t:=194) (by decide) (by decide) (by decide)).not_mem hc e
 refine ⟨hS4,⟨hS5,hh4.turn hS4 hS5 rfl t5.u,h.held,h.ents,hR4.quiet t5 (fun k hk e=>?_) (n5 5 (by decide)),hP.u t5.u (fun k hk e=>?_)⟩,?_⟩
 ·rw [List.mem_singleton.1 hk] at e
  exact (hR4.notag (t:=260) (by decide) (by decide) (by decide)).not_mem hS4 e
 ·rw [List.mem_singleton.1 e] at hk
  exact (hP.notag (t:=260) (by decide)).not_mem hS4 (by simp [hk])
 ·exact ((t2.mono (by simp)).trans (t4.mono (fun k hk=>by simp at hk; simp [hk]))).trans (t5.mono (by simp))
end
structure Same (s s':SC):Prop where
 bx:s'.bx=s.bx
 blk:s'.blk=s.blk
 kv:s'.kv=s.kv
 count:s'.count=s.count
 most:s'.most=s.most
 fan:s'.fan=s.fan
 ph:s'.ph=s.ph
 came:s'.came=s.came
 mg:s'.mg=s.mg
 given:s'.given=s.given
theorem Same.refl (s:SC):Same s s:=⟨rfl,rfl,rfl,rfl,rfl,rfl,rfl,rfl,rfl,rfl⟩
theorem Same.trans {a b c:SC} (h:Same a b) (k:Same b c):Same a c:=⟨k.bx.trans h.bx,k.blk.trans h.blk,k.kv.trans h.kv,k.count.trans h.count,k.most.trans h.most,k.fan.trans h.fan,k.ph.trans h.ph,k.came.trans h.came,k.mg.trans h.mg,k.given.trans h.given⟩
def Sub (w:World) (F' F:List Nat):Prop:=∀ k∈F',k∈F \/ w.heap.size <= k
theorem Sub.refl (w:World) (F:List Nat):Sub w F F:=fun _ h=>.inl h
theorem Sub.trans {w w':World} {A B C:List Nat} (h:Sub w B A) (k:Sub w' C B) (hs:w.heap.size <= w'.heap.size):Sub w C A:=fun i hi=>by
 rcases k i hi with hi | hi
 ·exact h i hi
 ·exact .inr (Nat.le_trans hs hi)
theorem HeapOK.map {α β:Type} {lt:β -> β -> Bool} (f:α -> β) {l:List α} (h:HeapOK (fun a b=>lt (f a) (f b)) l):HeapOK lt (l.map f):=fun i hi h0=>by
 have:=h i (by simpa using hi) h0
 simpa using this
theorem heap_fst {ks:List K} {L:List EV} (h:HeapOK (ltEV ks) L):HeapOK (ltEnt ks) (L.map Prod.fst):=HeapOK.map Prod.fst h
theorem RunsSt.added {w w':World} {bx bm blk cols:Nat} {d d':DS} {M M':List PF} {pre:List RI} {x:RI} {y:Rec} {v':Value} {cs':List (List Rec)} {cur':List Rec} {k:Nat} (h:RunsSt w bx bm blk cols d M pre (some x)) (hy:RecOK blk cols y) (hn:x.recs.length < 1000000) (hE:RunIs w' x.r bx blk x.file cols v' cs' cur' d') (hr:cs'.flatten++cur'=x.cs.flatten++x.cur++[y])
  (hW:Wrote w w' bx bm d M x.file (textsOf x.file cs') d' M' k) (t:TouchU (x.r::diskF bx bm M) w w'):RunsSt w' bx bm blk cols d' M' pre (some ⟨x.r,x.file,cols,v',cs',cur'⟩):=by
 have hrec:RI.recs ⟨x.r,x.file,cols,v',cs',cur'⟩=x.recs++[y]:=by simp [RI.recs,hr]
 have hxm:x∈pre++(some x).toList:=by simp
 have hfne:∀ y∈pre,y.file≠x.file:=fun y hy=>by
  have:=h.files
  simp only [List.map_append,Option.toList_some,List.map_cons,List.map_nil] at this
  exact nodup_last this _ (List.mem_map_of_mem hy)
 have hsub:∀ z∈pre++(some (⟨x.r,x.file,cols,v',cs',cur'⟩:RI)).toList,z∈pre \/ z=⟨x.r,x.file,cols,v',cs',cur'⟩:=fun z hz=>by
  rcases List.mem_append.1 hz with hz | hz
  ·exact .inl hz
  ·exact .inr (by simpa using hz)
 refine ⟨hW.pd,hW.step.ok,fun z hz=>?_,fun z hz=>by simp at hz; subst hz; exact hE,?_,fun z hz u hu=>?_,fun z hz=>?_,fun z hz=>?_,fun z hz hn=>?_,by have:=hW.step.block; have:=h.block; omega,h.b2,h.b1,h.c2⟩
 ·refine (h.done z hz).keep t (fun e=>?_) hW.step (by have:=hfne z hz; omega)
  rcases List.mem_cons.1 e with e | e
  ·exact hfne z hz (h.boxes (by simp [hz]) hxm e)
  ·exact h.r_disk (by simp [hz]) e
 ·have:=h.files
  simpa using this
 ·rcases hsub z hz with hz | rfl
  ·exact h.recs z (by simp [hz]) u hu
  ·rw [hrec] at hu
   rcases List.mem_append.1 hu with hu | hu
   ·exact h.recs x hxm u hu
   ·rw [List.mem_singleton.1 hu]; exact hy
 ·rcases hsub z hz with hz | rfl
  ·rw [hW.last]; exact h.known z (by simp [hz])
  ·rw [hW.last]; exact h.known x hxm
 ·rcases hsub z hz with hz | rfl
  ·exact h.len z (by simp [hz])
  ·rw [hrec,List.length_append,List.length_singleton]
   refine ⟨?_,by omega⟩
   have h1:=len_flatten (fun c hc=>(hE.full c hc).1)
   have h2:=congrArg List.length hr
   simp only [List.length_append,List.length_singleton] at h2
   simp only [RI.recs,List.length_append]
   show cs'.length <= _
   omega
 ·rcases hsub z hz with hz | rfl
  ·exact h.col z (by simp [hz]) hn
  ·rfl
section
variable {w w':World} {ps bs:Nat} {s:SC} {hv:Value} {ks:List K} {L:List EV} {bm cols:Nat} {d:DS} {M:List PF} {pre:List RI} {o:Option RI}
theorem sbEndRun_any (m j:Nat) (h:SB w ps bs s hv ks L bm cols d M pre o) (hn:o=none -> pre=[]) (hl:Left d (m+1) j) :
  Calls Tryz.prog 197 #[.pointer (some ⟨ps,0,none⟩)] w fun e w'=>e=.returned (.tuple #[]) /\ ∃ pre' d' M',SB w' ps bs s hv ks L bm cols d' M' pre' none /\ pre'.map RI.recs=(pre++o.toList).map RI.recs /\ pre'.map RI.r=(pre++o.toList).map RI.r /\ Left d' m j /\ d'.last=d.last /\ Sub w (rowsOf M') (rowsOf M) /\ Touch (runsF s.bx bm M (pre++o.toList)) w w':=by
 cases o with
 | none=>
  have hp:=hn rfl
  subst hp
  have hv0:∃ ao cap,s.rv=.slice ao 0 cap:=by
   rcases h.own.shape with ⟨e,_⟩ | ⟨g,cap,cur,e,hh,hc,hm,hsz,hx⟩
   ·exact ⟨_,_,e⟩
   ·exact ⟨_,_,e⟩
  obtain ⟨ao,cap,hv0⟩:=hv0
  refine (endRun_none w ps s ao cap h.sorter hv0).mono ?_
  rintro e w' ⟨rfl,rfl⟩
  exact ⟨rfl,[],d,M,h,rfl,rfl,hl.mono (by omega) (Nat.le_refl _),rfl,Sub.refl _ _,Touch.refl _ _⟩
 | some x=>
  refine (endRun_some w ps bm cols m j s d M pre x h.sorter h.own h.runs hl).mono ?_
  rintro e w' ⟨rfl,x',d',M',p1,p2,p3,p4,p5,p6,p7,p8⟩
  have hsub:∀ k∈x.r::diskF s.bx bm M,k∈runsF s.bx bm M (pre++(some x).toList):=fun k hk=>by
   rcases List.mem_cons.1 hk with rfl | hk
   ·simp [runsF]
   ·simp only [runsF,List.mem_append]; exact .inr hk
  refine ⟨rfl,pre++[x'],d',M',h.turnRuns p8.u (fun k hk=>.inl (hsub k hk)) p5 ?_,?_,?_,p6,p4,p7,p8.mono hsub⟩
  ·simp [RI.ptr,p1]
  ·simp [p3]
  ·simp [p1]
theorem sbNew_any (m j:Nat) (h:SB w ps bs s hv ks L bm cols d M pre none) (hl:Left d m (j+1)) :
  Calls Tryz.prog 112 #[.agg #[.pointer (some ⟨s.bx,0,none⟩),.int .i64 (s.blk:Int)]] w fun e w'=>∃ x:RI,e=.returned x.ptr /\ w.heap.size <= x.r /\ x.recs=[] /\ ∃ d' M',RunsSt w' s.bx bm s.blk cols d' M' pre (some x) /\ Left d' m j /\ d'.last=d.last+1 /\ rowsOf M'=rowsOf M /\ Touch [s.bx,bm] w w':=by
 have h1:=hl.last
 have h2:=h.runs.ok.last
 obtain ⟨file,hf⟩:∃ file:Nat,(file:Int)=d.last+1:=⟨(d.last+1).toNat,by omega⟩
 refine (shelfNew_any w s.bx bm s.blk file d M h.runs.pd h.runs.ok (by omega) hf h.runs.b1).mono ?_
 rintro e w' ⟨r,rfl,hr,d',M',p1,p2,p3,p4,p5,p6,p7,p8,p9⟩
 refine ⟨⟨r,file,0,.slice none 0 0,[],[]⟩,rfl,hr,rfl,d',M',h.runs.fresh p1 p2 p3 p4 hf p9,?_,p4,p8,p9⟩
 obtain ⟨a,b,c,e⟩:=hl
 have:=p3.blocks
 exact ⟨by omega,by omega,by omega,by omega⟩
theorem sbAdd_any (m j:Nat) {x:RI} (y:Rec) (rv:Value) (h:SB w ps bs s hv ks L bm cols d M pre (some x)) (hy:RecOK s.blk cols y) (hrow:RowAt w rv y.row) (hn:x.recs.length < 1000000) (hl:Left d (m+1) j) :
  Calls Tryz.prog 113 #[x.ptr,.agg #[.int .i64 y.no,rv]] w fun e w'=>e=.returned (.tuple #[]) /\ ∃ (x':RI) (d':DS) (M':List PF),SB w' ps bs s hv ks L bm cols d' M' pre (some x') /\ x'.r=x.r /\ x'.recs=x.recs++[y] /\ Left d' m j /\ d'.last=d.last /\ Sub w (rowsOf M') (rowsOf M) /\ TouchU (runsF s.bx bm M (pre++[x])) w w':=by
 have hxm:x∈pre++(some x).toList:=by simp
 have h1:=hl.last
 have h2:=h.runs.known x hxm
 have h3:=h.runs.len x hxm
 refine (add_any w x.r s.bx bm s.blk x.file cols x.cols x.v rv x.cs x.cur y d M (h.runs.opn x rfl) h.runs.pd h.runs.ok hrow hy (fun z hz=>h.runs.recs x hxm z hz) h.runs.c2 h.runs.block h.runs.b2 (by omega) (by omega) (hl.mono (by omega) (Nat.le_refl _):Left d 1 j).roomy).mono ?_
 rintro e w' ⟨rfl,v',cs',cur',d',M',k,hk,p1,p2,p3,p4,p5⟩
 have hsub:∀ k∈x.r::diskF s.bx bm M,k∈runsF s.bx bm M (pre++(some x).toList):=fun k hk=>by
  rcases List.mem_cons.1 hk with rfl | hk
  ·simp [runsF]
  ·simp only [runsF,List.mem_append]; exact .inr hk
 refine ⟨rfl,⟨x.r,x.file,cols,v',cs',cur'⟩,d',M',h.turnRuns p5 (fun k hk=>.inl (hsub k hk)) (h.runs.added hy hn p1 p2 p4 p5) ?_,rfl,?_,(hl.mono (by omega) (Nat.le_refl _):Left d (m+k) j).wrote p4,p4.last,p4.rows,p5.mono hsub⟩
 ·simp [RI.ptr]
 ·simp only [RI.recs]; exact p2
end
end Go.Proofs.YtjoinhljdbljaaaGreat
