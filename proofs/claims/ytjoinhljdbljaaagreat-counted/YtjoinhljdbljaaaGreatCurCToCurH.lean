/- The walk of siftDown over a heap of cursors, and what follows. -/
import Derived.Test.YtjoinhljdbljaaaGreatSrtIToCurB
import Derived.Lib.SliceRun
set_option maxHeartbeats 4000000
set_option maxRecDepth 20000
namespace Go.Proofs.YtjoinhljdbljaaaGreat
open Go.RowKit
def CDn (w:World) (ph g cap bf ps:Nat) (ks:List K) (L:List CU) (k:Nat) (wr:World):Prop:=
 ∃ L',CHeapAt wr ph g cap bf ps ks L' /\ L'.Perm L /\ DownInv (ltCU ks) L' k /\ Touch [g] w wr
theorem CDn.drew {w:World} {ph g cap bf ps:Nat} {ks:List K} {L:List CU} {k:Nat} {wr:World} (h:CDn w ph g cap bf ps ks L k wr):CDn w ph g cap bf ps ks L k wr.drew:=by
 obtain ⟨L',a,b,c,d⟩:=h
 exact ⟨L',a.quiet ((Touch.refl [] _).drew),b,c,d.drew⟩
theorem CHeapAt.cells {w:World} {ph g cap bf ps:Nat} {ks:List K} {L:List CU} (h:CHeapAt w ph g cap bf ps ks L) (k:Nat) (hk:k < L.length) {w':World} (ht:Touch [] w w'):w'.cell? ⟨g,k,none⟩=some (.pointer (some ⟨L[k].ptr,0,none⟩)):=(h.quiet ht).items.cell k hk
def CInDn (wr:World) (ks:List K) (L':List CU) (k m n:Nat) (w2:World):Prop:=LeastOf (ltCU ks) L' k m n /\ 2 * k+1 <= n /\ n <= 2 * k+3 /\ Touch [] wr w2
theorem csiftDown_any (w:World) (ph g cap bf ps:Nat) (ks:List K) (L:List CU) (h:CHeapAt w ph g cap bf ps ks L) (hu:DownInv (ltCU ks) L 0) (hne:0 < L.length) (hsmall:L.length <= 1000000000) :
  Calls Tryz.prog 218 #[.pointer (some ⟨ph,0,none⟩),.int .i64 0] w fun e w'=>e=.returned (.tuple #[]) /\ ∃ L',CHeapAt w' ph g cap bf ps ks L' /\ L'.Perm L /\ HeapOK (ltCU ks) L' /\ Touch [g] w w':=by
 have HS:Hid (CDn w ph g cap bf ps ks L 0 w):=⟨L,h,List.Perm.refl _,hu,Touch.refl _ _⟩
 clear h hu
 go_enter Tryz.func218,Tryz.ntmps218
 go_wp2
 go_loopw [1] (fun i wr=>∃ k:Nat,k < L.length /\ i=.int .i64 k /\ CDn w ph g cap bf ps ks L k wr) (fun i _=>L.length - (intOf i).toNat)
 case atStart=>exact ⟨0,hne,rfl,HS.out⟩
 case round=>
  obtain ⟨k,hk,rfl,L',hH,hP,hU,hT⟩:=hrel
  have hlen:=hP.length_eq
  have hk9:k <= 1000000000:=by omega
  have hkl:k < L'.length:=by omega
  have hl9:L'.length <= 1000000000:=by omega
  obtain ⟨hphlt,hglt,hpg,hc1,hc2⟩:=hH.bounds
  have HH:Hid (CHeapAt wr ph g cap bf ps ks L' /\ L'.Perm L /\ DownInv (ltCU ks) L' k /\ Touch [g] w wr):=⟨hH,hP,hU,hT⟩
  have HL:Hid (L'.length=L.length):=hlen
  clear hH hP hU hT HS hk hlen hsmall hne
  rename World=>W0
  go_wp2
  go_loopw [4,5] (fun a b w2=>∃ m n:Nat,a=.int .i64 m /\ b=.int .i64 n /\ CInDn W0 ks L' k m n w2) (fun _ b _=>2 * k+3 - (intOf b).toNat)
  case atStart=>exact ⟨k,2 * k+1,rfl,by go_num,LeastOf.start hkl,by omega,by omega,Touch.refl _ _⟩
  case round=>
   obtain ⟨m,n,rfl,rfl,hLe,hn1,hn2,hT2⟩:=hrel
   have hml:=hLe.hm
   have hH:=HH.out.1
   have hph2:ph < wr.heap.size:=by have:=hT2.size; omega
   have hg2:g < wr.heap.size:=by have:=hT2.size; omega
   obtain ⟨hd0,hd1⟩:=(hH.quiet hT2).head.cell
   by_cases hin:n <= 2 * k+2 /\ n < L'.length
   ·obtain ⟨hin1,hin2⟩:=hin
    have HTEST:Hid (∀ w',Touch [] W0 w' -> Calls Tryz.prog 200 #[.pointer (some ⟨L'[n].ptr,0,none⟩),.pointer (some ⟨L'[m].ptr,0,none⟩),.pointer (some ⟨bf,0,none⟩)] w' fun e w''=>e=.returned (.bool (ltCU ks L'[n] L'[m])) /\ Touch [] w' w''):=fun w' ht=>hH.test n m hin2 hml ht
    have HKEEP:Hid (ltCU ks L'[n] L'[m]=false -> ∀ W,Touch [] W0 W -> CInDn W0 ks L' k m (n+1) W):=fun hb W ht=>⟨hLe.keep hin2 hb,by omega,by omega,ht⟩
    have HTAKE:Hid (ltCU ks L'[n] L'[m]=true -> ∀ W,Touch [] W0 W -> CInDn W0 ks L' k n (n+1) W):=fun hb W ht=>⟨hLe.take (ltCU_law ks) hin2 hn1 hin1 hb,by omega,by omega,ht⟩
    have HK:Hid (∀ w',Touch [] W0 w' -> w'.cell? ⟨ph,0,none⟩=some (.slice (some ⟨g,0,none⟩) L'.length cap) /\ w'.cell? ⟨ph,1,none⟩=some (.func (.func 200) #[] #[.pointer (some ⟨bf,0,none⟩)]) /\ w'.cell? ⟨g,n,none⟩=some (.pointer (some ⟨L'[n].ptr,0,none⟩)) /\ w'.cell? ⟨g,m,none⟩=some (.pointer (some ⟨L'[m].ptr,0,none⟩))):=fun w' ht=>⟨(hH.quiet ht).head.cell.1,(hH.quiet ht).head.cell.2,hH.cells n hin2 ht,hH.cells m hml ht⟩
    have c0:=hH.cells n hin2 hT2
    have d0:=hH.cells m hml hT2
    have HT2:Hid (Touch [] W0 wr):=hT2
    clear hH hLe hT2
    generalize ltCU ks L'[n] L'[m]=r at *
    generalize L'[n].ptr=pa at *
    generalize L'[m].ptr=pb at *
    cases r with
    | false=>
     go_wp2
     go_region_held3 (fun w'=>w'.cell? ⟨ph,0,none⟩=some (.slice (some ⟨g,0,none⟩) L'.length cap) /\ w'.cell? ⟨ph,1,none⟩=some (.func (.func 200) #[] #[.pointer (some ⟨bf,0,none⟩)]) /\ w'.cell? ⟨g,n,none⟩=some (.pointer (some ⟨pa,0,none⟩)) /\ w'.cell? ⟨g,m,none⟩=some (.pointer (some ⟨pb,0,none⟩))) (go_keep) (first | (go_at_call 200; refine (HTEST.out _ (HT2.out.drew)).mono ?_; rintro e w1 ⟨rfl,hT1⟩; obtain ⟨e0,e1,e2,e3⟩:=HK.out _ ((HT2.out.drew).trans hT1)))
     go_wp2
     go_roundw
     case rel=>exact ⟨m,n+1,rfl,by go_num,HKEEP.out trivial _ ((HT2.out.drew).trans hT1)⟩
     case measure=>simp [intOf]; omega
    | true=>
     go_wp2
     go_region_held3 (fun w'=>w'.cell? ⟨ph,0,none⟩=some (.slice (some ⟨g,0,none⟩) L'.length cap) /\ w'.cell? ⟨ph,1,none⟩=some (.func (.func 200) #[] #[.pointer (some ⟨bf,0,none⟩)]) /\ w'.cell? ⟨g,n,none⟩=some (.pointer (some ⟨pa,0,none⟩)) /\ w'.cell? ⟨g,m,none⟩=some (.pointer (some ⟨pb,0,none⟩))) (go_keep) (first | (go_at_call 200; refine (HTEST.out _ (HT2.out.drew)).mono ?_; rintro e w1 ⟨rfl,hT1⟩; obtain ⟨e0,e1,e2,e3⟩:=HK.out _ ((HT2.out.drew).trans hT1)))
     go_wp2
     go_roundw
     case rel=>exact ⟨n,n+1,rfl,by go_num,HTAKE.out trivial _ ((HT2.out.drew).trans hT1)⟩
     case measure=>simp [intOf]; omega
   ·have hend:n=2 * k+3 \/ L'.length <= n:=by omega
    have HT2:Hid (Touch [] W0 wr):=hT2
    by_cases hmk:m=k
    ·subst hmk
     have HD:Hid (m=m -> HeapOK (ltCU ks) L'):=fun _=>HH.out.2.2.1.done hLe hend
     clear hH hLe hT2 hend
     by_cases hlast:n <= 2 * m+2
     ·have hin2:L'.length <= n:=by omega
      clear hin
      go_wp2
      first | go_end0 | refine bodyPost_ret (results_none rfl _ _ _) rfl ?_
      obtain ⟨q1,q2,_,q4⟩:=HH.out
      exact ⟨rfl,L',q1.quiet HT2.out,q2,HD.out trivial,q4.trans (HT2.out.mono (by simp))⟩
     ·have hin2:2 * m+2 < n:=by omega
      clear hin hlast
      go_wp2
      first | go_end0 | refine bodyPost_ret (results_none rfl _ _ _) rfl ?_
      obtain ⟨q1,q2,_,q4⟩:=HH.out
      exact ⟨rfl,L',q1.quiet HT2.out,q2,HD.out trivial,q4.trans (HT2.out.mono (by simp))⟩
    ·have hmk2:k < m:=by have:=hLe.who; omega
     have hmk3:((m:Int) == (k:Int))=false:=by simp; omega
     have HL2:Hid (L'.length=L.length /\ m < L.length):=⟨HL.out,by have:=HL.out; omega⟩
     have HSW:Hid (∀ W,Touch [] W0 W -> CDn w ph g cap bf ps ks L m ((W.setCell ⟨g,k,none⟩ (.pointer (some ⟨L'[m].ptr,0,none⟩))).setCell ⟨g,m,none⟩ (.pointer (some ⟨L'[k].ptr,0,none⟩)))):=fun W ht=>by
      obtain ⟨a,b⟩:=hH.swapped k m hkl hml ht
      exact ⟨_,a,(swapL_perm L' k m hkl hml).trans HH.out.2.1,HH.out.2.2.1.step (ltCU_law ks) hLe hmk hend,HH.out.2.2.2.trans b⟩
     have c0:=hH.cells k hkl hT2
     have d0:=hH.cells m hml hT2
     have f0:=(hH.quiet hT2).items.frozen k
     have f4:=(hH.quiet hT2).items.frozen m
     clear hH hLe hT2 hend
     generalize L'[m].ptr=pb at *
     generalize L'[k].ptr=pa at *
     by_cases hlast:n <= 2 * k+2
     ·have hin2:L'.length <= n:=by omega
      clear hin
      go_wp2
      go_region
      go_wp2
      go_roundw
      case rel=>exact ⟨m,HL2.out.2,rfl,CDn.drew (HSW.out wr HT2.out)⟩
      case measure=>have:=HL2.out; simp [intOf]; omega
     ·have hin2:2 * k+2 < n:=by omega
      clear hin hlast
      go_wp2
      go_region
      go_wp2
      go_roundw
      case rel=>exact ⟨m,HL2.out.2,rfl,CDn.drew (HSW.out wr HT2.out)⟩
      case measure=>have:=HL2.out; simp [intOf]; omega
theorem info305:(Tryz.prog.info? 305).map (fun i=>(i.zero,i.size,i.bytes))=some (some (.pointer none),1,8):=by kernel_rfl
def COwn (w:World) (v:Value) (L:List CU):Prop:=w.ownsRow 0 305 1 v L.length (L.map CU.val)
theorem COwn.nil (w:World):COwn w (.slice none 0 0) []:=World.ownsRow_nil _ _ _ _
theorem COwn.items {w:World} {g cap n:Nat} {L:List CU} (h:COwn w (.slice (some ⟨g,0,none⟩) n cap) L):n=L.length /\ CItemsAt w g cap L:=by
 rcases h.2 with ⟨e,_⟩ | ⟨g',cap',cur,e,_,hh,hc,hm,hs,ht⟩
 ·simp at e
 ·simp only [Value.slice.injEq,Option.some.injEq,Addr.mk.injEq,and_true] at e
  obtain ⟨rfl,rfl,rfl⟩:=e
  refine ⟨rfl,cur,hh,by simpa using hs,hc,hm,fun i hi=>?_⟩
  have h3:(List.take (L.length * 1) cur.toList)[i]?=(L.map CU.val)[i]?:=by rw [ht]
  rw [List.getElem?_take,if_pos (by omega)] at h3
  simpa [hi] using h3
theorem CItemsAt.own {w:World} {g cap:Nat} {L:List CU} (h:CItemsAt w g cap L):COwn w (.slice (some ⟨g,0,none⟩) L.length cap) L:=by
 obtain ⟨cur,hb,hs,hc,hm,hx⟩:=h
 refine ⟨by simp,.inr ⟨g,cap,cur,rfl,Nat.zero_le _,hb,hc,hm,by simpa using hs,?_⟩⟩
 apply List.ext_getElem?
 intro j
 rw [List.getElem?_take,Array.getElem?_toList]
 by_cases hj:j < L.length * 1
 ·rw [if_pos hj,hx j (by omega)]
  simp [show j < L.length by omega]
 ·rw [if_neg hj,List.getElem?_eq_none (by simp; omega)]
structure CHeapSt (w:World) (ph:Nat) (v:Value) (bf ps:Nat) (ks:List K) (L:List CU):Prop where
 head:CHeadAt w ph v bf
 items:COwn w v L
 ctx:CCtx w bf ps ks
 rows:∀ x∈L,CBox w ks x
 ok:HeapOK (ltCU ks) L
theorem COwn.shape {w:World} {v:Value} {L:List CU} (h:COwn w v L):(v=.slice none 0 0 /\ L=[]) \/ ∃ g cap,v=.slice (some ⟨g,0,none⟩) L.length cap /\ CItemsAt w g cap L:=by
 rcases h.2 with ⟨rfl,h0⟩ | ⟨g,cap,cur,rfl,_⟩
 ·exact .inl ⟨rfl,List.length_eq_zero_iff.1 h0⟩
 ·exact .inr ⟨g,cap,rfl,h.items.2⟩
theorem CHeapSt.at {w:World} {ph:Nat} {v:Value} {bf ps:Nat} {ks:List K} {L:List CU} (h:CHeapSt w ph v bf ps ks L) (hL:L≠[]):∃ g cap,v=.slice (some ⟨g,0,none⟩) L.length cap /\ CHeapAt w ph g cap bf ps ks L:=by
 rcases h.items.shape with ⟨rfl,e⟩ | ⟨g,cap,rfl,hi⟩
 ·exact absurd e hL
 ·exact ⟨g,cap,rfl,h.head,hi,h.ctx,h.rows⟩
theorem CHeapAt.st {w:World} {ph g cap bf ps:Nat} {ks:List K} {L:List CU} (h:CHeapAt w ph g cap bf ps ks L) (ok:HeapOK (ltCU ks) L):CHeapSt w ph (.slice (some ⟨g,0,none⟩) L.length cap) bf ps ks L:=⟨h.head,h.items.own,h.ctx,h.rows,ok⟩
theorem COwn.tag {w:World} {v:Value} {L:List CU} (h:COwn w v L):∀ k,v.ownBlock=some k -> ∃ cs f,w.heap[k]?=some (.cells cs 305 f):=by
 intro k hk
 rcases h.2 with ⟨rfl,_⟩ | ⟨g,cap,cur,rfl,_,hg,_⟩
 ·simp [Value.ownBlock] at hk
 ·simp [Value.ownBlock] at hk
  subst hk
  exact ⟨_,_,hg⟩
theorem COwn.notag {w:World} {v:Value} {L:List CU} (h:COwn w v L) {t:TypeId} (ht:305≠t):NoTag t w v.ownBlock.toList:=by
 intro k hk cs f e
 obtain ⟨cs',f',e'⟩:=h.tag k (by simpa using hk)
 rw [e'] at e
 simp only [Option.some.injEq,Obj.cells.injEq] at e
 exact ht e.2.1
theorem CHeapSt.notag {w:World} {ph:Nat} {v:Value} {bf ps:Nat} {ks:List K} {L:List CU} (h:CHeapSt w ph v bf ps ks L) {t:TypeId} (h1:331≠t) (h2:305≠t):NoTag t w (heapF ph v):=
 (h.items.notag h2).cons h.head h1
theorem cpush_mid {w W w4:World} {ph:Nat} {v:Value} {bf ps:Nat} {ks:List K} {L:List CU} {x:CU} {g cap:Nat} (h:CHeapSt w ph v bf ps ks L) (hx:CBox w ks x) (hW:Touch [] w W) (hG:W.grownBy w4 v.ownBlock) (hI:CItemsAt w4 g cap (L++[x])) :
  CHeadAt w4 ph v bf /\ CHeapAt (w4.setCell ⟨ph,0,none⟩ (.slice (some ⟨g,0,none⟩) (L.length+1) cap)) ph g cap bf ps ks (L++[x]) /\ Touch (heapF ph v) w (w4.setCell ⟨ph,0,none⟩ (.slice (some ⟨g,0,none⟩) (L.length+1) cap)):=by
 have hT4:Touch v.ownBlock.toList w w4:=(hW.mono (by simp)).grown hG (fun k hk=>by simp [hk])
 have hhead:=h.head
 have hpv:ph∉v.ownBlock.toList:=fun e=>by
  obtain ⟨cs,f,e'⟩:=h.items.tag ph (by simpa using e)
  unfold CHeadAt at hhead
  rw [hhead] at e'
  simp at e'
 have h4:CHeadAt w4 ph v bf:=hhead.touch hT4.u hpv
 have hgp:g≠ph:=fun e=>by
  obtain ⟨cur,hb,_⟩:=hI
  subst e
  unfold CHeadAt at h4
  rw [h4] at hb
  simp at hb
 have hT5:Touch [ph] w4 (w4.setCell ⟨ph,0,none⟩ (.slice (some ⟨g,0,none⟩) (L.length+1) cap)):=(Touch.refl _ _).setCell (by simp) _
 have hn5:∀ t,(331:TypeId)≠t -> KeepTag t w4 (w4.setCell ⟨ph,0,none⟩ (.slice (some ⟨g,0,none⟩) (L.length+1) cap)):=fun t ht=>hT5.tag (notag_of h4 ht)
 have hk:∀ t,(305:TypeId)≠t -> (331:TypeId)≠t -> KeepTag t w (w4.setCell ⟨ph,0,none⟩ (.slice (some ⟨g,0,none⟩) (L.length+1) cap)):=fun t h1 h2=>(hT4.tag (h.items.notag h1)).trans (hn5 t h2)
 refine ⟨h4,⟨?_,hI.touch hT5.u (by simpa using hgp),h.ctx.keep (hk _ (by decide) (by decide)) (hk _ (by decide) (by decide)) (hk _ (by decide) (by decide)),fun y hy=>?_⟩,?_⟩
 ·have:=heap_setCell_same w4 ph 0 (cheadCells v bf) 331 (.slice (some ⟨g,0,none⟩) (L.length+1) cap) h4
  unfold CHeadAt
  rw [this]
  simp [cheadCells]
 ·rcases List.mem_append.1 hy with hy | hy
  ·exact (h.rows y hy).keep (hk _ (by decide) (by decide)) (hk _ (by decide) (by decide))
  ·rw [List.mem_singleton.1 hy]
   exact hx.keep (hk _ (by decide) (by decide)) (hk _ (by decide) (by decide))
 ·exact (hT4.mono (fun k hk=>List.mem_cons_of_mem _ hk)).trans (hT5.mono (fun k hk=>by rw [List.mem_singleton.1 hk]; exact List.mem_cons_self))
theorem cpush_any (w:World) (ph:Nat) (v:Value) (bf ps:Nat) (ks:List K) (L:List CU) (x:CU) (h:CHeapSt w ph v bf ps ks L) (hx:CBox w ks x) (hsmall:L.length <= 100000000) :
  Calls Tryz.prog 202 #[.pointer (some ⟨ph,0,none⟩),.pointer (some ⟨x.ptr,0,none⟩)] w fun e w'=>e=.returned (.tuple #[]) /\ ∃ v' L',CHeapSt w' ph v' bf ps ks L' /\ L'.Perm (L++[x]) /\ Touch (heapF ph v) w w' /\ (∀ k,v'.ownBlock=some k -> v.ownBlock=some k \/ w.heap.size <= k):=by
 obtain ⟨hd0,hd1⟩:=h.head.cell
 have hphlt:ph < w.heap.size:=(Array.getElem?_eq_some_iff.1 h.head).1
 have HH:Hid (CHeapSt w ph v bf ps ks L /\ CBox w ks x):=⟨h,hx⟩
 have hv:∃ o n c,v=.slice o n c:=by
  rcases h.items.shape with ⟨rfl,_⟩ | ⟨g,cap,rfl,_⟩
  ·exact ⟨_,_,_,rfl⟩
  ·exact ⟨_,_,_,rfl⟩
 have HUP:Hid (UpInv (ltCU ks) (L++[x]) L.length):=UpInv.push h.ok x
 clear h hx
 obtain ⟨vo,vn,vc,rfl⟩:=hv
 obtain ⟨i0,hi,hz0,hz1,hz2⟩:=info_parts info305
 have HI:Hid (Tryz.prog.info? 305=some i0 /\ i0.zero=some (.pointer none) /\ i0.size=1 /\ i0.bytes=8):=⟨hi,hz0,hz1,hz2⟩
 clear hi hz0 hz1 hz2
 go_enter Tryz.func202,Tryz.ntmps202
 go_wp2_with (first | (at_builtin; refine wpList_append_lies _ rfl (.tmp 8) (.tmp 10) 329 rfl 0 305 i0 (.pointer none) 1 8 Tryz.underlying329 HI.out.1 HI.out.2.1 HI.out.2.2.1 HI.out.2.2.2 rfl (by decide) (.slice vo vn vc) L.length (L.map CU.val) rfl (by exact World.ownsRow.alloc HH.out.1.items _) ⟨w.heap.size,0,none⟩ 1 1 [.pointer (some ⟨x.ptr,0,none⟩)] rfl (by simp) (by exact World.news_of_block (heap_alloc_new w _)) (by intro u hu; simp at hu; subst hu; rfl) (by decide) (by unfold maxLen; omega) (by omega) (Nat.zero_le _) _ rfl ?_; intro g cp w4 hO4 hG4 hat4 hlt4; obtain ⟨hH4,hM4,hT4⟩:=cpush_mid HH.out.1 HH.out.2 ((Touch.refl [] w).alloc (.cells #[.pointer (some ⟨x.ptr,0,none⟩)] 305)) hG4 (COwn.items (L:=L++[x]) (by unfold COwn; rw [List.length_append,List.map_append]; exact hO4)).2; obtain ⟨q0,q1⟩:=hH4.cell; have qf:=hH4.frozen 0; have HM:Hid _:=hM4; have HT4:Hid _:=hT4; clear hM4 hT4 hO4 hG4) | (go_at_call 217; refine (csiftUp_any _ ph g cp bf ps ks (L++[x]) L.length HM.out HUP.out (by simp; omega)).mono ?_; rintro e w6 ⟨rfl,L',hH6,hP6,hO6,hT6⟩))
 go_end0
 refine ⟨rfl,_,L',hH6.st hO6,hP6,?_,fun k hk=>?_⟩
 ·refine HT4.out.more (G:=[g]) hT6 ?_
  intro k hk
  rw [List.mem_singleton.1 hk]
  rcases hat4 with h | h
  ·exact .inl (by simp [heapF,h])
  ·exact .inr (by rw [h]; simp)
 ·simp only [Value.ownBlock,Option.some.injEq] at hk
  subst hk
  rcases hat4 with h | h
  ·exact .inl h
  ·exact .inr (by rw [h]; simp)
theorem clen_any (w:World) (ph:Nat) (v:Value) (bf ps:Nat) (ks:List K) (L:List CU) (h:CHeapSt w ph v bf ps ks L) :
  Calls Tryz.prog 203 #[.pointer (some ⟨ph,0,none⟩)] w fun e w'=>e=.returned (.int .i64 (L.length:Int)) /\ w'=w:=by
 obtain ⟨hd0,hd1⟩:=h.head.cell
 rcases h.items.shape with ⟨rfl,rfl⟩ | ⟨g,cap,rfl,_⟩
 ·clear h
  go_enter Tryz.func203,Tryz.ntmps203
  go_wp2
  go_ret
  exact ⟨rfl,rfl⟩
 ·clear h
  go_enter Tryz.func203,Tryz.ntmps203
  go_wp2
  go_ret
  exact ⟨rfl,rfl⟩
theorem cleast_any (w:World) (ph:Nat) (v:Value) (bf ps:Nat) (ks:List K) (L:List CU) (x:CU) (h:CHeapSt w ph v bf ps ks L) (h0:L[0]?=some x) :
  Calls Tryz.prog 204 #[.pointer (some ⟨ph,0,none⟩)] w fun e w'=>e=.returned (.pointer (some ⟨x.ptr,0,none⟩)) /\ w'=w:=by
 obtain ⟨hl,hx⟩:=List.getElem?_eq_some_iff.1 h0
 obtain ⟨g,cap,rfl,hA⟩:=h.at (fun e=>by subst e; simp at hl)
 obtain ⟨hd0,hd1⟩:=hA.head.cell
 have c0:=hA.items.cell 0 hl
 rw [hx] at c0
 unfold CU.val at c0
 have hlz:(0:Int) < (L.length:Int):=by omega
 clear h hA
 go_enter Tryz.func204,Tryz.ntmps204
 go_wp2
 go_ret
 exact ⟨rfl,rfl⟩
theorem creplace_any (w:World) (ph g cap bf ps:Nat) (ks:List K) (L:List CU) (x:CU) (h:CHeapAt w ph g cap bf ps ks L) (hu:DownInv (ltCU ks) L 0) (h0:L[0]?=some x) (hsmall:L.length <= 1000000000) :
  Calls Tryz.prog 205 #[.pointer (some ⟨ph,0,none⟩),.pointer (some ⟨x.ptr,0,none⟩)] w fun e w'=>e=.returned (.tuple #[]) /\ ∃ L',CHeapSt w' ph (.slice (some ⟨g,0,none⟩) L.length cap) bf ps ks L' /\ L'.Perm L /\ Touch [g] w w':=by
 obtain ⟨hl,hx⟩:=List.getElem?_eq_some_iff.1 h0
 obtain ⟨hd0,hd1⟩:=h.head.cell
 have c0:=h.items.cell 0 hl
 have f0:=h.items.frozen 0
 have hlz:(0:Int) < (L.length:Int):=by omega
 have HSI:Hid (Calls Tryz.prog 218 #[.pointer (some ⟨ph,0,none⟩),.int .i64 0] (w.setCell ⟨g,0,none⟩ (.pointer (some ⟨x.ptr,0,none⟩))) fun e w'=>e=.returned (.tuple #[]) /\ ∃ L',CHeapSt w' ph (.slice (some ⟨g,0,none⟩) L.length cap) bf ps ks L' /\ L'.Perm L /\ Touch [g] w w'):=by
  have t1:Touch [g] w (w.setCell ⟨g,0,none⟩ (.pointer (some ⟨x.ptr,0,none⟩))):=(Touch.refl [g] w).setCell (p:=⟨g,0,none⟩) (by simp) _
  have hL:L.set 0 x=L:=by rw [<- hx]; simp
  have hi:=h.items.put 0 hl x
  rw [hL] at hi
  refine (csiftDown_any _ ph g cap bf ps ks L (h.turn t1 hi rfl (fun y hy=>hy)) hu hl hsmall).mono ?_
  rintro e w' ⟨rfl,L',p1,p2,p3,p4⟩
  have hst:=p1.st p3
  rw [p2.length_eq] at hst
  exact ⟨rfl,L',hst,p2,t1.trans p4⟩
 clear h hu
 go_enter Tryz.func205,Tryz.ntmps205
 go_wp2_with (go_at_call 218; refine HSI.out.mono ?_; rintro e w6 ⟨rfl,L',hH6,hP6,hT6⟩)
 go_end0
 exact ⟨rfl,L',hH6,hP6,hT6⟩
theorem run_clear1 (w:World) (b o c:Nat) (ty:TypeId) (hc:(w.cell? ⟨b,o,none⟩).isSome=true) (hf:w.frozen? ⟨b,o,none⟩=false) :
  (Builtin.clear_ #[329] ty #[.slice (some ⟨b,o,none⟩) 1 c]).run Tryz.prog w=.ok (.tuple #[]) (w.setCell ⟨b,o,none⟩ (.pointer none)):=by
 have hst:=run_storeCells_cells (P:=Tryz.prog) b o [.pointer none] 0 w (by intro j hj; simp at hj; subst hj; simpa using hc) (by intro j hj; simp at hj; subst hj; simpa using hf) (by intro v hv; simp at hv; subst hv; rfl)
 simp only [Nat.add_zero] at hst
 have hset:w.setCells b o [.pointer none]=w.setCell ⟨b,o,none⟩ (.pointer none):=by simp [World.setCells]
 rw [hset] at hst
 have hz:(Builtin.zeroCells (Value.pointer none).cells 1).toList=[.pointer none]:=by kernel_rfl
 simp [Builtin.clear_,run_underlying Tryz.underlying329,hz,hst]
theorem CItemsAt.cut {w:World} {g cap:Nat} {L:List CU} (h:CItemsAt w g cap L) (n:Nat) (hn:n <= L.length) (a:Value):CItemsAt (w.setCell ⟨g,n,none⟩ a) g cap (L.take n):=by
 obtain ⟨cur,hb,h1,h2,h3,h4⟩:=h
 have hl:(L.take n).length=n:=by rw [List.length_take]; omega
 refine ⟨_,heap_setCell_same w g n _ 305 _ hb,by simpa using h1,by rw [hl]; omega,h3,fun i hi=>?_⟩
 rw [hl] at hi
 rw [get_set,if_neg (by omega)]
 have:=h4 i (by omega)
 simpa using this
def cpopW (W:World) (ph g cap n:Nat) (y:CU):World:=
 ((W.setCell ⟨g,0,none⟩ (.pointer (some ⟨y.ptr,0,none⟩))).setCell ⟨g,n,none⟩ (.pointer none)).setCell ⟨ph,0,none⟩ (.slice (some ⟨g,0,none⟩) n cap)
structure CStale (w:World) (ph g cap bf ps:Nat) (ks:List K) (L:List CU):Prop where
 head:CHeadAt w ph (.slice (some ⟨g,0,none⟩) L.length cap) bf
 items:CItemsAt w g cap L
 ctx:CCtx w bf ps ks
 rows:∀ i (h:i < L.length),0 < i -> CBox w ks L[i]
theorem CStale.ne {w:World} {ph g cap bf ps:Nat} {ks:List K} {L:List CU} (h:CStale w ph g cap bf ps ks L):ph≠g:=by
 obtain ⟨cur,hb,_⟩:=h.items
 have:=h.head
 unfold CHeadAt at this
 intro e
 subst e
 rw [hb] at this
 simp at this
theorem CStale.popped {w W:World} {ph g cap bf ps n:Nat} {ks:List K} {L:List CU} (h:CStale w ph g cap bf ps ks L) (hn:L.length=n+1) (hW:Touch [] w W) :
  CHeapAt (cpopW W ph g cap n (L[n]'(by omega))) ph g cap bf ps ks ((L.set 0 (L[n]'(by omega))).take n) /\ Touch [ph,g] w (cpopW W ph g cap n (L[n]'(by omega))):=by
 have hne:=h.ne
 have hI:=((h.items.touch hW.u (by simp)).put 0 (by omega) (L[n]'(by omega))).cut n (by simp; omega) (.pointer none)
 have hT:Touch [g] W ((W.setCell ⟨g,0,none⟩ (.pointer (some ⟨(L[n]'(by omega)).ptr,0,none⟩))).setCell ⟨g,n,none⟩ (.pointer none)):=((Touch.refl [g] W).setCell (p:=⟨g,0,none⟩) (by simp) _).setCell (p:=⟨g,n,none⟩) (by simp) _
 have hheadW:=h.head.touch hW.u (by simp)
 have hhead:=hheadW.touch hT.u (by simpa using hne)
 have hT5:Touch [ph] ((W.setCell ⟨g,0,none⟩ (.pointer (some ⟨(L[n]'(by omega)).ptr,0,none⟩))).setCell ⟨g,n,none⟩ (.pointer none)) (cpopW W ph g cap n (L[n]'(by omega))):=(Touch.refl [ph] _).setCell (p:=⟨ph,0,none⟩) (by simp) (.slice (some ⟨g,0,none⟩) n cap)
 obtain ⟨cur,hb,_⟩:=h.items.touch hW.u (by simp)
 have hk:∀ t,(305:TypeId)≠t -> (331:TypeId)≠t -> KeepTag t w (cpopW W ph g cap n (L[n]'(by omega))):=fun t h1 h2=>(hW.tag0 t).trans ((hT.tag (notag_of hb h1)).trans (hT5.tag (notag_of hhead h2)))
 have hlen:((L.set 0 (L[n]'(by omega))).take n).length=n:=by simp; omega
 refine ⟨⟨?_,hI.touch hT5.u (by simpa using fun e=>hne e.symm),h.ctx.keep (hk _ (by decide) (by decide)) (hk _ (by decide) (by decide)) (hk _ (by decide) (by decide)),fun x hx=>?_⟩,?_⟩
 ·have:=heap_setCell_same _ ph 0 _ 331 (.slice (some ⟨g,0,none⟩) n cap) hhead
  unfold CHeadAt cpopW
  rw [this,hlen]
  simp [cheadCells]
 ·have hx2:∃ i,∃ hi:i < L.length,0 < i /\ x=L[i]:=by
   obtain ⟨i,hi,rfl⟩:=List.getElem_of_mem hx
   rw [hlen] at hi
   by_cases e:i=0
   ·subst e
    exact ⟨n,by omega,hi,by simp⟩
   ·exact ⟨i,by omega,by omega,by simp [List.getElem_set_ne (Ne.symm e)]⟩
  obtain ⟨i,hi,h0,rfl⟩:=hx2
  exact (h.rows i hi h0).keep (hk _ (by decide) (by decide)) (hk _ (by decide) (by decide))
 ·exact (hW.mono (by simp)).trans ((hT.mono (by simp)).trans (hT5.mono (by simp)))
theorem csiftDownNil_any (w:World) (ph g cap bf:Nat) (h:CHeadAt w ph (.slice (some ⟨g,0,none⟩) 0 cap) bf) :
  Calls Tryz.prog 218 #[.pointer (some ⟨ph,0,none⟩),.int .i64 0] w fun e w'=>e=.returned (.tuple #[]) /\ w'=w:=by
 obtain ⟨hd0,hd1⟩:=h.cell
 clear h
 go_enter Tryz.func218,Tryz.ntmps218
 go_wp2
 refine wp_loop_rounds 1 ?_
 rw [rounds_succ]
 go_wp2
 refine wp_loop_rounds 1 ?_
 rw [rounds_succ]
 go_wp2
 first | go_end0 | refine bodyPost_ret (results_none rfl _ _ _) rfl ?_
 exact ⟨rfl,rfl⟩
theorem csiftDown_all (w:World) (ph g cap bf ps:Nat) (ks:List K) (L:List CU) (h:CHeapAt w ph g cap bf ps ks L) (hu:DownInv (ltCU ks) L 0) (hsmall:L.length <= 1000000000) :
  Calls Tryz.prog 218 #[.pointer (some ⟨ph,0,none⟩),.int .i64 0] w fun e w'=>e=.returned (.tuple #[]) /\ ∃ L',CHeapAt w' ph g cap bf ps ks L' /\ L'.Perm L /\ HeapOK (ltCU ks) L' /\ Touch [g] w w':=by
 rcases Nat.eq_zero_or_pos L.length with h0 | h0
 ·have hL:L=[]:=List.length_eq_zero_iff.1 h0
  subst hL
  refine (csiftDownNil_any w ph g cap bf h.head).mono ?_
  rintro e w' ⟨rfl,rfl⟩
  exact ⟨rfl,[],h,List.Perm.refl _,HeapOK.nil,Touch.refl _ _⟩
 ·exact csiftDown_any w ph g cap bf ps ks L h hu h0 hsmall
theorem cpop_at (w:World) (ph g cap bf ps:Nat) (ks:List K) (L:List CU) (n:Nat) (h:CStale w ph g cap bf ps ks L) (ok:HeapOK (ltCU ks) L) (hn:L.length=n+1) (hsmall:L.length <= 100000000) :
  Calls Tryz.prog 206 #[.pointer (some ⟨ph,0,none⟩)] w fun e w'=>e=.returned (.pointer (some ⟨(L[0]'(by omega)).ptr,0,none⟩)) /\ ∃ L',CHeapSt w' ph (.slice (some ⟨g,0,none⟩) n cap) bf ps ks L' /\ ((L[0]'(by omega))::L').Perm L /\ Touch [ph,g] w w':=by
 obtain ⟨hd0,hd1⟩:=h.head.cell
 have hphlt:=(Array.getElem?_eq_some_iff.1 h.head).1
 have hpg:=h.ne
 have hgb:g < w.heap.size /\ L.length <= cap /\ cap <= 2 ^ 63 - 1:=by obtain ⟨cur,hb,_,h3,h4,_⟩:=h.items; exact ⟨(Array.getElem?_eq_some_iff.1 hb).1,h3,h4⟩
 obtain ⟨hglt,hc1,hc2⟩:=hgb
 have hn0:0 < L.length:=by omega
 have hnn:n < L.length:=by omega
 have c0:=h.items.cell 0 hn0
 have d0:=h.items.cell n hnn
 unfold CU.val at c0 d0
 have f0:=h.items.frozen 0
 have fph:=h.head.frozen 0
 rw [hn] at hd0
 have HPOP:Hid (∀ W,Touch [] w W -> CHeapAt (((W.setCell ⟨g,0,none⟩ (.pointer (some ⟨L[n].ptr,0,none⟩))).setCell ⟨g,n,none⟩ (.pointer none)).setCell ⟨ph,0,none⟩ (.slice (some ⟨g,0,none⟩) n cap)) ph g cap bf ps ks ((L.set 0 L[n]).take n) /\ Touch [ph,g] w (((W.setCell ⟨g,0,none⟩ (.pointer (some ⟨L[n].ptr,0,none⟩))).setCell ⟨g,n,none⟩ (.pointer none)).setCell ⟨ph,0,none⟩ (.slice (some ⟨g,0,none⟩) n cap))):=fun W hW=>h.popped hn hW
 have HIT:Hid (CItemsAt (w.setCell ⟨g,0,none⟩ (.pointer (some ⟨L[n].ptr,0,none⟩))) g cap (L.set 0 L[n])):=h.items.put 0 hn0 L[n]
 have HLE:Hid ((L.set 0 L[n]).length=L.length):=by show _=_; simp
 have HDOWN:Hid (DownInv (ltCU ks) ((L.set 0 L[n]).take n) 0):=⟨fun i hi h0 hne=>by
   simp only [List.length_take,List.length_set] at hi
   simp only [List.getElem_take]
   exact (DownInv.first ok L[n]).ok i (by simp; omega) h0 hne,fun i hi h0 he h1=>by omega⟩
 have HPERM:Hid ((L[0]::(L.set 0 L[n]).take n).Perm L):=by
  have:=pop_perm (l:=L) (x:=L[n]) hn0 (by rw [hn]; simp [hnn])
  rw [hn] at this
  exact this
 have HLEN:Hid (((L.set 0 L[n]).take n).length=n):=by show _=_; simp; omega
 have hcl:∀ ty,(Builtin.clear_ #[329] ty #[.slice (some ⟨g,n,none⟩) 1 (cap - n)]).run Tryz.prog (w.setCell ⟨g,0,none⟩ (.pointer (some ⟨L[n].ptr,0,none⟩))).drew=.ok (.tuple #[]) ((w.setCell ⟨g,0,none⟩ (.pointer (some ⟨L[n].ptr,0,none⟩))).setCell ⟨g,n,none⟩ (.pointer none)).drew:=fun ty=>by
  have hi:=HIT.out.cell n (by simp; omega)
  have:=run_clear1 (w.setCell ⟨g,0,none⟩ (.pointer (some ⟨L[n].ptr,0,none⟩))).drew g n (cap - n) ty (by
   show ((w.setCell ⟨g,0,none⟩ (.pointer (some ⟨L[n].ptr,0,none⟩))).cell? ⟨g,n,none⟩).isSome=true
   rw [hi]; rfl) (by
   show (w.setCell ⟨g,0,none⟩ (.pointer (some ⟨L[n].ptr,0,none⟩))).frozen? ⟨g,n,none⟩=false
   exact HIT.out.frozen n)
  exact this
 generalize (L.set 0 L[n]).take n=L1 at *
 generalize L.set 0 L[n]=L1' at *
 clear h ok
 generalize L[n].ptr=pb at *
 have hn9:n < cap:=by omega
 have hn8:n <= 100000000:=by omega
 have HN:Hid (L.length=n+1):=hn
 generalize L[0]=X0 at *
 have hcl0:=hcl 0
 clear hn hsmall hc1 hcl
 go_enter Tryz.func206,Tryz.ntmps206
 go_wp2
 go_region
 go_wp2_with fail
 refine (csiftDown_all _ ph g cap bf ps ks L1 ((HPOP.out w (Touch.refl _ _)).1.quiet ((Touch.refl [] _).drew)) HDOWN.out (by have:=HLEN.out; omega)).mono ?_
 rintro e w6 ⟨rfl,L',hH6,hP6,hO6,hT6⟩
 have HH6:Hid _:=hH6
 have HT6:Hid _:=hT6
 clear hH6 hT6 c0 d0 hd0 hd1 f0 fph hcl0
 go_wp2
 go_ret
 have hS:=HH6.out.st hO6
 have e:L'.length=n:=by rw [hP6.length_eq]; exact HLEN.out
 rw [e] at hS
 exact ⟨rfl,L',hS,(hP6.cons X0).trans HPERM.out,(((HPOP.out w (Touch.refl _ _)).2).drew).trans (HT6.out.mono (by simp))⟩
theorem cbox_set {w:World} {p rd:Nat} {a:Int} {sv:Value} (h:w.heap[p]?=some (.cells #[.pointer (some ⟨rd,0,none⟩),.int .i64 a,sv] 307 (0,0))) (b:Int) (v:Value):((w.setCell ⟨p,1,none⟩ (.int .i64 b)).setCell ⟨p,2,none⟩ v).heap[p]?=some (.cells #[.pointer (some ⟨rd,0,none⟩),.int .i64 b,v] 307 (0,0)):=by
 rw [heap_setCell_same _ p 2 _ 307 _ (heap_setCell_same w p 1 _ 307 _ h)]
 simp
theorem advance_nil (w:World) (p rd r bx blk file cols:Nat) (a:Int) (sv:Value) (cs:List (List Rec)) (d:DS) (hB:w.heap[p]?=some (.cells #[.pointer (some ⟨rd,0,none⟩),.int .i64 a,sv] 307 (0,0))) (hR:RunEnd w r bx blk file cols cs d) (hq:RdIs w rd r cs []) :
  Calls Tryz.prog 201 #[.pointer (some ⟨p,0,none⟩)] w fun e w'=>e=.returned (.bool false) /\ w'.heap[p]?=some (.cells #[.pointer (some ⟨rd,0,none⟩),.int .i64 0,.slice none 0 0] 307 (0,0)) /\ Touch [p] w w':=by
 have HN:Hid (Calls Tryz.prog 117 #[.pointer (some ⟨rd,0,none⟩)] w fun e w'=>e=.returned (.tuple #[.agg #[.int .i64 0,.slice none 0 0],.bool false]) /\ Touch [] w w'):=next_nil w rd r bx blk file cols cs d hR hq
 obtain ⟨c0,c1,c2⟩:=box3 hB
 have HB:Hid (∀ W,Touch [] w W -> W.heap[p]?=some (.cells #[.pointer (some ⟨rd,0,none⟩),.int .i64 a,sv] 307 (0,0))):=fun W hW=>hW.u.keep hB (by decide) (by simp)
 clear hB hR hq
 go_enter Tryz.func201,Tryz.ntmps201
 go_wp2_with (go_at_call 117; refine HN.out.mono ?_; rintro e w1 ⟨rfl,hT1⟩; have hb1:=HB.out w1 hT1; obtain ⟨b0,b1,b2⟩:=box3 hb1; have g1:w1.frozen? ⟨p,1,none⟩=false:=(by simp [World.frozen?,hb1]); have g2:w1.frozen? ⟨p,2,none⟩=false:=(by simp [World.frozen?,hb1]); have hp1:=(Array.getElem?_eq_some_iff.1 hb1).1; have HT1:Hid _:=hT1; have HB1:Hid _:=hb1; clear hT1 hb1)
 go_ret
 have t2:Touch [p] w1 (((w1.setCell ⟨p,1,none⟩ (.int .i64 0)).setCell ⟨p,2,none⟩ (.slice none 0 0)).alloc (.cells #[.int .i64 0,.slice none 0 0] 205)):=(((Touch.refl [p] w1).setCell (p:=⟨p,1,none⟩) (by simp) _).setCell (p:=⟨p,2,none⟩) (by simp) _).alloc _
 have hb2:=cbox_set HB1.out 0 (.slice none 0 0)
 exact ⟨rfl,(Below.heap_alloc _ _ _ (Array.getElem?_eq_some_iff.1 hb2).1).trans hb2,(HT1.out.mono (by simp)).trans t2⟩
theorem advance_cons (w:World) (p rd r bx bm blk file cols:Nat) (a:Int) (sv:Value) (cs:List (List Rec)) (d:DS) (M:List PF) (x:Rec) (l:List Rec) (hB:w.heap[p]?=some (.cells #[.pointer (some ⟨rd,0,none⟩),.int .i64 a,sv] 307 (0,0))) (hR:RunEnd w r bx blk file cols cs d) (hq:RdIs w rd r cs (x::l)) (hP:PD w bx bm d M) (ok:DiskOK d)
  (hall:∀ y∈x::l,RecOK blk cols y) (hc1:1 <= cols) (hc:cols <= 1000) (hfl:file <= 1000000000) (hn:cs.length <= 100000000) (hch:∀ c∈cs,(encs c).length <= 1000000) :
  Calls Tryz.prog 201 #[.pointer (some ⟨p,0,none⟩)] w fun e w'=>∃ g,e=.returned (.bool true) /\ w'.heap[p]?=some (.cells #[.pointer (some ⟨rd,0,none⟩),.int .i64 x.no,.slice (some ⟨g,0,none⟩) cols cols] 307 (0,0)) /\ RowAt w' (.slice (some ⟨g,0,none⟩) cols cols) x.row /\ RdIs w' rd r cs l /\ PD w' bx bm d M /\ Touch [p,rd,bx] w w':=by
 have HN:Hid (Calls Tryz.prog 117 #[.pointer (some ⟨rd,0,none⟩)] w fun e w'=>∃ g,e=.returned (.tuple #[.agg #[.int .i64 x.no,.slice (some ⟨g,0,none⟩) cols cols],.bool true]) /\ RowAt w' (.slice (some ⟨g,0,none⟩) cols cols) x.row /\ RdIs w' rd r cs l /\ w.heap.size <= g /\ PD w' bx bm d M /\ Touch [rd,bx] w w'):=next_cons w rd r bx bm blk file cols cs d M x l hR hq hP ok hall hc1 hc hfl hn hch
 obtain ⟨c0,c1,c2⟩:=box3 hB
 have hprd:p∉[rd,bx]:=fun e=>by
  obtain ⟨c,hc⟩:=hq.cell
  have hd:=hP.disk
  simp only [List.mem_cons,List.not_mem_nil,or_false] at e
  rcases e with rfl | rfl
  ·rw [hB] at hc; simp at hc
  ·rw [hB] at hd; simp at hd
 have HB:Hid (∀ W,Touch [rd,bx] w W -> W.heap[p]?=some (.cells #[.pointer (some ⟨rd,0,none⟩),.int .i64 a,sv] 307 (0,0))):=fun W hW=>hW.u.keep hB (by decide) hprd
 clear hB hR hq hP ok hall hch
 generalize x.no=an at *
 go_enter Tryz.func201,Tryz.ntmps201
 go_wp2_with (go_at_call 117; refine HN.out.mono ?_; rintro e w1 ⟨g,rfl,p1,p2,p3,p4,hT1⟩; have hb1:=HB.out w1 hT1; obtain ⟨b0,b1,b2⟩:=box3 hb1; have g1:w1.frozen? ⟨p,1,none⟩=false:=(by simp [World.frozen?,hb1]); have g2:w1.frozen? ⟨p,2,none⟩=false:=(by simp [World.frozen?,hb1]); have hp1:=(Array.getElem?_eq_some_iff.1 hb1).1; have HT1:Hid _:=hT1; have HB1:Hid _:=hb1; have HP1:Hid _:=p1; have HP2:Hid (RdIs w1 rd r cs l):=p2; have HP4:Hid _:=p4; clear hT1 hb1 p1 p2 p4)
 go_ret
 have t2:Touch [p] w1 (((w1.setCell ⟨p,1,none⟩ (.int .i64 an)).setCell ⟨p,2,none⟩ (.slice (some ⟨g,0,none⟩) cols cols)).alloc (.cells #[.int .i64 an,.slice (some ⟨g,0,none⟩) cols cols] 205)):=(((Touch.refl [p] w1).setCell (p:=⟨p,1,none⟩) (by simp) _).setCell (p:=⟨p,2,none⟩) (by simp) _).alloc _
 have hb2:=cbox_set HB1.out an (.slice (some ⟨g,0,none⟩) cols cols)
 refine ⟨g,rfl,(Below.heap_alloc _ _ _ (Array.getElem?_eq_some_iff.1 hb2).1).trans hb2,Sl3.keep HP1.out (t2.tag (notag_of HB1.out (by decide))),HP2.out.touch t2.u (fun e=>?_),HP4.out.away t2 (fun k hk e=>?_),(HT1.out.mono (by simp)).trans (t2.mono (by simp))⟩
 ·obtain ⟨c,hc⟩:=HP2.out.cell
  rw [List.mem_singleton.1 e,HB1.out] at hc
  simp at hc
 ·rw [List.mem_singleton.1 e] at hk
  exact (HP4.out.notag (t:=307) (by decide) (by decide)).not_mem HB1.out hk
theorem heap_cur {ks:List K} {L:List CU} (h:HeapOK (ltCU ks) L):HeapOK (ltCur ks) (L.map CU.cur):=HeapOK.map CU.cur h
structure CurSt (w:World) (ks:List K) (R:List RI) (L:List CU):Prop where
 rds:∀ u∈L,RdIs w u.rd u.run.r u.run.cs u.rest
 mem:∀ u∈L,u.run∈R
 part:∀ u∈L,∃ done,u.run.recs=done++u.first::u.rest
 able:∀ x∈R,∀ y∈x.recs,Able ks y.row
 ptrs:(L.map CU.ptr).Nodup
 reads:(L.map CU.rd).Nodup
theorem RdIs.keepTag {w w':World} {q r:Nat} {cs:List (List Rec)} {left:List Rec} (h:RdIs w q r cs left) (k:KeepTag 241 w w'):RdIs w' q r cs left:=by
 obtain ⟨a,b,h1,h2⟩:=h
 exact ⟨a,b,k _ _ _ h1,h2⟩
theorem CurSt.keep {w w':World} {ks:List K} {R:List RI} {L:List CU} (h:CurSt w ks R L) (k:KeepTag 241 w w'):CurSt w' ks R L:={ h with rds:=fun u hu=>(h.rds u hu).keepTag k }
theorem CurSt.perm {w:World} {ks:List K} {R:List RI} {L L':List CU} (h:CurSt w ks R L) (p:L'.Perm L):CurSt w ks R L':=
 ⟨fun u hu=>h.rds u (p.mem_iff.1 hu),fun u hu=>h.mem u (p.mem_iff.1 hu),fun u hu=>h.part u (p.mem_iff.1 hu),h.able,(p.map CU.ptr).nodup_iff.2 h.ptrs,(p.map CU.rd).nodup_iff.2 h.reads⟩
theorem CurSt.tail {w:World} {ks:List K} {R:List RI} {u:CU} {L:List CU} (h:CurSt w ks R (u::L)):CurSt w ks R L:=by
 have h1:=h.ptrs
 have h2:=h.reads
 simp only [List.map_cons,List.nodup_cons] at h1 h2
 exact ⟨fun x hx=>h.rds x (by simp [hx]),fun x hx=>h.mem x (by simp [hx]),fun x hx=>h.part x (by simp [hx]),h.able,h1.2,h2.2⟩
def KeepKey (ps:Nat) (w w':World):Prop:=∀ (cs:Array Value) (f:Nat × Nat),w.heap[ps]?=some (.cells cs 260 f) -> ∃ cs',w'.heap[ps]?=some (.cells cs' 260 f) /\ cs'[2]?=cs[2]?
theorem KeepTag.key {w w':World} (h:KeepTag 260 w w') (ps:Nat):KeepKey ps w w':=fun cs _ e=>⟨cs,h _ _ _ e,rfl⟩
theorem KeepKey.of {w w':World} {ps:Nat} {s s':SC} (h:SorterAt w ps s) (h':SorterAt w' ps s') (e:s'.kv=s.kv):KeepKey ps w w':=fun cs f hc=>by
 unfold SorterAt at h h'
 rw [h] at hc
 simp only [Option.some.injEq,Obj.cells.injEq] at hc
 obtain ⟨rfl,_,rfl⟩:=hc
 exact ⟨_,h',by simp [SC.cells,e]⟩
theorem CCtx.key {w w':World} {bf ps:Nat} {ks:List K} (h:CCtx w bf ps ks) (h1:KeepTag 264 w w') (h2:KeepKey ps w w') (h3:KeepTag 73 w w'):CCtx w' bf ps ks:=by
 obtain ⟨cs,f,vk,a,b,c⟩:=h.keys
 obtain ⟨cs',a',b'⟩:=h2 cs f a
 exact ⟨h1 _ _ _ h.f,cs',f,vk,a',b'.trans b,Sl3.keep c h3⟩
theorem COwn.keep {w w':World} {v:Value} {L:List CU} (h:COwn w v L) (k:KeepTag 305 w w'):COwn w' v L:=by
 obtain ⟨h1,h2⟩:=h
 refine ⟨h1,?_⟩
 rcases h2 with h2 | ⟨g,cap,cur,e,hb,hh,rest⟩
 ·exact .inl h2
 ·exact .inr ⟨g,cap,cur,e,hb,k _ _ _ hh,rest⟩
structure MgSt (w:World) (lo pm ph:Nat) (hv:Value) (bf ps:Nat) (ks:List K) (R:List RI) (L:List CU):Prop where
 box:w.heap[pm]?=some (.cells #[.pointer (some ⟨ph,0,none⟩)] 310 (0,0))
 heap:CHeapSt w ph hv bf ps ks L
 curs:CurSt w ks R L
 newH:lo <= ph
 newV:∀ k,hv.ownBlock=some k -> lo <= k
 newC:∀ u∈L,lo <= u.ptr /\ lo <= u.rd
structure MgKeep (ps:Nat) (w w':World):Prop where
 k310:KeepTag 310 w w'
 k331:KeepTag 331 w w'
 k305:KeepTag 305 w w'
 k307:KeepTag 307 w w'
 k241:KeepTag 241 w w'
 k264:KeepTag 264 w w'
 k73:KeepTag 73 w w'
 k85:KeepTag 85 w w'
 key:KeepKey ps w w'
theorem MgSt.keep {w w':World} {lo pm ph:Nat} {hv:Value} {bf ps:Nat} {ks:List K} {R:List RI} {L:List CU} (h:MgSt w lo pm ph hv bf ps ks R L) (k:MgKeep ps w w'):MgSt w' lo pm ph hv bf ps ks R L:=
 ⟨k.k310 _ _ _ h.box,⟨k.k331 _ _ _ h.heap.head,h.heap.items.keep k.k305,h.heap.ctx.key k.k264 k.key k.k73,fun x hx=>(h.heap.rows x hx).keep k.k307 k.k85,h.heap.ok⟩,h.curs.keep k.k241,h.newH,h.newV,h.newC⟩
theorem Touch.mgKeep {w w':World} (t:Touch [] w w') (ps:Nat):MgKeep ps w w':=⟨t.tag0 _,t.tag0 _,t.tag0 _,t.tag0 _,t.tag0 _,t.tag0 _,t.tag0 _,t.tag0 _,(t.tag0 _).key ps⟩
theorem MgSt.quiet {w w':World} {lo pm ph:Nat} {hv:Value} {bf ps:Nat} {ks:List K} {R:List RI} {L:List CU} (h:MgSt w lo pm ph hv bf ps ks R L) (t:Touch [] w w'):MgSt w' lo pm ph hv bf ps ks R L:=h.keep (t.mgKeep ps)
def MT (w:World) (bx lo:Nat) (F:List Nat):Prop:=∀ k∈F,∃ cs t f,w.heap[k]?=some (.cells cs t f) /\ t∈[117,307,331,305,241] /\ (k=bx \/ lo <= k)
theorem MT.notag {w:World} {bx lo:Nat} {F:List Nat} (h:MT w bx lo F) {t:TypeId} (ht:t∉[117,307,331,305,241]):NoTag t w F:=fun k hk cs f e=>by
 obtain ⟨cs',t',f',h1,h2,_⟩:=h k hk
 rw [h1] at e
 simp only [Option.some.injEq,Obj.cells.injEq] at e
 obtain ⟨_,rfl,_⟩:=e
 exact ht h2
theorem RunsSt.turned {w w':World} {bx bm blk cols:Nat} {d:DS} {M:List PF} {pre:List RI} {o:Option RI} {F:List Nat} (h:RunsSt w bx bm blk cols d M pre o) (hP:PD w' bx bm d M) (t:Touch F w w') (n1:NoTag 223 w F) (n2:NoTag 5 w F):RunsSt w' bx bm blk cols d M pre o:=
 { h with
  pd:=hP
  done:=fun x hx=>(h.done x hx).quiet t.u (fun e=>by
   obtain ⟨n,v,hc⟩:=h.cell (x:=x) (by simp [hx])
   exact n1.not_mem hc e)
  opn:=fun x hx=>(h.opn x hx).quiet t (fun e=>by
   obtain ⟨n,v,hc⟩:=h.cell (x:=x) (by simp [hx])
   exact n1.not_mem hc e) n2 }
def CU.on (u:CU) (g cols:Nat) (y:Rec) (l:List Rec):CU:=⟨u.ptr,u.rd,.slice (some ⟨g,0,none⟩) cols cols,u.run,y,l⟩
theorem MgSt.others {w w2:World} {lo pm ph:Nat} {hv:Value} {bf ps:Nat} {ks:List K} {R:List RI} {u:CU} {T:List CU} {F:List Nat} (h:MgSt w lo pm ph hv bf ps ks R (u::T)) (t:Touch F w w2) (hp:∀ k∈F,k=u.ptr \/ k=u.rd \/ NoTag 307 w [k] /\ NoTag 241 w [k]) (h85:NoTag 85 w F) :
  (∀ x∈T,CBox w2 ks x) /\ (∀ x∈T,RdIs w2 x.rd x.run.r x.run.cs x.rest):=by
 have h1:=h.curs.ptrs
 have h2:=h.curs.reads
 simp only [List.map_cons,List.nodup_cons] at h1 h2
 refine ⟨fun x hx=>?_,fun x hx=>?_⟩
 ·have hb:=h.heap.rows x (by simp [hx])
  refine ⟨t.u.keep hb.box (by decide) (fun e=>?_),Sl3.keep hb.row (t.tag h85),hb.able⟩
  rcases hp _ e with e | e | e
  ·exact h1.1 (List.mem_map.2 ⟨x,hx,e⟩)
  ·obtain ⟨c,hc⟩:=(h.curs.rds u (by simp)).cell
   rw [<- e,hb.box] at hc
   simp at hc
  ·exact e.1 _ (by simp) _ _ hb.box
 ·have hr:=h.curs.rds x (by simp [hx])
  obtain ⟨c,hc⟩:=hr.cell
  refine hr.touch t.u (fun e=>?_)
  rcases hp _ e with e | e | e
  ·have hb:=h.heap.rows u (by simp)
   rw [e,hb.box] at hc
   simp at hc
  ·exact h2.1 (List.mem_map.2 ⟨x,hx,e⟩)
  ·exact e.2 _ (by simp) _ _ hc
theorem CItemsAt.vals {w:World} {g cap:Nat} {L L':List CU} (h:CItemsAt w g cap L) (e:L'.map CU.val=L.map CU.val):CItemsAt w g cap L':=by
 obtain ⟨cur,hb,h1,h2,h3,h4⟩:=h
 have hl:L'.length=L.length:=by simpa using congrArg List.length e
 refine ⟨cur,hb,h1,by omega,h3,fun i hi=>?_⟩
 rw [h4 i (by omega)]
 have:(L'.map CU.val)[i]?=(L.map CU.val)[i]?:=by rw [e]
 simp only [List.getElem?_map,List.getElem?_eq_getElem hi,List.getElem?_eq_getElem (show i < L.length by omega),Option.map_some,Option.some.injEq] at this
 rw [this]
section
variable {w w2:World} {lo pm ph g cap:Nat} {hv:Value} {bf ps bx:Nat} {ks:List K} {R:List RI} {u:CU} {T:List CU}
theorem MgSt.notags (h:MgSt w lo pm ph hv bf ps ks R (u::T)) (hbx:∃ cs f,w.heap[bx]?=some (.cells cs 117 f)):∀ t:TypeId,(117:TypeId)≠t -> (307:TypeId)≠t -> (241:TypeId)≠t -> NoTag t w [u.ptr,u.rd,bx]:=fun t h1 h2 h3=>by
 obtain ⟨c,hc⟩:=(h.curs.rds u (by simp)).cell
 obtain ⟨cs,f,hb⟩:=hbx
 exact ((notag_of hb h1).cons hc h3).cons (h.heap.rows u (by simp)).box h2
theorem MgSt.stepped {r cols:Nat} {y:Rec} {l:List Rec} (h:MgSt w lo pm ph (.slice (some ⟨g,0,none⟩) (T.length+1) cap) bf ps ks R (u::T)) (hA:CHeapAt w ph g cap bf ps ks (u::T)) (hbx:∃ cs f,w.heap[bx]?=some (.cells cs 117 f)) (t:Touch [u.ptr,u.rd,bx] w w2)
  (hr:u.rest=y::l) (hB:w2.heap[u.ptr]?=some (.cells #[.pointer (some ⟨u.rd,0,none⟩),.int .i64 y.no,.slice (some ⟨r,0,none⟩) cols cols] 307 (0,0))) (hrow:RowAt w2 (.slice (some ⟨r,0,none⟩) cols cols) y.row) (hrd:RdIs w2 u.rd u.run.r u.run.cs l) :
  CHeapAt w2 ph g cap bf ps ks (u.on r cols y l::T) /\ CurSt w2 ks R (u.on r cols y l::T) /\ w2.heap[pm]?=some (.cells #[.pointer (some ⟨ph,0,none⟩)] 310 (0,0)):=by
 have hn:=h.notags hbx
 have ho:=h.others t (fun k hk=>by
  simp only [List.mem_cons,List.not_mem_nil,or_false] at hk
  rcases hk with rfl | rfl | rfl
  ·exact .inl rfl
  ·exact .inr (.inl rfl)
  ·obtain ⟨cs,f,hb⟩:=hbx
   exact .inr (.inr ⟨notag_of hb (by decide),notag_of hb (by decide)⟩)) (hn 85 (by decide) (by decide) (by decide))
 have hk:∀ t':TypeId,(117:TypeId)≠t' -> (307:TypeId)≠t' -> (241:TypeId)≠t' -> KeepTag t' w w2:=fun t' h1 h2 h3=>t.tag (hn t' h1 h2 h3)
 obtain ⟨done,hd⟩:=h.curs.part u (by simp)
 have hay:Able ks y.row:=h.curs.able u.run (h.curs.mem u (by simp)) y (by rw [hd,hr]; simp)
 obtain ⟨cur,hcur,_⟩:=hA.items
 refine ⟨⟨?_,(hA.items.touch t.u ((hn 305 (by decide) (by decide) (by decide)).not_mem hcur)).vals (by simp [CU.val,CU.on]),hA.ctx.keep (hk _ (by decide) (by decide) (by decide)) (hk _ (by decide) (by decide) (by decide)) (hk _ (by decide) (by decide) (by decide)),fun x hx=>?_⟩,⟨fun x hx=>?_,fun x hx=>?_,fun x hx=>?_,h.curs.able,?_,?_⟩,hk 310 (by decide) (by decide) (by decide) _ _ _ h.box⟩
 ·exact hk 331 (by decide) (by decide) (by decide) _ _ _ hA.head
 ·rcases List.mem_cons.1 hx with rfl | hx
  ·exact ⟨hB,hrow,hay⟩
  ·exact ho.1 x hx
 ·rcases List.mem_cons.1 hx with rfl | hx
  ·exact hrd
  ·exact ho.2 x hx
 ·rcases List.mem_cons.1 hx with rfl | hx
  ·exact h.curs.mem u (by simp)
  ·exact h.curs.mem x (by simp [hx])
 ·rcases List.mem_cons.1 hx with rfl | hx
  ·exact ⟨done++[u.first],by rw [show (u.on r cols y l).run=u.run from rfl,hd,hr]; simp [CU.on]⟩
  ·exact h.curs.part x (by simp [hx])
 ·simpa [CU.on] using h.curs.ptrs
 ·simpa [CU.on] using h.curs.reads
theorem MgSt.ended (h:MgSt w lo pm ph (.slice (some ⟨g,0,none⟩) (T.length+1) cap) bf ps ks R (u::T)) (hA:CHeapAt w ph g cap bf ps ks (u::T)) (t:Touch [u.ptr] w w2) :
  CStale w2 ph g cap bf ps ks (u::T) /\ CurSt w2 ks R T /\ w2.heap[pm]?=some (.cells #[.pointer (some ⟨ph,0,none⟩)] 310 (0,0)):=by
 have hn:∀ t':TypeId,(307:TypeId)≠t' -> NoTag t' w [u.ptr]:=fun t' h1=>notag_of (h.heap.rows u (by simp)).box h1
 have ho:=h.others t (fun k hk=>.inl (by simpa using hk)) (hn 85 (by decide))
 have hk:∀ t':TypeId,(307:TypeId)≠t' -> KeepTag t' w w2:=fun t' h1=>t.tag (hn t' h1)
 obtain ⟨cur,hcur,_⟩:=hA.items
 refine ⟨⟨hk 331 (by decide) _ _ _ hA.head,hA.items.touch t.u ((hn 305 (by decide)).not_mem hcur),hA.ctx.keep (hk _ (by decide)) (hk _ (by decide)) (hk _ (by decide)),fun i hi h0=>?_⟩,h.curs.tail.keep (hk _ (by decide)),hk 310 (by decide) _ _ _ h.box⟩
 cases i with
 | zero=>omega
 | succ i=>exact ho.1 _ (by simp)
end
theorem cur_drop {ks:List K} {all:List Rec} {out:List Rec} {u:CU} {T L':List CU} (h:Merging ks all ((u::T).map CU.cur) out) (hr:u.rest=[]) (hp:(u::L').Perm (u::T)) (hh:HeapOK (ltCU ks) L'):Merging ks all (L'.map CU.cur) (out++[u.first]):=
 h.drop (c:=u.cur) (by simp) hr (by simpa using hp.map CU.cur) (heap_cur hh)
theorem cur_next {ks:List K} {all:List Rec} {out:List Rec} {u:CU} {T L':List CU} {r cols:Nat} {y:Rec} {l:List Rec} (h:Merging ks all ((u::T).map CU.cur) out) (hr:u.rest=y::l) (hp:L'.Perm (u.on r cols y l::T)) (hh:HeapOK (ltCU ks) L'):Merging ks all (L'.map CU.cur) (out++[u.first]):=
 h.next (c:=u.cur) (c':=(u.on r cols y l).cur) (by simp) hr (by simpa using hp.map CU.cur) (heap_cur hh)
end Go.Proofs.YtjoinhljdbljaaaGreat
