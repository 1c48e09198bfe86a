/- The walk of copied, over rows sorted. -/
import Derived.Test.YtjoinhljdbljaaaGreatQryBToQryF
set_option maxHeartbeats 4000000
set_option maxRecDepth 20000
namespace Go.Proofs.YtjoinhljdbljaaaGreat
open Go.RowKit
attribute [local go_sem] Oper.semAt_some
theorem info83:(Tryz.prog.info? 83).map (fun i=>(i.zero,i.size,i.bytes))=some (some (.slice none 0 0),1,24):=by kernel_rfl
def LOwn (w:World) (v:Value) (vs:List Value):Prop:=w.ownsRow 0 83 1 v vs.length vs
theorem LOwn.keep {w w':World} {v:Value} {vs:List Value} (h:LOwn w v vs) (k:KeepTag 83 w w'):LOwn w' v vs:=by
 obtain ⟨h1,h2⟩:=h
 refine ⟨h1,?_⟩
 rcases h2 with h2 | ⟨g,cap,cur,e,hb,hh,rest⟩
 ·exact .inl h2
 ·exact .inr ⟨g,cap,cur,e,hb,k _ _ _ hh,rest⟩
theorem LOwn.slice {w:World} {v:Value} {vs:List Value} (h:LOwn w v vs):∃ o n c,v=.slice o n c:=by
 rcases h.2 with ⟨rfl,_⟩ | ⟨g,cap,cur,rfl,_⟩
 ·exact ⟨_,_,_,rfl⟩
 ·exact ⟨_,_,_,rfl⟩
theorem LOwn.block {w:World} {v:Value} {vs:List Value} (h:LOwn w v vs):∀ k,v.ownBlock=some k -> ∃ cs,w.heap[k]?=some (.cells cs 83 (0,0)):=fun k hk=>by
 rcases h.2 with ⟨rfl,_⟩ | ⟨g,cap,cur,rfl,_,hh,_⟩
 ·simp [Value.ownBlock] at hk
 ·simp [Value.ownBlock] at hk
  subst hk
  exact ⟨_,hh⟩
theorem SrtCtx.quiet {W W':World} {bq bk bc bl b q:Nat} {tv wv kv sv:Value} {bx bm blk fan bud count cols:Nat} {ks:List K} {vs:List Value} {rows:List (List V)} {d:DS} {M:List PF} (h:SrtCtx W bq bk bc bl b q tv wv kv sv bx bm blk fan bud count cols ks vs rows d M) (t:Touch [] W W'):SrtCtx W' bq bk bc bl b q tv wv kv sv bx bm blk fan bud count cols ks vs rows d M:=
 { h with hq:=t.tag0 _ _ _ _ h.hq,hQ:=t.tag0 _ _ _ _ h.hQ,hk:=t.tag0 _ _ _ _ h.hk,keys:=h.keys.touch t,hc:=t.tag0 _ _ _ _ h.hc,hl:=t.tag0 _ _ _ _ h.hl,hb:=t.tag0 _ _ _ _ h.hb,list:=h.list.keep (t.tag0 _),rowsAt:=fun i a b=>(h.rowsAt i a b).touch t,pd:=h.pd.away t (by simp) }
structure Kept (lo:Nat) (w W:World):Prop where
 low:Low lo w W
 cells:∀ t,t∉OwnT -> t≠5 -> KeepTag t w W
theorem Kept.trans {lo:Nat} {a b c:World} (h:Kept lo a b) (k:Kept lo b c):Kept lo a c:=⟨h.low.trans k.low,fun t ht h5=>(h.cells t ht h5).trans (k.cells t ht h5)⟩
theorem Kept.mono {lo lo':Nat} {a b:World} (h:Kept lo a b) (hl:lo' <= lo):Kept lo' a b:=⟨h.low.mono hl,h.cells⟩
theorem Touch.kept {lo:Nat} {W W':World} (h:Touch [] W W'):Kept lo W W':=⟨h.low (Hi.nil lo),fun t _ _=>h.tag0 t⟩
theorem Kept.new {lo:Nat} {F:List Nat} {w W W':World} (h:Kept lo w W) (t:Touch F W W') (hF:∀ k∈F,w.heap.size <= k) (hlo:lo <= w.heap.size):Kept lo w W':=by
 refine ⟨h.low.trans (t.low (fun k hk=>Nat.le_trans hlo (hF k hk))),fun t' ht h5 k cs f e=>?_⟩
 have hlt:=(Array.getElem?_eq_some_iff.1 e).1
 rw [t.block k (by have:=h.low.size; omega) (fun hk=>by have:=hF k hk; omega)]
 exact h.cells t' ht h5 k cs f e
theorem Kept.g {T:List TypeId} {lo N:Nat} {D F:List Nat} {w W W':World} (h:Kept lo w W) (o:OwnG T lo N D F W W') (hN:w.heap.size <= N):Kept lo w W':=
 ⟨h.low.trans o.low,fun t h1 h2 k cs f e=>o.cells t h1 h2 k cs f (.inl (Nat.lt_of_lt_of_le (Array.getElem?_eq_some_iff.1 e).1 hN)) (h.cells t h1 h2 k cs f e)⟩
theorem LOwn.keepB {w w':World} {v:Value} {vs:List Value} (h:LOwn w v vs) (k:∀ g,v.ownBlock=some g -> ∀ (cs:Array Value) (f:Nat × Nat),w.heap[g]?=some (.cells cs 83 f) -> w'.heap[g]?=some (.cells cs 83 f)):LOwn w' v vs:=by
 obtain ⟨h1,h2⟩:=h
 refine ⟨h1,?_⟩
 rcases h2 with h2 | ⟨g,cap,cur,e,hb,hh,rest⟩
 ·exact .inl h2
 ·exact .inr ⟨g,cap,cur,e,hb,k g (by rw [e]; simp [Value.ownBlock]) _ _ hh,rest⟩
structure CopySt (lo:Nat) (F:List Nat) (w W:World) (bL:Nat) (out:List (List V)):Prop where
 st:∃ lv vs,W.heap[bL]?=some (.cells #[lv] 36 (0,0)) /\ LOwn W lv vs /\ vs.length=out.length /\ (∀ i (_:i < vs.length) (_:i < out.length),RowAt W vs[i] out[i]) /\ (∀ k,lv.ownBlock=some k -> w.heap.size <= k /\ k∉F) /\ (F=[] -> lv=.slice none 0 0)
 kept:Kept lo w W
 lo_:lo <= w.heap.size
 at_:w.heap.size <= bL
theorem CopySt.own {T:List TypeId} {lo N:Nat} {D F:List Nat} {w W W':World} {bL:Nat} {out:List (List V)} (h:CopySt lo F w W bL out) (o:OwnG T lo N D F W W') (hN:w.heap.size <= N) (hT:∀ t∈[36,85],t∉T):CopySt lo F w W' bL out:=by
 obtain ⟨lv,vs,h1,h2,h3,h4,h5,h6⟩:=h.st
 refine ⟨⟨lv,vs,o.tag (by decide) (by decide) (hT 36 (by decide)) _ _ _ h1,h2.keepB (fun g hg cs f e=>o.spec 83 (by decide) g cs f ?_ e),h3,fun i a b=>Sl3.keep (h4 i a b) (o.tag (by decide) (by decide) (hT 85 (by decide))),h5,h6⟩,h.kept.g o hN,h.lo_,h.at_⟩
 by_cases hF:F=[]
 ·rw [h6 hF] at hg
  simp [Value.ownBlock] at hg
 ·exact .inr ⟨hF,(h5 g hg).2⟩
theorem touch_guard {T:List TypeId} {F:List Nat} {W W':World} (B:Nat) (t:Touch F W W') (hF:∀ k∈F,∃ cs t f,W.heap[k]?=some (.cells cs t f) /\ t∉T):Guard T B W W' /\ ∀ (k:Nat) (ob:Obj),W.heap[k]?=some ob -> Odd ob -> W'.heap[k]?=some ob:=by
 have hodd:∀ (k:Nat) (ob:Obj),W.heap[k]?=some ob -> Odd ob -> W'.heap[k]?=some ob:=fun k ob e ho=>by
  rw [t.block k (Array.getElem?_eq_some_iff.1 e).1 (fun hk=>?_)]
  ·exact e
  ·obtain ⟨cs,t',f,e',_⟩:=hF k hk
   rw [e] at e'
   cases e'
   exact ho.1 _ _ _ rfl
 refine ⟨⟨t.size,fun t' ht=>t.tag (fun k hk cs f e=>?_),fun k es c e=>?_,fun k ob _ e ho=>hodd k ob e ho⟩,hodd⟩
 ·obtain ⟨cs',t2,f',e',hn⟩:=hF k hk
  rw [e] at e'
  cases e'
  exact hn ht
 ·rw [t.block k (Array.getElem?_eq_some_iff.1 e).1 (fun hk=>?_)]
  ·exact e
  ·obtain ⟨cs,t',f,e',_⟩:=hF k hk
   rw [e] at e'
   cases e'
theorem CopySt.push {lo:Nat} {F:List Nat} {w W w1 w2:World} {bL g cap:Nat} {out:List (List V)} {x:List V} {lv:Value} {vs:List Value} {rv:Value} (hB:W.heap[bL]?=some (.cells #[lv] 36 (0,0))) (h4:∀ i (_:i < vs.length) (_:i < out.length),RowAt W vs[i] out[i]) (hlen:vs.length=out.length) (hlv:LOwn W lv vs) (hr:RowAt w1 rv x) (t1:Touch [] W w1) (hO:LOwn w2 (.slice (some ⟨g,0,none⟩) (vs.length+1) cap) (vs++[rv])) (t2:Touch lv.ownBlock.toList w1 w2) (hk:Kept lo w W) (hlo:lo <= w.heap.size) (hat:w.heap.size <= bL) (hnv:∀ k,lv.ownBlock=some k -> w.heap.size <= k /\ k∉F) (hg:lv.ownBlock=some g \/ g=w1.heap.size) (hF:F≠[] /\ ∀ k∈F,k < W.heap.size) :
  w2.heap[bL]?=some (.cells #[lv] 36 (0,0)) /\ CopySt lo F w (w2.setCell ⟨bL,0,none⟩ (.slice (some ⟨g,0,none⟩) (vs.length+1) cap)) bL (out++[x]) /\ Touch (bL::lv.ownBlock.toList) W (w2.setCell ⟨bL,0,none⟩ (.slice (some ⟨g,0,none⟩) (vs.length+1) cap)):=by
 have hlv1:=hlv.keep (t1.tag0 83)
 have n2:∀ t,(83:TypeId)≠t -> NoTag t w1 lv.ownBlock.toList:=fun t ht k hk cs f e=>by
  obtain ⟨cs',h'⟩:=hlv1.block k (by simpa using hk)
  rw [h'] at e
  simp only [Option.some.injEq,Obj.cells.injEq] at e
  exact ht e.2.1
 have hB2:w2.heap[bL]?=some (.cells #[lv] 36 (0,0)):=t2.tag (n2 36 (by decide)) _ _ _ (t1.tag0 36 _ _ _ hB)
 have t3:Touch [bL] w2 (w2.setCell ⟨bL,0,none⟩ (.slice (some ⟨g,0,none⟩) (vs.length+1) cap)):=(Touch.refl [bL] w2).setCell (p:=⟨bL,0,none⟩) (by simp) _
 have n3:∀ t,(36:TypeId)≠t -> NoTag t w2 [bL]:=fun t ht=>notag_of hB2 ht
 have tt:Touch (bL::lv.ownBlock.toList) W (w2.setCell ⟨bL,0,none⟩ (.slice (some ⟨g,0,none⟩) (vs.length+1) cap)):=((t1.mono (by simp)).trans (t2.mono (fun k hk=>List.mem_cons_of_mem _ hk))).trans (t3.mono (by simp))
 refine ⟨hB2,⟨⟨_,vs++[rv],?_,hO.keep (t3.tag (n3 83 (by decide))),by simp [hlen],fun i a b=>?_,fun k hk'=>?_,fun e=>absurd e hF.1⟩,hk.new tt (fun k hk'=>?_) hlo,hlo,hat⟩,tt⟩
 ·rw [heap_setCell_same w2 bL 0 _ 36 _ hB2]; simp
 ·have k85:KeepTag 85 w1 (w2.setCell ⟨bL,0,none⟩ (.slice (some ⟨g,0,none⟩) (vs.length+1) cap)):=(t2.tag (n2 85 (by decide))).trans (t3.tag (n3 85 (by decide)))
  by_cases hi:i < vs.length
  ·have:=Sl3.keep (h4 i hi (by omega)) ((t1.tag0 85).trans k85)
   rw [List.getElem_append_left hi,List.getElem_append_left (by omega)]
   exact this
  ·simp only [List.length_append,List.length_singleton] at a b
   have e:i=vs.length:=by omega
   subst e
   have h1:(vs++[rv])[vs.length]'(by simp)=rv:=by simp
   have h2:(out++[x])[vs.length]'(by simp; omega)=x:=by simp [hlen]
   rw [h1,h2]
   exact Sl3.keep hr k85
 ·simp [Value.ownBlock] at hk'
  subst hk'
  rcases hg with e | e
  ·exact hnv g e
  ·have:=hk.low.size; have:=t1.size; exact ⟨by omega,fun hm=>by have:=hF.2 g hm; omega⟩
 ·rcases List.mem_cons.1 hk' with rfl | hk'
  ·exact hat
  ·exact (hnv k (by simpa using hk')).1
theorem stepIn_row {F:Fence} {n:Nat} {ops:Array Oper} {o:Oper} {a:Act} {w:World} {K:Act -> World -> Prop} {Q:Exit -> Act -> World -> Prop} {E:Prop} (hgd:o.guard=none) (s x:Operand)
  (ho:o.op=.call { callee:=.builtin .append,args:=#[s,x],argTypes:=#[36,36] }) (v:Value) (vs:List Value) (hs:a.eval s=v) (hown:LOwn w v vs)
  (ad:Addr) (y:Value) (c:Nat) (hx:a.eval x=.slice (some ad) 1 c) (hnews:w.cell? ad=some y) (hy:y.oneCell'=true) (hlen:vs.length <= 1000000000)
  (h:∀ g cap w',LOwn w' (.slice (some ⟨g,0,none⟩) (vs.length+1) cap) (vs++[y]) -> w.grownBy w' v.ownBlock -> (v.ownBlock=some g \/ g=w.heap.size) -> K (a.put o.dst (.slice (some ⟨g,0,none⟩) (vs.length+1) cap)) w') :
  if Region.wanted o (yielded ops a.tmps)=true then Oper.wpIn F n Tryz.prog o a w K Q else E:=by
 have hw:Region.wanted o (yielded ops a.tmps)=true:=by simp [Region.wanted,hgd]
 rw [if_pos hw]
 obtain ⟨i0,hi,hz0,hz1,hz2⟩:=info_parts info83
 obtain ⟨g,cap,w',hrun,r1,r2,r3,_⟩:=run_append_lies (P:=Tryz.prog) w 36 o.type 0 83 i0 (.slice none 0 0) 1 24 Tryz.underlying36 hi hz0 hz1 hz2 rfl (by decide) v vs.length vs hown ad 1 c [y] (by simp) (fun j u hj=>by
  match j,hj with
  | 0,hj=>simp at hj; subst hj; exact hnews) (by simpa using hy) (by decide) (by unfold maxLen; omega) (by omega) (Nat.zero_le _) _ rfl
 unfold Oper.wpIn
 refine ⟨?_,?_⟩
 ·simp [Oper.about,ho,resolve,Target.leads,Sem.run_pure]
 ·rw [Oper.semAt_plain F _ _ (by rw [ho]; intro c hc'; cases hc')]
  simp [execOp,ho,resolve,invoke,builtin,hs,hx,hrun,Result.andThen]
  refine h g cap w' ?_ r2 r3
  unfold LOwn
  rw [List.length_append,List.length_singleton]
  exact r1
theorem copied_gen {σ:Type} (T K:List TypeId) (X:List Nat) (w:World) (gf:Nat) (lb:Array Value) (s0:σ) (fin:σ -> World -> Prop) (step:σ -> Value -> World -> σ -> Prop) (lo:Nat) (D:List Nat) (rowsOf:σ -> List (List V)) (hlo:lo <= w.heap.size) (eg:∀ args w,(callFunc gf args).run Tryz.prog w=.ok (.enter gf args) w) (hT:∀ t∈[36,85],t∉T) (hK:∀ t∈[36,83],t∉K) (hX:∀ k∈X,k < w.heap.size)
  (hseq:∀ W,Touch [] w W -> SeqG gf lb s0 fin step T K X lo W.heap.size D W) (hs0:rowsOf s0=[])
  (hstep:∀ s v W s',step s v W s' -> ∃ r,rowsOf s'=rowsOf s++[r] /\ RowAt W v r /\ 1 <= r.length /\ r.length <= 1000 /\ (rowsOf s').length <= 100000)
  (hstepP:∀ s v (W:World) s' l r r',step s v W s' -> W.heap[l]?=some (.loop r) -> step s v (W.putObj l (.loop r')) s')
  (hfin:∀ s (W:World) l ob ob',fin s W -> W.heap[l]?=some ob -> Odd ob -> fin s (W.putObj l ob')) :
  Calls Tryz.prog 82 #[.func (.func gf) #[] lb] w fun e w'=>∃ lv s,e=.returned lv /\ fin s w' /\ (∃ vs',LOwn w' lv vs' /\ vs'.length=(rowsOf s).length /\ ∀ i (_:i < vs'.length) (_:i < (rowsOf s).length),RowAt w' vs'[i] (rowsOf s)[i]) /\ Kept lo w w':=by
 refine callsIn_wide.1 (callsIn_of_wp_marks (n:=0) Tryz.func82 rfl trivial (wpIn_wide.2 ?_))
 simp only [Tryz.ntmps82,List.size_toArray,List.length_cons,List.length_nil,Nat.reduceAdd,Nat.reduceSub,Array.replicate_succ,Array.replicate_zero,List.push_toArray,List.append_toArray,List.nil_append,List.cons_append]
 go_wp2
 have tA:Touch [] w (w.alloc (.cells #[.slice none 0 0] 36)):=(Touch.refl [] w).alloc _
 have hA:=heap_alloc_new w (.cells #[.slice none 0 0] 36)
 have hAs:(w.alloc (.cells #[.slice none 0 0] 36)).heap.size=w.heap.size+1:=by simp
 obtain ⟨wa,hwa⟩:∃ wa,wa=w.alloc (.cells #[.slice none 0 0] 36):=⟨_,rfl⟩
 rw [<- hwa] at tA hA hAs ⊢
 clear hwa
 have tW:∀ rec:Loop,Touch [] w ((wa.alloc (.deferred (some []))).alloc (.loop rec)):=fun rec=>(tA.alloc _).alloc _
 have HSEQ:∀ rec:Loop,SeqG gf lb s0 fin step T K X lo (wa.heap.size+2) D ((wa.alloc (.deferred (some []))).alloc (.loop rec)):=fun rec=>by
  have h1:=hseq _ (tW rec)
  have e:((wa.alloc (.deferred (some []))).alloc (.loop rec)).heap.size=wa.heap.size+2:=by simp
  rw [e] at h1
  exact h1
 have hN:w.heap.size <= wa.heap.size+2:=by omega
 refine range_law (w:=wa) (gf:=gf) (lb:=lb) rfl eg rfl HSEQ
  (fun s A B k ob ho e hk hle=>ho.others k ob (by omega) e (by rcases hk with ⟨r,rfl⟩ | ⟨ds,rfl⟩; exact odd_loop r; exact odd_deferred ds))
  (fun _ _ _ _ h1 h2=>h1.trans h2) (fun s W r r' e=>(Guard.putObj (T:=AllT++K) e (by omega)).g (fun k hk ob e'=>by rw [World.putObj_heap_other (by have:=hX k hk; omega)]; exact e') _)
  (fun s W=>CopySt lo s.1 w W w.heap.size (rowsOf s.2)) (fun s A B hi ho=>hi.own ho hN hT) (fun s s' A hi hm=>by
   rw [hm.2.2.1,<- hm.2.1]
   obtain ⟨lv,vs,h1,h2,h3,h4,h5,h6⟩:=hi.st
   exact ⟨⟨lv,vs,h1,h2,h3,h4,fun k hk=>by rw [h6 hm.1] at hk; simp [Value.ownBlock] at hk,fun e=>absurd e hm.2.2.2.1⟩,hi.kept,hi.lo_,hi.at_⟩)
  (fun s W r r' hi e=>hi.own (OwnG.putObj (T:=T) (lo:=lo) (N:=wa.heap.size) (D:=D) (F:=s.1) e (odd_loop r) (by omega) (by omega)) (by omega) hT)
  (fun s v s' W r r' hs e=>⟨⟨hs.1.1,fun k hk=>by simpa using hs.1.2 k hk⟩,hs.2.1,hstepP _ _ _ _ _ _ _ hs.2.2 e⟩)
  (fun rec=>⟨⟨.slice none 0 0,[],(((Touch.refl [] wa).alloc _).alloc _).tag0 36 _ _ _ hA,World.ownsRow_nil _ _ _ _,by rw [hs0]; rfl,by simp,by simp [Value.ownBlock],fun _=>rfl⟩,(tW rec).kept,hlo,Nat.le_refl _⟩)
  (fun v=>{ tmps:=#[.func (.func gf) #[] lb,undef,.slice none 0 0,.pointer (some ⟨w.heap.size,0,none⟩),v,.func (.func gf) #[] lb,v,undef,undef,undef,undef,undef,undef],defers:=[] }) ?assign ?body ?done
 case assign=>
  intro v W K hK
  gi_wp2
  exact hK
 case body=>
  rintro st v st' W hi ⟨hst0,hst1,hst2⟩
  rw [hst1]
  have HF0:Hid (st.1≠[] /\ ∀ k∈st.1,k < W.heap.size):=hst0
  clear hst0 hst1
  obtain ⟨x,hout',hr,hx1,hx2,hle⟩:=hstep _ _ _ _ hst2
  rw [hout'] at hle ⊢
  generalize rowsOf st.2=out at *
  clear hout'
  obtain ⟨lv,vs1,h1,h2,h3,h4,h5,_⟩:=hi.st
  have HKP:=hi.kept
  have c0:=boxOne h1
  obtain ⟨lvo,ln,lc,rfl⟩:=h2.slice
  obtain ⟨vo,vcap,rfl⟩:=hr.shape
  have f0:W.frozen? ⟨w.heap.size,0,none⟩=false:=by simp [World.frozen?,h1]
  have H3:Hid (vs1.length=out.length):=h3
  have HCL:Hid (∀ W',Touch [] W W' -> Calls Tryz.prog 118 #[.slice vo x.length vcap] W' fun e w'=>∃ g cap,e=.returned (.slice (some ⟨g,0,none⟩) x.length cap) /\ RowAt w' (.slice (some ⟨g,0,none⟩) x.length cap) x /\ W'.heap.size <= g /\ Touch [] W' w'):=fun W' hW=>rowClone_any W' _ x (hr.touch hW) hx1 (by omega)
  have hvl:vs1.length <= 1000000:=by simp at hle; omega
  clear h3
  have HEND:Hid (∀ w3,CopySt lo st.1 w w3 w.heap.size (out++[x]) -> Touch (w.heap.size::(Value.slice lvo ln lc).ownBlock.toList) W w3 -> (∀ (k:Nat) (ob:Obj),W.heap[k]?=some ob -> ((∃ r,ob=.loop r) \/ ∃ ds,ob=.deferred ds) -> (k=wa.heap.size \/ k=wa.heap.size+1) -> w3.heap[k]?=some ob) /\ KeepG K X (wa.heap.size+2) st.1 W w3 /\ CopySt lo st.1 w w3 w.heap.size (out++[x])):=fun w3 z2 z3=>by
   obtain ⟨g1,g2⟩:=touch_guard (T:=KeepT++K) (wa.heap.size+2) z3 (fun k hk=>by
    rcases List.mem_cons.1 hk with rfl | hk
    ·exact ⟨_,_,_,h1,fun hm=>(List.mem_append.1 hm).elim (by decide) (hK 36 (by decide))⟩
    ·obtain ⟨cs,hc⟩:=h2.block k (by simpa using hk)
     exact ⟨_,_,_,hc,fun hm=>(List.mem_append.1 hm).elim (by decide) (hK 83 (by decide))⟩)
   refine ⟨fun k ob e ho _=>g2 k ob e (by rcases ho with ⟨r,rfl⟩ | ⟨ds,rfl⟩; exact odd_loop r; exact odd_deferred ds),⟨g1,fun t ht k hk cs f e=>?_,fun k hk ob e=>?_⟩,z2⟩
   ·rw [z3.block k (Array.getElem?_eq_some_iff.1 e).1 (fun hm=>?_)]
    ·exact e
    ·rcases List.mem_cons.1 hm with rfl | hm
     ·rw [h1] at e
      simp only [Option.some.injEq,Obj.cells.injEq] at e
      rw [<- e.2.1] at ht
      exact absurd ht (by decide)
     ·exact (h5 k (by simpa using hm)).2 hk
   ·rw [z3.block k (Array.getElem?_eq_some_iff.1 e).1 (fun hm=>?_)]
    ·exact e
    ·have h9:=hX k hk
     rcases List.mem_cons.1 hm with rfl | hm
     ·omega
     ·have:=(h5 k (by simpa using hm)).1
      omega
  generalize x.length=vn at *
  gi_wp2
  refine wpIn_region_any (by kernel_rfl) ?_
  change wpAnyIn _ _ _ _ _ _ _ _ _ (World.drew _)
  refine wpAnyIn_ready (rs:=[0,1]) (by kernel_rfl) (by simp) (AllReadyIn.cons rfl (fun K hK=>?_) (AllReadyIn.cons rfl (fun K hK=>?_) (AllReadyIn.nil)))
  ·go_simp
   refine hK _ _ ?_
   clear hK K
   refine wpAnyIn_ready (rs:=[1]) (by kernel_rfl) (by simp) (AllReadyIn.cons rfl (fun K hK=>?_) (AllReadyIn.nil))
   go_simp
   refine hK _ _ ?_
   clear hK K
   refine wpAnyIn_ready (rs:=[2]) (by kernel_rfl) (by simp) (AllReadyIn.cons rfl (fun K hK=>?_) (AllReadyIn.nil))
   go_simp
   refine ⟨trivial,rfl,(CallsIn.inRound _ (callsIn_wide.2 (HCL.out _ ((Touch.refl [] _).drew)))).mono ?_⟩
   rintro e w1 ⟨g,gcap,rfl,p1,p2,p3⟩
   refine hK _ _ ?_
   clear hK K
   have c1:=cell_touch c0 (((Touch.refl [] _).drew).trans p3); have l1:w.heap.size < w1.heap.size:=lt_of_cell c1; have l2:w.heap.size≠w1.heap.size:=by omega
   refine wpAnyIn_ready (rs:=[3]) (by kernel_rfl) (by simp) (AllReadyIn.cons rfl (fun K hK=>?_) (AllReadyIn.nil))
   go_simp
   refine hK _ _ ?_
   clear hK K
   refine wpAnyIn_ready (rs:=[4]) (by kernel_rfl) (by simp) (AllReadyIn.cons rfl (fun K hK=>?_) AllReadyIn.nil)
   refine stepIn_row rfl (.tmp 7) (.tmp 10) rfl (.slice lvo ln lc) vs1 rfl (h2.keep ((((Touch.refl [] W).drew).trans (p3.alloc _)).tag0 83)) ⟨w1.heap.size,0,none⟩ (.slice (some ⟨g,0,none⟩) vn gcap) 1 rfl (by simp) rfl (by omega) ?_
   intro g2 cap2 w2 q1 q2 q3
   refine hK _ _ ?_
   clear hK K
   have hT1:Touch [] W (w1.alloc (.cells #[.slice (some ⟨g,0,none⟩) vn gcap] 83)):=((Touch.refl [] W).drew).trans (p3.alloc _)
   have hT2:Touch (Value.slice lvo ln lc).ownBlock.toList (w1.alloc (.cells #[.slice (some ⟨g,0,none⟩) vn gcap] 83)) w2:=(Touch.refl _ _).grown q2 (fun k hk=>by simp [hk])
   obtain ⟨z1,z2,z3⟩:=CopySt.push (x:=x) h1 h4 H3.out h2 (p1.touch ((Touch.refl [] w1).alloc _)) hT1 q1 hT2 HKP hlo (Nat.le_refl _) h5 q3 HF0.out
   have d0:=boxOne z1
   have g0:w2.frozen? ⟨w.heap.size,0,none⟩=false:=by simp [World.frozen?,z1]
   refine wpAnyIn_ready (rs:=[5]) (by kernel_rfl) (by simp) (AllReadyIn.cons rfl (fun K hK=>?_) AllReadyIn.nil)
   go_simp
   refine hK _ _ ?_
   clear hK K
   refine wpAnyIn_done (by kernel_rfl) ?_ _
   exact HEND.out _ z2 z3
  ·go_simp
   refine hK _ _ ?_
   clear hK K
   refine wpAnyIn_ready (rs:=[0,2]) (by kernel_rfl) (by simp) (AllReadyIn.cons rfl (fun K hK=>?_) (AllReadyIn.cons rfl (fun K hK=>?_) (AllReadyIn.nil)))
   ·go_simp
    refine hK _ _ ?_
    clear hK K
    refine wpAnyIn_ready (rs:=[2]) (by kernel_rfl) (by simp) (AllReadyIn.cons rfl (fun K hK=>?_) (AllReadyIn.nil))
    go_simp
    refine ⟨trivial,rfl,(CallsIn.inRound _ (callsIn_wide.2 (HCL.out _ ((Touch.refl [] _).drew)))).mono ?_⟩
    rintro e w1 ⟨g,gcap,rfl,p1,p2,p3⟩
    refine hK _ _ ?_
    clear hK K
    have c1:=cell_touch c0 (((Touch.refl [] _).drew).trans p3); have l1:w.heap.size < w1.heap.size:=lt_of_cell c1; have l2:w.heap.size≠w1.heap.size:=by omega
    refine wpAnyIn_ready (rs:=[3]) (by kernel_rfl) (by simp) (AllReadyIn.cons rfl (fun K hK=>?_) (AllReadyIn.nil))
    go_simp
    refine hK _ _ ?_
    clear hK K
    refine wpAnyIn_ready (rs:=[4]) (by kernel_rfl) (by simp) (AllReadyIn.cons rfl (fun K hK=>?_) AllReadyIn.nil)
    refine stepIn_row rfl (.tmp 7) (.tmp 10) rfl (.slice lvo ln lc) vs1 rfl (h2.keep ((((Touch.refl [] W).drew).trans (p3.alloc _)).tag0 83)) ⟨w1.heap.size,0,none⟩ (.slice (some ⟨g,0,none⟩) vn gcap) 1 rfl (by simp) rfl (by omega) ?_
    intro g2 cap2 w2 q1 q2 q3
    refine hK _ _ ?_
    clear hK K
    have hT1:Touch [] W (w1.alloc (.cells #[.slice (some ⟨g,0,none⟩) vn gcap] 83)):=((Touch.refl [] W).drew).trans (p3.alloc _)
    have hT2:Touch (Value.slice lvo ln lc).ownBlock.toList (w1.alloc (.cells #[.slice (some ⟨g,0,none⟩) vn gcap] 83)) w2:=(Touch.refl _ _).grown q2 (fun k hk=>by simp [hk])
    obtain ⟨z1,z2,z3⟩:=CopySt.push (x:=x) h1 h4 H3.out h2 (p1.touch ((Touch.refl [] w1).alloc _)) hT1 q1 hT2 HKP hlo (Nat.le_refl _) h5 q3 HF0.out
    have d0:=boxOne z1
    have g0:w2.frozen? ⟨w.heap.size,0,none⟩=false:=by simp [World.frozen?,z1]
    refine wpAnyIn_ready (rs:=[5]) (by kernel_rfl) (by simp) (AllReadyIn.cons rfl (fun K hK=>?_) AllReadyIn.nil)
    go_simp
    refine hK _ _ ?_
    clear hK K
    refine wpAnyIn_done (by kernel_rfl) ?_ _
    exact HEND.out _ z2 z3
   ·go_simp
    refine ⟨trivial,rfl,(CallsIn.inRound _ (callsIn_wide.2 (HCL.out _ ((Touch.refl [] _).drew)))).mono ?_⟩
    rintro e w1 ⟨g,gcap,rfl,p1,p2,p3⟩
    refine hK _ _ ?_
    clear hK K
    have c1:=cell_touch c0 (((Touch.refl [] _).drew).trans p3); have l1:w.heap.size < w1.heap.size:=lt_of_cell c1; have l2:w.heap.size≠w1.heap.size:=by omega
    refine wpAnyIn_ready (rs:=[0,3]) (by kernel_rfl) (by simp) (AllReadyIn.cons rfl (fun K hK=>?_) (AllReadyIn.cons rfl (fun K hK=>?_) (AllReadyIn.nil)))
    ·go_simp
     refine hK _ _ ?_
     clear hK K
     refine wpAnyIn_ready (rs:=[3]) (by kernel_rfl) (by simp) (AllReadyIn.cons rfl (fun K hK=>?_) (AllReadyIn.nil))
     go_simp
     refine hK _ _ ?_
     clear hK K
     refine wpAnyIn_ready (rs:=[4]) (by kernel_rfl) (by simp) (AllReadyIn.cons rfl (fun K hK=>?_) AllReadyIn.nil)
     refine stepIn_row rfl (.tmp 7) (.tmp 10) rfl (.slice lvo ln lc) vs1 rfl (h2.keep ((((Touch.refl [] W).drew).trans (p3.alloc _)).tag0 83)) ⟨w1.heap.size,0,none⟩ (.slice (some ⟨g,0,none⟩) vn gcap) 1 rfl (by simp) rfl (by omega) ?_
     intro g2 cap2 w2 q1 q2 q3
     refine hK _ _ ?_
     clear hK K
     have hT1:Touch [] W (w1.alloc (.cells #[.slice (some ⟨g,0,none⟩) vn gcap] 83)):=((Touch.refl [] W).drew).trans (p3.alloc _)
     have hT2:Touch (Value.slice lvo ln lc).ownBlock.toList (w1.alloc (.cells #[.slice (some ⟨g,0,none⟩) vn gcap] 83)) w2:=(Touch.refl _ _).grown q2 (fun k hk=>by simp [hk])
     obtain ⟨z1,z2,z3⟩:=CopySt.push (x:=x) h1 h4 H3.out h2 (p1.touch ((Touch.refl [] w1).alloc _)) hT1 q1 hT2 HKP hlo (Nat.le_refl _) h5 q3 HF0.out
     have d0:=boxOne z1
     have g0:w2.frozen? ⟨w.heap.size,0,none⟩=false:=by simp [World.frozen?,z1]
     refine wpAnyIn_ready (rs:=[5]) (by kernel_rfl) (by simp) (AllReadyIn.cons rfl (fun K hK=>?_) AllReadyIn.nil)
     go_simp
     refine hK _ _ ?_
     clear hK K
     refine wpAnyIn_done (by kernel_rfl) ?_ _
     exact HEND.out _ z2 z3
    ·go_simp
     refine hK _ _ ?_
     clear hK K
     refine wpAnyIn_ready (rs:=[0]) (by kernel_rfl) (by simp) (AllReadyIn.cons rfl (fun K hK=>?_) (AllReadyIn.nil))
     go_simp
     refine hK _ _ ?_
     clear hK K
     refine wpAnyIn_ready (rs:=[4]) (by kernel_rfl) (by simp) (AllReadyIn.cons rfl (fun K hK=>?_) AllReadyIn.nil)
     refine stepIn_row rfl (.tmp 7) (.tmp 10) rfl (.slice lvo ln lc) vs1 rfl (h2.keep ((((Touch.refl [] W).drew).trans (p3.alloc _)).tag0 83)) ⟨w1.heap.size,0,none⟩ (.slice (some ⟨g,0,none⟩) vn gcap) 1 rfl (by simp) rfl (by omega) ?_
     intro g2 cap2 w2 q1 q2 q3
     refine hK _ _ ?_
     clear hK K
     have hT1:Touch [] W (w1.alloc (.cells #[.slice (some ⟨g,0,none⟩) vn gcap] 83)):=((Touch.refl [] W).drew).trans (p3.alloc _)
     have hT2:Touch (Value.slice lvo ln lc).ownBlock.toList (w1.alloc (.cells #[.slice (some ⟨g,0,none⟩) vn gcap] 83)) w2:=(Touch.refl _ _).grown q2 (fun k hk=>by simp [hk])
     obtain ⟨z1,z2,z3⟩:=CopySt.push (x:=x) h1 h4 H3.out h2 (p1.touch ((Touch.refl [] w1).alloc _)) hT1 q1 hT2 HKP hlo (Nat.le_refl _) h5 q3 HF0.out
     have d0:=boxOne z1
     have g0:w2.frozen? ⟨w.heap.size,0,none⟩=false:=by simp [World.frozen?,z1]
     refine wpAnyIn_ready (rs:=[5]) (by kernel_rfl) (by simp) (AllReadyIn.cons rfl (fun K hK=>?_) AllReadyIn.nil)
     go_simp
     refine hK _ _ ?_
     clear hK K
     refine wpAnyIn_done (by kernel_rfl) ?_ _
     exact HEND.out _ z2 z3
 case done=>
  rintro st W r r' ⟨_,hf⟩ hi hlp hk
  have o1:OwnG T lo wa.heap.size D st.1 W (W.putObj (wa.heap.size+1) (.loop r')):=OwnG.putObj hlp (odd_loop r) (by omega) (by omega)
  have hk1:(W.putObj (wa.heap.size+1) (.loop r')).heap[wa.heap.size]?=some (.deferred (some [])):=(World.putObj_heap_other (by omega)).trans hk
  have hf':=hfin _ _ _ _ (.loop r') hf hlp (odd_loop r)
  have hi':=hi.own o1 (by omega) hT
  generalize W.putObj (wa.heap.size+1) (.loop r')=W2 at *
  clear hf hi hk hlp o1
  have o2:OwnG T lo wa.heap.size D st.1 W2 (W2.putObj wa.heap.size (.deferred none)):=OwnG.putObj hk1 (odd_deferred _) (by omega) (by omega)
  have hf'':=hfin _ _ _ _ (.deferred none) hf' hk1 (odd_deferred _)
  obtain ⟨lv0,_,z1,_⟩:=id hi'.st
  obtain ⟨lv,vs2,z1',z2',z3,z4',_⟩:=(hi'.own o2 (by omega) hT).st
  have hkp:=hi'.kept.g o2 (by omega)
  have e0:lv0=lv:=by
   have:=o2.tag (by decide) (by decide) (hT 36 (by decide)) _ _ _ z1
   rw [z1'] at this
   simpa using this.symm
  subst e0
  have c0:=boxOne z1
  have HZ:Hid (vs2.length=(rowsOf st.2).length):=z3
  clear z3 o2 z1'
  go_wp2
  refine ⟨by simp,.inl ⟨_,_,rfl,run_takeDeferred hk1,?_⟩⟩
  exact ⟨_,results_tmp rfl _ _ _,lv0,st.2,rfl,hf'',⟨vs2,z2',HZ.out,z4'⟩,hkp⟩
theorem copied_any (w:World) (bq bk bc bl b q:Nat) (tv wv kv sv:Value) (bx bm blk fan bud count cols:Nat) (ks:List K) (vs:List Value) (rows:List (List V)) (d:DS) (M:List PF) (P m j j2:Nat) (h:SrtCtx w bq bk bc bl b q tv wv kv sv bx bm blk fan bud count cols ks vs rows d M) (hl:Left d (2 * rows.length+((P * (rows.length+1)+m)+1)) (rows.length+j)) (hP:1000000000 <= P+j) (hPj:P+j2 <= j) (hPs:P <= 900000) :
  Calls Tryz.prog 82 #[.func (.func 132) #[] #[.pointer (some ⟨bq,0,none⟩),.pointer (some ⟨bk,0,none⟩),.pointer (some ⟨bc,0,none⟩),.pointer (some ⟨bl,0,none⟩)]] w fun e w'=>∃ lv out,e=.returned lv /\ out.Perm (recsOf rows) /\ Srt ks out /\ (∃ vs',LOwn w' lv vs' /\ vs'.length=out.length /\ ∀ i (_:i < vs'.length) (_:i < out.length),RowAt w' vs'[i] out[i].row) /\ (∃ d' M',RunsSt w' bx bm blk cols d' M' [] none /\ Left d' m j2) /\ Kept bm w w':=by
 have hbm:bm < w.heap.size:=h.pd.lt bm (by simp)
 refine (copied_gen [] [] [] w 132 _ ([]:List Rec) _ _ bm (diskF bx bm M) (fun out=>out.map Rec.row) (Nat.le_of_lt hbm) (enters_of Tryz.func132 (by kernel_rfl) rfl) (by simp) (by simp) (by simp) (fun W hW=>sorted_seq W bq bk bc bl b q tv wv kv sv bx bm blk fan bud count cols ks vs rows d M P m j j2 (h.quiet hW) hl hP hPj hPs) rfl ?_ ?_ ?_).mono ?_
 ·rintro out v W out' ⟨x,rows',rfl,rfl,hr,_,rest,hp⟩
  have hlen:=hp.length_eq
  simp only [List.length_append,List.length_singleton,recsOf_len] at hlen
  obtain ⟨i,hi,rfl⟩:=recsOf_mem (hp.mem_iff.1 (by simp:x∈out++[x]++rest))
  have hxl:=(h.oks.ok i hi).len
  simp only at hxl
  have h1:=h.c1
  have h2:=h.c2
  have h3:=h.few
  exact ⟨_,by simp,hr,by simp only; omega,by simp only; omega,by simp; omega⟩
 ·rintro out v W out' l r r' ⟨x,rows',h1,h2,hr,h3⟩ e
  exact ⟨x,rows',h1,h2,Sl3.keep hr ((OwnG.putObj (T:=[]) (lo:=0) (N:=0) (D:=[]) (F:=[]) (ob':=.loop r') e (odd_loop r) (Nat.zero_le _) (Nat.zero_le _)).tag (by decide) (by decide) (by simp)),h3⟩
 ·rintro out W l ob ob' ⟨h1,h2,d',M',h3,h4⟩ e ho
  exact ⟨h1,h2,d',M',h3.guard (Guard.putOdd (B:=l+1) e ho (by omega)),h4⟩
 ·rintro e w' ⟨lv,out,rfl,⟨⟨rows',rfl,h1⟩,h2,h3⟩,⟨vs',a,b,c⟩,h5⟩
  exact ⟨lv,out,rfl,h1,h2,⟨vs',a,by simpa using b,fun i hi hj=>by have:=c i hi (by simpa using hj); simpa using this⟩,h3,h5⟩
end Go.Proofs.YtjoinhljdbljaaaGreat
