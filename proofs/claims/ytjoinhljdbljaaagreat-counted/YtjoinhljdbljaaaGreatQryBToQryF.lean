/- The rows of a list, one by one, and what follows. -/
import Derived.Test.YtjoinhljdbljaaaGreatQryA
import Derived.RangeFuncBound
import Derived.RangeFuncCalls
import Derived.Shelf.Abstract
import Derived.Shelf.RegionOpen
import Derived.OwnWalkIn
import Derived.TacticsInMore
import Derived.LoopNIn
import Derived.LoopIn
set_option maxHeartbeats 4000000
set_option maxRecDepth 20000
namespace Go.Proofs.YtjoinhljdbljaaaGreat
open Go.RowKit
attribute [local go_sem] Oper.semAt_some
def LAt (w:World) (v:Value) (vs:List Value):Prop:=∃ o cap,v=.slice o vs.length cap /\ (vs=[] \/ ∃ g off cs,o=some ⟨g,off,none⟩ /\ w.heap[g]?=some (.cells cs 83 (0,0)) /\ cap <= maxLen /\ vs.length <= cap /\ ∀ i (_:i < vs.length),cs[off+i]?=some vs[i])
theorem LAt.keep {w w':World} {v:Value} {vs:List Value} (h:LAt w v vs) (k:KeepTag 83 w w'):LAt w' v vs:=by
 obtain ⟨o,cap,e,h⟩:=h
 refine ⟨o,cap,e,?_⟩
 rcases h with h | ⟨g,off,cs,h1,h2,h3⟩
 ·exact .inl h
 ·exact .inr ⟨g,off,cs,h1,k _ _ _ h2,h3⟩
theorem values_seq (w0:World) (b:Nat) (sv:Value) (vs:List Value) (hb:w0.heap[b]?=some (.cells #[sv] 36 (0,0))) (hL:LAt w0 sv vs) (hsm:vs.length <= 1000000000) :
  SeqC 162 #[.pointer (some ⟨b,0,none⟩)] (0:Nat) (fun s _=>s=vs.length) (fun i v _ i'=>vs[i]?=some v /\ i'=i+1) (fun _ _=>False) (fun _ A B=>A=B) (fun _ W W'=>KeepTag 83 W W') w0:=by
 intro l J _ _ hY h0
 have c0:=boxOne hb
 have HL:=hL
 obtain ⟨o,cap,rfl,hcs⟩:=hL
 refine (callsIn_wide (n:=0)).1 ?_
 refine callsIn_of_wp Tryz.func162 rfl trivial ?_ rfl
 simp only [Tryz.ntmps162,List.size_toArray,List.length_cons,List.length_nil,Nat.reduceAdd,Nat.reduceSub,Array.replicate_succ,Array.replicate_zero,List.push_toArray,List.append_toArray,List.nil_append,List.cons_append]
 gi_wp2
 gi_loopw [7] (fun p wr=>∃ k:Nat,k <= vs.length /\ p=.int .i64 k /\ J k wr /\ LAt wr (.slice o vs.length cap) vs) (fun p _=>vs.length - (intOf p).toNat)
 case atStart=>exact ⟨0,by omega,rfl,h0,HL⟩
 case round=>
  obtain ⟨k,hk,rfl,hJ,hL⟩:=hrel
  by_cases hlt:k < vs.length
  ·obtain ⟨o2,cap2,e2,h2⟩:=hL
   simp only [Value.slice.injEq] at e2
   obtain ⟨rfl,_,rfl⟩:=e2
   rcases h2 with h2 | ⟨g,off,cs,rfl,hg,hm,hc,hx⟩
   ·subst h2; simp at hlt
   have d0:wr.cell? ⟨g,off+k,none⟩=some vs[k]:=by simp only [World.cell?,hg]; exact hx k hlt
   obtain ⟨fn,tmps,assign,body,hy,hR⟩:=hY k vs[k] (k+1) wr hJ ⟨by simp [hlt],rfl⟩
   unfold maxLen at hm
   generalize vs[k]=rv at *
   gi_wp2
   refine ⟨rfl,hR.mono ?_⟩
   rintro e W3 ⟨rfl,hJ3,hk3⟩
   gi_wp2
   refine ⟨⟨k+1,by omega,by go_num,hJ3,LAt.keep ⟨_,_,rfl,.inr ⟨g,off,cs,rfl,hg,by unfold maxLen; omega,hc,hx⟩⟩ hk3⟩,?_⟩
   simp [intOf]; omega
  ·gi_wp2
   first | go_end0 | refine bodyPost_ret (results_none rfl _ _ _) rfl ?_
   obtain rfl:k=vs.length:=by omega
   exact ⟨⟨_,rfl⟩,vs.length,rfl,hJ⟩
end Go.Proofs.YtjoinhljdbljaaaGreat
namespace Go.Proofs.YtjoinhljdbljaaaGreat
open Go.RowKit
def recsOf (rows:List (List V)):List Rec:=rows.mapIdx fun i r=>⟨(i:Int),r⟩
theorem recsOf_len (rows:List (List V)):(recsOf rows).length=rows.length:=by simp [recsOf]
theorem recsOf_take (rows:List (List V)) (i:Nat) (h:i < rows.length):(recsOf rows).take (i+1)=(recsOf rows).take i++[⟨(i:Int),rows[i]⟩]:=by
 rw [take_snoc' _ i (by rw [recsOf_len]; exact h)]
 simp [recsOf]
theorem recsOf_mem {rows:List (List V)} {y:Rec} (h:y∈recsOf rows):∃ i,∃ hi:i < rows.length,y=⟨(i:Int),rows[i]⟩:=by
 obtain ⟨i,hi,rfl⟩:=List.getElem_of_mem h
 rw [recsOf_len] at hi
 exact ⟨i,hi,by simp [recsOf]⟩
structure Cst (s:SC) (bx blk count fan most:Nat):Prop where
 bx:s.bx=bx
 blk:s.blk=blk
 count:s.count=count
 fan:s.fan=fan
 most:s.most=most
 mg:s.mg=.pointer none
 given:s.given=0
theorem Cst.same {s s':SC} {bx blk count fan most:Nat} (h:Cst s bx blk count fan most) (k:Same s s'):Cst s' bx blk count fan most:=⟨k.bx.trans h.bx,k.blk.trans h.blk,k.count.trans h.count,k.fan.trans h.fan,k.most.trans h.most,k.mg.trans h.mg,k.given.trans h.given⟩
def OwnA (B N:Nat) (D:List Nat) (w w':World):Prop:=∃ F,TouchU F w w' /\ OwnF w F /\ Hi B F /\ ∀ k∈F,N <= k \/ k∈D
theorem OwnA.step {B N:Nat} {D:List Nat} {w w':World} (h:OwnA B N D w w'):OwnStep B w w':=by
 obtain ⟨F,h1,h2,h3,_⟩:=h
 exact ⟨F,h1,h2,h3⟩
structure AddSt (N:Nat) (D:List Nat) (W:World) (ps bs bx bm blk count fan most cols mm j:Nat) (ks:List K) (rows:List (List V)) (i:Nat):Prop where
 st:∃ s hv L d M pre o lr,SpSt W ps bs s hv ks L bm cols d M pre o ((recsOf rows).take i) lr /\ Hi bm (sbF ps s hv bm M (pre++o.toList)) /\ (∀ k∈sbF ps s hv bm M (pre++o.toList),N <= k \/ k∈D) /\ s.came=i /\ Cst s bx blk count fan most /\ Left d (2 * L.length+(2 * (rows.length - i)+mm)) (L.length+((rows.length - i)+j))
theorem AddSt.quiet {N:Nat} {D:List Nat} {W W':World} {ps bs bx bm blk count fan most cols mm j:Nat} {ks:List K} {rows:List (List V)} {i:Nat} (h:AddSt N D W ps bs bx bm blk count fan most cols mm j ks rows i) (t:Touch [] W W'):AddSt N D W' ps bs bx bm blk count fan most cols mm j ks rows i:=by
 obtain ⟨s,hv,L,d,M,pre,o,lr,h1,h2⟩:=h.st
 exact ⟨s,hv,L,d,M,pre,o,lr,h1.quiet0 t,h2⟩
structure RowsOK (blk cols:Nat) (ks:List K) (rows:List (List V)):Prop where
 ok:∀ i (h:i < rows.length),RecOK blk cols ⟨(i:Int),rows[i]⟩
 able:∀ r∈rows,Able ks r
theorem addSt_add {N:Nat} {D:List Nat} {W:World} {ps bs bx bm blk count fan most cols mm j:Nat} {ks:List K} {rows:List (List V)} {i:Nat} {v:Value} (h:AddSt N D W ps bs bx bm blk count fan most cols mm j ks rows i) (hN:N <= W.heap.size) (hok:RowsOK blk cols ks rows) (hi:i < rows.length) (hrow:RowAt W v rows[i]) (hsm:rows.length <= 100000) (hcnt:rows.length <= count) (hmost:blk <= most) :
  Calls Tryz.prog 135 #[.pointer (some ⟨ps,0,none⟩),v] W fun e W'=>e=.returned (.tuple #[]) /\ AddSt N D W' ps bs bx bm blk count fan most cols mm j ks rows (i+1) /\ OwnA bm N D W W':=by
 obtain ⟨s,hv,L,d,M,pre,o,lr,h1,hhi,hND,h2,h3,h4⟩:=h.st
 have hlen:((recsOf rows).take i).length=i:=by rw [List.length_take,recsOf_len]; omega
 have e1:=h3.blk
 have e2:=h3.count
 have e3:=h3.most
 refine (sorterAdd_any W ps bs s hv ks L bm cols d M pre o _ lr (2 * (rows.length - (i+1))+mm) ((rows.length - (i+1))+j) v rows[i] h1 (h4.mono (by omega) (by omega)) (by rw [h2,hlen]) hrow (by rw [hlen,e1]; exact hok.ok i hi) (hok.able _ (List.getElem_mem _)) (by omega) (by omega) (by omega)).mono ?_
 rintro e W' ⟨rfl,s',hv',L',d',M',pre',o',lr',p1,p2,p3,p4,p5⟩
 rw [hlen] at p1 p2
 rw [<- recsOf_take rows i hi] at p1
 have hbm:bm < W.heap.size:=h1.sb.runs.pd.lt bm (by simp)
 exact ⟨rfl,⟨s',hv',L',d',M',pre',o',lr',p1,hhi.sub p5 (Nat.le_of_lt hbm),fun k hk=>(p5 k hk).elim (hND k) (fun e=>.inl (Nat.le_trans hN e)),p2.came,Cst.same (s:={ s with came:=i+1 }) ⟨h3.bx,h3.blk,h3.count,h3.fan,h3.most,h3.mg,h3.given⟩ p2,p3⟩,_,p4,h1.sb.ownF,hhi,hND⟩
theorem addSt_end {N:Nat} {D:List Nat} {W:World} {ps bs bx bm blk count fan most cols m j j2 P:Nat} {ks:List K} {rows:List (List V)} (h:AddSt N D W ps bs bx bm blk count fan most cols ((P * (rows.length+1)+m)+1) j ks rows rows.length) (hok:RowsOK blk cols ks rows) (hP:1000000000 <= P+j) (hPj:P+j2 <= j) (hPs:P <= 900000) (hf:2 <= fan) (hfs:fan <= 1000000) (hc1:1 <= cols) :
  Calls Tryz.prog 136 #[.pointer (some ⟨ps,0,none⟩)] W fun e W'=>e=.returned (.tuple #[]) /\ (∃ Fm,SOut W' ps bx bm blk cols count m j2 ks (recsOf rows) [] Fm /\ Fm≠[] /\ ∀ k∈Fm,N <= k \/ k∈D) /\ OwnA bm N D W W':=by
 obtain ⟨s,hv,L,d,M,pre,o,lr,h1,hhi,hND,h2,h3,h4⟩:=h.st
 have hl:=recsOf_len rows
 have ht:(recsOf rows).take rows.length=recsOf rows:=List.take_of_length_le (by omega)
 rw [ht] at h1
 have e1:=h3.fan
 have hLl:L.length <= (recsOf rows).length:=by
  have:=h1.lists.perm.length_eq
  simp only [List.length_append,List.length_map] at this
  omega
 have hfew:=h1.few
 have hab:∀ y∈recsOf rows,Able ks y.row:=fun y hy=>by
  obtain ⟨i,hi,rfl⟩:=recsOf_mem hy
  exact hok.able _ (List.getElem_mem _)
 refine (end_any W ps bs s hv ks L bm cols d M pre o (recsOf rows) lr P m j j2 h1 (by rw [hl]; exact h4.mono (by omega) (by omega)) hP hPj hPs (by omega) (by omega) hc1 hab h3.given h3.mg (by omega) hhi).mono ?_
 rintro e W' ⟨rfl,hE⟩
 obtain ⟨Fm,this,hF1,hF2⟩:=hE.st
 rw [h3.bx,h3.blk,h3.count] at this
 exact ⟨rfl,⟨Fm,this,hF1,fun k hk=>hND k (hF2 k hk)⟩,_,hE.touch,h1.sb.ownF,hhi,hND⟩
def Odd (ob:Obj):Prop:=(∀ cs t f,ob≠.cells cs t f) /\ ∀ es c,ob≠.map es c
theorem odd_loop (r:Loop):Odd (.loop r):=⟨fun _ _ _ h=>(by cases h),fun _ _ h=>(by cases h)⟩
theorem odd_deferred (ds:Option (List Deferred)):Odd (.deferred ds):=⟨fun _ _ _ h=>(by cases h),fun _ _ h=>(by cases h)⟩
def KeepT:List TypeId:=[194,117,9,223,307,331,305,241,228,73,85,264,310]
def SpG:List TypeId:=[260,302,263,83]
def AllT:List TypeId:=[83,260,302,263,194,117,9,223,307,331,305,241,228,73,85,264,310]
structure Guard (T:List TypeId) (B:Nat) (W W':World):Prop where
 size:W.heap.size <= W'.heap.size
 cells:∀ t,t∈T -> KeepTag t W W'
 maps:∀ (k:Nat) (es:Array MapEntry) (c:Nat),W.heap[k]?=some (.map es c) -> W'.heap[k]?=some (.map es c)
 others:∀ (k:Nat) (ob:Obj),B <= k -> W.heap[k]?=some ob -> Odd ob -> W'.heap[k]?=some ob
theorem Guard.refl (T:List TypeId) (B:Nat) (W:World):Guard T B W W:=⟨Nat.le_refl _,fun _ _ _ _ _ h=>h,fun _ _ _ h=>h,fun _ _ _ h _=>h⟩
theorem Guard.mono {T T':List TypeId} {B B':Nat} {W W':World} (h:Guard T B W W') (hT:∀ t∈T',t∈T) (hB:B <= B'):Guard T' B' W W':=⟨h.size,fun t ht=>h.cells t (hT t ht),h.maps,fun k ob hk=>h.others k ob (Nat.le_trans hB hk)⟩
theorem Guard.trans {T:List TypeId} {B:Nat} {X Y Z:World} (h:Guard T B X Y) (k:Guard T B Y Z):Guard T B X Z:=
 ⟨Nat.le_trans h.size k.size,fun t ht=>(h.cells t ht).trans (k.cells t ht),fun i es c e=>k.maps i es c (h.maps i es c e),fun i ob hB e ho=>k.others i ob hB (h.others i ob hB e ho) ho⟩
theorem Guard.putObj {T:List TypeId} {B:Nat} {W:World} {l:Nat} {r r':Loop} (h:W.heap[l]?=some (.loop r)) (hl:l < B):Guard T B W (W.putObj l (.loop r')):=by
 refine ⟨by simp,fun t _ k cs f e=>?_,fun k es c e=>?_,fun k ob hB e _=>?_⟩
 ·rw [World.putObj_heap_other (fun e'=>by subst e'; rw [h] at e; cases e)]; exact e
 ·rw [World.putObj_heap_other (fun e'=>by subst e'; rw [h] at e; cases e)]; exact e
 ·rw [World.putObj_heap_other (by omega)]; exact e
theorem Guard.putOdd {T:List TypeId} {B:Nat} {W:World} {l:Nat} {ob ob':Obj} (h:W.heap[l]?=some ob) (ho:Odd ob) (hl:l < B):Guard T B W (W.putObj l ob'):=by
 refine ⟨by simp,fun t _ k cs f e=>?_,fun k es c e=>?_,fun k o2 hB e _=>?_⟩
 ·rw [World.putObj_heap_other (fun e'=>by subst e'; rw [h] at e; cases e; exact ho.1 _ _ _ rfl)]; exact e
 ·rw [World.putObj_heap_other (fun e'=>by subst e'; rw [h] at e; cases e; exact ho.2 _ _ rfl)]; exact e
 ·rw [World.putObj_heap_other (by omega)]; exact e
structure KeepG (T:List TypeId) (X:List Nat) (B:Nat) (F:List Nat) (W W':World):Prop where
 guard:Guard (KeepT++T) B W W'
 spec:∀ t∈SpG,∀ k∈F,∀ cs f,W.heap[k]?=some (.cells cs t f) -> W'.heap[k]?=some (.cells cs t f)
 blocks:∀ k∈X,∀ ob,W.heap[k]?=some ob -> W'.heap[k]?=some ob
theorem KeepG.trans {T:List TypeId} {A:List Nat} {B:Nat} {F:List Nat} {X Y Z:World} (h:KeepG T A B F X Y) (k:KeepG T A B F Y Z):KeepG T A B F X Z:=⟨h.guard.trans k.guard,fun t ht i hi cs f e=>k.spec t ht i hi cs f (h.spec t ht i hi cs f e),fun i hi ob e=>k.blocks i hi ob (h.blocks i hi ob e)⟩
theorem Guard.g {T:List TypeId} {X:List Nat} {B:Nat} {W W':World} (h:Guard (AllT++T) B W W') (hX:∀ k∈X,∀ ob,W.heap[k]?=some ob -> W'.heap[k]?=some ob) (F:List Nat):KeepG T X B F W W':=
 ⟨h.mono (fun t ht=>by
  rcases List.mem_append.1 ht with ht | ht
  ·exact List.mem_append_left _ ((by decide:∀ t∈KeepT,t∈AllT) t ht)
  ·exact List.mem_append_right _ ht) (Nat.le_refl _),fun t ht k _ cs f e=>h.cells t (List.mem_append_left _ ((by decide:∀ t∈SpG,t∈AllT) t ht)) k cs f e,hX⟩
theorem KeepG.mono {T T':List TypeId} {X X':List Nat} {B B':Nat} {F:List Nat} {W W':World} (h:KeepG T X B F W W') (hT:∀ t∈T',t∈T) (hX:∀ k∈X',k∈X) (hB:B <= B'):KeepG T' X' B' F W W':=
 ⟨h.guard.mono (fun t ht=>by
  rcases List.mem_append.1 ht with ht | ht
  ·exact List.mem_append_left _ ht
  ·exact List.mem_append_right _ (hT t ht)) hB,h.spec,fun k hk=>h.blocks k (hX k hk)⟩
structure OwnS (T:List TypeId) (lo B:Nat) (W W':World):Prop where
 size:W.heap.size <= W'.heap.size
 cells:∀ t,t∉T -> t≠5 -> KeepTag t W W'
 others:∀ (k:Nat) (ob:Obj),k < B -> W.heap[k]?=some ob -> Odd ob -> W'.heap[k]?=some ob
 low:Low lo W W'
structure OwnG (T:List TypeId) (lo N:Nat) (D F:List Nat) (W W':World):Prop where
 size:W.heap.size <= W'.heap.size
 cells:∀ t,t∉OwnT -> t≠5 -> ∀ k cs f,(k < N \/ t∉T) -> W.heap[k]?=some (.cells cs t f) -> W'.heap[k]?=some (.cells cs t f)
 spec:∀ t∈SpG,∀ k cs f,((F=[] /\ k < N /\ k∉D) \/ (F≠[] /\ k∉F)) -> W.heap[k]?=some (.cells cs t f) -> W'.heap[k]?=some (.cells cs t f)
 others:∀ (k:Nat) (ob:Obj),k < N -> W.heap[k]?=some ob -> Odd ob -> W'.heap[k]?=some ob
 low:Low lo W W'
theorem OwnG.mono {T T':List TypeId} {lo N N':Nat} {D F:List Nat} {X Y:World} (h:OwnG T lo N D F X Y) (hT:∀ t∈T,t∈T') (hN:N' <= N):OwnG T' lo N' D F X Y:=
 ⟨h.size,fun t h1 h2 i cs f h3 e=>h.cells t h1 h2 i cs f (h3.imp (fun x=>Nat.lt_of_lt_of_le x hN) (fun x y=>x (hT t y))) e,fun t h1 i cs f h2 e=>h.spec t h1 i cs f (h2.imp (fun x=>⟨x.1,Nat.lt_of_lt_of_le x.2.1 hN,x.2.2⟩) id) e,fun i ob hB e ho=>h.others i ob (Nat.lt_of_lt_of_le hB hN) e ho,h.low⟩
theorem OwnG.tag {T:List TypeId} {lo N:Nat} {D F:List Nat} {W W':World} (h:OwnG T lo N D F W W') {t:TypeId} (h1:t∉OwnT) (h2:t≠5) (h3:t∉T):KeepTag t W W':=fun k cs f e=>h.cells t h1 h2 k cs f (.inr h3) e
theorem Touch.g {W W':World} (h:Touch [] W W') (T:List TypeId) (lo N:Nat) (D F:List Nat):OwnG T lo N D F W W':=
 ⟨h.size,fun t _ _ k cs f _ e=>h.tag0 t k cs f e,fun t _ k cs f _ e=>h.tag0 t k cs f e,fun k ob _ e _=>by rw [h.block k (Array.getElem?_eq_some_iff.1 e).1 (by simp)]; exact e,h.low (Hi.nil lo)⟩
theorem OwnA.g {lo N:Nat} {D:List Nat} {W W':World} (h:OwnA lo N D W W') (T:List TypeId):OwnG T lo N D [] W W':=
 ⟨h.step.size,fun t h1 h2 k cs f _ e=>h.step.tag h1 h2 k cs f e,fun t ht k cs f h2 e=>by
  obtain ⟨F,t1,_,_,t4⟩:=h
  rcases h2 with ⟨_,a,b⟩ | ⟨a,_⟩
  ·rw [t1.block k (Array.getElem?_eq_some_iff.1 e).1 (fun hk=>?_) (fun _ cs' f' e'=>?_)]
   ·exact e
   ·rcases t4 k hk with c | c
    ·omega
    ·exact b c
   ·rw [e] at e'
    simp only [Option.some.injEq,Obj.cells.injEq] at e'
    rw [e'.2.1] at ht
    exact absurd ht (by decide)
  ·exact absurd rfl a,fun k ob _ e ho=>h.step.other e ho.1 ho.2,h.step.low⟩
theorem OwnM.g {lo:Nat} {F:List Nat} {W W':World} (h:OwnM lo F W W') (hF:F≠[]) (T:List TypeId) (N:Nat) (D:List Nat):OwnG T lo N D F W W':=
 ⟨h.step.size,fun t h1 h2 k cs f _ e=>h.step.tag h1 h2 k cs f e,fun t ht k cs f h2 e=>by
  rcases h2 with ⟨a,_⟩ | ⟨_,b⟩
  ·exact absurd a hF
  ·by_cases h83:t=83
   ·subst h83; exact h.step.tag (by decide) (by decide) k cs f e
   ·exact h.spec e ((by decide:∀ t∈SpG,t≠83 -> t∈SpT) t ht h83) b,fun k ob _ e ho=>h.step.other e ho.1 ho.2,h.step.low⟩
theorem OwnG.putObj {T:List TypeId} {lo N:Nat} {D F:List Nat} {W:World} {l:Nat} {ob ob':Obj} (h:W.heap[l]?=some ob) (ho:Odd ob) (hl:N <= l) (hlo:lo <= l):OwnG T lo N D F W (W.putObj l ob'):=by
 have hk:∀ (k:Nat) (cs:Array Value) (t:TypeId) (f:Nat × Nat),W.heap[k]?=some (Obj.cells cs t f) -> (W.putObj l ob').heap[k]?=some (Obj.cells cs t f):=fun k cs t f e=>by
  rw [World.putObj_heap_other (fun e'=>by subst e'; rw [h] at e; cases e; exact ho.1 _ _ _ rfl)]; exact e
 exact ⟨by simp,fun t _ _ k cs f _ e=>hk k cs t f e,fun t _ k cs f _ e=>hk k cs t f e,fun k o2 hB e _=>by rw [World.putObj_heap_other (by omega)]; exact e,⟨rfl,rfl,rfl,by simp,fun k hk _=>World.putObj_heap_other (by omega)⟩⟩
theorem OwnS.putObj {T:List TypeId} {lo B:Nat} {W:World} {l:Nat} {ob ob':Obj} (h:W.heap[l]?=some ob) (ho:Odd ob) (hl:B <= l) (hlo:lo <= l):OwnS T lo B W (W.putObj l ob'):=by
 refine ⟨by simp,fun t _ _ k cs f e=>?_,fun k o2 hB e _=>?_,⟨rfl,rfl,rfl,by simp,fun k hk _=>World.putObj_heap_other (by omega)⟩⟩
 ·rw [World.putObj_heap_other (fun e'=>by subst e'; rw [h] at e; cases e; exact ho.1 _ _ _ rfl)]; exact e
 ·rw [World.putObj_heap_other (by omega)]; exact e
section
variable {W W':World} {B:Nat} {X:List Nat}
theorem KeepG.k {T:List TypeId} {F:List Nat} (h:KeepG T X B F W W'):Guard KeepT B W W':=h.guard.mono (fun _ ht=>List.mem_append_left T ht) (Nat.le_refl _)
theorem PD.guard {bx bm:Nat} {d:DS} {M:List PF} (h:PD W bx bm d M) (g:Guard KeepT B W W'):PD W' bx bm d M:=by
 obtain ⟨es,c,hb,he⟩:=h.map
 refine ⟨g.cells 117 (by decide) _ _ _ h.disk,⟨es,c,g.maps _ _ _ hb,he⟩,h.files,fun m hm=>?_,h.nodup⟩
 obtain ⟨h1,h2⟩:=h.rows m hm
 refine ⟨h1,?_⟩
 rcases h2 with h2 | ⟨k,cap,cur,e,hb,hh,rest⟩
 ·exact .inl h2
 ·exact .inr ⟨k,cap,cur,e,hb,g.cells 9 (by decide) _ _ _ hh,rest⟩
theorem RunsSt.guard {bx bm blk cols:Nat} {d:DS} {M:List PF} {pre:List RI} (h:RunsSt W bx bm blk cols d M pre none) (g:Guard KeepT B W W'):RunsSt W' bx bm blk cols d M pre none:=
 { h with
  pd:=h.pd.guard g
  done:=fun x hx=>by
   obtain ⟨⟨h1,h2,h3⟩,h4⟩:=h.done x hx
   exact ⟨⟨g.cells 223 (by decide) _ _ _ h1,h2,h3⟩,h4⟩
  opn:=fun x hx=>by cases hx }
theorem POwn.guard {v:Value} {R:List RI} (h:POwn W v R) (g:Guard KeepT B W W'):POwn W' v R:=by
 obtain ⟨h1,h2⟩:=h
 refine ⟨h1,?_⟩
 rcases h2 with h2 | ⟨k,cap,cur,e,hb,hh,rest⟩
 ·exact .inl h2
 ·exact .inr ⟨k,cap,cur,e,hb,g.cells 194 (by decide) _ _ _ hh,rest⟩
theorem HeapSt.guard {T:List TypeId} {F:List Nat} {ph:Nat} {v:Value} {bs ps:Nat} {ks:List K} {L:List EV} (h:HeapSt W ph v bs ps ks L) (k:KeepG T X B F W W') (h1:ps∈F) (h2:∀ i∈heapF ph v,i∈F):HeapSt W' ph v bs ps ks L:=by
 obtain ⟨cs,f,vk,k1,k2,k3⟩:=h.ctx.keys
 have g:=k.guard.mono (fun _ ht=>List.mem_append_left T ht) (Nat.le_refl _)
 refine ⟨k.spec 302 (by decide) _ (h2 ph (by simp [heapF])) _ _ h.head,?_,⟨g.cells 228 (by decide) _ _ _ h.ctx.s,cs,f,vk,k.spec 260 (by decide) _ h1 _ _ k1,k2,Sl3.keep k3 (g.cells 73 (by decide))⟩,fun x hx=>⟨Sl3.keep (h.rows x hx).1 (g.cells 85 (by decide)),(h.rows x hx).2⟩,h.ok⟩
 obtain ⟨a1,a2⟩:=h.items
 refine ⟨a1,?_⟩
 rcases a2 with a2 | ⟨i,cap,cur,e,hb,hh,rest⟩
 ·exact .inl a2
 ·exact .inr ⟨i,cap,cur,e,hb,k.spec 263 (by decide) i (h2 i (by rw [e]; simp [heapF,Value.ownBlock])) _ _ hh,rest⟩
theorem OutA.guard {T:List TypeId} {ps bs:Nat} {s:SC} {hv:Value} {ks:List K} {L:List EV} {bm cols:Nat} {d:DS} {M:List PF} {rows out:List Rec} (h:OutA W ps bs s hv ks L bm cols d M rows out) (g:KeepG T X B (ps::heapF s.ph hv) W W'):OutA W' ps bs s hv ks L bm cols d M rows out:=
 ⟨⟨g.spec 260 (by decide) _ (by simp) _ _ h.sb.sorter,h.sb.heap.guard g (by simp) (fun i hi=>List.mem_cons_of_mem _ hi),h.sb.held,h.sb.ents,h.sb.runs.guard g.k,h.sb.own.guard g.k⟩,h.give,h.mg,h.given,h.few,h.hi⟩
theorem KeepG.mg {T:List TypeId} {F:List Nat} (k:KeepG T X B F W W') {ps:Nat} {s:SC} (hS:SorterAt W ps s) (hp:ps∈F):MgKeep ps W W':=by
 have g:=k.k
 exact ⟨g.cells _ (by decide),g.cells _ (by decide),g.cells _ (by decide),g.cells _ (by decide),g.cells _ (by decide),g.cells _ (by decide),g.cells _ (by decide),g.cells _ (by decide),KeepKey.of hS (k.spec 260 (by decide) _ hp _ _ hS) rfl⟩
theorem OutB.guard {T:List TypeId} {lo ps:Nat} {s:SC} {ks:List K} {bm cols:Nat} {d:DS} {M:List PF} {pre:List RI} {pm ph:Nat} {hv:Value} {bf:Nat} {L:List CU} {rows out:List Rec} (h:OutB W lo ps s ks bm cols d M pre pm ph hv bf L rows out) (g:KeepG T X B [ps] W W'):OutB W' lo ps s ks bm cols d M pre pm ph hv bf L rows out:=
 ⟨⟨g.spec 260 (by decide) _ (by simp) _ _ h.sm.sorter,Sl3.keep h.sm.keys (g.k.cells 73 (by decide)),h.sm.runs.guard g.k,h.sm.own.keep (g.k.cells 194 (by decide))⟩,h.st.keep (g.mg h.sm.sorter (by simp)),h.mrg,h.mg,h.given,h.few,h.last,h.c1,h.hi⟩
theorem SOut.guard {T:List TypeId} {ps bx bm blk cols count m j:Nat} {ks:List K} {rows out:List Rec} {Fm:List Nat} (h:SOut W ps bx bm blk cols count m j ks rows out Fm) (g:KeepG T X B Fm W W'):SOut W' ps bx bm blk cols count m j ks rows out Fm:=by
 obtain ⟨s,d,M,e1,e2,e3,hl,hc⟩:=h.st
 refine ⟨s,d,M,e1,e2,e3,hl,?_⟩
 rcases hc with ⟨bs,hv,L,rfl,hA⟩ | ⟨rfl,lo,pre,pm,ph,hv,bf,L,hB⟩
 ·exact .inl ⟨bs,hv,L,rfl,hA.guard g⟩
 ·exact .inr ⟨rfl,lo,pre,pm,ph,hv,bf,L,hB.guard g⟩
theorem SEnd.guard {ps bx bm blk cols m j:Nat} (h:SEnd W ps bx bm blk cols m j) (g:Guard AllT B W W'):SEnd W' ps bx bm blk cols m j:=by
 obtain ⟨s,d,M,pre,h1,h2,h3,h4,h5,h6⟩:=h.st
 refine ⟨h.hi,s,d,M,pre,h1,h2,g.cells 260 (by decide) _ _ _ h3,h4.guard (g.mono (by decide) (Nat.le_refl _)),?_,h6⟩
 rcases h5 with h5 | h5
 ·exact .inl (h5.keep (g.cells 194 (by decide)))
 ·exact .inr h5
end
theorem Touch.putObj {W:World} (l:Nat) (ob:Obj):Touch [l] W (W.putObj l ob):=⟨rfl,rfl,rfl,by simp,fun k _ hn=>World.putObj_heap_other (by simpa using hn)⟩
theorem AddSt.putObj {N:Nat} {D:List Nat} {W:World} {ps bs bx bm blk count fan most cols mm j:Nat} {ks:List K} {rows:List (List V)} {i l:Nat} {ob ob':Obj} (h:AddSt N D W ps bs bx bm blk count fan most cols mm j ks rows i) (hl:W.heap[l]?=some ob) (ho:Odd ob):AddSt N D (W.putObj l ob') ps bs bx bm blk count fan most cols mm j ks rows i:=by
 obtain ⟨s,hv,L,d,M,pre,o,lr,h1,h2⟩:=h.st
 have nt:∀ t,NoTag t W [l]:=fun t k hk cs f e=>by
  rw [List.mem_singleton.1 hk,hl] at e
  cases e
  exact ho.1 _ _ _ rfl
 refine ⟨s,hv,L,d,M,pre,o,lr,h1.quiet (Touch.putObj l ob') (fun k hk e=>?_) (nt _) (nt _) (nt _) (nt _),h2⟩
 rw [List.mem_singleton.1 hk] at e
 rcases h1.sb.ownF l e with ⟨cs,t,f,e1,_⟩ | ⟨es,c,e1⟩
 ·rw [hl] at e1; cases e1; exact ho.1 _ _ _ rfl
 ·rw [hl] at e1; cases e1; exact ho.2 _ _ rfl
end Go.Proofs.YtjoinhljdbljaaaGreat
namespace Go.Proofs.YtjoinhljdbljaaaGreat
open Go.RowKit
attribute [local go_sem] Oper.semAt_some
def GStep {σ:Type} (step:σ -> Value -> World -> σ -> Prop):List Nat × σ -> Value -> World -> List Nat × σ -> Prop:=fun s v W s'=>(s.1≠[] /\ ∀ k∈s.1,k < W.heap.size) /\ s'.1=s.1 /\ step s.2 v W s'.2
def GMov {σ:Type} (s0:σ) (N:Nat) (D:List Nat):List Nat × σ -> List Nat × σ -> Prop:=fun s s'=>s.1=[] /\ s.2=s0 /\ s'.2=s0 /\ s'.1≠[] /\ ∀ k∈s'.1,N <= k \/ k∈D
def SeqG {σ:Type} (gf:Nat) (lb:Array Value) (s0:σ) (fin:σ -> World -> Prop) (step:σ -> Value -> World -> σ -> Prop) (T K:List TypeId) (X:List Nat) (lo N:Nat) (D:List Nat) (W0:World):Prop:=
 SeqC gf lb ([],s0) (fun s W=>(s.1≠[] /\ ∀ k∈s.1,k < W.heap.size) /\ fin s.2 W) (GStep step) (GMov s0 N D) (fun s=>OwnG T lo N D s.1) (fun s=>KeepG K X N s.1) W0
def Src (T:List TypeId) (bm N:Nat) (D:List Nat) (wc:World) (gf:Nat) (lb:Array Value) (ps:Nat) (Fin:World -> Prop):Prop:=
 ∃ (σ:Type) (s0:σ) (fin:σ -> World -> Prop) (step:σ -> Value -> World -> σ -> Prop) (mov:σ -> σ -> Prop) (Own Keep:σ -> World -> World -> Prop) (I:σ -> World -> Prop),
  (∀ rec,SeqC gf lb s0 fin step mov Own Keep ((wc.alloc (.deferred (some []))).alloc (.loop rec))) /\
  (∀ s A B k ob,Own s A B -> A.heap[k]?=some ob -> ((∃ r,ob=.loop r) \/ ∃ ds,ob=.deferred ds) -> k <= wc.heap.size+1 -> B.heap[k]?=some ob) /\
  (∀ s A B C,Keep s A B -> Keep s B C -> Keep s A C) /\ (∀ s W r r',W.heap[wc.heap.size+1]?=some (.loop r) -> Keep s W (W.putObj (wc.heap.size+1) (.loop r'))) /\
  (∀ s A B,I s A -> Own s A B -> I s B /\ OwnG T bm N D [] A B) /\ (∀ s s' A,I s A -> mov s s' -> I s' A) /\
  (∀ s W r r',I s W -> W.heap[wc.heap.size+1]?=some (.loop r) -> I s (W.putObj (wc.heap.size+1) (.loop r'))) /\
  (∀ s v s' W r r',step s v W s' -> W.heap[wc.heap.size+1]?=some (.loop r) -> step s v (W.putObj (wc.heap.size+1) (.loop r')) s') /\
  (∀ rec,I s0 ((wc.alloc (.deferred (some []))).alloc (.loop rec))) /\
  (∀ s v s' W,I s W -> step s v W s' -> (∃ o n c,v=.slice o n c) /\ Calls Tryz.prog 135 #[.pointer (some ⟨ps,0,none⟩),v] W fun e W'=>e=.returned (.tuple #[]) /\ I s' W' /\ Keep s W W' /\ OwnG T bm N D [] W W' /\ ∀ (k:Nat) (ob:Obj),W.heap[k]?=some ob -> Odd ob -> W'.heap[k]?=some ob) /\
  (∀ s W r r',fin s W -> I s W -> W.heap[wc.heap.size+1]?=some (.loop r) -> Fin (W.putObj (wc.heap.size+1) (.loop r')))
structure SrtCtx (W:World) (bq bk bc bl b q:Nat) (tv wv kv sv:Value) (bx bm blk fan bud count cols:Nat) (ks:List K) (vs:List Value) (rows:List (List V)) (d:DS) (M:List PF):Prop where
 hq:W.heap[bq]?=some (.cells #[.pointer (some ⟨q,0,none⟩)] 159 (0,0))
 hQ:W.heap[q]?=some (.cells #[tv,.int .i64 (blk:Int),.int .i64 (fan:Int),.int .i64 (bud:Int),.pointer (some ⟨bx,0,none⟩),wv] 162 (0,0))
 hk:W.heap[bk]?=some (.cells #[kv] 74 (0,0))
 keys:KeysAt W kv ks
 hc:W.heap[bc]?=some (.cells #[.int .i64 (count:Int)] 3 (0,0))
 hl:W.heap[bl]?=some (.cells #[.func (.func 162) #[] #[.pointer (some ⟨b,0,none⟩)]] 165 (0,0))
 hb:W.heap[b]?=some (.cells #[sv] 36 (0,0))
 list:LAt W sv vs
 len:vs.length=rows.length
 rowsAt:∀ i (h:i < vs.length) (h':i < rows.length),RowAt W vs[i] rows[i]
 pd:PD W bx bm d M
 ok:DiskOK d
 oks:RowsOK blk cols ks rows
 b1:16 <= blk
 b2:blk <= 4096
 b3:(blk:Int) <= d.block
 c1:1 <= cols
 c2:cols <= 1000
 bud1:4 * blk <= bud
 bud2:bud <= 9223372036854775807
 fan1:2 <= fan
 fan2:fan <= 1000000
 few:rows.length <= 100000
 cnt:rows.length <= count
 hi:Hi bm (diskF bx bm M)
theorem KeysAt.slice {w:World} {v:Value} {ks:List K} (h:KeysAt w v ks):∃ o n c,v=.slice o n c:=by
 obtain ⟨o,c,e⟩:=h.shape
 exact ⟨_,_,_,e⟩
theorem SOut.part {w:World} {ps bx bm blk cols count m j:Nat} {ks:List K} {rows out:List Rec} {Fm:List Nat} (h:SOut w ps bx bm blk cols count m j ks rows out Fm):Srt ks out /\ ∃ rest,(out++rest).Perm rows:=by
 obtain ⟨s,d,M,e1,e2,e3,hl,hc⟩:=h.st
 rcases hc with ⟨bs,hv,L,_,hA⟩ | ⟨_,lo,pre,pm,ph,hv,bf,L,hB⟩
 ·exact ⟨hA.give.sorted,_,hA.give.perm⟩
 ·exact ⟨hB.mrg.sorted,_,hB.mrg.perm⟩
theorem SOut.lt {w:World} {ps bx bm blk cols count m j:Nat} {ks:List K} {rows out:List Rec} {Fm:List Nat} (h:SOut w ps bx bm blk cols count m j ks rows out Fm):∀ k∈Fm,k < w.heap.size:=fun k hk=>by
 obtain ⟨s,d,M,e1,e2,e3,hl,hc⟩:=h.st
 rcases hc with ⟨bs,hv,L,rfl,hA⟩ | ⟨rfl,lo,pre,pm,ph,hv,bf,L,hB⟩
 ·rcases List.mem_cons.1 hk with rfl | hk
  ·exact (Array.getElem?_eq_some_iff.1 hA.sb.sorter).1
  ·rcases List.mem_cons.1 hk with rfl | hk
   ·exact (Array.getElem?_eq_some_iff.1 hA.sb.heap.head).1
   ·obtain ⟨cs,f,hc⟩:=hA.sb.heap.items.tag k (by simpa using hk)
    exact (Array.getElem?_eq_some_iff.1 hc).1
 ·rw [List.mem_singleton.1 hk]
  exact (Array.getElem?_eq_some_iff.1 hB.sm.sorter).1
theorem SorterAt.keep {w w':World} {ps:Nat} {s:SC} (h:SorterAt w ps s) (k:KeepTag 260 w w'):SorterAt w' ps s:=k _ _ _ h
theorem HeadAt.keep {w w':World} {ph:Nat} {v:Value} {bs:Nat} (h:HeadAt w ph v bs) (k:KeepTag 302 w w'):HeadAt w' ph v bs:=k _ _ _ h
section
variable {W0:World} {bq bk bc bl b q:Nat} {tv wv kv sv:Value} {bx bm blk fan bud count cols:Nat} {ks:List K} {vs:List Value} {rows:List (List V)} {d:DS} {M:List PF}
theorem SrtCtx.add0 (h:SrtCtx W0 bq bk bc bl b q tv wv kv sv bx bm blk fan bud count cols ks vs rows d M) {mm j:Nat} (hl:Left d (2 * rows.length+mm) (rows.length+j)) {wx:World} {ps bs ph:Nat} (p4:SorterAt wx ps (SC.new bx blk fan bud count kv ph)) (p5:HeadAt wx ph (.slice none 0 0) bs) (p6:wx.heap[bs]?=some (.cells #[.pointer (some ⟨ps,0,none⟩)] 228 (0,0))) (t:Touch [] W0 wx) (hps:W0.heap.size <= ps) (hph:W0.heap.size <= ph):AddSt W0.heap.size (diskF bx bm M) wx ps bs bx bm blk count (min fan (bud / 2 / blk)) (bud / 2) cols mm j ks rows 0:=by
 have hS:=spSt_new (cols:=cols) p4 p5 p6 t h.keys h.pd h.ok h.b1 h.b2 h.b3 h.c2 ⟨0,[]⟩
 have hbm:bm < W0.heap.size:=h.pd.lt bm (by simp)
 have hcase:∀ k∈sbF ps (SC.new bx blk fan bud count kv ph) (.slice none 0 0) bm M ([]++(none:Option RI).toList),W0.heap.size <= k \/ k∈diskF bx bm M:=fun k hk=>by
  simp only [sbF,heapF,runsF,SC.new,Value.ownBlock,Option.toList_none,List.append_nil,List.map_nil,List.nil_append,List.mem_cons,List.mem_append,List.not_mem_nil,or_false] at hk
  rcases hk with rfl | rfl | hk
  ·exact .inl hps
  ·exact .inl hph
  ·exact .inr hk
 exact ⟨SC.new bx blk fan bud count kv ph,_,[],d,M,[],none,_,by simpa using hS,fun k hk=>(hcase k hk).elim (fun e=>by omega) (h.hi k),hcase,rfl,⟨rfl,rfl,rfl,rfl,rfl,rfl,rfl⟩,by simpa using hl⟩
end
theorem close_deferredIn (w:World) (ps bx bm blk cols m j n:Nat) (u:FrameMode) (h:SEnd w ps bx bm blk cols m j):CallsDIn Fence.wide n Tryz.prog 134 #[.pointer (some ⟨ps,0,none⟩)] u w fun e u' w'=>u'=u /\ e=.returned (.tuple #[]) /\ Closed w w' bx bm blk cols m j:=by
 obtain ⟨s,hS,hD⟩:=h.delete
 obtain ⟨c0,c1,c2,c3,c4,c5,c6,c7,c8,c9,c10,c11,c12,c13,c14,c15,cf⟩:=hS.cell
 clear h hS cf
 refine callsDIn_of_wp Tryz.func134 rfl trivial (wpIn_wide.2 ?_)
 simp only [Tryz.ntmps134,List.size_toArray,List.length_cons,List.length_nil,Nat.reduceAdd,Nat.reduceSub,Array.replicate_succ,Array.replicate_zero,List.push_toArray,List.append_toArray,List.nil_append,List.cons_append]
 go_wp2_with (go_at_call 166; refine hD.mono ?_; rintro e w1 ⟨rfl,h1⟩)
 go_end0
 exact ⟨rfl,h1⟩
structure SrtBox (W:World) (bq bk bc bl q:Nat) (tv wv kv:Value) (gf:Nat) (lb:Array Value) (bx blk fan bud count:Nat):Prop where
 hq:W.heap[bq]?=some (.cells #[.pointer (some ⟨q,0,none⟩)] 159 (0,0))
 hQ:W.heap[q]?=some (.cells #[tv,.int .i64 (blk:Int),.int .i64 (fan:Int),.int .i64 (bud:Int),.pointer (some ⟨bx,0,none⟩),wv] 162 (0,0))
 hk:W.heap[bk]?=some (.cells #[kv] 74 (0,0))
 keys:∃ o n c,kv=.slice o n c
 hc:W.heap[bc]?=some (.cells #[.int .i64 (count:Int)] 3 (0,0))
 hl:W.heap[bl]?=some (.cells #[.func (.func gf) #[] lb] 165 (0,0))
 b1:1 <= blk
 bud2:bud <= 9223372036854775807
def FinEnd (N:Nat) (D:List Nat) (ps bx bm blk count cols m j:Nat) (ks:List K) (Q:List (List V) -> Prop) (W:World):Prop:=
 ∃ rows,Q rows /\ rows.length <= 100000 /\ rows.length <= count /\ Calls Tryz.prog 136 #[.pointer (some ⟨ps,0,none⟩)] W fun e W'=>e=.returned (.tuple #[]) /\ (∃ Fm,SOut W' ps bx bm blk cols count m j ks (recsOf rows) [] Fm /\ Fm≠[] /\ ∀ k∈Fm,N <= k \/ k∈D) /\ OwnA bm N D W W'
def SStep (ks:List K) (Q:List (List V) -> Prop) (out:List Rec) (v:Value) (W:World) (out':List Rec):Prop:=
 ∃ x rows,out'=out++[x] /\ Q rows /\ RowAt W v x.row /\ Srt ks out' /\ ∃ rest,(out'++rest).Perm (recsOf rows)
def SFin (bx bm blk cols m j:Nat) (ks:List K) (Q:List (List V) -> Prop) (out:List Rec) (W:World):Prop:=
 (∃ rows,Q rows /\ out.Perm (recsOf rows)) /\ Srt ks out /\ ∃ d' M',RunsSt W bx bm blk cols d' M' [] none /\ Left d' m j
theorem sorted_gen (T:List TypeId) (W0:World) (bq bk bc bl q:Nat) (tv wv kv:Value) (gf:Nat) (lb:Array Value) (bx bm blk fan bud count cols:Nat) (ks:List K) (Q:List (List V) -> Prop) (D:List Nat) (m j2:Nat) (h:SrtBox W0 bq bk bc bl q tv wv kv gf lb bx blk fan bud count) (eg:∀ args w,(callFunc gf args).run Tryz.prog w=.ok (.enter gf args) w) (h228:(228:TypeId)∉T) (hbm:bm < W0.heap.size)
  (hsrc:∀ wc ps bs ph,SorterAt wc ps (SC.new bx blk fan bud count kv ph) -> HeadAt wc ph (.slice none 0 0) bs -> wc.heap[bs]?=some (.cells #[.pointer (some ⟨ps,0,none⟩)] 228 (0,0)) -> Touch [] W0 wc -> W0.heap.size <= ps -> W0.heap.size <= ph -> Src T bm W0.heap.size D wc gf lb ps (FinEnd W0.heap.size D ps bx bm blk count cols m j2 ks Q)) :
  SeqG 132 #[.pointer (some ⟨bq,0,none⟩),.pointer (some ⟨bk,0,none⟩),.pointer (some ⟨bc,0,none⟩),.pointer (some ⟨bl,0,none⟩)] ([]:List Rec) (SFin bx bm blk cols m j2 ks Q) (SStep ks Q) T [] [] bm W0.heap.size D W0:=by
 intro l J hJ hM hY h0
 have HNEW:Hid (∀ W,Calls Tryz.prog 133 #[.agg #[.int .i64 (blk:Int),.int .i64 (fan:Int),.int .i64 (bud:Int)],.pointer (some ⟨bx,0,none⟩),kv,.int .i64 (count:Int)] W fun e w'=>∃ ps bs ph,e=.returned (.pointer (some ⟨ps,0,none⟩)) /\ Hid (W.heap.size <= ps /\ W.heap.size <= bs /\ W.heap.size <= ph /\ SorterAt w' ps (SC.new bx blk fan bud count kv ph) /\ HeadAt w' ph (.slice none 0 0) bs /\ w'.heap[bs]?=some (.cells #[.pointer (some ⟨ps,0,none⟩)] 228 (0,0))) /\ Touch [] W w'):=fun W=>by
  refine (sorterNew_any W bx blk fan bud count kv h.b1 h.bud2 h.keys).mono ?_
  rintro e w' ⟨ps,bs,ph,rfl,p1,p2,p3,p4,p5,p6,p7⟩
  exact ⟨ps,bs,ph,rfl,⟨p1,p2,p3,p4,p5,p6⟩,p7⟩
 have HADD:Hid (∀ wc ps bs ph,SorterAt wc ps (SC.new bx blk fan bud count kv ph) -> HeadAt wc ph (.slice none 0 0) bs -> wc.heap[bs]?=some (.cells #[.pointer (some ⟨ps,0,none⟩)] 228 (0,0)) -> Touch [] W0 wc -> W0.heap.size <= ps -> W0.heap.size <= ph -> Src T bm W0.heap.size D wc gf lb ps (FinEnd W0.heap.size D ps bx bm blk count cols m j2 ks Q)):=hsrc
 clear hsrc
 have c0:=boxOne h.hq
 have c1:=boxOne h.hk
 have c2:=boxOne h.hc
 have c3:=boxOne h.hl
 have hQ:=h.hQ
 have q1:W0.cell? ⟨q,1,none⟩=some (.int .i64 (blk:Int)):=by simp [World.cell?,hQ]
 have q2:W0.cell? ⟨q,2,none⟩=some (.int .i64 (fan:Int)):=by simp [World.cell?,hQ]
 have q3:W0.cell? ⟨q,3,none⟩=some (.int .i64 (bud:Int)):=by simp [World.cell?,hQ]
 have q4:W0.cell? ⟨q,4,none⟩=some (.pointer (some ⟨bx,0,none⟩)):=by simp [World.cell?,hQ]
 obtain ⟨ko,kn,kc,rfl⟩:=h.keys
 have n1:=(Array.getElem?_eq_some_iff.1 h.hq).1
 have n2:=(Array.getElem?_eq_some_iff.1 h.hk).1
 have n3:=(Array.getElem?_eq_some_iff.1 h.hc).1
 have n4:=(Array.getElem?_eq_some_iff.1 h.hl).1
 have n5:=(Array.getElem?_eq_some_iff.1 hQ).1
 clear hQ
 refine callsIn_wide.1 (callsIn_of_wp_marks (n:=0) Tryz.func132 rfl trivial (wpIn_wide.2 ?_))
 simp only [Tryz.ntmps132,List.size_toArray,List.length_cons,List.length_nil,Nat.reduceAdd,Nat.reduceSub,Array.replicate_succ,Array.replicate_zero,List.push_toArray,List.append_toArray,List.nil_append,List.cons_append]
 go_wp2
 go_cut [6] from 7 (fun a wx=>∃ B ps,a=.pointer (some ⟨B,0,none⟩) /\ wx.heap[B]?=some (.cells #[.pointer (some ⟨ps,0,none⟩)] 228 (0,0)) /\ Src T bm W0.heap.size D wx gf lb ps (FinEnd W0.heap.size D ps bx bm blk count cols m j2 ks Q) /\ Touch [] W0 wx /\ W0.heap.size <= B)
 case first=>
  have HK:Hid (∀ W,Touch [] W0 W -> W.cell? ⟨bq,0,none⟩=some (.pointer (some ⟨q,0,none⟩)) /\ W.cell? ⟨q,1,none⟩=some (.int .i64 (blk:Int)) /\ W.cell? ⟨q,2,none⟩=some (.int .i64 (fan:Int)) /\ W.cell? ⟨q,3,none⟩=some (.int .i64 (bud:Int)) /\ W.cell? ⟨q,4,none⟩=some (.pointer (some ⟨bx,0,none⟩)) /\ W.cell? ⟨bk,0,none⟩=some (.slice ko kn kc) /\ W.cell? ⟨bc,0,none⟩=some (.int .i64 (count:Int))):=fun W hW=>⟨cell_touch c0 hW,cell_touch q1 hW,cell_touch q2 hW,cell_touch q3 hW,cell_touch q4 hW,cell_touch c1 hW,cell_touch c2 hW⟩
  have m1:W0.heap.size≠bq:=by omega
  have m2:W0.heap.size≠q:=by omega
  have m3:W0.heap.size≠bk:=by omega
  have m4:W0.heap.size≠bc:=by omega
  clear h hJ hM hY h0 c3
  go_region_held3 (fun w'=>w'.cell? ⟨bq,0,none⟩=some (.pointer (some ⟨q,0,none⟩)) /\ w'.cell? ⟨q,1,none⟩=some (.int .i64 (blk:Int)) /\ w'.cell? ⟨q,2,none⟩=some (.int .i64 (fan:Int)) /\ w'.cell? ⟨q,3,none⟩=some (.int .i64 (bud:Int)) /\ w'.cell? ⟨q,4,none⟩=some (.pointer (some ⟨bx,0,none⟩)) /\ w'.cell? ⟨bk,0,none⟩=some (.slice ko kn kc) /\ w'.cell? ⟨bc,0,none⟩=some (.int .i64 (count:Int))) (go_keep) (first | (go_at_call 133; refine (HNEW.out _).mono ?_; rintro e w1 ⟨ps,bs,ph,rfl,hA,hT1⟩; obtain ⟨k1,k2,k3,k4,k5,k6,k7⟩:=HK.out w1 (((Touch.refl [] _).drew).trans hT1); have HT1:Hid (Touch [] W0 w1):=(((Touch.refl [] _).drew).trans hT1); clear hT1) | (go_at_call 133; refine (HNEW.out _).mono ?_; rintro e w1 ⟨ps,bs,ph,rfl,hA,hT1⟩; obtain ⟨k1,k2,k3,k4,k5,k6,k7⟩:=HK.out w1 ((((Touch.refl [] _).alloc _).drew).trans hT1); have HT1:Hid (Touch [] W0 w1):=((((Touch.refl [] _).alloc _).drew).trans hT1); have hbx:w1.heap[W0.heap.size]?=some (.cells #[.pointer none] 228 (0,0)):=(hT1.block W0.heap.size (by simp) (by simp)).trans (heap_alloc_new W0 _); have x0:=boxOne hbx; have z0:w1.frozen? ⟨W0.heap.size,0,none⟩=false:=(by simp [World.frozen?,hbx]); have HBX:Hid _:=hbx; clear hT1 hbx))
  ·go_wp2_with fail
   go_meet
   case rel=>
    obtain ⟨a1,a2,a3,a4,a5,a6⟩:=hA.out
    exact ⟨_,ps,rfl,heap_alloc_new w1 _,HADD.out _ ps bs ph (a4.keep (((Touch.refl [] w1).alloc _).tag0 260)) (a5.keep (((Touch.refl [] w1).alloc _).tag0 302)) (((Touch.refl [] w1).alloc _).tag0 228 _ _ _ a6) (HT1.out.alloc _) a1 a3,HT1.out.alloc _,HT1.out.size⟩
  ·go_wp2_with fail
   go_meet
   case rel=>
    obtain ⟨a1,a2,a3,a4,a5,a6⟩:=hA.out
    have t2:Touch [W0.heap.size] w1 (w1.setCell ⟨W0.heap.size,0,none⟩ (.pointer (some ⟨ps,0,none⟩))):=(Touch.refl [W0.heap.size] w1).setCell (p:=⟨W0.heap.size,0,none⟩) (by simp) _
    have hne:bs≠W0.heap.size:=by
     have a2':W0.heap.size+1 <= bs:=by simpa using a2
     omega
    have t3:Touch [] W0 (w1.setCell ⟨W0.heap.size,0,none⟩ (.pointer (some ⟨ps,0,none⟩))):=HT1.out.onto t2 (fun i hi=>.inr (by rw [List.mem_singleton.1 hi]; exact Nat.le_refl _))
    refine ⟨_,ps,rfl,?_,HADD.out _ ps bs ph (a4.keep (t2.tag (notag_of HBX.out (by decide)))) (a5.keep (t2.tag (notag_of HBX.out (by decide)))) (t2.u.keep a6 (by decide) (by simpa using hne)) t3 (by have a1':W0.heap.size+1 <= ps:=(by simpa using a1); omega) (by have a3':W0.heap.size+1 <= ph:=(by simpa using a3); omega),t3,Nat.le_refl _⟩
    rw [heap_setCell_same w1 W0.heap.size 0 _ 228 _ HBX.out]
    simp
 case rest=>
  obtain ⟨B,ps,rfl,hB,hA,hT,hBn⟩:=hcut
  have H3:Hid (∀ W,Touch [] W0 W -> W.cell? ⟨bl,0,none⟩=some (.func (.func gf) #[] lb)):=fun W hW=>cell_touch c3 hW
  have c3':=H3.out wc hT
  have cB:=boxOne hB
  have n4':bl < wc.heap.size:=by have:=hT.size; omega
  have HJ0:=hJ _ _ _ h0 (hT.g T bm W0.heap.size D [])
  clear h c0 c1 c2 c3 q1 q2 q3 q4 HNEW HADD h0 n1 n2 n3 n5 n4
  obtain ⟨σ,s0,fin,step,mov,Own,Keep,I,S1,S2,S3,S4,S5,S6,S7,S8,S9,S10,S11⟩:=hA
  go_wp2
  refine range_law (w:=wc) (gf:=gf) (lb:=lb) rfl eg rfl S1 S2 S3 S4
   (fun s W=>I s W /\ W.heap[B]?=some (.cells #[.pointer (some ⟨ps,0,none⟩)] 228 (0,0)) /\ J ([],[]) W /\ wc.heap.size <= W.heap.size)
   ?hI (fun s s' A a b=>⟨S6 s s' A a.1 b,a.2⟩) ?hIp S8 ?h0
   (fun v=>{ tmps:=#[.func (.yield l) #[] #[],.pointer (some ⟨bq,0,none⟩),.pointer (some ⟨bk,0,none⟩),.pointer (some ⟨bc,0,none⟩),.pointer (some ⟨bl,0,none⟩),undef,.pointer (some ⟨B,0,none⟩),v,u8,u9,u10,u11,u12,u13,u14,u15,u16,u17,u18,u19,u20,.pointer (some ⟨ps,0,none⟩),.func (.func gf) #[] lb,v,u24,u25,u26,u27,u28,u29,u30,u31,u32,u33,u34,u35,u36,u37,u38,u39,u40,u41],defers:=[] }) ?assign ?body ?done
  case hI=>
   rintro s A B' ⟨h1,h2,h3,h4⟩ ho
   obtain ⟨a1,a2⟩:=S5 s A B' h1 ho
   exact ⟨a1,a2.tag (by decide) (by decide) h228 _ _ _ h2,hJ _ _ _ h3 a2,Nat.le_trans h4 a2.size⟩
  case hIp=>
   rintro s W r r' ⟨h1,h2,h3,h4⟩ hl
   have hg:=OwnG.putObj (T:=T) (lo:=bm) (N:=W0.heap.size) (D:=D) (F:=[]) (ob':=.loop r') hl (odd_loop r) (by have:=hT.size; omega) (by have:=hT.size; omega)
   exact ⟨S7 s W r r' h1 hl,hg.tag (by decide) (by decide) h228 _ _ _ h2,hJ _ _ _ h3 hg,by simpa using h4⟩
  case h0=>
   intro rec
   have tW:Touch [] wc ((wc.alloc (.deferred (some []))).alloc (.loop rec)):=((Touch.refl [] wc).alloc _).alloc _
   exact ⟨S9 rec,tW.tag0 228 _ _ _ hB,hJ _ _ _ HJ0 (tW.g T bm W0.heap.size D []),tW.size⟩
  case assign=>
   intro v W K hK
   gi_wp2
   exact hK
  case body=>
   rintro s v s' W ⟨h1,h2,h3,h4⟩ hst
   obtain ⟨⟨vo,vn,vcap,rfl⟩,hadd⟩:=S10 s v s' W h1 hst
   have cB2:=boxOne h2
   clear cB c3'
   gi_wp2
   refine ⟨trivial,rfl,(CallsIn.inRound _ (callsIn_wide.2 hadd)).mono ?_⟩
   rintro e w1 ⟨rfl,p1,p2,p3,p4⟩
   gi_wp2
   refine ⟨fun k ob e ho _=>p4 k ob e (by rcases ho with ⟨r,rfl⟩ | ⟨ds,rfl⟩; exact odd_loop r; exact odd_deferred ds),p2,p1,p3.tag (by decide) (by decide) h228 _ _ _ h2,hJ _ _ _ h3 p3,Nat.le_trans h4 p3.size⟩
  case done=>
   rintro s W r r' hfin ⟨h1,h2,h3,h4⟩ hl hk
   have hg:=OwnG.putObj (T:=T) (lo:=bm) (N:=W0.heap.size) (D:=D) (F:=[]) (ob':=.loop r') hl (odd_loop r) (by have:=hT.size; omega) (by have:=hT.size; omega)
   obtain ⟨rows,hQ,hfew,hcnt,hend⟩:=S11 s W r r' hfin h1 hl
   have h2':=hg.tag (by decide) (by decide) h228 _ _ _ h2
   have hk':(W.putObj (wc.heap.size+1) (.loop r')).heap[wc.heap.size]?=some (.deferred (some [])):=(World.putObj_heap_other (by omega)).trans hk
   have h4':=hJ _ _ _ h3 hg
   have h5':wc.heap.size <= (W.putObj (wc.heap.size+1) (.loop r')).heap.size:=by simpa using h4
   generalize W.putObj (wc.heap.size+1) (.loop r')=W2 at *
   clear h1 h2 h3 h4 hl hk hg S1 S2 S3 S4 S5 S6 S7 S8 S9 S10 S11 hfin
   have cB2:=boxOne h2'
   clear cB c3' hB
   go_wp2_with (go_at_call 136; refine hend.mono ?_; rintro e w3 ⟨rfl,⟨Fm,p1,hF1,hF2⟩,p2⟩)
   have h4'':=hM _ (Fm,[]) _ (hJ _ _ _ h4' (p2.g T)) ⟨rfl,rfl,rfl,hF1,hF2⟩
   have hk'':=p2.step.other hk' (odd_deferred _).1 (odd_deferred _).2
   have h2'':=p2.step.tag (t:=228) (by decide) (by decide) _ _ _ h2'
   have hsz3:=Nat.le_trans h5' p2.step.size
   clear h2' hk' h4' p2 cB2 hend h5'
   have hrl:=recsOf_len rows
   go_loopg [] (rows.length) (fun g wr=>∃ out,out.length+g=rows.length /\ SOut wr ps bx bm blk cols count m j2 ks (recsOf rows) out Fm /\ J (Fm,out) wr /\ wr.heap[wc.heap.size]?=some (.deferred (some [])) /\ wr.heap[B]?=some (.cells #[.pointer (some ⟨ps,0,none⟩)] 228 (0,0)) /\ wc.heap.size <= wr.heap.size)
   case atStart=>exact ⟨[],by simp,p1,h4'',hk'',h2'',hsz3⟩
   case round=>
    clear p1 h4'' hk'' h2'' hsz3
    obtain ⟨out,hlen2,hS,hJo,hkr,hBr,hsr⟩:=hrel
    have cB3:=boxOne hBr
    by_cases hlt:out.length < rows.length
    ·have hnx:=sorterNext_row wr ps bx bm blk cols count m j2 ks (recsOf rows) out Fm hS (by omega) (by omega) (by omega)
     refine (wpIn_wide (n:=0)).1 ?_
     gi_wp2
     refine ⟨trivial,rfl,(callsIn_wide.2 hnx).mono ?_⟩
     rintro e w4 ⟨x,ao,al,acap,rfl,r1,r2,r3⟩
     have hJ4:=hJ _ _ _ hJo (r3.g hF1 T _ D)
     have hk4:=r3.step.other hkr (odd_deferred _).1 (odd_deferred _).2
     have hB4:=r3.step.tag (t:=228) (by decide) (by decide) _ _ _ hBr
     have hs4:=Nat.le_trans hsr r3.step.size
     obtain ⟨fn,tmps,assign,body,hy,hR⟩:=hY (Fm,out) (.slice ao al acap) (Fm,out++[x]) w4 hJ4 ⟨⟨hF1,r2.lt⟩,rfl,x,rows,rfl,hQ,r1,r2.part⟩
     gi_wp2
     refine ⟨rfl,hR.mono ?_⟩
     rintro e W5 ⟨rfl,hJ5,hG5⟩
     gi_wp2
     go_roundg (gk - 1)
     case measure=>omega
     case rel=>exact ⟨out++[x],by rw [List.length_append,List.length_singleton]; omega,r2.guard hG5,hJ5,hG5.guard.others _ _ hT.size hk4 (odd_deferred _),hG5.k.cells 228 (by decide) _ _ _ hB4,Nat.le_trans hs4 hG5.guard.size⟩
    ·have hnx:=sorterNext_done wr ps bx bm blk cols count m j2 ks (recsOf rows) out Fm hS (by omega) (by omega)
     have hso:=hS.sorted (by omega)
     refine (wpIn_wide (n:=0)).1 ?_
     gi_wp2
     refine ⟨trivial,rfl,(callsIn_wide.2 hnx).mono ?_⟩
     rintro e w4 ⟨rfl,r1,r2⟩
     have hJ4:=hJ _ _ _ hJo (r2.g hF1 T _ D)
     have hk4:=r2.step.other hkr (odd_deferred _).1 (odd_deferred _).2
     gi_wp2
     refine ⟨fun _ h=>(by cases h),?_⟩
     gi_wp2
     have hg:=OwnG.putObj (T:=T) (lo:=bm) (N:=W0.heap.size) (D:=D) (F:=Fm) (ob':=.deferred none) hk4 (odd_deferred _) hT.size (by have:=hT.size; omega)
     have hgd:Guard AllT (wc.heap.size+1) w4 (w4.putObj wc.heap.size (.deferred none)):=Guard.putOdd hk4 (odd_deferred _) (by omega)
     have hcl:=close_deferredIn _ ps bx bm blk cols m j2 (0 - 1) .returning (r1.guard hgd)
     refine ⟨by simp,.inl ⟨_,_,rfl,run_takeDeferred hk4,?_⟩⟩
     refine ⟨by simp,.inr ⟨by simp [Fence.wide],_,_,134,#[.pointer (some ⟨ps,0,none⟩)],rfl,by simp [invoke,go_sem],fun _ _=>trivial,hcl.mono ?_⟩⟩
     rintro e u' w6 ⟨rfl,rfl,hC⟩
     obtain ⟨d',M',z1,z2⟩:=hC.st
     have hlt6:∀ k∈Fm,k < w6.heap.size:=fun k hk=>Nat.lt_of_lt_of_le (hS.lt k hk) (Nat.le_trans r2.step.size (Nat.le_trans hg.size hC.step.step.size))
     exact ⟨_,results_none rfl _ _ _,⟨_,rfl⟩,(Fm,out),⟨⟨hF1,hlt6⟩,⟨rows,hQ,hso.1⟩,hso.2,d',M',z1,z2⟩,hJ _ _ _ (hJ _ _ _ hJ4 hg) ((hC.step.mono (by simp)).g hF1 T _ D)⟩
section
variable {W0:World} {bq bk bc bl b q:Nat} {tv wv kv sv:Value} {bx bm blk fan bud count cols:Nat} {ks:List K} {vs:List Value} {rows:List (List V)} {d:DS} {M:List PF}
theorem SrtCtx.box (h:SrtCtx W0 bq bk bc bl b q tv wv kv sv bx bm blk fan bud count cols ks vs rows d M):SrtBox W0 bq bk bc bl q tv wv kv 162 #[.pointer (some ⟨b,0,none⟩)] bx blk fan bud count:=⟨h.hq,h.hQ,h.hk,h.keys.slice,h.hc,h.hl,by have:=h.b1; omega,h.bud2⟩
theorem values_src (T:List TypeId) {P m j j2:Nat} (h:SrtCtx W0 bq bk bc bl b q tv wv kv sv bx bm blk fan bud count cols ks vs rows d M) (hl:Left d (2 * rows.length+((P * (rows.length+1)+m)+1)) (rows.length+j)) (wc:World) (ps bs ph:Nat) (p4:SorterAt wc ps (SC.new bx blk fan bud count kv ph)) (p5:HeadAt wc ph (.slice none 0 0) bs) (p6:wc.heap[bs]?=some (.cells #[.pointer (some ⟨ps,0,none⟩)] 228 (0,0))) (t:Touch [] W0 wc) (hps:W0.heap.size <= ps) (hph:W0.heap.size <= ph) (hP:1000000000 <= P+j) (hPj:P+j2 <= j) (hPs:P <= 900000) (hfan:2 <= min fan (bud / 2 / blk)) :
  Src T bm W0.heap.size (diskF bx bm M) wc 162 #[.pointer (some ⟨b,0,none⟩)] ps (FinEnd W0.heap.size (diskF bx bm M) ps bx bm blk count cols m j2 ks (fun l=>l=rows)):=by
 have hA:=h.add0 hl p4 p5 p6 t hps hph
 have hlen:=h.len
 have hfew:=h.few
 have tW:∀ rec:Loop,Touch [] wc ((wc.alloc (.deferred (some []))).alloc (.loop rec)):=fun rec=>((Touch.refl [] wc).alloc _).alloc _
 refine ⟨Nat,0,fun s _=>s=vs.length,fun i v _ i'=>vs[i]?=some v /\ i'=i+1,fun _ _=>False,fun _ A B=>A=B,fun _ W W'=>KeepTag 83 W W',
  fun i W=>AddSt W0.heap.size (diskF bx bm M) W ps bs bx bm blk count (min fan (bud / 2 / blk)) (bud / 2) cols ((P * (rows.length+1)+m)+1) j ks rows i /\ (∀ i (_:i < vs.length) (_:i < rows.length),RowAt W vs[i] rows[i]) /\ W0.heap.size <= W.heap.size,
  fun rec=>values_seq _ b sv vs ((t.trans (tW rec)).tag0 36 _ _ _ h.hb) (h.list.keep ((t.trans (tW rec)).tag0 83)) (by omega),
  by rintro s A B' k ob rfl e _ _; exact e,fun _ _ _ _ h1 h2=>h1.trans h2,fun _ W r r' e=>(Guard.putObj (T:=[83]) (B:=wc.heap.size+2) e (by omega)).cells 83 (by decide),
  by rintro s A B' hi rfl; exact ⟨hi,(Touch.refl [] A).g T bm _ _ []⟩,fun _ _ _ _ h=>h.elim,?_,by rintro i v i' W r r' hs _; exact hs,
  fun rec=>⟨hA.quiet (tW rec),fun i a b=>(h.rowsAt i a b).touch (t.trans (tW rec)),(t.trans (tW rec)).size⟩,?_,?_⟩
 ·rintro i W r r' ⟨h1,h2,h3⟩ hlp
  have hg:=OwnS.putObj (T:=OwnT) (lo:=bm) (B:=0) (ob':=.loop r') hlp (odd_loop r) (by omega) (by have:=h.pd.lt bm (by simp); have:=t.size; omega)
  exact ⟨h1.putObj hlp (odd_loop r),fun i a b=>Sl3.keep (h2 i a b) (hg.cells 85 (by decide) (by decide)),by simpa using h3⟩
 ·rintro i v i' W ⟨h1,h2,h3⟩ ⟨hv,rfl⟩
  obtain ⟨hiv,hve⟩:=List.getElem?_eq_some_iff.1 hv
  have hir:i < rows.length:=by omega
  have hrow:=h2 i hiv hir
  rw [hve] at hrow
  obtain ⟨vo,vcap,e⟩:=hrow.shape
  refine ⟨⟨_,_,_,e⟩,?_⟩
  have hb1:=h.b1
  have hbud:=h.bud1
  refine (addSt_add h1 h3 h.oks hir hrow h.few h.cnt (by omega)).mono ?_
  rintro e w1 ⟨rfl,a1,a2⟩
  exact ⟨rfl,⟨a1,fun i a b=>Sl3.keep (h2 i a b) (a2.step.tag (by decide) (by decide)),Nat.le_trans h3 a2.step.size⟩,a2.step.tag (by decide) (by decide),a2.g T,fun k ob e ho=>a2.step.other e ho.1 ho.2⟩
 ·rintro i W r r' rfl ⟨h1,h2,h3⟩ hlp
  rw [hlen] at h1
  exact ⟨rows,rfl,h.few,h.cnt,addSt_end (h1.putObj hlp (odd_loop r)) h.oks hP hPj hPs hfan (by have:=h.fan2; omega) h.c1⟩
theorem sorted_seq (W0:World) (bq bk bc bl b q:Nat) (tv wv kv sv:Value) (bx bm blk fan bud count cols:Nat) (ks:List K) (vs:List Value) (rows:List (List V)) (d:DS) (M:List PF) (P m j j2:Nat) (h:SrtCtx W0 bq bk bc bl b q tv wv kv sv bx bm blk fan bud count cols ks vs rows d M) (hl:Left d (2 * rows.length+((P * (rows.length+1)+m)+1)) (rows.length+j)) (hP:1000000000 <= P+j) (hPj:P+j2 <= j) (hPs:P <= 900000) :
  SeqG 132 #[.pointer (some ⟨bq,0,none⟩),.pointer (some ⟨bk,0,none⟩),.pointer (some ⟨bc,0,none⟩),.pointer (some ⟨bl,0,none⟩)] ([]:List Rec) (SFin bx bm blk cols m j2 ks (fun l=>l=rows)) (SStep ks (fun l=>l=rows)) [] [] [] bm W0.heap.size (diskF bx bm M) W0:=by
 have hfan:2 <= min fan (bud / 2 / blk):=by
  have e1:=h.fan1
  have e3:=h.bud1
  have e4:=h.b1
  have e5:2 <= bud / 2 / blk:=(Nat.le_div_iff_mul_le (by omega)).2 (by omega)
  omega
 exact sorted_gen [] W0 bq bk bc bl q tv wv kv 162 _ bx bm blk fan bud count cols ks _ _ m j2 h.box (enters_of Tryz.func162 (by kernel_rfl) rfl) (by simp) (h.pd.lt bm (by simp)) (fun wc ps bs ph p4 p5 p6 t a b=>values_src [] h hl wc ps bs ph p4 p5 p6 t a b hP hPj hPs hfan)
end
end Go.Proofs.YtjoinhljdbljaaaGreat
namespace Go.Proofs.YtjoinhljdbljaaaGreat
open Go.RowKit
def T3.list (x:T3):List Value:=[x.1,x.2.1,x.2.2]
def flat3 (L:List T3):List Value:=L.flatMap T3.list
theorem flat3_len (L:List T3):(flat3 L).length=L.length * 3:=by
 induction L with
 | nil=>rfl
 | cons x L ih=>simp only [flat3,List.flatMap_cons,List.length_append,List.length_cons] at *; rw [ih]; simp [T3.list]; omega
theorem flat3_at:∀ (L:List T3) (i r:Nat) (h:i < L.length),r < 3 -> (flat3 L)[i * 3+r]?=(T3.list L[i])[r]?
 | [],_,_,h,_=>by simp at h
 | x::L,0,r,_,hr=>by
  simp only [flat3,List.flatMap_cons,List.getElem_cons_zero]
  rw [List.getElem?_append_left (by simp [T3.list]; omega)]
  congr 1
  omega
 | x::L,i+1,r,h,hr=>by
  have ih:=flat3_at L i r (by simpa using h) hr
  simp only [flat3,List.flatMap_cons,List.getElem_cons_succ] at *
  rw [List.getElem?_append_right (by simp [T3.list]; omega),<- ih]
  congr 1
  simp [T3.list]
  omega
theorem own_sl3 {w':World} {t:TypeId} {base g cap n:Nat} {l:List T3} (h:w'.ownsRow base t 3 (.slice (some ⟨g,0,none⟩) n cap) l.length (flat3 l)):n=l.length /\ base <= g /\ Sl3 t w' (.slice (some ⟨g,0,none⟩) l.length cap) l:=by
 rcases h.2 with ⟨e,_⟩ | ⟨g',cap',cur,e,hb,hh,hc,hm,hs,ht⟩
 ·simp at e
 ·simp only [Value.slice.injEq,Option.some.injEq,Addr.mk.injEq,and_true] at e
  obtain ⟨rfl,rfl,rfl⟩:=e
  refine ⟨rfl,hb,_,_,rfl,hc,hm,fun _=>⟨g,0,cur,_,rfl,hh,fun i hi=>?_⟩⟩
  have key:∀ r,r < 3 -> cur[i * 3+r]?=(T3.list l[i])[r]?:=fun r hr=>by
   have:=congrArg (fun l=>l[i * 3+r]?) ht
   simp only [List.getElem?_take,Array.getElem?_toList] at this
   rw [if_pos (by omega),flat3_at l i r hi hr] at this
   exact this
  have k0:=key 0 (by omega)
  have k1:=key 1 (by omega)
  have k2:=key 2 (by omega)
  rw [Nat.zero_add]
  exact ⟨k0,k1,k2⟩
theorem row_form {w':World} {base n:Nat} {t:TypeId} {v:Value} {l:List Value} (h:w'.ownsRow base t 3 v n l) (hn:1 <= n):∃ g gcap,v=.slice (some ⟨g,0,none⟩) n gcap:=by
 rcases h.2 with ⟨_,e⟩ | ⟨g',cap',cur,e,_⟩
 ·omega
 ·exact ⟨_,_,e⟩
theorem nilEq83 (a:Addr) (n c:Nat) (w:World):(binOp .eql 83 (.slice (some a) n c) (.slice none 0 0)).run Tryz.prog w=.ok (.bool false) w:=by kernel_rfl
theorem rowClone_any (w:World) (v:Value) (row:List V) (h:RowAt w v row) (h1:1 <= row.length) (h2:row.length <= 1000000) :
  Calls Tryz.prog 118 #[v] w fun e w'=>∃ g cap,e=.returned (.slice (some ⟨g,0,none⟩) row.length cap) /\ RowAt w' (.slice (some ⟨g,0,none⟩) row.length cap) row /\ w.heap.size <= g /\ Touch [] w w':=by
 obtain ⟨b,off,cap,rfl,hc,hm,hb,hx⟩:=Sl3.open h (by simpa using h1)
 obtain ⟨i0,hi,hz0,hz1,hz2⟩:=info_parts info85
 have HN:Hid (∀ W,Touch [] w W -> ∀ (j:Nat) (u:Value),(flat3 (row.map V.t))[j]?=some u -> W.cell? (Addr.add ⟨b,off,none⟩ j)=some u):=fun W hW j u hj=>by
  have hlt:=(List.getElem?_eq_some_iff.1 hj).1
  rw [flat3_len] at hlt
  obtain ⟨i,r,rfl,hr⟩:∃ i r,j=i * 3+r /\ r < 3:=⟨j / 3,j % 3,by omega,by omega⟩
  have hi':i < (row.map V.t).length:=by omega
  rw [flat3_at _ i r hi' hr] at hj
  obtain ⟨x0,x1,x2⟩:=hx W (hW.tag0 _) i hi'
  rw [Addr.add_lit]
  match r,hr with
  | 0,_=>simp [T3.list] at hj; rw [<- Nat.add_assoc,Nat.add_zero,x0]; simp [hj]
  | 1,_=>simp [T3.list] at hj; rw [<- Nat.add_assoc,x1]; simp [hj]
  | 2,_=>simp [T3.list] at hj; rw [<- Nat.add_assoc,show off+i * 3+2=off+i * 3+1+1 by omega,x2]; simp [hj]
 have HOC:Hid (∀ u∈flat3 (row.map V.t),u.oneCell'=true):=fun u hu=>by
  obtain ⟨x,hx,hu⟩:=List.mem_flatMap.1 hu
  obtain ⟨y,_,rfl⟩:=List.mem_map.1 hx
  simp only [T3.list,V.t,List.mem_cons,List.not_mem_nil,or_false] at hu
  rcases hu with rfl | rfl | rfl<;>rfl
 simp only [List.length_map] at *
 clear h hx
 have hne:=nilEq83
 go_enter Tryz.func118,Tryz.ntmps118
 go_wp2_with (at_builtin; refine wpList_append_grows _ rfl (.tmp 5) (.tmp 6) 83 rfl 85 i0 _ 3 32 Tryz.underlying83 hi hz0 hz1 hz2 rfl (by decide) _ 0 0 [] rfl (by simp) (by simp) (by intro _ _ j u hj; simp at hj) ⟨b,off,none⟩ row.length cap (flat3 (row.map V.t)) rfl (by rw [flat3_len]; simp) (HN.out _ ((Touch.refl [] w).alloc _)) HOC.out (by omega) (by unfold maxLen; omega) (by omega) ?_)
 intro v1 w1 hO1 hG1
 have hT1:Touch [] w w1:=((Touch.refl [] w).alloc (.cells #[] 85)).grown hG1 (fun k hk=>by simp at hk)
 obtain ⟨g,gcap,rfl⟩:=row_form hO1 (by omega)
 have hO2:w1.ownsRow (w.heap.size+1) 85 3 (.slice (some ⟨g,0,none⟩) row.length gcap) row.length (flat3 (row.map V.t)):=by simpa using hO1
 have HO:Hid (w1.ownsRow (w.heap.size+1) 85 3 (.slice (some ⟨g,0,none⟩) row.length gcap) row.length (flat3 (row.map V.t))):=hO2
 clear hO2
 clear hO1 hG1
 go_wp2
 go_ret
 have hO:=HO.out
 have hl:row.length=(row.map V.t).length:=by simp
 obtain ⟨_,h4,h5⟩:=own_sl3 (l:=row.map V.t) (by simpa using hO)
 refine ⟨g,gcap,rfl,?_,by omega,hT1⟩
 unfold RowAt
 simpa using h5
end Go.Proofs.YtjoinhljdbljaaaGreat
