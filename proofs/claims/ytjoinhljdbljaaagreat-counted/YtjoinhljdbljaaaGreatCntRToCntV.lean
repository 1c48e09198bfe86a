/- Parts that are looked at and copied, and what follows. -/
import Derived.Test.YtjoinhljdbljaaaGreatCntOToCntQ
set_option maxHeartbeats 4000000
set_option maxRecDepth 20000
namespace Go.Proofs.YtjoinhljdbljaaaGreat
open Go.RowKit
theorem Touch.gO {W W':World} {F:List Nat} (h:Touch F W W') {T:List TypeId} {lo N:Nat} (hF:∀ k∈F,N <= k /\ ∃ ob:Obj,W.heap[k]?=some ob /\ (Odd ob \/ ∃ cs t f,ob=.cells cs t f /\ t∈T)) (hT:∀ t∈T,t∉SpG) (hlo:lo <= N) (D F':List Nat):OwnG T lo N D F' W W':=by
 have stay:∀ (k:Nat) (ob:Obj),W.heap[k]?=some ob -> k∉F -> W'.heap[k]?=some ob:=fun k ob e hn=>(h.block k (Array.getElem?_eq_some_iff.1 e).1 hn).trans e
 have cel:∀ (k:Nat) (cs:Array Value) (t:TypeId) (f:Nat × Nat),W.heap[k]?=some (Obj.cells cs t f) -> k∈F -> t∈T:=fun k cs t f e hk=>by
  obtain ⟨_,ob,e',h2⟩:=hF k hk
  rw [e] at e'
  cases e'
  rcases h2 with h2 | ⟨cs',t',f',e2,ht⟩
  ·exact absurd rfl (h2.1 _ _ _)
  ·simp only [Obj.cells.injEq] at e2
   rw [e2.2.1]
   exact ht
 refine ⟨h.size,fun t _ _ k cs f hk e=>stay k _ e (fun hm=>?_),fun t ht k cs f _ e=>stay k _ e (fun hm=>hT _ (cel k cs t f e hm) ht),fun k ob hk e ho=>stay k ob e (fun hm=>by have:=(hF k hm).1; omega),h.low (fun k hk=>Nat.le_trans hlo (hF k hk).1)⟩
 rcases hk with hk | hk
 ·have:=(hF k hm).1
  omega
 ·exact hk (cel k cs t f e hm)
theorem GrStep.stay {cols:List Int} {sums:List (Int × Int)} {ks:List K} {Q:List (List V) -> Prop} {P P':List (List Rec)} {v:Value} {W W':World} (h:GrStep cols sums ks Q P v W P') (k:KeepTag 85 W W'):GrStep cols sums ks Q P v W' P':=by
 obtain ⟨C,out,rows,rest,h1,h2,h3,h4,h5⟩:=h
 exact ⟨C,out,rows,rest,h1,h2,h3,Sl3.keep h4 k,h5⟩
def GcT:List TypeId:=GrT++[3,4]
def GcK:List TypeId:=GrK++[206,3,4,159,162]
structure GrpChk (W:World) (cl cq q bn bl:Nat) (tv wv cv sv:Value) (bx blk:Nat) (fan bud:Int) (gf:Nat) (lb:Array Value) (cols:List Int) (sums:List (Int × Int)) (ks:List K) (Q:List (List V) -> Prop) (X:List Nat) (lo:Nat):Prop where
 grp:GrpCtx W bn bl cv sv gf lb cols sums ks Q X lo
 hq:W.heap[cq]?=some (.cells #[.pointer (some ⟨q,0,none⟩)] 159 (0,0))
 hQ:W.heap[q]?=some (.cells #[tv,.int .i64 (blk:Int),.int .i64 fan,.int .i64 bud,.pointer (some ⟨bx,0,none⟩),wv] 162 (0,0))
 hl:W.heap[cl]?=some (.cells #[.func (.func 143) #[] #[.pointer (some ⟨bn,0,none⟩),.pointer (some ⟨bl,0,none⟩)]] 165 (0,0))
 b2:blk <= 4096
 rows:∀ P C out rows rest,gparts (sameR ks) out=(P,C) -> C≠[] -> Q rows -> Srt ks out -> (out++rest).Perm (recsOf rows) -> P.length+1 <= 20000 /\ (∀ v∈partRow cols sums C,Fair v) /\ 16+sizeR (partRow cols sums C) <= blk /\ (partRow cols sums C).length <= 1000
theorem GrpChk.quiet {W W':World} {cl cq q bn bl:Nat} {tv wv cv sv:Value} {bx blk:Nat} {fan bud:Int} {gf:Nat} {lb:Array Value} {cols:List Int} {sums:List (Int × Int)} {ks:List K} {Q:List (List V) -> Prop} {X:List Nat} {lo:Nat} (h:GrpChk W cl cq q bn bl tv wv cv sv bx blk fan bud gf lb cols sums ks Q X lo) (t:Touch [] W W'):GrpChk W' cl cq q bn bl tv wv cv sv bx blk fan bud gf lb cols sums ks Q X lo:=
 ⟨h.grp.quiet t,t.tag0 _ _ _ _ h.hq,t.tag0 _ _ _ _ h.hQ,t.tag0 _ _ _ _ h.hl,h.b2,h.rows⟩
theorem SFin.odd {bx bm blk cols m j:Nat} {ks:List K} {Q:List (List V) -> Prop} {out:List Rec} {W:World} {l:Nat} {ob ob':Obj} (h:SFin bx bm blk cols m j ks Q out W) (e:W.heap[l]?=some ob) (ho:Odd ob):SFin bx bm blk cols m j ks Q out (W.putObj l ob'):=by
 obtain ⟨h1,h2,d',M',h3,h4⟩:=h
 exact ⟨h1,h2,d',M',h3.guard (Guard.putOdd (B:=l+1) e ho (by omega)),h4⟩
theorem grpChecked_seq (W0:World) (cl cq q bn bl:Nat) (tv wv cv sv:Value) (bx blk:Nat) (fan bud:Int) (gf:Nat) (lb:Array Value) (cols:List Int) (sums:List (Int × Int)) (ks:List K) (Q:List (List V) -> Prop) (X:List Nat) (lo:Nat) (D:List Nat) (bm rc m j:Nat) (h:GrpChk W0 cl cq q bn bl tv wv cv sv bx blk fan bud gf lb cols sums ks Q X lo) (eg:∀ args w,(callFunc gf args).run Tryz.prog w=.ok (.enter gf args) w)
  (hseq:∀ W,Touch [] W0 W -> SeqG gf lb ([]:List Rec) (SFin bx bm blk rc m j ks Q) (SStep ks Q) [] [] [] lo W.heap.size D W) :
  SeqG 140 #[.pointer (some ⟨cl,0,none⟩),.pointer (some ⟨cq,0,none⟩)] ([]:List (List Rec)) (fun P W=>∃ out,P=gall (sameR ks) out /\ SFin bx bm blk rc m j ks Q out W) (GrStep cols sums ks Q) GcT GcK X lo W0.heap.size D W0:=by
 have hXlt:∀ k∈X,k < W0.heap.size:=fun k hk=>by obtain ⟨_,_,_,e,_⟩:=h.grp.hX k hk; exact (Array.getElem?_eq_some_iff.1 e).1
 refine checked_gen W0 cq cl q tv wv bx blk fan bud 143 #[.pointer (some ⟨bn,0,none⟩),.pointer (some ⟨bl,0,none⟩)] ([],[]) _ _ (GMov ([]:List (List Rec)) (W0.heap.size+5) D) _ (fun s=>OwnG GrT lo (W0.heap.size+5) D s.1) _ (fun s=>KeepG GrK X (W0.heap.size+5) s.1) _ (fun s=>s.2.length) ⟨h.hq,h.hQ,h.hl,h.b2,enters_of Tryz.func143 (by kernel_rfl) rfl,?_,?_,?_,?_,?_,?_,fun s A B C=>KeepG.trans,?_,?_,?_,rfl,?_,?_,?_⟩
 ·intro W t hs
  have:=grouped_seq W bn bl cv sv gf lb cols sums ks Q X lo D bx bm blk rc m j (h.grp.quiet t) eg (fun W' t'=>hseq W' (t.trans t'))
  rw [hs] at this
  exact this
 ·intro s A B o
  exact o.mono (by decide) (by omega)
 ·intro s A B F t hF
  refine t.gO (fun k hk=>?_) (by decide) h.grp.lo_ D s.1
  obtain ⟨h1,ob,e,h2⟩:=hF k hk
  refine ⟨h1,ob,e,h2.imp id ?_⟩
  rintro ⟨cs,t',f,e2,h3⟩
  exact ⟨cs,t',f,e2,by rcases h3 with rfl | rfl<;>decide⟩
 ·intro s A B o t ht
  simp only [List.mem_cons,List.not_mem_nil,or_false] at ht
  rcases ht with rfl | rfl | rfl | rfl | rfl<;>exact o.tag (by decide) (by decide) (by decide)
 ·intro s A B k ob o e ho hk
  exact o.others k ob hk e ho
 ·intro s A B g
  refine ⟨fun t ht=>g.guard.cells t ?_,fun k ob hk e ho=>g.guard.others k ob hk e ho,g.mono (by decide) (fun _ h=>h) (by omega)⟩
  simp only [List.mem_cons,List.not_mem_nil,or_false] at ht
  rcases ht with rfl | rfl | rfl | rfl | rfl<;>decide
 ·intro s A B F t hF
  obtain ⟨g1,g2⟩:=touch_guard (T:=AllT++GrK) (W0.heap.size+5) t (fun k hk=>by
   obtain ⟨_,cs,t',f,e,h3⟩:=hF k hk
   exact ⟨cs,t',f,e,by rcases h3 with rfl | rfl<;>decide⟩)
  exact g1.g (fun k hk ob e=>(t.block k (Array.getElem?_eq_some_iff.1 e).1 (fun hm=>by have h1:=hXlt k hk; have h2:=(hF k hm).1; omega)).trans e) s.1
 ·intro s W r r' e
  exact (Guard.putObj (T:=AllT++GrK) e (by omega)).g (fun k hk ob e'=>by rw [World.putObj_heap_other (by have:=hXlt k hk; omega)]; exact e') _
 ·rintro s s' ⟨e1,e2,e3,e4,e5⟩
  exact ⟨⟨e1,e2,e3,e4,fun k hk=>(e5 k hk).imp (fun z=>by omega) id⟩,by rw [e2,e3]⟩
 ·rintro ⟨F,P⟩ v W s' ⟨_,e1,hst⟩
  obtain ⟨C,out,rows,rest,e,a1,a2,a3,a4,a5,a6⟩:=hst
  obtain ⟨h1,h2⟩:=h.rows P C out rows rest a1 a2 a4 a5 a6
  exact ⟨by rw [e]; simp,by rw [e]; simpa using h1,_,a3,h2⟩
 ·rintro s v W W' s' ⟨e0,e1,hst⟩ k hs
  exact ⟨⟨e0.1,fun k hk=>Nat.lt_of_lt_of_le (e0.2 k hk) hs⟩,e1,hst.stay k⟩
 ·rintro s W l ob ob' ⟨e0,out,e1,h1⟩ e ho
  exact ⟨⟨e0.1,fun k hk=>by simpa using e0.2 k hk⟩,out,e1,h1.odd e ho⟩
theorem copiedGroup_any (w:World) (cl cq q bn bl:Nat) (tv wv cv sv:Value) (bx blk:Nat) (fan bud:Int) (gf:Nat) (lb:Array Value) (cols:List Int) (sums:List (Int × Int)) (ks:List K) (Q:List (List V) -> Prop) (X:List Nat) (lo:Nat) (D:List Nat) (bm rc m j:Nat) (h:GrpChk w cl cq q bn bl tv wv cv sv bx blk fan bud gf lb cols sums ks Q X lo) (eg:∀ args w,(callFunc gf args).run Tryz.prog w=.ok (.enter gf args) w)
  (hseq:∀ W,Touch [] w W -> SeqG gf lb ([]:List Rec) (SFin bx bm blk rc m j ks Q) (SStep ks Q) [] [] [] lo W.heap.size D W) :
  Calls Tryz.prog 82 #[.func (.func 140) #[] #[.pointer (some ⟨cl,0,none⟩),.pointer (some ⟨cq,0,none⟩)]] w fun e w'=>∃ lv out,e=.returned lv /\ SFin bx bm blk rc m j ks Q out w' /\ (∃ vs',LOwn w' lv vs' /\ vs'.length=(gall (sameR ks) out).length /\ ∀ i (_:i < vs'.length) (_:i < (gall (sameR ks) out).length),RowAt w' vs'[i] (partRow cols sums (gall (sameR ks) out)[i])) /\ Kept lo w w':=by
 have hXlt:∀ k∈X,k < w.heap.size:=fun k hk=>by obtain ⟨_,_,_,e,_⟩:=h.grp.hX k hk; exact (Array.getElem?_eq_some_iff.1 e).1
 refine (copied_gen GcT GcK X w 140 _ ([]:List (List Rec)) _ _ lo D (fun P=>P.map (partRow cols sums)) h.grp.lo_ (enters_of Tryz.func140 (by kernel_rfl) rfl) (by decide) (by decide) hXlt (fun W hW=>grpChecked_seq W cl cq q bn bl tv wv cv sv bx blk fan bud gf lb cols sums ks Q X lo D bm rc m j (h.quiet hW) eg (fun W' t=>hseq W' (hW.trans t))) rfl ?_ ?_ ?_).mono ?_
 ·rintro P v W P' hst
  obtain ⟨C,out,rows,rest,rfl,a1,a2,a3,a4,a5,a6⟩:=hst
  obtain ⟨h1,h2,h3,h4⟩:=h.rows P C out rows rest a1 a2 a4 a5 a6
  refine ⟨_,by simp,a3,?_,h4,by simp; omega⟩
  have:=h.grp.ne
  simp [partRow,valsOf]
  omega
 ·rintro P v W P' l r r' hst e
  exact hst.stay ((OwnG.putObj (T:=[]) (lo:=0) (N:=0) (D:=[]) (F:=[]) (ob':=.loop r') e (odd_loop r) (Nat.zero_le _) (Nat.zero_le _)).tag (by decide) (by decide) (by simp))
 ·rintro P W l ob ob' ⟨out,e1,h1⟩ e ho
  exact ⟨out,e1,h1.odd e ho⟩
 ·rintro e w' ⟨lv,P,rfl,⟨out,rfl,h1⟩,⟨vs',a,b,c⟩,h5⟩
  exact ⟨lv,out,rfl,h1,⟨vs',a,by simpa using b,fun i hi hj=>by have:=c i hi (by simpa using hj); simpa using this⟩,h5⟩
end Go.Proofs.YtjoinhljdbljaaaGreat
namespace Go.Proofs.YtjoinhljdbljaaaGreat
open Go.RowKit
attribute [local go_sem] Oper.semAt_some
def groupCells (name:ByteArray) (cv uv:Value) (more:List Value):Array Value:=([.int .i64 1,.int .i64 0,.int .i64 0,.string name,.slice none 0 0,.int .i64 0,.slice none 0 0,.slice none 0 0,.slice none 0 0,.int .i64 7,.int .i64 0,.int .i64 0,.string ⟨#[]⟩,.slice none 0 0,.int .i64 0,cv,.slice none 0 0,uv]++more).toArray
def GPlan (w:World) (gp:Nat) (name:ByteArray) (cv uv:Value) (more:List Value):Prop:=w.heap[gp]?=some (.cells (groupCells name cv uv more) 79 (0,0))
theorem GPlan.keep {w w':World} {gp:Nat} {name:ByteArray} {cv uv:Value} {more:List Value} (h:GPlan w gp name cv uv more) (k:KeepTag 79 w w'):GPlan w' gp name cv uv more:=k _ _ _ h
theorem GPlan.cell {w:World} {gp:Nat} {name:ByteArray} {cv uv:Value} {more:List Value} (h:GPlan w gp name cv uv more) (i:Nat) (v:Value) (hv:(groupCells name cv uv more)[i]?=some v):w.cell? ⟨gp,i,none⟩=some v:=by
 unfold GPlan at h
 simp only [World.cell?,h]
 exact hv
theorem waits_two (w:World) (gp:Nat) (i:Nat) (hi:i=0 \/ i=1) (p0:w.cell? ⟨gp,0,none⟩=some (.int .i64 1)):Calls Tryz.prog 80 #[.slice (some ⟨gp,0,none⟩) 2 2,.int .i64 (i:Int)] w fun e w'=>e=.returned (.bool false) /\ w'=w:=by
 rcases hi with rfl | rfl
 ·go_enter Tryz.func80,Tryz.ntmps80
  go_wp2
  go_ret
  exact ⟨rfl,rfl⟩
 ·go_enter Tryz.func80,Tryz.ntmps80
  go_wp2
  go_ret
  exact ⟨rfl,rfl⟩
structure GrpAsk (w:World) (gp:Nat) (tv sv cv uv:Value) (more:List Value) (name:ByteArray) (ko:Option Addr) (kn kc:Nat) (bx bm blk fan bud cols:Nat) (gcols:List Int) (sums:List (Int × Int)) (gb:List Nat) (vs:List Value) (rows:List (List V)) (d:DS) (M:List PF):Prop where
 plan:GPlan w gp name cv uv more
 tab:TabAt w tv name (.slice ko kn kc) sv
 list:LAt w sv vs
 len:vs.length=rows.length
 rowsAt:∀ i (h:i < vs.length) (h':i < rows.length),RowAt w vs[i] rows[i]
 pd:PD w bx bm d M
 ok:DiskOK d
 oks:RowsOK blk cols (gcols.map keyOf) rows
 b1:16 <= blk
 b2:blk <= 4096
 b3:(blk:Int) <= d.block
 c1:1 <= cols
 c2:cols <= 1000
 bud1:4 * blk <= bud
 bud2:bud <= 9223372036854775807
 fan1:2 <= fan
 fan2:fan <= 1000000
 few:rows.length <= 20000
 hi:Hi bm (diskF bx bm M)
 colsAt:RawAt w cv gcols
 sumsAt:SumsAt w uv sums
 inC:InX cv gb
 inS:InX uv gb
 hX:∀ k∈gb,∃ cs t f,w.heap[k]?=some (.cells cs t f) /\ t∉OwnT /\ t≠5 /\ t∉GrT
 ne:1 <= gcols.length
 cl:gcols.length <= 1000
 sl:sums.length <= 1000
 op:∀ s∈sums,s.1=1 \/ s.1=4
 good:∀ r∈rows,GoodRow gcols sums r
 prow:∀ P C out rest,gparts (sameR (gcols.map keyOf)) out=(P,C) -> C≠[] -> Srt (gcols.map keyOf) out -> (out++rest).Perm (recsOf rows) -> P.length+1 <= 20000 /\ (∀ v∈partRow gcols sums C,Fair v) /\ 16+sizeR (partRow gcols sums C) <= blk /\ (partRow gcols sums C).length <= 1000
section
variable {w w':World} {gp:Nat} {tv sv cv uv:Value} {more:List Value} {name:ByteArray} {ko:Option Addr} {kn kc:Nat} {bx bm blk fan bud cols:Nat} {gcols:List Int} {sums:List (Int × Int)} {gb:List Nat} {vs:List Value} {rows:List (List V)} {d:DS} {M:List PF}
theorem GrpAsk.quiet (h:GrpAsk w gp tv sv cv uv more name ko kn kc bx bm blk fan bud cols gcols sums gb vs rows d M) (t:Touch [] w w'):GrpAsk w' gp tv sv cv uv more name ko kn kc bx bm blk fan bud cols gcols sums gb vs rows d M:=
 { h with plan:=h.plan.keep (t.tag0 _),tab:=h.tab.keep (t.tag0 _),list:=h.list.keep (t.tag0 _),rowsAt:=fun i a b=>(h.rowsAt i a b).touch t,pd:=h.pd.away t (by simp),colsAt:=RawAt.quiet h.colsAt t,sumsAt:=h.sumsAt.touch t,hX:=fun k hk=>(let ⟨cs,t',f,e,h2⟩:=h.hX k hk; ⟨cs,t',f,t.tag0 _ _ _ _ e,h2⟩) }
theorem GrpAsk.made (h:GrpAsk w gp tv sv cv uv more name ko kn kc bx bm blk fan bud cols gcols sums gb vs rows d M) {cl cq bn bl bq bk bc bi q b:Nat} {kv wv:Value} {n0 n1 n2 n3 n4 n5 n7:Value} (hG:GrpMade w bn bl bq bk bc bi q #[n0,n1,n2,n3,n4,n5,cv,n7,uv] 162 #[.pointer (some ⟨b,0,none⟩)] kv gcols) (u1:w.heap[cq]?=some (.cells #[.pointer (some ⟨q,0,none⟩)] 159 (0,0))) (u2:w.heap[cl]?=some (.cells #[.func (.func 143) #[] #[.pointer (some ⟨bn,0,none⟩),.pointer (some ⟨bl,0,none⟩)]] 165 (0,0))) (hQ:w.heap[q]?=some (.cells #[tv,.int .i64 (blk:Int),.int .i64 (fan:Int),.int .i64 (bud:Int),.pointer (some ⟨bx,0,none⟩),wv] 162 (0,0))) (hb:w.heap[b]?=some (.cells #[sv] 36 (0,0))) :
  SrtCtx w bq bk bc bi b q tv wv kv sv bx bm blk fan bud 20000 cols (gcols.map keyOf) vs rows d M /\ GrpChk w cl cq q bn bl tv wv cv uv bx blk fan bud 132 #[.pointer (some ⟨bq,0,none⟩),.pointer (some ⟨bk,0,none⟩),.pointer (some ⟨bc,0,none⟩),.pointer (some ⟨bi,0,none⟩)] gcols sums (gcols.map keyOf) (fun l=>l=rows) (bn::gb) bm:=by
 have hbm:bm < w.heap.size:=h.pd.lt bm (by simp)
 refine ⟨⟨hG.hq,hQ,hG.hk,hG.keys,hG.hc,hG.hi,hb,h.list,h.len,h.rowsAt,h.pd,h.ok,h.oks,h.b1,h.b2,h.b3,h.c1,h.c2,h.bud1,h.bud2,h.fan1,h.fan2,by have:=h.few; omega,h.few,h.hi⟩,⟨⟨by simp [World.cell?,hG.hn],by simp [World.cell?,hG.hn],hG.hl,h.colsAt,h.sumsAt,by simp,fun a n c e=>List.mem_cons_of_mem _ (h.inC a n c e),fun a n c e=>List.mem_cons_of_mem _ (h.inS a n c e),fun k hk=>?_,h.ne,h.cl,h.sl,h.op,rfl,?_,Nat.le_of_lt hbm⟩,u1,hQ,u2,h.b2,?_⟩⟩
 ·rcases List.mem_cons.1 hk with rfl | hk
  ·exact ⟨_,_,_,hG.hn,by decide,by decide,by decide⟩
  ·exact h.hX k hk
 ·rintro l rfl
  exact ⟨h.few,h.good⟩
 ·rintro P C out l rest h1 h2 rfl h3 h4
  exact h.prow P C out rest h1 h2 h3 h4
end
theorem answerGroup_any (w:World) (gp:Nat) (tv sv:Value) (co so:Option Addr) (cc sc:Nat) (name:ByteArray) (ko:Option Addr) (kn kc:Nat) (bx bm blk fan bud cols:Nat) (gcols:List Int) (sums:List (Int × Int)) (gb:List Nat) (vs:List Value) (rows:List (List V)) (d:DS) (M:List PF) (P m j j2:Nat) (h:GrpAsk w gp tv sv (.slice co gcols.length cc) (.slice so sums.length sc) [] name ko kn kc bx bm blk fan bud cols gcols sums gb vs rows d M) (hl:Left d (2 * rows.length+((P * (rows.length+1)+m)+1)) (rows.length+j)) (hP:1000000000 <= P+j) (hPj:P+j2 <= j) (hPs:P <= 900000) :
  Calls Tryz.prog 59 #[tv,.slice (some ⟨gp,0,none⟩) 2 2,.agg #[.int .i64 (blk:Int),.int .i64 (fan:Int),.int .i64 (bud:Int)],.pointer (some ⟨bx,0,none⟩)] w fun e w'=>∃ lv out,e=.returned lv /\ SFin bx bm blk cols m j2 (gcols.map keyOf) (fun l=>l=rows) out w' /\ (∃ vs',LOwn w' lv vs' /\ vs'.length=(gall (sameR (gcols.map keyOf)) out).length /\ ∀ i (_:i < vs'.length) (_:i < (gall (sameR (gcols.map keyOf)) out).length),RowAt w' vs'[i] (partRow gcols sums (gall (sameR (gcols.map keyOf)) out)[i])) /\ Kept bm w w':=by
 have htv:∃ o n c,tv=.slice o n c:=by
  obtain ⟨g,o,cap,cs,e,_⟩:=h.tab.st
  exact ⟨_,_,_,e⟩
 obtain ⟨tO,tn,tc,rfl⟩:=htv
 have HH:Hid (GrpAsk w gp (.slice tO tn tc) sv (.slice co gcols.length cc) (.slice so sums.length sc) [] name ko kn kc bx bm blk fan bud cols gcols sums gb vs rows d M):=h
 have HL:Hid (Left d (2 * rows.length+((P * (rows.length+1)+m)+1)) (rows.length+j)):=hl
 have hgp:=(Array.getElem?_eq_some_iff.1 h.plan).1
 clear h hl
 have hmk:=make163
 go_enter_defers Tryz.func59,Tryz.ntmps59
 go_wp2
 have tA:Touch [] w (((w.alloc (.cells #[.int .i64 (blk:Int),.int .i64 (fan:Int),.int .i64 (bud:Int)] 51)).alloc (.cells #[.slice tO tn tc,.int .i64 (blk:Int),.int .i64 (fan:Int),.int .i64 (bud:Int),.pointer (some ⟨bx,0,none⟩),.slice none 0 0] 162)).alloc (.cells #[.int .i64 0,.nilFunc,.int .i64 0,.nilFunc] 167)):=(((Touch.refl [] w).alloc _).alloc _).alloc _
 have hQ:(((w.alloc (.cells #[.int .i64 (blk:Int),.int .i64 (fan:Int),.int .i64 (bud:Int)] 51)).alloc (.cells #[.slice tO tn tc,.int .i64 (blk:Int),.int .i64 (fan:Int),.int .i64 (bud:Int),.pointer (some ⟨bx,0,none⟩),.slice none 0 0] 162)).alloc (.cells #[.int .i64 0,.nilFunc,.int .i64 0,.nilFunc] 167)).heap[w.heap.size+1]?=some (.cells #[.slice tO tn tc,.int .i64 (blk:Int),.int .i64 (fan:Int),.int .i64 (bud:Int),.pointer (some ⟨bx,0,none⟩),.slice none 0 0] 162 (0,0)):=(Below.heap_alloc _ _ _ (by simp only [World.size_alloc]; omega)).trans (new2 _ _ _)
 have hG:(((w.alloc (.cells #[.int .i64 (blk:Int),.int .i64 (fan:Int),.int .i64 (bud:Int)] 51)).alloc (.cells #[.slice tO tn tc,.int .i64 (blk:Int),.int .i64 (fan:Int),.int .i64 (bud:Int),.pointer (some ⟨bx,0,none⟩),.slice none 0 0] 162)).alloc (.cells #[.int .i64 0,.nilFunc,.int .i64 0,.nilFunc] 167)).heap[w.heap.size+1+1]?=some (.cells #[.int .i64 0,.nilFunc,.int .i64 0,.nilFunc] 167 (0,0)):=by
  have e1:=heap_alloc_new ((w.alloc (.cells #[.int .i64 (blk:Int),.int .i64 (fan:Int),.int .i64 (bud:Int)] 51)).alloc (.cells #[.slice tO tn tc,.int .i64 (blk:Int),.int .i64 (fan:Int),.int .i64 (bud:Int),.pointer (some ⟨bx,0,none⟩),.slice none 0 0] 162)) (.cells #[.int .i64 0,.nilFunc,.int .i64 0,.nilFunc] 167)
  rw [World.size_alloc,World.size_alloc] at e1
  exact e1
 have hsz:w.heap.size+3 <= (((w.alloc (.cells #[.int .i64 (blk:Int),.int .i64 (fan:Int),.int .i64 (bud:Int)] 51)).alloc (.cells #[.slice tO tn tc,.int .i64 (blk:Int),.int .i64 (fan:Int),.int .i64 (bud:Int),.pointer (some ⟨bx,0,none⟩),.slice none 0 0] 162)).alloc (.cells #[.int .i64 0,.nilFunc,.int .i64 0,.nilFunc] 167)).heap.size:=by simp
 generalize ((w.alloc (.cells #[.int .i64 (blk:Int),.int .i64 (fan:Int),.int .i64 (bud:Int)] 51)).alloc (.cells #[.slice tO tn tc,.int .i64 (blk:Int),.int .i64 (fan:Int),.int .i64 (bud:Int),.pointer (some ⟨bx,0,none⟩),.slice none 0 0] 162)).alloc (.cells #[.int .i64 0,.nilFunc,.int .i64 0,.nilFunc] 167)=wa at *
 have hP0:=HH.out.plan.keep (tA.tag0 79)
 have p0:wa.cell? ⟨gp,0,none⟩=some (.int .i64 1):=hP0.cell 0 _ rfl
 have p1:wa.cell? ⟨gp,1,none⟩=some (.int .i64 0):=hP0.cell 1 _ rfl
 have p2:wa.cell? ⟨gp,2,none⟩=some (.int .i64 0):=hP0.cell 2 _ rfl
 have p3:wa.cell? ⟨gp,3,none⟩=some (.string name):=hP0.cell 3 _ rfl
 have p4:wa.cell? ⟨gp,4,none⟩=some (.slice none 0 0):=hP0.cell 4 _ rfl
 have p5:wa.cell? ⟨gp,5,none⟩=some (.int .i64 0):=hP0.cell 5 _ rfl
 have p6:wa.cell? ⟨gp,6,none⟩=some (.slice none 0 0):=hP0.cell 6 _ rfl
 have p7:wa.cell? ⟨gp,7,none⟩=some (.slice none 0 0):=hP0.cell 7 _ rfl
 have p8:wa.cell? ⟨gp,8,none⟩=some (.slice none 0 0):=hP0.cell 8 _ rfl
 have hgw:gp < wa.heap.size:=by omega
 have HRS:Hid (∀ W,Touch [] wa W -> Calls Tryz.prog 79 #[.pointer (some ⟨w.heap.size+1,0,none⟩),.agg #[.int .i64 1,.int .i64 0,.int .i64 0,.string name,.slice none 0 0,.int .i64 0,.slice none 0 0,.slice none 0 0,.slice none 0 0],.slice (some ⟨w.heap.size+1+1,0,none⟩) 2 2] W fun e w'=>∃ b,e=.returned (.agg #[.int .i64 (kn:Int),.func (.func 162) #[] #[.pointer (some ⟨b,0,none⟩)]]) /\ w'.heap[b]?=some (.cells #[sv] 36 (0,0)) /\ Touch [] W w'):=fun W hW=>by
  have hA:=HH.out.quiet (tA.trans hW)
  exact resultScan_any W (w.heap.size+1) (w.heap.size+1+1) (.slice tO tn tc) (.slice none 0 0) bx blk fan bud name kn kc ko sv vs rows _ _ (hW.tag0 _ _ _ _ hQ) hA.tab hA.list hA.len hA.rowsAt (fun r hr v hv=>by
   obtain ⟨i,hi,rfl⟩:=List.getElem_of_mem hr
   exact (hA.oks.ok i hi).fair v hv) (fun r hr=>by
   obtain ⟨i,hi,rfl⟩:=List.getElem_of_mem hr
   have e1:=(hA.oks.ok i hi).size
   have e2:=(hA.oks.ok i hi).len
   have e3:=hA.c2
   simp only at e1 e2
   exact ⟨e1,by omega⟩) hA.b2 hA.few (hW.tag0 _ _ _ _ hG)
 refine wp_loop_rounds 3 ?_
 rw [rounds_succ]
 go_wp2_with (go_at_call 79; refine (HRS.out _ ((Touch.refl [] _).alloc _)).mono ?_; rintro e w2 ⟨b,rfl,hb,t2⟩; have hG2:=(((Touch.refl [] _).alloc _).trans t2).tag0 167 _ _ _ hG; have y0:w2.cell? ⟨w.heap.size+1+1,0,none⟩=some (.int .i64 0):=(by simp [World.cell?,hG2]); have y1:w2.cell? ⟨w.heap.size+1+1,1,none⟩=some .nilFunc:=(by simp [World.cell?,hG2]); have g0:w2.frozen? ⟨w.heap.size+1+1,0,none⟩=false:=(by simp [World.frozen?,hG2]); have g1:w2.frozen? ⟨w.heap.size+1+1,1,none⟩=false:=(by simp [World.frozen?,hG2]))
 have t23:Touch [w.heap.size+1+1] w2 ((w2.setCell ⟨w.heap.size+1+1,0,none⟩ (.int .i64 (kn:Int))).setCell ⟨w.heap.size+1+1,1,none⟩ (.func (.func 162) #[] #[.pointer (some ⟨b,0,none⟩)])):=((Touch.refl [w.heap.size+1+1] w2).setCell (p:=⟨w.heap.size+1+1,0,none⟩) (by simp) _).setCell (p:=⟨w.heap.size+1+1,1,none⟩) (by simp) _
 have hG3:((w2.setCell ⟨w.heap.size+1+1,0,none⟩ (.int .i64 (kn:Int))).setCell ⟨w.heap.size+1+1,1,none⟩ (.func (.func 162) #[] #[.pointer (some ⟨b,0,none⟩)])).heap[w.heap.size+1+1]?=some (.cells #[.int .i64 (kn:Int),.func (.func 162) #[] #[.pointer (some ⟨b,0,none⟩)],.int .i64 0,.nilFunc] 167 (0,0)):=by
  rw [heap_setCell_same _ (w.heap.size+1+1) 1 _ 167 _ (heap_setCell_same w2 (w.heap.size+1+1) 0 _ 167 _ hG2)]; simp
 have ta2:Touch [] wa w2:=((Touch.refl [] _).alloc _).trans t2
 have k23:∀ t,(167:TypeId)≠t -> KeepTag t w2 ((w2.setCell ⟨w.heap.size+1+1,0,none⟩ (.int .i64 (kn:Int))).setCell ⟨w.heap.size+1+1,1,none⟩ (.func (.func 162) #[] #[.pointer (some ⟨b,0,none⟩)])):=fun t ht=>t23.tag (notag_of hG2 ht)
 have tw3:Touch [] w ((w2.setCell ⟨w.heap.size+1+1,0,none⟩ (.int .i64 (kn:Int))).setCell ⟨w.heap.size+1+1,1,none⟩ (.func (.func 162) #[] #[.pointer (some ⟨b,0,none⟩)])):=(tA.trans ta2).more t23 (fun i hi=>.inr (by rw [List.mem_singleton.1 hi]; omega))
 have hQ3:=k23 162 (by decide) _ _ _ (ta2.tag0 162 _ _ _ hQ)
 have hb3:=k23 36 (by decide) _ _ _ hb
 have hsz3:=tw3.size
 clear y0 y1 g0 g1 p0 p1 p2 p3 p4 p5 p6 p7 p8 hG2 t23 k23 t2 hb HRS hQ hG hP0 ta2
 generalize (w2.setCell ⟨w.heap.size+1+1,0,none⟩ (.int .i64 (kn:Int))).setCell ⟨w.heap.size+1+1,1,none⟩ (.func (.func 162) #[] #[.pointer (some ⟨b,0,none⟩)])=w3 at *
 have hP3:=HH.out.plan.keep (tw3.tag0 79)
 have hwt:=waits_two w3 gp 0 (.inl rfl) (hP3.cell 0 _ rfl)
 refine hwt.mono ?_
 rintro e w3' ⟨rfl,hw3⟩
 rw [hw3]
 clear hw3 w3' hwt
 go_wp2
 have p9:w3.cell? ⟨gp,9,none⟩=some (.int .i64 7):=hP3.cell 9 _ rfl
 have p10:w3.cell? ⟨gp,10,none⟩=some (.int .i64 0):=hP3.cell 10 _ rfl
 have p11:w3.cell? ⟨gp,11,none⟩=some (.int .i64 0):=hP3.cell 11 _ rfl
 have p12:w3.cell? ⟨gp,12,none⟩=some (.string ⟨#[]⟩):=hP3.cell 12 _ rfl
 have p13:w3.cell? ⟨gp,13,none⟩=some (.slice none 0 0):=hP3.cell 13 _ rfl
 have p14:w3.cell? ⟨gp,14,none⟩=some (.int .i64 0):=hP3.cell 14 _ rfl
 have p15:w3.cell? ⟨gp,15,none⟩=some (.slice co gcols.length cc):=hP3.cell 15 _ rfl
 have p16:w3.cell? ⟨gp,16,none⟩=some (.slice none 0 0):=hP3.cell 16 _ rfl
 have p17:w3.cell? ⟨gp,17,none⟩=some (.slice so sums.length sc):=hP3.cell 17 _ rfl
 have HRT:Hid (∀ W,Touch [] w3 W -> Calls Tryz.prog 79 #[.pointer (some ⟨w.heap.size+1,0,none⟩),.agg #[.int .i64 7,.int .i64 0,.int .i64 0,.string ⟨#[]⟩,.slice none 0 0,.int .i64 0,.slice co gcols.length cc,.slice none 0 0,.slice so sums.length sc],.slice (some ⟨w.heap.size+1+1,0,none⟩) 2 2] W fun e w'=>∃ cl cq bn bl bq bk bc bi kv,e=.returned (.agg #[.int .i64 ((gcols.length:Int)+(sums.length:Int)),.func (.func 140) #[] #[.pointer (some ⟨cl,0,none⟩),.pointer (some ⟨cq,0,none⟩)]]) /\ w'.heap[cq]?=some (.cells #[.pointer (some ⟨w.heap.size+1,0,none⟩)] 159 (0,0)) /\ w'.heap[cl]?=some (.cells #[.func (.func 143) #[] #[.pointer (some ⟨bn,0,none⟩),.pointer (some ⟨bl,0,none⟩)]] 165 (0,0)) /\ GrpMade w' bn bl bq bk bc bi (w.heap.size+1) #[.int .i64 7,.int .i64 0,.int .i64 0,.string ⟨#[]⟩,.slice none 0 0,.int .i64 0,.slice co gcols.length cc,.slice none 0 0,.slice so sums.length sc] 162 #[.pointer (some ⟨b,0,none⟩)] kv gcols /\ Touch [] W w'):=fun W hW=>resultGroup_any W (w.heap.size+1) (w.heap.size+1+1) 2 kn 162 #[.pointer (some ⟨b,0,none⟩)] [.int .i64 0,.nilFunc] co so cc sums.length sc gcols (by omega) (by omega) (hW.tag0 _ _ _ _ hG3) (RawAt.quiet HH.out.colsAt (tw3.trans hW)) HH.out.ne HH.out.cl HH.out.sl
 have hg3:gp < w3.heap.size:=by omega
 rw [rounds_succ]
 go_wp2_with (go_at_call 79; refine (HRT.out _ ((Touch.refl [] _).alloc _)).mono ?_; rintro e w4 ⟨cl,cq,bn,bl,bq,bk,bc,bi,kv,rfl,z1,z2,z3,t4⟩; have hG4:=(((Touch.refl [] _).alloc _).trans t4).tag0 167 _ _ _ hG3; have y0:w4.cell? ⟨w.heap.size+1+1,2,none⟩=some (.int .i64 0):=(by simp [World.cell?,hG4]); have y1:w4.cell? ⟨w.heap.size+1+1,3,none⟩=some .nilFunc:=(by simp [World.cell?,hG4]); have g0:w4.frozen? ⟨w.heap.size+1+1,2,none⟩=false:=(by simp [World.frozen?,hG4]); have g1:w4.frozen? ⟨w.heap.size+1+1,3,none⟩=false:=(by simp [World.frozen?,hG4]))
 have t45:Touch [w.heap.size+1+1] w4 ((w4.setCell ⟨w.heap.size+1+1,2,none⟩ (.int .i64 ((gcols.length:Int)+(sums.length:Int)))).setCell ⟨w.heap.size+1+1,3,none⟩ (.func (.func 140) #[] #[.pointer (some ⟨cl,0,none⟩),.pointer (some ⟨cq,0,none⟩)])):=((Touch.refl [w.heap.size+1+1] w4).setCell (p:=⟨w.heap.size+1+1,2,none⟩) (by simp) _).setCell (p:=⟨w.heap.size+1+1,3,none⟩) (by simp) _
 have hG5:((w4.setCell ⟨w.heap.size+1+1,2,none⟩ (.int .i64 ((gcols.length:Int)+(sums.length:Int)))).setCell ⟨w.heap.size+1+1,3,none⟩ (.func (.func 140) #[] #[.pointer (some ⟨cl,0,none⟩),.pointer (some ⟨cq,0,none⟩)])).heap[w.heap.size+1+1]?=some (.cells #[.int .i64 (kn:Int),.func (.func 162) #[] #[.pointer (some ⟨b,0,none⟩)],.int .i64 ((gcols.length:Int)+(sums.length:Int)),.func (.func 140) #[] #[.pointer (some ⟨cl,0,none⟩),.pointer (some ⟨cq,0,none⟩)]] 167 (0,0)):=by
  rw [heap_setCell_same _ (w.heap.size+1+1) 3 _ 167 _ (heap_setCell_same w4 (w.heap.size+1+1) 2 _ 167 _ hG4)]; simp
 have ta4:Touch [] w3 w4:=((Touch.refl [] _).alloc _).trans t4
 have k45:∀ t,(167:TypeId)≠t -> KeepTag t w4 ((w4.setCell ⟨w.heap.size+1+1,2,none⟩ (.int .i64 ((gcols.length:Int)+(sums.length:Int)))).setCell ⟨w.heap.size+1+1,3,none⟩ (.func (.func 140) #[] #[.pointer (some ⟨cl,0,none⟩),.pointer (some ⟨cq,0,none⟩)])):=fun t ht=>t45.tag (notag_of hG4 ht)
 have tw5:Touch [] w ((w4.setCell ⟨w.heap.size+1+1,2,none⟩ (.int .i64 ((gcols.length:Int)+(sums.length:Int)))).setCell ⟨w.heap.size+1+1,3,none⟩ (.func (.func 140) #[] #[.pointer (some ⟨cl,0,none⟩),.pointer (some ⟨cq,0,none⟩)])):=(tw3.trans ta4).more t45 (fun i hi=>.inr (by rw [List.mem_singleton.1 hi]; omega))
 have hQ5:=k45 162 (by decide) _ _ _ (ta4.tag0 162 _ _ _ hQ3)
 have hb5:=k45 36 (by decide) _ _ _ (ta4.tag0 36 _ _ _ hb3)
 have u1:=k45 159 (by decide) _ _ _ z1
 have u2:=k45 165 (by decide) _ _ _ z2
 have u3:GrpMade ((w4.setCell ⟨w.heap.size+1+1,2,none⟩ (.int .i64 ((gcols.length:Int)+(sums.length:Int)))).setCell ⟨w.heap.size+1+1,3,none⟩ (.func (.func 140) #[] #[.pointer (some ⟨cl,0,none⟩),.pointer (some ⟨cq,0,none⟩)])) bn bl bq bk bc bi (w.heap.size+1) #[.int .i64 7,.int .i64 0,.int .i64 0,.string ⟨#[]⟩,.slice none 0 0,.int .i64 0,.slice co gcols.length cc,.slice none 0 0,.slice so sums.length sc] 162 #[.pointer (some ⟨b,0,none⟩)] kv gcols:=⟨k45 79 (by decide) _ _ _ z3.hn,k45 165 (by decide) _ _ _ z3.hl,k45 159 (by decide) _ _ _ z3.hq,k45 74 (by decide) _ _ _ z3.hk,Sl3.keep z3.keys (k45 73 (by decide)),k45 3 (by decide) _ _ _ z3.hc,k45 165 (by decide) _ _ _ z3.hi⟩
 clear y0 y1 g0 g1 p9 p10 p11 p12 p13 p14 p15 p16 p17 hG4 t45 k45 t4 HRT hQ3 hG3 ta4 z1 z2 z3 hb3 hP3
 generalize (w4.setCell ⟨w.heap.size+1+1,2,none⟩ (.int .i64 ((gcols.length:Int)+(sums.length:Int)))).setCell ⟨w.heap.size+1+1,3,none⟩ (.func (.func 140) #[] #[.pointer (some ⟨cl,0,none⟩),.pointer (some ⟨cq,0,none⟩)])=w5 at *
 have hP5:=HH.out.plan.keep (tw5.tag0 79)
 have hwt:=waits_two w5 gp 1 (.inr rfl) (hP5.cell 0 _ rfl)
 refine hwt.mono ?_
 rintro e w5' ⟨rfl,hw5⟩
 rw [hw5]
 clear hw5 w5' hwt
 go_wp2
 rw [rounds_succ]
 have v3:w5.cell? ⟨w.heap.size+1+1,3,none⟩=some (.func (.func 140) #[] #[.pointer (some ⟨cl,0,none⟩),.pointer (some ⟨cq,0,none⟩)]):=by simp [World.cell?,hG5]
 have hA5:=HH.out.quiet tw5
 obtain ⟨hctx,hchk⟩:=hA5.made (cl:=cl) (cq:=cq) u3 u1 u2 hQ5 hb5
 have hcp:=copiedGroup_any w5 cl cq (w.heap.size+1) bn bl (.slice tO tn tc) (.slice none 0 0) (.slice co gcols.length cc) (.slice so sums.length sc) bx blk fan bud 132 _ gcols sums (gcols.map keyOf) (fun l=>l=rows) (bn::gb) bm (diskF bx bm M) bm cols m j2 hchk (enters_of Tryz.func132 (by kernel_rfl) rfl) (fun W hW=>sorted_seq W bq bk bc bi b (w.heap.size+1) (.slice tO tn tc) (.slice none 0 0) kv sv bx bm blk fan bud 20000 cols (gcols.map keyOf) vs rows d M P m j j2 (hctx.quiet hW) HL.out hP hPj hPs)
 clear hctx hchk
 go_wp2_with (go_at_call 82; refine hcp.mono ?_; rintro e w6 ⟨lv,out,rfl,x1,x2,x5⟩)
 have hQ6:=x5.2 162 (by decide) (by decide) _ _ _ hQ5
 refine leaves_cons (f:=78) (args:=#[.pointer (some ⟨w.heap.size+1,0,none⟩)]) (by simp) (by simp [go_sem]) ?_
 refine (giveBack_none w6 (w.heap.size+1) _ _ _ _ _ .returning hQ6).mono ?_
 rintro e u' w7 ⟨rfl,rfl,hw7⟩
 rw [hw7]
 exact ⟨_,results_tmp rfl _ _ _,lv,out,rfl,x1,x2,tw5.kept.trans x5⟩
end Go.Proofs.YtjoinhljdbljaaaGreat
namespace Go.Proofs.YtjoinhljdbljaaaGreat
open Go.RowKit
def colsG:List Int:=[0]
def sumsG:List (Int × Int):=[(1,0),(4,1)]
def planG (sums:List Old.VS) (more:List Old.VN):List Old.VN:=[⟨1,0,0,nameT,[],0,[],[],[]⟩,⟨7,0,0,⟨#[]⟩,[],0,[0],[],sums⟩]++more
def plan1:List Old.VN:=planG [⟨1,0⟩,⟨4,1⟩] []
def plan2:List Old.VN:=planG [] [⟨6,1,0,⟨#[]⟩,[],0,[],[],[]⟩]
def tabT (rows:List (List V)):List Old.VT:=[⟨nameT,[1,1,2,3],oldRows rows⟩]
theorem tables_ok {raw:List Int} {rows:List (List V)} (h:∀ i (h:i < rows.length),TRow raw i rows[i]):Old.NamesOK (tabT rows) /\ Old.TablesOK (tabT rows):=by
 refine ⟨fun i j hi hj hij=>?_,fun i hi=>?_⟩
 ·simp [tabT] at hi hj; omega
 ·have:i=0:=by simp [tabT] at hi; omega
  subst this
  refine ⟨⟨by simp [tabT],by simp [tabT],fun j hj=>?_⟩,fun j hj=>?_⟩
  ·simp only [tabT,List.getElem_cons_zero,List.length_cons,List.length_nil] at hj
   match j,hj with
   | 0,_=>simp [tabT,Old.Kind3]
   | 1,_=>simp [tabT,Old.Kind3]
   | 2,_=>simp [tabT,Old.Kind3]
   | 3,_=>simp [tabT,Old.Kind3]
  ·simp only [tabT,List.getElem_cons_zero,oldRows,List.length_map] at hj
   simp only [tabT,List.getElem_cons_zero,oldRows,List.getElem_map]
   exact row_pair (h j hj)
theorem tabK_t (rows:List (List V)):Old.tabK (tabT rows) nameT=[1,1,2,3]:=by simp [Old.tabK,tabT]
theorem valid_one {raw:List Int} {rows:List (List V)} (h:∀ i (h:i < rows.length),TRow raw i rows[i]):Old.ValidOK (tabT rows) plan1:=by
 have htab:=tabK_t rows
 have hcol1:Old.colsL (tabT rows) (List.take 1 plan1)=[[1,1,2,3]]:=by simp [plan1,planG,Old.colsL,Old.grow,Old.nodeL,htab]
 refine ⟨⟨by simp [plan1,planG],by simp [plan1,planG]⟩,(tables_ok h).1,(tables_ok h).2,⟨fun i hi=>?_,fun j hj=>?_,fun i hi=>?_⟩,fun i hi=>?_⟩
 ·simp only [plan1,planG,List.length_append,List.length_cons,List.length_nil] at hi
  match i,hi with
  | 0,_=>exact ⟨⟨by simp [plan1,planG],by simp [plan1,planG,Old.BareN,Old.BareR]⟩,fun x hx=>by simp [plan1,planG,Old.ins] at hx⟩
  | 1,_=>exact ⟨⟨by simp [plan1,planG],by simp [plan1,planG,Old.BareN,Old.BareR,nil_empty]⟩,fun x hx=>by simp [plan1,planG,Old.ins] at hx; subst hx; omega⟩
 ·have:j=0:=by simp [plan1,planG] at hj; omega
  subst this
  simp [plan1,planG,Old.asks,Old.ins]
 ·simp only [plan1,planG,List.length_append,List.length_cons,List.length_nil] at hi
  match i,hi with
  | 0,_=>simp [plan1,planG,Old.hF,Old.hts,Old.grow,Old.hOf]
  | 1,_=>simp [plan1,planG,Old.hF,Old.hts,Old.grow,Old.hOf]
 ·simp only [plan1,planG,List.length_append,List.length_cons,List.length_nil] at hi
  match i,hi with
  | 0,_=>
   intro _
   rw [show Old.colsL (tabT rows) (List.take 0 plan1)=[] from rfl]
   refine ⟨⟨0,by simp [tabT],rfl⟩,?_,?_⟩
   ·simp [plan1,planG,Old.nodeL,htab]
   ·simp [plan1,planG,Old.nodeL,htab]
  | 1,_=>
   intro _
   rw [hcol1]
   refine ⟨⟨by simp [plan1,planG],by simp [plan1,planG],fun i hi=>?_,fun i hi=>?_⟩,?_,?_⟩
   ·have:i=0:=by simp [plan1,planG] at hi; omega
    subst this
    simp [plan1,planG,Old.InCol,Old.colsLeft]
   ·simp only [plan1,planG,List.cons_append,List.nil_append,List.getElem_cons_succ,List.getElem_cons_zero,List.length_cons,List.length_nil] at hi
    match i,hi with
    | 0,_=>exact ⟨by simp [plan1,planG,Old.InCol,Old.colsLeft],.inl (by simp [plan1,planG])⟩
    | 1,_=>exact ⟨by simp [plan1,planG,Old.InCol,Old.colsLeft],.inr (.inr (.inr (by simp [plan1,planG,Old.colsLeft,Old.colAt])))⟩
   ·simp [plan1,planG,Old.nodeL,Old.groupL]
   ·simp [plan1,planG,Old.nodeL,Old.groupL]
theorem valid_two {raw:List Int} {rows:List (List V)} (h:∀ i (h:i < rows.length),TRow raw i rows[i]):Old.ValidOK (tabT rows) plan2:=by
 have htab:=tabK_t rows
 have hcol1:Old.colsL (tabT rows) (List.take 1 plan2)=[[1,1,2,3]]:=by simp [plan2,planG,Old.colsL,Old.grow,Old.nodeL,htab]
 have hcol2:Old.colsL (tabT rows) (List.take 2 plan2)=[[1,1,2,3],[1]]:=by simp [plan2,planG,Old.colsL,Old.grow,Old.nodeL,htab,Old.groupL,Old.colsLeft,Old.colAt]
 refine ⟨⟨by simp [plan2,planG],by simp [plan2,planG]⟩,(tables_ok h).1,(tables_ok h).2,⟨fun i hi=>?_,fun j hj=>?_,fun i hi=>?_⟩,fun i hi=>?_⟩
 ·simp only [plan2,planG,List.length_append,List.length_cons,List.length_nil] at hi
  match i,hi with
  | 0,_=>exact ⟨⟨by simp [plan2,planG],by simp [plan2,planG,Old.BareN,Old.BareR]⟩,fun x hx=>by simp [plan2,planG,Old.ins] at hx⟩
  | 1,_=>exact ⟨⟨by simp [plan2,planG],by simp [plan2,planG,Old.BareN,Old.BareR,nil_empty]⟩,fun x hx=>by simp [plan2,planG,Old.ins] at hx; subst hx; omega⟩
  | 2,_=>exact ⟨⟨by simp [plan2,planG],by simp [plan2,planG,Old.BareN,Old.BareR,nil_empty]⟩,fun x hx=>by simp [plan2,planG,Old.ins] at hx; subst hx; omega⟩
 ·simp only [plan2,planG,List.length_append,List.length_cons,List.length_nil] at hj
  match j,hj with
  | 0,_=>simp [plan2,planG,Old.asks,Old.ins]
  | 1,_=>simp [plan2,planG,Old.asks,Old.ins]
 ·simp only [plan2,planG,List.length_append,List.length_cons,List.length_nil] at hi
  match i,hi with
  | 0,_=>simp [plan2,planG,Old.hF,Old.hts,Old.grow,Old.hOf]
  | 1,_=>simp [plan2,planG,Old.hF,Old.hts,Old.grow,Old.hOf]
  | 2,_=>simp [plan2,planG,Old.hF,Old.hts,Old.grow,Old.hOf]
 ·simp only [plan2,planG,List.length_append,List.length_cons,List.length_nil] at hi
  match i,hi with
  | 0,_=>
   intro _
   rw [show Old.colsL (tabT rows) (List.take 0 plan2)=[] from rfl]
   refine ⟨⟨0,by simp [tabT],rfl⟩,?_,?_⟩
   ·simp [plan2,planG,Old.nodeL,htab]
   ·simp [plan2,planG,Old.nodeL,htab]
  | 1,_=>
   intro _
   rw [hcol1]
   refine ⟨⟨by simp [plan2,planG],by simp [plan2,planG],fun i hi=>?_,fun i hi=>?_⟩,?_,?_⟩
   ·have:i=0:=by simp [plan2,planG] at hi; omega
    subst this
    simp [plan2,planG,Old.InCol,Old.colsLeft]
   ·simp [plan2,planG] at hi
   ·simp [plan2,planG,Old.nodeL,Old.groupL]
   ·simp [plan2,planG,Old.nodeL,Old.groupL]
  | 2,_=>
   intro _
   rw [hcol2]
   refine ⟨trivial,?_,?_⟩
   ·simp [plan2,planG,Old.nodeL,Old.colsLeft]
   ·simp [plan2,planG,Old.nodeL,Old.colsLeft]
def ColsG (w:World) (bc:Nat):Prop:=w.heap[bc]?=some (.cells #[.int .i64 0] 3 (0,0))
def SumsG (w:World) (bs:Nat):Prop:=w.heap[bs]?=some (.cells #[.int .i64 1,.int .i64 0,.int .i64 4,.int .i64 1] 90 (0,0))
theorem ColsG.raw {w:World} {bc:Nat} (h:ColsG w bc):RawAt w (.slice (some ⟨bc,0,none⟩) 1 1) colsG:=by
 refine ⟨by simp [colsG,I64],by simp [colsG],_,_,rfl,fun _=>⟨bc,0,rfl,fun j hj=>?_⟩⟩
 have:j=0:=by simp [colsG] at hj; omega
 subst this
 exact boxOne h
theorem ColsG.old {w:World} {bc:Nat} (h:ColsG w bc):Old.IntsIn w [] (.slice (some ⟨bc,0,none⟩) 1 1) [0]:=by
 refine ⟨_,_,rfl,by simp,by unfold maxLen; omega,by simp [Old.ints],fun _=>⟨bc,0,rfl,by simp,fun j u hj=>?_⟩⟩
 have hj':=(List.getElem?_eq_some_iff.1 hj).1
 have:j=0:=by simp [Old.ints] at hj'; omega
 subst this
 simp [Old.ints] at hj
 subst hj
 exact boxOne h
theorem SumsG.at {w:World} {bs:Nat} (h:SumsG w bs):SumsAt w (.slice (some ⟨bs,0,none⟩) 2 2) sumsG:=by
 unfold SumsG at h
 refine ⟨_,_,rfl,Nat.le_refl _,by unfold maxLen; omega,fun _=>⟨bs,0,rfl,fun i hi=>?_⟩⟩
 simp only [sumsG,List.length_cons,List.length_nil] at hi
 match i,hi with
 | 0,_=>simp [World.cell?,h,sumsG]
 | 1,_=>simp [World.cell?,h,sumsG]
theorem SumsG.old {w:World} {bs:Nat} (h:SumsG w bs):Old.SumsIn w [] (.slice (some ⟨bs,0,none⟩) 2 2) [⟨1,0⟩,⟨4,1⟩]:=by
 unfold SumsG at h
 refine ⟨_,_,rfl,Nat.le_refl _,by unfold maxLen; omega,by simp [Old.sums2],fun _=>⟨bs,0,rfl,by simp,fun j u hj=>?_⟩⟩
 have hj':=(List.getElem?_eq_some_iff.1 hj).1
 simp only [Old.sums2,List.flatMap_cons,List.flatMap_nil,List.append_nil,List.cons_append,List.nil_append,List.length_cons,List.length_nil] at hj'
 match j,hj' with
 | 0,_=>simp [Old.sums2] at hj; subst hj; simp [World.cell?,h]
 | 1,_=>simp [Old.sums2] at hj; subst hj; simp [World.cell?,h]
 | 2,_=>simp [Old.sums2] at hj; subst hj; simp [World.cell?,h]
 | 3,_=>simp [Old.sums2] at hj; subst hj; simp [World.cell?,h]
theorem sums_none (w:World):SumsAt w (.slice none 0 0) []:=⟨_,_,rfl,Nat.le_refl _,Nat.zero_le _,fun h=>by simp at h⟩
def more2:List Value:=[.int .i64 6,.int .i64 1,.int .i64 0,.string ⟨#[]⟩,.slice none 0 0,.int .i64 0,.slice none 0 0,.slice none 0 0,.slice none 0 0]
theorem plan1_old {w:World} {gp bc bs:Nat} (h:GPlan w gp nameT (.slice (some ⟨bc,0,none⟩) 1 1) (.slice (some ⟨bs,0,none⟩) 2 2) []) (hc:ColsG w bc) (hs:SumsG w bs):Old.NodesIn w [] (.slice (some ⟨gp,0,none⟩) 2 2) plan1:=by
 refine ⟨[(.slice none 0 0,.slice none 0 0,.slice none 0 0,.slice none 0 0),(.slice none 0 0,.slice (some ⟨bc,0,none⟩) 1 1,.slice none 0 0,.slice (some ⟨bs,0,none⟩) 2 2)],rfl,⟨_,_,rfl,Nat.le_refl _,by unfold maxLen; omega,rfl,fun _=>⟨gp,0,rfl,by simp,fun j u hj=>?_⟩⟩,fun i n p hn hp=>?_⟩
 ·rw [Nat.zero_add]
  have e:Old.nodes9 (plan1.zip [(Value.slice none 0 0,Value.slice none 0 0,Value.slice none 0 0,Value.slice none 0 0),(.slice none 0 0,.slice (some ⟨bc,0,none⟩) 1 1,.slice none 0 0,.slice (some ⟨bs,0,none⟩) 2 2)])=(groupCells nameT (.slice (some ⟨bc,0,none⟩) 1 1) (.slice (some ⟨bs,0,none⟩) 2 2) []).toList:=rfl
  rw [e] at hj
  exact h.cell j u (by simpa using hj)
 ·match i,hn,hp with
  | 0,hn,hp=>
   simp [plan1,planG] at hn hp
   subst hn
   subst hp
   exact ⟨keys_nil w,ints_nil w,ints_nil w,sums_nil w⟩
  | 1,hn,hp=>
   simp [plan1,planG] at hn hp
   subst hn
   subst hp
   exact ⟨keys_nil w,hc.old,ints_nil w,hs.old⟩
  | n+2,hn,hp=>simp [plan1,planG] at hn
theorem plan2_old {w:World} {gp bc:Nat} (h:GPlan w gp nameT (.slice (some ⟨bc,0,none⟩) 1 1) (.slice none 0 0) more2) (hc:ColsG w bc):Old.NodesIn w [] (.slice (some ⟨gp,0,none⟩) 3 3) plan2:=by
 refine ⟨[(.slice none 0 0,.slice none 0 0,.slice none 0 0,.slice none 0 0),(.slice none 0 0,.slice (some ⟨bc,0,none⟩) 1 1,.slice none 0 0,.slice none 0 0),(.slice none 0 0,.slice none 0 0,.slice none 0 0,.slice none 0 0)],rfl,⟨_,_,rfl,Nat.le_refl _,by unfold maxLen; omega,rfl,fun _=>⟨gp,0,rfl,by simp,fun j u hj=>?_⟩⟩,fun i n p hn hp=>?_⟩
 ·rw [Nat.zero_add]
  have e:Old.nodes9 (plan2.zip [(Value.slice none 0 0,Value.slice none 0 0,Value.slice none 0 0,Value.slice none 0 0),(.slice none 0 0,.slice (some ⟨bc,0,none⟩) 1 1,.slice none 0 0,.slice none 0 0),(.slice none 0 0,.slice none 0 0,.slice none 0 0,.slice none 0 0)])=(groupCells nameT (.slice (some ⟨bc,0,none⟩) 1 1) (.slice none 0 0) more2).toList:=rfl
  rw [e] at hj
  exact h.cell j u (by simpa using hj)
 ·match i,hn,hp with
  | 0,hn,hp=>
   simp [plan2,planG] at hn hp
   subst hn
   subst hp
   exact ⟨keys_nil w,ints_nil w,ints_nil w,sums_nil w⟩
  | 1,hn,hp=>
   simp [plan2,planG] at hn hp
   subst hn
   subst hp
   exact ⟨keys_nil w,hc.old,ints_nil w,sums_nil w⟩
  | 2,hn,hp=>
   simp [plan2,planG] at hn hp
   subst hn
   subst hp
   exact ⟨keys_nil w,ints_nil w,ints_nil w,sums_nil w⟩
  | n+3,hn,hp=>simp [plan2,planG] at hn
theorem valid_call {W:World} {tv pv sv:Value} {bk:Nat} {vs:List Value} {rows:List (List V)} {N:List Old.VN} (hT:TabAt W tv nameT (.slice (some ⟨bk,0,none⟩) 4 4) sv) (hk:W.heap[bk]?=some (.cells kindsC 3 (0,0))) (hL:LOwn W sv vs) (hlen:vs.length=rows.length) (hr:∀ i (_:i < vs.length) (_:i < rows.length),RowAt W vs[i] rows[i]) (hp:Old.NodesIn W [] pv N) (hval:Old.ValidOK (tabT rows) N) (hN:N.length <= 1048576) (hfew:rows.length <= 20000) (hsm:∀ i (h:i < N.length),N[i].keys.length <= 1048576 /\ N[i].cols.length <= 1048576 /\ N[i].others.length <= 1048576 /\ N[i].sums.length <= 1048576) :
  Calls Tryz.prog 56 #[tv,pv] W fun e w'=>e=.returned (.bool true) /\ Touch [] W w':=by
 refine (Old.pvalid_any W _ _ (tabT rows) N (hT.old (kinds_in hk) (hL.at.1.old hlen hr hL.at.2)) hp ⟨by simp [tabT],hN,fun i hi=>?_,fun i hi=>hsm i hi⟩).mono ?_
 ·have:i=0:=by simp [tabT] at hi; omega
  subst this
  exact ⟨by simp [tabT],by simp [tabT,oldRows]; omega⟩
 ·rintro e w' ⟨b,rfl,hb,hB⟩
  obtain rfl:b=true:=hb.2 hval
  exact ⟨rfl,below_touch hB hB.size⟩
def ksG:List K:=colsG.map keyOf
theorem gflat_len {α:Type}:∀ {D:List (List α)},(∀ c∈D,c≠[]) -> D.length <= D.flatten.length
 | [],_=>by simp
 | c::D,h=>by
  have h1:=gflat_len (D:=D) (fun x hx=>h x (List.mem_cons_of_mem _ hx))
  have h2:1 <= c.length:=List.length_pos_iff.2 (h c (by simp))
  simp only [List.length_cons,List.flatten_cons,List.length_append]
  omega
theorem trow_good {raw:List Int} {r:List V} {i:Nat} {sums:List (Int × Int)} (h:TRow raw i r) (hi:i <= 1000) (hs:sums=sumsG \/ sums=[]):GoodRow colsG sums r:=by
 obtain ⟨s,hs1,rfl⟩:=h
 refine ⟨rowOf_fair _ i s hs1 (by omega),by simp [rowOf],fun c hc=>?_,fun x hx=>?_⟩
 ·simp [colsG] at hc
  subst hc
  simp [rowOf]
 ·rcases hs with rfl | rfl
  ·simp only [sumsG,List.mem_cons,List.not_mem_nil,or_false] at hx
   rcases hx with rfl | rfl
   ·refine ⟨by simp [rowOf],?_,.inl rfl⟩
    show (aOf (raw.getD i 0)).n.toNat <= 1000000
    rcases aOf_cases (raw.getD i 0) with h | ⟨n,hn,h⟩
    ·rw [h]; simp
    ·rw [h]; simp only; omega
   ·refine ⟨by simp [rowOf],?_,.inr ⟨rfl,i,by omega,rfl⟩⟩
    show ((i:Int)).toNat <= 1000000
    omega
  ·simp at hx
theorem tallies_ok {sums:List (Int × Int)} (hs:sums=sumsG \/ sums=[]) (C:List Rec) (hC:∀ l∈gath sums C,l.length <= 100000 /\ l.sum <= 100000000000):(∀ v∈talliesV (sums.map Prod.fst) (gath sums C),v.k=1 /\ Fair v) /\ (talliesV (sums.map Prod.fst) (gath sums C)).length <= 2:=by
 rcases hs with rfl | rfl
 ·refine ⟨fun v hv=>?_,by simp [talliesV,sumsG]; omega⟩
  have h1:=hC _ (List.mem_map.2 ⟨(1,0),by simp [sumsG],rfl⟩)
  have h2:=hC _ (List.mem_map.2 ⟨(4,1),by simp [sumsG],rfl⟩)
  simp only [talliesV,sumsG,gath,List.map_cons,List.map_nil,List.zipWith_cons_cons,List.zipWith_nil_left,List.mem_cons,List.not_mem_nil,or_false] at hv
  rcases hv with rfl | rfl
  ·refine ⟨by simp [tallyV],.inr (.inl ⟨by simp [tallyV],?_,by simp [tallyV]⟩)⟩
   simp only [tallyV,if_true]
   have:=h1.1
   unfold I64
   omega
  ·refine ⟨by simp [tallyV],.inr (.inl ⟨by simp [tallyV],?_,by simp [tallyV]⟩)⟩
   simp only [tallyV,show (4:Int)≠1 by decide,if_false]
   have:=h2.2
   unfold I64
   omega
 ·exact ⟨fun v hv=>by simp [talliesV] at hv,by simp [talliesV]⟩
theorem sum_nine:∀ (l:List V),(∀ v∈l,v.k=1) -> (l.map sizeV).sum=9 * l.length
 | [],_=>rfl
 | v::l,h=>by
  have h1:=sum_nine l (fun x hx=>h x (List.mem_cons_of_mem _ hx))
  have h2:sizeV v=9:=by simp [sizeV,h v (by simp)]
  simp only [List.map_cons,List.sum_cons,List.length_cons,h1,h2]
  omega
theorem part_row {raw:List Int} {rows:List (List V)} {sums:List (Int × Int)} (h:∀ i (h:i < rows.length),TRow raw i rows[i]) (hn:rows.length <= 1000) (hs:sums=sumsG \/ sums=[]) (P:List (List Rec)) (C out rest:List Rec) (h1:gparts (sameR ksG) out=(P,C)) (h2:C≠[]) (h4:(out++rest).Perm (recsOf rows)) :
  P.length+1 <= 20000 /\ (∀ v∈partRow colsG sums C,Fair v) /\ 16+sizeR (partRow colsG sums C) <= 64 /\ (partRow colsG sums C).length <= 1000:=by
 have hst:=gparts_st (sameR ksG) out
 rw [h1] at hst
 have hlen:=h4.length_eq
 have hfl:(P.flatten++C).length=out.length:=congrArg List.length hst.flat
 have hpl:P.length <= P.flatten.length:=gflat_len hst.full
 simp only [List.length_append,recsOf_len] at hlen hfl
 have hsub:∀ r∈C,∃ i,∃ hi:i < rows.length,r=⟨(i:Int),rows[i]⟩:=fun r hr=>recsOf_mem (h4.mem_iff.1 (List.mem_append_left _ (by rw [<- hst.flat]; exact List.mem_append_right _ hr)))
 have hgood:∀ r∈C,GoodRow colsG sums r.row:=fun r hr=>by
  obtain ⟨i,hi,rfl⟩:=hsub r hr
  exact trow_good (h i hi) (by omega) hs
 have hsm:=gath_small hgood (by omega)
 obtain ⟨t1,t2⟩:=tallies_ok hs C hsm
 obtain ⟨x,c,rfl⟩:∃ x c,C=x::c:=by
  cases C with
  | nil=>exact absurd rfl h2
  | cons x c=>exact ⟨x,c,rfl⟩
 obtain ⟨i,hi,hx⟩:=hsub x (by simp)
 obtain ⟨s,hs1,e⟩:=h i hi
 have hv:valsOf colsG x.row=[aOf (raw.getD i 0)]:=by rw [hx]; simp only [e]; rfl
 have hfa:Fair (aOf (raw.getD i 0)):=rowOf_fair (raw.getD i 0) i s hs1 (by omega) _ (by simp [rowOf])
 have hsz:sizeV (aOf (raw.getD i 0)) <= 9:=by
  rcases aOf_cases (raw.getD i 0) with h | ⟨n,hn,h⟩<;>rw [h]<;>simp [sizeV]
 have hp:partRow colsG sums (x::c)=aOf (raw.getD i 0)::talliesV (sums.map Prod.fst) (gath sums (x::c)):=by simp [partRow,hv]
 have hs9:=sum_nine _ (fun v hv=>(t1 v hv).1)
 rw [hp]
 refine ⟨by omega,fun v hv=>?_,?_,?_⟩
 ·rcases List.mem_cons.1 hv with rfl | hv
  ·exact hfa
  ·exact (t1 v hv).2
 ·unfold sizeR
  simp only [List.map_cons,List.sum_cons]
  omega
 ·simp only [List.length_cons]
  omega
structure GIn (w:World) (gp bk bc:Nat) (sv uv:Value) (more:List Value) (sums:List (Int × Int)) (gb:List Nat) (blk fan bud:Nat) (raw:List Int) (vs:List Value) (rows:List (List V)):Prop where
 plan:GPlan w gp nameT (.slice (some ⟨bc,0,none⟩) 1 1) uv more
 cols:ColsG w bc
 sumsAt:SumsAt w uv sums
 inB:bc∈gb
 inS:InX uv gb
 hX:∀ k∈gb,∃ cs t f,w.heap[k]?=some (.cells cs t f) /\ t∉OwnT /\ t≠5 /\ t∉GrT
 which:sums=sumsG \/ sums=[]
 kinds:w.heap[bk]?=some (.cells kindsC 3 (0,0))
 list:LOwn w sv vs
 len:vs.length=rows.length
 rowsAt:∀ i (_:i < vs.length) (_:i < rows.length),RowAt w vs[i] rows[i]
 trow:∀ i (h:i < rows.length),TRow raw i rows[i]
 num:rows.length <= 1000
 b1:64 <= blk
 b2:blk <= 4096
 f1:2 <= fan
 f2:fan <= 16
 u1:4 * blk <= bud
 u2:bud <= 1000000
section
variable {w w':World} {gp bk bc:Nat} {sv uv:Value} {more:List Value} {sums:List (Int × Int)} {gb:List Nat} {blk fan bud:Nat} {raw:List Int} {vs:List Value} {rows:List (List V)}
theorem GIn.quiet (h:GIn w gp bk bc sv uv more sums gb blk fan bud raw vs rows) (t:Touch [] w w'):GIn w' gp bk bc sv uv more sums gb blk fan bud raw vs rows:=
 { h with plan:=h.plan.keep (t.tag0 _),cols:=t.tag0 _ _ _ _ h.cols,sumsAt:=h.sumsAt.touch t,hX:=fun k hk=>(let ⟨cs,t',f,e,h2⟩:=h.hX k hk; ⟨cs,t',f,t.tag0 _ _ _ _ e,h2⟩),kinds:=t.tag0 _ _ _ _ h.kinds,list:=h.list.keep (t.tag0 _),rowsAt:=fun i a b=>(h.rowsAt i a b).touch t }
theorem GIn.ask (h:GIn w gp bk bc sv uv more sums gb blk fan bud raw vs rows) {g bx bm:Nat} (hg:w.heap[g]?=some (.cells #[.string nameT,.slice (some ⟨bk,0,none⟩) 4 4,sv] 70 (0,0))) (hp:PD w bx bm (newS 4096 ((1048576+8192 * rows.length:Nat):Int)) []) (hlow:bm <= bx) :
  GrpAsk w gp (.slice (some ⟨g,0,none⟩) 1 1) sv (.slice (some ⟨bc,0,none⟩) 1 1) uv more nameT (some ⟨bk,0,none⟩) 4 4 bx bm blk fan bud 4 colsG sums gb vs rows (newS 4096 ((1048576+8192 * rows.length:Nat):Int)) []:=by
 have hn:=h.num
 have hb1:=h.b1
 have hb2:=h.b2
 have hf2:=h.f2
 have hu2:=h.u2
 refine ⟨h.plan,⟨⟨g,0,1,_,rfl,hg,by unfold maxLen; omega,by omega,rfl,rfl,rfl⟩⟩,h.list.at.1,h.len,h.rowsAt,hp,newS_ok _,rows_ok blk hb1 hn h.trow (fun y hy=>by simp [colsG] at hy; subst hy; simp [keyOf]),by omega,hb2,?_,by omega,by omega,h.u1,by omega,h.f1,by omega,by omega,fun k hk=>by simp [diskF,rowsOf] at hk; omega,h.cols.raw,h.sumsAt,fun a n c e=>by cases e; exact h.inB,h.inS,h.hX,by simp [colsG],by simp [colsG],?_,?_,?_,fun P C out rest h1 h2 _ h4=>?_⟩
 ·simp [newS]; omega
 ·rcases h.which with e | e<;>rw [e]<;>simp [sumsG]
 ·rcases h.which with e | e<;>rw [e]<;>simp [sumsG]
 ·intro r hr
  obtain ⟨i,hi,rfl⟩:=List.getElem_of_mem hr
  exact trow_good (h.trow i hi) (by omega) h.which
 ·obtain ⟨a1,a2,a3,a4⟩:=part_row h.trow hn h.which P C out rest h1 h2 h4
  exact ⟨a1,a2,by omega,a4⟩
theorem room_left {rows:List (List V)} (hn:rows.length <= 1000):Left (newS 4096 ((1048576+8192 * rows.length:Nat):Int)) (2 * rows.length+((rows.length * (rows.length+1)+0)+1)) (rows.length+(1000000000 - rows.length)):=by
 have hr:=room_enough hn
 refine ⟨?_,?_,?_,?_⟩
 ·simp [newS,usedOf]
 ·show (0:Int)+((2 * rows.length+((rows.length * (rows.length+1)+0)+1):Nat):Int) <= max ((1048576+8192 * rows.length:Nat):Int) 0
  generalize 2 * rows.length+((rows.length * (rows.length+1)+0)+1)=x at *
  omega
 ·show (0:Int)+((2 * rows.length+((rows.length * (rows.length+1)+0)+1):Nat):Int) <= 1000000000
  generalize 2 * rows.length+((rows.length * (rows.length+1)+0)+1)=x at *
  omega
 ·simp [newS]; omega
end
def GroupOut (sums:List (Int × Int)) (rows l:List (List V)):Prop:=∃ out,out.Perm (recsOf rows) /\ Srt ksG out /\ l=(gall (sameR ksG) out).map (partRow colsG sums)
theorem askOne_any (w:World) (gp bk bc bs:Nat) (sv:Value) (blk fan bud:Nat) (raw:List Int) (vs:List Value) (rows:List (List V)) (h:GIn w gp bk bc sv (.slice (some ⟨bs,0,none⟩) 2 2) [] sumsG [bc,bs] blk fan bud raw vs rows) (hs:SumsG w bs) :
  Calls Tryz.prog 32 #[.agg #[.string nameT,.slice (some ⟨bk,0,none⟩) 4 4,sv],.slice (some ⟨gp,0,none⟩) 2 2,.agg #[.int .i64 (blk:Int),.int .i64 (fan:Int),.int .i64 (bud:Int)]] w fun e w'=>∃ lv l,e=.returned (.tuple #[lv,.int .i64 0]) /\ Ans (GroupOut sumsG rows) w.heap.size w w' lv l:=by
 refine ask_gen (GroupOut sumsG rows) w gp 2 bk sv blk fan bud vs rows h.list h.len h.num (fun W g bx bm t hg hp hlow=>?_)
 have hi:=h.quiet t
 refine query_gen (GroupOut sumsG rows) W gp 2 _ 1 1 bx bm blk fan bud _ [] hp h.b1 h.b2 h.f1 h.f2 h.u1 (by have:=h.b2; simp [newS]; omega) (fun W' t'=>?_) (fun W' t'=>?_)
 ·have hi':=hi.quiet t'
  exact valid_call ⟨⟨g,0,1,_,rfl,t'.tag0 _ _ _ _ hg,by unfold maxLen; omega,by omega,rfl,rfl,rfl⟩⟩ hi'.kinds hi'.list hi'.len hi'.rowsAt (plan1_old hi'.plan hi'.cols (t'.tag0 _ _ _ _ (t.tag0 _ _ _ _ hs))) (valid_one h.trow) (by simp [plan1,planG]) (by have:=h.num; omega) (fun i hi=>by
   simp only [plan1,planG,List.length_append,List.length_cons,List.length_nil] at hi
   match i,hi with
   | 0,_=>simp [plan1,planG]
   | 1,_=>simp [plan1,planG])
 ·have hn:=h.num
  have hA:=(hi.ask hg hp hlow).quiet t'
  refine (answerGroup_any W' gp _ sv (some ⟨bc,0,none⟩) (some ⟨bs,0,none⟩) 1 2 nameT (some ⟨bk,0,none⟩) 4 4 bx bm blk fan bud 4 colsG sumsG [bc,bs] vs rows _ [] rows.length 0 (1000000000 - rows.length) 0 hA (room_left hn) (by omega) (by omega) (by omega)).mono ?_
  rintro e w' ⟨lv,out,rfl,⟨⟨rows',rfl,h1⟩,h2,_⟩,⟨vs',a,b,c⟩,h5⟩
  exact ⟨lv,_,rfl,⟨out,h1,h2,rfl⟩,⟨vs',a,by rw [List.length_map]; exact b,fun i hi hj=>by rw [List.length_map] at hj; rw [List.getElem_map]; exact c i hi hj⟩,h5⟩
end Go.Proofs.YtjoinhljdbljaaaGreat
