/- Rows grouped, and what follows. -/
import Derived.Test.YtjoinhljdbljaaaGreatCntJToCntN
set_option maxHeartbeats 4000000
set_option maxRecDepth 20000
namespace Go.Proofs.YtjoinhljdbljaaaGreat
open Go.RowKit
attribute [local go_sem] Oper.semAt_some
def GrT:List TypeId:=[236,315,321]
def GrK:List TypeId:=[206,236,273,275,315,321]
structure GrpCtx (W:World) (bn bl:Nat) (cv sv:Value) (gf:Nat) (lb:Array Value) (cols:List Int) (sums:List (Int × Int)) (ks:List K) (Q:List (List V) -> Prop) (X:List Nat) (lo:Nat):Prop where
 c6:W.cell? ⟨bn,6,none⟩=some cv
 c8:W.cell? ⟨bn,8,none⟩=some sv
 hl:W.heap[bl]?=some (.cells #[.func (.func gf) #[] lb] 165 (0,0))
 colsAt:RawAt W cv cols
 sumsAt:SumsAt W sv sums
 inN:bn∈X
 inC:InX cv X
 inS:InX sv X
 hX:∀ k∈X,∃ cs t f,W.heap[k]?=some (.cells cs t f) /\ t∉OwnT /\ t≠5 /\ t∉GrT
 ne:1 <= cols.length
 cl:cols.length <= 1000
 sl:sums.length <= 1000
 op:∀ s∈sums,s.1=1 \/ s.1=4
 keys:ks=cols.map keyOf
 good:∀ rows,Q rows -> rows.length <= 20000 /\ ∀ r∈rows,GoodRow cols sums r
 lo_:lo <= W.heap.size
theorem GrpCtx.quiet {W W':World} {bn bl:Nat} {cv sv:Value} {gf:Nat} {lb:Array Value} {cols:List Int} {sums:List (Int × Int)} {ks:List K} {Q:List (List V) -> Prop} {X:List Nat} {lo:Nat} (h:GrpCtx W bn bl cv sv gf lb cols sums ks Q X lo) (t:Touch [] W W'):GrpCtx W' bn bl cv sv gf lb cols sums ks Q X lo:=
 { h with c6:=cell_touch h.c6 t,c8:=cell_touch h.c8 t,hl:=t.tag0 _ _ _ _ h.hl,colsAt:=h.colsAt.blocks h.inC (fun b hb=>by obtain ⟨cs,t',f,e,_⟩:=h.hX b hb; (rw [e]; exact t.tag0 _ _ _ _ e)),sumsAt:=h.sumsAt.touch t,hX:=fun k hk=>(let ⟨cs,t',f,e,h2⟩:=h.hX k hk; ⟨cs,t',f,t.tag0 _ _ _ _ e,h2⟩),lo_:=Nat.le_trans h.lo_ t.size }
def GrStep (cols:List Int) (sums:List (Int × Int)) (ks:List K) (Q:List (List V) -> Prop) (P:List (List Rec)) (v:Value) (W:World) (P':List (List Rec)):Prop:=
 ∃ C out rows rest,P'=P++[C] /\ gparts (sameR ks) out=(P,C) /\ C≠[] /\ RowAt W v (partRow cols sums C) /\ Q rows /\ Srt ks out /\ (out++rest).Perm (recsOf rows)
structure GrB (X:List Nat) (W0 W:World) (l:Nat) (cv sv:Value) (cols:List Int) (sums:List (Int × Int)) (o:Option (Rec × List Rec)):Prop where
 y:W.heap[W0.heap.size]?=some (.cells #[.func (.yield l) #[] #[]] 206 (0,0))
 part:PB W0.heap.size W (W0.heap.size+1) cv sv cols sums o
 blocks:∀ k∈X,W.heap[k]?=W0.heap[k]?
 size:W0.heap.size+4 <= W.heap.size
section
variable {X:List Nat} {W0 W W':World} {l:Nat} {cv sv:Value} {cols:List Int} {sums:List (Int × Int)} {o:Option (Rec × List Rec)}
theorem GrB.keep (h:GrB X W0 W l cv sv cols sums o) (k:∀ t∈[206,236,273,85,275,315,321],KeepTag t W W') (hs:W.heap.size <= W'.heap.size) (hb:∀ i∈X,W'.heap[i]?=W.heap[i]?):GrB X W0 W' l cv sv cols sums o:=
 ⟨k 206 (by decide) _ _ _ h.y,h.part.keep (fun t ht=>k t (List.mem_cons_of_mem _ ht)) hs (by have:=h.size; omega),fun i hi=>(hb i hi).trans (h.blocks i hi),Nat.le_trans h.size hs⟩
theorem GrB.own {lo N:Nat} {D F:List Nat} (h:GrB X W0 W l cv sv cols sums o) (hX:∀ k∈X,∃ cs t f,W0.heap[k]?=some (.cells cs t f) /\ t∉OwnT /\ t≠5 /\ t∉GrT) (g:OwnG [] lo N D F W W'):GrB X W0 W' l cv sv cols sums o:=by
 refine h.keep (fun t ht=>g.tag (fun e=>?_) (fun e=>?_) (by simp)) g.size (fun i hi=>?_)
 ·simp only [List.mem_cons,List.not_mem_nil,or_false] at ht
  rcases ht with rfl | rfl | rfl | rfl | rfl | rfl | rfl<;>exact absurd e (by decide)
 ·simp only [List.mem_cons,List.not_mem_nil,or_false] at ht
  rcases ht with rfl | rfl | rfl | rfl | rfl | rfl | rfl<;>exact absurd e (by decide)
 ·obtain ⟨cs,t,f,e,h1,h2,_⟩:=hX i hi
  have e2:=h.blocks i hi
  rw [e] at e2
  rw [e2]
  exact g.tag h1 h2 (by simp) _ _ _ e2
theorem GrB.quiet (h:GrB X W0 W l cv sv cols sums o) (hX:∀ k∈X,∃ cs t f,W0.heap[k]?=some (.cells cs t f) /\ t∉OwnT /\ t≠5 /\ t∉GrT) (t:Touch [] W W'):GrB X W0 W' l cv sv cols sums o:=h.own hX (t.g [] 0 0 [] [])
theorem GrB.yielded {N:Nat} {F:List Nat} (h:GrB X W0 W l cv sv cols sums o) (hX:∀ k∈X,∃ cs t f,W0.heap[k]?=some (.cells cs t f) /\ t∉OwnT /\ t≠5 /\ t∉GrT) (g:KeepG GrK X N F W W'):GrB X W0 W' l cv sv cols sums o:=
 h.keep (fun t ht=>g.guard.cells t (by
  simp only [List.mem_cons,List.not_mem_nil,or_false] at ht
  rcases ht with rfl | rfl | rfl | rfl | rfl | rfl | rfl<;>decide)) g.guard.size (fun i hi=>by
  obtain ⟨cs,t,f,e,h1,h2,_⟩:=hX i hi
  have e2:=h.blocks i hi
  rw [e] at e2
  rw [e2]
  exact g.blocks i hi _ e2)
theorem GrB.turn {lo:Nat} {G:List Nat} {o':Option (Rec × List Rec)} (h:GrB X W0 W l cv sv cols sums o) (hX:∀ k∈X,∃ cs t f,W0.heap[k]?=some (.cells cs t f) /\ t∉OwnT /\ t≠5 /\ t∉GrT) (t:Touch G W W') (hG:∀ k∈G,W0.heap.size <= k /\ ∃ cs t f,W.heap[k]?=some (.cells cs t f) /\ t∈GrT) (hp:PB W0.heap.size W' (W0.heap.size+1) cv sv cols sums o') (hlo:lo <= W0.heap.size) (D F:List Nat) :
  GrB X W0 W' l cv sv cols sums o' /\ OwnG GrT lo W0.heap.size D F W W' /\ KeepG [] [] (W0.heap.size+4) F W W' /\ ∀ (k:Nat) (ob:Obj),W.heap[k]?=some ob -> Odd ob -> W'.heap[k]?=some ob:=by
 obtain ⟨g1,g2⟩:=touch_guard (T:=AllT++[]) (W0.heap.size+4) t (fun k hk=>by
  obtain ⟨_,cs,t',f,e,ht⟩:=hG k hk
  refine ⟨cs,t',f,e,fun hn=>?_⟩
  simp only [GrT,List.mem_cons,List.not_mem_nil,or_false] at ht
  rcases ht with rfl | rfl | rfl<;>exact absurd hn (by decide))
 have stay:∀ (k:Nat) (cs:Array Value) (t':TypeId) (f:Nat × Nat),W.heap[k]?=some (Obj.cells cs t' f) -> t'∉GrT -> W'.heap[k]?=some (Obj.cells cs t' f):=fun k cs t' f e hn=>by
  rw [t.block k (Array.getElem?_eq_some_iff.1 e).1 (fun hk=>?_)]
  ·exact e
  ·obtain ⟨_,cs2,t2,f2,e2,ht⟩:=hG k hk
   rw [e] at e2
   simp only [Option.some.injEq,Obj.cells.injEq] at e2
   exact hn (e2.2.1▸ht)
 refine ⟨⟨stay _ _ _ _ h.y (by decide),hp,fun k hk=>?_,Nat.le_trans h.size t.size⟩,t.gT hG (by decide) hlo D F,g1.g (by simp) F,g2⟩
 obtain ⟨cs,t',f,e,_,_,h3⟩:=hX k hk
 have e2:=h.blocks k hk
 rw [e] at e2
 rw [e]
 exact stay _ _ _ _ e2 h3
end
theorem grouped_seq (W0:World) (bn bl:Nat) (cv sv:Value) (gf:Nat) (lb:Array Value) (cols:List Int) (sums:List (Int × Int)) (ks:List K) (Q:List (List V) -> Prop) (X:List Nat) (lo:Nat) (D:List Nat) (bx bm blk rc m j:Nat) (h:GrpCtx W0 bn bl cv sv gf lb cols sums ks Q X lo) (eg:∀ args w,(callFunc gf args).run Tryz.prog w=.ok (.enter gf args) w)
  (hseq:∀ W,Touch [] W0 W -> SeqG gf lb ([]:List Rec) (SFin bx bm blk rc m j ks Q) (SStep ks Q) [] [] [] lo W.heap.size D W) :
  SeqG 143 #[.pointer (some ⟨bn,0,none⟩),.pointer (some ⟨bl,0,none⟩)] ([]:List (List Rec)) (fun P W=>∃ out,P=gall (sameR ks) out /\ SFin bx bm blk rc m j ks Q out W) (GrStep cols sums ks Q) GrT GrK X lo W0.heap.size D W0:=by
 intro l J hJ hM hY h0
 have n1:bn < W0.heap.size:=by obtain ⟨_,_,_,e,_⟩:=h.hX bn h.inN; exact (Array.getElem?_eq_some_iff.1 e).1
 have n2:=(Array.getElem?_eq_some_iff.1 h.hl).1
 have tA:Touch [] W0 ((W0.alloc (.cells #[.func (.yield l) #[] #[]] 206)).alloc (.cells #[.pointer none] 236)):=((Touch.refl [] W0).alloc _).alloc _
 obtain ⟨co,cc,rfl⟩:∃ co cc,cv=.slice co cols.length cc:=by obtain ⟨_,_,ao,cap,e,_⟩:=h.colsAt; exact ⟨ao,cap,e⟩
 obtain ⟨so,sc,rfl⟩:∃ so sc,sv=.slice so sums.length sc:=by obtain ⟨ao,cap,e,_⟩:=h.sumsAt; exact ⟨ao,cap,e⟩
 have c6:=cell_touch h.c6 tA
 have c8:=cell_touch h.c8 tA
 have cl:=cell_touch (boxOne h.hl) tA
 have hne:¬ ((cols.length:Int)=0):=by have:=h.ne; omega
 refine callsIn_wide.1 (callsIn_of_wp_marks (n:=0) Tryz.func143 rfl trivial (wpIn_wide.2 ?_))
 simp only [Tryz.ntmps143,List.size_toArray,List.length_cons,List.length_nil,Nat.reduceAdd,Nat.reduceSub,Array.replicate_succ,Array.replicate_zero,List.push_toArray,List.append_toArray,List.nil_append,List.cons_append]
 go_wp2
 have x0:((W0.alloc (.cells #[.func (.yield l) #[] #[]] 206)).alloc (.cells #[.pointer none] 236)).heap[W0.heap.size]?=some (.cells #[.func (.yield l) #[] #[]] 206 (0,0)):=(Below.heap_alloc _ _ _ (by simp)).trans (heap_alloc_new W0 _)
 have x1:((W0.alloc (.cells #[.func (.yield l) #[] #[]] 206)).alloc (.cells #[.pointer none] 236)).heap[W0.heap.size+1]?=some (.cells #[.pointer none] 236 (0,0)):=by have:=heap_alloc_new (W0.alloc (.cells #[.func (.yield l) #[] #[]] 206)) (.cells #[.pointer none] 236); rw [World.size_alloc] at this; exact this
 have hsz:((W0.alloc (.cells #[.func (.yield l) #[] #[]] 206)).alloc (.cells #[.pointer none] 236)).heap.size=W0.heap.size+2:=by simp
 clear c6 c8 cl
 generalize (W0.alloc (.cells #[.func (.yield l) #[] #[]] 206)).alloc (.cells #[.pointer none] 236)=wa at *
 have tW:∀ rec:Loop,Touch [] W0 ((wa.alloc (.deferred (some []))).alloc (.loop rec)):=fun rec=>(tA.alloc _).alloc _
 have tV:∀ rec:Loop,Touch [] wa ((wa.alloc (.deferred (some []))).alloc (.loop rec)):=fun rec=>((Touch.refl [] wa).alloc _).alloc _
 have hws:wa.heap.size=W0.heap.size+2:=hsz
 have HSEQ:∀ rec:Loop,SeqG gf lb ([]:List Rec) (SFin bx bm blk rc m j ks Q) (SStep ks Q) [] [] [] lo (W0.heap.size+4) D ((wa.alloc (.deferred (some []))).alloc (.loop rec)):=fun rec=>by
  have h1:=hseq _ (tW rec)
  have e:((wa.alloc (.deferred (some []))).alloc (.loop rec)).heap.size=W0.heap.size+4:=by simp [hws]
  rw [e] at h1
  exact h1
 have HX:=h.hX
 refine range_law (w:=wa) (gf:=gf) (lb:=lb) rfl eg rfl HSEQ
  (fun s A B k ob ho e hk hle=>ho.others k ob (by omega) e (by rcases hk with ⟨r,rfl⟩ | ⟨ds,rfl⟩; exact odd_loop r; exact odd_deferred ds))
  (fun _ _ _ _ h1 h2=>h1.trans h2) (fun s W r r' e=>(Guard.putObj (T:=AllT++[]) e (by omega)).g (by simp) _)
  (fun s W=>J (s.1,(gparts (sameR ks) s.2).1) W /\ GrB X W0 W l (.slice co cols.length cc) (.slice so sums.length sc) cols sums (pOf (gparts (sameR ks) s.2).2))
  (fun s A B hi ho=>⟨hJ _ _ _ hi.1 (ho.mono (by simp) (by omega)),hi.2.own HX ho⟩)
  ?hIm ?hIp ?hSp ?h0
  (fun v=>{ tmps:=#[.func (.yield l) #[] #[],.pointer (some ⟨bn,0,none⟩),.pointer (some ⟨bl,0,none⟩),.pointer (some ⟨W0.heap.size,0,none⟩),.pointer (some ⟨W0.heap.size+1,0,none⟩),v,.pointer (some ⟨bn,6,none⟩),.slice co cols.length cc,.int .i64 (cols.length:Int),.bool false,undef,undef,undef,undef,undef,.func (.func gf) #[] lb,v,undef,undef,undef,undef,undef,undef,undef,undef,undef,undef,undef,undef,undef,undef,undef,undef,undef,undef,undef,undef,undef,undef,undef,undef,undef,undef,undef,undef,undef,undef],defers:=[] }) ?assign ?body ?done
 case hIm=>
  rintro ⟨F,s⟩ ⟨F',s'⟩ A ⟨h1,h2⟩ ⟨e1,e2,e3,e4,e5⟩
  simp only at e1 e2 e3 e4 e5
  subst e1 e2 e3
  exact ⟨hM _ (F',[]) _ h1 ⟨rfl,rfl,rfl,e4,fun k hk=>(e5 k hk).imp (fun z=>by omega) id⟩,h2⟩
 case hIp=>
  rintro s W r r' ⟨h1,h2⟩ hl
  have hg:=OwnG.putObj (T:=[]) (lo:=lo) (N:=W0.heap.size) (D:=D) (F:=s.1) (ob':=.loop r') hl (odd_loop r) (by omega) (by have:=h.lo_; omega)
  exact ⟨hJ _ _ _ h1 (hg.mono (by simp) (Nat.le_refl _)),h2.own HX hg⟩
 case hSp=>
  rintro s v s' W r r' ⟨h0,h1,x,rows,e1,e2,hr,e3⟩ hl
  exact ⟨⟨h0.1,fun k hk=>by simpa using h0.2 k hk⟩,h1,x,rows,e1,e2,Sl3.keep hr ((OwnG.putObj (T:=[]) (lo:=0) (N:=0) (D:=[]) (F:=[]) (ob':=.loop r') hl (odd_loop r) (Nat.zero_le _) (Nat.zero_le _)).tag (by decide) (by decide) (by simp)),e3⟩
 case h0=>
  intro rec
  exact ⟨hJ _ _ _ h0 ((tW rec).g _ _ _ _ _),(tV rec).tag0 206 _ _ _ x0,(tV rec).tag0 236 _ _ _ x1,fun k hk=>by obtain ⟨cs,t',f,e,_⟩:=h.hX k hk; rw [e]; exact (tW rec).tag0 _ _ _ _ e,by simp [hws]⟩
 case assign=>
  intro v W K hK
  gi_wp2
  exact hK
 case body=>
  rintro ⟨F,out⟩ v ⟨F',out'⟩ W ⟨hJ1,hB⟩ ⟨hFne,e1,y,rows,e2,hQ,hrow,hsrt,rest,hperm⟩
  have HFN:Hid (F≠[] /\ ∀ k∈F,k < W.heap.size):=hFne
  clear hFne
  simp only at e1 e2 hJ1 hB hrow hperm hsrt
  subst e2
  obtain rfl:F=F':=e1.symm
  have hgood:=h.good rows hQ
  have hlen:(out++[y]).length <= 20000:=by
   have:=hperm.length_eq
   simp only [List.length_append,List.length_singleton,recsOf_len] at this ⊢
   omega
  have hall:∀ r∈out++[y],GoodRow cols sums r.row:=fun r hr=>by
   obtain ⟨i,hi,rfl⟩:=recsOf_mem (hperm.mem_iff.1 (List.mem_append_left _ hr))
   exact hgood.2 _ (List.getElem_mem _)
  have hgy:=hall y (by simp)
  have hsto:Srt ks out /\ (out++([y]++rest)).Perm (recsOf rows):=⟨(List.pairwise_append.1 hsrt).1,by simpa using hperm⟩
  obtain ⟨vo,vcap,rfl⟩:=hrow.shape
  have hst:=gparts_st (sameR ks) out
  rw [show gparts (sameR ks) (out++[y])=gstep (sameR ks) (gparts (sameR ks) out) y from gparts_snoc _ _ _]
  generalize hgp:gparts (sameR ks) out=pc at *
  obtain ⟨P,C⟩:=pc
  dsimp only at hJ1 hB hst ⊢
  have hlo:=h.lo_
  have HKEY:ks=cols.map keyOf:=h.keys
  have hcl:=h.cl
  have hsl:=h.sl
  have hne1:=h.ne
  have HOP:=h.op
  have hinX:∀ W':World,(∀ k∈X,W'.heap[k]?=W0.heap[k]?) -> RawAt W' (.slice co cols.length cc) cols /\ SumsAt W' (.slice so sums.length sc) sums:=fun W' hb=>⟨h.colsAt.blocks h.inC hb,h.sumsAt.blocks h.inS hb⟩
  have hcell:∀ W':World,(∀ k∈X,W'.heap[k]?=W0.heap[k]?) -> W'.cell? ⟨bn,6,none⟩=some (.slice co cols.length cc) /\ W'.cell? ⟨bn,8,none⟩=some (.slice so sums.length sc):=fun W' hb=>by
   have e:=hb bn h.inN
   have h6:=h.c6
   have h8:=h.c8
   simp only [World.cell?] at h6 h8 ⊢
   rw [e]
   exact ⟨h6,h8⟩
  have HHAS:Hid (∀ (x:Rec) (c:List Rec) (W':World),C=x::c -> Touch [] W W' -> ∃ p,W'.cell? ⟨W0.heap.size+1,0,none⟩=some (.pointer (some ⟨p,0,none⟩)) /\ Calls Tryz.prog 145 #[.pointer (some ⟨p,0,none⟩),.slice vo y.row.length vcap] W' fun e w'=>∃ r:Bool,e=.returned (.bool r) /\ Hid ((r=true↔sameR ks y x=true) /\ Touch [] W' w')):=fun x c W' hC t=>by
   subst hC
   have hB':=hB.quiet HX t
   obtain ⟨p,tv,vv,gs,hp1,hp2⟩:=hB'.part
   refine ⟨p,boxOne hp1,(has_any W' p _ _ tv vv vo _ vcap cols y.row (valsOf cols x.row) hp2.box (hinX W' hB'.blocks).1 hp2.vals.row (hrow.touch t) hgy.cols (by simp [valsOf]) hcl hgy.len).mono ?_⟩
   rintro e w' ⟨r,rfl,h1,h2⟩
   refine ⟨r,rfl,h1.trans ?_,h2⟩
   have hx:x∈out:=by rw [<- hst.flat]; simp
   rw [same_code hgy.fair (hall x (by simp [hx])).fair cols,<- HKEY]
   simp [sameR]
  have HROWS:Hid (∀ (x:Rec) (c:List Rec) (W':World),C=x::c -> Touch [] W W' -> ∃ p,W'.heap[W0.heap.size+1]?=some (.cells #[.pointer (some ⟨p,0,none⟩)] 236 (0,0)) /\ Calls Tryz.prog 146 #[.pointer (some ⟨p,0,none⟩)] W' fun e w'=>∃ rv,e=.returned rv /\ Hid (RowAt w' rv (partRow cols sums C) /\ Touch [] W' w')):=fun x c W' hC t=>by
   have hB':=hB.quiet HX t
   subst hC
   obtain ⟨p,tv,vv,gs,hp1,hp2⟩:=hB'.part
   have hsub:∀ r∈x::c,r∈out:=fun r hr=>by rw [<- hst.flat]; exact List.mem_append_right _ hr
   have hle:(x::c).length <= 20000:=by
    have e1:=congrArg List.length hst.flat
    simp only [List.length_append,List.length_singleton] at e1 hlen
    omega
   refine ⟨p,hp1,(partRow_any _ W' p _ _ tv vv _ _ gs _ hp2 (fun o ho=>by obtain ⟨s,hs,rfl⟩:=List.mem_map.1 ho; exact HOP s hs) (fun l' hl'=>⟨?_,?_⟩) (by simpa [valsOf] using hne1) (by simpa [valsOf] using hcl) (by simpa using hsl)).mono ?_⟩
   ·obtain ⟨s,hs,rfl⟩:=List.mem_map.1 hl'
    simp
   ·exact (gath_small (fun r hr=>hall r (by simp [hsub r hr])) hle l' hl').2
   ·rintro e w' ⟨rv,rfl,h1,h2⟩
    exact ⟨rv,rfl,by simpa [partRow] using h1,h2⟩
  have HYLD:Hid (∀ (x:Rec) (c:List Rec) (wz w1:World) (rv:Value),C=x::c -> Touch [] W wz -> Hid (RowAt w1 rv (partRow cols sums C) /\ Touch [] wz w1) -> w1.cell? ⟨W0.heap.size,0,none⟩=some (.func (.yield l) #[] #[]) /\ YieldAt Fence.wide 0 Tryz.prog l #[rv] w1 fun e W'=>e=.returned (.bool true) /\ ∃ pv,W'.heap[W0.heap.size+1]?=some (.cells #[pv] 236 (0,0)) /\ Hid (J (F,P++[C]) W' /\ GrB X W0 W' l (.slice co cols.length cc) (.slice so sums.length sc) cols sums (pOf C) /\ KeepG [] [] (W0.heap.size+4) F W W' /\ (∀ (k:Nat) (ob:Obj),W0.heap.size <= k -> W.heap[k]?=some ob -> Odd ob -> W'.heap[k]?=some ob) /\ RowAt W' (.slice vo y.row.length vcap) y.row)):=fun x c wz w1 rv hC t hr=>by
   have t1:=t.trans hr.out.2
   have hB1:=hB.quiet HX t1
   refine ⟨boxOne hB1.y,(hY (F,P) rv (F,P++[C]) w1 (hJ _ _ _ hJ1 (t1.g _ _ _ _ _)) ⟨⟨HFN.out.1,fun k hk=>Nat.lt_of_lt_of_le (HFN.out.2 k hk) t1.size⟩,rfl,C,out,rows,[y]++rest,rfl,hgp,by rw [hC]; simp,hr.out.1,hQ,hsto.1,hsto.2⟩).mono ?_⟩
   rintro e W' ⟨rfl,a1,a2⟩
   have hB2:=hB1.yielded HX a2
   obtain ⟨g1,g2⟩:=touch_guard (T:=AllT++[]) (W0.heap.size+4) t1 (by simp)
   refine ⟨rfl,?_⟩
   obtain ⟨pv,hpv⟩:∃ pv,W'.heap[W0.heap.size+1]?=some (.cells #[pv] 236 (0,0)):=by
    have:=hB2.part
    subst hC
    obtain ⟨p,tv,vv,gs,hp1,hp2⟩:=this
    exact ⟨_,hp1⟩
   exact ⟨pv,hpv,a1,hB2,(g1.g (by simp) F).trans (a2.mono (by simp) (by simp) (by omega)),fun k ob hk e ho=>a2.guard.others k ob hk (g2 k ob e ho) ho,Sl3.keep (hrow.touch t1) (a2.guard.cells 85 (by decide))⟩
  have hmix:Tryz.prog.follows .mixedOrders=true:=by kernel_rfl
  have HPOST:Hid (∀ (W2:World) (x:Rec) (c:List Rec) (P1:List (List Rec)),J (F,P1) W2 -> GrB X W0 W2 l (.slice co cols.length cc) (.slice so sums.length sc) cols sums (some (x,c)) -> KeepG [] [] (W0.heap.size+4) F W W2 -> (∀ (k:Nat) (ob:Obj),W0.heap.size <= k -> W.heap[k]?=some ob -> Odd ob -> W2.heap[k]?=some ob) -> RowAt W2 (.slice vo y.row.length vcap) y.row -> gstep (sameR ks) (P,C) y=(P1,c++[y]) -> (c=[] /\ x=y \/ ∃ c',c=x::c') -> (∀ r∈c,r∈out) -> c.length <= out.length -> ∃ p,W2.cell? ⟨W0.heap.size+1,0,none⟩=some (.pointer (some ⟨p,0,none⟩)) /\ Calls Tryz.prog 147 #[.pointer (some ⟨p,0,none⟩),.slice vo y.row.length vcap] W2 fun e W3=>e=.returned (.tuple #[]) /\ (∀ (k:Nat) (ob:Obj),W.heap[k]?=some ob -> ((∃ r,ob=.loop r) \/ ∃ ds,ob=.deferred ds) -> (k=wa.heap.size \/ k=wa.heap.size+1) -> W3.heap[k]?=some ob) /\ KeepG [] [] (W0.heap.size+4) F W W3 /\ J (F,(gstep (sameR ks) (P,C) y).1) W3 /\ GrB X W0 W3 l (.slice co cols.length cc) (.slice so sums.length sc) cols sums (pOf (gstep (sameR ks) (P,C) y).2)):=fun W2 x c P1 q1 q2 q3 q4 q5 q6 q7 q8 q9=>by
   obtain ⟨p,tv,vv,gs,hp1,hp2⟩:=q2.part
   have hN2:W0.heap.size <= W2.heap.size:=by have:=q2.size; omega
   have hXlt:∀ k∈X,k < W0.heap.size:=fun k hk=>by obtain ⟨_,_,_,e,_⟩:=HX k hk; exact (Array.getElem?_eq_some_iff.1 e).1
   have hsums:SumsAt (baseW W2 W0.heap.size) (.slice so sums.length sc) sums:=(hinX _ (fun k hk=>(baseW_at hN2 (hXlt k hk)).trans (q2.blocks k hk))).2
   have hle:c.length <= 20000:=by simp only [List.length_append,List.length_singleton] at hlen; omega
   refine ⟨p,boxOne hp1,(partAdd_any _ W2 p _ _ tv vv _ sums gs _ vo _ vcap y.row hp2 hsums q5 (fun s hs=>(hgy.sums s hs).1) (fun s hs=>?_) (gath_small (fun r hr=>hall r (by simp [q8 r hr])) hle) hsl hgy.len).mono ?_⟩
   ·rcases (hgy.sums s hs).2.2 with e | ⟨e,n,hn,hv⟩
    ·exact .inl e
    ·exact .inr ⟨e,n,by omega,hv⟩
   ·rintro e W3 ⟨rfl,b1,b2⟩
    rw [gath_snoc] at b1
    have hG:∀ k∈gs,W0.heap.size <= k /\ ∃ cs t f,W2.heap[k]?=some (.cells cs t f) /\ t∈GrT:=fun k hk=>by
     refine ⟨by have:=hp2.newg k hk; rw [baseW_size hN2] at this; exact this,?_⟩
     obtain ⟨i,hi,rfl⟩:=List.getElem_of_mem hk
     have h1:=hp2.tal i (by rw [<- hp2.glen]; exact hi) hi (by rw [hp2.llen,<- hp2.glen]; exact hi)
     rcases h1 with ⟨_,h2⟩ | ⟨_,h2⟩
     ·exact ⟨_,_,_,h2,by decide⟩
     ·exact ⟨_,_,_,h2,by decide⟩
    have hG':∀ k∈gs,W0.heap.size <= k /\ ∃ cs t f,W2.heap[k]?=some (.cells cs t f) /\ t∈[315,321]:=fun k hk=>by
     refine ⟨(hG k hk).1,?_⟩
     obtain ⟨i,hi,rfl⟩:=List.getElem_of_mem hk
     have h1:=hp2.tal i (by rw [<- hp2.glen]; exact hi) hi (by rw [hp2.llen,<- hp2.glen]; exact hi)
     rcases h1 with ⟨_,h2⟩ | ⟨_,h2⟩
     ·exact ⟨_,_,_,h2,by decide⟩
     ·exact ⟨_,_,_,h2,by decide⟩
    have hb236:W3.heap[W0.heap.size+1]?=some (.cells #[.pointer (some ⟨p,0,none⟩)] 236 (0,0)):=by
     rw [b2.block _ (Array.getElem?_eq_some_iff.1 hp1).1 (fun hk=>?_)]
     ·exact hp1
     ·obtain ⟨_,cs,t,f,e,ht⟩:=hG' _ hk
      rw [hp1] at e
      simp only [Option.some.injEq,Obj.cells.injEq] at e
      rw [<- e.2.1] at ht
      exact absurd ht (by decide)
    obtain ⟨r1,r2,r3,r4⟩:=q2.turn HX b2 hG (o':=some (x,c++[y])) ⟨p,tv,vv,gs,hb236,b1.rebase (fun t _ _ _ _ e=>e) (Nat.le_refl _) (by rw [baseW_size hN2]; exact Nat.le_refl _)⟩ hlo D F
    refine ⟨rfl,fun k ob e ho hk=>r4 k ob (q4 k ob (by omega) e ?_) ?_,q3.trans r3,by rw [q6]; exact hJ _ _ _ q1 r2,?_⟩
    ·rcases ho with ⟨r,rfl⟩ | ⟨ds,rfl⟩; exact odd_loop r; exact odd_deferred ds
    ·rcases ho with ⟨r,rfl⟩ | ⟨ds,rfl⟩; exact odd_loop r; exact odd_deferred ds
    ·rw [q6]
     rcases q7 with ⟨rfl,rfl⟩ | ⟨c',rfl⟩
     ·exact r1
     ·exact r1
  have HB:Hid (GrB X W0 W l (.slice co cols.length cc) (.slice so sums.length sc) cols sums (pOf C)):=hB
  have HST:Hid (GSt (sameR ks) out P C):=hst
  have HROW:Hid (RowAt W (.slice vo y.row.length vcap) y.row):=hrow
  have HX':Hid (∀ k∈X,∃ cs t f,W0.heap[k]?=some (.cells cs t f) /\ t∉OwnT /\ t≠5 /\ t∉GrT):=HX
  have HIN:Hid (∀ W':World,(∀ k∈X,W'.heap[k]?=W0.heap[k]?) -> RawAt W' (.slice co cols.length cc) cols /\ SumsAt W' (.slice so sums.length sc) sums):=hinX
  have HCE:Hid (∀ W':World,(∀ k∈X,W'.heap[k]?=W0.heap[k]?) -> W'.cell? ⟨bn,6,none⟩=some (.slice co cols.length cc) /\ W'.cell? ⟨bn,8,none⟩=some (.slice so sums.length sc)):=hcell
  have HJJ:Hid (J (F,P) W):=hJ1
  have HNS:Hid (wa.heap.size=W0.heap.size+2):=hws
  have HGY:Hid (GoodRow cols sums y.row):=hgy
  have HOP':Hid (∀ s∈sums,s.1=1 \/ s.1=4):=HOP
  have HLEN:Hid ((out++[y]).length <= 20000):=hlen
  clear hB hst hrow hinX hcell hJ1 hws hsz hperm hsto hgp hall hgood hsrt HSEQ x0 x1 tA tW tV HX HKEY hgy HOP hlen
  gi_upto_region 6 with fail
  gi_cut [24] from 17 (fun b wx=>∃ bb:Bool,b=.bool bb /\ Hid ((bb=true↔∃ x c,C=x::c /\ sameR ks y x=false) /\ Touch [] W wx))
  case first=>
   cases C with
   | nil=>
    have c0:W.cell? ⟨W0.heap.size+1,0,none⟩=some (.pointer none):=boxOne HB.out.part
    gi_wp2
    refine ⟨trivial,?_⟩
    gi_wp2
    gi_meet
    case rel=>exact ⟨false,rfl,by simp,Touch.refl [] W⟩
   | cons x c=>
    obtain ⟨p,c0,hcall⟩:=HHAS.out x c W rfl (Touch.refl [] W)
    gi_wp2
    refine ⟨trivial,rfl,(CallsIn.inRound _ (callsIn_wide.2 hcall)).mono ?_⟩
    rintro e w1 ⟨r,rfl,hr⟩
    gi_wp2
    gi_meet
    case rel=>
     refine ⟨!r,rfl,?_,hr.out.2⟩
     have h1:=hr.out.1
     constructor
     ·intro hb
      refine ⟨x,c,rfl,?_⟩
      cases hs:sameR ks y x with
      | false=>rfl
      | true=>rw [h1.2 hs] at hb; cases hb
     ·rintro ⟨x',c',e,hs⟩
      simp only [List.cons.injEq] at e
      rw [<- e.1] at hs
      cases r with
      | false=>rfl
      | true=>rw [h1.1 rfl] at hs; cases hs
  case rest=>
   obtain ⟨bb,rfl,hbb⟩:=hcut
   gi_upto_if 24 with fail
   gi_cut [] from 25 (fun wx=>∃ P1 o,Hid (J (F,P1) wx /\ GrB X W0 wx l (.slice co cols.length cc) (.slice so sums.length sc) cols sums o /\ KeepG [] [] (W0.heap.size+4) F W wx /\ (∀ (k:Nat) (ob:Obj),W0.heap.size <= k -> W.heap[k]?=some ob -> Odd ob -> wx.heap[k]?=some ob) /\ RowAt wx (.slice vo y.row.length vcap) y.row /\ gstep (sameR ks) (P,C) y=(P1,(o.map Prod.snd).getD []++[y]) /\ ∀ xc,o=some xc -> (∃ c',xc.2=xc.1::c') /\ (∀ r∈xc.2,r∈out) /\ xc.2.length <= out.length))
   case first=>
    cases bb with
    | false=>
     gi_wp2
     gi_meet
     case rel=>
      obtain ⟨hb1,tc⟩:=hbb.out
      have hB:=HB.out.quiet HX'.out tc
      obtain ⟨g1,g2⟩:=touch_guard (T:=AllT++[]) (W0.heap.size+4) tc (by simp)
      refine ⟨P,pOf C,hJ _ _ _ HJJ.out (tc.g _ _ _ _ _),hB,g1.g (by simp) F,fun k ob _ e ho=>g2 k ob e ho,HROW.out.touch tc,?_,?_⟩
      ·cases C with
       | nil=>rfl
       | cons x c=>
        have hs:sameR ks y x=true:=by
         cases hs:sameR ks y x with
         | true=>rfl
         | false=>exact absurd (hb1.2 ⟨x,c,rfl,hs⟩) (by simp)
        simp [gstep,hs,pOf]
      ·intro xc hxc
       cases C with
       | nil=>cases hxc
       | cons x c=>
        simp only [pOf,Option.some.injEq] at hxc
        subst hxc
        have hfl:=HST.out.flat
        have e1:=congrArg List.length hfl
        simp only [List.length_append] at e1
        exact ⟨⟨c,rfl⟩,fun r hr=>by rw [<- hfl]; exact List.mem_append_right _ hr,by show (x::c).length <= out.length; omega⟩
    | true=>
     obtain ⟨x,c,hC,hs⟩:=hbb.out.1.1 rfl
     have TC:Hid (Touch [] W wc):=hbb.out.2
     obtain ⟨p,hp1,_⟩:=HROWS.out x c wc hC hbb.out.2
     have HK:Hid (∀ W',Touch [] wc W' -> W'.cell? ⟨W0.heap.size,0,none⟩=some (.func (.yield l) #[] #[]) /\ W'.cell? ⟨W0.heap.size+1,0,none⟩=some (.pointer (some ⟨p,0,none⟩))):=fun W' hW=>⟨boxOne (HB.out.quiet HX'.out (TC.out.trans hW)).y,cell_touch (boxOne hp1) hW⟩
     have HCALL:Hid (∀ W',Touch [] wc W' -> Calls Tryz.prog 146 #[.pointer (some ⟨p,0,none⟩)] W' fun e w'=>∃ rv,e=.returned rv /\ Hid (RowAt w' rv (partRow cols sums C) /\ Touch [] W' w')):=fun W' hW=>by
      obtain ⟨p',hp',hcall⟩:=HROWS.out x c W' hC (TC.out.trans hW)
      have:=hW.tag0 236 _ _ _ hp1
      rw [this] at hp'
      simp only [Option.some.injEq,Obj.cells.injEq] at hp'
      have e:p'=p:=by simpa using hp'.1.symm
      rw [e] at hcall
      exact hcall
     obtain ⟨k1,k2⟩:=HK.out wc (Touch.refl [] wc)
     clear hbb hp1
     gi_upto_region 7 with fail
     gi_region_with_o (first | (refine ⟨trivial,rfl,?_⟩; gi_at_call 146; refine (CallsIn.inRound _ (callsIn_wide.2 (HCALL.out _ ((Touch.refl [] _).drew)))).mono ?_; rintro e w1 ⟨rv,rfl,hZ⟩; obtain ⟨ky,fn,tmps,assign,body,hy,hR⟩:=HYLD.out x c _ w1 rv hC (TC.out.trans ((Touch.refl [] _).drew)) hZ) | (refine ⟨rfl,hR.mono ?_⟩; rintro e W5 ⟨rfl,pv,hb5,hG⟩; have c5:=boxOne hb5; have f5:W5.frozen? ⟨W0.heap.size+1,0,none⟩=false:=(by simp [World.frozen?,hb5]); have HB5:Hid (W5.heap[W0.heap.size+1]?=some (.cells #[pv] 236 (0,0))):=hb5; clear hb5))
     all_goals
      gi_wp2
      gi_meet
      case rel=>
       obtain ⟨z1,z2,z3,z4,z5⟩:=hG.out
       have t5:Touch [W0.heap.size+1] W5 (W5.setCell ⟨W0.heap.size+1,0,none⟩ (.pointer none)):=(Touch.refl [W0.heap.size+1] W5).setCell (p:=⟨W0.heap.size+1,0,none⟩) (by simp) _
       obtain ⟨r1,r2,r3,r4⟩:=z2.turn HX'.out t5 (by simp only [List.mem_singleton,forall_eq]; exact ⟨by omega,_,_,_,HB5.out,by decide⟩) (o':=none) (by show (W5.setCell ⟨W0.heap.size+1,0,none⟩ (.pointer none)).heap[W0.heap.size+1]?=_; rw [heap_setCell_same W5 (W0.heap.size+1) 0 _ 236 _ HB5.out]; simp) hlo D F
       refine ⟨P++[C],none,hJ _ _ _ z1 r2,r1,z3.trans r3,fun k ob hk e ho=>r4 k ob (z4 k ob hk e ho) ho,Sl3.keep z5 (t5.tag (notag_of HB5.out (by decide))),?_,fun xc h=>by cases h⟩
       rw [hC]
       simp [gstep,hs]
   case rest=>
    obtain ⟨P1,o,hM2⟩:=hcut
    clear hbb HHAS HROWS HYLD HB HROW HJJ HST
    cases o with
    | none=>
     have c0:wc.cell? ⟨W0.heap.size+1,0,none⟩=some (.pointer none):=boxOne hM2.out.2.1.part
     obtain ⟨c6,c8⟩:=HCE.out wc hM2.out.2.1.blocks
     have hnew:=groupsNew_any wc (.slice co cols.length cc) (.slice so sums.length sc) vo y.row.length vcap cols sums y.row (HIN.out wc hM2.out.2.1.blocks).1 (HIN.out wc hM2.out.2.1.blocks).2 hM2.out.2.2.2.2.1 HGY.out.cols HOP'.out hcl HGY.out.len hsl
     gi_wp2
     refine ⟨trivial,rfl,(CallsIn.inRound _ (callsIn_wide.2 hnew)).mono ?_⟩
     rintro e w1 ⟨p,tv,vv,gs,rfl,hp⟩
     have hb1:w1.heap[W0.heap.size+1]?=some (.cells #[.pointer none] 236 (0,0)):=hp.touch.tag0 236 _ _ _ hM2.out.2.1.part
     have f1:w1.frozen? ⟨W0.heap.size+1,0,none⟩=false:=by simp [World.frozen?,hb1]
     have c1:=boxOne hb1
     have t5:Touch [W0.heap.size+1] w1 (w1.setCell ⟨W0.heap.size+1,0,none⟩ (.pointer (some ⟨p,0,none⟩))):=(Touch.refl [W0.heap.size+1] w1).setCell (p:=⟨W0.heap.size+1,0,none⟩) (by simp) _
     obtain ⟨z1,z2,z3,z4,z5,z6,_⟩:=hM2.out
     have hb2:(w1.setCell ⟨W0.heap.size+1,0,none⟩ (.pointer (some ⟨p,0,none⟩))).heap[W0.heap.size+1]?=some (.cells #[.pointer (some ⟨p,0,none⟩)] 236 (0,0)):=by rw [heap_setCell_same w1 (W0.heap.size+1) 0 _ 236 _ hb1]; simp
     obtain ⟨r1,r2,r3,r4⟩:=(z2.quiet HX'.out hp.touch).turn HX'.out t5 (by simp only [List.mem_singleton,forall_eq]; exact ⟨by omega,_,_,_,hb1,by decide⟩) (o':=some (y,[])) ⟨p,tv,vv,gs,hb2,hp.rebase (fun t ht=>t5.tag (notag_of hb1 (fun e=>by subst e; simp at ht))) t5.size (by have:=z2.size; omega)⟩ hlo D F
     obtain ⟨g1,g2⟩:=touch_guard (T:=AllT++[]) (W0.heap.size+4) hp.touch (by simp)
     obtain ⟨p',cp,hadd⟩:=HPOST.out _ y [] P1 (hJ _ _ _ (hJ _ _ _ z1 (hp.touch.g _ _ _ _ _)) r2) r1 (z3.trans ((g1.g (by simp) F).trans r3)) (fun k ob hk e ho=>r4 k ob (g2 k ob (z4 k ob hk e ho) ho) ho) (Sl3.keep (z5.touch hp.touch) (t5.tag (notag_of hb1 (by decide)))) (by simpa using z6) (.inl ⟨rfl,rfl⟩) (by simp) (by simp)
     have e:p'=p:=by
      rw [boxOne hb2] at cp
      simpa using cp.symm
     subst e
     clear hb1 hb2 z1 z2 z3 z4 z5 z6 r1 r2 r3 r4 g1 g2 t5 hp cp c0 c6 c8 hnew
     gi_wp2
     refine ⟨trivial,rfl,(CallsIn.inRound _ (callsIn_wide.2 hadd)).mono ?_⟩
     rintro e w3 ⟨rfl,y1,y2,y3,y4⟩
     gi_wp2
     exact ⟨y1,y2,y3,y4⟩
    | some xc=>
     obtain ⟨x,c⟩:=xc
     obtain ⟨z1,z2,z3,z4,z5,z6,z7⟩:=hM2.out
     obtain ⟨⟨c',hc'⟩,hsub,hle⟩:=z7 _ rfl
     obtain ⟨p,cp,hadd⟩:=HPOST.out wc x c P1 z1 z2 z3 z4 z5 (by simpa using z6) (.inr ⟨c',hc'⟩) hsub hle
     clear z1 z2 z3 z4 z5 z6 z7 hc' hsub hle
     gi_wp2
     refine ⟨trivial,rfl,(CallsIn.inRound _ (callsIn_wide.2 hadd)).mono ?_⟩
     rintro e w3 ⟨rfl,y1,y2,y3,y4⟩
     gi_wp2
     exact ⟨y1,y2,y3,y4⟩
 case done=>
  rintro ⟨F,out⟩ W r r' ⟨hFne,hf⟩ ⟨hJ1,hB⟩ hl hk
  have hFn:F≠[] /\ ∀ k∈F,k < (W.putObj (wa.heap.size+1) (.loop r')).heap.size:=⟨hFne.1,fun k hk=>by have:=hFne.2 k hk; simpa using this⟩
  clear hFne
  simp only at hf hJ1 hB
  have hgl:=OwnG.putObj (T:=[]) (lo:=lo) (N:=W0.heap.size) (D:=D) (F:=F) (ob':=.loop r') hl (odd_loop r) (by omega) (by have:=h.lo_; omega)
  have hk1:(W.putObj (wa.heap.size+1) (.loop r')).heap[wa.heap.size]?=some (.deferred (some [])):=(World.putObj_heap_other (by omega)).trans hk
  have hFin:∀ (W:World) (l:Nat) (ob ob':Obj),SFin bx bm blk rc m j ks Q out W -> W.heap[l]?=some ob -> Odd ob -> SFin bx bm blk rc m j ks Q out (W.putObj l ob'):=by
   rintro W l ob ob' ⟨h1,h2,d',M',h3,h4⟩ e ho
   exact ⟨h1,h2,d',M',h3.guard (Guard.putOdd (B:=l+1) e ho (by omega)),h4⟩
  have hf1:=hFin _ _ _ (.loop r') hf hl (odd_loop r)
  have hJ2:=hJ _ _ _ hJ1 (hgl.mono (by simp) (Nat.le_refl _))
  have hB2:=hB.own HX hgl
  generalize W.putObj (wa.heap.size+1) (.loop r')=W2 at *
  have HFN:Hid (F≠[] /\ ∀ k∈F,k < W2.heap.size):=hFn
  clear hf hJ1 hB hl hk hgl hFn
  have hst:=gparts_st (sameR ks) out
  generalize hgp:gparts (sameR ks) out=pc at *
  obtain ⟨P,C⟩:=pc
  dsimp only at hJ2 hB2 hst
  obtain ⟨⟨rows,hQ,hperm⟩,hsrt,_⟩:=id hf1
  cases C with
  | nil=>
   have c0:W2.cell? ⟨W0.heap.size+1,0,none⟩=some (.pointer none):=boxOne hB2.part
   have hJ3:=hJ _ _ _ hJ2 (OwnG.putObj (T:=GrT) (lo:=lo) (N:=W0.heap.size) (D:=D) (F:=F) (ob':=.deferred none) hk1 (odd_deferred _) (by omega) (by have:=h.lo_; omega))
   have hf2:=hFin _ _ _ (.deferred none) hf1 hk1 (odd_deferred _)
   clear hst hperm hsrt HSEQ
   go_wp2
   refine ⟨by simp,.inl ⟨_,_,rfl,run_takeDeferred hk1,?_⟩⟩
   exact ⟨_,results_none rfl _ _ _,⟨_,rfl⟩,(F,P),⟨⟨HFN.out.1,fun k hk=>by simpa using HFN.out.2 k hk⟩,out,by simp [gall,hgp],hf2⟩,hJ3⟩
  | cons x c=>
   have hgood:=h.good rows hQ
   have hlen:out.length <= 20000:=by
    have:=hperm.length_eq
    rw [recsOf_len] at this
    omega
   have hall:∀ r∈out,GoodRow cols sums r.row:=fun r hr=>by
    obtain ⟨i,hi,rfl⟩:=recsOf_mem (hperm.mem_iff.1 hr)
    exact hgood.2 _ (List.getElem_mem _)
   obtain ⟨p,tv,vv,gs,hp1,hp2⟩:=hB2.part
   have HCALL:Hid (∀ W',Touch [] W2 W' -> Calls Tryz.prog 146 #[.pointer (some ⟨p,0,none⟩)] W' fun e w'=>∃ rv,e=.returned rv /\ Hid (RowAt w' rv (partRow cols sums (x::c)) /\ Touch [] W' w')):=fun W' t=>by
    have hle:(x::c).length <= 20000:=by
     have e1:=congrArg List.length hst.flat
     simp only [List.length_append] at e1
     omega
    refine (partRow_any _ W' p _ _ tv vv _ _ gs _ (hp2.quiet t) (fun o ho=>by obtain ⟨s,hs,rfl⟩:=List.mem_map.1 ho; exact h.op s hs) (fun l' hl'=>⟨?_,?_⟩) (by simpa [valsOf] using h.ne) (by simpa [valsOf] using h.cl) (by simpa using h.sl)).mono ?_
    ·obtain ⟨s,hs,rfl⟩:=List.mem_map.1 hl'
     simp
    ·exact (gath_small (fun r hr=>hall r (by rw [<- hst.flat]; exact List.mem_append_right _ hr)) hle l' hl').2
    ·rintro e w' ⟨rv,rfl,h1,h2⟩
     exact ⟨rv,rfl,by simpa [partRow] using h1,h2⟩
   have HYLD:Hid (∀ (wz w1:World) (rv:Value),Touch [] W2 wz -> Hid (RowAt w1 rv (partRow cols sums (x::c)) /\ Touch [] wz w1) -> w1.cell? ⟨W0.heap.size,0,none⟩=some (.func (.yield l) #[] #[]) /\ YieldAt Fence.wide 0 Tryz.prog l #[rv] w1 fun e W'=>e=.returned (.bool true) /\ W'.heap[wa.heap.size]?=some (.deferred (some [])) /\ Hid (J (F,P++[x::c]) W' /\ SFin bx bm blk rc m j ks Q out W' /\ W2.heap.size <= W'.heap.size)):=fun wz w1 rv t hr=>by
    have t1:=t.trans hr.out.2
    have hB1:=hB2.quiet HX t1
    refine ⟨boxOne hB1.y,(hY (F,P) rv (F,P++[x::c]) w1 (hJ _ _ _ hJ2 (t1.g _ _ _ _ _)) ⟨⟨HFN.out.1,fun k hk=>Nat.lt_of_lt_of_le (HFN.out.2 k hk) t1.size⟩,rfl,x::c,out,rows,[],rfl,hgp,by simp,hr.out.1,hQ,hsrt,by simpa using hperm⟩).mono ?_⟩
    rintro e W' ⟨rfl,a1,a2⟩
    obtain ⟨g1,g2⟩:=touch_guard (T:=KeepT) (W0.heap.size+4) t1 (by simp)
    refine ⟨rfl,a2.guard.others _ _ (by omega) (g2 _ _ hk1 (odd_deferred _)) (odd_deferred _),a1,?_⟩
    obtain ⟨h1,h2,d',M',h3,h4⟩:=hf1
    exact ⟨⟨h1,h2,d',M',(h3.guard g1).guard a2.k,h4⟩,Nat.le_trans t1.size a2.guard.size⟩
   have HK:Hid (∀ W',Touch [] W2 W' -> W'.cell? ⟨W0.heap.size,0,none⟩=some (.func (.yield l) #[] #[]) /\ W'.cell? ⟨W0.heap.size+1,0,none⟩=some (.pointer (some ⟨p,0,none⟩))):=fun W' hW=>⟨boxOne (hB2.quiet HX hW).y,cell_touch (boxOne hp1) hW⟩
   obtain ⟨k1,k2⟩:=HK.out W2 (Touch.refl [] W2)
   have hmix:Tryz.prog.follows .mixedOrders=true:=by kernel_rfl
   have HNS:Hid (wa.heap.size=W0.heap.size+2):=hws
   have HLO:Hid (lo <= W0.heap.size):=h.lo_
   have HGA:Hid (P++[x::c]=gall (sameR ks) out):=(by simp [gall,hgp]:P++[x::c]=gall (sameR ks) out)
   have HFIN:Hid (∀ (W:World) (l:Nat) (ob ob':Obj),SFin bx bm blk rc m j ks Q out W -> W.heap[l]?=some ob -> Odd ob -> SFin bx bm blk rc m j ks Q out (W.putObj l ob')):=hFin
   clear hst hperm hsrt HSEQ hgood hlen hall hp1 hp2 hB2 hJ2 hk1 hf1 hFin hgp hws hsz tA tW tV HX x0 x1 n1 n2
   go_upto_region 13 with fail
   refine (wpIn_wide (n:=0)).1 ?_
   gi_region_with_o (first | (refine ⟨trivial,rfl,?_⟩; gi_at_call 146; refine (callsIn_wide.2 (HCALL.out _ ((Touch.refl [] _).drew))).mono ?_; rintro e w1 ⟨rv,rfl,hZ⟩; obtain ⟨ky,fn,tmps,assign,body,hy,hR⟩:=HYLD.out _ w1 rv ((Touch.refl [] _).drew) hZ) | (refine ⟨rfl,hR.mono ?_⟩; rintro e W5 ⟨rfl,hk5,hG⟩))
   all_goals
    gi_wp2
    refine ⟨by simp,.inl ⟨_,_,rfl,run_takeDeferred hk5,?_⟩⟩
    exact ⟨_,results_none rfl _ _ _,⟨_,rfl⟩,(F,P++[x::c]),⟨⟨HFN.out.1,fun k hk=>by have:=Nat.lt_of_lt_of_le (HFN.out.2 k hk) hG.out.2.2; simpa using this⟩,out,HGA.out,HFIN.out _ _ _ (.deferred none) hG.out.2.1 hk5 (odd_deferred _)⟩,hJ _ _ _ hG.out.1 (OwnG.putObj (T:=GrT) (lo:=lo) (N:=W0.heap.size) (D:=D) (F:=F) (ob':=.deferred none) hk5 (odd_deferred _) (by have:=HNS.out; omega) (by have:=HNS.out; have:=HLO.out; omega))⟩
structure GrpMade (w:World) (bn bl bq bk bc bi q:Nat) (nd:Array Value) (gf:Nat) (lb:Array Value) (kv:Value) (cols:List Int):Prop where
 hn:w.heap[bn]?=some (.cells nd 79 (0,0))
 hl:w.heap[bl]?=some (.cells #[.func (.func 132) #[] #[.pointer (some ⟨bq,0,none⟩),.pointer (some ⟨bk,0,none⟩),.pointer (some ⟨bc,0,none⟩),.pointer (some ⟨bi,0,none⟩)]] 165 (0,0))
 hq:w.heap[bq]?=some (.cells #[.pointer (some ⟨q,0,none⟩)] 159 (0,0))
 hk:w.heap[bk]?=some (.cells #[kv] 74 (0,0))
 keys:KeysAt w kv (cols.map keyOf)
 hc:w.heap[bc]?=some (.cells #[.int .i64 (20000:Int)] 3 (0,0))
 hi:w.heap[bi]?=some (.cells #[.func (.func gf) #[] lb] 165 (0,0))
theorem GrpMade.quiet {w W:World} {bn bl bq bk bc bi q:Nat} {nd:Array Value} {gf:Nat} {lb:Array Value} {kv:Value} {cols:List Int} (h:GrpMade w bn bl bq bk bc bi q nd gf lb kv cols) (t:Touch [] w W):GrpMade W bn bl bq bk bc bi q nd gf lb kv cols:=
 ⟨t.tag0 _ _ _ _ h.hn,t.tag0 _ _ _ _ h.hl,t.tag0 _ _ _ _ h.hq,t.tag0 _ _ _ _ h.hk,h.keys.touch t,t.tag0 _ _ _ _ h.hc,t.tag0 _ _ _ _ h.hi⟩
theorem sorted_new (w:World) (q gf:Nat) (lb:Array Value) (count:Nat) (ko:Option Addr) (kn kc:Nat):Calls Tryz.prog 106 #[.pointer (some ⟨q,0,none⟩),.func (.func gf) #[] lb,.slice ko kn kc,.int .i64 (count:Int)] w fun e w'=>∃ bq bk bc bl,e=.returned (.func (.func 132) #[] #[.pointer (some ⟨bq,0,none⟩),.pointer (some ⟨bk,0,none⟩),.pointer (some ⟨bc,0,none⟩),.pointer (some ⟨bl,0,none⟩)]) /\ w'.heap[bq]?=some (.cells #[.pointer (some ⟨q,0,none⟩)] 159 (0,0)) /\ w'.heap[bl]?=some (.cells #[.func (.func gf) #[] lb] 165 (0,0)) /\ w'.heap[bk]?=some (.cells #[.slice ko kn kc] 74 (0,0)) /\ w'.heap[bc]?=some (.cells #[.int .i64 (count:Int)] 3 (0,0)) /\ w.heap.size < bl /\ Touch [] w w':=by
 have hmf:∀ (fn:Fn) (first cap:Array Value) (w:World),(Instr.makeFunc fn first cap).run Tryz.prog w=.ok (.func fn first cap) w:=fun _ _ _ _=>rfl
 go_enter Tryz.func106,Tryz.ntmps106
 go_wp2
 go_ret
 refine ⟨_,_,_,_,rfl,?_,?_,?_,?_,by simp,((((Touch.refl [] w).alloc _).alloc _).alloc _).alloc _⟩
 ·exact (Below.heap_alloc _ _ _ (by simp only [World.size_alloc]; omega)).trans ((Below.heap_alloc _ _ _ (by simp only [World.size_alloc]; omega)).trans ((Below.heap_alloc _ _ _ (by simp only [World.size_alloc]; omega)).trans (heap_alloc_new w _)))
 ·refine (Below.heap_alloc _ _ _ (by simp only [World.size_alloc]; omega)).trans ((Below.heap_alloc _ _ _ (by simp only [World.size_alloc]; omega)).trans ?_)
  have:=heap_alloc_new (w.alloc (.cells #[.pointer (some ⟨q,0,none⟩)] 159)) (.cells #[.func (.func gf) #[] lb] 165)
  rw [World.size_alloc] at this
  exact this
 ·refine (Below.heap_alloc _ _ _ (by simp only [World.size_alloc]; omega)).trans ?_
  have:=heap_alloc_new ((w.alloc (.cells #[.pointer (some ⟨q,0,none⟩)] 159)).alloc (.cells #[.func (.func gf) #[] lb] 165)) (.cells #[.slice ko kn kc] 74)
  rw [World.size_alloc,World.size_alloc] at this
  exact this
 ·have:=heap_alloc_new (((w.alloc (.cells #[.pointer (some ⟨q,0,none⟩)] 159)).alloc (.cells #[.func (.func gf) #[] lb] 165)).alloc (.cells #[.slice ko kn kc] 74)) (.cells #[.int .i64 (count:Int)] 3)
  rw [World.size_alloc,World.size_alloc,World.size_alloc] at this
  exact this
theorem grouped_any (w:World) (q:Nat) (op a b cnt:Int) (name:ByteArray) (ko co oo so:Option Addr) (kl kc cc ol oc sl sc:Nat) (cols:List Int) (gf:Nat) (lb:Array Value) (hcols:RawAt w (.slice co cols.length cc) cols) (hne:1 <= cols.length) (hcl:cols.length <= 1000) :
  Calls Tryz.prog 109 #[.pointer (some ⟨q,0,none⟩),nodeVal op a b name (.slice ko kl kc) cnt (.slice co cols.length cc) (.slice oo ol oc) (.slice so sl sc),.func (.func gf) #[] lb] w fun e w'=>∃ bn bl bq bk bc bi kv,e=.returned (.func (.func 143) #[] #[.pointer (some ⟨bn,0,none⟩),.pointer (some ⟨bl,0,none⟩)]) /\ GrpMade w' bn bl bq bk bc bi q #[.int .i64 op,.int .i64 a,.int .i64 b,.string name,.slice ko kl kc,.int .i64 cnt,.slice co cols.length cc,.slice oo ol oc,.slice so sl sc] gf lb kv cols /\ Touch [] w w':=by
 have hmf:∀ (fn:Fn) (first cap:Array Value) (w:World),(Instr.makeFunc fn first cap).run Tryz.prog w=.ok (.func fn first cap) w:=fun _ _ _ _=>rfl
 have HBY:Hid (∀ W,Touch [] w W -> Calls Tryz.prog 142 #[.slice co cols.length cc] W fun e w'=>∃ g,e=.returned (.slice (some ⟨g,0,none⟩) cols.length cols.length) /\ Hid (KeysAt w' (.slice (some ⟨g,0,none⟩) cols.length cols.length) (cols.map keyOf)) /\ Touch [] W w'):=fun W hW=>byColumns_any W _ cols (RawAt.quiet hcols hW) hcl
 have hn0:(0:Int) < (cols.length:Int):=by omega
 unfold nodeVal
 go_enter Tryz.func109,Tryz.ntmps109
 go_wp2
 have tA:Touch [] w ((w.alloc (.cells #[.int .i64 op,.int .i64 a,.int .i64 b,.string name,.slice ko kl kc,.int .i64 cnt,.slice co cols.length cc,.slice oo ol oc,.slice so sl sc] 79)).alloc (.cells #[.func (.func gf) #[] lb] 165)):=((Touch.refl [] w).alloc _).alloc _
 have x0:((w.alloc (.cells #[.int .i64 op,.int .i64 a,.int .i64 b,.string name,.slice ko kl kc,.int .i64 cnt,.slice co cols.length cc,.slice oo ol oc,.slice so sl sc] 79)).alloc (.cells #[.func (.func gf) #[] lb] 165)).heap[w.heap.size]?=some (.cells #[.int .i64 op,.int .i64 a,.int .i64 b,.string name,.slice ko kl kc,.int .i64 cnt,.slice co cols.length cc,.slice oo ol oc,.slice so sl sc] 79 (0,0)):=(Below.heap_alloc _ _ _ (by simp)).trans (heap_alloc_new w _)
 have x1:((w.alloc (.cells #[.int .i64 op,.int .i64 a,.int .i64 b,.string name,.slice ko kl kc,.int .i64 cnt,.slice co cols.length cc,.slice oo ol oc,.slice so sl sc] 79)).alloc (.cells #[.func (.func gf) #[] lb] 165)).heap[w.heap.size+1]?=some (.cells #[.func (.func gf) #[] lb] 165 (0,0)):=new2 w _ _
 generalize (w.alloc (.cells #[.int .i64 op,.int .i64 a,.int .i64 b,.string name,.slice ko kl kc,.int .i64 cnt,.slice co cols.length cc,.slice oo ol oc,.slice so sl sc] 79)).alloc (.cells #[.func (.func gf) #[] lb] 165)=wa at *
 have c6:wa.cell? ⟨w.heap.size,6,none⟩=some (.slice co cols.length cc):=by simp [World.cell?,x0]
 have c1:=boxOne x1
 have HK:Hid (∀ W,Touch [] wa W -> W.cell? ⟨w.heap.size,6,none⟩=some (.slice co cols.length cc) /\ W.cell? ⟨w.heap.size+1,0,none⟩=some (.func (.func gf) #[] lb)):=fun W hW=>⟨cell_touch c6 hW,cell_touch c1 hW⟩
 have HX0:Hid (wa.heap[w.heap.size]?=some (.cells #[.int .i64 op,.int .i64 a,.int .i64 b,.string name,.slice ko kl kc,.int .i64 cnt,.slice co cols.length cc,.slice oo ol oc,.slice so sl sc] 79 (0,0))):=x0
 have HX1:Hid (wa.heap[w.heap.size+1]?=some (.cells #[.func (.func gf) #[] lb] 165 (0,0))):=x1
 have HA:Hid (Touch [] w wa):=tA
 clear x0 x1 tA hcols
 go_cut [] from 10 (fun wx=>∃ bq bk bc bi kv,GrpMade wx w.heap.size (w.heap.size+1) bq bk bc bi q #[.int .i64 op,.int .i64 a,.int .i64 b,.string name,.slice ko kl kc,.int .i64 cnt,.slice co cols.length cc,.slice oo ol oc,.slice so sl sc] gf lb kv cols /\ Touch [] w wx)
 case first=>
  refine wp_region_last2 (fun w'=>w'.cell? ⟨w.heap.size,6,none⟩=some (.slice co cols.length cc) /\ w'.cell? ⟨w.heap.size+1,0,none⟩=some (.func (.func gf) #[] lb)) (by kernel_rfl) rfl (lastTo_spec (by kernel_rfl)) (HK.out _ ((Touch.refl [] _).drew)) (fun hHeld=>?_)
  simp only [List.pop_toArray,List.dropLast]
  generalize hQB:Behind Tryz.prog _ _=QB
  have hpan:∀ c (a:Act) d v w,QB (.panic c) (a.put d v) w -> QB (.panic c) a w:=by { rw [<- hQB]; intro _ _ d _ _ h; cases d<;>exact h }
  have HQB:Hid (Behind Tryz.prog _ _=QB):=hQB
  clear hQB c6 c1
  refine wpAnyH_take (i:=0) (v:=.pointer (some ⟨q,0,none⟩)) rfl (by kernel_rfl) (by kernel_rfl) (by kernel_rfl) (fun _ _ _ h=>hpan _ _ _ _ _ h) (Or.inl ⟨by rfl,fun wz hz=>?_⟩) hHeld ?_
  ·obtain ⟨hz0,hz1⟩:=hz
   go_simp
  simp only [Act.put,List.setIfInBounds_toArray]
  refine wpAnyH_take (i:=1) (v:=.func (.func gf) #[] lb) rfl (by kernel_rfl) (by kernel_rfl) (by kernel_rfl) (fun _ _ _ h=>hpan _ _ _ _ _ h) (Or.inl ⟨by rfl,fun wz hz=>?_⟩) hHeld ?_
  ·obtain ⟨hz0,hz1⟩:=hz
   go_simp
  simp only [Act.put]
  refine wpAnyH_take (i:=2) (v:=.pointer (some ⟨w.heap.size,6,none⟩)) rfl (by kernel_rfl) (by kernel_rfl) (by kernel_rfl) (fun _ _ _ h=>hpan _ _ _ _ _ h) (Or.inl ⟨by rfl,fun wz hz=>?_⟩) hHeld ?_
  ·obtain ⟨hz0,hz1⟩:=hz
   go_simp
  simp only [Act.put]
  refine wpAnyH_take (i:=3) (v:=.slice co cols.length cc) rfl (by kernel_rfl) (by kernel_rfl) (by kernel_rfl) (fun _ _ _ h=>hpan _ _ _ _ _ h) (Or.inl ⟨by rfl,fun wz hz=>?_⟩) hHeld ?_
  ·obtain ⟨hz0,hz1⟩:=hz
   go_simp
  simp only [Act.put]
  refine wpAnyH_ready (rs:=[4]) (by kernel_rfl) (by simp) (AllReadyH.cons rfl (fun K hK=>?_) AllReadyH.nil)
  go_simp
  refine (HBY.out _ (HA.out.trans ((Touch.refl [] _).drew))).mono ?_
  rintro e w1 ⟨g,rfl,hK1,hT1⟩
  have HT1:Hid (Touch [] wa w1):=((Touch.refl [] _).drew).trans hT1
  refine hK.out _ _ (HK.out _ HT1.out) (fun hHeld4=>?_)
  clear hK K hT1 hHeld
  refine wpAnyH_ready (rs:=[5]) (by kernel_rfl) (by simp) (AllReadyH.cons rfl (fun K hK=>?_) AllReadyH.nil)
  go_simp
  refine (sorted_new _ q gf lb 20000 (some ⟨g,0,none⟩) cols.length cols.length).mono ?_
  rintro e w3 ⟨bq,bk,bc,bi,rfl,p1,p2,p3,p4,p6,p5⟩
  have HT3:Hid (Touch [] wa w3):=HT1.out.trans p5
  have hB:=HT3.out.tag0 165 _ _ _ HX1.out
  have HP:Hid (GrpMade (w3.setCell ⟨w.heap.size+1,0,none⟩ (.func (.func 132) #[] #[.pointer (some ⟨bq,0,none⟩),.pointer (some ⟨bk,0,none⟩),.pointer (some ⟨bc,0,none⟩),.pointer (some ⟨bi,0,none⟩)])) w.heap.size (w.heap.size+1) bq bk bc bi q #[.int .i64 op,.int .i64 a,.int .i64 b,.string name,.slice ko kl kc,.int .i64 cnt,.slice co cols.length cc,.slice oo ol oc,.slice so sl sc] gf lb (.slice (some ⟨g,0,none⟩) cols.length cols.length) cols /\ Touch [] w (w3.setCell ⟨w.heap.size+1,0,none⟩ (.func (.func 132) #[] #[.pointer (some ⟨bq,0,none⟩),.pointer (some ⟨bk,0,none⟩),.pointer (some ⟨bc,0,none⟩),.pointer (some ⟨bi,0,none⟩)]))):=by
   have t5:Touch [w.heap.size+1] w3 (w3.setCell ⟨w.heap.size+1,0,none⟩ (.func (.func 132) #[] #[.pointer (some ⟨bq,0,none⟩),.pointer (some ⟨bk,0,none⟩),.pointer (some ⟨bc,0,none⟩),.pointer (some ⟨bi,0,none⟩)])):=(Touch.refl [w.heap.size+1] w3).setCell (p:=⟨w.heap.size+1,0,none⟩) (by simp) _
   have n5:∀ t,(165:TypeId)≠t -> KeepTag t w3 _:=fun t ht=>t5.tag (notag_of hB ht)
   refine ⟨⟨n5 79 (by decide) _ _ _ (HT3.out.tag0 _ _ _ _ HX0.out),?_,n5 159 (by decide) _ _ _ p1,n5 74 (by decide) _ _ _ p3,Sl3.keep (hK1.out.touch p5) (n5 73 (by decide)),n5 3 (by decide) _ _ _ p4,?_⟩,(HA.out.trans HT3.out).more t5 (fun i hi=>.inr (by rw [List.mem_singleton.1 hi]; omega))⟩
   ·rw [heap_setCell_same w3 (w.heap.size+1) 0 _ 165 _ hB]; simp
   ·exact t5.u.keep p2 (by decide) (by have h1:=(Array.getElem?_eq_some_iff.1 (HT1.out.tag0 165 _ _ _ HX1.out)).1; simp; omega)
  have f3:w3.frozen? ⟨w.heap.size+1,0,none⟩=false:=by simp [World.frozen?,hB]
  obtain ⟨z0,z1⟩:=HK.out w3 HT3.out
  refine hK.out _ _ ⟨z0,z1⟩ (fun hHeld5=>?_)
  clear hK K hHeld4 p1 p2 p3 p4 p5 hB
  refine wpAnyH_done (by kernel_rfl) ?_ _
  rw [<- HQB.out]
  unfold Behind
  change Oper.wp _ _ _ _ _ _
  go_simp
  go_wp2_with fail
  go_meet
  case rel=>exact ⟨bq,bk,bc,bi,_,HP.out⟩
 case rest=>
  obtain ⟨bq,bk,bc,bi,kv,hG,tw⟩:=hcut
  clear c6 c1
  go_wp2
  go_ret
  exact ⟨_,_,bq,bk,bc,bi,kv,rfl,hG,tw⟩
theorem resultGroup_any (w:World) (q gr N kn:Nat) (gf:Nat) (lb:Array Value) (rs:List Value) (co so:Option Addr) (cc sl sc:Nat) (cols:List Int) (hN:2 <= N) (hN2:N <= 1000) (hgr:w.heap[gr]?=some (.cells ((.int .i64 (kn:Int))::(.func (.func gf) #[] lb)::rs).toArray 167 (0,0))) (hcols:RawAt w (.slice co cols.length cc) cols) (hne:1 <= cols.length) (hcl:cols.length <= 1000) (hsl:sl <= 1000) :
  Calls Tryz.prog 79 #[.pointer (some ⟨q,0,none⟩),nodeVal 7 0 0 ⟨#[]⟩ (.slice none 0 0) 0 (.slice co cols.length cc) (.slice none 0 0) (.slice so sl sc),.slice (some ⟨gr,0,none⟩) N N] w fun e w'=>∃ cl cq bn bl bq bk bc bi kv,e=.returned (.agg #[.int .i64 ((cols.length+sl:Nat):Int),.func (.func 140) #[] #[.pointer (some ⟨cl,0,none⟩),.pointer (some ⟨cq,0,none⟩)]]) /\ w'.heap[cq]?=some (.cells #[.pointer (some ⟨q,0,none⟩)] 159 (0,0)) /\ w'.heap[cl]?=some (.cells #[.func (.func 143) #[] #[.pointer (some ⟨bn,0,none⟩),.pointer (some ⟨bl,0,none⟩)]] 165 (0,0)) /\ GrpMade w' bn bl bq bk bc bi q #[.int .i64 7,.int .i64 0,.int .i64 0,.string ⟨#[]⟩,.slice none 0 0,.int .i64 0,.slice co cols.length cc,.slice none 0 0,.slice so sl sc] gf lb kv cols /\ Touch [] w w':=by
 have r0:w.cell? ⟨gr,0,none⟩=some (.int .i64 (kn:Int)):=by simp [World.cell?,hgr]
 have r1:w.cell? ⟨gr,1,none⟩=some (.func (.func gf) #[] lb):=by simp [World.cell?,hgr]
 have hg:=(Array.getElem?_eq_some_iff.1 hgr).1
 have hn0:0 < N:=by omega
 unfold nodeVal
 go_enter Tryz.func79,Tryz.ntmps79
 go_wp2
 have tA:Touch [] w ((w.alloc (.cells #[.int .i64 7,.int .i64 0,.int .i64 0,.string ⟨#[]⟩,.slice none 0 0,.int .i64 0,.slice co cols.length cc,.slice none 0 0,.slice so sl sc] 79)).alloc (.cells #[.int .i64 0,.nilFunc] 167)):=((Touch.refl [] w).alloc _).alloc _
 have hB4:((w.alloc (.cells #[.int .i64 7,.int .i64 0,.int .i64 0,.string ⟨#[]⟩,.slice none 0 0,.int .i64 0,.slice co cols.length cc,.slice none 0 0,.slice so sl sc] 79)).alloc (.cells #[.int .i64 0,.nilFunc] 167)).heap[w.heap.size]?=some (.cells #[.int .i64 7,.int .i64 0,.int .i64 0,.string ⟨#[]⟩,.slice none 0 0,.int .i64 0,.slice co cols.length cc,.slice none 0 0,.slice so sl sc] 79 (0,0)):=(Below.heap_alloc _ _ _ (by simp)).trans (heap_alloc_new w _)
 have hB6:((w.alloc (.cells #[.int .i64 7,.int .i64 0,.int .i64 0,.string ⟨#[]⟩,.slice none 0 0,.int .i64 0,.slice co cols.length cc,.slice none 0 0,.slice so sl sc] 79)).alloc (.cells #[.int .i64 0,.nilFunc] 167)).heap[w.heap.size+1]?=some (.cells #[.int .i64 0,.nilFunc] 167 (0,0)):=new2 w _ _
 have r0':=cell_touch r0 tA
 have r1':=cell_touch r1 tA
 have hsz:w.heap.size+2 <= ((w.alloc (.cells #[.int .i64 7,.int .i64 0,.int .i64 0,.string ⟨#[]⟩,.slice none 0 0,.int .i64 0,.slice co cols.length cc,.slice none 0 0,.slice so sl sc] 79)).alloc (.cells #[.int .i64 0,.nilFunc] 167)).heap.size:=by simp
 clear r0 r1
 generalize (w.alloc (.cells #[.int .i64 7,.int .i64 0,.int .i64 0,.string ⟨#[]⟩,.slice none 0 0,.int .i64 0,.slice co cols.length cc,.slice none 0 0,.slice so sl sc] 79)).alloc (.cells #[.int .i64 0,.nilFunc] 167)=wa at *
 have c1:wa.cell? ⟨w.heap.size,1,none⟩=some (.int .i64 0):=by simp [World.cell?,hB4]
 have c2:wa.cell? ⟨w.heap.size,2,none⟩=some (.int .i64 0):=by simp [World.cell?,hB4]
 have l1:w.heap.size < wa.heap.size:=by omega
 have l2:gr < wa.heap.size:=by omega
 have l3:wa.heap.size≠w.heap.size:=by omega
 have l4:wa.heap.size≠gr:=by omega
 have l5:wa.heap.size+1≠w.heap.size:=by omega
 have l6:wa.heap.size+1≠gr:=by omega
 go_cut [7,8] from 9 (fun a e8 wx=>∃ B7 B8,a=.pointer (some ⟨B7,0,none⟩) /\ e8=.pointer (some ⟨B8,0,none⟩) /\ wx.heap[B7]?=some (.cells #[.int .i64 (kn:Int),.func (.func gf) #[] lb] 167 (0,0)) /\ Touch [] wa wx /\ wa.heap.size <= B7)
 case first=>
  go_region_held3 (fun w'=>w'.cell? ⟨w.heap.size,1,none⟩=some (.int .i64 0) /\ w'.cell? ⟨w.heap.size,2,none⟩=some (.int .i64 0) /\ w'.cell? ⟨gr,0,none⟩=some (.int .i64 (kn:Int)) /\ w'.cell? ⟨gr,1,none⟩=some (.func (.func gf) #[] lb)) (go_keep) (fail)
  all_goals
   go_wp2_with fail
   go_meet
   case rel=>exact ⟨_,_,rfl,rfl,by first | exact (Below.heap_alloc _ _ _ (by simp)).trans (heap_alloc_new wa _) | exact new2 _ _ _,(((Touch.refl [] wa).alloc _).alloc _).drew,by omega⟩
 case rest=>
  obtain ⟨B7,B8,rfl,rfl,hB7,tc,l7⟩:=hcut
  have l8:w.heap.size+1≠B7:=by omega
  have l9:B7≠w.heap.size+1:=by omega
  have tw:=tA.trans tc
  have hB4c:=tc.tag0 79 _ _ _ hB4
  have hB6c:=tc.tag0 167 _ _ _ hB6
  clear c1 c2 r0' r1' hB4 hB6
  obtain ⟨x0,x1⟩:=box2 hB7
  have HB6:Hid (wc.heap[w.heap.size+1]?=some (.cells #[.int .i64 0,.nilFunc] 167 (0,0))):=hB6c
  have HK:Hid (∀ W,Touch [] wc W -> W.cell? ⟨w.heap.size,0,none⟩=some (.int .i64 7) /\ W.cell? ⟨w.heap.size,1,none⟩=some (.int .i64 0) /\ W.cell? ⟨w.heap.size,2,none⟩=some (.int .i64 0) /\ W.cell? ⟨w.heap.size,3,none⟩=some (.string ⟨#[]⟩) /\ W.cell? ⟨w.heap.size,4,none⟩=some (.slice none 0 0) /\ W.cell? ⟨w.heap.size,5,none⟩=some (.int .i64 0) /\ W.cell? ⟨w.heap.size,6,none⟩=some (.slice co cols.length cc) /\ W.cell? ⟨w.heap.size,7,none⟩=some (.slice none 0 0) /\ W.cell? ⟨w.heap.size,8,none⟩=some (.slice so sl sc) /\ W.cell? ⟨B7,0,none⟩=some (.int .i64 (kn:Int)) /\ W.cell? ⟨B7,1,none⟩=some (.func (.func gf) #[] lb)):=fun W hW=>by
   have e:=hW.tag0 79 _ _ _ hB4c
   exact ⟨by simp [World.cell?,e],by simp [World.cell?,e],by simp [World.cell?,e],by simp [World.cell?,e],by simp [World.cell?,e],by simp [World.cell?,e],by simp [World.cell?,e],by simp [World.cell?,e],by simp [World.cell?,e],cell_touch x0 hW,cell_touch x1 hW⟩
  have HGR:Hid (∀ W,Touch [] wc W -> Calls Tryz.prog 109 #[.pointer (some ⟨q,0,none⟩),.agg #[.int .i64 7,.int .i64 0,.int .i64 0,.string ⟨#[]⟩,.slice none 0 0,.int .i64 0,.slice co cols.length cc,.slice none 0 0,.slice so sl sc],.func (.func gf) #[] lb] W fun e w'=>∃ bn bl bq bk bc bi kv,e=.returned (.func (.func 143) #[] #[.pointer (some ⟨bn,0,none⟩),.pointer (some ⟨bl,0,none⟩)]) /\ Hid (GrpMade w' bn bl bq bk bc bi q #[.int .i64 7,.int .i64 0,.int .i64 0,.string ⟨#[]⟩,.slice none 0 0,.int .i64 0,.slice co cols.length cc,.slice none 0 0,.slice so sl sc] gf lb kv cols) /\ Touch [] W w'):=fun W hW=>grouped_any W q 7 0 0 0 ⟨#[]⟩ none co none so 0 0 cc 0 0 sl sc cols gf lb (RawAt.quiet hcols (tw.trans hW)) hne hcl
  have hwr:IntKind.i64.wrap ((cols.length:Int)+(sl:Int))=(cols.length:Int)+(sl:Int):=wrap_small _ (by omega) (by omega)
  obtain ⟨n0,n1,n2,n3,n4,n5,n6,n7,n8,n9,n10⟩:=HK.out wc (Touch.refl [] wc)
  clear hcols x0 x1 hgr hB4c hB6c
  go_wp2
  go_cut [] from 61 (fun wx=>∃ cl cq bn bl bq bk bc bi kv,wx.heap[w.heap.size+1]?=some (.cells #[.int .i64 ((cols.length:Int)+(sl:Int)),.func (.func 140) #[] #[.pointer (some ⟨cl,0,none⟩),.pointer (some ⟨cq,0,none⟩)]] 167 (0,0)) /\ wx.heap[cq]?=some (.cells #[.pointer (some ⟨q,0,none⟩)] 159 (0,0)) /\ wx.heap[cl]?=some (.cells #[.func (.func 143) #[] #[.pointer (some ⟨bn,0,none⟩),.pointer (some ⟨bl,0,none⟩)]] 165 (0,0)) /\ GrpMade wx bn bl bq bk bc bi q #[.int .i64 7,.int .i64 0,.int .i64 0,.string ⟨#[]⟩,.slice none 0 0,.int .i64 0,.slice co cols.length cc,.slice none 0 0,.slice so sl sc] gf lb kv cols /\ Touch [w.heap.size+1] wc wx)
  case first=>
   go_region_held3 (fun W=>W.cell? ⟨w.heap.size,0,none⟩=some (.int .i64 7) /\ W.cell? ⟨w.heap.size,1,none⟩=some (.int .i64 0) /\ W.cell? ⟨w.heap.size,2,none⟩=some (.int .i64 0) /\ W.cell? ⟨w.heap.size,3,none⟩=some (.string ⟨#[]⟩) /\ W.cell? ⟨w.heap.size,4,none⟩=some (.slice none 0 0) /\ W.cell? ⟨w.heap.size,5,none⟩=some (.int .i64 0) /\ W.cell? ⟨w.heap.size,6,none⟩=some (.slice co cols.length cc) /\ W.cell? ⟨w.heap.size,7,none⟩=some (.slice none 0 0) /\ W.cell? ⟨w.heap.size,8,none⟩=some (.slice so sl sc) /\ W.cell? ⟨B7,0,none⟩=some (.int .i64 (kn:Int)) /\ W.cell? ⟨B7,1,none⟩=some (.func (.func gf) #[] lb)) (go_keep) (first | (go_at_call 109; refine (HGR.out _ ((Touch.refl [] _).drew)).mono ?_; rintro e w3 ⟨bn,bl,bq,bk,bc,bi,kv,rfl,hG,t3⟩; obtain ⟨k0,k1,k2,k3,k4,k5,k6,k7,k8,k9,k10⟩:=HK.out w3 (((Touch.refl [] _).drew).trans t3); have HT3:Hid (Touch [] wc w3):=((Touch.refl [] _).drew).trans t3; clear t3) | (go_at_call 108; refine (checked_any _ q _ _).mono ?_; rintro e w4 ⟨cl,cq,rfl,z1,z2,t4⟩; obtain ⟨j0,j1,j2,j3,j4,j5,j6,j7,j8,j9,j10⟩:=HK.out w4 (HT3.out.trans t4); have HZ:Hid (w4.heap[cq]?=some (.cells #[.pointer (some ⟨q,0,none⟩)] 159 (0,0)) /\ w4.heap[cl]?=some (.cells #[.func (.func 143) #[] #[.pointer (some ⟨bn,0,none⟩),.pointer (some ⟨bl,0,none⟩)]] 165 (0,0)) /\ Touch [] w3 w4):=⟨z1,z2,t4⟩; have hB6d:=(HT3.out.trans t4).tag0 167 _ _ _ HB6.out; have g0:w4.frozen? ⟨w.heap.size+1,0,none⟩=false:=(by simp [World.frozen?,hB6d]); have g1:w4.frozen? ⟨w.heap.size+1,1,none⟩=false:=(by simp [World.frozen?,hB6d]); obtain ⟨y0,y1⟩:=box2 hB6d; have HB6d:Hid (w4.heap[w.heap.size+1]?=some (.cells #[.int .i64 0,.nilFunc] 167 (0,0))):=hB6d; clear hB6d z1 z2 t4))
   all_goals
    go_wp2_with fail
    go_meet
    case rel=>
     have t5:Touch [w.heap.size+1] w4 ((w4.setCell ⟨w.heap.size+1,0,none⟩ (.int .i64 ((cols.length:Int)+(sl:Int)))).setCell ⟨w.heap.size+1,1,none⟩ (.func (.func 140) #[] #[.pointer (some ⟨cl,0,none⟩),.pointer (some ⟨cq,0,none⟩)])):=((Touch.refl [w.heap.size+1] w4).setCell (p:=⟨w.heap.size+1,0,none⟩) (by simp) _).setCell (p:=⟨w.heap.size+1,1,none⟩) (by simp) _
     have n5:∀ t,(167:TypeId)≠t -> KeepTag t w4 _:=fun t ht=>t5.tag (notag_of HB6d.out ht)
     obtain ⟨z1,z2,t4⟩:=HZ.out
     have hG4:=hG.out.quiet t4
     refine ⟨cl,cq,bn,bl,bq,bk,bc,bi,kv,?_,n5 159 (by decide) _ _ _ z1,n5 165 (by decide) _ _ _ z2,⟨n5 79 (by decide) _ _ _ hG4.hn,n5 165 (by decide) _ _ _ hG4.hl,n5 159 (by decide) _ _ _ hG4.hq,n5 74 (by decide) _ _ _ hG4.hk,Sl3.keep hG4.keys (n5 73 (by decide)),n5 3 (by decide) _ _ _ hG4.hc,n5 165 (by decide) _ _ _ hG4.hi⟩,((HT3.out.trans t4).mono (by simp)).trans t5⟩
     rw [heap_setCell_same _ (w.heap.size+1) 1 _ 167 _ (heap_setCell_same w4 (w.heap.size+1) 0 _ 167 _ HB6d.out)]; simp
  case rest=>
   obtain ⟨cl,cq,bn,bl,bq,bk,bc,bi,kv,p0,p1,p2,p3,t5⟩:=hcut
   obtain ⟨z0,z1⟩:=box2 p0
   clear n0 n1 n2 n3 n4 n5 n6 n7 n8 n9 n10
   go_wp2
   exact bodyPost_ret (v:=.agg #[.int .i64 ((cols.length+sl:Nat):Int),.func (.func 140) #[] #[.pointer (some ⟨cl,0,none⟩),.pointer (some ⟨cq,0,none⟩)]]) (by simp [results,Tryz.results79,go_sem,z0,z1]) rfl ⟨cl,cq,bn,bl,bq,bk,bc,bi,kv,rfl,p1,p2,p3,tw.more t5 (fun i hi=>.inr (by rw [List.mem_singleton.1 hi]; omega))⟩
end Go.Proofs.YtjoinhljdbljaaaGreat
