/- A run deleted; the walk of deleteAll, and what follows. -/
import Derived.Test.YtjoinhljdbljaaaGreatMrgA
import Derived.Defers
set_option maxHeartbeats 4000000
set_option maxRecDepth 20000
namespace Go.Proofs.YtjoinhljdbljaaaGreat
open Go.RowKit
theorem RunsSt.deleted {w w':World} {bx bm blk cols:Nat} {d d':DS} {M M':List PF} {x:RI} {pre:List RI} (h:RunsSt w bx bm blk cols d M (x::pre) none) (hP:PD w' bx bm d' M') (hD:DStep d d' x.file none) (hl:d'.last=d.last) (t:Touch [bx,bm] w w'):RunsSt w' bx bm blk cols d' M' pre none:=by
 have hf:=h.files
 simp only [Option.toList_none,List.append_nil,List.map_cons,List.nodup_cons] at hf
 have hs:∀ y∈pre++(none:Option RI).toList,y∈(x::pre)++(none:Option RI).toList:=fun y hy=>by simp at hy ⊢; exact .inr hy
 refine ⟨hP,hD.ok,fun y hy=>(h.done y (by simp [hy])).keep t.u (fun e=>?_) hD (fun e=>?_),by simp,by simpa using hf.2,fun y hy=>h.recs y (hs y hy),fun y hy=>by rw [hl]; exact h.known y (hs y hy),fun y hy=>h.len y (hs y hy),fun y hy=>h.col y (hs y hy),by have:=hD.block; have:=h.block; omega,h.b2,h.b1,h.c2⟩
 ·exact h.r_disk (x:=y) (by simp [hy]) (by simp only [List.mem_cons,List.not_mem_nil,or_false] at e; rcases e with e | e<;>simp [diskF,e])
 ·exact hf.1 (List.mem_map.2 ⟨y,hy,by omega⟩)
theorem Left.deleted {d d':DS} {k j n:Nat} (h:Left d k j) (h1:d'.last=d.last) (h2:d'.wrote=d.wrote) (h3:usedOf d.files=usedOf d'.files+n) (h4:d'.blocks=d.blocks):Left d' k j:=by
 obtain ⟨a,b,c,e⟩:=h
 exact ⟨by omega,by omega,by omega,by omega⟩
structure DelInv (w:World) (bx bm blk cols:Nat) (d:DS) (M:List PF) (gv:Value) (G rest:List RI) (k j i:Nat) (wr:World):Prop where
 st:∃ d' M',RunsSt wr bx bm blk cols d' M' (G.drop i++rest) none /\ Left d' k j /\ d'.last=d.last /\ Sub w (rowsOf M') (rowsOf M)
 own:POff wr gv G
 touch:Touch [bx,bm] w wr
theorem DelInv.step {w wr:World} {bx bm blk cols:Nat} {d:DS} {M:List PF} {gv:Value} {G rest:List RI} {k j i:Nat} (h:DelInv w bx bm blk cols d M gv G rest k j i wr) (hi:i < G.length) :
  Calls Tryz.prog 104 #[G[i].ptr] wr fun e w'=>e=.returned (.tuple #[]) /\ DelInv w bx bm blk cols d M gv G rest k j (i+1) w':=by
 obtain ⟨d1,M1,hR,hL,hl,hS⟩:=h.st
 have hd:G.drop i++rest=G[i]::(G.drop (i+1)++rest):=by rw [List.drop_eq_getElem_cons hi]; rfl
 rw [hd] at hR
 obtain ⟨n,v,hc⟩:=hR.cell (x:=G[i]) (by simp)
 have hu:=hL.used
 have hsm:=hL.small
 refine (delete_any wr G[i].r bx bm blk G[i].file G[i].cols n v d1 M1 hc hR.pd hR.ok (by omega)).mono ?_
 rintro e w' ⟨rfl,d2,M2,p1,p2,p3,p4,p5,p6,p7⟩
 have nt:NoTag 194 wr [bx,bm]:=(hR.pd.notag (t:=194) (by decide) (by decide)).sub (fun x hx=>by
  simp only [List.mem_cons,List.not_mem_nil,or_false] at hx
  rcases hx with rfl | rfl<;>simp [diskF])
 refine ⟨rfl,⟨d2,M2,hR.deleted p1 p2 p3 p7,hL.deleted p3 p4 p5 p2.blocks,p3.trans hl,?_⟩,h.own.keep (p7.tag nt),h.touch.trans p7⟩
 intro x hx
 exact hS x (p6.subset hx)
structure MgNext (w w2:World) (lo pm ph bf ps:Nat) (ks:List K) (R:List RI) (L:List CU) (u:CU) (bx bm blk cols:Nat) (d:DS) (M:List PF) (pre:List RI) (o:Option RI):Prop where
 st:∃ hv' L',MgSt w2 lo pm ph hv' bf ps ks R L' /\ ∀ all out,Merging ks all (L.map CU.cur) out -> Merging ks all (L'.map CU.cur) (out++[u.first])
 runs:RunsSt w2 bx bm blk cols d M pre o
 touch:∃ F,Touch F w w2 /\ MT w bx lo F
theorem PD.other {w w':World} {bx bm:Nat} {d:DS} {M:List PF} {F:List Nat} (h:PD w bx bm d M) (ht:Touch F w w') (hF:∀ k∈F,∃ cs t f,w.heap[k]?=some (.cells cs t f) /\ (117:TypeId)≠t /\ (9:TypeId)≠t):PD w' bx bm d M:=
 h.away ht (fun k hk e=>by
  obtain ⟨cs,t,f,hc,h1,h2⟩:=hF k e
  exact h.notag h1 h2 k hk cs f hc)
section
variable {w:World} {lo pm ph:Nat} {hv:Value} {bf ps:Nat} {ks:List K} {R:List RI} {u:CU} {T:List CU} {bx bm blk cols:Nat} {d:DS} {M:List PF} {pre:List RI} {o:Option RI}
theorem MgSt.mt (h:MgSt w lo pm ph hv bf ps ks R (u::T)) {g cap:Nat} (hA:CHeapAt w ph g cap bf ps ks (u::T)) (hg:lo <= g) (hbx:∃ cs f,w.heap[bx]?=some (.cells cs 117 f)):MT w bx lo [u.ptr,u.rd,bx,ph,g]:=by
 intro k hk
 simp only [List.mem_cons,List.not_mem_nil,or_false] at hk
 obtain ⟨c,hc⟩:=(h.curs.rds u (by simp)).cell
 obtain ⟨cs,f,hb⟩:=hbx
 obtain ⟨cur,hcur,_⟩:=hA.items
 have hn:=h.newC u (by simp)
 rcases hk with rfl | rfl | rfl | rfl | rfl
 ·exact ⟨_,_,_,(h.heap.rows u (by simp)).box,by decide,.inr hn.1⟩
 ·exact ⟨_,_,_,hc,by decide,.inr hn.2⟩
 ·exact ⟨_,_,_,hb,by decide,.inl rfl⟩
 ·exact ⟨_,_,_,h.heap.head,by decide,.inr h.newH⟩
 ·exact ⟨_,_,_,hcur,by decide,.inr hg⟩
theorem RunsSt.bx117 (h:RunsSt w bx bm blk cols d M pre o):∃ cs f,w.heap[bx]?=some (.cells cs 117 f):=⟨_,_,h.pd.disk⟩
theorem mstep_nil (h:MgSt w lo pm ph hv bf ps ks R (u::T)) (hR:RunsSt w bx bm blk cols d M pre o) (hsub:∀ x∈R,x∈pre) (hsmall:T.length <= 10000000) (hr:u.rest=[]) :
  Calls Tryz.prog 201 #[.pointer (some ⟨u.ptr,0,none⟩)] w fun e w1=>e=.returned (.bool false) /\ Touch [u.ptr] w w1 /\ w1.heap[pm]?=some (.cells #[.pointer (some ⟨ph,0,none⟩)] 310 (0,0)) /\
   Calls Tryz.prog 206 #[.pointer (some ⟨ph,0,none⟩)] w1 fun e w2=>e=.returned (.pointer (some ⟨u.ptr,0,none⟩)) /\ MgNext w w2 lo pm ph bf ps ks R (u::T) u bx bm blk cols d M pre o:=by
 have hrd:=h.curs.rds u (by simp)
 rw [hr] at hrd
 have hbox:=(h.heap.rows u (by simp)).box
 obtain ⟨g,cap,rfl,hA⟩:=h.heap.at (by simp)
 have hmt:=h.mt hA (h.newV g rfl) hR.bx117
 refine (advance_nil w u.ptr u.rd u.run.r bx blk u.run.file u.run.cols u.first.no u.rv u.run.cs d hbox (hR.done u.run (hsub _ (h.curs.mem u (by simp)))).1 hrd).mono ?_
 rintro e w1 ⟨rfl,p1,t1⟩
 obtain ⟨q1,q2,q3⟩:=h.ended hA t1
 refine ⟨rfl,t1,q3,?_⟩
 refine (cpop_at w1 ph g cap bf ps ks (u::T) T.length q1 h.heap.ok (by simp) (by simp; omega)).mono ?_
 rintro e w2 ⟨rfl,L',r1,r2,t2⟩
 have hF0:Touch [u.ptr,ph,g] w w2:=(t1.mono (by simp)).trans (t2.mono (by simp))
 have hF:Touch [u.ptr,u.rd,bx,ph,g] w w2:=hF0.mono (fun k hk=>by simp only [List.mem_cons,List.not_mem_nil,or_false] at hk ⊢; omega)
 have hp:L'.Perm T:=(List.perm_cons u).1 r2
 obtain ⟨cur,hcur,_⟩:=q1.items
 have n2:∀ t':TypeId,(331:TypeId)≠t' -> (305:TypeId)≠t' -> NoTag t' w1 [ph,g]:=fun t' h1 h2=>(notag_of hcur h2).cons q1.head h1
 refine ⟨rfl,⟨_,L',⟨t2.tag (n2 310 (by decide) (by decide)) _ _ _ q3,r1,(q2.keep (t2.tag (n2 241 (by decide) (by decide)))).perm hp,h.newH,fun k hk=>h.newV k hk,fun x hx=>h.newC x (by simp [hp.mem_iff.1 hx])⟩,fun all out hm=>cur_drop hm hr r2 r1.ok⟩,?_,⟨_,hF,hmt⟩⟩
 refine hR.turned (hR.pd.other hF0 (fun k hk=>?_)) hF (hmt.notag (by decide)) (hmt.notag (by decide))
 obtain ⟨cur0,hcur0,_⟩:=hA.items
 simp only [List.mem_cons,List.not_mem_nil,or_false] at hk
 rcases hk with rfl | rfl | rfl
 ·exact ⟨_,_,_,hbox,by decide,by decide⟩
 ·exact ⟨_,_,_,hA.head,by decide,by decide⟩
 ·exact ⟨_,_,_,hcur0,by decide,by decide⟩
theorem mstep_cons (h:MgSt w lo pm ph hv bf ps ks R (u::T)) (hR:RunsSt w bx bm blk cols d M pre o) (hsub:∀ x∈R,x∈pre) (hsmall:T.length <= 10000000) (hc1:1 <= cols) (hlast:d.last <= 1000000000) {y:Rec} {l:List Rec} (hr:u.rest=y::l) :
  Calls Tryz.prog 201 #[.pointer (some ⟨u.ptr,0,none⟩)] w fun e w1=>e=.returned (.bool true) /\ Touch [u.ptr,u.rd,bx] w w1 /\ w1.heap[pm]?=some (.cells #[.pointer (some ⟨ph,0,none⟩)] 310 (0,0)) /\
   Calls Tryz.prog 205 #[.pointer (some ⟨ph,0,none⟩),.pointer (some ⟨u.ptr,0,none⟩)] w1 fun e w2=>e=.returned (.tuple #[]) /\ MgNext w w2 lo pm ph bf ps ks R (u::T) u bx bm blk cols d M pre o:=by
 have hrd:=h.curs.rds u (by simp)
 rw [hr] at hrd
 have hbox:=(h.heap.rows u (by simp)).box
 have hm:=hsub _ (h.curs.mem u (by simp))
 have hmo:u.run∈pre++o.toList:=by simp [hm]
 obtain ⟨done,hdn⟩:=h.curs.part u (by simp)
 have hne:u.run.recs≠[]:=by rw [hdn]; simp
 have hall:∀ z∈y::l,RecOK blk u.run.cols z:=fun z hz=>by
  rw [hR.col u.run hmo hne]
  exact hR.recs u.run hmo z (by rw [hdn,hr]; simp only [List.mem_append,List.mem_cons]; simp only [List.mem_cons] at hz; exact .inr (.inr hz))
 have hD:=hR.done u.run hm
 have hlen:=hR.len u.run hmo
 have hkn:=hR.known u.run hmo
 have hcol:=hR.col u.run hmo hne
 have hc2:=hR.c2
 have hb2:=hR.b2
 obtain ⟨g,cap,rfl,hA⟩:=h.heap.at (by simp)
 have hmt:=h.mt hA (h.newV g rfl) hR.bx117
 refine (advance_cons w u.ptr u.rd u.run.r bx bm blk u.run.file u.run.cols u.first.no u.rv u.run.cs d M y l hbox hD.1 hrd hR.pd hR.ok hall (by omega) (by omega) (by omega) (by omega) (fun c hc=>by have:=(hD.1.full c hc).2; omega)).mono ?_
 rintro e w1 ⟨r,rfl,p1,p2,p3,p4,t1⟩
 obtain ⟨q1,q2,q3⟩:=h.stepped hA hR.bx117 t1 hr p1 p2 p3
 refine ⟨rfl,t1,q3,?_⟩
 refine (creplace_any w1 ph g cap bf ps ks (u.on r u.run.cols y l::T) (u.on r u.run.cols y l) q1 (by have:=DownInv.first h.heap.ok (u.on r u.run.cols y l); exact this) (by simp) (by simp; omega)).mono ?_
 rintro e w2 ⟨rfl,L',r1,r2,t2⟩
 have hF:Touch [u.ptr,u.rd,bx,ph,g] w w2:=(t1.mono (fun k hk=>by simp only [List.mem_cons,List.not_mem_nil,or_false] at hk ⊢; omega)).trans (t2.mono (by simp))
 obtain ⟨cur,hcur,_⟩:=q1.items
 have n2:∀ t':TypeId,(305:TypeId)≠t' -> NoTag t' w1 [g]:=fun t' h2=>notag_of hcur h2
 refine ⟨rfl,⟨_,L',⟨t2.tag (n2 310 (by decide)) _ _ _ q3,r1,(q2.keep (t2.tag (n2 241 (by decide)))).perm r2,h.newH,fun k hk=>h.newV k hk,fun x hx=>?_⟩,fun all out hm=>cur_next hm hr r2 r1.ok⟩,?_,⟨_,hF,hmt⟩⟩
 ·rcases List.mem_cons.1 (r2.mem_iff.1 hx) with rfl | hx
  ·exact h.newC u (by simp)
  ·exact h.newC x (by simp [hx])
 ·refine hR.turned (p4.other t2 (fun k hk=>?_)) hF (hmt.notag (by decide)) (hmt.notag (by decide))
  rw [List.mem_singleton.1 hk]
  exact ⟨_,_,_,hcur,by decide,by decide⟩
end
theorem mnext_nil (w:World) (lo pm ph:Nat) (hv:Value) (bf ps:Nat) (ks:List K) (R:List RI) (h:MgSt w lo pm ph hv bf ps ks R []) :
  Calls Tryz.prog 172 #[.pointer (some ⟨pm,0,none⟩)] w fun e w'=>e=.returned (.tuple #[.agg #[.int .i64 0,.slice none 0 0],.bool false]) /\ Touch [] w w':=by
 have b0:=boxOne h.box
 have hpm:=(Array.getElem?_eq_some_iff.1 h.box).1
 have HL:Hid (∀ W,Touch [] w W -> Calls Tryz.prog 203 #[.pointer (some ⟨ph,0,none⟩)] W fun e w'=>e=.returned (.int .i64 0) /\ w'=W):=fun W hW=>(clen_any W ph hv bf ps ks [] (h.quiet hW).heap)
 clear h
 go_enter Tryz.func172,Tryz.ntmps172
 go_wp2_with (go_at_call 203; refine (HL.out _ ((Touch.refl [] _).alloc _)).mono ?_; rintro e w1 ⟨rfl,rfl⟩)
 exact bodyPost_ret (v:=.tuple #[.agg #[.int .i64 0,.slice none 0 0],.bool false]) (by simp [results,Tryz.results172,go_sem]) rfl ⟨rfl,(Touch.refl [] w).alloc _⟩
theorem MgSt.box205 {w w':World} {lo pm ph:Nat} {hv:Value} {bf ps:Nat} {ks:List K} {R:List RI} {L:List CU} {p:Nat} {cs:Array Value} (h:MgSt w lo pm ph hv bf ps ks R L) (hp:w.heap[p]?=some (.cells cs 205 (0,0))) (t:Touch [p] w w'):MgSt w' lo pm ph hv bf ps ks R L:=
 h.keep ⟨t.tag (notag_of hp (by decide)),t.tag (notag_of hp (by decide)),t.tag (notag_of hp (by decide)),t.tag (notag_of hp (by decide)),t.tag (notag_of hp (by decide)),t.tag (notag_of hp (by decide)),t.tag (notag_of hp (by decide)),t.tag (notag_of hp (by decide)),(t.tag (notag_of hp (by decide))).key ps⟩
theorem MgNext.box205 {w w2 w3:World} {lo pm ph bf ps:Nat} {ks:List K} {R:List RI} {L:List CU} {u:CU} {bx bm blk cols:Nat} {d:DS} {M:List PF} {pre:List RI} {o:Option RI} {p:Nat} {cs:Array Value} (h:MgNext w w2 lo pm ph bf ps ks R L u bx bm blk cols d M pre o) (hp:w2.heap[p]?=some (.cells cs 205 (0,0))) (hn:w.heap.size <= p) (t:Touch [p] w2 w3):MgNext w w3 lo pm ph bf ps ks R L u bx bm blk cols d M pre o:=by
 obtain ⟨hv',L',h1,h2⟩:=h.st
 obtain ⟨F,h3,h4⟩:=h.touch
 exact ⟨⟨hv',L',h1.box205 hp t,h2⟩,h.runs.turned (h.runs.pd.other t (fun k hk=>by rw [List.mem_singleton.1 hk]; exact ⟨_,_,_,hp,by decide,by decide⟩)) t (notag_of hp (by decide)) (notag_of hp (by decide)),F,h3.more t (fun i hi=>.inr (by rw [List.mem_singleton.1 hi]; exact hn)),h4⟩
theorem MgNext.from {w W w2:World} {lo pm ph bf ps:Nat} {ks:List K} {R:List RI} {L:List CU} {u:CU} {bx bm blk cols:Nat} {d:DS} {M:List PF} {pre:List RI} {o:Option RI} (h:MgNext W w2 lo pm ph bf ps ks R L u bx bm blk cols d M pre o) (t:Touch [] w W) (hs:∀ k cs t f,W.heap[k]?=some (.cells cs t f) -> t∈[117,307,331,305,241] -> k < w.heap.size):MgNext w w2 lo pm ph bf ps ks R L u bx bm blk cols d M pre o:=by
 obtain ⟨F,h3,h4⟩:=h.touch
 refine ⟨h.st,h.runs,F,(t.mono (by simp)).trans h3,fun k hk=>?_⟩
 obtain ⟨cs,t',f,h5,h6,h7⟩:=h4 k hk
 have hlt:=hs k cs t' f h5 h6
 exact ⟨cs,t',f,by rw [<- t.block k hlt (by simp)]; exact h5,h6,h7⟩
theorem MgNext.rec205 {w w2:World} {lo pm ph bf ps:Nat} {ks:List K} {R:List RI} {L:List CU} {u:CU} {bx bm blk cols:Nat} {d:DS} {M:List PF} {pre:List RI} {o:Option RI} (h:MgNext w w2 lo pm ph bf ps ks R L u bx bm blk cols d M pre o):KeepTag 205 w w2 /\ KeepTag 85 w w2:=by
 obtain ⟨F,h3,h4⟩:=h.touch
 exact ⟨h3.tag (h4.notag (by decide)),h3.tag (h4.notag (by decide))⟩
theorem two205 {w w2:World} {a b c e:Value} (k:KeepTag 205 ((w.alloc (.cells #[a,b] 205)).alloc (.cells #[c,e] 205)) w2):w2.heap[w.heap.size]?=some (.cells #[a,b] 205 (0,0)) /\ w2.heap[w.heap.size+1]?=some (.cells #[c,e] 205 (0,0)):=by
 refine ⟨k _ _ _ ?_,k _ _ _ ?_⟩
 ·rw [Below.heap_alloc _ _ _ (by simp),heap_alloc_new w _]
 ·have:=heap_alloc_new (w.alloc (.cells #[a,b] 205)) (.cells #[c,e] 205)
  rw [World.size_alloc] at this
  exact this
theorem new205 {w:World} {o1 o2:Obj} (h1:∃ cs,o1=.cells cs 205 (0,0)) (h2:∃ cs,o2=.cells cs 205 (0,0)):∀ k cs t f,((w.alloc o1).alloc o2).heap[k]?=some (.cells cs t f) -> t∈[117,307,331,305,241] -> k < w.heap.size:=fun k cs t f e ht=>by
 obtain ⟨c1,rfl⟩:=h1
 obtain ⟨c2,rfl⟩:=h2
 have hlt:=(Array.getElem?_eq_some_iff.1 e).1
 simp only [World.size_alloc] at hlt
 by_cases h1:k=w.heap.size+1
 ·subst h1
  have:=heap_alloc_new (w.alloc (.cells c1 205)) (.cells c2 205)
  rw [World.size_alloc] at this
  rw [this] at e
  simp only [Option.some.injEq,Obj.cells.injEq] at e
  obtain ⟨_,rfl,_⟩:=e
  exact absurd ht (by decide)
 ·by_cases h2:k=w.heap.size
  ·subst h2
   rw [Below.heap_alloc _ _ _ (by simp),heap_alloc_new w _] at e
   simp only [Option.some.injEq,Obj.cells.injEq] at e
   obtain ⟨_,rfl,_⟩:=e
   exact absurd ht (by decide)
  ·omega
theorem mnext_cons (w:World) (lo pm ph:Nat) (hv:Value) (bf ps:Nat) (ks:List K) (R:List RI) (u:CU) (T:List CU) (bx bm blk cols:Nat) (d:DS) (M:List PF) (pre:List RI) (o:Option RI) (h:MgSt w lo pm ph hv bf ps ks R (u::T)) (hR:RunsSt w bx bm blk cols d M pre o) (hsub:∀ x∈R,x∈pre) (hsmall:T.length <= 10000000) (hc1:1 <= cols) (hlast:d.last <= 1000000000) :
  Calls Tryz.prog 172 #[.pointer (some ⟨pm,0,none⟩)] w fun e w'=>e=.returned (.tuple #[.agg #[.int .i64 u.first.no,u.rv],.bool true]) /\ RowAt w' u.rv u.first.row /\ MgNext w w' lo pm ph bf ps ks R (u::T) u bx bm blk cols d M pre o:=by
 have b0:=boxOne h.box
 have hpm:=(Array.getElem?_eq_some_iff.1 h.box).1
 have hub:=(h.heap.rows u (by simp))
 obtain ⟨x0,x1,x2⟩:=box3 hub.box
 have hup:=(Array.getElem?_eq_some_iff.1 hub.box).1
 have hrow:=hub.row
 obtain ⟨ao,acap,ea⟩:=hrow.shape
 have HL:Hid (∀ W,Touch [] w W -> Calls Tryz.prog 203 #[.pointer (some ⟨ph,0,none⟩)] W fun e w'=>e=.returned (.int .i64 ((T.length+1:Nat):Int)) /\ w'=W):=fun W hW=>(clen_any W ph hv bf ps ks (u::T) (h.quiet hW).heap)
 have HLE:Hid (∀ W,Touch [] w W -> Calls Tryz.prog 204 #[.pointer (some ⟨ph,0,none⟩)] W fun e w'=>e=.returned (.pointer (some ⟨u.ptr,0,none⟩)) /\ w'=W):=fun W hW=>(cleast_any W ph hv bf ps ks (u::T) u (h.quiet hW).heap (by simp))
 have hz:¬ ((T.length+1:Nat):Int)=0:=by omega
 rw [ea] at x2 ⊢
 cases hr:u.rest with
 | nil=>
  have HS:Hid (∀ W,Touch [] w W -> (∀ k cs t f,W.heap[k]?=some (.cells cs t f) -> t∈[117,307,331,305,241] -> k < w.heap.size) -> Calls Tryz.prog 201 #[.pointer (some ⟨u.ptr,0,none⟩)] W fun e w1=>e=.returned (.bool false) /\ Touch [u.ptr] W w1 /\ w1.heap[pm]?=some (.cells #[.pointer (some ⟨ph,0,none⟩)] 310 (0,0)) /\
   Calls Tryz.prog 206 #[.pointer (some ⟨ph,0,none⟩)] w1 fun e w2=>e=.returned (.pointer (some ⟨u.ptr,0,none⟩)) /\ MgNext w w2 lo pm ph bf ps ks R (u::T) u bx bm blk cols d M pre o /\ MgNext W w2 lo pm ph bf ps ks R (u::T) u bx bm blk cols d M pre o):=fun W hW hn=>by
   refine (mstep_nil (h.quiet hW) (hR.turned (hR.pd.away hW (by simp)) hW (by intro k hk; simp at hk) (by intro k hk; simp at hk)) hsub hsmall hr).mono ?_
   rintro e w1 ⟨rfl,p1,p2,p3⟩
   refine ⟨rfl,p1,p2,p3.mono ?_⟩
   rintro e w2 ⟨rfl,q⟩
   exact ⟨rfl,q.from hW hn,q⟩
  have HR:Hid (RowAt w (.slice ao u.first.row.length acap) u.first.row):=by rw [ea] at hrow; exact hrow
  clear h hR hsub hrow hub
  generalize u.first.no=an at *
  generalize u.first.row.length=al at *
  go_enter Tryz.func172,Tryz.ntmps172
  go_wp2_with (first | (go_at_call 203; refine (HL.out _ ((Touch.refl [] _).alloc _)).mono ?_; rintro e w1 ⟨rfl,rfl⟩) | (go_at_call 204; refine (HLE.out _ ((Touch.refl [] _).alloc _)).mono ?_; rintro e w1 ⟨rfl,rfl⟩) | (go_at_call 201; refine (HS.out _ (((Touch.refl [] _).alloc _).alloc _) (new205 ⟨_,rfl⟩ ⟨_,rfl⟩)).mono ?_; rintro e w3 ⟨rfl,t3,hb3,hc3⟩; have c3:=boxOne hb3; clear t3 hb3) | (go_at_call 206; refine hc3.mono ?_; rintro e w4 ⟨rfl,q1,q2⟩; obtain ⟨k1,k2⟩:=two205 q2.rec205.1; obtain ⟨y0,y1⟩:=box2 k1; obtain ⟨z0,z1⟩:=box2 k2; have f0:w4.frozen? ⟨w.heap.size,0,none⟩=false:=(by simp [World.frozen?,k1]); have f1:w4.frozen? ⟨w.heap.size,1,none⟩=false:=(by simp [World.frozen?,k1]); have K1:Hid _:=k1; have hk85:KeepTag 85 _ w4:=q2.rec205.2; clear q2 k1 k2 hc3))
  refine bodyPost_ret (v:=.tuple #[.agg #[.int .i64 an,.slice ao al acap],.bool true]) (by simp [results,Tryz.results172,go_sem,y0,y1]) rfl ⟨rfl,?_,?_⟩
  ·exact Sl3.keep (Sl3.keep (HR.out.touch (((Touch.refl [] _).alloc _).alloc _)) hk85) (((Touch.refl [w.heap.size] w4).setCell (p:=⟨w.heap.size,0,none⟩) (by simp) _).setCell (p:=⟨w.heap.size,1,none⟩) (by simp) _ |>.tag (notag_of K1.out (by decide)))
  ·exact q1.box205 K1.out (Nat.le_refl _) (((Touch.refl [w.heap.size] w4).setCell (p:=⟨w.heap.size,0,none⟩) (by simp) _).setCell (p:=⟨w.heap.size,1,none⟩) (by simp) _)
 | cons y l=>
  have HS:Hid (∀ W,Touch [] w W -> (∀ k cs t f,W.heap[k]?=some (.cells cs t f) -> t∈[117,307,331,305,241] -> k < w.heap.size) -> Calls Tryz.prog 201 #[.pointer (some ⟨u.ptr,0,none⟩)] W fun e w1=>e=.returned (.bool true) /\ Touch [u.ptr,u.rd,bx] W w1 /\ w1.heap[pm]?=some (.cells #[.pointer (some ⟨ph,0,none⟩)] 310 (0,0)) /\
   Calls Tryz.prog 205 #[.pointer (some ⟨ph,0,none⟩),.pointer (some ⟨u.ptr,0,none⟩)] w1 fun e w2=>e=.returned (.tuple #[]) /\ MgNext w w2 lo pm ph bf ps ks R (u::T) u bx bm blk cols d M pre o /\ MgNext W w2 lo pm ph bf ps ks R (u::T) u bx bm blk cols d M pre o):=fun W hW hn=>by
   refine (mstep_cons (h.quiet hW) (hR.turned (hR.pd.away hW (by simp)) hW (by intro k hk; simp at hk) (by intro k hk; simp at hk)) hsub hsmall hc1 hlast hr).mono ?_
   rintro e w1 ⟨rfl,p1,p2,p3⟩
   refine ⟨rfl,p1,p2,p3.mono ?_⟩
   rintro e w2 ⟨rfl,q⟩
   exact ⟨rfl,q.from hW hn,q⟩
  have HR:Hid (RowAt w (.slice ao u.first.row.length acap) u.first.row):=by rw [ea] at hrow; exact hrow
  clear h hR hsub hrow hub
  generalize u.first.no=an at *
  generalize u.first.row.length=al at *
  go_enter Tryz.func172,Tryz.ntmps172
  go_wp2_with (first | (go_at_call 203; refine (HL.out _ ((Touch.refl [] _).alloc _)).mono ?_; rintro e w1 ⟨rfl,rfl⟩) | (go_at_call 204; refine (HLE.out _ ((Touch.refl [] _).alloc _)).mono ?_; rintro e w1 ⟨rfl,rfl⟩) | (go_at_call 201; refine (HS.out _ (((Touch.refl [] _).alloc _).alloc _) (new205 ⟨_,rfl⟩ ⟨_,rfl⟩)).mono ?_; rintro e w3 ⟨rfl,t3,hb3,hc3⟩; have c3:=boxOne hb3; clear t3 hb3) | (go_at_call 205; refine hc3.mono ?_; rintro e w4 ⟨rfl,q1,q2⟩; obtain ⟨k1,k2⟩:=two205 q2.rec205.1; obtain ⟨y0,y1⟩:=box2 k1; obtain ⟨z0,z1⟩:=box2 k2; have f0:w4.frozen? ⟨w.heap.size,0,none⟩=false:=(by simp [World.frozen?,k1]); have f1:w4.frozen? ⟨w.heap.size,1,none⟩=false:=(by simp [World.frozen?,k1]); have K1:Hid _:=k1; have hk85:KeepTag 85 _ w4:=q2.rec205.2; clear q2 k1 k2 hc3))
  refine bodyPost_ret (v:=.tuple #[.agg #[.int .i64 an,.slice ao al acap],.bool true]) (by simp [results,Tryz.results172,go_sem,y0,y1]) rfl ⟨rfl,?_,?_⟩
  ·exact Sl3.keep (Sl3.keep (HR.out.touch (((Touch.refl [] _).alloc _).alloc _)) hk85) (((Touch.refl [w.heap.size] w4).setCell (p:=⟨w.heap.size,0,none⟩) (by simp) _).setCell (p:=⟨w.heap.size,1,none⟩) (by simp) _ |>.tag (notag_of K1.out (by decide)))
  ·exact q1.box205 K1.out (Nat.le_refl _) (((Touch.refl [w.heap.size] w4).setCell (p:=⟨w.heap.size,0,none⟩) (by simp) _).setCell (p:=⟨w.heap.size,1,none⟩) (by simp) _)
theorem DelInv.start {w:World} {bx bm blk cols:Nat} {d:DS} {M:List PF} {gv:Value} {G rest:List RI} {k j:Nat} (hown:POff w gv G) (hR:RunsSt w bx bm blk cols d M (G++rest) none) (hl:Left d k j):DelInv w bx bm blk cols d M gv G rest k j 0 w:=
 ⟨⟨d,M,hR,hl,rfl,Sub.refl _ _⟩,hown,Touch.refl _ _⟩
structure Deleted (w w':World) (bx bm blk cols:Nat) (d:DS) (M:List PF) (rest:List RI) (k j:Nat):Prop where
 st:∃ d' M',RunsSt w' bx bm blk cols d' M' rest none /\ Left d' k j /\ d'.last=d.last /\ Sub w (rowsOf M') (rowsOf M)
 touch:Touch [bx,bm] w w'
theorem DelInv.end {w wr:World} {bx bm blk cols:Nat} {d:DS} {M:List PF} {gv:Value} {G rest:List RI} {k j i:Nat} (h:DelInv w bx bm blk cols d M gv G rest k j i wr) (hi:G.length <= i):Deleted w wr bx bm blk cols d M rest k j:=by
 obtain ⟨d',M',h1,h2⟩:=h.st
 rw [List.drop_eq_nil_of_le hi,List.nil_append] at h1
 exact ⟨⟨d',M',h1,h2⟩,h.touch⟩
theorem deleteAll_any (w:World) (bx bm blk cols:Nat) (d:DS) (M:List PF) (gv:Value) (G rest:List RI) (m j:Nat) (hown:POff w gv G) (hR:RunsSt w bx bm blk cols d M (G++rest) none) (hl:Left d m j) :
  Calls Tryz.prog 166 #[gv] w fun e w'=>e=.returned (.tuple #[]) /\ Deleted w w' bx bm blk cols d M rest m j:=by
 have H0:Hid (DelInv w bx bm blk cols d M gv G rest m j 0 w):=DelInv.start hown hR hl
 obtain ⟨g,o,cap,cur,rfl,_⟩:=hown
 obtain ⟨_,hc1,hc2,_⟩:=H0.out.own.cell
 unfold maxLen at hc2
 clear hR hl
 go_enter Tryz.func166,Tryz.ntmps166
 go_wp2
 go_loopw [6] (fun i wr=>∃ k:Nat,k <= G.length /\ i=.int .i64 k /\ DelInv w bx bm blk cols d M (.slice (some ⟨g,o,none⟩) G.length cap) G rest m j k wr) (fun i _=>G.length - (intOf i).toNat)
 case atStart=>exact ⟨0,by omega,rfl,H0.out⟩
 case round=>
  obtain ⟨k,hk,rfl,hI⟩:=hrel
  by_cases hlt:k < G.length
  ·have c0:=hI.own.cell.2.2.2 k hlt
   have hst:=hI.step hlt
   unfold RI.ptr at c0 hst
   go_wp2_with (go_at_call 104; refine hst.mono ?_; rintro e w1 ⟨rfl,hI1⟩)
   go_roundw
   case rel=>exact ⟨k+1,by omega,by go_num,hI1⟩
   case measure=>simp [intOf]; omega
  ·go_wp2
   go_end0
   exact ⟨rfl,hI.end (by omega)⟩
theorem deleteAll_deferred (w:World) (bx bm blk cols:Nat) (d:DS) (M:List PF) (gv:Value) (G rest:List RI) (m j:Nat) (u:FrameMode) (hown:POff w gv G) (hR:RunsSt w bx bm blk cols d M (G++rest) none) (hl:Left d m j) :
  CallsD Tryz.prog 166 #[gv] u w fun e u' w'=>u'=u /\ e=.returned (.tuple #[]) /\ Deleted w w' bx bm blk cols d M rest m j:=by
 have H0:Hid (DelInv w bx bm blk cols d M gv G rest m j 0 w):=DelInv.start hown hR hl
 obtain ⟨g,o,cap,cur,rfl,_⟩:=hown
 obtain ⟨_,hc1,hc2,_⟩:=H0.out.own.cell
 unfold maxLen at hc2
 clear hR hl
 go_enter_d Tryz.func166,Tryz.ntmps166
 go_wp2
 go_loopw [6] (fun i wr=>∃ k:Nat,k <= G.length /\ i=.int .i64 k /\ DelInv w bx bm blk cols d M (.slice (some ⟨g,o,none⟩) G.length cap) G rest m j k wr) (fun i _=>G.length - (intOf i).toNat)
 case atStart=>exact ⟨0,by omega,rfl,H0.out⟩
 case round=>
  obtain ⟨k,hk,rfl,hI⟩:=hrel
  by_cases hlt:k < G.length
  ·have c0:=hI.own.cell.2.2.2 k hlt
   have hst:=hI.step hlt
   unfold RI.ptr at c0 hst
   go_wp2_with (go_at_call 104; refine hst.mono ?_; rintro e w1 ⟨rfl,hI1⟩)
   go_roundw
   case rel=>exact ⟨k+1,by omega,by go_num,hI1⟩
   case measure=>simp [intOf]; omega
  ·go_wp2
   go_end0
   exact ⟨rfl,hI.end (by omega)⟩
structure NmInv (w:World) (pm ph bf ps:Nat) (ks:List K) (bx bm blk cols:Nat) (d:DS) (M:List PF) (pre:List RI) (o:Option RI) (gv:Value) (G:List RI) (i:Nat) (wr:World):Prop where
 st:∃ hv L,MgSt wr w.heap.size pm ph hv bf ps ks G L /\ ((L.map CU.cur).map Cur.left).flatten.Perm ((G.take i).map RI.recs).flatten /\ L.length <= i
 runs:RunsSt wr bx bm blk cols d M pre o
 own:POff wr gv G
 touch:Touch [bx] w wr
theorem CurSt.push {w:World} {ks:List K} {R:List RI} {L:List CU} {x:CU} (h:CurSt w ks R L) (h1:RdIs w x.rd x.run.r x.run.cs x.rest) (h2:x.run∈R) (h3:∃ done,x.run.recs=done++x.first::x.rest) (h4:∀ u∈L,u.ptr≠x.ptr) (h5:∀ u∈L,u.rd≠x.rd):CurSt w ks R (L++[x]):=by
 refine ⟨fun u hu=>?_,fun u hu=>?_,fun u hu=>?_,h.able,?_,?_⟩
 ·rcases List.mem_append.1 hu with hu | hu
  ·exact h.rds u hu
  ·rw [List.mem_singleton.1 hu]; exact h1
 ·rcases List.mem_append.1 hu with hu | hu
  ·exact h.mem u hu
  ·rw [List.mem_singleton.1 hu]; exact h2
 ·rcases List.mem_append.1 hu with hu | hu
  ·exact h.part u hu
  ·rw [List.mem_singleton.1 hu]; exact h3
 ·rw [List.map_append]
  refine List.nodup_append.2 ⟨h.ptrs,by simp,fun a ha b hb e=>?_⟩
  obtain ⟨u,hu,rfl⟩:=List.mem_map.1 ha
  simp at hb
  exact h4 u hu (e.trans hb)
 ·rw [List.map_append]
  refine List.nodup_append.2 ⟨h.reads,by simp,fun a ha b hb e=>?_⟩
  obtain ⟨u,hu,rfl⟩:=List.mem_map.1 ha
  simp at hb
  exact h5 u hu (e.trans hb)
section
variable {w wr:World} {pm ph bf ps:Nat} {ks:List K} {bx bm blk cols:Nat} {d:DS} {M:List PF} {pre:List RI} {o:Option RI} {gv:Value} {G:List RI} {i:Nat}
theorem RunsSt.mgKeep {w':World} (h:RunsSt wr bx bm blk cols d M pre o) (t:Touch [bx] wr w') (ps:Nat):MgKeep ps wr w':=by
 have hb:=h.pd.disk
 have k:∀ t',(117:TypeId)≠t' -> KeepTag t' wr w':=fun t' ht=>t.tag (notag_of hb ht)
 exact ⟨k _ (by decide),k _ (by decide),k _ (by decide),k _ (by decide),k _ (by decide),k _ (by decide),k _ (by decide),k _ (by decide),(k _ (by decide)).key ps⟩
theorem NmInv.read {w':World} (h:NmInv w pm ph bf ps ks bx bm blk cols d M pre o gv G i wr) (t:Touch [bx] wr w') (hP:PD w' bx bm d M):NmInv w pm ph bf ps ks bx bm blk cols d M pre o gv G i w':=by
 obtain ⟨hv,L,h1,h2⟩:=h.st
 have hb:=h.runs.pd.disk
 have k:∀ t',(117:TypeId)≠t' -> KeepTag t' wr w':=fun t' ht=>t.tag (notag_of hb ht)
 exact ⟨⟨hv,L,h1.keep (h.runs.mgKeep t ps),h2⟩,h.runs.turned hP t (notag_of hb (by decide)) (notag_of hb (by decide)),h.own.keep (k _ (by decide)),h.touch.trans t⟩
theorem NmInv.quiet {w':World} (h:NmInv w pm ph bf ps ks bx bm blk cols d M pre o gv G i wr) (t:Touch [] wr w'):NmInv w pm ph bf ps ks bx bm blk cols d M pre o gv G i w':=
 h.read (t.mono (by simp)) (h.runs.pd.away t (by simp))
theorem take_recs (hi:i < G.length):((G.take (i+1)).map RI.recs).flatten=((G.take i).map RI.recs).flatten++G[i].recs:=by
 rw [take_snoc' G i hi,List.map_append,List.flatten_append]
 simp only [List.map_cons,List.map_nil,List.flatten_cons,List.flatten_nil,List.append_nil]
theorem NmInv.empty (h:NmInv w pm ph bf ps ks bx bm blk cols d M pre o gv G i wr) (hi:i < G.length) (he:G[i].recs=[]):NmInv w pm ph bf ps ks bx bm blk cols d M pre o gv G (i+1) wr:=by
 obtain ⟨hv,L,h1,h2,h3⟩:=h.st
 exact ⟨⟨hv,L,h1,by rw [take_recs hi,he,List.append_nil]; exact h2,by omega⟩,h.runs,h.own,h.touch⟩
theorem RI.Done.recs {w:World} {bx blk:Nat} {d:DS} {x:RI} (h:x.Done w bx blk d):x.recs=x.cs.flatten:=by simp [RI.recs,h.2]
theorem nm_nil (h:NmInv w pm ph bf ps ks bx bm blk cols d M pre o gv G i wr) (hsub:∀ x∈G,x∈pre) (hi:i < G.length) (he:G[i].recs=[]) :
  Calls Tryz.prog 116 #[G[i].ptr] wr fun e w1=>e=.returned (.pointer (some ⟨wr.heap.size,0,none⟩)) /\
   Calls Tryz.prog 201 #[.pointer (some ⟨w1.heap.size,0,none⟩)] (w1.alloc (.cells #[.pointer (some ⟨wr.heap.size,0,none⟩),.int .i64 0,.slice none 0 0] 307)) fun e w2=>e=.returned (.bool false) /\ NmInv w pm ph bf ps ks bx bm blk cols d M pre o gv G (i+1) w2:=by
 have hD:=h.runs.done G[i] (hsub _ (List.getElem_mem hi))
 refine (reader_any wr G[i].r G[i].cs).mono ?_
 rintro e w1 ⟨rfl,p1,p2,t1⟩
 refine ⟨rfl,?_⟩
 have t1':Touch [] wr (w1.alloc (.cells #[.pointer (some ⟨wr.heap.size,0,none⟩),.int .i64 0,.slice none 0 0] 307)):=t1.alloc _
 have h1:=h.quiet t1'
 rw [<- hD.recs,he] at p1
 refine (advance_nil _ w1.heap.size wr.heap.size G[i].r bx blk G[i].file G[i].cols 0 (.slice none 0 0) G[i].cs d (heap_alloc_new w1 _) (h1.runs.done G[i] (hsub _ (List.getElem_mem hi))).1 (p1.touch ((Touch.refl [] w1).alloc _).u (by simp))).mono ?_
 rintro e w2 ⟨rfl,_,t2⟩
 exact ⟨rfl,(h.quiet (t1'.more t2 (fun k hk=>.inr (by rw [List.mem_singleton.1 hk]; omega)))).empty hi he⟩
theorem nm_cons (h:NmInv w pm ph bf ps ks bx bm blk cols d M pre o gv G i wr) (hsub:∀ x∈G,x∈pre) (hi:i < G.length) (hsm:G.length <= 10000000) (hc1:1 <= cols) (hlast:d.last <= 1000000000) {y:Rec} {l:List Rec} (he:G[i].recs=y::l) :
  Calls Tryz.prog 116 #[G[i].ptr] wr fun e w1=>e=.returned (.pointer (some ⟨wr.heap.size,0,none⟩)) /\
   Calls Tryz.prog 201 #[.pointer (some ⟨w1.heap.size,0,none⟩)] (w1.alloc (.cells #[.pointer (some ⟨wr.heap.size,0,none⟩),.int .i64 0,.slice none 0 0] 307)) fun e w2=>e=.returned (.bool true) /\ w2.heap[pm]?=some (.cells #[.pointer (some ⟨ph,0,none⟩)] 310 (0,0)) /\
    Calls Tryz.prog 202 #[.pointer (some ⟨ph,0,none⟩),.pointer (some ⟨w1.heap.size,0,none⟩)] w2 fun e w3=>e=.returned (.tuple #[]) /\ NmInv w pm ph bf ps ks bx bm blk cols d M pre o gv G (i+1) w3:=by
 have hm:=hsub _ (List.getElem_mem hi)
 have hmo:G[i]∈pre++o.toList:=by simp [hm]
 have hD:=h.runs.done G[i] hm
 have hne:G[i].recs≠[]:=by rw [he]; simp
 have hall:∀ z∈y::l,RecOK blk G[i].cols z:=fun z hz=>by
  rw [h.runs.col G[i] hmo hne]
  exact h.runs.recs G[i] hmo z (by rw [he]; exact hz)
 have hlen:=h.runs.len G[i] hmo
 have hkn:=h.runs.known G[i] hmo
 have hcol:=h.runs.col G[i] hmo hne
 have hc2:=h.runs.c2
 have hb2:=h.runs.b2
 refine (reader_any wr G[i].r G[i].cs).mono ?_
 rintro e w1 ⟨rfl,p1,p2,t1⟩
 refine ⟨rfl,?_⟩
 have t1':Touch [] wr (w1.alloc (.cells #[.pointer (some ⟨wr.heap.size,0,none⟩),.int .i64 0,.slice none 0 0] 307)):=t1.alloc _
 have h1:=h.quiet t1'
 have hD1:=h1.runs.done G[i] hm
 rw [<- hD.recs,he] at p1
 refine (advance_cons _ w1.heap.size wr.heap.size G[i].r bx bm blk G[i].file G[i].cols 0 (.slice none 0 0) G[i].cs d M y l (heap_alloc_new w1 _) hD1.1 (p1.touch ((Touch.refl [] w1).alloc _).u (by simp)) h1.runs.pd h1.runs.ok hall (by omega) (by omega) (by omega) (by omega) (fun c hc=>by have:=(hD1.1.full c hc).2; omega)).mono ?_
 rintro e w2 ⟨r,rfl,q1,q2,q3,q4,t2⟩
 have t2':Touch [bx] wr w2:=(t1'.mono (by simp)).more t2 (fun k hk=>by
  simp only [List.mem_cons,List.not_mem_nil,or_false] at hk
  rcases hk with rfl | rfl | rfl
  ·exact .inr (by omega)
  ·exact .inr (Nat.le_refl _)
  ·exact .inl (by simp))
 have h2:=h.read t2' q4
 obtain ⟨hv,L,a1,a2,a3⟩:=h.st
 have b1:=a1.keep (h.runs.mgKeep t2' ps)
 refine ⟨rfl,b1.box,?_⟩
 have hold:∀ u∈L,u.ptr < wr.heap.size /\ u.rd < wr.heap.size:=fun u hu=>⟨(Array.getElem?_eq_some_iff.1 (a1.heap.rows u hu).box).1,by
  obtain ⟨c,hc⟩:=(a1.curs.rds u hu).cell
  exact (Array.getElem?_eq_some_iff.1 hc).1⟩
 have hx:CBox w2 ks ⟨w1.heap.size,wr.heap.size,.slice (some ⟨r,0,none⟩) G[i].cols G[i].cols,G[i],y,l⟩:=⟨q1,q2,a1.curs.able G[i] (List.getElem_mem hi) y (by rw [he]; simp)⟩
 refine (cpush_any w2 ph hv bf ps ks L ⟨w1.heap.size,wr.heap.size,.slice (some ⟨r,0,none⟩) G[i].cols G[i].cols,G[i],y,l⟩ b1.heap hx (by omega)).mono ?_
 rintro e w3 ⟨rfl,v',L',r1,r2,t3,r4⟩
 have nt:∀ t':TypeId,(331:TypeId)≠t' -> (305:TypeId)≠t' -> NoTag t' w2 (heapF ph hv):=fun t' e1 e2=>b1.heap.notag e1 e2
 have hcs:=(b1.curs.push (x:=⟨w1.heap.size,wr.heap.size,.slice (some ⟨r,0,none⟩) G[i].cols G[i].cols,G[i],y,l⟩) q3 (List.getElem_mem hi) ⟨[],by simp [he]⟩ (fun u hu e=>by have:=hold u hu; simp only at e; omega) (fun u hu e=>by have:=hold u hu; simp only at e; omega)).keep (t3.tag (nt 241 (by decide) (by decide)))
 have hwr:=h.touch.size
 have hnew:∀ k∈heapF ph hv,w.heap.size <= k:=fun k hk=>by
  rcases List.mem_cons.1 hk with rfl | hk
  ·exact a1.newH
  ·exact a1.newV k (by simpa using hk)
 have hdisk:PD w3 bx bm d M:=h2.runs.pd.other t3 (fun k hk=>by
  rcases List.mem_cons.1 hk with rfl | hk
  ·exact ⟨_,_,_,b1.heap.head,by decide,by decide⟩
  ·obtain ⟨cs,f,hc⟩:=b1.heap.items.tag k (by simpa using hk)
   exact ⟨_,_,_,hc,by decide,by decide⟩)
 refine ⟨rfl,⟨v',L',⟨t3.tag (nt 310 (by decide) (by decide)) _ _ _ b1.box,r1,hcs.perm r2,a1.newH,fun k hk=>?_,fun u hu=>?_⟩,?_,?_⟩,h2.runs.turned hdisk t3 (nt _ (by decide) (by decide)) (nt _ (by decide) (by decide)),h2.own.keep (t3.tag (nt _ (by decide) (by decide))),h2.touch.more t3 (fun k hk=>.inr (hnew k hk))⟩
 ·rcases r4 k hk with e | e
  ·exact a1.newV k e
  ·have:=t2'.size; omega
 ·rcases List.mem_append.1 (r2.mem_iff.1 hu) with hu | hu
  ·exact a1.newC u hu
  ·rw [List.mem_singleton.1 hu]; exact ⟨by show _ <= w1.heap.size; omega,hwr⟩
 ·rw [take_recs hi]
  have hq:=((r2.map CU.cur).map Cur.left).flatten
  refine hq.trans ?_
  simp only [List.map_append,List.map_cons,List.map_nil,List.flatten_append,List.flatten_cons,List.flatten_nil,List.append_nil]
  refine List.Perm.append a2 ?_
  rw [he]
  exact List.Perm.refl _
 ·rw [r2.length_eq]; simp; omega
end
theorem cheapsNew_any (w:World) (bf:Nat):Calls Tryz.prog 199 #[.func (.func 200) #[] #[.pointer (some ⟨bf,0,none⟩)]] w fun e w'=>e=.returned (.pointer (some ⟨w.heap.size,0,none⟩)) /\ w'=w.alloc (.cells (cheadCells (.slice none 0 0) bf) 331):=by
 go_enter Tryz.func199,Tryz.ntmps199
 go_wp2
 go_ret
 exact ⟨rfl,rfl⟩
theorem NmInv.start {w:World} {ps:Nat} {s:SC} {ks:List K} {bx bm blk cols:Nat} {d:DS} {M:List PF} {pre:List RI} {o:Option RI} {gv:Value} {G:List RI} (hS:SorterAt w ps s) (hK:KeysAt w s.kv ks) (hR:RunsSt w bx bm blk cols d M pre o) (hown:POff w gv G) (hable:∀ x∈G,∀ y∈x.recs,Able ks y.row) :
  NmInv w (w.heap.size+2) (w.heap.size+1) w.heap.size ps ks bx bm blk cols d M pre o gv G 0 (((w.alloc (.cells #[.func (.func 165) #[.pointer (some ⟨ps,0,none⟩)] #[]] 264)).alloc (.cells (cheadCells (.slice none 0 0) w.heap.size) 331)).alloc (.cells #[.pointer (some ⟨w.heap.size+1,0,none⟩)] 310)):=by
 have t:Touch [] w (((w.alloc (.cells #[.func (.func 165) #[.pointer (some ⟨ps,0,none⟩)] #[]] 264)).alloc (.cells (cheadCells (.slice none 0 0) w.heap.size) 331)).alloc (.cells #[.pointer (some ⟨w.heap.size+1,0,none⟩)] 310)):=(((Touch.refl [] w).alloc _).alloc _).alloc _
 have e2:((w.alloc (.cells #[.func (.func 165) #[.pointer (some ⟨ps,0,none⟩)] #[]] 264)).alloc (.cells (cheadCells (.slice none 0 0) w.heap.size) 331)).heap.size=w.heap.size+2:=by simp
 have e1:(w.alloc (.cells #[.func (.func 165) #[.pointer (some ⟨ps,0,none⟩)] #[]] 264)).heap.size=w.heap.size+1:=by simp
 have b0:=heap_alloc_new w (.cells #[.func (.func 165) #[.pointer (some ⟨ps,0,none⟩)] #[]] 264)
 have b1:=heap_alloc_new (w.alloc (.cells #[.func (.func 165) #[.pointer (some ⟨ps,0,none⟩)] #[]] 264)) (.cells (cheadCells (.slice none 0 0) w.heap.size) 331)
 have b2:=heap_alloc_new ((w.alloc (.cells #[.func (.func 165) #[.pointer (some ⟨ps,0,none⟩)] #[]] 264)).alloc (.cells (cheadCells (.slice none 0 0) w.heap.size) 331)) (.cells #[.pointer (some ⟨w.heap.size+1,0,none⟩)] 310)
 rw [e1] at b1
 rw [e2] at b2
 refine ⟨⟨.slice none 0 0,[],⟨b2,⟨?_,COwn.nil _,⟨?_,s.cells,(0,0),s.kv,t.tag0 _ _ _ _ hS,by simp [SC.cells],Sl3.keep hK (t.tag0 _)⟩,by simp,HeapOK.nil⟩,⟨by simp,by simp,by simp,hable,by simp,by simp⟩,by omega,by simp [Value.ownBlock],by simp⟩,by simp,by simp⟩,hR.turned (hR.pd.away t (by simp)) t (by intro k hk; simp at hk) (by intro k hk; simp at hk),hown.keep (t.tag0 _),t.mono (by simp)⟩
 ·exact (Below.heap_alloc _ _ _ (by simp)).trans b1
 ·exact (Below.heap_alloc _ _ _ (by simp; omega)).trans ((Below.heap_alloc _ _ _ (by simp)).trans b0)
structure MgReady (w w':World) (ps:Nat) (ks:List K) (bx bm blk cols:Nat) (d:DS) (M:List PF) (pre:List RI) (o:Option RI) (G:List RI) (pm:Nat):Prop where
 st:∃ ph hv bf L,MgSt w' w.heap.size pm ph hv bf ps ks G L /\ Merging ks (G.map RI.recs).flatten (L.map CU.cur) [] /\ L.length <= G.length
 runs:RunsSt w' bx bm blk cols d M pre o
 touch:Touch [bx] w w'
theorem NmInv.ready {w wr:World} {pm ph bf ps:Nat} {ks:List K} {bx bm blk cols:Nat} {d:DS} {M:List PF} {pre:List RI} {o:Option RI} {gv:Value} {G:List RI} {i:Nat} (h:NmInv w pm ph bf ps ks bx bm blk cols d M pre o gv G i wr) (hi:i=G.length) (hs:∀ x∈G,Srt ks x.recs):MgReady w wr ps ks bx bm blk cols d M pre o G pm:=by
 subst hi
 obtain ⟨hv,L,h1,h2,h3⟩:=h.st
 rw [List.take_length] at h2
 refine ⟨⟨ph,hv,bf,L,h1,(Merging.start (heap_cur h1.heap.ok) (fun c hc=>?_)).of_perm h2,h3⟩,h.runs,h.touch⟩
 obtain ⟨u,hu,rfl⟩:=List.mem_map.1 hc
 obtain ⟨dn,hd⟩:=h1.curs.part u hu
 have:=hs u.run (h1.curs.mem u hu)
 rw [hd] at this
 exact (List.pairwise_append.1 this).2.1
theorem newMerge_any (w:World) (ps:Nat) (s:SC) (ks:List K) (bx bm blk cols:Nat) (d:DS) (M:List PF) (pre:List RI) (o:Option RI) (gv:Value) (G:List RI) (hS:SorterAt w ps s) (hK:KeysAt w s.kv ks) (hR:RunsSt w bx bm blk cols d M pre o) (hown:POff w gv G) (hable:∀ x∈G,∀ y∈x.recs,Able ks y.row) (hsub:∀ x∈G,x∈pre) (hsm:G.length <= 10000000) (hc1:1 <= cols) (hlast:d.last <= 1000000000) (hs:∀ x∈G,Srt ks x.recs) :
  Calls Tryz.prog 171 #[gv,.func (.func 165) #[.pointer (some ⟨ps,0,none⟩)] #[]] w fun e w'=>e=.returned (.pointer (some ⟨w.heap.size+2,0,none⟩)) /\ MgReady w w' ps ks bx bm blk cols d M pre o G (w.heap.size+2):=by
 have H0:=NmInv.start hS hK hR hown hable
 obtain ⟨g,of,cap,cur,rfl,_⟩:=hown
 obtain ⟨_,hp1,hp2,_⟩:=H0.own.cell
 unfold maxLen at hp2
 have hmf:∀ (fn:Fn) (first cap:Array Value) (w:World),(Instr.makeFunc fn first cap).run Tryz.prog w=.ok (.func fn first cap) w:=fun _ _ _ _=>rfl
 have HS:Hid (∀ x∈G,Srt ks x.recs):=hs
 have HSUB:Hid (∀ x∈G,x∈pre):=hsub
 clear hS hK hR hable hs hsub
 go_enter Tryz.func171,Tryz.ntmps171
 go_wp2_with (go_at_call 199; refine (cheapsNew_any _ w.heap.size).mono ?_; rintro e w1 ⟨rfl,rfl⟩)
 go_loopw [15] (fun i wr=>∃ k:Nat,k <= G.length /\ i=.int .i64 k /\ NmInv w (w.heap.size+2) (w.heap.size+1) w.heap.size ps ks bx bm blk cols d M pre o (.slice (some ⟨g,of,none⟩) G.length cap) G k wr) (fun i _=>G.length - (intOf i).toNat)
 case atStart=>exact ⟨0,by omega,rfl,H0⟩
 case round=>
  clear H0
  obtain ⟨k,hk,rfl,hI⟩:=hrel
  by_cases hlt:k < G.length
  ·have c0:=hI.own.cell.2.2.2 k hlt
   cases hr:G[k].recs with
   | nil=>
    have hst:=nm_nil hI HSUB.out hlt hr
    unfold RI.ptr at c0 hst
    go_wp2_with (first | (go_at_call 116; refine hst.mono ?_; rintro e w1 ⟨rfl,hst1⟩) | (go_at_call 201; refine hst1.mono ?_; rintro e w2 ⟨rfl,hI2⟩))
    go_roundw
    case rel=>exact ⟨k+1,by omega,by go_num,hI2⟩
    case measure=>simp [intOf]; omega
   | cons y l=>
    have hst:=nm_cons hI HSUB.out hlt hsm hc1 hlast hr
    unfold RI.ptr at c0 hst
    go_wp2_with (first | (go_at_call 116; refine hst.mono ?_; rintro e w1 ⟨rfl,hst1⟩) | (go_at_call 201; refine hst1.mono ?_; rintro e w2 ⟨rfl,hb2,hst2⟩; have q0:=boxOne hb2) | (go_at_call 202; refine hst2.mono ?_; rintro e w3 ⟨rfl,hI3⟩))
    go_roundw
    case rel=>exact ⟨k+1,by omega,by go_num,hI3⟩
    case measure=>simp [intOf]; omega
  ·go_wp2
   go_ret
   exact ⟨rfl,hI.ready (by omega) HS.out⟩
section
variable {w w':World} {bx bm blk cols:Nat} {d:DS} {M:List PF} {pre:List RI} {o:Option RI}
theorem runsNew_any (m j:Nat) (h:RunsSt w bx bm blk cols d M pre none) (hl:Left d m (j+1)) :
  Calls Tryz.prog 112 #[.agg #[.pointer (some ⟨bx,0,none⟩),.int .i64 (blk:Int)]] w fun e w'=>∃ x:RI,e=.returned x.ptr /\ w.heap.size <= x.r /\ x.recs=[] /\ ∃ d' M',RunsSt w' bx bm blk cols d' M' pre (some x) /\ Left d' m j /\ d'.last=d.last+1 /\ rowsOf M'=rowsOf M /\ Touch [bx,bm] w w':=by
 have h1:=hl.last
 have h2:=h.ok.last
 obtain ⟨file,hf⟩:∃ file:Nat,(file:Int)=d.last+1:=⟨(d.last+1).toNat,by omega⟩
 refine (shelfNew_any w bx bm blk file d M h.pd h.ok (by omega) hf h.b1).mono ?_
 rintro e w' ⟨r,rfl,hr,d',M',p1,p2,p3,p4,p5,p6,p7,p8,p9⟩
 refine ⟨⟨r,file,0,.slice none 0 0,[],[]⟩,rfl,hr,rfl,d',M',h.fresh p1 p2 p3 p4 hf p9,?_,p4,p8,p9⟩
 obtain ⟨a,b,c,e⟩:=hl
 have:=p3.blocks
 exact ⟨by omega,by omega,by omega,by omega⟩
theorem runsAdd_any (m j:Nat) {x:RI} (y:Rec) (rv:Value) (h:RunsSt w bx bm blk cols d M pre (some x)) (hy:RecOK blk cols y) (hrow:RowAt w rv y.row) (hn:x.recs.length < 1000000) (hl:Left d (m+1) j) :
  Calls Tryz.prog 113 #[x.ptr,.agg #[.int .i64 y.no,rv]] w fun e w'=>e=.returned (.tuple #[]) /\ ∃ (x':RI) (d':DS) (M':List PF),RunsSt w' bx bm blk cols d' M' pre (some x') /\ x'.r=x.r /\ x'.recs=x.recs++[y] /\ Left d' m j /\ d'.last=d.last /\ Sub w (rowsOf M') (rowsOf M) /\ TouchU (x.r::diskF bx bm M) w w':=by
 have hxm:x∈pre++(some x).toList:=by simp
 have h1:=hl.last
 have h2:=h.known x hxm
 have h3:=h.len x hxm
 refine (add_any w x.r bx bm blk x.file cols x.cols x.v rv x.cs x.cur y d M (h.opn x rfl) h.pd h.ok hrow hy (fun z hz=>h.recs x hxm z hz) h.c2 h.block h.b2 (by omega) (by omega) (hl.mono (by omega) (Nat.le_refl _):Left d 1 j).roomy).mono ?_
 rintro e w' ⟨rfl,v',cs',cur',d',M',k,hk,p1,p2,p3,p4,p5⟩
 refine ⟨rfl,⟨x.r,x.file,cols,v',cs',cur'⟩,d',M',h.added hy hn p1 p2 p4 p5,rfl,?_,(hl.mono (by omega) (Nat.le_refl _):Left d (m+k) j).wrote p4,p4.last,p4.rows,p5⟩
 simp only [RI.recs]; exact p2
theorem runsEnd_any (m j:Nat) {x:RI} (h:RunsSt w bx bm blk cols d M pre (some x)) (hl:Left d (m+1) j) :
  Calls Tryz.prog 114 #[x.ptr] w fun e w'=>e=.returned (.tuple #[]) /\ ∃ (x':RI) (d':DS) (M':List PF),RunsSt w' bx bm blk cols d' M' (pre++[x']) none /\ x'.r=x.r /\ x'.recs=x.recs /\ Left d' m j /\ d'.last=d.last /\ Sub w (rowsOf M') (rowsOf M) /\ Touch (x.r::diskF bx bm M) w w':=by
 have hxm:x∈pre++(some x).toList:=by simp
 have hk:=h.known x hxm
 have hll:=hl.last
 have hlen:=h.len x hxm
 refine (runEnd_any w x.r bx bm blk x.file x.cols x.v x.cs x.cur d M (h.opn x rfl) h.pd h.ok (fun y hy=>(h.recs x hxm y (by simp [RI.recs,hy])).fair) h.block h.b2 (by omega) (by omega) (hl.mono (by omega) (Nat.le_refl _):Left d 1 j).roomy).mono ?_
 rintro e w' ⟨rfl,cs',d',M',k,hk1,p1,p2,p3,p4,p5⟩
 exact ⟨rfl,⟨x.r,x.file,x.cols,.slice none 0 0,cs',[]⟩,d',M',h.ended p1 p2 p4 p5,rfl,by simp [RI.recs,p2],(hl.mono (by omega) (Nat.le_refl _):Left d (m+k) j).wrote p4,p4.last,p4.rows,p5⟩
theorem RunsSt.runTag {x:RI} (h:RunsSt w bx bm blk cols d M pre (some x)) {t:TypeId} (h1:117≠t) (h2:9≠t) (h3:223≠t):NoTag t w (x.r::diskF bx bm M):=
 (h.notag h1 h2 h3).sub (fun k hk=>by
  rcases List.mem_cons.1 hk with rfl | hk
  ·simp [runsF]
  ·simp only [runsF,List.mem_append]; exact .inr hk)
theorem RunsSt.mgKeepU {x:RI} (h:RunsSt w bx bm blk cols d M pre (some x)) (t:TouchU (x.r::diskF bx bm M) w w') (ps:Nat):MgKeep ps w w':=by
 have k:∀ t',t'≠5 -> (117:TypeId)≠t' -> (9:TypeId)≠t' -> (223:TypeId)≠t' -> KeepTag t' w w':=fun t' h5 h1 h2 h3=>t.tag h5 (h.runTag h1 h2 h3)
 exact ⟨k _ (by decide) (by decide) (by decide) (by decide),k _ (by decide) (by decide) (by decide) (by decide),k _ (by decide) (by decide) (by decide) (by decide),k _ (by decide) (by decide) (by decide) (by decide),k _ (by decide) (by decide) (by decide) (by decide),k _ (by decide) (by decide) (by decide) (by decide),k _ (by decide) (by decide) (by decide) (by decide),k _ (by decide) (by decide) (by decide) (by decide),(k _ (by decide) (by decide) (by decide) (by decide)).key ps⟩
end
theorem POff.ptrs {w:World} {v:Value} {R R':List RI} (h:POff w v R) (e:R'.map RI.ptr=R.map RI.ptr):POff w v R':=by
 have hl:R'.length=R.length:=by simpa using congrArg List.length e
 obtain ⟨g,o,cap,cur,h1,h2,h3,h4,h5,h6⟩:=h
 refine ⟨g,o,cap,cur,by rw [hl]; exact h1,h2,by omega,h4,h5,fun i hi=>?_⟩
 rw [h6 i (by omega)]
 have:(R'.map RI.ptr)[i]?=(R.map RI.ptr)[i]?:=by rw [e]
 simp only [List.getElem?_map,List.getElem?_eq_getElem hi,List.getElem?_eq_getElem (show i < R.length by omega),Option.map_some,Option.some.injEq] at this
 rw [this]
structure MfInv (w0:World) (F:List Nat) (lo ps:Nat) (s:SC) (ks:List K) (bm cols pm ph bf:Nat) (pre G:List RI) (gv:Value) (rest:List RI) (r m j:Nat) (la:Int) (all:List Rec) (k:Nat) (wr:World):Prop where
 st:∃ hv L out x d M,MgSt wr lo pm ph hv bf ps ks G L /\ Merging ks all (L.map CU.cur) out /\ out.length=k /\ L.length <= 1000000 /\ RunsSt wr s.bx bm s.blk cols d M pre (some x) /\ x.r=r /\ x.recs=out /\ Left d (all.length - k+(m+1)) j /\ d.last=la /\ Sub w0 (diskF s.bx bm M) F /\ (x.r∈F \/ w0.heap.size <= x.r)
 sorter:SorterAt wr ps s
 keys:KeysAt wr s.kv ks
 own:∃ x0:RI,x0.r=r /\ POff wr s.rv (rest++[x0])
 grp:POff wr gv G
 touch:TouchU F w0 wr
theorem flat_len (L:List CU):L.length <= ((L.map CU.cur).map Cur.left).flatten.length:=by
 induction L with
 | nil=>simp
 | cons u T ih=>simp only [List.map_cons,List.flatten_cons,List.length_append,List.length_cons,Cur.left,CU.cur]; omega
section
variable {w0 wr:World} {F:List Nat} {lo ps:Nat} {s:SC} {ks:List K} {bm cols pm ph bf:Nat} {pre G:List RI} {gv:Value} {rest:List RI} {r m j:Nat} {la:Int} {all:List Rec} {k:Nat}
theorem MfInv.quiet {w':World} (h:MfInv w0 F lo ps s ks bm cols pm ph bf pre G gv rest r m j la all k wr) (t:Touch [] wr w'):MfInv w0 F lo ps s ks bm cols pm ph bf pre G gv rest r m j la all k w':=by
 obtain ⟨hv,L,out,x,d,M,h1,h2,h3,h4,h5,h6⟩:=h.st
 obtain ⟨x0,e0,h0⟩:=h.own
 exact ⟨⟨hv,L,out,x,d,M,h1.quiet t,h2,h3,h4,h5.quiet t (by simp) (fun k hk=>by simp at hk),h6⟩,h.sorter.u t.u (by simp),Sl3.keep h.keys (t.tag0 _),⟨x0,e0,h0.keep (t.tag0 _)⟩,h.grp.keep (t.tag0 _),h.touch.more t.u (by simp)⟩
theorem Merging.full {out:List Rec} {L:List Cur} (h:Merging ks all L out) (hl:all.length <= out.length):L=[]:=by
 cases L with
 | nil=>rfl
 | cons c t=>have:=h.count (by simp); omega
theorem mf_next (h:MfInv w0 F lo ps s ks bm cols pm ph bf pre G gv rest r m j la all k wr) (hsub:∀ x∈G,x∈pre) (hc1:1 <= cols) (hsm:all.length <= 900000) (hlo:w0.heap.size <= lo) (hbx:s.bx∈F) (hlt:k < all.length) :
  Calls Tryz.prog 172 #[.pointer (some ⟨pm,0,none⟩)] wr fun e w1=>∃ (no:Int) (ao:Option Addr) (n cap:Nat),e=.returned (.tuple #[.agg #[.int .i64 no,.slice ao n cap],.bool true]) /\
   ∀ W,Touch [] w1 W -> Calls Tryz.prog 113 #[.pointer (some ⟨r,0,none⟩),.agg #[.int .i64 no,.slice ao n cap]] W fun e w2=>e=.returned (.tuple #[]) /\ MfInv w0 F lo ps s ks bm cols pm ph bf pre G gv rest r m j la all (k+1) w2:=by
 obtain ⟨hv,L,out,x,d,M,h1,h2,h3,h4,h5,h6,h7,h8,h9,h10,h11⟩:=h.st
 obtain ⟨x0,e0,h0⟩:=h.own
 cases L with
 | nil=>
  have:=h2.end.1.length_eq
  omega
 | cons u T=>
  have hl8:=h8.last
  have hd0:=h5.ok.last
  simp only [List.length_cons] at h4
  have hu:=h1.curs.mem u (by simp)
  obtain ⟨dn,hdn⟩:=h1.curs.part u (by simp)
  have hrec:RecOK s.blk cols u.first:=h5.recs u.run (by simp [hsub _ hu]) u.first (by rw [hdn]; simp)
  refine (mnext_cons wr lo pm ph hv bf ps ks G u T s.bx bm s.blk cols d M pre (some x) h1 h5 hsub (by omega) hc1 (by omega)).mono ?_
  rintro e w1 ⟨rfl,hrow,hN⟩
  obtain ⟨ao,cap,ea⟩:=hrow.shape
  refine ⟨u.first.no,ao,u.first.row.length,cap,by rw [ea],fun W hW=>?_⟩
  rw [<- ea]
  obtain ⟨hv1,L1,a1,a2⟩:=hN.st
  have a3:=a2 all out h2
  obtain ⟨FF,t1,mt⟩:=hN.touch
  have k1:∀ t,t∉[117,307,331,305,241] -> KeepTag t wr W:=fun t ht=>(t1.tag (mt.notag ht)).trans (hW.tag0 t)
  have b1:=a1.quiet hW
  have b2:=hN.runs.quiet hW (by simp) (fun k hk=>by simp at hk)
  have hlen1:L1.length <= 1000000:=by
   have e1:=a3.perm.length_eq
   have:L1.length <= ((L1.map CU.cur).map Cur.left).flatten.length:=by
    have:=flat_len L1
    exact this
   rw [List.length_append] at e1
   omega
  have hxl:x.recs.length < 1000000:=by rw [h7]; omega
  subst h6
  refine (runsAdd_any (m:=all.length - (k+1)+(m+1)) (j:=j) u.first u.rv b2 hrec (Sl3.keep hrow (hW.tag0 _)) hxl (h8.mono (by omega) (Nat.le_refl _))).mono ?_
  rintro e w2 ⟨rfl,x',d',M',q1,q2,q3,q4,q5,q6,t2⟩
  have k2:∀ t,t≠5 -> (117:TypeId)≠t -> (9:TypeId)≠t -> (223:TypeId)≠t -> KeepTag t W w2:=fun t e5 e1 e2 e3=>t2.tag e5 (b2.runTag e1 e2 e3)
  have t1':TouchU F w0 W:=(h.touch.more t1.u (fun i hi=>by
   obtain ⟨_,_,_,_,_,e⟩:=mt i hi
   rcases e with rfl | e
   ·exact .inl hbx
   ·exact .inr (by omega))).more hW.u (by simp)
  have t2':TouchU F w0 w2:=t1'.more t2 (fun i hi=>by
   rcases List.mem_cons.1 hi with rfl | hi
   ·exact h11
   ·exact h10 i hi)
  refine ⟨rfl,⟨hv1,L1,out++[u.first],x',d',M',b1.keep (b2.mgKeepU t2 ps),a3,by rw [List.length_append,h3]; rfl,hlen1,q1,q2,by rw [q3,h7],q4,q5.trans h9,fun i hi=>?_,by rw [q2]; exact h11⟩,?_,?_,⟨x0,e0,?_⟩,?_,t2'⟩
  ·simp only [diskF,List.mem_cons] at hi
   rcases hi with rfl | rfl | hi
   ·exact .inl hbx
   ·exact h10 _ (by simp [diskF])
   ·rcases q6 i hi with hi | hi
    ·exact h10 _ (by simp [diskF,hi])
    ·exact .inr (Nat.le_trans t1'.size hi)
  ·exact k2 260 (by decide) (by decide) (by decide) (by decide) _ _ _ (k1 260 (by decide) _ _ _ h.sorter)
  ·exact Sl3.keep h.keys ((k1 73 (by decide)).trans (k2 73 (by decide) (by decide) (by decide) (by decide)))
  ·exact h0.keep ((k1 194 (by decide)).trans (k2 194 (by decide) (by decide) (by decide) (by decide)))
  ·exact h.grp.keep ((k1 194 (by decide)).trans (k2 194 (by decide) (by decide) (by decide) (by decide)))
theorem mf_over (h:MfInv w0 F lo ps s ks bm cols pm ph bf pre G gv rest r m j la all k wr) (hlt:k=all.length) :
  Calls Tryz.prog 172 #[.pointer (some ⟨pm,0,none⟩)] wr fun e w1=>e=.returned (.tuple #[.agg #[.int .i64 0,.slice none 0 0],.bool false]) /\ MfInv w0 F lo ps s ks bm cols pm ph bf pre G gv rest r m j la all k w1:=by
 obtain ⟨hv,L,out,x,d,M,h1,h2,h3,_⟩:=h.st
 have hL:=h2.full (by omega)
 rw [List.map_eq_nil_iff] at hL
 subst hL
 refine (mnext_nil wr lo pm ph hv bf ps ks G h1).mono ?_
 rintro e w1 ⟨rfl,t⟩
 exact ⟨rfl,h.quiet t⟩
end
end Go.Proofs.YtjoinhljdbljaaaGreat
