/- The end of mergeFirst, and its beginning, and what follows. -/
import Derived.Test.YtjoinhljdbljaaaGreatMrgBToMrgI
import Derived.Deep.LoopGhost
import Derived.BigQuiet
set_option maxHeartbeats 4000000
set_option maxRecDepth 20000
namespace Go.Proofs.YtjoinhljdbljaaaGreat
open Go.RowKit
structure MfDone (w0:World) (F:List Nat) (ps:Nat) (s:SC) (ks:List K) (bm cols:Nat) (rest:List RI) (r m j:Nat) (la:Int) (all:List Rec) (w':World):Prop where
 st:∃ x d M,SM w' ps s ks bm cols d M (rest++[x]) none (rest++[x]) /\ x.r=r /\ x.recs.Perm all /\ Srt ks x.recs /\ Left d m j /\ d.last=la /\ Sub w0 (diskF s.bx bm M) F
 touch:TouchU F w0 w'
section
variable {w0 wr:World} {F:List Nat} {lo ps:Nat} {s:SC} {ks:List K} {bm cols pm ph bf:Nat} {pre G:List RI} {gv:Value} {rest:List RI} {r m j:Nat} {la:Int} {all:List Rec} {k:Nat}
theorem mf_end (h:MfInv w0 F lo ps s ks bm cols pm ph bf pre G gv rest r m j la all k wr) (hlt:k=all.length) (hpre:pre=G++rest) (hbx:s.bx∈F) (hbm:bm∈F) :
  Calls Tryz.prog 114 #[.pointer (some ⟨r,0,none⟩)] wr fun e w1=>e=.returned (.tuple #[]) /\
   CallsD Tryz.prog 166 #[gv] .returning w1 fun e u' w2=>u'=.returning /\ e=.returned (.tuple #[]) /\ MfDone w0 F ps s ks bm cols rest r m j la all w2:=by
 obtain ⟨hv,L,out,x,d,M,h1,h2,h3,h4,h5,h6,h7,h8,h9,h10,h11⟩:=h.st
 obtain ⟨x0,e0,h0⟩:=h.own
 have hL:=h2.full (by omega)
 rw [hL] at h2
 obtain ⟨z1,z2⟩:=h2.end
 subst h6
 refine (runsEnd_any (m:=m) (j:=j) h5 (h8.mono (by omega) (Nat.le_refl _))).mono ?_
 rintro e w1 ⟨rfl,x',d',M',q1,q2,q3,q4,q5,q6,t1⟩
 refine ⟨rfl,?_⟩
 have k1:∀ t,(117:TypeId)≠t -> (9:TypeId)≠t -> (223:TypeId)≠t -> KeepTag t wr w1:=fun t e1 e2 e3=>t1.tag (h5.runTag e1 e2 e3)
 have hR:RunsSt w1 s.bx bm s.blk cols d' M' (G++(rest++[x'])) none:=by rw [<- List.append_assoc,<- hpre]; exact q1
 have t1':TouchU F w0 w1:=h.touch.more t1.u (fun i hi=>by
  rcases List.mem_cons.1 hi with rfl | hi
  ·exact h11
  ·exact h10 i hi)
 have hS1:Sub w0 (diskF s.bx bm M') F:=fun i hi=>by
  simp only [diskF,List.mem_cons] at hi
  rcases hi with rfl | rfl | hi
  ·exact .inl hbx
  ·exact .inl hbm
  ·rcases q6 i hi with hi | hi
   ·exact h10 _ (by simp [diskF,hi])
   ·exact .inr (Nat.le_trans h.touch.size hi)
 refine (deleteAll_deferred w1 s.bx bm s.blk cols d' M' gv G (rest++[x']) m j .returning (h.grp.keep (k1 194 (by decide) (by decide) (by decide))) hR q4).mono ?_
 rintro e u' w2 ⟨rfl,rfl,hD⟩
 obtain ⟨d2,M2,r1,r2,r3,r4⟩:=hD.st
 have k2:∀ t,(117:TypeId)≠t -> (9:TypeId)≠t -> KeepTag t w1 w2:=fun t e1 e2=>hD.touch.tag ((q1.pd.notag e1 e2).sub (fun i hi=>by
  simp only [List.mem_cons,List.not_mem_nil,or_false] at hi
  rcases hi with rfl | rfl<;>simp [diskF]))
 refine ⟨rfl,rfl,⟨x',d2,M2,⟨?_,?_,r1,?_⟩,q2,by rw [q3,h7]; exact z1,by rw [q3,h7]; exact z2,r2,r3.trans (q5.trans h9),fun i hi=>?_⟩,?_⟩
 ·exact k2 260 (by decide) (by decide) _ _ _ (k1 260 (by decide) (by decide) (by decide) _ _ _ h.sorter)
 ·exact Sl3.keep h.keys ((k1 73 (by decide) (by decide) (by decide)).trans (k2 73 (by decide) (by decide)))
 ·exact (h0.keep ((k1 194 (by decide) (by decide) (by decide)).trans (k2 194 (by decide) (by decide)))).ptrs (by simp [RI.ptr,q2,e0])
 ·simp only [diskF,List.mem_cons] at hi
  rcases hi with rfl | rfl | hi
  ·exact .inl hbx
  ·exact .inl hbm
  ·rcases r4 i hi with hi | hi
   ·exact hS1 _ (by simp [diskF,hi])
   ·exact .inr (Nat.le_trans t1'.size hi)
 ·exact t1'.more hD.touch.u (fun i hi=>by
   simp only [List.mem_cons,List.not_mem_nil,or_false] at hi
   rcases hi with rfl | rfl
   ·exact .inl hbx
   ·exact .inl hbm)
theorem mf_start {w3 w4:World} {x:RI} {d:DS} {M:List PF} (hG:MgReady w3 w4 ps ks s.bx bm s.blk cols d M pre (some x) G pm) (hR3:RunsSt w3 s.bx bm s.blk cols d M pre (some x)) (hS:SorterAt w3 ps s) (hK:KeysAt w3 s.kv ks) (hown:POff w3 s.rv (rest++[x])) (hgrp:POff w3 gv G) (hx:x.recs=[]) (hl:Left d (((G.map RI.recs).flatten).length+(m+1)) j) (hla:d.last=la) (hsm:G.length <= 900000) (ht:TouchU F w0 w3) (hbx:s.bx∈F) (hdf:Sub w0 (diskF s.bx bm M) F) (hxr:x.r∈F \/ w0.heap.size <= x.r) :
  ∃ ph bf,MfInv w0 F w3.heap.size ps s ks bm cols pm ph bf pre G gv rest x.r m j la (G.map RI.recs).flatten 0 w4:=by
 obtain ⟨ph,hv,bf,L,a1,a2,a3⟩:=hG.st
 have k1:∀ t,(117:TypeId)≠t -> KeepTag t w3 w4:=fun t e1=>hG.touch.tag (notag_of hR3.pd.disk e1)
 exact ⟨ph,bf,⟨hv,L,[],x,d,M,a1,a2,rfl,by omega,hG.runs,rfl,hx,by simpa using hl,hla,hdf,hxr⟩,k1 260 (by decide) _ _ _ hS,Sl3.keep hK (k1 73 (by decide)),⟨x,rfl,hown.keep (k1 194 (by decide))⟩,hgrp.keep (k1 194 (by decide)),ht.more hG.touch.u (fun i hi=>by rw [List.mem_singleton.1 hi]; exact .inl hbx)⟩
end
theorem wpList_off {ops:Array Oper} {rest:List Oper} {o:Oper} {a:Act} {w:World} {Q:Exit -> Act -> World -> Prop} (hgd:o.guard=none) (s x:Operand)
  (ho:o.op=.call { callee:=.builtin .append,args:=#[s,x],argTypes:=#[160,160] }) (g of len cap:Nat) (R:List RI) (hs:a.eval s=.slice (some ⟨g,of,none⟩) len cap) (hown:POff w (.slice (some ⟨g,of,none⟩) len cap) R)
  (ad:Addr) (y:RI) (c:Nat) (hx:a.eval x=.slice (some ad) 1 c) (hnews:w.cell? ad=some y.ptr) (hlen:R.length <= 1000000000)
  (h:∀ g' o' cap' w',POff w' (.slice (some ⟨g',o',none⟩) (len+1) cap') (R++[y]) -> Touch [g] w w' -> KeepRow g (of+len) w w' -> (g'=g \/ w.heap.size <= g') -> wpList Tryz.prog ops Q rest (a.put o.dst (.slice (some ⟨g',o',none⟩) (len+1) cap')) w') :
  wpList Tryz.prog ops Q (o::rest) a w:=by
 obtain rfl:=hown.cell.1
 refine wpList_plain hgd fun K hK=>?_
 have hw:Region.wanted o (yielded ops a.tmps)=true:=by simp [Region.wanted,hgd]
 have:=step_off (E:=True) (ops:=ops) (K:=K) (Q:=Q) hgd s x ho g of R.length cap R hs hown ad y c hx hnews hlen (fun g' o' cap' w' h1 h2 h3 h4=>hK _ _ (h g' o' cap' w' h1 h2 h3 h4))
 rw [if_pos hw] at this
 exact this
theorem mf_laid {w w2 w4:World} {ps:Nat} {s:SC} {ks:List K} {bm cols:Nat} {d d':DS} {M M':List PF} {pre:List RI} {x:RI} {g of cap n g' o' cap':Nat} (h:SM w ps s ks bm cols d M pre none pre) (hrv:s.rv=.slice (some ⟨g,of,none⟩) pre.length cap) (hn:n <= pre.length) (hR2:RunsSt w2 s.bx bm s.blk cols d' M' pre (some x)) (t2:Touch [s.bx,bm] w w2)
  (hP:POff w4 (.slice (some ⟨g',o',none⟩) (pre.length - n+1) cap') (pre.drop n++[x])) (t4:Touch [g] (w2.alloc (.cells #[x.ptr] 194)) w4) (hk:KeepRow g (of+n+(pre.length - n)) (w2.alloc (.cells #[x.ptr] 194)) w4) :
  SorterAt w4 ps s /\ SorterAt (w4.setCell ⟨ps,13,none⟩ (.slice (some ⟨g',o',none⟩) (pre.length - n+1) cap')) ps { s with rv:=.slice (some ⟨g',o',none⟩) (pre.length - n+1) cap' } /\ KeysAt (w4.setCell ⟨ps,13,none⟩ (.slice (some ⟨g',o',none⟩) (pre.length - n+1) cap')) s.kv ks /\ RunsSt (w4.setCell ⟨ps,13,none⟩ (.slice (some ⟨g',o',none⟩) (pre.length - n+1) cap')) s.bx bm s.blk cols d' M' pre (some x) /\ POff (w4.setCell ⟨ps,13,none⟩ (.slice (some ⟨g',o',none⟩) (pre.length - n+1) cap')) (.slice (some ⟨g',o',none⟩) (pre.length - n+1) cap') (pre.drop n++[x]) /\ POff (w4.setCell ⟨ps,13,none⟩ (.slice (some ⟨g',o',none⟩) (pre.length - n+1) cap')) (.slice (some ⟨g,of,none⟩) n n) (pre.take n) /\ Touch [ps,g,s.bx,bm] w (w4.setCell ⟨ps,13,none⟩ (.slice (some ⟨g',o',none⟩) (pre.length - n+1) cap')):=by
 have n2:∀ t,(117:TypeId)≠t -> (9:TypeId)≠t -> NoTag t w [s.bx,bm]:=fun t h1 h2=>(h.runs.pd.notag h1 h2).sub (fun k hk=>by
  simp only [List.mem_cons,List.not_mem_nil,or_false] at hk
  rcases hk with rfl | rfl<;>simp [diskF])
 have k2:∀ t,(117:TypeId)≠t -> (9:TypeId)≠t -> KeepTag t w (w2.alloc (.cells #[x.ptr] 194)):=fun t h1 h2=>(t2.tag (n2 t h1 h2)).trans (((Touch.refl [] w2).alloc _).tag0 t)
 have hown:=h.own
 rw [hrv] at hown
 have hown2:=hown.keep (k2 194 (by decide) (by decide))
 obtain ⟨cs,hg2⟩:=hown2.block g rfl
 have k4:∀ t,(194:TypeId)≠t -> KeepTag t (w2.alloc (.cells #[x.ptr] 194)) w4:=fun t h1=>t4.tag (notag_of hg2 h1)
 have hS4:SorterAt w4 ps s:=k4 260 (by decide) _ _ _ (k2 260 (by decide) (by decide) _ _ _ h.sorter)
 have t5:Touch [ps] w4 (w4.setCell ⟨ps,13,none⟩ (.slice (some ⟨g',o',none⟩) (pre.length - n+1) cap')):=(Touch.refl [ps] w4).setCell (p:=⟨ps,13,none⟩) (by simp) _
 have k5:∀ t,(260:TypeId)≠t -> KeepTag t w4 (w4.setCell ⟨ps,13,none⟩ (.slice (some ⟨g',o',none⟩) (pre.length - n+1) cap')):=fun t h1=>t5.tag (notag_of hS4 h1)
 have hR2':=hR2.quiet ((Touch.refl [] w2).alloc (.cells #[x.ptr] 194)) (by simp) (fun k hk=>by simp at hk)
 have hR4:=hR2'.turned (hR2'.pd.other t4 (fun k hk=>by rw [List.mem_singleton.1 hk]; exact ⟨_,_,_,hg2,by decide,by decide⟩)) t4 (notag_of hg2 (by decide)) (notag_of hg2 (by decide))
 refine ⟨hS4,hS4.setRv _,?_,hR4.turned (hR4.pd.other t5 (fun k hk=>by rw [List.mem_singleton.1 hk]; exact ⟨_,_,_,hS4,by decide,by decide⟩)) t5 (notag_of hS4 (by decide)) (notag_of hS4 (by decide)),hP.keep (k5 194 (by decide)),?_,?_⟩
 ·exact Sl3.keep h.keys (((k2 73 (by decide) (by decide)).trans (k4 73 (by decide))).trans (k5 73 (by decide)))
 ·exact ((hown2.first n hn).row hk (by omega)).keep (k5 194 (by decide))
 ·exact ((t2.mono (F':=[ps,g,s.bx,bm]) (by simp)).more ((Touch.refl [] w2).alloc (.cells #[x.ptr] 194)) (by simp)).trans ((t4.mono (by simp)).trans (t5.mono (by simp)))
theorem smF_bx (ps:Nat) (s:SC) (bm:Nat) (M:List PF) (R:List RI):s.bx∈smF ps s bm M R:=by simp [smF,runsF,diskF]
theorem smF_bm (ps:Nat) (s:SC) (bm:Nat) (M:List PF) (R:List RI):bm∈smF ps s bm M R:=by simp [smF,runsF,diskF]
theorem smF_disk (ps:Nat) (s:SC) (bm:Nat) {M M':List PF} (R:List RI) (e:rowsOf M'=rowsOf M) {i:Nat} (hi:i∈diskF s.bx bm M'):i∈smF ps s bm M R:=by
 simp only [diskF,e] at hi
 simp only [smF,runsF,diskF,List.mem_cons,List.mem_append] at hi ⊢
 exact .inr (.inr (.inr hi))
theorem mf_front {ps:Nat} {s:SC} {bm:Nat} {M:List PF} {R:List RI} {g of len cap:Nat} (h:s.rv=.slice (some ⟨g,of,none⟩) len cap):∀ k∈[ps,g,s.bx,bm],k∈smF ps s bm M R:=fun k hk=>by
 simp only [List.mem_cons,List.not_mem_nil,or_false] at hk
 rcases hk with rfl | rfl | rfl | rfl<;>simp [smF,runsF,diskF,h,Value.ownBlock]
theorem mergeFirst_any (w:World) (ps:Nat) (s:SC) (ks:List K) (bm cols:Nat) (d:DS) (M:List PF) (pre:List RI) (n m j:Nat) (all:List Rec) (hal:((pre.take n).map RI.recs).flatten=all) (h:SM w ps s ks bm cols d M pre none pre) (hn:n < pre.length) (hable:∀ x∈pre,∀ y∈x.recs,Able ks y.row) (hs:∀ x∈pre,Srt ks x.recs) (hc1:1 <= cols) (hl:Left d (all.length+(m+1)) (j+1)) (hall:all.length <= 900000) (hcount:all.length <= s.count) (hpl:pre.length <= 900000) :
  Calls Tryz.prog 182 #[.pointer (some ⟨ps,0,none⟩),.int .i64 (n:Int)] w fun e w'=>e=.returned (.tuple #[]) /\ ∃ g' o' cap' r,MfDone w (smF ps s bm M pre) ps { s with rv:=.slice (some ⟨g',o',none⟩) (pre.length - n+1) cap' } ks bm cols (pre.drop n) r m j (d.last+1) all w' /\ (s.rv.ownBlock=some g' \/ w.heap.size <= g') /\ w.heap.size <= r:=by
 have HH:=h
 obtain ⟨g,of,cap,cur,hrv,hcur,hp1,hp2,hp3,hp4⟩:=h.own
 unfold maxLen at hp3
 have hnc:n < cap:=by omega
 obtain ⟨c0,c1,c2,c3,c4,c5,c6,c7,c8,c9,c10,c11,c12,c13,c14,c15,cf⟩:=h.sorter.cell
 rw [hrv] at c13
 have HNEW:Hid (Calls Tryz.prog 112 #[.agg #[.pointer (some ⟨s.bx,0,none⟩),.int .i64 (s.blk:Int)]] w fun e w'=>∃ x:RI,e=.returned (.pointer (some ⟨x.r,0,none⟩)) /\ w'.cell? ⟨ps,13,none⟩=some (.slice (some ⟨g,of,none⟩) pre.length cap) /\ POff (w'.alloc (.cells #[.pointer (some ⟨x.r,0,none⟩)] 194)) (.slice (some ⟨g,of+n,none⟩) (pre.length - n) (cap - n)) (pre.drop n) /\ Hid (w.heap.size <= x.r /\ x.recs=[] /\ ∃ d' M',RunsSt w' s.bx bm s.blk cols d' M' pre (some x) /\ Left d' (all.length+(m+1)) j /\ d'.last=d.last+1 /\ rowsOf M'=rowsOf M /\ Touch [s.bx,bm] w w')):=by
  refine (runsNew_any _ _ h.runs hl).mono ?_
  rintro e w' ⟨x,rfl,p1,p2,d',M',p3,p4,p5,p6,p7⟩
  have n2:∀ t,(117:TypeId)≠t -> (9:TypeId)≠t -> NoTag t w [s.bx,bm]:=fun t h1 h2=>(h.runs.pd.notag h1 h2).sub (fun k hk=>by
   simp only [List.mem_cons,List.not_mem_nil,or_false] at hk
   rcases hk with rfl | rfl<;>simp [diskF])
  have ho:=h.own
  rw [hrv] at ho
  exact ⟨x,rfl,cell_touchF c13 p7 ((n2 260 (by decide) (by decide)).not_mem h.sorter),(((ho.keep (p7.tag (n2 194 (by decide) (by decide)))).keep (((Touch.refl [] w').alloc (.cells #[.pointer (some ⟨x.r,0,none⟩)] 194)).tag0 _)).rest n (by omega)),p1,p2,d',M',p3,p4,p5,p6,p7⟩
 have hmf:∀ (fn:Fn) (first cap:Array Value) (w:World),(Instr.makeFunc fn first cap).run Tryz.prog w=.ok (.func fn first cap) w:=fun _ _ _ _=>rfl
 have HAL:Hid (((pre.take n).map RI.recs).flatten=all):=hal
 have HAB:Hid (∀ x∈pre,∀ y∈x.recs,Able ks y.row):=hable
 have HS:Hid (∀ x∈pre,Srt ks x.recs):=hs
 have HHH:Hid (SM w ps s ks bm cols d M pre none pre):=HH
 have HRV:Hid (s.rv=.slice (some ⟨g,of,none⟩) pre.length cap):=hrv
 clear hal h HH hable hs hl hcur hp2 hp4 hrv cf
 go_enter_defers Tryz.func182,Tryz.ntmps182
 go_wp2_with (first | (go_at_call 112; refine HNEW.out.mono ?_; rintro e w2 ⟨x,rfl,y13,hO2,HX⟩) | (at_builtin; refine wpList_off rfl (.tmp 28) (.tmp 30) rfl g (of+n) (pre.length - n) (cap - n) (pre.drop n) rfl hO2 ⟨w2.heap.size,0,none⟩ x 1 rfl (by simp [RI.ptr]) (by simp; omega) ?_; intro g' o' cap' w4 q1 q2 q3 q4; have HZ:=HX.out; obtain ⟨hx1,hx2,d',M',hR2,hl2,hla2,hM2,t2⟩:=HZ; have HL:=mf_laid HHH.out HRV.out (by omega) hR2 t2 q1 q2 q3; obtain ⟨z1,HL2⟩:=HL; obtain ⟨_,_,_,v3,_,_,_,_,_,_,_,_,_,v13,_,_,vf⟩:=z1.cell; have f13:=vf 13; have HQ:Hid (g'=g \/ (w2.alloc (.cells #[.pointer (some ⟨x.r,0,none⟩)] 194)).heap.size <= g'):=q4; clear q1 q2 q3 q4 vf z1 hO2 y13) | (go_at_call 171; obtain ⟨z2,z3,z4,z5,z6,z7⟩:=HL2; refine (newMerge_any _ ps { s with rv:=.slice (some ⟨g',o',none⟩) (pre.length - n+1) cap' } ks s.bx bm s.blk cols d' M' pre (some x) (.slice (some ⟨g,of,none⟩) n n) (pre.take n) z2 z3 z4 z6 (fun y hy=>HAB.out y (List.mem_of_mem_take hy)) (fun y hy=>List.mem_of_mem_take hy) (by simp; omega) hc1 (by have:=hl2.last; omega) (fun y hy=>HS.out y (List.mem_of_mem_take hy))).mono ?_; rintro e w6 ⟨rfl,hG⟩; obtain ⟨ph,bf,hI⟩:=mf_start (s:={ s with rv:=.slice (some ⟨g',o',none⟩) (pre.length - n+1) cap' }) (w0:=w) (F:=smF ps s bm M pre) (rest:=pre.drop n) (m:=m) (j:=j) (la:=d.last+1) hG z4 z2 z3 z5 z6 hx2 (by rw [HAL.out]; exact hl2) hla2 (by simp; omega) (z7.u.mono (mf_front HRV.out)) (smF_bx ps s bm M pre) (fun i hi=>.inl (smF_disk ps s bm pre hM2 hi)) (.inr hx1); rw [HAL.out] at hI; obtain ⟨_,_,_,u3,_⟩:=hI.sorter.cell; clear hG z2 z3 z4 z5 z6 hl2 v3 v13 f13 hR2 t2))
 have HGG:Hid (s.rv.ownBlock=some g' \/ w.heap.size <= g'):=by
  rcases HQ.out with e | e
  ·exact .inl (by rw [HRV.out,e]; rfl)
  ·obtain ⟨_,_,_,_,_,_,_,_,tt⟩:=HX.out
   have:=tt.size
   rw [World.size_alloc] at e
   exact .inr (by omega)
 have HRD:Hid (pre=pre.take n++pre.drop n):=(List.take_append_drop n pre).symm
 have hsz:(w4.setCell ⟨ps,13,none⟩ (.slice (some ⟨g',o',none⟩) (pre.length - n+1) cap')).heap.size=w4.heap.size:=by simp
 rw [hsz] at hI
 have HLO:Hid (w.heap.size <= w4.heap.size):=by have:=z7.size; rw [hsz] at this; exact this
 clear hsz
 clear z7 hx2 hla2 hM2
 go_loopw [42] (fun i wr=>∃ k:Nat,k <= all.length /\ i=.int .i64 k /\ MfInv w (smF ps s bm M pre) w4.heap.size ps { s with rv:=.slice (some ⟨g',o',none⟩) (pre.length - n+1) cap' } ks bm cols (w4.heap.size+2) ph bf pre (pre.take n) (.slice (some ⟨g,of,none⟩) n n) (pre.drop n) x.r m j (d.last+1) all k wr) (fun i _=>all.length - (intOf i).toNat)
 case atStart=>exact ⟨0,by omega,rfl,hI⟩
 case round=>
  clear hI u3
  obtain ⟨k,hk,rfl,hI⟩:=hrel
  have HB:Hid (s.bx∈smF ps s bm M pre /\ bm∈smF ps s bm M pre):=⟨smF_bx ps s bm M pre,smF_bm ps s bm M pre⟩
  by_cases hlt:k < all.length
  ·have hst:=mf_next hI (fun y hy=>List.mem_of_mem_take hy) hc1 hall HLO.out HB.out.1 hlt
   have hkc:(k:Int) < (s.count:Int):=by omega
   have hks:k <= 900000:=by omega
   go_wp2_with (first | (go_at_call 172; refine hst.mono ?_; rintro e w7 ⟨no,ao,an,acap,rfl,hst2⟩) | (go_at_call 113; refine (hst2 _ ((Touch.refl [] _).alloc _)).mono ?_; rintro e w8 ⟨rfl,hI8⟩))
   go_roundw
   case rel=>exact ⟨k+1,by omega,by go_num,hI8⟩
   case measure=>simp [intOf]; omega
  ·have hke:k=all.length:=by omega
   by_cases hkc:(k:Int) < (s.count:Int)
   ·have hst:=mf_over hI hke
    have HKE:Hid (k=all.length):=hke
    clear hke
    go_wp2_with (first | (go_at_call 172; refine hst.mono ?_; rintro e w7 ⟨rfl,hI7⟩; have hst2:=mf_end (hI7.quiet ((Touch.refl [] _).alloc (.cells #[.int .i64 0,.slice none 0 0] 205))) HKE.out HRD.out HB.out.1 HB.out.2) | (go_at_call 114; refine hst2.mono ?_; rintro e w8 ⟨rfl,hD8⟩))
    refine leaves_cons (f:=166) (args:=#[.slice (some ⟨g,of,none⟩) n n]) (by simp) (by simp [go_sem]) ?_
    refine hD8.mono ?_
    rintro e u' w9 ⟨rfl,rfl,hD9⟩
    exact ⟨_,results_none rfl _ _ _,rfl,g',o',cap',x.r,hD9,HGG.out,hx1⟩
   ·have hst2:=mf_end hI hke HRD.out HB.out.1 HB.out.2
    have HKE:Hid (k=all.length):=hke
    clear hke
    go_wp2_with (go_at_call 114; refine hst2.mono ?_; rintro e w8 ⟨rfl,hD8⟩)
    refine leaves_cons (f:=166) (args:=#[.slice (some ⟨g,of,none⟩) n n]) (by simp) (by simp [go_sem]) ?_
    refine hD8.mono ?_
    rintro e u' w9 ⟨rfl,rfl,hD9⟩
    exact ⟨_,results_none rfl _ _ _,rfl,g',o',cap',x.r,hD9,HGG.out,hx1⟩
structure MtInv (w:World) (ps:Nat) (s:SC) (ks:List K) (bm cols:Nat) (rows:List Rec) (F:List Nat) (m j:Nat) (pre:List RI) (s':SC) (d':DS) (M':List PF) (wr:World):Prop where
 sm:SM wr ps s' ks bm cols d' M' pre none pre
 runs:Runs ks rows (pre.map RI.recs)
 same:∃ v,s'={ s with rv:=v }
 left:Left d' (pre.length * (rows.length+1)+m) (pre.length+j)
 touch:TouchU F w wr
 sub:Sub w (smF ps s' bm M' pre) F
 few:pre.length <= 900000
theorem take_flat_le {l:List (List Rec)} (n:Nat):((l.take n).flatten).length <= l.flatten.length:=by
 have:l.flatten=(l.take n).flatten++(l.drop n).flatten:=by rw [<- List.flatten_append,List.take_append_drop]
 rw [this,List.length_append]
 omega
theorem mt_step {w wr:World} {ps:Nat} {s s':SC} {ks:List K} {bm cols:Nat} {rows:List Rec} {F:List Nat} {m j:Nat} {pre:List RI} {d':DS} {M':List PF} (h:MtInv w ps s ks bm cols rows F m j pre s' d' M' wr) (hf:2 <= s.fan) (hlt:s.fan < pre.length) (hc1:1 <= cols) (hable:∀ y∈rows,Able ks y.row) (hrows:rows.length <= 900000) (hcount:rows.length <= s.count) :
  Calls Tryz.prog 182 #[.pointer (some ⟨ps,0,none⟩),.int .i64 ((min s.fan (pre.length - s.fan+1):Nat):Int)] wr fun e w'=>e=.returned (.tuple #[]) /\ ∃ pre2 s2 d2 M2,MtInv w ps s ks bm cols rows F m j pre2 s2 d2 M2 w' /\ pre2.length < pre.length /\ s.fan <= pre2.length:=by
 obtain ⟨n,hn⟩:∃ n,n=min s.fan (pre.length - s.fan+1):=⟨_,rfl⟩
 rw [<- hn]
 have hn2:2 <= n /\ n <= pre.length - s.fan+1 /\ n <= s.fan:=by omega
 obtain ⟨v,hsame⟩:=h.same
 have hmem:∀ x∈pre,∀ y∈x.recs,y∈rows:=fun x hx y hy=>h.runs.perm.mem_iff.1 (List.mem_flatten.2 ⟨x.recs,List.mem_map_of_mem hx,hy⟩)
 have htot:(((pre.take n).map RI.recs).flatten).length <= rows.length:=by
  have h1:=take_flat_le (l:=pre.map RI.recs) n
  rw [List.map_take,h.runs.perm.length_eq.symm]
  exact h1
 have hlen2:(pre.drop n).length+1=pre.length - n+1:=by simp
 obtain ⟨q,hq⟩:∃ q,pre.length - n+1+q+1=pre.length:=⟨n - 2,by omega⟩
 have hq2:(pre.length - n+1+q+1) * (rows.length+1)=(pre.length - n+1) * (rows.length+1)+q * (rows.length+1)+(rows.length+1):=by rw [Nat.add_mul,Nat.add_mul]; omega
 rw [hq] at hq2
 have hleft:Left d' ((((pre.take n).map RI.recs).flatten).length+(((pre.length - n+1) * (rows.length+1)+m)+1)) ((pre.length - n+1+j)+1):=h.left.mono (by omega) (by omega)
 have hcnt:s'.count=s.count:=by rw [hsame]
 refine (mergeFirst_any wr ps s' ks bm cols d' M' pre n ((pre.length - n+1) * (rows.length+1)+m) (pre.length - n+1+j) _ rfl h.sm (by omega) (fun x hx y hy=>hable y (hmem x hx y hy)) (fun x hx=>h.runs.runs x.recs (List.mem_map_of_mem hx)) hc1 hleft (by omega) (by omega) h.few).mono ?_
 rintro e w' ⟨rfl,g',o',cap',r,hD,hg',hr⟩
 obtain ⟨x,d2,M2,p1,p2,p3,p4,p5,p6,p7⟩:=hD.st
 have hpl:(pre.drop n++[x]).length=pre.length - n+1:=by simp
 refine ⟨rfl,pre.drop n++[x],_,d2,M2,⟨p1,?_,⟨_,by rw [hsame]⟩,by rw [hpl]; exact p5,h.touch.more hD.touch h.sub,?_,by have:=h.few; omega⟩,by omega,by omega⟩
 ·have:=h.runs.merge n (out:=x.recs) (by rw [<- List.map_take]; exact p3) p4
  rw [List.map_append,List.map_drop]
  exact this
 ·intro i hi
  have hsz:=h.touch.size
  simp only [smF,runsF,List.mem_cons,List.mem_append,List.map_append,List.map_cons,List.map_nil,Value.ownBlock,Option.toList_some,List.not_mem_nil,or_false] at hi
  rcases hi with rfl | rfl | (hi | rfl) | hi
  ·exact h.sub _ (by simp [smF])
  ·rcases hg' with e | e
   ·exact h.sub _ (by simp [smF,e])
   ·exact .inr (by omega)
  ·obtain ⟨z,hz,rfl⟩:=List.mem_map.1 hi
   exact h.sub _ (by simp only [smF,runsF,List.mem_cons,List.mem_append]; exact .inr (.inr (.inl (List.mem_map_of_mem (List.mem_of_mem_drop hz)))))
  ·exact .inr (by omega)
  ·rcases p7 i hi with e | e
   ·exact h.sub _ e
   ·exact .inr (by omega)
theorem MtInv.quiet {w wr w':World} {ps:Nat} {s s':SC} {ks:List K} {bm cols:Nat} {rows:List Rec} {F:List Nat} {m j:Nat} {pre:List RI} {d':DS} {M':List PF} (h:MtInv w ps s ks bm cols rows F m j pre s' d' M' wr) (t:Touch [] wr w'):MtInv w ps s ks bm cols rows F m j pre s' d' M' w':=
 ⟨⟨h.sm.sorter.u t.u (by simp),Sl3.keep h.sm.keys (t.tag0 _),h.sm.runs.quiet t (by simp) (fun k hk=>by simp at hk),h.sm.own.keep (t.tag0 _)⟩,h.runs,h.same,h.left,h.touch.more t.u (by simp),h.sub,h.few⟩
theorem mergeToFan_any (w:World) (ps:Nat) (s:SC) (ks:List K) (bm cols:Nat) (rows:List Rec) (F:List Nat) (m j:Nat) (pre:List RI) (s0:SC) (d:DS) (M:List PF) (w0:World) (h:MtInv w0 ps s ks bm cols rows F m j pre s0 d M w) (hne:pre≠[]) (hf:2 <= s.fan) (hfs:s.fan <= 1000000) (hc1:1 <= cols) (hable:∀ y∈rows,Able ks y.row) (hrows:rows.length <= 900000) (hcount:rows.length <= s.count) :
  Calls Tryz.prog 170 #[.pointer (some ⟨ps,0,none⟩)] w fun e w'=>e=.returned (.tuple #[]) /\ ∃ pre2 s2 d2 M2,MtInv w0 ps s ks bm cols rows F m j pre2 s2 d2 M2 w' /\ pre2≠[]:=by
 have H0:Hid (∃ pre2 s2 d2 M2,MtInv w0 ps s ks bm cols rows F m j pre2 s2 d2 M2 w /\ pre2≠[] /\ pre2.length=pre.length):=⟨pre,s0,d,M,h,hne,rfl⟩
 have HAB:Hid (∀ y∈rows,Able ks y.row):=hable
 clear h hne hable
 go_enter Tryz.func170,Tryz.ntmps170
 go_wp2
 go_loopg [] (pre.length) (fun g wr=>∃ pre2 s2 d2 M2,MtInv w0 ps s ks bm cols rows F m j pre2 s2 d2 M2 wr /\ pre2≠[] /\ pre2.length=g)
 case atStart=>exact H0.out
 case round=>
  clear H0
  obtain ⟨pre2,s2,d2,M2,hI,hne,hg⟩:=hrel
  obtain ⟨v,hsame⟩:=hI.same
  obtain ⟨g,of,cap,cur,hrv,hcur,hp1,hp2,hp3,hp4⟩:=hI.sm.own
  obtain ⟨c0,c1,c2,c3,c4,c5,c6,c7,c8,c9,c10,c11,c12,c13,c14,c15,cf⟩:=hI.sm.sorter.cell
  have hfan:s2.fan=s.fan:=by rw [hsame]
  rw [hrv] at c13
  rw [hfan] at c5
  have hfew:=hI.few
  have HI:Hid (MtInv w0 ps s ks bm cols rows F m j pre2 s2 d2 M2 wr /\ pre2≠[] /\ pre2.length=gk):=⟨hI,hne,hg⟩
  by_cases hlt:s.fan < pre2.length
  ·have HST:Hid (∀ W,Touch [] wr W -> Calls Tryz.prog 182 #[.pointer (some ⟨ps,0,none⟩),.int .i64 (min (s.fan:Int) ((pre2.length:Int) - (s.fan:Int)+1))] W fun e w'=>e=.returned (.tuple #[]) /\ ∃ pre3 s3 d3 M3,MtInv w0 ps s ks bm cols rows F m j pre3 s3 d3 M3 w' /\ pre3.length < pre2.length /\ s.fan <= pre3.length):=fun W hW=>by
    have:=mt_step (hI.quiet hW) hf hlt hc1 HAB.out hrows hcount
    have e:((min s.fan (pre2.length - s.fan+1):Nat):Int)=min (s.fan:Int) ((pre2.length:Int) - (s.fan:Int)+1):=by omega
    rw [e] at this
    exact this
   have hlt2:(s.fan:Int) < (pre2.length:Int):=by omega
   clear hI hne hg hsame hrv hcur hp2 hp4 cf hfan
   go_wp2
   go_region
   all_goals go_wp2
   have hwr:IntKind.i64.wrap (IntKind.i64.wrap ((pre2.length:Int) - (s.fan:Int))+1)=(pre2.length:Int) - (s.fan:Int)+1:=by rw [wrap_small ((pre2.length:Int) - (s.fan:Int)) (by omega) (by omega),wrap_small _ (by omega) (by omega)]
   go_region_with (first | (go_at_call 182; refine (HST.out _ (((Touch.refl [] _).drew).drew)).mono ?_; rintro e w3 ⟨rfl,pre3,s3,d3,M3,q1,q2,q3⟩))
   all_goals
    go_wp2
    go_roundg (pre3.length)
    case measure=>have:=HI.out.2.2; omega
    case rel=>exact ⟨pre3,s3,d3,M3,q1,(fun e=>by rw [e] at q3; simp at q3; omega),rfl⟩
  ·have hlt2:¬ (s.fan:Int) < (pre2.length:Int):=by omega
   clear hI hne hg hsame hrv hcur hp2 hp4 cf hfan
   go_wp2
   go_region
   all_goals go_wp2
   go_end0
   obtain ⟨hI,hne,hg⟩:=HI.out
   exact ⟨rfl,pre2,s2,d2,M2,hI.quiet ((Touch.refl [] _).drew),hne⟩
def OwnT:List TypeId:=[260,302,263,194,117,9,223,307,331,305,241]
def OwnF (w:World) (F:List Nat):Prop:=∀ k∈F,(∃ cs t f,w.heap[k]?=some (.cells cs t f) /\ t∈OwnT) \/ ∃ es c,w.heap[k]?=some (.map es c)
def Hi (B:Nat) (F:List Nat):Prop:=∀ k∈F,B <= k
theorem Hi.sub {B:Nat} {w:World} {F G:List Nat} (h:Hi B F) (s:Sub w G F) (hB:B <= w.heap.size):Hi B G:=fun k hk=>by
 rcases s k hk with e | e
 ·exact h k e
 ·exact Nat.le_trans hB e
structure Low (B:Nat) (w w':World):Prop where
 os:w'.os=w.os
 tape:w'.tape=w.tape
 output:w'.output=w.output
 size:w.heap.size <= w'.heap.size
 block:∀ k,k < B -> k < w.heap.size -> w'.heap[k]?=w.heap[k]?
theorem Low.trans {B:Nat} {a b c:World} (h:Low B a b) (k:Low B b c):Low B a c:=⟨k.os.trans h.os,k.tape.trans h.tape,k.output.trans h.output,Nat.le_trans h.size k.size,fun i h1 h2=>(k.block i h1 (Nat.lt_of_lt_of_le h2 h.size)).trans (h.block i h1 h2)⟩
theorem Low.mono {B C:Nat} {a b:World} (h:Low B a b) (hC:C <= B):Low C a b:=⟨h.os,h.tape,h.output,h.size,fun k h1 h2=>h.block k (Nat.lt_of_lt_of_le h1 hC) h2⟩
theorem Low.below {w w':World} (h:Low w.heap.size w w'):Below w.heap.size w w':=⟨h.os,h.tape,h.output,h.size,fun k hk=>h.block k hk hk⟩
theorem TouchU.low {B:Nat} {F:List Nat} {w w':World} (t:TouchU F w w') (h:Hi B F):Low B w w':=⟨t.os,t.tape,t.output,t.size,fun k h1 h2=>t.block k h2 (fun e=>by have:=h k e; omega) (fun ⟨r,hr,hrk⟩=>by have:=h r hr; omega)⟩
theorem Touch.low {B:Nat} {F:List Nat} {w w':World} (t:Touch F w w') (h:Hi B F):Low B w w':=t.u.low h
theorem Hi.nil (B:Nat):Hi B []:=fun k hk=>by simp at hk
def OwnStep (B:Nat) (w w':World):Prop:=∃ F,TouchU F w w' /\ OwnF w F /\ Hi B F
def SpT:List TypeId:=[260,302,263]
def OwnM (B:Nat) (Fm:List Nat) (w w':World):Prop:=∃ F,TouchU F w w' /\ OwnF w F /\ Hi B F /\ ∀ k∈F,k∈Fm \/ ∀ cs t f,w.heap[k]?=some (.cells cs t f) -> t∉SpT
theorem OwnM.step {B:Nat} {Fm:List Nat} {w w':World} (h:OwnM B Fm w w'):OwnStep B w w':=by
 obtain ⟨F,h1,h2,h3,_⟩:=h
 exact ⟨F,h1,h2,h3⟩
theorem OwnM.mono {B:Nat} {Fm Gm:List Nat} {w w':World} (h:OwnM B Fm w w') (hs:∀ k∈Fm,k∈Gm):OwnM B Gm w w':=by
 obtain ⟨F,h1,h2,h3,h4⟩:=h
 exact ⟨F,h1,h2,h3,fun k hk=>(h4 k hk).imp (hs k) id⟩
theorem OwnM.spec {B:Nat} {Fm:List Nat} {w w':World} (h:OwnM B Fm w w') {k:Nat} {cs:Array Value} {t:TypeId} {f:Nat × Nat} (hk:w.heap[k]?=some (.cells cs t f)) (ht:t∈SpT) (hn:k∉Fm):w'.heap[k]?=some (.cells cs t f):=by
 obtain ⟨F,h1,_,_,h4⟩:=h
 rw [h1.block k (Array.getElem?_eq_some_iff.1 hk).1 (fun e=>?_) (fun _ cs' f' e=>?_)]
 ·exact hk
 ·rcases h4 k e with h4 | h4
  ·exact hn h4
  ·exact h4 _ _ _ hk ht
 ·rw [hk] at e
  simp only [Option.some.injEq,Obj.cells.injEq] at e
  rw [e.2.1] at ht
  exact absurd ht (by decide)
theorem OwnF.notag {w:World} {F:List Nat} (h:OwnF w F) {t:TypeId} (ht:t∉OwnT):NoTag t w F:=fun k hk cs f e=>by
 rcases h k hk with ⟨cs',t',f',h1,h2⟩ | ⟨es,c,h1⟩
 ·rw [h1] at e
  simp only [Option.some.injEq,Obj.cells.injEq] at e
  obtain ⟨_,rfl,_⟩:=e
  exact ht h2
 ·rw [h1] at e
  simp at e
theorem OwnStep.tag {B:Nat} {w w':World} (h:OwnStep B w w') {t:TypeId} (ht:t∉OwnT) (h5:t≠5):KeepTag t w w':=by
 obtain ⟨F,h1,h2,_⟩:=h
 exact h1.tag h5 (h2.notag ht)
theorem OwnStep.low {B:Nat} {w w':World} (h:OwnStep B w w'):Low B w w':=by
 obtain ⟨F,h1,_,h3⟩:=h
 exact h1.low h3
theorem OwnStep.size {B:Nat} {w w':World} (h:OwnStep B w w'):w.heap.size <= w'.heap.size:=by
 obtain ⟨F,h1,_⟩:=h
 exact h1.size
theorem OwnStep.other {B:Nat} {w w':World} (h:OwnStep B w w') {k:Nat} {ob:Obj} (hk:w.heap[k]?=some ob) (h1:∀ cs t f,ob≠.cells cs t f) (h2:∀ es c,ob≠.map es c):w'.heap[k]?=some ob:=by
 obtain ⟨F,t,hF,_⟩:=h
 rw [t.block k (Array.getElem?_eq_some_iff.1 hk).1 (fun e=>?_) (fun _ cs f e=>?_)]
 ·exact hk
 ·rcases hF k e with ⟨cs,t',f,e1,_⟩ | ⟨es,c,e1⟩
  ·rw [hk] at e1; simp at e1; exact h1 _ _ _ e1
  ·rw [hk] at e1; simp at e1; exact h2 _ _ e1
 ·rw [hk] at e; simp at e; exact h1 _ _ _ e
theorem Touch.ownM {B:Nat} {Fm:List Nat} {w w':World} (h:Touch [] w w'):OwnM B Fm w w':=⟨[],h.u,fun k hk=>by simp at hk,Hi.nil B,fun k hk=>by simp at hk⟩
theorem PD.ownF {w:World} {bx bm:Nat} {d:DS} {M:List PF} (h:PD w bx bm d M):OwnF w (diskF bx bm M):=fun k hk=>by
 simp only [diskF,List.mem_cons] at hk
 rcases hk with rfl | rfl | hk
 ·exact .inl ⟨_,_,_,h.disk,by decide⟩
 ·obtain ⟨es,c,hb,_⟩:=h.map
  exact .inr ⟨es,c,hb⟩
 ·obtain ⟨m,hm,hk⟩:=List.mem_flatMap.1 hk
  rcases (h.rows m hm).2 with ⟨e2,_⟩ | ⟨g,cap,cur,e2,_,hg,_⟩
  ·rw [e2] at hk; simp [Value.ownBlock] at hk
  ·rw [e2] at hk
   simp [Value.ownBlock] at hk
   subst hk
   exact .inl ⟨_,_,_,hg,by decide⟩
theorem RunsSt.ownF {w:World} {bx bm blk cols:Nat} {d:DS} {M:List PF} {pre:List RI} {o:Option RI} (h:RunsSt w bx bm blk cols d M pre o):OwnF w (runsF bx bm M (pre++o.toList)):=fun k hk=>by
 rcases List.mem_append.1 hk with hk | hk
 ·obtain ⟨x,hx,rfl⟩:=List.mem_map.1 hk
  obtain ⟨n,v,hc⟩:=h.cell hx
  exact .inl ⟨_,_,_,hc,by decide⟩
 ·exact h.pd.ownF k hk
theorem SB.ownF {w:World} {ps bs:Nat} {s:SC} {hv:Value} {ks:List K} {L:List EV} {bm cols:Nat} {d:DS} {M:List PF} {pre:List RI} {o:Option RI} (h:SB w ps bs s hv ks L bm cols d M pre o):OwnF w (sbF ps s hv bm M (pre++o.toList)):=fun k hk=>by
 simp only [sbF,heapF,List.mem_cons,List.mem_append,Option.mem_toList] at hk
 rcases hk with rfl | ((rfl | hk) | hk) | hk
 ·exact .inl ⟨_,_,_,h.sorter,by decide⟩
 ·exact .inl ⟨_,_,_,h.heap.head,by decide⟩
 ·obtain ⟨cs,f,hc⟩:=h.heap.items.tag k hk
  exact .inl ⟨_,_,_,hc,by decide⟩
 ·obtain ⟨cs,hc⟩:=h.own.block k hk
  exact .inl ⟨_,_,_,hc,by decide⟩
 ·exact h.runs.ownF k hk
theorem MT.ownF {w:World} {bx lo:Nat} {F:List Nat} (h:MT w bx lo F):OwnF w F:=fun k hk=>by
 obtain ⟨cs,t,f,h1,h2,_⟩:=h k hk
 refine .inl ⟨cs,t,f,h1,?_⟩
 simp only [List.mem_cons,List.not_mem_nil,or_false] at h2
 rcases h2 with rfl | rfl | rfl | rfl | rfl<;>decide
structure SEnd (w:World) (ps bx bm blk cols m j:Nat):Prop where
 hi:bm <= bx
 st:∃ s d M pre,s.bx=bx /\ s.blk=blk /\ SorterAt w ps s /\ RunsSt w bx bm blk cols d M pre none /\ (POff w s.rv pre \/ (pre=[] /\ ∃ ao cap,s.rv=.slice ao 0 cap)) /\ Left d m j
theorem deleteNone_any (w:World) (ao:Option Addr) (cap:Nat):Calls Tryz.prog 166 #[.slice ao 0 cap] w fun e w'=>e=.returned (.tuple #[]) /\ w'=w:=by
 go_enter Tryz.func166,Tryz.ntmps166
 go_wp2
 refine wp_loop_rounds 1 ?_
 rw [rounds_succ]
 go_wp2
 first | go_end0 | refine bodyPost_ret (results_none rfl _ _ _) rfl ?_
 exact ⟨rfl,rfl⟩
structure Closed (w w':World) (bx bm blk cols m j:Nat):Prop where
 st:∃ d M,RunsSt w' bx bm blk cols d M [] none /\ Left d m j
 step:OwnM bm [] w w'
theorem SEnd.delete {w:World} {ps bx bm blk cols m j:Nat} (h:SEnd w ps bx bm blk cols m j):∃ s,SorterAt w ps s /\ Calls Tryz.prog 166 #[s.rv] w fun e w'=>e=.returned (.tuple #[]) /\ Closed w w' bx bm blk cols m j:=by
 obtain ⟨s,d,M,pre,rfl,rfl,h1,h2,h3,h4⟩:=h.st
 refine ⟨s,h1,?_⟩
 rcases h3 with h3 | ⟨rfl,ao,cap,e⟩
 ·refine (deleteAll_any w s.bx bm s.blk cols d M s.rv pre [] m j h3 (by rw [List.append_nil]; exact h2) h4).mono ?_
  rintro e w' ⟨rfl,hD⟩
  obtain ⟨d',M',p1,p2,_,_⟩:=hD.st
  have hi:=h.hi
  exact ⟨rfl,⟨d',M',p1,p2⟩,_,hD.touch.u,fun k hk=>h2.pd.ownF k (by
   simp only [List.mem_cons,List.not_mem_nil,or_false] at hk
   rcases hk with rfl | rfl<;>simp [diskF]),fun k hk=>by
   simp only [List.mem_cons,List.not_mem_nil,or_false] at hk
   rcases hk with rfl | rfl<;>omega,fun k hk=>.inr (fun cs t f e=>by
   simp only [List.mem_cons,List.not_mem_nil,or_false] at hk
   rcases hk with rfl | rfl
   ·have:=h2.pd.disk
    rw [this] at e
    simp only [Option.some.injEq,Obj.cells.injEq] at e
    rw [<- e.2.1]
    decide
   ·obtain ⟨es,c,hb,_⟩:=h2.pd.map
    rw [hb] at e
    cases e)⟩
 ·rw [e]
  refine (deleteNone_any w ao cap).mono ?_
  rintro e w' ⟨rfl,rfl⟩
  exact ⟨rfl,⟨d,M,h2,h4⟩,(Touch.refl [] _).ownM⟩
structure OutA (w:World) (ps bs:Nat) (s:SC) (hv:Value) (ks:List K) (L:List EV) (bm cols:Nat) (d:DS) (M:List PF) (rows out:List Rec):Prop where
 sb:SB w ps bs s hv ks L bm cols d M [] none
 give:Giving ks rows (L.map Prod.fst) out
 mg:s.mg=.pointer none
 given:s.given=out.length
 few:L.length <= 100000
 hi:Hi bm (ps::s.bx::heapF s.ph hv)
structure OutB (w:World) (lo ps:Nat) (s:SC) (ks:List K) (bm cols:Nat) (d:DS) (M:List PF) (pre:List RI) (pm ph:Nat) (hv:Value) (bf:Nat) (L:List CU) (rows out:List Rec):Prop where
 sm:SM w ps s ks bm cols d M pre none pre
 st:MgSt w lo pm ph hv bf ps ks pre L
 mrg:Merging ks rows (L.map CU.cur) out
 mg:s.mg=.pointer (some ⟨pm,0,none⟩)
 given:s.given=out.length
 few:L.length <= 1000000
 last:d.last <= 1000000000
 c1:1 <= cols
 hi:bm <= ps /\ bm <= s.bx /\ bm <= lo
structure SOut (w:World) (ps bx bm blk cols count m j:Nat) (ks:List K) (rows out:List Rec) (Fm:List Nat):Prop where
 st:∃ s d M,s.bx=bx /\ s.blk=blk /\ s.count=count /\ Left d m j /\ ((∃ bs hv L,ps::heapF s.ph hv=Fm /\ OutA w ps bs s hv ks L bm cols d M rows out) \/ ([ps]=Fm /\ ∃ lo pre pm ph hv bf L,OutB w lo ps s ks bm cols d M pre pm ph hv bf L rows out))
theorem end_laid {w2 w3:World} {ps:Nat} {s:SC} {ks:List K} {bm cols:Nat} {d:DS} {M:List PF} {pre:List RI} {rows:List Rec} {pm:Nat} (h:SM w2 ps s ks bm cols d M pre none pre) (hG:MgReady w2 w3 ps ks s.bx bm s.blk cols d M pre none pre pm) (hr:Runs ks rows (pre.map RI.recs)) (hg:s.given=0) (hp:pre.length <= 1000000) (hl:d.last <= 1000000000) (c1:1 <= cols) (hi:bm <= ps /\ bm <= s.bx /\ bm <= w2.heap.size) :
  SorterAt w3 ps s /\ ∃ ph hv bf L,OutB (w3.setCell ⟨ps,14,none⟩ (.pointer (some ⟨pm,0,none⟩))) w2.heap.size ps { s with mg:=.pointer (some ⟨pm,0,none⟩) } ks bm cols d M pre pm ph hv bf L rows []:=by
 obtain ⟨ph,hv,bf,L,a1,a2,a3⟩:=hG.st
 have k3:∀ t,(117:TypeId)≠t -> KeepTag t w2 w3:=fun t ht=>hG.touch.tag (notag_of h.runs.pd.disk ht)
 have hS3:SorterAt w3 ps s:=k3 260 (by decide) _ _ _ h.sorter
 have hS4:=hS3.setMg (.pointer (some ⟨pm,0,none⟩))
 have t4:Touch [ps] w3 (w3.setCell ⟨ps,14,none⟩ (.pointer (some ⟨pm,0,none⟩))):=(Touch.refl [ps] w3).setCell (p:=⟨ps,14,none⟩) (by simp) _
 have k4:∀ t,(260:TypeId)≠t -> KeepTag t w3 (w3.setCell ⟨ps,14,none⟩ (.pointer (some ⟨pm,0,none⟩))):=fun t ht=>t4.tag (notag_of hS3 ht)
 refine ⟨hS3,ph,hv,bf,L,⟨hS4,Sl3.keep h.keys ((k3 73 (by decide)).trans (k4 73 (by decide))),hG.runs.turned (hG.runs.pd.other t4 (fun k hk=>by rw [List.mem_singleton.1 hk]; exact ⟨_,_,_,hS3,by decide,by decide⟩)) t4 (notag_of hS3 (by decide)) (notag_of hS3 (by decide)),h.own.keep ((k3 194 (by decide)).trans (k4 194 (by decide)))⟩,a1.keep ⟨k4 _ (by decide),k4 _ (by decide),k4 _ (by decide),k4 _ (by decide),k4 _ (by decide),k4 _ (by decide),k4 _ (by decide),k4 _ (by decide),KeepKey.of hS3 hS4 rfl⟩,a2.of_perm hr.perm,rfl,by simpa using hg,by omega,hl,c1,hi⟩
theorem SB.mt {w w1:World} {ps bs:Nat} {s:SC} {hv:Value} {ks:List K} {bm cols:Nat} {d:DS} {M:List PF} {pre:List RI} {rows:List Rec} {F:List Nat} {m j:Nat} (h:SB w1 ps bs s hv ks [] bm cols d M pre none) (hr:Runs ks rows (pre.map RI.recs)) (hne:pre≠[]) (hl:Left d (pre.length * (rows.length+1)+m) (pre.length+j)) (ht:TouchU F w w1) (hs:Sub w (sbF ps s hv bm M pre) F) (hf:pre.length <= 900000):MtInv w ps s ks bm cols rows F m j pre s d M w1:=by
 refine ⟨⟨h.sorter,h.keys,h.runs,?_⟩,hr,⟨s.rv,rfl⟩,hl,ht,fun k hk=>hs k ?_,hf⟩
 ·have:=h.own
  simp only [Option.toList_none,List.append_nil] at this
  exact this.off hne
 ·simp only [smF,sbF,List.mem_cons,List.mem_append] at hk ⊢
  rcases hk with hk | hk | hk
  ·exact .inl hk
  ·exact .inr (.inl (.inr hk))
  ·exact .inr (.inr hk)
structure Ended (w w':World) (F:List Nat) (ps bx bm blk cols count m j:Nat) (ks:List K) (rows:List Rec):Prop where
 st:∃ Fm,SOut w' ps bx bm blk cols count m j ks rows [] Fm /\ Fm≠[] /\ ∀ k∈Fm,k∈F
 touch:TouchU F w w'
theorem end_chain {w:World} {ps bs:Nat} {s:SC} {hv:Value} {ks:List K} {L:List EV} {bm cols:Nat} {d:DS} {M:List PF} {pre:List RI} {o:Option RI} {rows:List Rec} {lr:Rec} {P m j j2:Nat} (h:SpSt w ps bs s hv ks L bm cols d M pre o rows lr) (hne:pre++o.toList≠[]) (hl:Left d (2 * L.length+((P * (rows.length+1)+m)+1)) (L.length+j)) (hP:1000000000 <= P+j) (hPj:P+j2 <= j) (hPs:P <= 900000) (hf:2 <= s.fan) (hfs:s.fan <= 1000000) (hc1:1 <= cols) (hable:∀ y∈rows,Able ks y.row) (hg:s.given=0) (hhi:Hi bm (sbF ps s hv bm M (pre++o.toList))) :
  Calls Tryz.prog 169 #[.pointer (some ⟨ps,0,none⟩)] w fun e w1=>e=.returned (.tuple #[]) /\
   Calls Tryz.prog 170 #[.pointer (some ⟨ps,0,none⟩)] w1 fun e w2=>e=.returned (.tuple #[]) /\ ∃ g of n cap,w2.cell? ⟨ps,13,none⟩=some (.slice (some ⟨g,of,none⟩) n cap) /\
    Calls Tryz.prog 171 #[.slice (some ⟨g,of,none⟩) n cap,.func (.func 165) #[.pointer (some ⟨ps,0,none⟩)] #[]] w2 fun e w3=>∃ pm v14,e=.returned (.pointer (some ⟨pm,0,none⟩)) /\ w3.cell? ⟨ps,14,none⟩=some v14 /\ w3.frozen? ⟨ps,14,none⟩=false /\
     Ended w (w3.setCell ⟨ps,14,none⟩ (.pointer (some ⟨pm,0,none⟩))) (sbF ps s hv bm M (pre++o.toList)) ps s.bx bm s.blk cols s.count m j2 ks rows:=by
 have hfew:=h.few
 have hcnt:=h.count
 refine (spillAll_any w ps bs s hv ks L bm cols d M pre o rows lr _ j h hl).mono ?_
 rintro e w1 ⟨rfl,s1,hv1,d1,M1,pre1,p1,p2,p3,p4,p5,p6,p7,p8⟩
 refine ⟨rfl,?_⟩
 have hne1:=p6 hne
 have hlast:=p4.last
 have hlen:pre1.length <= P:=by omega
 have hmul:pre1.length * (rows.length+1) <= P * (rows.length+1):=Nat.mul_le_mul_right _ hlen
 have hI:=p1.mt p2 hne1 (m:=m) (j:=j2) (p4.mono (by omega) (by omega)) p7 p8 (by omega)
 have e1:=p3.fan
 have e2:=p3.count
 refine (mergeToFan_any w1 ps s1 ks bm cols rows _ m j2 pre1 s1 d1 M1 w hI hne1 (by omega) (by omega) hc1 hable (by omega) (by omega)).mono ?_
 rintro e w2 ⟨rfl,pre2,s2,d2,M2,q1,q2⟩
 obtain ⟨v2,hs2⟩:=q1.same
 obtain ⟨g,of,cap,cur,hrv,_⟩:=q1.sm.own
 obtain ⟨_,_,_,_,_,_,_,_,_,_,_,_,_,c13,_⟩:=q1.sm.sorter.cell
 refine ⟨rfl,g,of,pre2.length,cap,by rw [<- hrv]; exact c13,?_⟩
 have hmem:∀ x∈pre2,∀ y∈x.recs,y∈rows:=fun x hx y hy=>q1.runs.perm.mem_iff.1 (List.mem_flatten.2 ⟨x.recs,List.mem_map_of_mem hx,hy⟩)
 have hl2:=q1.left.last
 have hf2:=q1.few
 rw [<- hrv]
 refine (newMerge_any w2 ps s2 ks s2.bx bm s2.blk cols d2 M2 pre2 none s2.rv pre2 q1.sm.sorter q1.sm.keys q1.sm.runs q1.sm.own (fun x hx y hy=>hable y (hmem x hx y hy)) (fun x hx=>hx) (by omega) hc1 (by omega) (fun x hx=>q1.runs.runs x.recs (List.mem_map_of_mem hx))).mono ?_
 rintro e w3 ⟨rfl,hG⟩
 have hbm:bm < w.heap.size:=h.sb.runs.pd.lt bm (by simp)
 have hlow:bm <= ps /\ bm <= s2.bx /\ bm <= w2.heap.size:=by
  have hsub:=hhi.sub q1.sub (Nat.le_of_lt hbm)
  have:=q1.touch.size
  exact ⟨hsub ps (by simp [smF]),hsub s2.bx (smF_bx ps s2 bm M2 pre2),by omega⟩
 obtain ⟨z1,ph,hv3,bf,L3,z2⟩:=end_laid q1.sm hG q1.runs (by rw [hs2]; exact p3.given.trans hg) (by omega) (by omega) hc1 hlow
 obtain ⟨_,_,_,_,_,_,_,_,_,_,_,_,_,_,u14,_,uf⟩:=z1.cell
 refine ⟨_,_,rfl,u14,uf 14,⟨[ps],⟨_,d2,M2,?_,?_,?_,q1.left.mono (by omega) (by omega),.inr ⟨rfl,_,pre2,_,ph,hv3,bf,L3,z2⟩⟩,by simp,fun k hk=>by rw [List.mem_singleton.1 hk]; simp [sbF]⟩,?_⟩
 ·show s2.bx=s.bx; rw [hs2]; exact p3.bx
 ·show s2.blk=s.blk; rw [hs2]; exact p3.blk
 ·show s2.count=s.count; rw [hs2]; exact p3.count
 ·have hb2:s2.bx∈smF ps s2 bm M2 pre2:=smF_bx ps s2 bm M2 pre2
  have hps:ps∈smF ps s2 bm M2 pre2:=by simp [smF]
  exact (q1.touch.more hG.touch.u (fun k hk=>by rw [List.mem_singleton.1 hk]; exact q1.sub _ hb2)).more (((Touch.refl [ps] w3).setCell (p:=⟨ps,14,none⟩) (by simp) _).u) (fun k hk=>by rw [List.mem_singleton.1 hk]; exact q1.sub _ hps)
theorem end_any (w:World) (ps bs:Nat) (s:SC) (hv:Value) (ks:List K) (L:List EV) (bm cols:Nat) (d:DS) (M:List PF) (pre:List RI) (o:Option RI) (rows:List Rec) (lr:Rec) (P m j j2:Nat) (h:SpSt w ps bs s hv ks L bm cols d M pre o rows lr) (hl:Left d (2 * L.length+((P * (rows.length+1)+m)+1)) (L.length+j)) (hP:1000000000 <= P+j) (hPj:P+j2 <= j) (hPs:P <= 900000) (hf:2 <= s.fan) (hfs:s.fan <= 1000000) (hc1:1 <= cols) (hable:∀ y∈rows,Able ks y.row) (hg:s.given=0) (hmg:s.mg=.pointer none) (hL:L.length <= 100000) (hhi:Hi bm (sbF ps s hv bm M (pre++o.toList))) :
  Calls Tryz.prog 136 #[.pointer (some ⟨ps,0,none⟩)] w fun e w'=>e=.returned (.tuple #[]) /\ Ended w w' (sbF ps s hv bm M (pre++o.toList)) ps s.bx bm s.blk cols s.count m j2 ks rows:=by
 obtain ⟨c0,c1,c2,c3,c4,c5,c6,c7,c8,c9,c10,c11,c12,c13,c14,c15,cf⟩:=h.sb.sorter.cell
 have hmf:∀ (fn:Fn) (first cap:Array Value) (w:World),(Instr.makeFunc fn first cap).run Tryz.prog w=.ok (.func fn first cap) w:=fun _ _ _ _=>rfl
 by_cases hne:pre++o.toList=[]
 ·obtain ⟨hpre,ho⟩:=List.append_eq_nil_iff.1 hne
  have ho':o=none:=by cases o with | none=>rfl | some x=>simp at ho
  subst hpre
  subst ho'
  have hrv:∃ ao cap,s.rv=.slice ao 0 cap:=by
   rcases h.sb.own.shape with ⟨e,_⟩ | ⟨g,cap,cur,e,_⟩
   ·exact ⟨_,_,e⟩
   ·exact ⟨_,_,e⟩
  obtain ⟨ao,cap,hrv⟩:=hrv
  rw [hrv] at c13
  have HE:Hid (Ended w w (sbF ps s hv bm M ([]++(none:Option RI).toList)) ps s.bx bm s.blk cols s.count m j2 ks rows):=⟨⟨_,⟨s,d,M,rfl,rfl,rfl,hl.mono (by omega) (by omega),.inl ⟨bs,hv,L,rfl,h.sb,Spill.giving (by simpa using h.lists),hmg,by simpa using hg,hL,fun k hk=>hhi k (by simp only [List.mem_cons] at hk; rcases hk with rfl | rfl | hk; exact List.mem_cons_self; exact List.mem_cons_of_mem _ (List.mem_append_right _ (by simp [runsF,diskF])); exact List.mem_cons_of_mem _ (List.mem_append_left _ (List.mem_append_left _ hk)))⟩⟩,by simp,fun k hk=>(by rcases List.mem_cons.1 hk with rfl | hk; exact List.mem_cons_self; exact List.mem_cons_of_mem _ (List.mem_append_left _ (List.mem_append_left _ hk)))⟩,TouchU.refl _ _⟩
  clear h hl hable cf hrv
  go_enter Tryz.func136,Tryz.ntmps136
  go_wp2
  first | go_end0 | refine bodyPost_ret (results_none rfl _ _ _) rfl ?_
  exact ⟨rfl,HE.out⟩
 ·have hch:=end_chain h hne hl hP hPj hPs hf hfs hc1 hable hg hhi
  have hrv:∃ g cap n,s.rv=.slice (some ⟨g,0,none⟩) (n+1) cap:=by
   rcases h.sb.own.shape with ⟨_,e⟩ | ⟨g,cap,cur,e,_⟩
   ·exact absurd e hne
   ·refine ⟨g,cap,(pre++o.toList).length - 1,?_⟩
    have:0 < (pre++o.toList).length:=List.length_pos_iff.2 hne
    rw [e]
    congr 1
    omega
  obtain ⟨g0,cap0,n0,hrv⟩:=hrv
  rw [hrv] at c13
  have hz:¬ ((n0+1:Nat):Int)=0:=by omega
  clear h hl hable cf hrv hne
  go_enter Tryz.func136,Tryz.ntmps136
  go_wp2_with (first | (go_at_call 169; refine hch.mono ?_; rintro e w1 ⟨rfl,hch1⟩) | (go_at_call 170; refine hch1.mono ?_; rintro e w2 ⟨rfl,g,of,n,cap,d13,hch2⟩) | (go_at_call 171; refine hch2.mono ?_; rintro e w3 ⟨pm,v14,rfl,e14,f14,hch3⟩))
  first | go_end0 | refine bodyPost_ret (results_none rfl _ _ _) rfl ?_
  exact ⟨rfl,hch3⟩
def gaveW (w:World) (ps:Nat) (n:Nat):World:=w.drew.setCell ⟨ps,15,none⟩ (.int .i64 ((n:Int)+1))
theorem gave_touch (w:World) (ps n:Nat):Touch [ps] w (gaveW w ps n):=(((Touch.refl [ps] w).drew).setCell (p:=⟨ps,15,none⟩) (by simp) _)
theorem gave_sorter {w:World} {ps:Nat} {s:SC} (h:SorterAt w ps s):SorterAt (gaveW w ps s.given) ps { s with given:=s.given+1 }:=by
 have h1:SorterAt w.drew ps s:=h.u ((Touch.refl [] w).drew).u (by simp)
 have:=h1.setGiven (s.given+1)
 unfold gaveW
 exact this
theorem SM.gave {w:World} {ps:Nat} {s:SC} {ks:List K} {bm cols:Nat} {d:DS} {M:List PF} {pre R:List RI} (h:SM w ps s ks bm cols d M pre none R):SM (gaveW w ps s.given) ps { s with given:=s.given+1 } ks bm cols d M pre none R:=by
 have t:=gave_touch w ps s.given
 have k:∀ t',(260:TypeId)≠t' -> KeepTag t' w (gaveW w ps s.given):=fun t' ht=>t.tag (notag_of h.sorter ht)
 exact ⟨gave_sorter h.sorter,Sl3.keep h.keys (k 73 (by decide)),h.runs.turned (h.runs.pd.other t (fun k hk=>by rw [List.mem_singleton.1 hk]; exact ⟨_,_,_,h.sorter,by decide,by decide⟩)) t (notag_of h.sorter (by decide)) (notag_of h.sorter (by decide)),h.own.keep (k 194 (by decide))⟩
theorem MgSt.gave {w:World} {lo ps pm ph bf:Nat} {s:SC} {hv:Value} {ks:List K} {R:List RI} {L:List CU} (h:MgSt w lo pm ph hv bf ps ks R L) (hS:SorterAt w ps s):MgSt (gaveW w ps s.given) lo pm ph hv bf ps ks R L:=by
 have t:=gave_touch w ps s.given
 have k:∀ t',(260:TypeId)≠t' -> KeepTag t' w (gaveW w ps s.given):=fun t' ht=>t.tag (notag_of hS ht)
 exact h.keep ⟨k _ (by decide),k _ (by decide),k _ (by decide),k _ (by decide),k _ (by decide),k _ (by decide),k _ (by decide),k _ (by decide),KeepKey.of hS (gave_sorter hS) rfl⟩
section
variable {w:World} {ps bs:Nat} {s:SC} {hv:Value} {ks:List K} {L:List EV} {bm cols:Nat} {d:DS} {M:List PF} {rows out:List Rec}
theorem OutA.gave (h:OutA w ps bs s hv ks L bm cols d M rows out):SB (gaveW w ps s.given) ps bs { s with given:=s.given+1 } hv ks L bm cols d M [] none:=
 h.sb.cells (gave_sorter h.sb.sorter) (gave_touch w ps s.given) rfl rfl rfl rfl rfl rfl
theorem OutA.len (h:OutA w ps bs s hv ks L bm cols d M rows out):out.length+L.length=rows.length:=by
 have:=h.give.perm.length_eq
 simpa using this
theorem outA_row (h:OutA w ps bs s hv ks L bm cols d M rows out) (hL:L≠[]) :
  Calls Tryz.prog 174 #[.pointer (some ⟨ps,0,none⟩)] (gaveW w ps s.given) fun e w'=>∃ (x:Rec) (an:Int) (ao:Option Addr) (al acap:Nat) (ar az:Int),e=.returned (.agg #[.int .i64 an,.slice ao al acap,.int .i64 ar,.int .i64 az]) /\ RowAt w' (.slice ao al acap) x.row /\ (∃ s' hv' L',s'.bx=s.bx /\ s'.blk=s.blk /\ s'.count=s.count /\ ps::heapF s'.ph hv'=ps::heapF s.ph hv /\ OutA w' ps bs s' hv' ks L' bm cols d M rows (out++[x])) /\ OwnM bm (ps::heapF s.ph hv) w w':=by
 obtain ⟨x,T,rfl⟩:∃ x T,L=x::T:=by
  cases L with
  | nil=>exact absurd rfl hL
  | cons a l=>exact ⟨a,l,rfl⟩
 refine (sbPop_any _ ps bs { s with given:=s.given+1 } hv ks (x::T) bm cols d M [] none x h.gave (by simp) h.few).mono ?_
 rintro e w' ⟨rfl,hv',L',n,p1,p2,p3,p4,p5⟩
 obtain ⟨ao,acap,ea⟩:=p3.shape
 rw [ea] at p3
 have hlen:=p2.length_eq
 have hfew:=h.few
 simp only [List.length_cons] at hlen hfew
 refine ⟨x.1.rc,x.1.rc.no,ao,x.1.rc.row.length,acap,x.1.run,x.1.size,by rw [EV.val,ea]; rfl,p3,⟨{ s with given:=s.given+1,held:=n },hv',L',rfl,rfl,rfl,by unfold heapF; rw [p4],⟨p1,?_,h.mg,?_,by omega,?_⟩⟩,ps::heapF s.ph hv,?_,?_,?_,fun k hk=>.inl hk⟩
 ·exact h.give.step (e:=x.1) (by simp) (by simpa using p2.map Prod.fst) (heap_fst p1.heap.ok)
 ·show s.given+1=_
  rw [h.given]; simp
 ·have hi:=h.hi
  unfold heapF at hi ⊢
  rw [p4]
  exact hi
 ·exact ((gave_touch w ps s.given).mono (by simp)).trans p5 |>.u
 ·exact fun k hk=>h.sb.ownF k (by
   rcases List.mem_cons.1 hk with rfl | hk
   ·simp [sbF]
   ·simp only [sbF,List.mem_cons,List.mem_append]; exact .inr (.inl (.inl hk)))
 ·exact fun k hk=>h.hi k (by
   rcases List.mem_cons.1 hk with rfl | hk
   ·simp
   ·exact List.mem_cons_of_mem _ (List.mem_cons_of_mem _ hk))
theorem OutA.close {m j:Nat} (h:OutA w ps bs s hv ks L bm cols d M rows out) (hl:Left d m j):SEnd w ps s.bx bm s.blk cols m j:=by
 refine ⟨h.hi _ (by simp),s,d,M,[],rfl,rfl,h.sb.sorter,h.sb.runs,.inr ⟨rfl,?_⟩,hl⟩
 rcases h.sb.own.shape with ⟨e,_⟩ | ⟨g,cap,cur,e,_⟩
 ·exact ⟨_,_,e⟩
 ·exact ⟨_,_,e⟩
theorem gave_closeA {m j:Nat} (h:OutA w ps bs s hv ks L bm cols d M rows out) (hl:Left d m j):SEnd (gaveW w ps s.given) ps s.bx bm s.blk cols m j:=by
 refine ⟨h.hi _ (by simp),{ s with given:=s.given+1 },d,M,[],rfl,rfl,h.gave.sorter,h.gave.runs,.inr ⟨rfl,?_⟩,hl⟩
 rcases h.sb.own.shape with ⟨e,_⟩ | ⟨g,cap,cur,e,_⟩
 ·exact ⟨_,_,e⟩
 ·exact ⟨_,_,e⟩
theorem gave_own (h:SorterAt w ps s) (n:Nat) (hp:bm <= ps):OwnM bm [ps] w (gaveW w ps n):=⟨[ps],(gave_touch w ps n).u,fun k hk=>by rw [List.mem_singleton.1 hk]; exact .inl ⟨_,_,_,h,by decide⟩,fun k hk=>by rw [List.mem_singleton.1 hk]; exact hp,fun k hk=>.inl hk⟩
end
section
variable {w:World} {lo ps:Nat} {s:SC} {ks:List K} {bm cols:Nat} {d:DS} {M:List PF} {pre:List RI} {pm ph:Nat} {hv:Value} {bf:Nat} {L:List CU} {rows out:List Rec}
theorem OutB.close {m j:Nat} (h:OutB w lo ps s ks bm cols d M pre pm ph hv bf L rows out) (hl:Left d m j):SEnd w ps s.bx bm s.blk cols m j:=⟨h.hi.2.1,s,d,M,pre,rfl,rfl,h.sm.sorter,h.sm.runs,.inl h.sm.own,hl⟩
theorem SEnd.quiet {w w':World} {ps bx bm blk cols m j:Nat} (h:SEnd w ps bx bm blk cols m j) (t:Touch [] w w'):SEnd w' ps bx bm blk cols m j:=by
 obtain ⟨s,d,M,pre,h1,h2,h3,h4,h5,h6⟩:=h.st
 refine ⟨h.hi,s,d,M,pre,h1,h2,h3.u t.u (by simp),h4.quiet t (by simp) (fun k hk=>by simp at hk),?_,h6⟩
 rcases h5 with h5 | h5
 ·exact .inl (h5.keep (t.tag0 _))
 ·exact .inr h5
theorem outB_done {m j:Nat} (h:OutB w lo ps s ks bm cols d M pre pm ph hv bf [] rows out) (hl:Left d m j) :
  Calls Tryz.prog 172 #[.pointer (some ⟨pm,0,none⟩)] (gaveW w ps s.given) fun e w'=>e=.returned (.tuple #[.agg #[.int .i64 0,.slice none 0 0],.bool false]) /\ SEnd w' ps s.bx bm s.blk cols m j /\ OwnM bm [ps] w w':=by
 refine (mnext_nil _ lo pm ph hv bf ps ks pre (h.st.gave h.sm.sorter)).mono ?_
 rintro e w' ⟨rfl,t⟩
 refine ⟨rfl,SEnd.quiet (w:=gaveW w ps s.given) ⟨h.hi.2.1,{ s with given:=s.given+1 },d,M,pre,rfl,rfl,h.sm.gave.sorter,h.sm.gave.runs,.inl h.sm.gave.own,hl⟩ t,[ps],((gave_touch w ps s.given).more t (by simp)).u,fun k hk=>by rw [List.mem_singleton.1 hk]; exact .inl ⟨_,_,_,h.sm.sorter,by decide⟩,fun k hk=>by rw [List.mem_singleton.1 hk]; exact h.hi.1,fun k hk=>.inl hk⟩
theorem OutB.quiet {w':World} (h:OutB w lo ps s ks bm cols d M pre pm ph hv bf L rows out) (t:Touch [] w w'):OutB w' lo ps s ks bm cols d M pre pm ph hv bf L rows out:=
 ⟨⟨h.sm.sorter.u t.u (by simp),Sl3.keep h.sm.keys (t.tag0 _),h.sm.runs.quiet t (by simp) (fun k hk=>by simp at hk),h.sm.own.keep (t.tag0 _)⟩,h.st.quiet t,h.mrg,h.mg,h.given,h.few,h.last,h.c1,h.hi⟩
theorem outB_row {u:CU} {T:List CU} (h:OutB w lo ps s ks bm cols d M pre pm ph hv bf (u::T) rows out) (hsm:rows.length <= 900000) :
  Calls Tryz.prog 172 #[.pointer (some ⟨pm,0,none⟩)] (gaveW w ps s.given) fun e w'=>∃ (an:Int) (ao:Option Addr) (al acap:Nat),e=.returned (.tuple #[.agg #[.int .i64 an,.slice ao al acap],.bool true]) /\ RowAt w' (.slice ao al acap) u.first.row /\ (∃ hv' L',OutB w' lo ps { s with given:=s.given+1 } ks bm cols d M pre pm ph hv' bf L' rows (out++[u.first])) /\ OwnM bm [ps] w w':=by
 have hg:=h.sm.gave
 have hm:=h.st.gave h.sm.sorter
 have hfew:=h.few
 simp only [List.length_cons] at hfew
 refine (mnext_cons _ lo pm ph hv bf ps ks pre u T s.bx bm s.blk cols d M pre none hm hg.runs (fun x hx=>hx) (by omega) h.c1 h.last).mono ?_
 rintro e w' ⟨rfl,hrow,hN⟩
 obtain ⟨ao,acap,ea⟩:=hrow.shape
 obtain ⟨hv1,L1,a1,a2⟩:=hN.st
 have a3:=a2 rows out h.mrg
 obtain ⟨FF,t1,mt⟩:=hN.touch
 have k1:∀ t,t∉[117,307,331,305,241] -> KeepTag t (gaveW w ps s.given) w':=fun t ht=>t1.tag (mt.notag ht)
 have hlen1:L1.length <= 1000000:=by
  have e1:=a3.perm.length_eq
  have:=flat_len L1
  rw [List.length_append] at e1
  omega
 rw [ea] at hrow ⊢
 refine ⟨u.first.no,ao,_,acap,rfl,hrow,⟨hv1,L1,⟨k1 260 (by decide) _ _ _ hg.sorter,Sl3.keep hg.keys (k1 73 (by decide)),hN.runs,hg.own.keep (k1 194 (by decide))⟩,a1,a3,h.mg,by show s.given+1=_; rw [h.given]; simp,hlen1,h.last,h.c1,h.hi⟩,?_⟩
 have hpsF:ps < w.heap.size:=(Array.getElem?_eq_some_iff.1 h.sm.sorter).1
 refine ⟨ps::FF,(((gave_touch w ps s.given).mono (by simp)).trans (t1.mono (fun k hk=>List.mem_cons_of_mem _ hk))).u,fun k hk=>?_,fun k hk=>?_,fun k hk=>?_⟩
 rotate_left
 ·rcases List.mem_cons.1 hk with rfl | hk
  ·exact h.hi.1
  ·obtain ⟨_,_,_,_,_,e⟩:=mt k hk
   rcases e with rfl | e
   ·exact h.hi.2.1
   ·exact Nat.le_trans h.hi.2.2 e
 ·by_cases e:k=ps
  ·exact .inl (by simp [e])
  ·rcases List.mem_cons.1 hk with hk | hk
   ·exact absurd hk e
   ·refine .inr (fun cs t f he=>?_)
    obtain ⟨cs',t',f',h1,h2,_⟩:=mt k hk
    rw [(gave_touch w ps s.given).block k (Array.getElem?_eq_some_iff.1 he).1 (by simpa using e),he] at h1
    simp only [Option.some.injEq,Obj.cells.injEq] at h1
    rw [h1.2.1]
    simp only [List.mem_cons,List.not_mem_nil,or_false] at h2
    rcases h2 with rfl | rfl | rfl | rfl | rfl<;>decide
 rcases List.mem_cons.1 hk with rfl | hk
 ·exact .inl ⟨_,_,_,h.sm.sorter,by decide⟩
 ·by_cases e:k=ps
  ·exact .inl ⟨_,_,_,by rw [e]; exact h.sm.sorter,by decide⟩
  ·rcases mt.ownF k hk with ⟨cs,t,f,h1,h2⟩ | ⟨es,c,h1⟩
   ·refine .inl ⟨cs,t,f,?_,h2⟩
    rw [<- (gave_touch w ps s.given).block k (by have:=(Array.getElem?_eq_some_iff.1 h1).1; simpa [gaveW] using this) (by simpa using e)]
    exact h1
   ·refine .inr ⟨es,c,?_⟩
    rw [<- (gave_touch w ps s.given).block k (by have:=(Array.getElem?_eq_some_iff.1 h1).1; simpa [gaveW] using this) (by simpa using e)]
    exact h1
end
end Go.Proofs.YtjoinhljdbljaaaGreat
