/- A part of a group's rows, and what follows. -/
import Derived.Test.YtjoinhljdbljaaaGreatSdLToCntG
set_option maxHeartbeats 4000000
set_option maxRecDepth 20000
namespace Go.Proofs.YtjoinhljdbljaaaGreat
open Go.RowKit
def SumsAt (w:World) (v:Value) (l:List (Int × Int)):Prop:=∃ ao cap,v=.slice ao l.length cap /\ l.length <= cap /\ cap <= maxLen /\ (1 <= l.length -> ∃ b off,ao=some ⟨b,off,none⟩ /\ ∀ i (h:i < l.length),w.cell? ⟨b,off+i * 2,none⟩=some (.int .i64 l[i].1) /\ w.cell? ⟨b,off+i * 2+1,none⟩=some (.int .i64 l[i].2))
theorem SumsAt.touch {w w':World} {v:Value} {l:List (Int × Int)} (h:SumsAt w v l) (t:Touch [] w w'):SumsAt w' v l:=by
 obtain ⟨ao,cap,e,h1,h2,hx⟩:=h
 refine ⟨ao,cap,e,h1,h2,fun hn=>?_⟩
 obtain ⟨b,off,e2,hx⟩:=hx hn
 exact ⟨b,off,e2,fun i hi=>⟨cell_touch (hx i hi).1 t,cell_touch (hx i hi).2 t⟩⟩
def valsOf (cols:List Int) (row:List V):List V:=cols.map fun c=>row.getD c.toNat V0
structure PartV (w W:World) (p:Nat) (cv sv vv:Value) (cols:List Int) (row:List V) (k:Nat):Prop where
 box:W.heap[p]?=some (.cells #[cv,sv,.slice none 0 0,vv] 273 (0,0))
 own:VOwn W vv (valsOf (cols.take k) row)
 new:∀ b,vv.ownBlock=some b -> w.heap.size <= b
 at_:w.heap.size <= p
 touch:Touch [] w W
theorem PartV.quiet {w W W':World} {p:Nat} {cv sv vv:Value} {cols:List Int} {row:List V} {k:Nat} (h:PartV w W p cv sv vv cols row k) (t:Touch [] W W'):PartV w W' p cv sv vv cols row k:=
 ⟨t.tag0 _ _ _ _ h.box,h.own.keep (t.tag0 _),h.new,h.at_,h.touch.trans t⟩
theorem valsOf_take {cols:List Int} {row:List V} {k:Nat} (h:k < cols.length):valsOf (cols.take (k+1)) row=valsOf (cols.take k) row++[row.getD cols[k].toNat V0]:=by
 unfold valsOf
 rw [take_snoc' cols k h,List.map_append]
 rfl
theorem PartV.grown {w W w2:World} {p:Nat} {cv sv vv:Value} {cols:List Int} {row:List V} {k:Nat} (h:PartV w W p cv sv vv cols row k) (t2:Touch vv.ownBlock.toList W w2):(∀ t,(85:TypeId)≠t -> KeepTag t W w2) /\ Touch [] w w2:=by
 refine ⟨fun t ht=>t2.tag (fun b hb cs f e=>?_),⟨t2.os.trans h.touch.os,t2.tape.trans h.touch.tape,t2.output.trans h.touch.output,Nat.le_trans h.touch.size t2.size,fun b hb _=>?_⟩⟩
 ·obtain ⟨cs',h'⟩:=h.own.block b (by simpa using hb)
  rw [h'] at e
  simp only [Option.some.injEq,Obj.cells.injEq] at e
  exact ht e.2.1
 ·rw [t2.block b (Nat.lt_of_lt_of_le hb h.touch.size) (fun e=>?_)]
  ·exact h.touch.block b hb (by simp)
  ·have:=h.new b (by simpa using e)
   omega
theorem PartV.push {w W w2:World} {p g cap:Nat} {cv sv vv:Value} {cols:List Int} {row:List V} {k n:Nat} (h:PartV w W p cv sv vv cols row k) (hk:k < cols.length) (hO:VOwn w2 (.slice (some ⟨g,0,none⟩) n cap) (valsOf (cols.take k) row++[row.getD cols[k].toNat V0])) (t2:Touch vv.ownBlock.toList W w2) (hg:vv.ownBlock=some g \/ g=W.heap.size) :
  PartV w (w2.setCell ⟨p,3,none⟩ (.slice (some ⟨g,0,none⟩) n cap)) p cv sv (.slice (some ⟨g,0,none⟩) n cap) cols row (k+1):=by
 obtain ⟨k2,tw⟩:=h.grown t2
 have hB:=k2 273 (by decide) _ _ _ h.box
 have t3:Touch [p] w2 (w2.setCell ⟨p,3,none⟩ (.slice (some ⟨g,0,none⟩) n cap)):=(Touch.refl [p] w2).setCell (p:=⟨p,3,none⟩) (by simp) _
 refine ⟨?_,?_,fun b hb=>?_,h.at_,tw.more t3 (fun i hi=>.inr (by rw [List.mem_singleton.1 hi]; exact h.at_))⟩
 ·rw [heap_setCell_same w2 p 3 _ 273 _ hB]; simp
 ·rw [valsOf_take hk]
  exact hO.keep (t3.tag (notag_of hB (by decide)))
 ·simp [Value.ownBlock] at hb
  subst hb
  rcases hg with hg | hg
  ·exact h.new _ hg
  ·have:=h.touch.size; omega
theorem groupsNew_any (w:World) (cv sv:Value) (ro:Option Addr) (rn rc:Nat) (cols:List Int) (sums:List (Int × Int)) (row:List V) (hc:RawAt w cv cols) (hs:SumsAt w sv sums) (hr:RowAt w (.slice ro rn rc) row) (hin:∀ c∈cols,0 <= c /\ c < row.length) (hop:∀ s∈sums,s.1=1 \/ s.1=4) (hcl:cols.length <= 1000) (hrl:row.length <= 1000) (hsl:sums.length <= 1000) :
  Calls Tryz.prog 144 #[cv,sv,.slice ro rn rc] w fun e w'=>∃ p tv vv gs,e=.returned (.pointer (some ⟨p,0,none⟩)) /\ PartAt w w' p cv sv tv vv (valsOf cols row) (sums.map Prod.fst) gs (sums.map fun _=>[]):=by
 obtain ⟨so,sc,rfl,hs1,hs2,hsx⟩:=hs
 have HSX:Hid (1 <= sums.length -> ∃ b off,so=some ⟨b,off,none⟩ /\ ∀ i (h:i < sums.length),w.cell? ⟨b,off+i * 2,none⟩=some (.int .i64 sums[i].1) /\ w.cell? ⟨b,off+i * 2+1,none⟩=some (.int .i64 sums[i].2)):=hsx
 have HOP:Hid (∀ s∈sums,s.1=1 \/ s.1=4):=hop
 clear hsx hop
 obtain ⟨_,_,co,cc,rfl,hx⟩:=hc
 have HX:Hid (1 <= cols.length -> ∃ b off,co=some ⟨b,off,none⟩ /\ ∀ j (h:j < cols.length),w.cell? ⟨b,off+j,none⟩=some (.int .i64 cols[j])):=hx
 have HIN:Hid (∀ c∈cols,0 <= c /\ c < row.length):=hin
 have HR:Hid (RowAt w (.slice ro rn rc) row):=hr
 have HST:Hid (PartV w (w.alloc (.cells #[.slice co cols.length cc,.slice so sums.length sc,.slice none 0 0,.slice none 0 0] 273)) w.heap.size (.slice co cols.length cc) (.slice so sums.length sc) (.slice none 0 0) cols row 0):=⟨heap_alloc_new w _,World.ownsRow_nil _ _ _ _,by simp [Value.ownBlock],Nat.le_refl _,(Touch.refl [] _).alloc _⟩
 clear hx hin hr
 go_enter Tryz.func144,Tryz.ntmps144
 go_wp2
 go_loopw [18] (fun i wr=>∃ (k:Nat) (vv:Value),k <= cols.length /\ i=.int .i64 (k:Int) /\ PartV w wr w.heap.size (.slice co cols.length cc) (.slice so sums.length sc) vv cols row k) (fun i _=>cols.length - (intOf i).toNat)
 case atStart=>exact ⟨0,_,by omega,rfl,HST.out⟩
 case round=>
  clear HST
  obtain ⟨k,vv,hk,rfl,hP⟩:=hrel
  by_cases hlt:k < cols.length
  ·obtain ⟨b,off,rfl,hx⟩:=HX.out (by omega)
   have c0:=cell_touch (hx k hlt) hP.touch
   obtain ⟨hi0,hi1⟩:=HIN.out cols[k] (List.getElem_mem hlt)
   obtain ⟨c,hcc⟩:∃ c:Nat,cols[k]=(c:Int):=⟨cols[k].toNat,by omega⟩
   rw [hcc] at c0 hi1
   have hcl2:c < row.length:=by omega
   obtain ⟨rb,roff,rcap,er,hrc1,hrc2,hrx⟩:=HR.out.cells (by omega)
   simp only [Value.slice.injEq] at er
   obtain ⟨rfl,rfl,rfl⟩:=er
   obtain ⟨x0,x1,x2⟩:=hrx c hcl2
   obtain ⟨vo,vn,vc,rfl⟩:=hP.own.slice
   have HP:Hid (PartV w wr w.heap.size (.slice (some ⟨b,off,none⟩) cols.length cc) (.slice so sums.length sc) (.slice vo vn vc) cols row k):=hP
   have HY:Hid (row.getD cols[k].toNat V0=row[c]):=by { unfold Hid; rw [hcc,Int.toNat_natCast,List.getD_eq_getElem?_getD,List.getElem?_eq_getElem hcl2]; rfl }
   have HSK:Hid (∀ W',Touch [] wr W' -> W'.cell? ⟨w.heap.size,3,none⟩=some (.slice vo vn vc) /\ W'.cell? ⟨rb,roff+c * 3,none⟩=some (.int .i64 row[c].k) /\ W'.cell? ⟨rb,roff+c * 3+1,none⟩=some (.int .i64 row[c].n) /\ W'.cell? ⟨rb,roff+c * 3+1+1,none⟩=some (.string row[c].s)):=fun W' t=>⟨cell_touch (box4 hP.box).2.2.2 t,cell_touch x0 (hP.touch.trans t),cell_touch x1 (hP.touch.trans t),cell_touch x2 (hP.touch.trans t)⟩
   have HRX:Hid (∀ W',Touch [] w W' -> W'.cell? ⟨rb,roff+c * 3,none⟩=some (.int .i64 row[c].k) /\ W'.cell? ⟨rb,roff+c * 3+1,none⟩=some (.int .i64 row[c].n) /\ W'.cell? ⟨rb,roff+c * 3+1+1,none⟩=some (.string row[c].s)):=fun W' t=>⟨cell_touch x0 t,cell_touch x1 t,cell_touch x2 t⟩
   have HLEN:Hid ((valsOf (cols.take k) row).length <= 1000000):=by { unfold Hid valsOf; simp; omega }
   clear hx hrx x0 x1 x2 hP
   generalize hyv:row[c]=yv at *
   clear hyv
   go_upto_region 5 with fail
   refine wp_region_last2 (fun w'=>w'.cell? ⟨w.heap.size,3,none⟩=some (.slice vo vn vc) /\ w'.cell? ⟨rb,roff+c * 3,none⟩=some (.int .i64 yv.k) /\ w'.cell? ⟨rb,roff+c * 3+1,none⟩=some (.int .i64 yv.n) /\ w'.cell? ⟨rb,roff+c * 3+1+1,none⟩=some (.string yv.s)) (by kernel_rfl) rfl (lastTo_spec (by kernel_rfl)) (HSK.out _ ((Touch.refl [] _).drew)) (fun hHeld=>?_)
   simp only [List.pop_toArray,List.dropLast]
   generalize hQB:Behind Tryz.prog _ _=QB
   have hpan:∀ c (a:Act) d v w,QB (.panic c) (a.put d v) w -> QB (.panic c) a w:=by { rw [<- hQB]; intro _ _ d _ _ h; cases d<;>exact h }
   have HQB:Hid (Behind Tryz.prog _ _=QB):=hQB
   clear hQB c0
   refine wpAnyH_take (i:=0) (v:=.pointer (some ⟨w.heap.size,0,none⟩)) rfl (by kernel_rfl) (by kernel_rfl) (by kernel_rfl) (fun _ _ _ h=>hpan _ _ _ _ _ h) (Or.inl ⟨by rfl,fun wz hz=>?_⟩) hHeld ?_
   ·obtain ⟨hz0,hz1,hz2,hz3⟩:=hz
    go_simp
   simp only [Act.put,List.setIfInBounds_toArray]
   refine wpAnyH_take (i:=1) (v:=.pointer (some ⟨w.heap.size,0,none⟩)) rfl (by kernel_rfl) (by kernel_rfl) (by kernel_rfl) (fun _ _ _ h=>hpan _ _ _ _ _ h) (Or.inl ⟨by rfl,fun wz hz=>?_⟩) hHeld ?_
   ·obtain ⟨hz0,hz1,hz2,hz3⟩:=hz
    go_simp
   simp only [Act.put]
   refine wpAnyH_take (i:=2) (v:=.pointer (some ⟨w.heap.size,0,none⟩)) rfl (by kernel_rfl) (by kernel_rfl) (by kernel_rfl) (fun _ _ _ h=>hpan _ _ _ _ _ h) (Or.inl ⟨by rfl,fun wz hz=>?_⟩) hHeld ?_
   ·obtain ⟨hz0,hz1,hz2,hz3⟩:=hz
    go_simp
   simp only [Act.put]
   refine wpAnyH_take (i:=3) (v:=.pointer (some ⟨w.heap.size,3,none⟩)) rfl (by kernel_rfl) (by kernel_rfl) (by kernel_rfl) (fun _ _ _ h=>hpan _ _ _ _ _ h) (Or.inl ⟨by rfl,fun wz hz=>?_⟩) hHeld ?_
   ·obtain ⟨hz0,hz1,hz2,hz3⟩:=hz
    go_simp
   simp only [Act.put]
   refine wpAnyH_take (i:=4) (v:=.slice vo vn vc) rfl (by kernel_rfl) (by kernel_rfl) (by kernel_rfl) (fun _ _ _ h=>hpan _ _ _ _ _ h) (Or.inl ⟨by rfl,fun wz hz=>?_⟩) hHeld ?_
   ·obtain ⟨hz0,hz1,hz2,hz3⟩:=hz
    go_simp
   simp only [Act.put]
   refine wpAnyH_take (i:=5) (v:=.slice (some ⟨rb,roff,none⟩) row.length rc) rfl (by kernel_rfl) (by kernel_rfl) (by kernel_rfl) (fun _ _ _ h=>hpan _ _ _ _ _ h) (Or.inl ⟨by rfl,fun wz hz=>?_⟩) hHeld ?_
   ·obtain ⟨hz0,hz1,hz2,hz3⟩:=hz
    go_simp
   simp only [Act.put]
   refine wpAnyH_take (i:=6) (v:=.int .i64 (c:Int)) rfl (by kernel_rfl) (by kernel_rfl) (by kernel_rfl) (fun _ _ _ h=>hpan _ _ _ _ _ h) (Or.inl ⟨by rfl,fun wz hz=>?_⟩) hHeld ?_
   ·obtain ⟨hz0,hz1,hz2,hz3⟩:=hz
    go_simp
   simp only [Act.put]
   refine wpAnyH_take (i:=7) (v:=.pointer (some ⟨rb,roff+c * 3,none⟩)) rfl (by kernel_rfl) (by kernel_rfl) (by kernel_rfl) (fun _ _ _ h=>hpan _ _ _ _ _ h) (Or.inl ⟨by rfl,fun wz hz=>?_⟩) hHeld ?_
   ·obtain ⟨hz0,hz1,hz2,hz3⟩:=hz
    go_simp
   simp only [Act.put]
   refine wpAnyH_take (i:=8) (v:=.agg #[.int .i64 yv.k,.int .i64 yv.n,.string yv.s]) rfl (by kernel_rfl) (by kernel_rfl) (by kernel_rfl) (fun _ _ _ h=>hpan _ _ _ _ _ h) (Or.inl ⟨by rfl,fun wz hz=>?_⟩) hHeld ?_
   ·obtain ⟨hz0,hz1,hz2,hz3⟩:=hz
    go_simp
   simp only [Act.put]
   refine wpAnyH_ready (rs:=[9]) (by kernel_rfl) (by simp) (AllReadyH.cons rfl (fun K hK=>?_) AllReadyH.nil)
   go_simp
   refine hK.out _ _ (HSK.out _ (((Touch.refl [] _).alloc _).drew)) (fun hHeld9=>?_)
   clear hK K hHeld
   have HP6:Hid (PartV w ((wr.alloc (.cells #[.int .i64 yv.k,.int .i64 yv.n,.string yv.s] 85)).drew) w.heap.size (.slice (some ⟨b,off,none⟩) cols.length cc) (.slice so sums.length sc) (.slice vo vn vc) cols row k):=HP.out.quiet (((Touch.refl [] _).alloc _).drew)
   have HB6:Hid (((wr.alloc (.cells #[.int .i64 yv.k,.int .i64 yv.n,.string yv.s] 85)).drew).heap[wr.heap.size]?=some (.cells #[.int .i64 yv.k,.int .i64 yv.n,.string yv.s] 85 (0,0))):=heap_alloc_new wr _
   have HZ6:Hid (((wr.alloc (.cells #[.int .i64 yv.k,.int .i64 yv.n,.string yv.s] 85)).drew).heap.size=wr.heap.size+1):=by { unfold Hid; simp }
   generalize (wr.alloc (.cells #[.int .i64 yv.k,.int .i64 yv.n,.string yv.s] 85)).drew=W6 at *
   generalize wr.heap.size=H at *
   refine wpAnyH_ready (rs:=[10]) (by kernel_rfl) (by simp) (AllReadyH.cons rfl (fun K hK=>?_) AllReadyH.nil)
   refine step_val rfl (.tmp 26) (.tmp 31) rfl (.slice vo vn vc) (valsOf (cols.take k) row) rfl HP6.out.own H yv 1 rfl HB6.out HLEN.out ?_
   intro g cap2 w7 q1 q2 q3 q4
   have t7:Touch (Value.slice vo vn vc).ownBlock.toList W6 w7:=(Touch.refl _ _).grown q2 (fun k hk=>by simp [hk])
   obtain ⟨k7,tw7⟩:=HP6.out.grown t7
   have hB7:=k7 273 (by decide) _ _ _ HP6.out.box
   obtain ⟨y0,y1,y2,y3⟩:=box4 hB7
   have f7:w7.frozen? ⟨w.heap.size,3,none⟩=false:=by { simp [World.frozen?,hB7] }
   have HFIN:Hid (PartV w (w7.setCell ⟨w.heap.size,3,none⟩ (.slice (some ⟨g,0,none⟩) ((valsOf (cols.take k) row).length+1) cap2)) w.heap.size (.slice (some ⟨b,off,none⟩) cols.length cc) (.slice so sums.length sc) (.slice (some ⟨g,0,none⟩) ((valsOf (cols.take k) row).length+1) cap2) cols row (k+1)):=HP6.out.push hlt (by rw [HY.out]; exact q1) t7 q3
   refine hK.out _ _ ⟨y3,HRX.out w7 tw7⟩ (fun hHeld8=>?_)
   clear hK K hHeld9 t7 k7 q1 q2 q3 tw7 hB7
   simp only [Act.put,List.setIfInBounds_toArray]
   refine wpAnyH_take (i:=11) (v:=.pointer (some ⟨w.heap.size,0,none⟩)) rfl (by kernel_rfl) (by kernel_rfl) (by kernel_rfl) (fun _ _ _ h=>hpan _ _ _ _ _ h) (Or.inl ⟨by rfl,fun wz hz=>?_⟩) hHeld8 ?_
   ·obtain ⟨hz0,hz1,hz2,hz3⟩:=hz
    go_simp
   simp only [Act.put]
   refine wpAnyH_take (i:=12) (v:=.pointer (some ⟨w.heap.size,3,none⟩)) rfl (by kernel_rfl) (by kernel_rfl) (by kernel_rfl) (fun _ _ _ h=>hpan _ _ _ _ _ h) (Or.inl ⟨by rfl,fun wz hz=>?_⟩) hHeld8 ?_
   ·obtain ⟨hz0,hz1,hz2,hz3⟩:=hz
    go_simp
   simp only [Act.put]
   refine wpAnyH_done (by kernel_rfl) ?_ _
   rw [<- HQB.out]
   unfold Behind
   change Oper.wp _ _ _ _ _ _
   go_simp
   go_wp2
   exact ⟨⟨k+1,_,by omega,by simp,HFIN.out⟩,by simp only [intOf]; omega⟩
  ·obtain rfl:k=cols.length:=by omega
   have HPT:Hid (PartAt w wr w.heap.size (.slice co cols.length cc) (.slice so sums.length sc) (.slice none 0 0) vv (valsOf cols row) ([]) [] ([])):=⟨hP.box,by have:=hP.own; rw [List.take_length] at this; exact this,World.ownsRow_nil _ _ _ _,rfl,rfl,fun i h=>by simp at h,by simp,hP.at_,by simp,hP.new,by simp [Value.ownBlock],hP.touch⟩
   clear hP HX HIN HR
   go_wp2
   go_loopw [38] (fun i wr=>∃ (n:Nat) (tv:Value) (gs:List Nat),n <= sums.length /\ i=.int .i64 (n:Int) /\ PartAt w wr w.heap.size (.slice co cols.length cc) (.slice so sums.length sc) tv vv (valsOf cols row) ((sums.take n).map Prod.fst) gs ((sums.take n).map fun _=>[])) (fun i _=>sums.length - (intOf i).toNat)
   case atStart=>exact ⟨0,_,[],by omega,rfl,HPT.out⟩
   case round=>
    clear HPT
    obtain ⟨n,tv,gs,hn,rfl,hP⟩:=hrel
    by_cases hlt:n < sums.length
    ·obtain ⟨b,off,rfl,hx⟩:=HSX.out (by omega)
     have c0:=cell_touch (hx n hlt).1 hP.touch
     have c1:=cell_touch (hx n hlt).2 hP.touch
     have hop:=HOP.out sums[n] (List.getElem_mem hlt)
     have HT1:Hid ((sums.take (n+1)).map Prod.fst=(sums.take n).map Prod.fst++[sums[n].1]):=by { unfold Hid; rw [take_snoc' sums n hlt,List.map_append]; rfl }
     have HT2:Hid ((sums.take (n+1)).map (fun _=>([]:List Nat))=(sums.take n).map (fun _=>[])++[[]]):=by { unfold Hid; rw [take_snoc' sums n hlt,List.map_append]; rfl }
     have HLEN:Hid ((talsV ((sums.take n).map Prod.fst) gs).length <= 1000000):=by { unfold Hid; rw [talsV_len hP.glen]; simp; omega }
     obtain ⟨ta,tn,tc,rfl⟩:=hP.tals.slice
     have HP:Hid (PartAt w wr w.heap.size (.slice co cols.length cc) (.slice (some ⟨b,off,none⟩) sums.length sc) (.slice ta tn tc) vv (valsOf cols row) ((sums.take n).map Prod.fst) gs ((sums.take n).map fun _=>[])):=hP
     clear hx hP
     generalize sums[n]=sm at *
     obtain ⟨op,scol⟩:=sm
     simp only at c0 c1 hop HT1
     have HNT:Hid (∀ W,Calls Tryz.prog 176 #[.int .i64 op] W fun e w'=>∃ g,e=.returned (.iface (tyOf op) (.pointer (some ⟨g,0,none⟩))) /\ W.heap.size <= g /\ TalAt w' g op [] /\ Touch [] W w'):=fun W=>newTally_any W op hop
     go_upto_region 10 with fail
     have HPA:Hid (PartAt w (wr.alloc (.cells #[.int .i64 op,.int .i64 scol] 90)) w.heap.size (.slice co cols.length cc) (.slice (some ⟨b,off,none⟩) sums.length sc) (.slice ta tn tc) vv (valsOf cols row) ((sums.take n).map Prod.fst) gs ((sums.take n).map fun _=>[])):=HP.out.quiet ((Touch.refl [] _).alloc _)
     have hB0:=heap_alloc_new wr (.cells #[.int .i64 op,.int .i64 scol] 90)
     have HBX:Hid ((wr.alloc (.cells #[.int .i64 op,.int .i64 scol] 90)).heap[wr.heap.size]?=some (.cells #[.int .i64 op,.int .i64 scol] 90 (0,0))):=hB0
     clear hB0 c0 c1 HP
     generalize wr.alloc (.cells #[.int .i64 op,.int .i64 scol] 90)=W at *
     generalize wr.heap.size=B at *
     have HSK:Hid (∀ W',Touch [] W W' -> W'.cell? ⟨w.heap.size,2,none⟩=some (.slice ta tn tc) /\ W'.cell? ⟨B,0,none⟩=some (.int .i64 op)):=fun W' t=>⟨cell_touch (box4 HPA.out.box).2.2.1 t,cell_touch (by simp [World.cell?,HBX.out]) t⟩
     refine wp_region_last2 (fun w'=>w'.cell? ⟨w.heap.size,2,none⟩=some (.slice ta tn tc) /\ w'.cell? ⟨B,0,none⟩=some (.int .i64 op)) (by kernel_rfl) rfl (lastTo_spec (by kernel_rfl)) (HSK.out _ ((Touch.refl [] _).drew)) (fun hHeld=>?_)
     simp only [List.pop_toArray,List.dropLast]
     generalize hQB:Behind Tryz.prog _ _=QB
     have hpan:∀ c (a:Act) d v w,QB (.panic c) (a.put d v) w -> QB (.panic c) a w:=by { rw [<- hQB]; intro _ _ d _ _ h; cases d<;>exact h }
     have HQB:Hid (Behind Tryz.prog _ _=QB):=hQB
     clear hQB
     refine wpAnyH_take (i:=0) (v:=.pointer (some ⟨w.heap.size,0,none⟩)) rfl (by kernel_rfl) (by kernel_rfl) (by kernel_rfl) (fun _ _ _ h=>hpan _ _ _ _ _ h) (Or.inl ⟨by rfl,fun wz hz=>?_⟩) hHeld ?_
     ·obtain ⟨hz0,hz1⟩:=hz
      go_simp
     simp only [Act.put,List.setIfInBounds_toArray]
     refine wpAnyH_take (i:=1) (v:=.pointer (some ⟨w.heap.size,0,none⟩)) rfl (by kernel_rfl) (by kernel_rfl) (by kernel_rfl) (fun _ _ _ h=>hpan _ _ _ _ _ h) (Or.inl ⟨by rfl,fun wz hz=>?_⟩) hHeld ?_
     ·obtain ⟨hz0,hz1⟩:=hz
      go_simp
     simp only [Act.put]
     refine wpAnyH_take (i:=2) (v:=.pointer (some ⟨w.heap.size,0,none⟩)) rfl (by kernel_rfl) (by kernel_rfl) (by kernel_rfl) (fun _ _ _ h=>hpan _ _ _ _ _ h) (Or.inl ⟨by rfl,fun wz hz=>?_⟩) hHeld ?_
     ·obtain ⟨hz0,hz1⟩:=hz
      go_simp
     simp only [Act.put]
     refine wpAnyH_take (i:=3) (v:=.pointer (some ⟨w.heap.size,2,none⟩)) rfl (by kernel_rfl) (by kernel_rfl) (by kernel_rfl) (fun _ _ _ h=>hpan _ _ _ _ _ h) (Or.inl ⟨by rfl,fun wz hz=>?_⟩) hHeld ?_
     ·obtain ⟨hz0,hz1⟩:=hz
      go_simp
     simp only [Act.put]
     refine wpAnyH_take (i:=4) (v:=.slice ta tn tc) rfl (by kernel_rfl) (by kernel_rfl) (by kernel_rfl) (fun _ _ _ h=>hpan _ _ _ _ _ h) (Or.inl ⟨by rfl,fun wz hz=>?_⟩) hHeld ?_
     ·obtain ⟨hz0,hz1⟩:=hz
      go_simp
     simp only [Act.put]
     refine wpAnyH_take (i:=5) (v:=.pointer (some ⟨B,0,none⟩)) rfl (by kernel_rfl) (by kernel_rfl) (by kernel_rfl) (fun _ _ _ h=>hpan _ _ _ _ _ h) (Or.inl ⟨by rfl,fun wz hz=>?_⟩) hHeld ?_
     ·obtain ⟨hz0,hz1⟩:=hz
      go_simp
     simp only [Act.put]
     refine wpAnyH_take (i:=6) (v:=.int .i64 op) rfl (by kernel_rfl) (by kernel_rfl) (by kernel_rfl) (fun _ _ _ h=>hpan _ _ _ _ _ h) (Or.inl ⟨by rfl,fun wz hz=>?_⟩) hHeld ?_
     ·obtain ⟨hz0,hz1⟩:=hz
      go_simp
     simp only [Act.put]
     refine wpAnyH_ready (rs:=[7]) (by kernel_rfl) (by simp) (AllReadyH.cons rfl (fun K hK=>?_) AllReadyH.nil)
     go_simp
     refine (HNT.out _).mono ?_
     rintro e w3 ⟨gt,rfl,hgt,hTal,hT3⟩
     have HT4:Hid (Touch [] W w3):=((Touch.refl [] _).drew).trans hT3
     have HTAL:Hid (TalAt w3 gt op []):=hTal
     have HGT:Hid (W.heap.size <= gt):=hgt
     refine hK.out _ _ (HSK.out _ HT4.out) (fun hHeld7=>?_)
     clear hK K hT3 hHeld hTal hgt
     refine wpAnyH_ready (rs:=[8]) (by kernel_rfl) (by simp) (AllReadyH.cons rfl (fun K hK=>?_) AllReadyH.nil)
     go_simp
     refine hK.out _ _ (HSK.out _ (HT4.out.alloc _)) (fun hHeld8=>?_)
     clear hK K hHeld7
     have HP6:Hid (PartAt w (w3.alloc (.cells #[.iface (tyOf op) (.pointer (some ⟨gt,0,none⟩))] 275)) w.heap.size (.slice co cols.length cc) (.slice (some ⟨b,off,none⟩) sums.length sc) (.slice ta tn tc) vv (valsOf cols row) ((sums.take n).map Prod.fst) gs ((sums.take n).map fun _=>[])):=HPA.out.quiet (HT4.out.alloc _)
     have HB6:Hid ((w3.alloc (.cells #[.iface (tyOf op) (.pointer (some ⟨gt,0,none⟩))] 275)).heap[w3.heap.size]?=some (.cells #[.iface (tyOf op) (.pointer (some ⟨gt,0,none⟩))] 275 (0,0))):=heap_alloc_new w3 _
     have HBX6:Hid ((w3.alloc (.cells #[.iface (tyOf op) (.pointer (some ⟨gt,0,none⟩))] 275)).heap[B]?=some (.cells #[.int .i64 op,.int .i64 scol] 90 (0,0))):=(HT4.out.alloc _).tag0 90 _ _ _ HBX.out
     have HTL6:Hid (TalAt (w3.alloc (.cells #[.iface (tyOf op) (.pointer (some ⟨gt,0,none⟩))] 275)) gt op []):=HTAL.out.keep (Below.heap_alloc _ _ _ HTAL.out.lt)
     have HNO:Hid (gt∉gs):=fun hm=>by
      obtain ⟨i,hi,e⟩:=List.getElem_of_mem hm
      have hgl:=HPA.out.glen
      have hll:=HPA.out.llen
      have h1:=(HPA.out.tal i (by omega) hi (by omega)).lt
      have h2:=HGT.out
      rw [e] at h1
      omega
     have HNW:Hid (w.heap.size <= gt):=Nat.le_trans HPA.out.touch.size HGT.out
     generalize (w3.alloc (.cells #[.iface (tyOf op) (.pointer (some ⟨gt,0,none⟩))] 275))=W6 at *
     generalize w3.heap.size=H at *
     refine wpAnyH_ready (rs:=[9]) (by kernel_rfl) (by simp) (AllReadyH.cons rfl (fun K hK=>?_) AllReadyH.nil)
     refine step_tal rfl (.tmp 46) (.tmp 50) rfl (.slice ta tn tc) (talsV ((sums.take n).map Prod.fst) gs) rfl HP6.out.tals H (.iface (tyOf op) (.pointer (some ⟨gt,0,none⟩))) 1 rfl HB6.out rfl HLEN.out ?_
     intro g cap2 w7 q1 q2 q3 q4
     have t7:Touch (Value.slice ta tn tc).ownBlock.toList W6 w7:=(Touch.refl _ _).grown q2 (fun k hk=>by simp [hk])
     obtain ⟨k7,tw7⟩:=HP6.out.grown t7
     have hB7:=k7 273 (by decide) _ _ _ HP6.out.box
     obtain ⟨y0,y1,y2,y3⟩:=box4 hB7
     have f7:w7.frozen? ⟨w.heap.size,2,none⟩=false:=by { simp [World.frozen?,hB7] }
     have z0:w7.cell? ⟨B,0,none⟩=some (.int .i64 op):=by
      have:=k7 90 (by decide) _ _ _ HBX6.out
      simp [World.cell?,this]
     have HFIN:Hid (PartAt w (w7.setCell ⟨w.heap.size,2,none⟩ (.slice (some ⟨g,0,none⟩) ((talsV ((sums.take n).map Prod.fst) gs).length+1) cap2)) w.heap.size (.slice co cols.length cc) (.slice (some ⟨b,off,none⟩) sums.length sc) (.slice (some ⟨g,0,none⟩) ((talsV ((sums.take n).map Prod.fst) gs).length+1) cap2) vv (valsOf cols row) ((sums.take (n+1)).map Prod.fst) (gs++[gt]) ((sums.take (n+1)).map fun _=>[])):=by
      have:=HP6.out.push HTL6.out HNW.out HNO.out q1 t7 q3
      unfold Hid
      rw [HT1.out,HT2.out]
      exact this
     clear q1
     generalize (talsV ((sums.take n).map Prod.fst) gs).length+1=tl at *
     refine hK.out _ _ ⟨y2,z0⟩ (fun hHeld9=>?_)
     clear hK K hHeld8 t7 k7 q2 q3 tw7 hB7 z0
     simp only [Act.put,List.setIfInBounds_toArray]
     refine wpAnyH_take (i:=10) (v:=.pointer (some ⟨w.heap.size,0,none⟩)) rfl (by kernel_rfl) (by kernel_rfl) (by kernel_rfl) (fun _ _ _ h=>hpan _ _ _ _ _ h) (Or.inl ⟨by rfl,fun wz hz=>?_⟩) hHeld9 ?_
     ·obtain ⟨hz0,hz1⟩:=hz
      go_simp
     simp only [Act.put]
     refine wpAnyH_take (i:=11) (v:=.pointer (some ⟨w.heap.size,2,none⟩)) rfl (by kernel_rfl) (by kernel_rfl) (by kernel_rfl) (fun _ _ _ h=>hpan _ _ _ _ _ h) (Or.inl ⟨by rfl,fun wz hz=>?_⟩) hHeld9 ?_
     ·obtain ⟨hz0,hz1⟩:=hz
      go_simp
     simp only [Act.put]
     refine wpAnyH_done (by kernel_rfl) ?_ _
     rw [<- HQB.out]
     unfold Behind
     change Oper.wp _ _ _ _ _ _
     go_simp
     go_wp2
     exact ⟨⟨n+1,_,_,by omega,by simp,HFIN.out⟩,by simp only [intOf]; omega⟩
    ·obtain rfl:n=sums.length:=by omega
     have hP2:=hP
     rw [List.take_length] at hP2
     have HP2:Hid (PartAt w wr w.heap.size (.slice co cols.length cc) (.slice so sums.length sc) tv vv (valsOf cols row) (sums.map Prod.fst) gs (sums.map fun _=>[])):=hP2
     clear hP hP2
     go_wp2
     go_ret
     exact ⟨_,tv,vv,gs,rfl,HP2.out⟩
def K0:K:=⟨0,false,false⟩
theorem has_any (w:World) (p:Nat) (cv sv tv vv:Value) (ro:Option Addr) (rn rc:Nat) (cols:List Int) (row vals:List V) (hB:w.heap[p]?=some (.cells #[cv,sv,tv,vv] 273 (0,0))) (hc:RawAt w cv cols) (hv:RowAt w vv vals) (hr:RowAt w (.slice ro rn rc) row) (hin:∀ c∈cols,0 <= c /\ c < row.length) (hlen:vals.length=cols.length) (hcl:cols.length <= 1000) (hrl:row.length <= 1000) :
  Calls Tryz.prog 145 #[.pointer (some ⟨p,0,none⟩),.slice ro rn rc] w fun e w'=>∃ r,e=.returned (.bool r) /\ (r=true↔∀ i (_:i < cols.length) (_:i < vals.length),codeV K0 (row.getD cols[i].toNat V0) vals[i]=0) /\ Touch [] w w':=by
 obtain ⟨_,_,co,cc,rfl,hx⟩:=hc
 have HX:Hid (1 <= cols.length -> ∃ b off,co=some ⟨b,off,none⟩ /\ ∀ j (h:j < cols.length),w.cell? ⟨b,off+j,none⟩=some (.int .i64 cols[j])):=hx
 have HIN:Hid (∀ c∈cols,0 <= c /\ c < row.length):=hin
 have HR:Hid (RowAt w (.slice ro rn rc) row):=hr
 have HV:Hid (RowAt w vv vals):=hv
 have HLEN:Hid (vals.length=cols.length):=hlen
 obtain ⟨vo,vcap,evv⟩:=hv.shape
 obtain ⟨y0,y1,y2,y3⟩:=box4 hB
 subst evv
 clear hx hin hr hv hlen
 go_enter Tryz.func145,Tryz.ntmps145
 go_wp2
 go_loopw [12] (fun i wr=>∃ k:Nat,k <= cols.length /\ i=.int .i64 (k:Int) /\ (∀ i (_:i < k) (_:i < cols.length) (_:i < vals.length),codeV K0 (row.getD cols[i].toNat V0) vals[i]=0) /\ Touch [] w wr) (fun i _=>cols.length - (intOf i).toNat)
 case atStart=>exact ⟨0,by omega,rfl,fun i h=>by omega,Touch.refl [] _⟩
 case round=>
  obtain ⟨k,hk,rfl,hE,hT⟩:=hrel
  have HE:Hid (∀ i (_:i < k) (_:i < cols.length) (_:i < vals.length),codeV K0 (row.getD cols[i].toNat V0) vals[i]=0):=hE
  have HT:Hid (Touch [] w wr):=hT
  clear hE hT
  by_cases hlt:k < cols.length
  ·have hltv:k < vals.length:=by have:=HLEN.out; omega
   obtain ⟨b,off,rfl,hx⟩:=HX.out (by omega)
   have c0:=cell_touch (hx k hlt) HT.out
   obtain ⟨hi0,hi1⟩:=HIN.out cols[k] (List.getElem_mem hlt)
   obtain ⟨c,hcc⟩:∃ c:Nat,cols[k]=(c:Int):=⟨cols[k].toNat,by omega⟩
   rw [hcc] at c0 hi1
   have hcl2:c < row.length:=by omega
   obtain ⟨rb,roff,rcap,er,hrc1,hrc2,hrx⟩:=HR.out.cells (by omega)
   simp only [Value.slice.injEq] at er
   obtain ⟨rfl,rfl,rfl⟩:=er
   obtain ⟨vb,voff,vcap2,ev,hvc1,hvc2,hvx⟩:=HV.out.cells (by omega)
   simp only [Value.slice.injEq] at ev
   obtain ⟨rfl,_,rfl⟩:=ev
   obtain ⟨x0,x1,x2⟩:=hrx c hcl2
   obtain ⟨z0,z1,z2⟩:=hvx k hltv
   have HY:Hid (row.getD cols[k].toNat V0=row[c]):=by { unfold Hid; rw [hcc,Int.toNat_natCast,List.getD_eq_getElem?_getD,List.getElem?_eq_getElem hcl2]; rfl }
   have HNZ:Hid (codeV K0 row[c] vals[k]≠0 -> ¬ ∀ i (_:i < cols.length) (_:i < vals.length),codeV K0 (row.getD cols[i].toNat V0) vals[i]=0):=fun h h2=>h (by rw [<- HY.out]; exact h2 k hlt hltv)
   have HZ:Hid (codeV K0 row[c] vals[k]=0 -> ∀ i (_:i < k+1) (_:i < cols.length) (_:i < vals.length),codeV K0 (row.getD cols[i].toNat V0) vals[i]=0):=fun h i hi h1 h2=>by
    by_cases e:i=k
    ·subst e; rw [HY.out]; exact h
    ·exact HE.out i (by omega) h1 h2
   have HSK:Hid (∀ W',Touch [] w W' -> (W'.cell? ⟨p,3,none⟩=some (.slice (some ⟨vb,voff,none⟩) vals.length vcap)) /\ (W'.cell? ⟨rb,roff+c * 3,none⟩=some (.int .i64 row[c].k) /\ W'.cell? ⟨rb,roff+c * 3+1,none⟩=some (.int .i64 row[c].n) /\ W'.cell? ⟨rb,roff+c * 3+1+1,none⟩=some (.string row[c].s)) /\ (W'.cell? ⟨vb,voff+k * 3,none⟩=some (.int .i64 vals[k].k) /\ W'.cell? ⟨vb,voff+k * 3+1,none⟩=some (.int .i64 vals[k].n) /\ W'.cell? ⟨vb,voff+k * 3+1+1,none⟩=some (.string vals[k].s))):=fun W' t=>⟨cell_touch y3 t,⟨cell_touch x0 t,cell_touch x1 t,cell_touch x2 t⟩,⟨cell_touch z0 t,cell_touch z1 t,cell_touch z2 t⟩⟩
   have HCV:Hid (∀ W,Calls Tryz.prog 177 #[row[c].val,vals[k].val,K0.val] W fun e w'=>e=.returned (.int .i64 (codeV K0 row[c] vals[k])) /\ Touch [] W w'):=compareValues_any row[c] vals[k] K0
   clear hx hrx hvx x0 x1 x2 z0 z1 z2 HY
   generalize row[c]=a at *
   generalize vals[k]=d at *
   generalize codeV K0 a d=r at *
   obtain ⟨ak,an,ax⟩:=a
   obtain ⟨dk,dn,dx⟩:=d
   unfold V.val K.val K0 at HCV
   simp only at HSK HCV
   obtain ⟨m0,⟨m1,m2,m3⟩,⟨m4,m5,m6⟩⟩:=HSK.out wr HT.out
   go_upto_region 4 with fail
   by_cases hr0:r=0
   ·go_region_held3 (fun w'=>w'.cell? ⟨p,3,none⟩=some (.slice (some ⟨vb,voff,none⟩) vals.length vcap) /\ (w'.cell? ⟨rb,roff+c * 3,none⟩=some (.int .i64 ak) /\ w'.cell? ⟨rb,roff+c * 3+1,none⟩=some (.int .i64 an) /\ w'.cell? ⟨rb,roff+c * 3+1+1,none⟩=some (.string ax)) /\ (w'.cell? ⟨vb,voff+k * 3,none⟩=some (.int .i64 dk) /\ w'.cell? ⟨vb,voff+k * 3+1,none⟩=some (.int .i64 dn) /\ w'.cell? ⟨vb,voff+k * 3+1+1,none⟩=some (.string dx))) (go_keep) (first | (go_at_call 177; refine (HCV.out _).mono ?_; rintro e w1 ⟨rfl,hT1⟩; have HT1:Hid (Touch [] w w1):=(HT.out.drew).trans hT1; obtain ⟨n0,⟨n1,n2,n3⟩,⟨n4,n5,n6⟩⟩:=HSK.out w1 HT1.out; clear hT1))
    all_goals
     subst hr0
     have HZ2:=HZ.out rfl
     have HZ3:Hid (∀ i (_:i < k+1) (_:i < cols.length) (_:i < vals.length),codeV K0 (row.getD cols[i].toNat V0) vals[i]=0):=HZ2
     clear HZ2 HZ HNZ
     go_wp2
     go_roundw
     case rel=>exact ⟨k+1,by omega,by go_num,HZ3.out,HT1.out⟩
     case measure=>simp [intOf]; omega
   ·go_region_held3 (fun w'=>w'.cell? ⟨p,3,none⟩=some (.slice (some ⟨vb,voff,none⟩) vals.length vcap) /\ (w'.cell? ⟨rb,roff+c * 3,none⟩=some (.int .i64 ak) /\ w'.cell? ⟨rb,roff+c * 3+1,none⟩=some (.int .i64 an) /\ w'.cell? ⟨rb,roff+c * 3+1+1,none⟩=some (.string ax)) /\ (w'.cell? ⟨vb,voff+k * 3,none⟩=some (.int .i64 dk) /\ w'.cell? ⟨vb,voff+k * 3+1,none⟩=some (.int .i64 dn) /\ w'.cell? ⟨vb,voff+k * 3+1+1,none⟩=some (.string dx))) (go_keep) (first | (go_at_call 177; refine (HCV.out _).mono ?_; rintro e w1 ⟨rfl,hT1⟩; have HT1:Hid (Touch [] w w1):=(HT.out.drew).trans hT1; obtain ⟨n0,⟨n1,n2,n3⟩,⟨n4,n5,n6⟩⟩:=HSK.out w1 HT1.out; clear hT1))
    all_goals
     have HNA:Hid (¬ ∀ i (_:i < cols.length) (_:i < vals.length),codeV K0 (row.getD cols[i].toNat V0) vals[i]=0):=HNZ.out hr0
     go_wp2
     go_ret
     exact ⟨false,rfl,⟨fun h=>(by cases h),fun h=>absurd h HNA.out⟩,HT1.out⟩
  ·have HALL:Hid (∀ i (_:i < cols.length) (_:i < vals.length),codeV K0 (row.getD cols[i].toNat V0) vals[i]=0):=fun i h1 h2=>HE.out i (by omega) h1 h2
   go_wp2
   go_ret
   exact ⟨true,rfl,⟨fun _=>HALL.out,fun _=>rfl⟩,HT.out⟩
def numOf (row:List V) (s:Int × Int):Nat:=(row.getD s.2.toNat V0).n.toNat
def addL (row:List V) (sums:List (Int × Int)) (Ls:List (List Nat)):List (List Nat):=List.zipWith (fun s l=>l++[numOf row s]) sums Ls
theorem TalAt.notag {W:World} {g:Nat} {op:Int} {l:List Nat} (h:TalAt W g op l) {t:TypeId} (h1:(315:TypeId)≠t) (h2:(321:TypeId)≠t):NoTag t W [g]:=by
 rcases h with ⟨_,h3⟩ | ⟨_,h3⟩
 ·exact notag_of h3 h1
 ·exact notag_of h3 h2
theorem PartAt.set {w W W':World} {p:Nat} {cv sv tv vv:Value} {vals:List V} {ops:List Int} {gs:List Nat} {Ls:List (List Nat)} {k:Nat} {l:List Nat} (h:PartAt w W p cv sv tv vv vals ops gs Ls) (hk:k < ops.length) (hk2:k < gs.length) (t:Touch [gs[k]] W W') (hT:TalAt W' gs[k] ops[k] l):PartAt w W' p cv sv tv vv vals ops gs (Ls.set k l):=by
 have hll:=h.llen
 have hgl:=h.glen
 have h0:=h.tal k hk hk2 (by omega)
 have kt:∀ t',(315:TypeId)≠t' -> (321:TypeId)≠t' -> KeepTag t' W W':=fun t' h1 h2=>t.tag (h0.notag h1 h2)
 refine ⟨kt 273 (by decide) (by decide) _ _ _ h.box,h.vals.keep (kt 85 (by decide) (by decide)),h.tals.keep (kt 275 (by decide) (by decide)),hgl,by simp [hll],fun i a b c=>?_,h.nodup,h.newp,h.newg,h.newv,h.newt,h.touch.more t (fun i hi=>.inr (by rw [List.mem_singleton.1 hi]; exact h.newg _ (List.getElem_mem _)))⟩
 by_cases e:i=k
 ·subst e
  rw [List.getElem_set_self]
  exact hT
 ·have h1:=h.tal i a b (by omega)
  rw [List.getElem_set_ne (by omega)]
  refine h1.keep (t.block _ h1.lt ?_)
  simp only [List.mem_singleton]
  intro e2
  rcases Nat.lt_or_gt_of_ne e with hlt | hgt
  ·exact List.pairwise_iff_getElem.1 h.nodup i k b hk2 hlt e2
  ·exact List.pairwise_iff_getElem.1 h.nodup k i hk2 b hgt e2.symm
structure Added (row:List V) (sums:List (Int × Int)) (Ls Lk:List (List Nat)) (k:Nat):Prop where
 len:Lk.length=Ls.length
 done:∀ i (_:i < k) (h:i < sums.length) (h1:i < Ls.length) (h2:i < Lk.length),Lk[i]=Ls[i]++[numOf row sums[i]]
 rest:∀ i (_:k <= i) (h1:i < Ls.length) (h2:i < Lk.length),Lk[i]=Ls[i]
theorem Added.step {row:List V} {sums:List (Int × Int)} {Ls Lk:List (List Nat)} {k:Nat} (h:Added row sums Ls Lk k) (hk:k < sums.length) (hk1:k < Ls.length):Added row sums Ls (Lk.set k (Ls[k]++[numOf row sums[k]])) (k+1):=by
 have hl:=h.len
 refine ⟨by simpa using hl,fun i hi a b c=>?_,fun i hi a b=>?_⟩
 ·by_cases e:i=k
  ·subst e; rw [List.getElem_set_self]
  ·rw [List.getElem_set_ne (by omega)]; exact h.done i (by omega) a b (by omega)
 ·rw [List.getElem_set_ne (by omega)]; exact h.rest i (by omega) a (by omega)
theorem Added.all {row:List V} {sums:List (Int × Int)} {Ls Lk:List (List Nat)} (h:Added row sums Ls Lk sums.length) (hl:Ls.length=sums.length):Lk=addL row sums Ls:=by
 have hlen:=h.len
 refine List.ext_getElem (by simp [addL]; omega) (fun i h1 h2=>?_)
 rw [h.done i (by omega) (by omega) (by omega) h1]
 simp [addL]
theorem talAdd_count (w:World) (g:Nat) (l:List Nat) (a b c:Value) (x:Nat) (h:TalAt w g 1 l) (hl:l.length <= 100000):Calls Tryz.prog 242 #[.pointer (some ⟨g,0,none⟩),.agg #[a,b,c]] w fun e w'=>e=.returned (.tuple #[]) /\ TalAt w' g 1 (l++[x]) /\ Touch [g] w w':=by
 rcases h with ⟨_,h⟩ | ⟨h,_⟩
 ·refine (countAdd_any w g l.length a b c h (by omega)).mono ?_
  rintro e w' ⟨rfl,h1,h2⟩
  exact ⟨rfl,.inl ⟨rfl,by simpa using h1⟩,h2⟩
 ·exact absurd h (by decide)
theorem talAdd_total (w:World) (g:Nat) (l:List Nat) (x:Nat) (h:TalAt w g 4 l) (hl:l.sum <= 100000000000) (hx:x <= 1000000000):Calls Tryz.prog 246 #[.pointer (some ⟨g,0,none⟩),.agg #[.int .i64 1,.int .i64 (x:Int),.string ⟨#[]⟩]] w fun e w'=>e=.returned (.tuple #[]) /\ TalAt w' g 4 (l++[x]) /\ Touch [g] w w':=by
 rcases h with ⟨h,_⟩ | ⟨_,h⟩
 ·exact absurd h (by decide)
 ·refine (totalAdd_any w g l.sum x _ h (by omega) hx).mono ?_
  rintro e w' ⟨rfl,h1,h2⟩
  refine ⟨rfl,.inr ⟨rfl,?_⟩,h2⟩
  have e1:(l++[x]).sum=l.sum+x:=by simp
  have e2:(!(l++[x]).isEmpty)=true:=by cases l<;>rfl
  rw [e1,e2]
  exact h1
theorem partAdd_any (w W:World) (p:Nat) (cv sv tv vv:Value) (vals:List V) (sums:List (Int × Int)) (gs:List Nat) (Ls:List (List Nat)) (ro:Option Addr) (rn rc:Nat) (row:List V) (h:PartAt w W p cv sv tv vv vals (sums.map Prod.fst) gs Ls) (hs:SumsAt w sv sums) (hr:RowAt W (.slice ro rn rc) row) (hin:∀ s∈sums,0 <= s.2 /\ s.2 < row.length) (hop:∀ s∈sums,s.1=1 \/ s.1=4 /\ ∃ n:Nat,n <= 1000000000 /\ row.getD s.2.toNat V0=⟨1,(n:Int),⟨#[]⟩⟩) (hL:∀ l∈Ls,l.length <= 100000 /\ l.sum <= 100000000000) (hsl:sums.length <= 1000) (hrl:row.length <= 1000) :
  Calls Tryz.prog 147 #[.pointer (some ⟨p,0,none⟩),.slice ro rn rc] W fun e W'=>e=.returned (.tuple #[]) /\ PartAt w W' p cv sv tv vv vals (sums.map Prod.fst) gs (addL row sums Ls) /\ Touch gs W W':=by
 obtain ⟨so,sc,rfl,hs1,hs2,hsx⟩:=hs
 have HSX:Hid (1 <= sums.length -> ∃ b off,so=some ⟨b,off,none⟩ /\ ∀ i (h:i < sums.length),w.cell? ⟨b,off+i * 2,none⟩=some (.int .i64 sums[i].1) /\ w.cell? ⟨b,off+i * 2+1,none⟩=some (.int .i64 sums[i].2)):=hsx
 have HOP:Hid (∀ s∈sums,s.1=1 \/ s.1=4 /\ ∃ n:Nat,n <= 1000000000 /\ row.getD s.2.toNat V0=⟨1,(n:Int),⟨#[]⟩⟩):=hop
 have HIN:Hid (∀ s∈sums,0 <= s.2 /\ s.2 < row.length):=hin
 have HLS:Hid (∀ l∈Ls,l.length <= 100000 /\ l.sum <= 100000000000):=hL
 have HR:Hid (RowAt W (.slice ro rn rc) row):=hr
 have HP0:Hid (PartAt w W p cv (.slice so sums.length sc) tv vv vals (sums.map Prod.fst) gs Ls):=h
 obtain ⟨y0,y1,y2,y3⟩:=box4 h.box
 have hgl:=h.glen
 have hll:=h.llen
 simp only [List.length_map] at hgl hll
 clear hsx hop hin hL hr h
 go_enter Tryz.func147,Tryz.ntmps147
 go_wp2
 go_loopw [11] (fun i wr=>∃ (k:Nat) (Lk:List (List Nat)),k <= sums.length /\ i=.int .i64 (k:Int) /\ PartAt w wr p cv (.slice so sums.length sc) tv vv vals (sums.map Prod.fst) gs Lk /\ Added row sums Ls Lk k /\ Touch gs W wr) (fun i _=>sums.length - (intOf i).toNat)
 case atStart=>exact ⟨0,Ls,by omega,rfl,HP0.out,⟨rfl,fun i h=>by omega,fun i _ _ _=>rfl⟩,Touch.refl _ _⟩
 case round=>
  obtain ⟨k,Lk,hk,rfl,hP,hA,hT⟩:=hrel
  have HA:Hid (Added row sums Ls Lk k):=hA
  have HT:Hid (Touch gs W wr):=hT
  have HP:Hid (PartAt w wr p cv (.slice so sums.length sc) tv vv vals (sums.map Prod.fst) gs Lk):=hP
  clear hA hT hP
  by_cases hlt:k < sums.length
  ·obtain ⟨b,off,rfl,hx⟩:=HSX.out (by omega)
   have c0:=cell_touch (hx k hlt).1 HP.out.touch
   have c1:=cell_touch (hx k hlt).2 HP.out.touch
   have hop:=HOP.out sums[k] (List.getElem_mem hlt)
   obtain ⟨hi0,hi1⟩:=HIN.out sums[k] (List.getElem_mem hlt)
   have hkg:k < gs.length:=by omega
   have hkL:k < Ls.length:=by omega
   have hkl:k < Lk.length:=by have:=HA.out.len; omega
   have HST:=HA.out.step hlt hkL
   have hLk:Lk[k]=Ls[k]:=HA.out.rest k (Nat.le_refl _) hkL hkl
   have hbd:=HLS.out Ls[k] (List.getElem_mem hkL)
   have htal:=HP.out.tal k (by simpa using hlt) hkg hkl
   rw [hLk] at htal
   have hm1:(sums.map Prod.fst)[k]'(by simpa using hlt)=sums[k].1:=by simp
   rw [hm1] at htal
   obtain ⟨tg,tcap,etv,ht1,ht2,htx⟩:=HP.out.tals.cell (by rw [talsV_len (by simpa using hgl)]; simp; omega)
   have htl:(talsV (sums.map Prod.fst) gs).length=sums.length:=by rw [talsV_len (by simpa using hgl)]; simp
   have hcell:=htx k (by omega)
   have hv1:(talsV (sums.map Prod.fst) gs)[k]'(by omega)=talV sums[k].1 gs[k]:=by simp [talsV]
   rw [hv1] at hcell
   rw [htl] at etv ht1
   subst etv
   obtain ⟨c,hcc⟩:∃ c:Nat,sums[k].2=(c:Int):=⟨sums[k].2.toNat,by omega⟩
   rw [hcc] at c1 hi1
   have hcl2:c < row.length:=by omega
   have hrwr:RowAt wr (.slice ro rn rc) row:=Sl3.keep HR.out (HT.out.tag (fun g hg cs f e=>by
    obtain ⟨i,hi,e2⟩:=List.getElem_of_mem hg
    have h3:=HP0.out.tal i (by simp; omega) hi (by omega)
    rw [e2] at h3
    exact h3.notag (t:=85) (by decide) (by decide) g (by simp) cs f e))
   obtain ⟨rb,roff,rcap,er,hrc1,hrc2,hrx⟩:=hrwr.cells (by omega)
   simp only [Value.slice.injEq] at er
   obtain ⟨rfl,rfl,rfl⟩:=er
   obtain ⟨x0,x1,x2⟩:=hrx c hcl2
   have hyd:row.getD sums[k].2.toNat V0=row[c]:=by rw [hcc,Int.toNat_natCast,List.getD_eq_getElem?_getD,List.getElem?_eq_getElem hcl2]; rfl
   have hnum:numOf row sums[k]=row[c].n.toNat:=by unfold numOf; rw [hyd]
   rw [hnum] at HST
   rw [hyd] at hop
   have yb:=(box4 HP.out.box).2.2.1
   have HSET:Hid (∀ W2 l,Touch [gs[k]] wr W2 -> TalAt W2 gs[k] sums[k].1 l -> PartAt w W2 p cv (.slice (some ⟨b,off,none⟩) sums.length sc) (.slice (some ⟨tg,0,none⟩) sums.length tcap) vv vals (sums.map Prod.fst) gs (Lk.set k l)):=fun W2 l t hT2=>HP.out.set (by simpa using hlt) hkg t (by rw [hm1]; exact hT2)
   have HTO:Hid (∀ W2,Touch [gs[k]] wr W2 -> Touch gs W W2):=fun W2 t=>HT.out.trans (t.mono (fun x hx=>by rw [List.mem_singleton.1 hx]; exact List.getElem_mem _))
   have HST2:Hid (Added row sums Ls (Lk.set k (Ls[k]++[row[c].n.toNat])) (k+1)):=HST
   have hgne:∀ q cs t f,wr.heap[q]?=some (.cells cs t f) -> (t≠315 /\ t≠321) -> q≠gs[k]:=fun q cs t f e ht e2=>by
    subst e2
    exact htal.notag (t:=t) (fun h=>ht.1 h.symm) (fun h=>ht.2 h.symm) _ (by simp) cs f e
   have np:p≠gs[k]:=hgne p _ _ _ HP.out.box (by decide)
   have ntg:tg≠gs[k]:=by
    obtain ⟨cs,hb⟩:=HP.out.tals.block tg rfl
    exact hgne tg _ _ _ hb (by decide)
   have nB:wr.heap.size≠gs[k]:=by have:=htal.lt; omega
   have nrb:rb≠gs[k]:=by
    obtain ⟨ao',cap',e',_,_,hx'⟩:=hrwr
    obtain ⟨b',off',cs',f',e2,hb',_⟩:=hx' (by simp; omega)
    simp only [Value.slice.injEq] at e'
    obtain ⟨e3,_⟩:=e'
    rw [e2] at e3
    simp only [Option.some.injEq,Addr.mk.injEq,and_true] at e3
    rw [e3.1]
    exact hgne b' _ _ _ hb' (by decide)
   clear hx hrx htx hgne hrwr HST hnum hyd hLk hv1 hm1 htl HSX HIN HP HA HT HR HP0 y0 y1 y2 y3
   unfold talV at hcell
   generalize row[c]=yv at *
   obtain ⟨yk,yn,ys⟩:=yv
   generalize gs[k]=gk at *
   generalize sums[k]=sm at *
   obtain ⟨op,scol⟩:=sm
   simp only at *
   subst hcc
   rcases hop with hop | ⟨hop,n,hn,hyv⟩
   ·have htf:tyOf op=313:=by rw [hop]; rfl
    rw [htf] at hcell
    have hmet : ∀ W : World, (method 451 313 (.pointer (some ⟨gk, 0, none⟩)) "spillway/groups.add").run Tryz.prog W = .ok (242, .pointer (some ⟨gk, 0, none⟩)) W := fun W => by kernel_rfl
    subst hop
    have HADD:Hid (∀ W2,Touch [] wr W2 -> Calls Tryz.prog 242 #[.pointer (some ⟨gk,0,none⟩),.agg #[.int .i64 yk,.int .i64 yn,.string ys]] W2 fun e w'=>e=.returned (.tuple #[]) /\ TalAt w' gk 1 (Ls[k]++[yn.toNat]) /\ Touch [gk] W2 w'):=fun W2 t=>talAdd_count W2 gk Ls[k] _ _ _ _ (htal.keep (t.block _ htal.lt (by simp))) hbd.1
    have HSK:Hid (∀ W2,Touch [gk] (wr.alloc (.cells #[.int .i64 1,.int .i64 (c:Int)] 90)) W2 -> W2.cell? ⟨p,2,none⟩=some (.slice (some ⟨tg,0,none⟩) sums.length tcap) /\ W2.cell? ⟨tg,k,none⟩=some (.iface 313 (.pointer (some ⟨gk,0,none⟩))) /\ W2.cell? ⟨wr.heap.size,1,none⟩=some (.int .i64 (c:Int)) /\ (W2.cell? ⟨rb,roff+c * 3,none⟩=some (.int .i64 yk) /\ W2.cell? ⟨rb,roff+c * 3+1,none⟩=some (.int .i64 yn) /\ W2.cell? ⟨rb,roff+c * 3+1+1,none⟩=some (.string ys))):=fun W2 t=>by
     have t0:Touch [] wr (wr.alloc (.cells #[.int .i64 1,.int .i64 (c:Int)] 90)):=(Touch.refl [] _).alloc _
     have hBx:=heap_alloc_new wr (.cells #[.int .i64 1,.int .i64 (c:Int)] 90)
     exact ⟨cell_touchF (cell_touch yb t0) t (by simpa using np),cell_touchF (cell_touch hcell t0) t (by simpa using ntg),cell_touchF (by simp only [World.cell?,hBx]; rfl) t (by simpa using nB),cell_touchF (cell_touch x0 t0) t (by simpa using nrb),cell_touchF (cell_touch x1 t0) t (by simpa using nrb),cell_touchF (cell_touch x2 t0) t (by simpa using nrb)⟩
    have HFIN:Hid (∀ W2,Touch [gk] (wr.alloc (.cells #[.int .i64 1,.int .i64 (c:Int)] 90)) W2 -> TalAt W2 gk 1 (Ls[k]++[yn.toNat]) -> (PartAt w W2 p cv (.slice (some ⟨b,off,none⟩) sums.length sc) (.slice (some ⟨tg,0,none⟩) sums.length tcap) vv vals (sums.map Prod.fst) gs (Lk.set k (Ls[k]++[yn.toNat]))) /\ Touch gs W W2):=fun W2 t hT2=>by
     have t0:Touch [gk] wr W2:=((Touch.refl [gk] _).alloc _).trans t
     exact ⟨HSET.out W2 _ t0 hT2,HTO.out W2 t0⟩
    have l1:=lt_of_cell yb
    have l2:=lt_of_cell hcell
    have l3:=lt_of_cell x0
    go_upto_region 3 with fail
    go_region_held3 (fun w'=>w'.cell? ⟨p,2,none⟩=some (.slice (some ⟨tg,0,none⟩) sums.length tcap) /\ w'.cell? ⟨tg,k,none⟩=some (.iface 313 (.pointer (some ⟨gk,0,none⟩))) /\ w'.cell? ⟨wr.heap.size,1,none⟩=some (.int .i64 (c:Int)) /\ (w'.cell? ⟨rb,roff+c * 3,none⟩=some (.int .i64 yk) /\ w'.cell? ⟨rb,roff+c * 3+1,none⟩=some (.int .i64 yn) /\ w'.cell? ⟨rb,roff+c * 3+1+1,none⟩=some (.string ys))) (go_keep) (first | (go_at_call 242; refine (HADD.out _ (((Touch.refl [] _).alloc _).drew)).mono ?_; rintro e w1 ⟨rfl,hTal1,hT1⟩; have HT1:Hid (Touch [gk] (wr.alloc (.cells #[.int .i64 1,.int .i64 (c:Int)] 90)) w1):=((Touch.refl [gk] _).drew).trans hT1; have HTL:Hid (TalAt w1 gk 1 (Ls[k]++[yn.toNat])):=hTal1; obtain ⟨z0,z1,z2,z3,z4,z5⟩:=HSK.out w1 HT1.out; clear hT1 hTal1))
    all_goals
     obtain ⟨HF1,HF2⟩:=HFIN.out w1 HT1.out HTL.out
     have HG1:Hid (PartAt w w1 p cv (.slice (some ⟨b,off,none⟩) sums.length sc) (.slice (some ⟨tg,0,none⟩) sums.length tcap) vv vals (sums.map Prod.fst) gs (Lk.set k (Ls[k]++[yn.toNat]))):=HF1
     have HG2:Hid (Touch gs W w1):=HF2
     clear HF1 HF2
     go_wp2
     exact ⟨⟨k+1,_,by omega,by go_num,HG1.out,HST2.out,HG2.out⟩,by simp [intOf]; omega⟩
   ·have htf:tyOf op=319:=by rw [hop]; rfl
    rw [htf] at hcell
    have hmet : ∀ W : World, (method 451 319 (.pointer (some ⟨gk, 0, none⟩)) "spillway/groups.add").run Tryz.prog W = .ok (246, .pointer (some ⟨gk, 0, none⟩)) W := fun W => by kernel_rfl
    have HYV:Hid (yk=1 /\ yn=(n:Int) /\ ys=⟨#[]⟩):=⟨congrArg V.k hyv,congrArg V.n hyv,congrArg V.s hyv⟩
    clear hyv
    subst hop
    have HADD:Hid (∀ W2,Touch [] wr W2 -> Calls Tryz.prog 246 #[.pointer (some ⟨gk,0,none⟩),.agg #[.int .i64 yk,.int .i64 yn,.string ys]] W2 fun e w'=>e=.returned (.tuple #[]) /\ TalAt w' gk 4 (Ls[k]++[yn.toNat]) /\ Touch [gk] W2 w'):=fun W2 t=>by
     have:=talAdd_total W2 gk Ls[k] n (htal.keep (t.block _ htal.lt (by simp))) hbd.2 hn
     rw [HYV.out.1,HYV.out.2.1,HYV.out.2.2,Int.toNat_natCast]
     exact this
    have HSK:Hid (∀ W2,Touch [gk] (wr.alloc (.cells #[.int .i64 4,.int .i64 (c:Int)] 90)) W2 -> W2.cell? ⟨p,2,none⟩=some (.slice (some ⟨tg,0,none⟩) sums.length tcap) /\ W2.cell? ⟨tg,k,none⟩=some (.iface 319 (.pointer (some ⟨gk,0,none⟩))) /\ W2.cell? ⟨wr.heap.size,1,none⟩=some (.int .i64 (c:Int)) /\ (W2.cell? ⟨rb,roff+c * 3,none⟩=some (.int .i64 yk) /\ W2.cell? ⟨rb,roff+c * 3+1,none⟩=some (.int .i64 yn) /\ W2.cell? ⟨rb,roff+c * 3+1+1,none⟩=some (.string ys))):=fun W2 t=>by
     have t0:Touch [] wr (wr.alloc (.cells #[.int .i64 4,.int .i64 (c:Int)] 90)):=(Touch.refl [] _).alloc _
     have hBx:=heap_alloc_new wr (.cells #[.int .i64 4,.int .i64 (c:Int)] 90)
     exact ⟨cell_touchF (cell_touch yb t0) t (by simpa using np),cell_touchF (cell_touch hcell t0) t (by simpa using ntg),cell_touchF (by simp only [World.cell?,hBx]; rfl) t (by simpa using nB),cell_touchF (cell_touch x0 t0) t (by simpa using nrb),cell_touchF (cell_touch x1 t0) t (by simpa using nrb),cell_touchF (cell_touch x2 t0) t (by simpa using nrb)⟩
    have HFIN:Hid (∀ W2,Touch [gk] (wr.alloc (.cells #[.int .i64 4,.int .i64 (c:Int)] 90)) W2 -> TalAt W2 gk 4 (Ls[k]++[yn.toNat]) -> (PartAt w W2 p cv (.slice (some ⟨b,off,none⟩) sums.length sc) (.slice (some ⟨tg,0,none⟩) sums.length tcap) vv vals (sums.map Prod.fst) gs (Lk.set k (Ls[k]++[yn.toNat]))) /\ Touch gs W W2):=fun W2 t hT2=>by
     have t0:Touch [gk] wr W2:=((Touch.refl [gk] _).alloc _).trans t
     exact ⟨HSET.out W2 _ t0 hT2,HTO.out W2 t0⟩
    have l1:=lt_of_cell yb
    have l2:=lt_of_cell hcell
    have l3:=lt_of_cell x0
    go_upto_region 3 with fail
    go_region_held3 (fun w'=>w'.cell? ⟨p,2,none⟩=some (.slice (some ⟨tg,0,none⟩) sums.length tcap) /\ w'.cell? ⟨tg,k,none⟩=some (.iface 319 (.pointer (some ⟨gk,0,none⟩))) /\ w'.cell? ⟨wr.heap.size,1,none⟩=some (.int .i64 (c:Int)) /\ (w'.cell? ⟨rb,roff+c * 3,none⟩=some (.int .i64 yk) /\ w'.cell? ⟨rb,roff+c * 3+1,none⟩=some (.int .i64 yn) /\ w'.cell? ⟨rb,roff+c * 3+1+1,none⟩=some (.string ys))) (go_keep) (first | (go_at_call 246; refine (HADD.out _ (((Touch.refl [] _).alloc _).drew)).mono ?_; rintro e w1 ⟨rfl,hTal1,hT1⟩; have HT1:Hid (Touch [gk] (wr.alloc (.cells #[.int .i64 4,.int .i64 (c:Int)] 90)) w1):=((Touch.refl [gk] _).drew).trans hT1; have HTL:Hid (TalAt w1 gk 4 (Ls[k]++[yn.toNat])):=hTal1; obtain ⟨z0,z1,z2,z3,z4,z5⟩:=HSK.out w1 HT1.out; clear hT1 hTal1))
    all_goals
     obtain ⟨HF1,HF2⟩:=HFIN.out w1 HT1.out HTL.out
     have HG1:Hid (PartAt w w1 p cv (.slice (some ⟨b,off,none⟩) sums.length sc) (.slice (some ⟨tg,0,none⟩) sums.length tcap) vv vals (sums.map Prod.fst) gs (Lk.set k (Ls[k]++[yn.toNat]))):=HF1
     have HG2:Hid (Touch gs W w1):=HF2
     clear HF1 HF2
     go_wp2
     exact ⟨⟨k+1,_,by omega,by go_num,HG1.out,HST2.out,HG2.out⟩,by simp [intOf]; omega⟩
  ·obtain rfl:k=sums.length:=by omega
   have HE:Hid (Lk=addL row sums Ls):=HA.out.all hll
   go_wp2
   first | go_end0 | refine bodyPost_ret (results_none rfl _ _ _) rfl ?_
   exact ⟨rfl,by rw [<- HE.out]; exact HP.out,HT.out⟩
end Go.Proofs.YtjoinhljdbljaaaGreat
