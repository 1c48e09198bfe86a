/- The walk of result, for rows told apart, and what follows. -/
import Derived.Test.YtjoinhljdbljaaaGreatCntWToDisA
set_option maxHeartbeats 4000000
set_option maxRecDepth 20000
namespace Go.Proofs.YtjoinhljdbljaaaGreat
open Go.RowKit
attribute [local go_sem] Oper.semAt_some
theorem resultDistinct_any (w:World) (q gr:Nat) (k0:Int) (f0 gf:Nat) (l0 lb:Array Value) (v4 v5:Value) (hgr:w.heap[gr]?=some (.cells #[.int .i64 k0,.func (.func f0) #[] l0,.int .i64 1,.func (.func gf) #[] lb,v4,v5] 167 (0,0))) :
  Calls Tryz.prog 79 #[.pointer (some ⟨q,0,none⟩),.agg #[.int .i64 6,.int .i64 1,.int .i64 0,.string ⟨#[]⟩,.slice none 0 0,.int .i64 0,.slice none 0 0,.slice none 0 0,.slice none 0 0],.slice (some ⟨gr,0,none⟩) 3 3] w fun e w'=>∃ ba bb bc kg,e=.returned (.agg #[.int .i64 1,.func (.func 138) #[] #[.pointer (some ⟨ba,0,none⟩),.pointer (some ⟨bb,0,none⟩),.pointer (some ⟨bc,0,none⟩)]]) /\ DisMade w' ba bb bc q gf lb kg /\ Touch [] w w':=by
 have r0:w.cell? ⟨gr,0,none⟩=some (.int .i64 k0):=by simp [World.cell?,hgr]
 have r1:w.cell? ⟨gr,1,none⟩=some (.func (.func f0) #[] l0):=by simp [World.cell?,hgr]
 have r2:w.cell? ⟨gr,2,none⟩=some (.int .i64 1):=by simp [World.cell?,hgr]
 have r3:w.cell? ⟨gr,3,none⟩=some (.func (.func gf) #[] lb):=by simp [World.cell?,hgr]
 have hg:=(Array.getElem?_eq_some_iff.1 hgr).1
 go_enter Tryz.func79,Tryz.ntmps79
 go_wp2
 have tA:Touch [] w ((w.alloc (.cells #[.int .i64 6,.int .i64 1,.int .i64 0,.string ⟨#[]⟩,.slice none 0 0,.int .i64 0,.slice none 0 0,.slice none 0 0,.slice none 0 0] 79)).alloc (.cells #[.int .i64 0,.nilFunc] 167)):=((Touch.refl [] w).alloc _).alloc _
 have hB4:((w.alloc (.cells #[.int .i64 6,.int .i64 1,.int .i64 0,.string ⟨#[]⟩,.slice none 0 0,.int .i64 0,.slice none 0 0,.slice none 0 0,.slice none 0 0] 79)).alloc (.cells #[.int .i64 0,.nilFunc] 167)).heap[w.heap.size]?=some (.cells #[.int .i64 6,.int .i64 1,.int .i64 0,.string ⟨#[]⟩,.slice none 0 0,.int .i64 0,.slice none 0 0,.slice none 0 0,.slice none 0 0] 79 (0,0)):=(Below.heap_alloc _ _ _ (by simp)).trans (heap_alloc_new w _)
 have hB6:((w.alloc (.cells #[.int .i64 6,.int .i64 1,.int .i64 0,.string ⟨#[]⟩,.slice none 0 0,.int .i64 0,.slice none 0 0,.slice none 0 0,.slice none 0 0] 79)).alloc (.cells #[.int .i64 0,.nilFunc] 167)).heap[w.heap.size+1]?=some (.cells #[.int .i64 0,.nilFunc] 167 (0,0)):=new2 w _ _
 have r0':=cell_touch r0 tA
 have r1':=cell_touch r1 tA
 have r2':=cell_touch r2 tA
 have r3':=cell_touch r3 tA
 have hsz:w.heap.size+2 <= ((w.alloc (.cells #[.int .i64 6,.int .i64 1,.int .i64 0,.string ⟨#[]⟩,.slice none 0 0,.int .i64 0,.slice none 0 0,.slice none 0 0,.slice none 0 0] 79)).alloc (.cells #[.int .i64 0,.nilFunc] 167)).heap.size:=by simp
 clear r0 r1 r2 r3
 generalize (w.alloc (.cells #[.int .i64 6,.int .i64 1,.int .i64 0,.string ⟨#[]⟩,.slice none 0 0,.int .i64 0,.slice none 0 0,.slice none 0 0,.slice none 0 0] 79)).alloc (.cells #[.int .i64 0,.nilFunc] 167)=wa at *
 have c1:wa.cell? ⟨w.heap.size,1,none⟩=some (.int .i64 1):=by simp [World.cell?,hB4]
 have c2:wa.cell? ⟨w.heap.size,2,none⟩=some (.int .i64 0):=by simp [World.cell?,hB4]
 have l1:w.heap.size < wa.heap.size:=by omega
 have l2:gr < wa.heap.size:=by omega
 have l3:wa.heap.size≠w.heap.size:=by omega
 have l4:wa.heap.size≠gr:=by omega
 have l5:wa.heap.size+1≠w.heap.size:=by omega
 have l6:wa.heap.size+1≠gr:=by omega
 go_cut [7,8] from 9 (fun a e8 wx=>∃ B7 B8,a=.pointer (some ⟨B7,0,none⟩) /\ e8=.pointer (some ⟨B8,0,none⟩) /\ wx.heap[B7]?=some (.cells #[.int .i64 1,.func (.func gf) #[] lb] 167 (0,0)) /\ Touch [] wa wx /\ wa.heap.size <= B7)
 case first=>
  go_region_held3 (fun w'=>w'.cell? ⟨w.heap.size,1,none⟩=some (.int .i64 1) /\ w'.cell? ⟨w.heap.size,2,none⟩=some (.int .i64 0) /\ w'.cell? ⟨gr,0,none⟩=some (.int .i64 k0) /\ w'.cell? ⟨gr,1,none⟩=some (.func (.func f0) #[] l0) /\ w'.cell? ⟨gr,2,none⟩=some (.int .i64 1) /\ w'.cell? ⟨gr,3,none⟩=some (.func (.func gf) #[] lb)) (go_keep) (fail)
  all_goals
   go_wp2_with fail
   go_meet
   case rel=>exact ⟨_,_,rfl,rfl,by first | exact (Below.heap_alloc _ _ _ (by simp)).trans (heap_alloc_new wa _) | exact new2 _ _ _,(((Touch.refl [] wa).alloc _).alloc _).drew,by omega⟩
 case rest=>
  obtain ⟨B7,B8,rfl,rfl,hB7,tc,l7⟩:=hcut
  have l8:w.heap.size+1≠B7:=by omega
  have l9:B7≠w.heap.size+1:=by omega
  have tw:=tA.trans tc
  have hB4c:=tc.tag0 79 _ _ _ hB4
  have hB6c:=tc.tag0 167 _ _ _ hB6
  clear c1 c2 r0' r1' r2' r3' hB4 hB6
  obtain ⟨x0,x1⟩:=box2 hB7
  have HB6:Hid (wc.heap[w.heap.size+1]?=some (.cells #[.int .i64 0,.nilFunc] 167 (0,0))):=hB6c
  have HK:Hid (∀ W,Touch [] wc W -> W.cell? ⟨B7,0,none⟩=some (.int .i64 1) /\ W.cell? ⟨B7,1,none⟩=some (.func (.func gf) #[] lb)):=fun W hW=>⟨cell_touch x0 hW,cell_touch x1 hW⟩
  have c0:wc.cell? ⟨w.heap.size,0,none⟩=some (.int .i64 6):=by simp [World.cell?,hB4c]
  clear hgr hB4c hB6c
  go_wp2
  go_cut [] from 46 (fun wx=>∃ ba bb bc kg,wx.heap[w.heap.size+1]?=some (.cells #[.int .i64 1,.func (.func 138) #[] #[.pointer (some ⟨ba,0,none⟩),.pointer (some ⟨bb,0,none⟩),.pointer (some ⟨bc,0,none⟩)]] 167 (0,0)) /\ DisMade wx ba bb bc q gf lb kg /\ Touch [w.heap.size+1] wc wx)
  case first=>
   go_region_held3 (fun W=>W.cell? ⟨B7,0,none⟩=some (.int .i64 1) /\ W.cell? ⟨B7,1,none⟩=some (.func (.func gf) #[] lb)) (go_keep) (first | (go_at_call 107; refine (distinct_any _ q gf lb).mono ?_; rintro e w4 ⟨ba,bb,bc,kg,rfl,z1,t4⟩; obtain ⟨j0,j1⟩:=HK.out w4 (((Touch.refl [] _).drew).trans t4); have HT4:Hid (Touch [] wc w4):=((Touch.refl [] _).drew).trans t4; have HZ:Hid (DisMade w4 ba bb bc q gf lb kg):=z1; have hB6d:=HT4.out.tag0 167 _ _ _ HB6.out; have g0:w4.frozen? ⟨w.heap.size+1,0,none⟩=false:=(by simp [World.frozen?,hB6d]); have g1:w4.frozen? ⟨w.heap.size+1,1,none⟩=false:=(by simp [World.frozen?,hB6d]); obtain ⟨y0,y1⟩:=box2 hB6d; have HB6d:Hid (w4.heap[w.heap.size+1]?=some (.cells #[.int .i64 0,.nilFunc] 167 (0,0))):=hB6d; clear hB6d z1 t4))
   all_goals
    go_wp2_with fail
    go_meet
    case rel=>
     have t5:Touch [w.heap.size+1] w4 ((w4.setCell ⟨w.heap.size+1,0,none⟩ (.int .i64 1)).setCell ⟨w.heap.size+1,1,none⟩ (.func (.func 138) #[] #[.pointer (some ⟨ba,0,none⟩),.pointer (some ⟨bb,0,none⟩),.pointer (some ⟨bc,0,none⟩)])):=((Touch.refl [w.heap.size+1] w4).setCell (p:=⟨w.heap.size+1,0,none⟩) (by simp) _).setCell (p:=⟨w.heap.size+1,1,none⟩) (by simp) _
     have n5:∀ t,(167:TypeId)≠t -> KeepTag t w4 _:=fun t ht=>t5.tag (notag_of HB6d.out ht)
     have hz:=HZ.out
     refine ⟨ba,bb,bc,kg,?_,⟨n5 159 (by decide) _ _ _ hz.ha,t5.u.keep hz.hb (by decide) (fun e=>?_),n5 74 (by decide) _ _ _ hz.hc,n5 73 (by decide) _ _ _ hz.hk⟩,(HT4.out.mono (by simp)).trans t5⟩
     ·rw [heap_setCell_same _ (w.heap.size+1) 1 _ 167 _ (heap_setCell_same w4 (w.heap.size+1) 0 _ 167 _ HB6d.out)]; simp
     ·rw [List.mem_singleton.1 e] at hz
      have:=hz.hb
      rw [HB6d.out] at this
      simp at this
  case rest=>
   obtain ⟨ba,bb,bc,kg,p0,p3,t5⟩:=hcut
   obtain ⟨z0,z1⟩:=box2 p0
   clear x0 x1 c0
   go_wp2
   exact bodyPost_ret (v:=.agg #[.int .i64 1,.func (.func 138) #[] #[.pointer (some ⟨ba,0,none⟩),.pointer (some ⟨bb,0,none⟩),.pointer (some ⟨bc,0,none⟩)]]) (by simp [results,Tryz.results79,go_sem,z0,z1]) rfl ⟨ba,bb,bc,kg,rfl,p3,tw.more t5 (fun i hi=>.inr (by rw [List.mem_singleton.1 hi]; omega))⟩
end Go.Proofs.YtjoinhljdbljaaaGreat
namespace Go.Proofs.YtjoinhljdbljaaaGreat
open Go.RowKit
theorem incr_len:∀ (l:List Nat) (lo n:Nat),l.Pairwise (· < ·) -> (∀ x∈l,lo <= x /\ x < n) -> lo <= n -> l.length+lo <= n
 | [],lo,n,_,_,h=>by simpa using h
 | a::t,lo,n,hp,hm,h=>by
  obtain ⟨h1,h2⟩:=List.pairwise_cons.1 hp
  obtain ⟨a1,a2⟩:=hm a (by simp)
  have:=incr_len t (a+1) n h2 (fun x hx=>⟨h1 x hx,(hm x (by simp [hx])).2⟩ ) a2
  simp only [List.length_cons]
  omega
def rank (v:V):Nat:=if v.k=0 then 0 else (v.n+11).toNat
theorem rank_lt (r:Int):rank (aOf r) < 21:=by
 rcases aOf_cases r with h | ⟨n,hn,h⟩
 ·rw [h]; simp [rank]
 ·rw [h]; simp [rank]; omega
theorem rank_cmp (r r':Int) (h:cmpV (keyOf 0) (aOf r) (aOf r') < 0):rank (aOf r) < rank (aOf r'):=by
 rcases aOf_cases r with e | ⟨n,hn,e⟩<;>rcases aOf_cases r' with e' | ⟨n',hn',e'⟩<;>rw [e,e'] at h ⊢
 ·simp [cmpV,thenBy,cmpNull,solid,cmpBody,cmpI,negIf,keyOf,(cmpS_cmp.self _)] at h
 ·simp [rank]; omega
 ·simp [cmpV,thenBy,cmpNull,solid,cmpI,negIf,keyOf] at h
 ·simp only [rank]
  have:n < n':=by
   simp [cmpV,thenBy,cmpNull,solid,cmpBody,cmpI,negIf,keyOf,(cmpS_cmp.self _)] at h
   split at h<;>(try split at h)<;>omega
  simp
  omega
theorem cmpR_one (a b:List V):cmpR ksG a b=cmpV (keyOf 0) (a.getD 0 V0) (b.getD 0 V0):=by
 show (if cmpV (keyOf 0) (a.getD 0 V0) (b.getD 0 V0)≠0 then cmpV (keyOf 0) (a.getD 0 V0) (b.getD 0 V0) else 0)=_
 split
 ·rfl
 ·rename_i h; omega
def cG (a b:Rec):Int:=cmpR ksG a.row b.row
theorem cG_cmp:Cmp cG:=(cmpR_cmp ksG).on Rec.row
theorem srt_le {out:List Rec} (h:Srt ksG out):out.Pairwise fun a b=>cG a b <= 0:=by
 refine h.imp ?_
 intro a b hab
 rw [aheadB_code] at hab
 have:=(cmpR_cmp ksG).anti a.row b.row
 unfold cG
 split at hab
 ·simp at hab; omega
 ·rename_i hz; omega
theorem gall_apart {out:List Rec} (h:Srt ksG out):(gall (sameR ksG) out).Pairwise fun d e=>∀ x t y u,d=x::t -> e=y::u -> cG x y < 0:=by
 have h1:=(gparts_ord cG_cmp out (srt_le h)).apart
 unfold gall
 split
 ·exact (List.pairwise_append.1 h1).1
 ·rename_i x c e
  have e':(gparts (fun y x=>decide (cG y x=0)) out).2=x::c:=e
  rw [e'] at h1
  exact h1
theorem partRow_none (x:Rec) (c:List Rec):partRow colsG [] (x::c)=[x.row.getD 0 V0]:=rfl
theorem partRows_incr {rows l:List (List V)} (h:PartRows ksG colsG [] rows l):(l.Pairwise fun a b=>cmpR ksG a b < 0) /\ ∀ r∈l,r.length=1:=by
 obtain ⟨out,hp,hs,rfl⟩:=h
 have h1:=gall_apart hs
 have h2:=gall_full (sameR ksG) out
 refine ⟨List.pairwise_map.2 ?_,fun r hr=>?_⟩
 ·refine List.Pairwise.imp_of_mem ?_ h1
  intro d e hd he hde
  cases d with
  | nil=>exact absurd rfl (h2 _ hd)
  | cons x t=>
   cases e with
   | nil=>exact absurd rfl (h2 _ he)
   | cons y u=>
    have:=hde x t y u rfl rfl
    unfold cG at this
    rw [cmpR_one] at this ⊢
    exact this
 ·obtain ⟨d,hd,rfl⟩:=List.mem_map.1 hr
  cases d with
  | nil=>exact absurd rfl (h2 _ hd)
  | cons x t=>rw [partRow_none]; rfl
theorem partRows_nodup {rows l:List (List V)} (h:PartRows ksG colsG [] rows l):l.Nodup:=by
 refine (partRows_incr h).1.imp ?_
 intro a b hab e
 rw [e,(cmpR_cmp ksG).self] at hab
 omega
theorem sorted_same {rows l:List (List V)} {out:List Rec} (h:PartRows ksG colsG [] rows l) (hp:out.Perm (recsOf l)) (hs:Srt ksG out):out.map Rec.row=l:=by
 have h1:=(partRows_incr h).1
 have hsl:Srt ksG (recsOf l):=by
  refine List.pairwise_iff_getElem.2 (fun i j hi hj hij=>?_)
  have hi':i < l.length:=by rw [recsOf_len] at hi; exact hi
  have hj':j < l.length:=by rw [recsOf_len] at hj; exact hj
  have h2:=List.pairwise_iff_getElem.1 h1 i j hi' hj' hij
  have h3:=(cmpR_cmp ksG).anti l[i] l[j]
  rw [aheadB_code]
  simp only [recsOf,List.getElem_mapIdx]
  rw [if_pos (by omega)]
  simp
  omega
 have e:out=recsOf l:=by
  refine List.Perm.eq_of_pairwise (le:=fun a b=>aheadB ksG b a=false) ?_ hs hsl hp
  intro a b ha hb hab hba
  have ha':=hp.mem_iff.1 ha
  have h2:=(cmpR_cmp ksG).anti a.row b.row
  rw [aheadB_code] at hab hba
  have hz:cmpR ksG a.row b.row=0:=by
   split at hab
   ·split at hba
    ·simp at hab hba; omega
    ·omega
   ·omega
  obtain ⟨i,hi,rfl⟩:=recsOf_mem ha'
  obtain ⟨j,hj,rfl⟩:=recsOf_mem hb
  simp only at hz h2
  have hij:i=j:=by
   rcases Nat.lt_trichotomy i j with hlt | heq | hgt
   ·have:=List.pairwise_iff_getElem.1 h1 i j hi hj hlt; omega
   ·exact heq
   ·have:=List.pairwise_iff_getElem.1 h1 j i hj hi hgt; omega
  subst hij
  rfl
 rw [e,recsOf_rows]
theorem parts_few {raw:List Int} {rows:List (List V)} (h:∀ i (h:i < rows.length),TRow raw i rows[i]) (hn:rows.length <= 1000) (blk:Nat) (hb:64 <= blk) (P:List (List Rec)) (C out rest:List Rec) (h1:gparts (sameR ksG) out=(P,C)) (h2:C≠[]) (h3:Srt ksG out) (h4:(out++rest).Perm (recsOf rows)) :
  RecOK blk 1 ⟨(P.length:Int),partRow colsG [] C⟩ /\ Able ksG (partRow colsG [] C) /\ sizeR (partRow colsG [] C) <= 48 /\ P.length+1 <= 21:=by
 obtain ⟨a1,a2,a3,a4⟩:=part_row h hn (sums:=[]) (.inr rfl) P C out rest h1 h2 h4
 have hst:=gparts_st (sameR ksG) out
 have hord:=(gparts_ord cG_cmp out (srt_le h3)).apart
 have h1':gparts (fun y x=>decide (cG y x=0)) out=(P,C):=h1
 rw [h1] at hst
 rw [h1'] at hord
 simp only at hord
 have hval:∀ r∈out,∃ k,r.row.getD 0 V0=aOf k:=fun r hr=>by
  obtain ⟨i,hi,rfl⟩:=recsOf_mem (h4.mem_iff.1 (List.mem_append_left _ hr))
  obtain ⟨s,_,e⟩:=h i hi
  exact ⟨raw.getD i 0,by simp only [e]; rfl⟩
 have hsub:∀ d∈P++[C],∀ r∈d,r∈out:=fun d hd r hr=>by
  rw [<- hst.flat]
  rcases List.mem_append.1 hd with hd | hd
  ·exact List.mem_append_left _ (List.mem_flatten.2 ⟨d,hd,hr⟩)
  ·rw [List.mem_singleton.1 hd] at hr; exact List.mem_append_right _ hr
 have hfull:∀ d∈P++[C],d≠[]:=fun d hd=>by
  rcases List.mem_append.1 hd with hd | hd
  ·exact hst.full d hd
  ·rw [List.mem_singleton.1 hd]; exact h2
 have hl:=incr_len ((P++[C]).map fun d=>rank ((d.head?.map fun r=>r.row.getD 0 V0).getD V0)) 0 21 (List.pairwise_map.2 ?_) (fun x hx=>?_) (by omega)
 ·refine ⟨⟨by show I64 (P.length:Int); unfold I64; omega,a2,?_,by show 16+sizeR (partRow colsG [] C) <= blk; omega⟩,⟨a2,?_⟩,by omega,by simpa using hl⟩
  ·cases C with
   | nil=>exact absurd rfl h2
   | cons x c=>rfl
  ·cases C with
   | nil=>exact absurd rfl h2
   | cons x c=>
    rw [partRow_none]
    intro y hy
    simp [ksG,colsG] at hy
    subst hy
    simp [keyOf]
 ·refine List.Pairwise.imp_of_mem ?_ hord
  intro d e hd he hde
  cases d with
  | nil=>exact absurd rfl (hfull _ hd)
  | cons x t=>
   cases e with
   | nil=>exact absurd rfl (hfull _ he)
   | cons y u=>
    have hc:=hde x t y u rfl rfl
    obtain ⟨k,ek⟩:=hval x (hsub _ hd x (by simp))
    obtain ⟨k',ek'⟩:=hval y (hsub _ he y (by simp))
    unfold cG at hc
    rw [cmpR_one,ek,ek'] at hc
    show rank (x.row.getD 0 V0) < rank (y.row.getD 0 V0)
    rw [ek,ek']
    exact rank_cmp k k' hc
 ·obtain ⟨d,hd,rfl⟩:=List.mem_map.1 hx
  cases d with
  | nil=>exact absurd rfl (hfull _ hd)
  | cons x t=>
   obtain ⟨k,ek⟩:=hval x (hsub _ hd x (by simp))
   refine ⟨Nat.zero_le _,?_⟩
   show rank (x.row.getD 0 V0) < 21
   rw [ek]
   exact rank_lt k
end Go.Proofs.YtjoinhljdbljaaaGreat
namespace Go.Proofs.YtjoinhljdbljaaaGreat
open Go.RowKit
attribute [local go_sem] Oper.semAt_some
theorem copiedDistinct_any (w:World) (cl cq q bn bl:Nat) (tv wv cv sv:Value) (bx bm blk fan bud:Nat) (gf:Nat) (lb:Array Value) (rows:List (List V)) (X D:List Nat) (rc m j:Nat) (ba bb bc kg:Nat) (h:PsCtx w cl cq q bn bl tv wv cv sv bx bm blk fan bud gf lb colsG [] ksG rows X D rc m j) (hM:DisMade w ba bb bc q 140 #[.pointer (some ⟨cl,0,none⟩),.pointer (some ⟨cq,0,none⟩)] kg) (hb1:1 <= blk) :
  Calls Tryz.prog 82 #[.func (.func 138) #[] #[.pointer (some ⟨ba,0,none⟩),.pointer (some ⟨bb,0,none⟩),.pointer (some ⟨bc,0,none⟩)]] w fun e w'=>∃ lv l,e=.returned lv /\ Ans (GroupOut [] rows) bm w w' lv l:=by
 have hlen:∀ l,PartRows ksG colsG [] rows l -> l.length <= 20000:=by
  rintro l ⟨out,hp,hs,rfl⟩
  have g1:=gflat_len (gall_full (sameR ksG) out)
  rw [gall_flat] at g1
  have g2:=hp.length_eq
  rw [recsOf_len] at g2
  have:=h.few
  rw [List.length_map]
  omega
 have hinc:=fun l (hl:PartRows ksG colsG [] rows l)=>(partRows_incr hl).2
 refine (copied_gen (GcT++[83]) [206] [] w 138 _ ([]:List Rec) (SFin bx bm blk 1 m j ksG (PartRows ksG colsG [] rows)) (SStep ksG (PartRows ksG colsG [] rows)) bm D (fun out=>out.map Rec.row) (Nat.le_of_lt h.hbm) (enters_of Tryz.func138 (by kernel_rfl) rfl) (by decide) (by decide) (by simp) (fun W hW=>?_) rfl ?_ ?_ ?_).mono ?_
 ·have hW':=h.quiet hW
  have hMW:=hM.quiet hW
  refine distinct_seq W ba bb bc q 1 140 #[.pointer (some ⟨cl,0,none⟩),.pointer (some ⟨cq,0,none⟩)] (some ⟨kg,0,none⟩) 1 1 ksG (PartRows ksG colsG [] rows) GcT bm D _ hMW.ha hMW.hb hMW.hc (Nat.le_of_lt hW'.hbm) hW'.hD (by decide) (fun l hl=>⟨partRows_nodup hl,fun r hr=>by have:=hinc l hl r hr; omega⟩) (fun out W l ob ob' hf e ho=>SFin.odd hf e ho) (fun W2 bq bk bn2 bl2 t2 p1 p2 p3 p4=>?_)
  have h2:=hW'.quiet t2
  have hk2:=t2.tag0 73 _ _ _ hMW.hk
  refine parts_seq h2 (kv:=.slice (some ⟨kg,0,none⟩) 1 1) ⟨p1,h2.chk.hQ,p3,⟨_,_,_,rfl⟩,p4,p2,hb1,by have:=h.bud2; omega⟩ ?_
  refine ⟨_,_,rfl,Nat.le_refl _,by unfold maxLen; omega,fun _=>⟨kg,0,_,_,rfl,hk2,fun i hi=>?_⟩⟩
  have:i=0:=by simp [ksG,colsG] at hi; omega
  subst this
  simp [ksG,colsG,keyOf,K.t]
 ·rintro out v W out' ⟨x,l,rfl,hl,hr,_,rest,hp⟩
  have hle:=hp.length_eq
  simp only [List.length_append,List.length_singleton,recsOf_len] at hle
  have h3:=hlen l hl
  have hx:x.row∈l:=by
   rw [<- recsOf_rows l]
   exact List.mem_map_of_mem (hp.mem_iff.1 (by simp))
  have h4:=hinc l hl _ hx
  exact ⟨x.row,by simp,hr,by omega,by omega,by simp; omega⟩
 ·rintro out v W out' l r r' ⟨x,l',h1,h2,hr,h3⟩ e
  exact ⟨x,l',h1,h2,Sl3.keep hr ((OwnG.putObj (T:=[]) (lo:=0) (N:=0) (D:=[]) (F:=[]) (ob':=.loop r') e (odd_loop r) (Nat.zero_le _) (Nat.zero_le _)).tag (by decide) (by decide) (by simp)),h3⟩
 ·rintro out W l ob ob' hf e ho
  exact SFin.odd hf e ho
 ·rintro e w' ⟨lv,out,rfl,⟨⟨l,hl,h1⟩,h2,_⟩,⟨vs',a,b,c⟩,h5⟩
  have e2:=sorted_same hl h1 h2
  refine ⟨lv,l,rfl,hl,⟨vs',a,by rw [b,e2],fun i hi hj=>?_⟩,h5⟩
  have:=c i hi (by rw [e2]; exact hj)
  simpa only [e2] using this
theorem waits_three (w:World) (gp:Nat) (co:Option Addr) (cn cc:Nat) (i:Nat) (hi:i=0 \/ i=1 \/ i=2) (h:GPlan w gp nameT (.slice co cn cc) (.slice none 0 0) more2):Calls Tryz.prog 80 #[.slice (some ⟨gp,0,none⟩) 3 3,.int .i64 (i:Int)] w fun e w'=>e=.returned (.bool false) /\ Touch [] w w':=by
 have p0:=h.cell 0 (.int .i64 1) rfl
 rcases hi with rfl | rfl | rfl
 ·clear h
  go_enter Tryz.func80,Tryz.ntmps80
  go_wp2
  go_ret
  exact ⟨rfl,Touch.refl [] w⟩
 ·have p9:=h.cell 9 (.int .i64 7) rfl
  have p10:=h.cell 10 (.int .i64 0) rfl
  have p11:=h.cell 11 (.int .i64 0) rfl
  have p12:=h.cell 12 (.string ⟨#[]⟩) rfl
  have p13:=h.cell 13 (.slice none 0 0) rfl
  have p14:=h.cell 14 (.int .i64 0) rfl
  have p15:=h.cell 15 (.slice co cn cc) rfl
  have p16:=h.cell 16 (.slice none 0 0) rfl
  have p17:=h.cell 17 (.slice none 0 0) rfl
  have p18:=h.cell 18 (.int .i64 6) rfl
  have p19:=h.cell 19 (.int .i64 1) rfl
  have p20:=h.cell 20 (.int .i64 0) rfl
  have p21:=h.cell 21 (.string ⟨#[]⟩) rfl
  have p22:=h.cell 22 (.slice none 0 0) rfl
  have p23:=h.cell 23 (.int .i64 0) rfl
  have p24:=h.cell 24 (.slice none 0 0) rfl
  have p25:=h.cell 25 (.slice none 0 0) rfl
  have p26:=h.cell 26 (.slice none 0 0) rfl
  have hgp:=(Array.getElem?_eq_some_iff.1 h).1
  clear h
  go_enter Tryz.func80,Tryz.ntmps80
  go_wp2
  go_ret
  exact ⟨rfl,(((Touch.refl [] w).alloc _).alloc _).alloc _⟩
 ·clear h
  go_enter Tryz.func80,Tryz.ntmps80
  go_wp2
  go_ret
  exact ⟨rfl,Touch.refl [] w⟩
theorem make163c (W:World):(Instr.makeSlice 163 (.int .i64 3) (.int .i64 3)).run Tryz.prog W=.ok (.slice (some ⟨W.heap.size,0,none⟩) 3 3) (W.alloc (.cells #[.int .i64 0,.nilFunc,.int .i64 0,.nilFunc,.int .i64 0,.nilFunc] 167)):=by kernel_rfl
theorem resultScan3_any (w:World) (q gr:Nat) (tv wv:Value) (bx blk:Nat) (fan bud:Int) (name:ByteArray) (kn kc:Nat) (ko:Option Addr) (sv:Value) (vs:List Value) (rows:List (List V)) (v1 v2 v3 v4:Value) (hQ:w.heap[q]?=some (.cells #[tv,.int .i64 (blk:Int),.int .i64 fan,.int .i64 bud,.pointer (some ⟨bx,0,none⟩),wv] 162 (0,0))) (hT:TabAt w tv name (.slice ko kn kc) sv) (hL:LAt w sv vs) (hlen:vs.length=rows.length) (hrows:∀ i (_:i < vs.length) (_:i < rows.length),RowAt w vs[i] rows[i]) (hfair:∀ r∈rows,∀ v∈r,Fair v) (hsize:∀ r∈rows,16+sizeR r <= blk /\ r.length <= 1000) (b2:blk <= 4096) (few:rows.length <= 20000)
  (hgr:w.heap[gr]?=some (.cells #[.int .i64 0,.nilFunc,v1,v2,v3,v4] 167 (0,0))) :
  Calls Tryz.prog 79 #[.pointer (some ⟨q,0,none⟩),nodeVal 1 0 0 name (.slice none 0 0) 0 (.slice none 0 0) (.slice none 0 0) (.slice none 0 0),.slice (some ⟨gr,0,none⟩) 3 3] w fun e w'=>∃ b,e=.returned (.agg #[.int .i64 (kn:Int),.func (.func 162) #[] #[.pointer (some ⟨b,0,none⟩)]]) /\ w'.heap[b]?=some (.cells #[sv] 36 (0,0)) /\ Touch [] w w':=by
 have HSC:Hid (∀ W,Touch [] w W -> Calls Tryz.prog 105 #[.pointer (some ⟨q,0,none⟩),.string name] W fun e w'=>∃ b,e=.returned (.agg #[.int .i64 (kn:Int),.func (.func 162) #[] #[.pointer (some ⟨b,0,none⟩)]]) /\ w'.heap[b]?=some (.cells #[sv] 36 (0,0)) /\ Touch [] W w'):=fun W hW=>scanned_any W q tv wv bx blk fan bud name kn kc ko sv vs rows (hW.tag0 _ _ _ _ hQ) (hT.keep (hW.tag0 _)) (hL.keep (hW.tag0 _)) hlen (fun i a b=>(hrows i a b).touch hW) hfair hsize b2 few
 have r0:w.cell? ⟨gr,0,none⟩=some (.int .i64 0):=by simp [World.cell?,hgr]
 have r1:w.cell? ⟨gr,1,none⟩=some .nilFunc:=by simp [World.cell?,hgr]
 have hg:=(Array.getElem?_eq_some_iff.1 hgr).1
 unfold nodeVal
 clear hQ hT hL hlen hrows hfair hsize
 go_enter Tryz.func79,Tryz.ntmps79
 go_wp2
 have tA:Touch [] w ((w.alloc (.cells #[.int .i64 1,.int .i64 0,.int .i64 0,.string name,.slice none 0 0,.int .i64 0,.slice none 0 0,.slice none 0 0,.slice none 0 0] 79)).alloc (.cells #[.int .i64 0,.nilFunc] 167)):=((Touch.refl [] w).alloc _).alloc _
 have hB4:((w.alloc (.cells #[.int .i64 1,.int .i64 0,.int .i64 0,.string name,.slice none 0 0,.int .i64 0,.slice none 0 0,.slice none 0 0,.slice none 0 0] 79)).alloc (.cells #[.int .i64 0,.nilFunc] 167)).heap[w.heap.size]?=some (.cells #[.int .i64 1,.int .i64 0,.int .i64 0,.string name,.slice none 0 0,.int .i64 0,.slice none 0 0,.slice none 0 0,.slice none 0 0] 79 (0,0)):=(Below.heap_alloc _ _ _ (by simp)).trans (heap_alloc_new w _)
 have hB6:((w.alloc (.cells #[.int .i64 1,.int .i64 0,.int .i64 0,.string name,.slice none 0 0,.int .i64 0,.slice none 0 0,.slice none 0 0,.slice none 0 0] 79)).alloc (.cells #[.int .i64 0,.nilFunc] 167)).heap[w.heap.size+1]?=some (.cells #[.int .i64 0,.nilFunc] 167 (0,0)):=by
  have e1:=heap_alloc_new (w.alloc (.cells #[.int .i64 1,.int .i64 0,.int .i64 0,.string name,.slice none 0 0,.int .i64 0,.slice none 0 0,.slice none 0 0,.slice none 0 0] 79)) (.cells #[.int .i64 0,.nilFunc] 167)
  rw [World.size_alloc] at e1
  exact e1
 have r0':=cell_touch r0 tA
 have r1':=cell_touch r1 tA
 have hsz:w.heap.size+2 <= ((w.alloc (.cells #[.int .i64 1,.int .i64 0,.int .i64 0,.string name,.slice none 0 0,.int .i64 0,.slice none 0 0,.slice none 0 0,.slice none 0 0] 79)).alloc (.cells #[.int .i64 0,.nilFunc] 167)).heap.size:=by simp
 clear r0 r1
 generalize (w.alloc (.cells #[.int .i64 1,.int .i64 0,.int .i64 0,.string name,.slice none 0 0,.int .i64 0,.slice none 0 0,.slice none 0 0,.slice none 0 0] 79)).alloc (.cells #[.int .i64 0,.nilFunc] 167)=wa at *
 have c1:wa.cell? ⟨w.heap.size,1,none⟩=some (.int .i64 0):=by simp [World.cell?,hB4]
 have c2:wa.cell? ⟨w.heap.size,2,none⟩=some (.int .i64 0):=by simp [World.cell?,hB4]
 have l1:w.heap.size < wa.heap.size:=by omega
 have l2:gr < wa.heap.size:=by omega
 have l3:wa.heap.size≠w.heap.size:=by omega
 have l4:wa.heap.size≠gr:=by omega
 have l5:wa.heap.size+1≠w.heap.size:=by omega
 have l6:wa.heap.size+1≠gr:=by omega
 go_cut [7,8] from 9 (fun a b wx=>∃ B7 B8,a=.pointer (some ⟨B7,0,none⟩) /\ b=.pointer (some ⟨B8,0,none⟩) /\ wx.heap[B7]?=some (.cells #[.int .i64 0,.nilFunc] 167 (0,0)) /\ Touch [] wa wx)
 case first=>
  go_region_held3 (fun w'=>w'.cell? ⟨w.heap.size,1,none⟩=some (.int .i64 0) /\ w'.cell? ⟨w.heap.size,2,none⟩=some (.int .i64 0) /\ w'.cell? ⟨gr,0,none⟩=some (.int .i64 0) /\ w'.cell? ⟨gr,1,none⟩=some .nilFunc) (go_keep) (fail)
  all_goals
   go_wp2_with fail
   go_meet
   case rel=>exact ⟨_,_,rfl,rfl,by first | exact (Below.heap_alloc _ _ _ (by simp)).trans (heap_alloc_new wa _) | exact new2 _ _ _,(((Touch.refl [] wa).alloc _).alloc _).drew⟩
 case rest=>
  obtain ⟨B7,B8,rfl,rfl,hB7,tc⟩:=hcut
  have tw:=tA.trans tc
  have hB4c:=tc.tag0 79 _ _ _ hB4
  have hB6c:=tc.tag0 167 _ _ _ hB6
  clear c1 c2 r0' r1' hB4 hB6
  have c0:wc.cell? ⟨w.heap.size,0,none⟩=some (.int .i64 1):=by simp [World.cell?,hB4c]
  have c3:wc.cell? ⟨w.heap.size,3,none⟩=some (.string name):=by simp [World.cell?,hB4c]
  go_wp2_with (go_at_call 105; refine (HSC.out _ tw).mono ?_; rintro e w3 ⟨b,rfl,hb,t3⟩; have hB6d:=t3.tag0 167 _ _ _ hB6c; have g0:w3.frozen? ⟨w.heap.size+1,0,none⟩=false:=(by simp [World.frozen?,hB6d]); have g1:w3.frozen? ⟨w.heap.size+1,1,none⟩=false:=(by simp [World.frozen?,hB6d]); have HB6:Hid (w3.heap[w.heap.size+1]?=some (.cells #[.int .i64 0,.nilFunc] 167 (0,0))):=hB6d; obtain ⟨y0,y1⟩:=box2 hB6d; clear hB6d)
  have hW:((w3.setCell ⟨w.heap.size+1,0,none⟩ (.int .i64 (kn:Int))).setCell ⟨w.heap.size+1,1,none⟩ (.func (.func 162) #[] #[.pointer (some ⟨b,0,none⟩)])).heap[w.heap.size+1]?=some (.cells #[.int .i64 (kn:Int),.func (.func 162) #[] #[.pointer (some ⟨b,0,none⟩)]] 167 (0,0)):=by
   rw [heap_setCell_same _ (w.heap.size+1) 1 _ 167 _ (heap_setCell_same w3 (w.heap.size+1) 0 _ 167 _ HB6.out)]; simp
  obtain ⟨z0,z1⟩:=box2 hW
  have t5:Touch [w.heap.size+1] w3 ((w3.setCell ⟨w.heap.size+1,0,none⟩ (.int .i64 (kn:Int))).setCell ⟨w.heap.size+1,1,none⟩ (.func (.func 162) #[] #[.pointer (some ⟨b,0,none⟩)])):=((Touch.refl [w.heap.size+1] w3).setCell (p:=⟨w.heap.size+1,0,none⟩) (by simp) _).setCell (p:=⟨w.heap.size+1,1,none⟩) (by simp) _
  exact bodyPost_ret (v:=.agg #[.int .i64 (kn:Int),.func (.func 162) #[] #[.pointer (some ⟨b,0,none⟩)]]) (by simp [results,Tryz.results79,go_sem,z0,z1]) rfl ⟨b,rfl,t5.tag (notag_of HB6.out (by decide)) _ _ _ hb,(tw.trans t3).more t5 (fun i hi=>.inr (by rw [List.mem_singleton.1 hi]; omega))⟩
theorem answerDistinct_any (w:World) (gp bcc:Nat) (tv sv:Value) (ko:Option Addr) (kn kc:Nat) (bx bm blk fan bud:Nat) (gb:List Nat) (raw:List Int) (vs:List Value) (rows:List (List V)) (d:DS) (M:List PF) (P m j j2:Nat) (h:GrpAsk w gp tv sv (.slice (some ⟨bcc,0,none⟩) 1 1) (.slice none 0 0) more2 nameT ko kn kc bx bm blk fan bud 4 colsG [] gb vs rows d M) (hrow:∀ i (h:i < rows.length),TRow raw i rows[i]) (hnum:rows.length <= 1000) (hb64:64 <= blk) (hbud:48 * 21 <= bud / 2) (hbud2:bud <= 1000000000) (hl:Left d (2 * rows.length+((P * (rows.length+1)+m)+1)) (rows.length+j)) (hP:1000000000 <= P+j) (hPj:P+j2 <= j) (hPs:P <= 900000) :
  Calls Tryz.prog 59 #[tv,.slice (some ⟨gp,0,none⟩) 3 3,.agg #[.int .i64 (blk:Int),.int .i64 (fan:Int),.int .i64 (bud:Int)],.pointer (some ⟨bx,0,none⟩)] w fun e w'=>∃ lv l,e=.returned lv /\ Ans (GroupOut [] rows) bm w w' lv l:=by
 have htv:∃ o n c,tv=.slice o n c:=by
  obtain ⟨g,o,cap,cs,e,_⟩:=h.tab.st
  exact ⟨_,_,_,e⟩
 obtain ⟨tO,tn,tc,rfl⟩:=htv
 have HH:Hid (GrpAsk w gp (.slice tO tn tc) sv (.slice (some ⟨bcc,0,none⟩) 1 1) (.slice none 0 0) more2 nameT ko kn kc bx bm blk fan bud 4 colsG [] gb vs rows d M):=h
 have HL:Hid (Left d (2 * rows.length+((P * (rows.length+1)+m)+1)) (rows.length+j)):=hl
 have hgp:=(Array.getElem?_eq_some_iff.1 h.plan).1
 clear h hl
 have hmk:=make163c
 go_enter_defers Tryz.func59,Tryz.ntmps59
 go_wp2
 have tA:Touch [] w (((w.alloc (.cells #[.int .i64 (blk:Int),.int .i64 (fan:Int),.int .i64 (bud:Int)] 51)).alloc (.cells #[.slice tO tn tc,.int .i64 (blk:Int),.int .i64 (fan:Int),.int .i64 (bud:Int),.pointer (some ⟨bx,0,none⟩),.slice none 0 0] 162)).alloc (.cells #[.int .i64 0,.nilFunc,.int .i64 0,.nilFunc,.int .i64 0,.nilFunc] 167)):=(((Touch.refl [] w).alloc _).alloc _).alloc _
 have hQ:(((w.alloc (.cells #[.int .i64 (blk:Int),.int .i64 (fan:Int),.int .i64 (bud:Int)] 51)).alloc (.cells #[.slice tO tn tc,.int .i64 (blk:Int),.int .i64 (fan:Int),.int .i64 (bud:Int),.pointer (some ⟨bx,0,none⟩),.slice none 0 0] 162)).alloc (.cells #[.int .i64 0,.nilFunc,.int .i64 0,.nilFunc,.int .i64 0,.nilFunc] 167)).heap[w.heap.size+1]?=some (.cells #[.slice tO tn tc,.int .i64 (blk:Int),.int .i64 (fan:Int),.int .i64 (bud:Int),.pointer (some ⟨bx,0,none⟩),.slice none 0 0] 162 (0,0)):=(Below.heap_alloc _ _ _ (by simp only [World.size_alloc]; omega)).trans (new2 _ _ _)
 have hG:(((w.alloc (.cells #[.int .i64 (blk:Int),.int .i64 (fan:Int),.int .i64 (bud:Int)] 51)).alloc (.cells #[.slice tO tn tc,.int .i64 (blk:Int),.int .i64 (fan:Int),.int .i64 (bud:Int),.pointer (some ⟨bx,0,none⟩),.slice none 0 0] 162)).alloc (.cells #[.int .i64 0,.nilFunc,.int .i64 0,.nilFunc,.int .i64 0,.nilFunc] 167)).heap[w.heap.size+1+1]?=some (.cells #[.int .i64 0,.nilFunc,.int .i64 0,.nilFunc,.int .i64 0,.nilFunc] 167 (0,0)):=by
  have e1:=heap_alloc_new ((w.alloc (.cells #[.int .i64 (blk:Int),.int .i64 (fan:Int),.int .i64 (bud:Int)] 51)).alloc (.cells #[.slice tO tn tc,.int .i64 (blk:Int),.int .i64 (fan:Int),.int .i64 (bud:Int),.pointer (some ⟨bx,0,none⟩),.slice none 0 0] 162)) (.cells #[.int .i64 0,.nilFunc,.int .i64 0,.nilFunc,.int .i64 0,.nilFunc] 167)
  rw [World.size_alloc,World.size_alloc] at e1
  exact e1
 have hsz:w.heap.size+3 <= (((w.alloc (.cells #[.int .i64 (blk:Int),.int .i64 (fan:Int),.int .i64 (bud:Int)] 51)).alloc (.cells #[.slice tO tn tc,.int .i64 (blk:Int),.int .i64 (fan:Int),.int .i64 (bud:Int),.pointer (some ⟨bx,0,none⟩),.slice none 0 0] 162)).alloc (.cells #[.int .i64 0,.nilFunc,.int .i64 0,.nilFunc,.int .i64 0,.nilFunc] 167)).heap.size:=by simp
 generalize ((w.alloc (.cells #[.int .i64 (blk:Int),.int .i64 (fan:Int),.int .i64 (bud:Int)] 51)).alloc (.cells #[.slice tO tn tc,.int .i64 (blk:Int),.int .i64 (fan:Int),.int .i64 (bud:Int),.pointer (some ⟨bx,0,none⟩),.slice none 0 0] 162)).alloc (.cells #[.int .i64 0,.nilFunc,.int .i64 0,.nilFunc,.int .i64 0,.nilFunc] 167)=wa at *
 have hP0:=HH.out.plan.keep (tA.tag0 79)
 have p0:wa.cell? ⟨gp,0,none⟩=some (.int .i64 1):=hP0.cell 0 _ rfl
 have p1:wa.cell? ⟨gp,1,none⟩=some (.int .i64 0):=hP0.cell 1 _ rfl
 have p2:wa.cell? ⟨gp,2,none⟩=some (.int .i64 0):=hP0.cell 2 _ rfl
 have p3:wa.cell? ⟨gp,3,none⟩=some (.string nameT):=hP0.cell 3 _ rfl
 have p4:wa.cell? ⟨gp,4,none⟩=some (.slice none 0 0):=hP0.cell 4 _ rfl
 have p5:wa.cell? ⟨gp,5,none⟩=some (.int .i64 0):=hP0.cell 5 _ rfl
 have p6:wa.cell? ⟨gp,6,none⟩=some (.slice none 0 0):=hP0.cell 6 _ rfl
 have p7:wa.cell? ⟨gp,7,none⟩=some (.slice none 0 0):=hP0.cell 7 _ rfl
 have p8:wa.cell? ⟨gp,8,none⟩=some (.slice none 0 0):=hP0.cell 8 _ rfl
 have hgw:gp < wa.heap.size:=by omega
 have HRS:Hid (∀ W,Touch [] wa W -> Calls Tryz.prog 79 #[.pointer (some ⟨w.heap.size+1,0,none⟩),.agg #[.int .i64 1,.int .i64 0,.int .i64 0,.string nameT,.slice none 0 0,.int .i64 0,.slice none 0 0,.slice none 0 0,.slice none 0 0],.slice (some ⟨w.heap.size+1+1,0,none⟩) 3 3] W fun e w'=>∃ b,e=.returned (.agg #[.int .i64 (kn:Int),.func (.func 162) #[] #[.pointer (some ⟨b,0,none⟩)]]) /\ w'.heap[b]?=some (.cells #[sv] 36 (0,0)) /\ Touch [] W w'):=fun W hW=>by
  have hA:=HH.out.quiet (tA.trans hW)
  exact resultScan3_any W (w.heap.size+1) (w.heap.size+1+1) (.slice tO tn tc) (.slice none 0 0) bx blk fan bud nameT kn kc ko sv vs rows _ _ _ _ (hW.tag0 _ _ _ _ hQ) hA.tab hA.list hA.len hA.rowsAt (fun r hr v hv=>by
   obtain ⟨i,hi,rfl⟩:=List.getElem_of_mem hr
   exact (hA.oks.ok i hi).fair v hv) (fun r hr=>by
   obtain ⟨i,hi,rfl⟩:=List.getElem_of_mem hr
   have e1:=(hA.oks.ok i hi).size
   have e2:=(hA.oks.ok i hi).len
   have e3:=hA.c2
   simp only at e1 e2
   exact ⟨e1,by omega⟩) hA.b2 hA.few (hW.tag0 _ _ _ _ hG)
 refine wp_loop_rounds 4 ?_
 rw [rounds_succ]
 go_wp2_with (go_at_call 79; refine (HRS.out _ ((Touch.refl [] _).alloc _)).mono ?_; rintro e w2 ⟨b,rfl,hb,t2⟩; have hG2:=(((Touch.refl [] _).alloc _).trans t2).tag0 167 _ _ _ hG; have y0:w2.cell? ⟨w.heap.size+1+1,0,none⟩=some (.int .i64 0):=(by simp [World.cell?,hG2]); have y1:w2.cell? ⟨w.heap.size+1+1,1,none⟩=some .nilFunc:=(by simp [World.cell?,hG2]); have g0:w2.frozen? ⟨w.heap.size+1+1,0,none⟩=false:=(by simp [World.frozen?,hG2]); have g1:w2.frozen? ⟨w.heap.size+1+1,1,none⟩=false:=(by simp [World.frozen?,hG2]))
 have t23:Touch [w.heap.size+1+1] w2 ((w2.setCell ⟨w.heap.size+1+1,0,none⟩ (.int .i64 (kn:Int))).setCell ⟨w.heap.size+1+1,1,none⟩ (.func (.func 162) #[] #[.pointer (some ⟨b,0,none⟩)])):=((Touch.refl [w.heap.size+1+1] w2).setCell (p:=⟨w.heap.size+1+1,0,none⟩) (by simp) _).setCell (p:=⟨w.heap.size+1+1,1,none⟩) (by simp) _
 have hG3:((w2.setCell ⟨w.heap.size+1+1,0,none⟩ (.int .i64 (kn:Int))).setCell ⟨w.heap.size+1+1,1,none⟩ (.func (.func 162) #[] #[.pointer (some ⟨b,0,none⟩)])).heap[w.heap.size+1+1]?=some (.cells #[.int .i64 (kn:Int),.func (.func 162) #[] #[.pointer (some ⟨b,0,none⟩)],.int .i64 0,.nilFunc,.int .i64 0,.nilFunc] 167 (0,0)):=by
  rw [heap_setCell_same _ (w.heap.size+1+1) 1 _ 167 _ (heap_setCell_same w2 (w.heap.size+1+1) 0 _ 167 _ hG2)]; simp
 have ta2:Touch [] wa w2:=((Touch.refl [] _).alloc _).trans t2
 have k23:∀ t,(167:TypeId)≠t -> KeepTag t w2 ((w2.setCell ⟨w.heap.size+1+1,0,none⟩ (.int .i64 (kn:Int))).setCell ⟨w.heap.size+1+1,1,none⟩ (.func (.func 162) #[] #[.pointer (some ⟨b,0,none⟩)])):=fun t ht=>t23.tag (notag_of hG2 ht)
 have tw3:Touch [] w ((w2.setCell ⟨w.heap.size+1+1,0,none⟩ (.int .i64 (kn:Int))).setCell ⟨w.heap.size+1+1,1,none⟩ (.func (.func 162) #[] #[.pointer (some ⟨b,0,none⟩)])):=(tA.trans ta2).more t23 (fun i hi=>.inr (by rw [List.mem_singleton.1 hi]; omega))
 have hQ3:=k23 162 (by decide) _ _ _ (ta2.tag0 162 _ _ _ hQ)
 have hb3:=k23 36 (by decide) _ _ _ hb
 have hsz3:=tw3.size
 clear y0 y1 g0 g1 p0 p1 p2 p3 p4 p5 p6 p7 p8 hG2 t23 k23 t2 hb HRS hQ hG hP0 ta2
 generalize (w2.setCell ⟨w.heap.size+1+1,0,none⟩ (.int .i64 (kn:Int))).setCell ⟨w.heap.size+1+1,1,none⟩ (.func (.func 162) #[] #[.pointer (some ⟨b,0,none⟩)])=w3 at *
 have hP3:=HH.out.plan.keep (tw3.tag0 79)
 have hwt:=waits_three w3 gp _ _ _ 0 (.inl rfl) hP3
 refine hwt.mono ?_
 rintro e w3' ⟨rfl,hw3⟩
 clear hwt
 have hQ3:=hw3.tag0 _ _ _ _ hQ3
 have hb3:=hw3.tag0 _ _ _ _ hb3
 have hG3:=hw3.tag0 _ _ _ _ hG3
 have tw3:=tw3.trans hw3
 have hP3:=hP3.keep (hw3.tag0 _)
 have hsz3:=tw3.size
 clear hw3
 generalize w3'=w3 at *
 go_wp2
 have p9:w3.cell? ⟨gp,9,none⟩=some (.int .i64 7):=hP3.cell 9 _ rfl
 have p10:w3.cell? ⟨gp,10,none⟩=some (.int .i64 0):=hP3.cell 10 _ rfl
 have p11:w3.cell? ⟨gp,11,none⟩=some (.int .i64 0):=hP3.cell 11 _ rfl
 have p12:w3.cell? ⟨gp,12,none⟩=some (.string ⟨#[]⟩):=hP3.cell 12 _ rfl
 have p13:w3.cell? ⟨gp,13,none⟩=some (.slice none 0 0):=hP3.cell 13 _ rfl
 have p14:w3.cell? ⟨gp,14,none⟩=some (.int .i64 0):=hP3.cell 14 _ rfl
 have p15:w3.cell? ⟨gp,15,none⟩=some (.slice (some ⟨bcc,0,none⟩) 1 1):=hP3.cell 15 _ rfl
 have p16:w3.cell? ⟨gp,16,none⟩=some (.slice none 0 0):=hP3.cell 16 _ rfl
 have p17:w3.cell? ⟨gp,17,none⟩=some (.slice none 0 0):=hP3.cell 17 _ rfl
 have HRT:Hid (∀ W,Touch [] w3 W -> Calls Tryz.prog 79 #[.pointer (some ⟨w.heap.size+1,0,none⟩),.agg #[.int .i64 7,.int .i64 0,.int .i64 0,.string ⟨#[]⟩,.slice none 0 0,.int .i64 0,.slice (some ⟨bcc,0,none⟩) 1 1,.slice none 0 0,.slice none 0 0],.slice (some ⟨w.heap.size+1+1,0,none⟩) 3 3] W fun e w'=>∃ cl cq bn bl bq bk bc bi kv,e=.returned (.agg #[.int .i64 1,.func (.func 140) #[] #[.pointer (some ⟨cl,0,none⟩),.pointer (some ⟨cq,0,none⟩)]]) /\ w'.heap[cq]?=some (.cells #[.pointer (some ⟨w.heap.size+1,0,none⟩)] 159 (0,0)) /\ w'.heap[cl]?=some (.cells #[.func (.func 143) #[] #[.pointer (some ⟨bn,0,none⟩),.pointer (some ⟨bl,0,none⟩)]] 165 (0,0)) /\ GrpMade w' bn bl bq bk bc bi (w.heap.size+1) #[.int .i64 7,.int .i64 0,.int .i64 0,.string ⟨#[]⟩,.slice none 0 0,.int .i64 0,.slice (some ⟨bcc,0,none⟩) 1 1,.slice none 0 0,.slice none 0 0] 162 #[.pointer (some ⟨b,0,none⟩)] kv colsG /\ Touch [] W w'):=fun W hW=>resultGroup_any W (w.heap.size+1) (w.heap.size+1+1) 3 kn 162 #[.pointer (some ⟨b,0,none⟩)] [.int .i64 0,.nilFunc,.int .i64 0,.nilFunc] (some ⟨bcc,0,none⟩) none 1 0 0 colsG (by omega) (by omega) (hW.tag0 _ _ _ _ hG3) (RawAt.quiet HH.out.colsAt (tw3.trans hW)) HH.out.ne HH.out.cl (by omega)
 have hg3:gp < w3.heap.size:=by omega
 rw [rounds_succ]
 go_wp2_with (go_at_call 79; refine (HRT.out _ ((Touch.refl [] _).alloc _)).mono ?_; rintro e w4 ⟨cl,cq,bn,bl,bq,bk,bc,bi,kv,rfl,z1,z2,z3,t4⟩; have hG4:=(((Touch.refl [] _).alloc _).trans t4).tag0 167 _ _ _ hG3; have y0:w4.cell? ⟨w.heap.size+1+1,2,none⟩=some (.int .i64 0):=(by simp [World.cell?,hG4]); have y1:w4.cell? ⟨w.heap.size+1+1,3,none⟩=some .nilFunc:=(by simp [World.cell?,hG4]); have g0:w4.frozen? ⟨w.heap.size+1+1,2,none⟩=false:=(by simp [World.frozen?,hG4]); have g1:w4.frozen? ⟨w.heap.size+1+1,3,none⟩=false:=(by simp [World.frozen?,hG4]))
 have t45:Touch [w.heap.size+1+1] w4 ((w4.setCell ⟨w.heap.size+1+1,2,none⟩ (.int .i64 1)).setCell ⟨w.heap.size+1+1,3,none⟩ (.func (.func 140) #[] #[.pointer (some ⟨cl,0,none⟩),.pointer (some ⟨cq,0,none⟩)])):=((Touch.refl [w.heap.size+1+1] w4).setCell (p:=⟨w.heap.size+1+1,2,none⟩) (by simp) _).setCell (p:=⟨w.heap.size+1+1,3,none⟩) (by simp) _
 have hG5:((w4.setCell ⟨w.heap.size+1+1,2,none⟩ (.int .i64 1)).setCell ⟨w.heap.size+1+1,3,none⟩ (.func (.func 140) #[] #[.pointer (some ⟨cl,0,none⟩),.pointer (some ⟨cq,0,none⟩)])).heap[w.heap.size+1+1]?=some (.cells #[.int .i64 (kn:Int),.func (.func 162) #[] #[.pointer (some ⟨b,0,none⟩)],.int .i64 1,.func (.func 140) #[] #[.pointer (some ⟨cl,0,none⟩),.pointer (some ⟨cq,0,none⟩)],.int .i64 0,.nilFunc] 167 (0,0)):=by
  rw [heap_setCell_same _ (w.heap.size+1+1) 3 _ 167 _ (heap_setCell_same w4 (w.heap.size+1+1) 2 _ 167 _ hG4)]; simp
 have ta4:Touch [] w3 w4:=((Touch.refl [] _).alloc _).trans t4
 have k45:∀ t,(167:TypeId)≠t -> KeepTag t w4 ((w4.setCell ⟨w.heap.size+1+1,2,none⟩ (.int .i64 1)).setCell ⟨w.heap.size+1+1,3,none⟩ (.func (.func 140) #[] #[.pointer (some ⟨cl,0,none⟩),.pointer (some ⟨cq,0,none⟩)])):=fun t ht=>t45.tag (notag_of hG4 ht)
 have tw5:Touch [] w ((w4.setCell ⟨w.heap.size+1+1,2,none⟩ (.int .i64 1)).setCell ⟨w.heap.size+1+1,3,none⟩ (.func (.func 140) #[] #[.pointer (some ⟨cl,0,none⟩),.pointer (some ⟨cq,0,none⟩)])):=(tw3.trans ta4).more t45 (fun i hi=>.inr (by rw [List.mem_singleton.1 hi]; omega))
 have hQ5:=k45 162 (by decide) _ _ _ (ta4.tag0 162 _ _ _ hQ3)
 have hb5:=k45 36 (by decide) _ _ _ (ta4.tag0 36 _ _ _ hb3)
 have u1:=k45 159 (by decide) _ _ _ z1
 have u2:=k45 165 (by decide) _ _ _ z2
 have u3:GrpMade ((w4.setCell ⟨w.heap.size+1+1,2,none⟩ (.int .i64 1)).setCell ⟨w.heap.size+1+1,3,none⟩ (.func (.func 140) #[] #[.pointer (some ⟨cl,0,none⟩),.pointer (some ⟨cq,0,none⟩)])) bn bl bq bk bc bi (w.heap.size+1) #[.int .i64 7,.int .i64 0,.int .i64 0,.string ⟨#[]⟩,.slice none 0 0,.int .i64 0,.slice (some ⟨bcc,0,none⟩) 1 1,.slice none 0 0,.slice none 0 0] 162 #[.pointer (some ⟨b,0,none⟩)] kv colsG:=⟨k45 79 (by decide) _ _ _ z3.hn,k45 165 (by decide) _ _ _ z3.hl,k45 159 (by decide) _ _ _ z3.hq,k45 74 (by decide) _ _ _ z3.hk,Sl3.keep z3.keys (k45 73 (by decide)),k45 3 (by decide) _ _ _ z3.hc,k45 165 (by decide) _ _ _ z3.hi⟩
 clear y0 y1 g0 g1 p9 p10 p11 p12 p13 p14 p15 p16 p17 hG4 t45 k45 t4 HRT hQ3 hG3 ta4 z1 z2 z3 hb3 hP3
 generalize (w4.setCell ⟨w.heap.size+1+1,2,none⟩ (.int .i64 1)).setCell ⟨w.heap.size+1+1,3,none⟩ (.func (.func 140) #[] #[.pointer (some ⟨cl,0,none⟩),.pointer (some ⟨cq,0,none⟩)])=w5 at *
 have hP5:=HH.out.plan.keep (tw5.tag0 79)
 have hwt:=waits_three w5 gp _ _ _ 1 (.inr (.inl rfl)) hP5
 refine hwt.mono ?_
 rintro e w5' ⟨rfl,hw5⟩
 clear hwt
 have hQ5:=hw5.tag0 _ _ _ _ hQ5
 have hb5:=hw5.tag0 _ _ _ _ hb5
 have hG5:=hw5.tag0 _ _ _ _ hG5
 have u1:=hw5.tag0 _ _ _ _ u1
 have u2:=hw5.tag0 _ _ _ _ u2
 have u3:=u3.quiet hw5
 have tw5:=tw5.trans hw5
 have hP5:=hP5.keep (hw5.tag0 _)
 have hsz5:=tw5.size
 clear hw5
 generalize w5'=w5 at *
 go_wp2
 have p18:w5.cell? ⟨gp,18,none⟩=some (.int .i64 6):=hP5.cell 18 _ rfl
 have p19:w5.cell? ⟨gp,19,none⟩=some (.int .i64 1):=hP5.cell 19 _ rfl
 have p20:w5.cell? ⟨gp,20,none⟩=some (.int .i64 0):=hP5.cell 20 _ rfl
 have p21:w5.cell? ⟨gp,21,none⟩=some (.string ⟨#[]⟩):=hP5.cell 21 _ rfl
 have p22:w5.cell? ⟨gp,22,none⟩=some (.slice none 0 0):=hP5.cell 22 _ rfl
 have p23:w5.cell? ⟨gp,23,none⟩=some (.int .i64 0):=hP5.cell 23 _ rfl
 have p24:w5.cell? ⟨gp,24,none⟩=some (.slice none 0 0):=hP5.cell 24 _ rfl
 have p25:w5.cell? ⟨gp,25,none⟩=some (.slice none 0 0):=hP5.cell 25 _ rfl
 have p26:w5.cell? ⟨gp,26,none⟩=some (.slice none 0 0):=hP5.cell 26 _ rfl
 have HRU:Hid (∀ W,Touch [] w5 W -> Calls Tryz.prog 79 #[.pointer (some ⟨w.heap.size+1,0,none⟩),.agg #[.int .i64 6,.int .i64 1,.int .i64 0,.string ⟨#[]⟩,.slice none 0 0,.int .i64 0,.slice none 0 0,.slice none 0 0,.slice none 0 0],.slice (some ⟨w.heap.size+1+1,0,none⟩) 3 3] W fun e w'=>∃ ba bb bd kg,e=.returned (.agg #[.int .i64 1,.func (.func 138) #[] #[.pointer (some ⟨ba,0,none⟩),.pointer (some ⟨bb,0,none⟩),.pointer (some ⟨bd,0,none⟩)]]) /\ DisMade w' ba bb bd (w.heap.size+1) 140 #[.pointer (some ⟨cl,0,none⟩),.pointer (some ⟨cq,0,none⟩)] kg /\ Touch [] W w'):=fun W hW=>resultDistinct_any W (w.heap.size+1) (w.heap.size+1+1) kn 162 140 _ _ _ _ (hW.tag0 _ _ _ _ hG5)
 have hg5:gp < w5.heap.size:=by omega
 rw [rounds_succ]
 go_wp2_with (go_at_call 79; refine (HRU.out _ ((Touch.refl [] _).alloc _)).mono ?_; rintro e w6 ⟨ba,bb,bd,kg,rfl,z1,t6⟩; have hG6:=(((Touch.refl [] _).alloc _).trans t6).tag0 167 _ _ _ hG5; have y0:w6.cell? ⟨w.heap.size+1+1,4,none⟩=some (.int .i64 0):=(by simp [World.cell?,hG6]); have y1:w6.cell? ⟨w.heap.size+1+1,5,none⟩=some .nilFunc:=(by simp [World.cell?,hG6]); have g0:w6.frozen? ⟨w.heap.size+1+1,4,none⟩=false:=(by simp [World.frozen?,hG6]); have g1:w6.frozen? ⟨w.heap.size+1+1,5,none⟩=false:=(by simp [World.frozen?,hG6]))
 have t67:Touch [w.heap.size+1+1] w6 ((w6.setCell ⟨w.heap.size+1+1,4,none⟩ (.int .i64 1)).setCell ⟨w.heap.size+1+1,5,none⟩ (.func (.func 138) #[] #[.pointer (some ⟨ba,0,none⟩),.pointer (some ⟨bb,0,none⟩),.pointer (some ⟨bd,0,none⟩)])):=((Touch.refl [w.heap.size+1+1] w6).setCell (p:=⟨w.heap.size+1+1,4,none⟩) (by simp) _).setCell (p:=⟨w.heap.size+1+1,5,none⟩) (by simp) _
 have hG7:((w6.setCell ⟨w.heap.size+1+1,4,none⟩ (.int .i64 1)).setCell ⟨w.heap.size+1+1,5,none⟩ (.func (.func 138) #[] #[.pointer (some ⟨ba,0,none⟩),.pointer (some ⟨bb,0,none⟩),.pointer (some ⟨bd,0,none⟩)])).heap[w.heap.size+1+1]?=some (.cells #[.int .i64 (kn:Int),.func (.func 162) #[] #[.pointer (some ⟨b,0,none⟩)],.int .i64 1,.func (.func 140) #[] #[.pointer (some ⟨cl,0,none⟩),.pointer (some ⟨cq,0,none⟩)],.int .i64 1,.func (.func 138) #[] #[.pointer (some ⟨ba,0,none⟩),.pointer (some ⟨bb,0,none⟩),.pointer (some ⟨bd,0,none⟩)]] 167 (0,0)):=by
  rw [heap_setCell_same _ (w.heap.size+1+1) 5 _ 167 _ (heap_setCell_same w6 (w.heap.size+1+1) 4 _ 167 _ hG6)]; simp
 have ta6:Touch [] w5 w6:=((Touch.refl [] _).alloc _).trans t6
 have k67:∀ t,(167:TypeId)≠t -> KeepTag t w6 ((w6.setCell ⟨w.heap.size+1+1,4,none⟩ (.int .i64 1)).setCell ⟨w.heap.size+1+1,5,none⟩ (.func (.func 138) #[] #[.pointer (some ⟨ba,0,none⟩),.pointer (some ⟨bb,0,none⟩),.pointer (some ⟨bd,0,none⟩)])):=fun t ht=>t67.tag (notag_of hG6 ht)
 have tw7:Touch [] w ((w6.setCell ⟨w.heap.size+1+1,4,none⟩ (.int .i64 1)).setCell ⟨w.heap.size+1+1,5,none⟩ (.func (.func 138) #[] #[.pointer (some ⟨ba,0,none⟩),.pointer (some ⟨bb,0,none⟩),.pointer (some ⟨bd,0,none⟩)])):=(tw5.trans ta6).more t67 (fun i hi=>.inr (by rw [List.mem_singleton.1 hi]; omega))
 have hQ7:=k67 162 (by decide) _ _ _ (ta6.tag0 162 _ _ _ hQ5)
 have hb7:=k67 36 (by decide) _ _ _ (ta6.tag0 36 _ _ _ hb5)
 have v1:=k67 159 (by decide) _ _ _ (ta6.tag0 159 _ _ _ u1)
 have v2:=k67 165 (by decide) _ _ _ (ta6.tag0 165 _ _ _ u2)
 have u6:=u3.quiet ta6
 have v3:GrpMade ((w6.setCell ⟨w.heap.size+1+1,4,none⟩ (.int .i64 1)).setCell ⟨w.heap.size+1+1,5,none⟩ (.func (.func 138) #[] #[.pointer (some ⟨ba,0,none⟩),.pointer (some ⟨bb,0,none⟩),.pointer (some ⟨bd,0,none⟩)])) bn bl bq bk bc bi (w.heap.size+1) #[.int .i64 7,.int .i64 0,.int .i64 0,.string ⟨#[]⟩,.slice none 0 0,.int .i64 0,.slice (some ⟨bcc,0,none⟩) 1 1,.slice none 0 0,.slice none 0 0] 162 #[.pointer (some ⟨b,0,none⟩)] kv colsG:=⟨k67 79 (by decide) _ _ _ u6.hn,k67 165 (by decide) _ _ _ u6.hl,k67 159 (by decide) _ _ _ u6.hq,k67 74 (by decide) _ _ _ u6.hk,Sl3.keep u6.keys (k67 73 (by decide)),k67 3 (by decide) _ _ _ u6.hc,k67 165 (by decide) _ _ _ u6.hi⟩
 have hbb:bb≠w.heap.size+1+1:=fun e=>by
  have:=z1.hb
  rw [e,hG6] at this
  simp at this
 have v4:DisMade ((w6.setCell ⟨w.heap.size+1+1,4,none⟩ (.int .i64 1)).setCell ⟨w.heap.size+1+1,5,none⟩ (.func (.func 138) #[] #[.pointer (some ⟨ba,0,none⟩),.pointer (some ⟨bb,0,none⟩),.pointer (some ⟨bd,0,none⟩)])) ba bb bd (w.heap.size+1) 140 #[.pointer (some ⟨cl,0,none⟩),.pointer (some ⟨cq,0,none⟩)] kg:=⟨k67 159 (by decide) _ _ _ z1.ha,t67.u.keep z1.hb (by decide) (by simpa using hbb),k67 74 (by decide) _ _ _ z1.hc,k67 73 (by decide) _ _ _ z1.hk⟩
 clear y0 y1 g0 g1 p18 p19 p20 p21 p22 p23 p24 p25 p26 hG6 t67 k67 t6 HRU hQ5 hG5 ta6 z1 u1 u2 u3 u6 hb5 hP5 hbb
 generalize (w6.setCell ⟨w.heap.size+1+1,4,none⟩ (.int .i64 1)).setCell ⟨w.heap.size+1+1,5,none⟩ (.func (.func 138) #[] #[.pointer (some ⟨ba,0,none⟩),.pointer (some ⟨bb,0,none⟩),.pointer (some ⟨bd,0,none⟩)])=w7 at *
 have hP7:=HH.out.plan.keep (tw7.tag0 79)
 have hwt:=waits_three w7 gp _ _ _ 2 (.inr (.inr rfl)) hP7
 refine hwt.mono ?_
 rintro e w7' ⟨rfl,hw7⟩
 clear hwt
 have hQ7:=hw7.tag0 _ _ _ _ hQ7
 have hb7:=hw7.tag0 _ _ _ _ hb7
 have hG7:=hw7.tag0 _ _ _ _ hG7
 have v1:=hw7.tag0 _ _ _ _ v1
 have v2:=hw7.tag0 _ _ _ _ v2
 have v3:=v3.quiet hw7
 have v4:=v4.quiet hw7
 have tw7:=tw7.trans hw7
 have hsz7:=tw7.size
 clear hw7 hP7
 generalize w7'=w7 at *
 go_wp2
 rw [rounds_succ]
 have v5:w7.cell? ⟨w.heap.size+1+1,5,none⟩=some (.func (.func 138) #[] #[.pointer (some ⟨ba,0,none⟩),.pointer (some ⟨bb,0,none⟩),.pointer (some ⟨bd,0,none⟩)]):=by simp [World.cell?,hG7]
 have hA7:=HH.out.quiet tw7
 obtain ⟨hctx,hchk⟩:=hA7.made (cl:=cl) (cq:=cq) v3 v1 v2 hQ7 hb7
 have hps:PsCtx w7 cl cq (w.heap.size+1) bn bl (.slice tO tn tc) (.slice none 0 0) (.slice (some ⟨bcc,0,none⟩) 1 1) (.slice none 0 0) bx bm blk fan bud 132 #[.pointer (some ⟨bq,0,none⟩),.pointer (some ⟨bk,0,none⟩),.pointer (some ⟨bc,0,none⟩),.pointer (some ⟨bi,0,none⟩)] colsG [] ksG rows (bn::gb) (diskF bx bm M) 4 m j2:=⟨hchk,enters_of Tryz.func132 (by kernel_rfl) rfl,fun W hW=>sorted_seq W bq bk bc bi b (w.heap.size+1) (.slice tO tn tc) (.slice none 0 0) kv sv bx bm blk fan bud 20000 4 ksG vs rows d M P m j j2 (hctx.quiet hW) HL.out hP hPj hPs,fun k hk=>hA7.pd.lt k hk,hA7.hi bx (by simp [diskF]),hA7.pd.lt bm (by simp),hA7.few,hbud,hbud2,fun P C out rest a1 a2 a3 a4=>parts_few hrow hnum blk hb64 P C out rest a1 a2 a3 a4⟩
 have hcp:=copiedDistinct_any w7 cl cq (w.heap.size+1) bn bl (.slice tO tn tc) (.slice none 0 0) _ _ bx bm blk fan bud 132 _ rows (bn::gb) (diskF bx bm M) 4 m j2 ba bb bd kg hps v4 (by omega)
 clear hctx hchk hps v1 v2 v3 v4 hb7
 go_wp2_with (go_at_call 82; refine hcp.mono ?_; rintro e w8 ⟨lv,l,rfl,x1⟩)
 have hQ8:=x1.kept.2 162 (by decide) (by decide) _ _ _ hQ7
 refine leaves_cons (f:=78) (args:=#[.pointer (some ⟨w.heap.size+1,0,none⟩)]) (by simp) (by simp [go_sem]) ?_
 refine (giveBack_none w8 (w.heap.size+1) _ _ _ _ _ .returning hQ8).mono ?_
 rintro e u' w9 ⟨rfl,rfl,hw9⟩
 rw [hw9]
 exact ⟨_,results_tmp rfl _ _ _,lv,l,rfl,x1.good,x1.list,tw7.kept.trans x1.kept⟩
end Go.Proofs.YtjoinhljdbljaaaGreat
namespace Go.Proofs.YtjoinhljdbljaaaGreat
open Go.RowKit
theorem askTwo_any (w:World) (gp bk bc:Nat) (sv:Value) (blk fan bud:Nat) (raw:List Int) (vs:List Value) (rows:List (List V)) (h:GIn w gp bk bc sv (.slice none 0 0) more2 [] [bc] blk fan bud raw vs rows) (hbud:48 * 21 <= bud / 2) :
  Calls Tryz.prog 32 #[.agg #[.string nameT,.slice (some ⟨bk,0,none⟩) 4 4,sv],.slice (some ⟨gp,0,none⟩) 3 3,.agg #[.int .i64 (blk:Int),.int .i64 (fan:Int),.int .i64 (bud:Int)]] w fun e w'=>∃ lv l,e=.returned (.tuple #[lv,.int .i64 0]) /\ Ans (GroupOut [] rows) w.heap.size w w' lv l:=by
 refine ask_gen (GroupOut [] rows) w gp 3 bk sv blk fan bud vs rows h.list h.len h.num (fun W g bx bm t hg hp hlow=>?_)
 have hi:=h.quiet t
 refine query_gen (GroupOut [] rows) W gp 3 _ 1 1 bx bm blk fan bud _ [] hp h.b1 h.b2 h.f1 h.f2 h.u1 (by have:=h.b2; simp [newS]; omega) (fun W' t'=>?_) (fun W' t'=>?_)
 ·have hi':=hi.quiet t'
  exact valid_call ⟨⟨g,0,1,_,rfl,t'.tag0 _ _ _ _ hg,by unfold maxLen; omega,by omega,rfl,rfl,rfl⟩⟩ hi'.kinds hi'.list hi'.len hi'.rowsAt (plan2_old hi'.plan hi'.cols) (valid_two h.trow) (by simp [plan2,planG]) (by have:=h.num; omega) (fun i hi=>by
   simp only [plan2,planG,List.length_append,List.length_cons,List.length_nil] at hi
   match i,hi with
   | 0,_=>simp [plan2,planG]
   | 1,_=>simp [plan2,planG]
   | 2,_=>simp [plan2,planG])
 ·have hn:=h.num
  have hu2:=h.u2
  have hA:=(hi.ask hg hp hlow).quiet t'
  exact answerDistinct_any W' gp bc _ sv (some ⟨bk,0,none⟩) 4 4 bx bm blk fan bud [bc] raw vs rows _ [] rows.length 0 (1000000000 - rows.length) 0 hA h.trow hn h.b1 hbud (by omega) (room_left hn) (by omega) (by omega) (by omega)
theorem out_unique {rows:List (List V)} {a b:List Rec} (ha:a.Perm (recsOf rows)) (hb:b.Perm (recsOf rows)) (sa:Srt ksG a) (sb:Srt ksG b):a=b:=by
 refine List.Perm.eq_of_pairwise (le:=fun a b=>aheadB ksG b a=false) ?_ sa sb (ha.trans hb.symm)
 intro x y hx hy hxy hyx
 have h2:=(cmpR_cmp ksG).anti x.row y.row
 rw [aheadB_code] at hxy hyx
 obtain ⟨i,hi,rfl⟩:=recsOf_mem (ha.mem_iff.1 hx)
 obtain ⟨j,hj,rfl⟩:=recsOf_mem (hb.mem_iff.1 hy)
 simp only at h2 hxy hyx
 have hz:cmpR ksG rows[i] rows[j]=0:=by
  split at hxy
  ·split at hyx
   ·simp at hxy hyx; omega
   ·omega
  ·omega
 rw [if_neg (by omega)] at hxy hyx
 simp at hxy hyx
 have:i=j:=by omega
 subst this
 rfl
theorem gperm_sum {a b:List Nat} (h:a.Perm b):a.sum=b.sum:=by
 induction h with
 | nil=>rfl
 | cons x _ ih=>simp [ih]
 | swap x y l=>simp; omega
 | trans _ _ h1 h2=>exact h1.trans h2
theorem range_sum:∀ n:Nat,2 * (List.range n).sum=n * (n - 1)
 | 0=>rfl
 | n+1=>by
  have ih:=range_sum n
  rw [List.range_succ,List.sum_append,List.sum_singleton,Nat.mul_add,ih]
  cases n with
  | zero=>rfl
  | succ m=>
   simp only [Nat.add_sub_cancel]
   rw [Nat.mul_comm (m+1) m,<- Nat.add_mul]
theorem sum_flat (f:Rec -> Nat):∀ P:List (List Rec),(P.map fun C=>(C.map f).sum).sum=(P.flatten.map f).sum
 | []=>rfl
 | C::P=>by
  simp only [List.map_cons,List.sum_cons,List.flatten_cons,List.map_append,List.sum_append,sum_flat f P]
theorem sum_len:∀ P:List (List Rec),(P.map List.length).sum=P.flatten.length
 | []=>rfl
 | C::P=>by simp only [List.map_cons,List.sum_cons,List.flatten_cons,List.length_append,sum_len P]
def colOne (r:Rec):Nat:=numOf r.row (4,1)
theorem partRow_two (x:Rec) (c:List Rec):partRow colsG sumsG (x::c)=[x.row.getD 0 V0,⟨1,((x::c).length:Int),⟨#[]⟩⟩,⟨1,(((x::c).map colOne).sum:Int),⟨#[]⟩⟩]:=by
 show [x.row.getD 0 V0]++[tallyV 1 _,tallyV 4 _]=_
 simp [tallyV]
 rfl
theorem group_pair {raw:List Int} {rows l1 l2:List (List V)} (h:∀ i (h:i < rows.length),TRow raw i rows[i]) (h1:GroupOut sumsG rows l1) (h2:GroupOut [] rows l2) :
  l1.length=l2.length /\ l1.length <= rows.length /\ ∃ cs ts:List Nat,cs.length=l1.length /\ ts.length=l1.length /\ cs.sum=rows.length /\ 2 * ts.sum=rows.length * (rows.length - 1) /\ ∀ i (_:i < l1.length) (_:i < l2.length) (_:i < cs.length) (_:i < ts.length),1 <= cs[i] /\ ∃ v:V,l1[i]=[v,⟨1,(cs[i]:Int),⟨#[]⟩⟩,⟨1,(ts[i]:Int),⟨#[]⟩⟩] /\ l2[i]=[v]:=by
 obtain ⟨out,hp,hs,rfl⟩:=h1
 obtain ⟨out',hp',hs',rfl⟩:=h2
 obtain rfl:=out_unique hp hp' hs hs'
 have hf:=gall_flat (sameR ksG) out
 have hfull:=gall_full (sameR ksG) out
 have hle:=gflat_len hfull
 have hlen:=hp.length_eq
 rw [recsOf_len] at hlen
 rw [hf] at hle
 generalize hP:gall (sameR ksG) out=P at *
 refine ⟨by simp,by simp; omega,P.map List.length,P.map fun C=>(C.map colOne).sum,by simp,by simp,by rw [sum_len,hf,hlen],?_,fun i a b c d=>?_⟩
 ·rw [sum_flat,hf]
  have e:(out.map colOne).sum=((recsOf rows).map colOne).sum:=gperm_sum (hp.map colOne)
  have e2:(recsOf rows).map colOne=List.range rows.length:=by
   apply List.ext_getElem
   ·simp [recsOf]
   ·intro i a b
    have hi:i < rows.length:=by simpa using b
    simp only [recsOf,List.getElem_map,List.getElem_mapIdx,List.getElem_range]
    obtain ⟨s,_,e⟩:=h i hi
    show (rows[i].getD 1 V0).n.toNat=i
    rw [e]
    simp [rowOf]
  rw [e,e2,range_sum]
 ·simp only [List.length_map] at a
  simp only [List.getElem_map]
  have hne:=hfull P[i] (List.getElem_mem a)
  cases hC:P[i] with
  | nil=>exact absurd hC hne
  | cons x c=>
   refine ⟨by simp,x.row.getD 0 V0,partRow_two x c,rfl⟩
end Go.Proofs.YtjoinhljdbljaaaGreat
