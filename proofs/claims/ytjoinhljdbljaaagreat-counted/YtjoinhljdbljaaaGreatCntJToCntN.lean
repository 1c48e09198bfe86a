/- A part of a group's rows, and what follows. -/
import Derived.Test.YtjoinhljdbljaaaGreatCntEToCntI
set_option maxHeartbeats 2000000
set_option maxRecDepth 20000
namespace Go.Proofs.YtjoinhljdbljaaaGreat
open Go.RowKit
def tallyV (op:Int) (l:List Nat):V:=if op=1 then ⟨1,(l.length:Int),⟨#[]⟩⟩ else ⟨1,(l.sum:Int),⟨#[]⟩⟩
theorem make_part (n:Nat) (hn:n <= 10000):∃ M:Array Value,M.size=n * 3 /\ ∀ W:World,(Instr.makeSlice 83 (.int .i64 0) (.int .i64 (n:Int))).run Tryz.prog W=.ok (.slice (some ⟨W.heap.size,0,none⟩) 0 n) (W.alloc (.cells M 85)):=by
 obtain ⟨i0,hi,hz0,hz1,hz2⟩:=info_parts info85
 refine ⟨madeCells (Value.agg #[.int .i64 0,.int .i64 0,.string ⟨#[]⟩]).cells (((n:Nat):Int).toNat * i0.size),by rw [size_madeCells,hz1]; simp,fun W=>?_⟩
 have h:=run_make (P:=Tryz.prog) W 83 85 i0 (.agg #[.int .i64 0,.int .i64 0,.string ⟨#[]⟩]) Tryz.underlying83 hi hz0 .i64 .i64 0 (n:Int) (by omega) (by omega) (by rw [hz2]; omega) (by omega)
 simpa using h
theorem talValue_count (w:World) (g:Nat) (l:List Nat) (h:TalAt w g 1 l):Calls Tryz.prog 243 #[.pointer (some ⟨g,0,none⟩)] w fun e w'=>e=.returned (.agg #[.int .i64 (tallyV 1 l).k,.int .i64 (tallyV 1 l).n,.string (tallyV 1 l).s]) /\ Touch [] w w':=by
 rcases h with ⟨_,h⟩ | ⟨h,_⟩
 ·exact countValue_any w g l.length h
 ·exact absurd h (by decide)
theorem talValue_total (w:World) (g:Nat) (l:List Nat) (h:TalAt w g 4 l) (hl:l.sum <= 100000000000) (hne:l≠[]):Calls Tryz.prog 247 #[.pointer (some ⟨g,0,none⟩)] w fun e w'=>e=.returned (.agg #[.int .i64 (tallyV 4 l).k,.int .i64 (tallyV 4 l).n,.string (tallyV 4 l).s]) /\ Touch [] w w':=by
 rcases h with ⟨h,_⟩ | ⟨_,h⟩
 ·exact absurd h (by decide)
 ·have e:(!l.isEmpty)=true:=by cases l with | nil=>exact absurd rfl hne | cons a b=>rfl
  rw [e] at h
  exact totalValue_any w g l.sum h (by omega)
def talliesV (ops:List Int) (Ls:List (List Nat)):List V:=List.zipWith tallyV ops Ls
theorem addr_add (b off j:Nat):(⟨b,off,none⟩:Addr).add j=⟨b,off+j,none⟩:=by
 unfold Addr.add
 by_cases h0:j=0
 ·rw [if_pos h0,h0]; rfl
 ·rw [if_neg h0]
theorem flat3_cells (l:List V):∀ u∈flat3 (l.map V.t),u.oneCell'=true:=fun u hu=>by
 unfold flat3 at hu
 obtain ⟨x,hx,hu⟩:=List.mem_flatMap.1 hu
 obtain ⟨v,_,rfl⟩:=List.mem_map.1 hx
 simp only [T3.list,V.t,List.mem_cons,List.not_mem_nil,or_false] at hu
 rcases hu with rfl | rfl | rfl<;>rfl
theorem RowAt.news {w:World} {b off n c:Nat} {l:List V} (h:RowAt w (.slice (some ⟨b,off,none⟩) n c) l) (h1:1 <= l.length):∀ j u,(flat3 (l.map V.t))[j]?=some u -> w.cell? ((⟨b,off,none⟩:Addr).add j)=some u:=fun j u hj=>by
 obtain ⟨ao,cap,e,_,_,_,hx⟩:=Sl3.lies h
 obtain ⟨b',off',e2,_,hx⟩:=hx (by simpa using h1)
 simp only [Value.slice.injEq] at e
 rw [<- e.1] at e2
 simp only [Option.some.injEq,Addr.mk.injEq,and_true] at e2
 obtain ⟨rfl,rfl⟩:=e2
 rw [addr_add]
 exact hx j u hj
theorem wpList_vals {ops:Array Oper} {rest:List Oper} {o:Oper} {a:Act} {w:World} {Q:Exit -> Act -> World -> Prop} (hgd:o.guard=none) (s x:Operand)
  (ho:o.op=.call { callee:=.builtin .append,args:=#[s,x],argTypes:=#[83,83] }) (v:Value) (l:List V) (hs:a.eval s=v) (hown:VOwn w v l)
  (b off c n:Nat) (l2:List V) (hx:a.eval x=.slice (some ⟨b,off,none⟩) n c) (hn:n=l2.length) (hr:RowAt w (.slice (some ⟨b,off,none⟩) n c) l2) (hm:1 <= l2.length) (hlen:l.length+l2.length <= 1000000)
  (h:∀ g cap w',VOwn w' (.slice (some ⟨g,0,none⟩) (l.length+l2.length) cap) (l++l2) -> w.grownBy w' v.ownBlock -> (v.ownBlock=some g \/ g=w.heap.size) -> g < w'.heap.size -> wpList Tryz.prog ops Q rest (a.put o.dst (.slice (some ⟨g,0,none⟩) (l.length+l2.length) cap)) w'):wpList Tryz.prog ops Q (o::rest) a w:=by
 obtain ⟨i0,hi,hz0,hz1,hz2⟩:=info_parts info85
 subst hn
 refine wpList_append_lies w hgd s x 83 ho 0 85 i0 (.agg #[.int .i64 0,.int .i64 0,.string ⟨#[]⟩]) 3 32 Tryz.underlying83 hi hz0 hz1 hz2 rfl (by decide) v _ _ hs hown ⟨b,off,none⟩ l2.length c (flat3 (l2.map V.t)) hx (by rw [flat3_len]; simp) (hr.news hm) (flat3_cells l2) hm ?_ ?_ (Nat.zero_le _) _ rfl ?_
 ·unfold maxLen; omega
 ·omega
 ·intro g cap w' h1 h2 h3 h4
  refine h g cap w' ?_ h2 h3 h4
  unfold VOwn
  rw [List.length_append,List.map_append,show flat3 (l.map V.t++l2.map V.t)=flat3 (l.map V.t)++flat3 (l2.map V.t) by simp [flat3]]
  exact h1
theorem row_one (W:World) (v:V):RowAt (W.alloc (.cells #[.int .i64 v.k,.int .i64 v.n,.string v.s] 85)) (.slice (some ⟨W.heap.size,0,none⟩) 1 1) [v]:=by
 refine ⟨_,_,rfl,by simp,by unfold maxLen; omega,fun _=>⟨_,_,_,_,rfl,heap_alloc_new W _,fun i hi=>?_⟩⟩
 have:i=0:=by simp at hi; omega
 subst this
 exact ⟨rfl,rfl,rfl⟩
theorem talliesV_take {ops:List Int} {Ls:List (List Nat)} {k:Nat} (h1:k < ops.length) (h2:k < Ls.length):talliesV (ops.take (k+1)) (Ls.take (k+1))=talliesV (ops.take k) (Ls.take k)++[tallyV ops[k] Ls[k]]:=by
 unfold talliesV
 rw [take_snoc' ops k h1,take_snoc' Ls k h2,List.zipWith_append (by simp; omega)]
 rfl
structure RowSt (W W':World) (rv:Value) (l:List V):Prop where
 own:VOwn W' rv l
 new:∀ b,rv.ownBlock=some b -> W.heap.size <= b
 touch:Touch [] W W'
theorem RowSt.quiet {W W' W2:World} {rv:Value} {l:List V} (h:RowSt W W' rv l) (t:Touch [] W' W2):RowSt W W2 rv l:=⟨h.own.keep (t.tag0 _),h.new,h.touch.trans t⟩
theorem RowSt.grow {W W' w2:World} {rv:Value} {l l2:List V} {g n cap:Nat} (h:RowSt W W' rv l) (hO:VOwn w2 (.slice (some ⟨g,0,none⟩) n cap) (l++l2)) (hg:W'.grownBy w2 rv.ownBlock) (hat:rv.ownBlock=some g \/ g=W'.heap.size):RowSt W w2 (.slice (some ⟨g,0,none⟩) n cap) (l++l2):=by
 have t2:Touch rv.ownBlock.toList W' w2:=(Touch.refl _ _).grown hg (fun k hk=>by simp [hk])
 refine ⟨hO,fun b hb=>?_,h.touch.more t2 (fun i hi=>.inr (h.new i (by simpa using hi)))⟩
 simp [Value.ownBlock] at hb
 subst hb
 rcases hat with e | e
 ·exact h.new _ e
 ·have:=h.touch.size; omega
theorem partRow_any (w W:World) (p:Nat) (cv sv tv vv:Value) (vals:List V) (ops:List Int) (gs:List Nat) (Ls:List (List Nat)) (h:PartAt w W p cv sv tv vv vals ops gs Ls) (hop:∀ o∈ops,o=1 \/ o=4) (hL:∀ l∈Ls,l≠[] /\ l.sum <= 100000000000) (hv1:1 <= vals.length) (hv2:vals.length <= 1000) (ho:ops.length <= 1000) :
  Calls Tryz.prog 146 #[.pointer (some ⟨p,0,none⟩)] W fun e W'=>∃ rv,e=.returned rv /\ RowAt W' rv (vals++talliesV ops Ls) /\ Touch [] W W':=by
 obtain ⟨y0,y1,y2,y3⟩:=box4 h.box
 obtain ⟨vb,voff,vcap,rfl,hvc1,hvc2,hvx⟩:=h.vals.row.cells hv1
 obtain ⟨tO,tn,tc,rfl⟩:=h.tals.slice
 have htn:tn=ops.length:=by
  rcases h.tals.2 with ⟨e,e2⟩ | ⟨g,cap,cur,e,_⟩
  ·simp only [Value.slice.injEq] at e
   rw [talsV_len h.glen] at e2
   omega
  ·simp only [Value.slice.injEq] at e
   rw [e.2.1,talsV_len h.glen]
 subst htn
 obtain ⟨M,hM1,hM2⟩:=make_part (vals.length+ops.length) (by omega)
 have hM3:∀ W:World,(Instr.makeSlice 83 (.int .i64 0) (.int .i64 ((vals.length:Int)+(ops.length:Int)))).run Tryz.prog W=.ok (.slice (some ⟨W.heap.size,0,none⟩) 0 (vals.length+ops.length)) (W.alloc (.cells M 85)):=fun W=>by
  have:=hM2 W
  rw [show (((vals.length+ops.length:Nat):Int))=(vals.length:Int)+(ops.length:Int) by simp] at this
  exact this
 have hw1:IntKind.i64.wrap ((vals.length:Int)+(ops.length:Int))=(vals.length:Int)+(ops.length:Int):=wrap_small _ (by omega) (by omega)
 have HP:Hid (PartAt w W p cv sv (.slice tO ops.length tc) (.slice (some ⟨vb,voff,none⟩) vals.length vcap) vals ops gs Ls):=h
 have HM1:Hid (M.size=(vals.length+ops.length) * 3):=hM1
 have HOP:Hid (∀ o∈ops,o=1 \/ o=4):=hop
 have HLS:Hid (∀ l∈Ls,l≠[] /\ l.sum <= 100000000000):=hL
 clear hM2 hM1 h hvx hop hL
 go_enter Tryz.func146,Tryz.ntmps146
 go_wp2
 go_region_held3 (fun w'=>w'.cell? ⟨p,3,none⟩=some (.slice (some ⟨vb,voff,none⟩) vals.length vcap) /\ w'.cell? ⟨p,2,none⟩=some (.slice tO ops.length tc)) (go_keep) (fail)
 go_upto_region 2 with fail
 have hO1:VOwn (W.alloc (.cells M 85)).drew (.slice (some ⟨W.heap.size,0,none⟩) 0 (vals.length+ops.length)) []:=World.ownsRow_made W M (vals.length+ops.length) (Nat.zero_le _) (by unfold maxLen; omega) HM1.out
 have HO1:Hid (VOwn (W.alloc (.cells M 85)).drew (.slice (some ⟨W.heap.size,0,none⟩) 0 (vals.length+ops.length)) []):=hO1
 have HT1:Hid (Touch [] W (W.alloc (.cells M 85)).drew):=((Touch.refl [] _).alloc _).drew
 have c3:=cell_touch y3 HT1.out
 have c2:=cell_touch y2 HT1.out
 have HR1:Hid (RowAt (W.alloc (.cells M 85)).drew (.slice (some ⟨vb,voff,none⟩) vals.length vcap) vals):=(HP.out.quiet HT1.out).vals.row
 clear hO1 hM3
 generalize (W.alloc (.cells M 85)).drew=W1 at *
 go_wp2_with (first | (at_builtin; refine wpList_vals rfl (.tmp 18) (.tmp 22) rfl (.slice (some ⟨W.heap.size,0,none⟩) 0 (vals.length+ops.length)) [] rfl HO1.out vb voff vcap vals.length vals rfl rfl HR1.out hv1 (by simp; omega) ?_; intro g cap w2 q1 q2 q3 q4; have hRS:RowSt W w2 (.slice (some ⟨g,0,none⟩) (0+vals.length) cap) ([]++vals):=(RowSt.mk HO1.out (by intro b hb; simp [Value.ownBlock] at hb; omega) HT1.out).grow q1 q2 q3; have HRS:Hid (RowSt W w2 (.slice (some ⟨g,0,none⟩) (0+vals.length) cap) ([]++vals)):=hRS; have d2:=cell_touch y2 hRS.touch; clear q1 q2 q3 q4 hRS))
 go_loopw [3,29] (fun rv i wr=>∃ k:Nat,k <= ops.length /\ i=.int .i64 (k:Int) /\ RowSt W wr rv (vals++talliesV (ops.take k) (Ls.take k))) (fun _ i _=>ops.length - (intOf i).toNat)
 case atStart=>exact ⟨0,by omega,rfl,by simpa [talliesV] using HRS.out⟩
 case round=>
  obtain ⟨k,hk,rfl,hR⟩:=hrel
  by_cases hlt:k < ops.length
  ·have hgl:=HP.out.glen
   have hll:=HP.out.llen
   have hkg:k < gs.length:=by omega
   have hkL:k < Ls.length:=by omega
   have hP2:=HP.out.quiet hR.touch
   have htal:=hP2.tal k hlt hkg hkL
   obtain ⟨tg,tcap,etv,ht1,ht2,htx⟩:=hP2.tals.cell (by rw [talsV_len hgl]; omega)
   have htl:(talsV ops gs).length=ops.length:=talsV_len hgl
   have hcell:=htx k (by omega)
   have hv1:(talsV ops gs)[k]'(by omega)=talV ops[k] gs[k]:=by simp [talsV]
   rw [hv1] at hcell
   rw [htl] at etv ht1
   simp only [Value.slice.injEq,true_and] at etv
   obtain ⟨rfl,rfl⟩:=etv
   have HTK:Hid (talliesV (ops.take (k+1)) (Ls.take (k+1))=talliesV (ops.take k) (Ls.take k)++[tallyV ops[k] Ls[k]]):=talliesV_take hlt hkL
   have hop:=HOP.out ops[k] (List.getElem_mem hlt)
   have hbd:=HLS.out Ls[k] (List.getElem_mem hkL)
   have HLB:Hid ((vals++talliesV (ops.take k) (Ls.take k)).length <= 10000):=by { unfold Hid talliesV; simp; omega }
   obtain ⟨ro,rn,rc,rfl⟩:=hR.own.slice
   have HRW:Hid (RowSt W wr (.slice ro rn rc) (vals++talliesV (ops.take k) (Ls.take k))):=hR
   clear hR hP2 htx hv1 htl
   unfold talV at hcell
   have hlq:vals++talliesV (ops.take k) (Ls.take k)=vals++talliesV (ops.take k) (Ls.take k):=rfl
   generalize hls0:vals++talliesV (ops.take k) (Ls.take k)=ls at *
   have HLQ:Hid (vals++talliesV (ops.take k) (Ls.take k)=ls):=hls0
   clear hls0 hlq
   have hyv:tallyV ops[k] Ls[k]=tallyV ops[k] Ls[k]:=rfl
   generalize hy0:tallyV ops[k] Ls[k]=yv at *
   clear hyv
   generalize gs[k]=gk at *
   rcases hop with hop | hop
   ·have HYV:Hid (tallyV 1 Ls[k]=yv):=by { unfold Hid; rw [<- hop]; exact hy0 }
    rw [hop] at htal hcell
    have htf:tyOf 1=313:=rfl
    rw [htf] at hcell
    clear hop hy0
    have hmet : ∀ W : World, (method 451 313 (.pointer (some ⟨gk, 0, none⟩)) "spillway/groups.value").run Tryz.prog W = .ok (243, .pointer (some ⟨gk, 0, none⟩)) W := fun W => by kernel_rfl
    have HVAL:Hid (∀ W2,Touch [] wr W2 -> Calls Tryz.prog 243 #[.pointer (some ⟨gk,0,none⟩)] W2 fun e w'=>e=.returned (.agg #[.int .i64 yv.k,.int .i64 yv.n,.string yv.s]) /\ Touch [] W2 w'):=fun W2 t=>by
     have:=talValue_count W2 gk Ls[k] (htal.keep (t.block _ htal.lt (by simp)))
     rw [HYV.out] at this
     exact this
    go_wp2_with (first | (go_at_call 243; refine (HVAL.out _ (Touch.refl [] _)).mono ?_; rintro e w3 ⟨rfl,hT3⟩; have HT3:Hid (Touch [] wr w3):=hT3; clear hT3) | (at_builtin; refine wpList_vals rfl (.tmp 33) (.tmp 36) rfl (.slice ro rn rc) ls rfl ((HRW.out.quiet (HT3.out.alloc _)).own) w3.heap.size 0 1 1 [yv] rfl rfl (row_one w3 yv) (by simp) (by have:=HLB.out; simp; omega) ?_; intro g2 cap2 w4 q1 q2 q3 q4; have hRS4:=(HRW.out.quiet (HT3.out.alloc _)).grow q1 q2 q3; have HRS4:Hid (RowSt W w4 (.slice (some ⟨g2,0,none⟩) (ls.length+[yv].length) cap2) (ls++[yv])):=hRS4; clear q1 q2 q3 q4 hRS4))
    go_roundw
    case rel=>exact ⟨k+1,by omega,by go_num,by rw [HTK.out,<- List.append_assoc,HLQ.out]; exact HRS4.out⟩
    case measure=>simp [intOf]; omega
   ·have HYV:Hid (tallyV 4 Ls[k]=yv):=by { unfold Hid; rw [<- hop]; exact hy0 }
    rw [hop] at htal hcell
    have htf:tyOf 4=319:=rfl
    rw [htf] at hcell
    clear hop hy0
    have hmet : ∀ W : World, (method 451 319 (.pointer (some ⟨gk, 0, none⟩)) "spillway/groups.value").run Tryz.prog W = .ok (247, .pointer (some ⟨gk, 0, none⟩)) W := fun W => by kernel_rfl
    have HVAL:Hid (∀ W2,Touch [] wr W2 -> Calls Tryz.prog 247 #[.pointer (some ⟨gk,0,none⟩)] W2 fun e w'=>e=.returned (.agg #[.int .i64 yv.k,.int .i64 yv.n,.string yv.s]) /\ Touch [] W2 w'):=fun W2 t=>by
     have:=talValue_total W2 gk Ls[k] (htal.keep (t.block _ htal.lt (by simp))) hbd.2 hbd.1
     rw [HYV.out] at this
     exact this
    go_wp2_with (first | (go_at_call 247; refine (HVAL.out _ (Touch.refl [] _)).mono ?_; rintro e w3 ⟨rfl,hT3⟩; have HT3:Hid (Touch [] wr w3):=hT3; clear hT3) | (at_builtin; refine wpList_vals rfl (.tmp 33) (.tmp 36) rfl (.slice ro rn rc) ls rfl ((HRW.out.quiet (HT3.out.alloc _)).own) w3.heap.size 0 1 1 [yv] rfl rfl (row_one w3 yv) (by simp) (by have:=HLB.out; simp; omega) ?_; intro g2 cap2 w4 q1 q2 q3 q4; have hRS4:=(HRW.out.quiet (HT3.out.alloc _)).grow q1 q2 q3; have HRS4:Hid (RowSt W w4 (.slice (some ⟨g2,0,none⟩) (ls.length+[yv].length) cap2) (ls++[yv])):=hRS4; clear q1 q2 q3 q4 hRS4))
    go_roundw
    case rel=>exact ⟨k+1,by omega,by go_num,by rw [HTK.out,<- List.append_assoc,HLQ.out]; exact HRS4.out⟩
    case measure=>simp [intOf]; omega
  ·obtain rfl:k=ops.length:=by omega
   have hll:=HP.out.llen
   have h5:vals++talliesV (ops.take ops.length) (Ls.take ops.length)=vals++talliesV ops Ls:=by rw [List.take_length,<- hll,List.take_length]
   rw [h5] at hR
   have HRW:Hid (RowAt wr u3 (vals++talliesV ops Ls)):=hR.own.row
   have HTW:Hid (Touch [] W wr):=hR.touch
   clear hR h5
   go_wp2
   go_ret
   exact ⟨_,rfl,HRW.out,HTW.out⟩
end Go.Proofs.YtjoinhljdbljaaaGreat
namespace Go.Proofs.YtjoinhljdbljaaaGreat
section
variable {α:Type}
def gstep (E:α -> α -> Bool) (st:List (List α) × List α) (y:α):List (List α) × List α:=
 match st.2 with
 | []=>(st.1,[y])
 | x::c=>if E y x then (st.1,x::c++[y]) else (st.1++[x::c],[y])
def gparts (E:α -> α -> Bool) (l:List α):List (List α) × List α:=l.foldl (gstep E) ([],[])
def gall (E:α -> α -> Bool) (l:List α):List (List α):=match (gparts E l).2 with | []=>(gparts E l).1 | x::c=>(gparts E l).1++[x::c]
theorem snoc_ind {P:List α -> Prop} (h0:P []) (h1:∀ l y,P l -> P (l++[y])):∀ l,P l:=by
 intro l
 have h:∀ k:List α,P k.reverse:=by
  intro k
  induction k with
  | nil=>exact h0
  | cons y k ih=>rw [List.reverse_cons]; exact h1 _ _ ih
 have h2:=h l.reverse
 rwa [List.reverse_reverse] at h2
theorem gparts_nil (E:α -> α -> Bool):gparts E []=([],[]):=rfl
theorem gparts_snoc (E:α -> α -> Bool) (l:List α) (y:α):gparts E (l++[y])=gstep E (gparts E l) y:=by
 unfold gparts
 rw [List.foldl_append]
 rfl
structure GSt (E:α -> α -> Bool) (l:List α) (D:List (List α)) (C:List α):Prop where
 flat:D.flatten++C=l
 full:∀ c∈D,c≠[]
 some:l≠[] -> C≠[]
theorem gparts_st (E:α -> α -> Bool):∀ (l:List α),GSt E l (gparts E l).1 (gparts E l).2:=by
 intro l
 induction l using snoc_ind with
 | h0=>exact ⟨rfl,fun c h=>by simp [gparts_nil] at h,fun h=>absurd rfl h⟩
 | h1 l y ih=>
  rw [gparts_snoc]
  obtain ⟨h1,h2,h3⟩:=ih
  unfold gstep
  split
  ·rename_i e
   rw [e] at h1
   exact ⟨by rw [List.append_nil] at h1; show (gparts E l).1.flatten++[y]=l++[y]; rw [h1],h2,fun _=>by simp⟩
  ·rename_i x c e
   rw [e] at h1
   split
   ·refine ⟨?_,h2,fun _=>by simp⟩
    show (gparts E l).1.flatten++(x::c++[y])=l++[y]
    rw [<- List.append_assoc,h1]
   ·refine ⟨?_,fun d hd=>?_,fun _=>by simp⟩
    ·show ((gparts E l).1++[x::c]).flatten++[y]=l++[y]
     rw [List.flatten_append,List.flatten_singleton,h1]
    ·rcases List.mem_append.1 hd with hd | hd
     ·exact h2 d hd
     ·simp at hd; rw [hd]; simp
theorem gall_flat (E:α -> α -> Bool) (l:List α):(gall E l).flatten=l:=by
 have h:=(gparts_st E l).flat
 unfold gall
 split
 ·rename_i e
  rw [e] at h
  simpa using h
 ·rename_i x c e
  rw [e] at h
  simpa using h
theorem gall_full (E:α -> α -> Bool) (l:List α):∀ c∈gall E l,c≠[]:=by
 have h:=(gparts_st E l).full
 unfold gall
 split
 ·exact h
 ·intro d hd
  rcases List.mem_append.1 hd with hd | hd
  ·exact h d hd
  ·simp at hd; rw [hd]; simp
structure GOrd (c:α -> α -> Int) (D:List (List α)) (C:List α):Prop where
 alike:∀ d∈D++[C],∀ x t,d=x::t -> ∀ y∈d,c x y=0
 apart:(D++[C]).Pairwise fun d e=>∀ x t y u,d=x::t -> e=y::u -> c x y < 0
theorem gparts_ord {c:α -> α -> Int} (hc:Cmp c) (l:List α) (hs:l.Pairwise fun a b=>c a b <= 0):GOrd c (gparts (fun y x=>decide (c y x=0)) l).1 (gparts (fun y x=>decide (c y x=0)) l).2:=by
 induction l using snoc_ind with
 | h0=>exact ⟨fun d hd x t e=>(by simp [gparts_nil] at hd; rw [hd] at e; cases e),by simp [gparts_nil]⟩
 | h1 l y ih=>
  have hs1:=(List.pairwise_append.1 hs).1
  have hs2:=(List.pairwise_append.1 hs).2.2
  obtain ⟨h1,h2⟩:=ih hs1
  have hst:=gparts_st (fun y x=>decide (c y x=0)) l
  rw [gparts_snoc]
  unfold gstep
  split
  ·rename_i e
   rw [e] at h1 h2
   have hl:l=[]:=by
    cases l with
    | nil=>rfl
    | cons a l=>exact absurd e (hst.some (by simp))
   subst hl
   simp only [gparts_nil] at *
   refine ⟨fun d hd x t e2 z hz=>?_,by simp⟩
   simp at hd
   subst hd
   cases e2
   simp at hz
   subst hz
   exact hc.self _
  ·rename_i x t e
   rw [e] at h1 h2
   have hflat:=hst.flat
   rw [e] at hflat
   have hmem:∀ d∈(gparts (fun y x=>decide (c y x=0)) l).1++[x::t],∀ z∈d,z∈l:=fun d hd z hz=>by
    rw [<- hflat]
    rcases List.mem_append.1 hd with hd | hd
    ·exact List.mem_append_left _ (List.mem_flatten.2 ⟨d,hd,hz⟩)
    ·simp at hd; subst hd; exact List.mem_append_right _ hz
   have hxl:x∈l:=hmem (x::t) (by simp) x (by simp)
   have hxy:c x y <= 0:=hs2 x hxl y (by simp)
   have hanti:=hc.anti x y
   split
   ·rename_i hE
    have hz:=of_decide_eq_true hE
    refine ⟨fun d hd x' t' e2 z hz2=>?_,?_⟩
    ·rcases List.mem_append.1 hd with hd | hd
     ·exact h1 d (by simp [hd]) x' t' e2 z hz2
     ·simp at hd
      subst hd
      simp only [List.cons.injEq] at e2
      obtain ⟨rfl,rfl⟩:=e2
      simp only [List.mem_cons,List.mem_append,List.not_mem_nil,or_false] at hz2
      rcases hz2 with rfl | hz2 | rfl
      ·exact hc.self _
      ·exact h1 (x::t) (by simp) x t rfl z (by simp [hz2])
      ·omega
    ·rw [List.pairwise_append] at h2 ⊢
     refine ⟨h2.1,by simp,fun d hd f hf x' t' y' u' e3 e4=>?_⟩
     simp at hf
     subst hf
     simp only [List.cons.injEq] at e4
     obtain ⟨rfl,_⟩:=e4
     exact h2.2.2 d hd (x::t) (by simp) x' t' x t e3 rfl
   ·rename_i hE
    have hz:¬ c y x=0:=of_decide_eq_false (by simpa using hE)
    refine ⟨fun d hd x' t' e2 z hz2=>?_,?_⟩
    ·rcases List.mem_append.1 hd with hd | hd
     ·exact h1 d hd x' t' e2 z hz2
     ·simp at hd
      subst hd
      cases e2
      simp at hz2
      subst hz2
      exact hc.self _
    ·rw [List.pairwise_append]
     refine ⟨h2,by simp,fun d hd f hf x' t' y' u' e3 e4=>?_⟩
     simp at hf
     subst hf
     cases e4
     have hlt:c x y < 0:=by omega
     rcases List.mem_append.1 hd with hd' | hd'
     ·have h3:=(List.pairwise_append.1 h2).2.2 d hd' (x::t) (by simp) x' t' x t e3 rfl
      exact hc.lt_le h3 hxy
     ·simp at hd'
      subst hd'
      cases e3
      exact hlt
end
end Go.Proofs.YtjoinhljdbljaaaGreat
namespace Go.Proofs.YtjoinhljdbljaaaGreat
open Go.RowKit
def baseW (W:World) (N:Nat):World:={ W with heap:=W.heap.extract 0 N }
theorem baseW_size {W:World} {N:Nat} (h:N <= W.heap.size):(baseW W N).heap.size=N:=by simp [baseW]; omega
theorem baseW_at {W:World} {N k:Nat} (h:N <= W.heap.size) (hk:k < N):(baseW W N).heap[k]?=W.heap[k]?:=by
 simp only [baseW]
 rw [Array.getElem?_extract_of_lt (by omega)]
 simp
theorem baseW_touch {W:World} {N:Nat} (h:N <= W.heap.size):Touch [] (baseW W N) W:=
 ⟨rfl,rfl,rfl,by rw [baseW_size h]; exact h,fun k hk _=>by rw [baseW_size h] at hk; exact (baseW_at h hk).symm⟩
theorem PartAt.rebase {w W W':World} {N p:Nat} {cv sv tv vv:Value} {vals:List V} {ops:List Int} {gs:List Nat} {Ls:List (List Nat)} (h:PartAt w W p cv sv tv vv vals ops gs Ls) (k:∀ t∈[273,85,275,315,321],KeepTag t W W') (hs:W.heap.size <= W'.heap.size) (hN:N <= w.heap.size):PartAt (baseW W' N) W' p cv sv tv vv vals ops gs Ls:=by
 have h1:N <= W'.heap.size:=Nat.le_trans hN (Nat.le_trans h.touch.size hs)
 exact ⟨k 273 (by decide) _ _ _ h.box,h.vals.keep (k 85 (by decide)),h.tals.keep (k 275 (by decide)),h.glen,h.llen,fun i a b c=>(h.tal i a b c).keepTag (k 315 (by decide)) (k 321 (by decide)),h.nodup,by rw [baseW_size h1]; exact Nat.le_trans hN h.newp,fun g hg=>by rw [baseW_size h1]; exact Nat.le_trans hN (h.newg g hg),fun b hb=>by rw [baseW_size h1]; exact Nat.le_trans hN (h.newv b hb),fun b hb=>by rw [baseW_size h1]; exact Nat.le_trans hN (h.newt b hb),baseW_touch h1⟩
def gath (sums:List (Int × Int)) (C:List Rec):List (List Nat):=sums.map fun s=>C.map fun r=>numOf r.row s
theorem gath_snoc (sums:List (Int × Int)) (C:List Rec) (y:Rec):addL y.row sums (gath sums C)=gath sums (C++[y]):=by
 unfold addL gath
 induction sums with
 | nil=>rfl
 | cons s l ih=>simp only [List.map_cons,List.zipWith_cons_cons,ih,List.map_append,List.map_nil]
def partRow (cols:List Int) (sums:List (Int × Int)) (C:List Rec):List V:=valsOf cols ((C.head?.map Rec.row).getD [])++talliesV (sums.map Prod.fst) (gath sums C)
def PB (N:Nat) (W:World) (B:Nat) (cv sv:Value) (cols:List Int) (sums:List (Int × Int)):Option (Rec × List Rec) -> Prop
 | none=>W.heap[B]?=some (.cells #[.pointer none] 236 (0,0))
 | some (x,c)=>∃ p tv vv gs,W.heap[B]?=some (.cells #[.pointer (some ⟨p,0,none⟩)] 236 (0,0)) /\ PartAt (baseW W N) W p cv sv tv vv (valsOf cols x.row) (sums.map Prod.fst) gs (gath sums c)
def pOf:List Rec -> Option (Rec × List Rec)
 | []=>none
 | x::c=>some (x,x::c)
theorem PB.keep {N:Nat} {W W':World} {B:Nat} {cv sv:Value} {cols:List Int} {sums:List (Int × Int)} {o:Option (Rec × List Rec)} (h:PB N W B cv sv cols sums o) (k:∀ t∈[236,273,85,275,315,321],KeepTag t W W') (hs:W.heap.size <= W'.heap.size) (hN:N <= W.heap.size):PB N W' B cv sv cols sums o:=by
 cases o with
 | none=>exact k 236 (by decide) _ _ _ h
 | some xc=>
  obtain ⟨p,tv,vv,gs,h1,h2⟩:=h
  exact ⟨p,tv,vv,gs,k 236 (by decide) _ _ _ h1,h2.rebase (fun t ht=>k t (List.mem_cons_of_mem _ ht)) hs (by rw [baseW_size hN]; exact Nat.le_refl _)⟩
def InX (v:Value) (X:List Nat):Prop:=∀ a n c,v=.slice (some a) n c -> a.block∈X
theorem RawAt.blocks {W W':World} {v:Value} {l:List Int} {X:List Nat} (h:RawAt W v l) (hX:InX v X) (k:∀ b∈X,W'.heap[b]?=W.heap[b]?):RawAt W' v l:=by
 obtain ⟨h1,h2,ao,cap,rfl,hx⟩:=h
 refine ⟨h1,h2,ao,cap,rfl,fun hn=>?_⟩
 obtain ⟨b,off,rfl,hc⟩:=hx hn
 have hb:=k b (hX _ _ _ rfl)
 refine ⟨b,off,rfl,fun j hj=>?_⟩
 have:=hc j hj
 simp only [World.cell?] at this ⊢
 rw [hb]
 exact this
theorem SumsAt.blocks {W W':World} {v:Value} {l:List (Int × Int)} {X:List Nat} (h:SumsAt W v l) (hX:InX v X) (k:∀ b∈X,W'.heap[b]?=W.heap[b]?):SumsAt W' v l:=by
 obtain ⟨ao,cap,rfl,h1,h2,hx⟩:=h
 refine ⟨ao,cap,rfl,h1,h2,fun hn=>?_⟩
 obtain ⟨b,off,rfl,hc⟩:=hx hn
 have hb:=k b (hX _ _ _ rfl)
 refine ⟨b,off,rfl,fun j hj=>?_⟩
 have:=hc j hj
 simp only [World.cell?] at this ⊢
 rw [hb]
 exact this
structure GoodRow (cols:List Int) (sums:List (Int × Int)) (r:List V):Prop where
 fair:∀ v∈r,Fair v
 len:r.length <= 1000
 cols:∀ c∈cols,0 <= c /\ c < r.length
 sums:∀ s∈sums,(0 <= s.2 /\ s.2 < r.length) /\ numOf r s <= 1000000 /\ (s.1=1 \/ s.1=4 /\ ∃ n:Nat,n <= 1000000 /\ r.getD s.2.toNat V0=⟨1,(n:Int),⟨#[]⟩⟩)
theorem gath_small {cols:List Int} {sums:List (Int × Int)} {C:List Rec} (h:∀ r∈C,GoodRow cols sums r.row) (hl:C.length <= 20000):∀ l∈gath sums C,l.length <= 100000 /\ l.sum <= 100000000000:=by
 intro l hl'
 obtain ⟨s,hs,rfl⟩:=List.mem_map.1 hl'
 refine ⟨by simp; omega,?_⟩
 have:∀ C:List Rec,(∀ r∈C,GoodRow cols sums r.row) -> (C.map fun r=>numOf r.row s).sum <= C.length * 1000000:=by
  intro C
  induction C with
  | nil=>simp
  | cons x c ih=>
   intro hC
   have h1:=((hC x (by simp)).sums s hs).2.1
   have h2:=ih (fun r hr=>hC r (by simp [hr]))
   simp only [List.map_cons,List.sum_cons,List.length_cons]
   omega
 have h1:=this C h
 omega
def sameR (ks:List K) (y x:Rec):Bool:=decide (cmpR ks y.row x.row=0)
theorem getD_fair {r:List V} (h:∀ v∈r,Fair v) (i:Nat):Fair (r.getD i V0):=by
 by_cases hi:i < r.length
 ·rw [List.getD_eq_getElem?_getD,List.getElem?_eq_getElem hi]
  exact h _ (List.getElem_mem _)
 ·rw [List.getD_eq_getElem?_getD,List.getElem?_eq_none (by omega)]
  exact .inl ⟨rfl,rfl,rfl⟩
theorem same_code {a b:List V} (ha:∀ v∈a,Fair v) (hb:∀ v∈b,Fair v):∀ cols:List Int,(∀ i (_:i < cols.length) (_:i < (valsOf cols b).length),codeV K0 (a.getD cols[i].toNat V0) (valsOf cols b)[i]=0)↔cmpR (cols.map keyOf) a b=0
 | []=>by simp [cmpR]
 | c::cols=>by
  have ih:=same_code ha hb cols
  have e:codeV K0 (a.getD c.toNat V0) (b.getD c.toNat V0)=cmpV (keyOf c) (a.getD c.toNat V0) (b.getD c.toNat V0):=by
   rw [<- codeV_eq (keyOf c) (getD_fair ha _) (getD_fair hb _)]
   rfl
  simp only [List.map_cons,cmpR,thenBy]
  constructor
  ·intro h
   have h0:=h 0 (by simp) (by simp [valsOf])
   simp only [valsOf,List.map_cons,List.getElem_cons_zero] at h0
   rw [e] at h0
   have h1:¬ cmpV (keyOf c) (a.getD (keyOf c).c.toNat V0) (b.getD (keyOf c).c.toNat V0)≠0:=fun hn=>hn h0
   rw [if_neg h1]
   refine ih.1 (fun i hi hj=>?_)
   have:=h (i+1) (by simp; omega) (by simp [valsOf]; omega)
   simpa [valsOf] using this
  ·intro h
   by_cases h1:cmpV (keyOf c) (a.getD (keyOf c).c.toNat V0) (b.getD (keyOf c).c.toNat V0)≠0
   ·rw [if_pos h1] at h
    exact absurd h h1
   ·rw [if_neg h1] at h
    have h2:=ih.2 h
    intro i hi hj
    cases i with
    | zero=>
     simp only [valsOf,List.map_cons,List.getElem_cons_zero]
     rw [e]
     exact Classical.not_not.1 h1
    | succ i=>
     have:=h2 i (by simpa using hi) (by simpa [valsOf] using hj)
     simpa [valsOf] using this
theorem Touch.gT {W W':World} {F:List Nat} (h:Touch F W W') {T:List TypeId} {lo N:Nat} (hF:∀ k∈F,N <= k /\ ∃ cs t f,W.heap[k]?=some (.cells cs t f) /\ t∈T) (hT:∀ t∈T,t∉SpG) (hlo:lo <= N) (D F':List Nat):OwnG T lo N D F' W W':=by
 have stay:∀ k,k < W.heap.size -> k∉F -> W'.heap[k]?=W.heap[k]?:=h.block
 refine ⟨h.size,fun t _ _ k cs f hk e=>?_,fun t ht k cs f _ e=>?_,fun k ob hk e ho=>?_,h.low (fun k hk=>Nat.le_trans hlo (hF k hk).1)⟩
 ·rw [stay k (Array.getElem?_eq_some_iff.1 e).1 (fun hm=>?_)]
  ·exact e
  ·obtain ⟨h1,cs',t',f',e',ht'⟩:=hF k hm
   rw [e] at e'
   simp only [Option.some.injEq,Obj.cells.injEq] at e'
   rcases hk with hk | hk
   ·omega
   ·exact hk (e'.2.1▸ht')
 ·rw [stay k (Array.getElem?_eq_some_iff.1 e).1 (fun hm=>?_)]
  ·exact e
  ·obtain ⟨h1,cs',t',f',e',ht'⟩:=hF k hm
   rw [e] at e'
   simp only [Option.some.injEq,Obj.cells.injEq] at e'
   exact hT t' ht' (e'.2.1▸ht)
 ·rw [stay k (Array.getElem?_eq_some_iff.1 e).1 (fun hm=>by have:=(hF k hm).1; omega)]
  exact e
end Go.Proofs.YtjoinhljdbljaaaGreat
