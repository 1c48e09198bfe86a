/- The walk of Counted: what it holds. -/
import Derived.Test.YtjoinhljdbljaaaGreatDisBToDisH
import Derived.BigQuiet
set_option maxHeartbeats 4000000
set_option maxRecDepth 20000
namespace Go.Proofs.YtjoinhljdbljaaaGreat
open Go.RowKit
theorem withG_any (w:World) (co so:Option Addr) (cn cc sn sc:Nat) :
  Calls Tryz.prog 33 #[.agg #[.int .i64 7,.int .i64 0,.int .i64 0,.string ⟨#[]⟩,.slice none 0 0,.int .i64 0,.slice co cn cc,.slice none 0 0,.slice so sn sc]] w fun e w'=>∃ gp,e=.returned (.slice (some ⟨gp,0,none⟩) 2 2) /\ GPlan w' gp nameT (.slice co cn cc) (.slice so sn sc) [] /\ Touch [] w w':=by
 have HP:Hid (∀ W:World,GPlan (W.alloc (.cells (groupCells nameT (.slice co cn cc) (.slice so sn sc) []) 79)) W.heap.size nameT (.slice co cn cc) (.slice so sn sc) []):=fun W=>heap_alloc_new W _
 go_enter Tryz.func33,Tryz.ntmps33
 go_wp2
 go_ret
 exact ⟨_,by simp,HP.out _,((Touch.refl [] _).alloc _).alloc _⟩
structure CtSt (w W:World) (bC bT bk:Nat) (sv:Value) (cb cf cu:Int) (raw:List Int) (vs:List Value) (rows:List (List V)):Prop where
 cfg:W.heap[bC]?=some (.cells #[.int .i64 cb,.int .i64 cf,.int .i64 cu] 51 (0,0))
 tab:W.heap[bT]?=some (.cells #[.string nameT,.slice (some ⟨bk,0,none⟩) 4 4,sv] 70 (0,0))
 kinds:W.heap[bk]?=some (.cells kindsC 3 (0,0))
 list:LOwn W sv vs
 len:vs.length=rows.length
 rowsAt:∀ i (_:i < vs.length) (_:i < rows.length),RowAt W vs[i] rows[i]
 trow:∀ i (h:i < rows.length),TRow raw i rows[i]
 num:rows.length <= 1000
 low:Low w.heap.size w W
section
variable {w W W':World} {bC bT bk:Nat} {sv:Value} {cb cf cu:Int} {raw:List Int} {vs:List Value} {rows:List (List V)}
theorem CtSt.kept {lo:Nat} (h:CtSt w W bC bT bk sv cb cf cu raw vs rows) (k:Kept lo W W') (hlo:w.heap.size <= lo):CtSt w W' bC bT bk sv cb cf cu raw vs rows:=
 { h with cfg:=k.cells 51 (by decide) (by decide) _ _ _ h.cfg,tab:=k.cells 70 (by decide) (by decide) _ _ _ h.tab,kinds:=k.cells 3 (by decide) (by decide) _ _ _ h.kinds,list:=h.list.keep (k.cells 83 (by decide) (by decide)),rowsAt:=fun i a b=>Sl3.keep (h.rowsAt i a b) (k.cells 85 (by decide) (by decide)),low:=h.low.trans (k.low.mono hlo) }
theorem CtSt.quiet (h:CtSt w W bC bT bk sv cb cf cu raw vs rows) (t:Touch [] W W'):CtSt w W' bC bT bk sv cb cf cu raw vs rows:=h.kept (t.kept (lo:=w.heap.size)) (Nat.le_refl _)
def AnsL (W:World) (lv:Value) (l:List (List V)):Prop:=∃ vs',LOwn W lv vs' /\ vs'.length=l.length /\ ∀ i (_:i < vs'.length) (_:i < l.length),RowAt W vs'[i] l[i]
theorem AnsL.kept {lo:Nat} {lv:Value} {l:List (List V)} (h:AnsL W lv l) (k:Kept lo W W'):AnsL W' lv l:=by
 obtain ⟨vs',a,b,c⟩:=h
 exact ⟨vs',a.keep (k.cells 83 (by decide) (by decide)),b,fun i hi hj=>Sl3.keep (c i hi hj) (k.cells 85 (by decide) (by decide))⟩
theorem AnsL.len {lo:Option Addr} {ln lc:Nat} {l:List (List V)} (h:AnsL W (.slice lo ln lc) l):ln=l.length:=by
 obtain ⟨vs',a,b,_⟩:=h
 obtain ⟨o,cap,e,_⟩:=a.at.1
 simp only [Value.slice.injEq] at e
 rw [e.2.1,b]
theorem AnsL.quiet {lv:Value} {l:List (List V)} (h:AnsL W lv l) (t:Touch [] W W'):AnsL W' lv l:=h.kept (t.kept (lo:=0))
theorem AnsL.row {lo:Option Addr} {ln lc:Nat} {l:List (List V)} (h:AnsL W (.slice lo ln lc) l) {k:Nat} (hk:k < l.length) (h1:1 <= l[k].length):∃ g off rb roff rcap,lo=some ⟨g,off,none⟩ /\ W.cell? ⟨g,off+k,none⟩=some (.slice (some ⟨rb,roff,none⟩) l[k].length rcap) /\ (l[k].length <= rcap /\ rcap <= maxLen) /\ (ln <= lc /\ lc <= maxLen) /\ ∀ j (hj:j < l[k].length),W.cell? ⟨rb,roff+j * 3,none⟩=some (.int .i64 l[k][j].k) /\ W.cell? ⟨rb,roff+j * 3+1,none⟩=some (.int .i64 l[k][j].n) /\ W.cell? ⟨rb,roff+j * 3+1+1,none⟩=some (.string l[k][j].s):=by
 obtain ⟨vs',a,b,c⟩:=h
 obtain ⟨o,cap,e,hx⟩:=a.at.1
 have hcap:=a.at.2 _ _ _ rfl
 simp only [Value.slice.injEq] at e
 obtain ⟨e1,e2,e3⟩:=e
 rcases hx with hx | ⟨g,off,cs,h2,h3,h4,h5,h6⟩
 ·rw [hx] at b; simp at b; omega
 ·obtain ⟨rb,roff,rcap,e,f1,f2,f3⟩:=(c k (by omega) hk).cells h1
  refine ⟨g,off,rb,roff,rcap,by rw [e1,h2],?_,⟨f1,f2⟩,hcap,f3⟩
  rw [<- e]
  simp only [World.cell?,h3]
  exact h6 k (by omega)
theorem CtSt.askOne (h:CtSt w W bC bT bk sv cb cf cu raw vs rows) {gp bc bs blk fan bud:Nat} (hP:GPlan W gp nameT (.slice (some ⟨bc,0,none⟩) 1 1) (.slice (some ⟨bs,0,none⟩) 2 2) []) (hc:ColsG W bc) (hs:SumsG W bs) (b:192 <= blk /\ blk <= 640) (f:2 <= fan /\ fan <= 16) (u:4 * blk <= bud /\ 6400 <= bud /\ bud <= 110000) :
  Calls Tryz.prog 32 #[.agg #[.string nameT,.slice (some ⟨bk,0,none⟩) 4 4,sv],.slice (some ⟨gp,0,none⟩) 2 2,.agg #[.int .i64 (blk:Int),.int .i64 (fan:Int),.int .i64 (bud:Int)]] W fun e w'=>∃ lo ln lc,e=.returned (.tuple #[.slice lo ln lc,.int .i64 0]) /\ (∃ l,GroupOut sumsG rows l /\ AnsL w' (.slice lo ln lc) l) /\ CtSt w w' bC bT bk sv cb cf cu raw vs rows /\ Kept W.heap.size W w':=by
 refine (askOne_any W gp bk bc bs sv blk fan bud raw vs rows ⟨hP,hc,hs.at,by simp,fun a n c e=>by cases e; simp,fun k hk=>?_,.inl rfl,h.kinds,h.list,h.len,h.rowsAt,h.trow,h.num,by omega,by omega,f.1,f.2,u.1,by omega⟩ hs).mono ?_
 ·simp only [List.mem_cons,List.not_mem_nil,or_false] at hk
  rcases hk with rfl | rfl
  ·exact ⟨_,_,_,hc,by decide,by decide,by decide⟩
  ·exact ⟨_,_,_,hs,by decide,by decide,by decide⟩
 ·rintro e w' ⟨lv,l,rfl,hA⟩
  obtain ⟨lo,ln,lc,rfl⟩:=hA.list.elim fun _ h=>h.1.slice
  exact ⟨lo,ln,lc,rfl,⟨l,hA.good,hA.list⟩,h.kept hA.kept h.low.size,hA.kept⟩
theorem CtSt.askTwo (h:CtSt w W bC bT bk sv cb cf cu raw vs rows) {gp bc blk fan bud:Nat} (hP:GPlan W gp nameT (.slice (some ⟨bc,0,none⟩) 1 1) (.slice none 0 0) more2) (hc:ColsG W bc) (b:192 <= blk /\ blk <= 640) (f:2 <= fan /\ fan <= 16) (u:4 * blk <= bud /\ 6400 <= bud /\ bud <= 110000) :
  Calls Tryz.prog 32 #[.agg #[.string nameT,.slice (some ⟨bk,0,none⟩) 4 4,sv],.slice (some ⟨gp,0,none⟩) 3 3,.agg #[.int .i64 (blk:Int),.int .i64 (fan:Int),.int .i64 (bud:Int)]] W fun e w'=>∃ lo ln lc,e=.returned (.tuple #[.slice lo ln lc,.int .i64 0]) /\ (∃ l,GroupOut [] rows l /\ AnsL w' (.slice lo ln lc) l) /\ CtSt w w' bC bT bk sv cb cf cu raw vs rows /\ Kept W.heap.size W w':=by
 refine (askTwo_any W gp bk bc sv blk fan bud raw vs rows ⟨hP,hc,sums_none W,by simp,fun a n c e=>(by cases e),fun k hk=>?_,.inr rfl,h.kinds,h.list,h.len,h.rowsAt,h.trow,h.num,by omega,by omega,f.1,f.2,u.1,by omega⟩ (by omega)).mono ?_
 ·simp only [List.mem_cons,List.not_mem_nil,or_false] at hk
  subst hk
  exact ⟨_,_,_,hc,by decide,by decide,by decide⟩
 ·rintro e w' ⟨lv,l,rfl,hA⟩
  obtain ⟨lo,ln,lc,rfl⟩:=hA.list.elim fun _ h=>h.1.slice
  exact ⟨lo,ln,lc,rfl,⟨l,hA.good,hA.list⟩,h.kept hA.kept h.low.size,hA.kept⟩
theorem CtSt.two {lo:Option Addr} {ln lc:Nat} {wc:World} (h:CtSt w wc bC bT bk sv cb cf cu raw vs rows) (hA:∃ l,GroupOut sumsG rows l /\ AnsL wc (.slice lo ln lc) l) {gp bc blk fan bud:Nat} (t:Touch [] wc W) (hP:W.heap[gp]?=some (.cells #[.int .i64 1,.int .i64 0,.int .i64 0,.string ⟨#[116]⟩,.slice none 0 0,.int .i64 0,.slice none 0 0,.slice none 0 0,.slice none 0 0,.int .i64 7,.int .i64 0,.int .i64 0,.string ⟨#[]⟩,.slice none 0 0,.int .i64 0,.slice (some ⟨bc,0,none⟩) 1 1,.slice none 0 0,.slice none 0 0,.int .i64 6,.int .i64 1,.int .i64 0,.string ⟨#[]⟩,.slice none 0 0,.int .i64 0,.slice none 0 0,.slice none 0 0,.slice none 0 0] 79 (0,0))) (hc:W.heap[bc]?=some (.cells #[.int .i64 0] 3 (0,0))) (hB:Hid ((192 <= blk /\ blk <= 640) /\ (2 <= fan /\ fan <= 16) /\ (4 * blk <= bud /\ 6400 <= bud /\ bud <= 110000))) :
  Calls Tryz.prog 32 #[.agg #[.string nameT,.slice (some ⟨bk,0,none⟩) 4 4,sv],.slice (some ⟨gp,0,none⟩) 3 3,.agg #[.int .i64 (blk:Int),.int .i64 (fan:Int),.int .i64 (bud:Int)]] W fun e w'=>∃ mo mn mc,e=.returned (.tuple #[.slice mo mn mc,.int .i64 0]) /\ Hid ((∃ l,GroupOut sumsG rows l /\ AnsL w' (.slice lo ln lc) l) /\ (∃ l,GroupOut [] rows l /\ AnsL w' (.slice mo mn mc) l) /\ CtSt w w' bC bT bk sv cb cf cu raw vs rows):=by
 refine ((h.quiet t).askTwo (gp:=gp) (bc:=bc) hP hc hB.out.1 hB.out.2.1 hB.out.2.2).mono ?_
 rintro e w' ⟨mo,mn,mc,rfl,hA2,hS7,hK7⟩
 exact ⟨mo,mn,mc,rfl,hA.elim fun l h=>⟨l,h.1,(h.2.kept (t.kept (lo:=0))).kept hK7⟩,hA2,hS7⟩
theorem ctSt_start {w1 w2:World} (hTab:∃ vs rows,Tabled (w.alloc (.cells #[.int .i64 cb,.int .i64 cf,.int .i64 cu] 51)) w1 raw bk sv vs rows) (hK:Kept (w1.alloc (.cells #[.string nameT,.slice (some ⟨bk,0,none⟩) 4 4,sv] 70)).heap.size (w1.alloc (.cells #[.string nameT,.slice (some ⟨bk,0,none⟩) 4 4,sv] 70)) w2) :
  ∃ vs rows,CtSt w w2 w.heap.size w1.heap.size bk sv cb cf cu raw vs rows:=by
 obtain ⟨vs,rows,h⟩:=hTab
 refine ⟨vs,rows,?_⟩
 have t0:Touch [] w w1:=((Touch.refl [] _).alloc _).trans h.touch
 have t1:Touch [] w1 (w1.alloc (.cells #[.string nameT,.slice (some ⟨bk,0,none⟩) 4 4,sv] 70)):=(Touch.refl [] _).alloc _
 refine CtSt.kept (W:=w1.alloc (.cells #[.string nameT,.slice (some ⟨bk,0,none⟩) 4 4,sv] 70)) ⟨t1.tag0 _ _ _ _ (h.touch.tag0 _ _ _ _ (heap_alloc_new w _)),heap_alloc_new w1 _,t1.tag0 _ _ _ _ h.kinds,h.list.keep (t1.tag0 _),h.len,fun i a b=>(h.rowsAt i a b).touch t1,h.trow,by have:=h.num; omega,(t0.trans t1).low (Hi.nil _)⟩ hK (t0.trans t1).size
end
theorem take_sum_le:∀ (l:List Nat) (k:Nat),(l.take k).sum <= l.sum
 | [],k=>by simp
 | a::l,0=>by simp
 | a::l,k+1=>by
  have:=take_sum_le l k
  simp only [List.take_succ_cons,List.sum_cons]
  omega
theorem take_sum_succ {l:List Nat} {k:Nat} (h:k < l.length):(l.take (k+1)).sum=(l.take k).sum+l[k]:=by
 rw [List.take_succ_eq_append_getElem h,List.sum_append,List.sum_singleton]
theorem countedLaw_any (w:World) (rv:Value) (raw:List Int) (cb cf cu:Int) (h:RawAt w rv raw) (hb:I64 cb) (hf:I64 cf) (hu:I64 cu) :
  Calls Tryz.prog 6 #[rv,.agg #[.int .i64 cb,.int .i64 cf,.int .i64 cu]] w fun e w'=>e=.returned (.bool true) /\ Low w.heap.size w w':=by
 have HT:Hid (∀ W,Touch [] w W -> Calls Tryz.prog 30 #[rv] W fun e w'=>∃ bk so sn sc,e=.returned (.agg #[.string nameT,.slice (some ⟨bk,0,none⟩) 4 4,.slice so sn sc]) /\ (∃ vs rows,Tabled W w' raw bk (.slice so sn sc) vs rows)):=fun W t=>by
  refine (table_any W rv raw (h.quiet t)).mono ?_
  rintro e w' ⟨bk,sv,vs,rows,rfl,h⟩
  obtain ⟨so,sn,sc,rfl⟩:=h.list.slice
  exact ⟨bk,so,sn,sc,rfl,vs,rows,h⟩
 have HLV:Hid (∀ W,Calls Tryz.prog 31 #[] W fun e w'=>e=.returned (.bool true) /\ Kept W.heap.size W w'):=lives_any
 obtain ⟨hI,hlen,ao,cap,rfl,hx⟩:=h
 clear hI hlen hx
 go_enter Tryz.func6,Tryz.ntmps6
 go_wp2_with (first | (go_at_call 30; refine (HT.out _ ((Touch.refl [] _).alloc _)).mono ?_; rintro e w1 ⟨bk,so,sn,sc,rfl,hTab⟩; have HTAB:Hid (∃ vs rows,Tabled (w.alloc (.cells #[.int .i64 cb,.int .i64 cf,.int .i64 cu] 51)) w1 raw bk (.slice so sn sc) vs rows):=hTab; clear hTab) | (go_at_call 31; refine (HLV.out _).mono ?_; rintro e w2 ⟨rfl,hK⟩; have HS:Hid (∃ vs rows,CtSt w w2 w.heap.size w1.heap.size bk (.slice so sn sc) cb cf cu raw vs rows):=ctSt_start HTAB.out hK; clear hK))
 obtain ⟨vs,rows,hS⟩:=HS.out
 have hsn:sn=rows.length:=by
  obtain ⟨o,cap,e,_⟩:=hS.list.at.1
  simp only [Value.slice.injEq] at e
  rw [e.2.1,hS.len]
 subst hsn
 clear HS HTAB HT HLV
 generalize hbC:w.heap.size=bC at *
 generalize hbT:w1.heap.size=bT at *
 have HR:Hid (∀ W,Calls Tryz.prog 37 #[.agg #[.int .i64 cb,.int .i64 cf,.int .i64 cu]] W fun e w'=>∃ blk fan bud:Nat,e=.returned (.agg #[.int .i64 (blk:Int),.int .i64 (fan:Int),.int .i64 (bud:Int)]) /\ Hid ((192 <= blk /\ blk <= 640) /\ (2 <= fan /\ fan <= 16) /\ (4 * blk <= bud /\ 6400 <= bud /\ bud <= 110000)) /\ Touch [] W w'):=fun W=>by
  refine (roomy_any W cb cf cu hb hf hu).mono ?_
  rintro e w' ⟨blk,fan,bud,rfl,h1,h2,h3,h4⟩
  exact ⟨blk,fan,bud,rfl,⟨h1,h2,h3⟩,h4⟩
 have HS2:Hid (CtSt w w2 bC bT bk (.slice so rows.length sc) cb cf cu raw vs rows):=hS
 have HC:Hid (∀ W,CtSt w W bC bT bk (.slice so rows.length sc) cb cf cu raw vs rows -> (W.cell? ⟨bT,0,none⟩=some (.string nameT) /\ W.cell? ⟨bT,1,none⟩=some (.slice (some ⟨bk,0,none⟩) 4 4) /\ W.cell? ⟨bT,2,none⟩=some (.slice so rows.length sc)) /\ (W.cell? ⟨bC,0,none⟩=some (.int .i64 cb) /\ W.cell? ⟨bC,1,none⟩=some (.int .i64 cf) /\ W.cell? ⟨bC,2,none⟩=some (.int .i64 cu))):=fun W t=>⟨box3 t.tab,box3 t.cfg⟩
 clear hS
 obtain ⟨⟨c0,c1,c2⟩,⟨c3,c4,c5⟩⟩:=HC.out w2 HS2.out
 have hltC:bC < w2.heap.size:=lt_of_cell c3
 have hltT:bT < w2.heap.size:=lt_of_cell c0
 go_cut [7,8] from 18 (fun a b wx=>∃ lo ln lc,a=.slice lo ln lc /\ b=.int .i64 0 /\ (∃ l,GroupOut sumsG rows l /\ AnsL wx (.slice lo ln lc) l) /\ CtSt w wx bC bT bk (.slice so rows.length sc) cb cf cu raw vs rows)
 case first=>
  go_region_held3 (fun w'=>(w'.cell? ⟨bT,0,none⟩=some (.string nameT) /\ w'.cell? ⟨bT,1,none⟩=some (.slice (some ⟨bk,0,none⟩) 4 4) /\ w'.cell? ⟨bT,2,none⟩=some (.slice so rows.length sc)) /\ (w'.cell? ⟨bC,0,none⟩=some (.int .i64 cb) /\ w'.cell? ⟨bC,1,none⟩=some (.int .i64 cf) /\ w'.cell? ⟨bC,2,none⟩=some (.int .i64 cu))) (go_keep) (first | (go_at_call 33; refine (withG_any _ _ _ _ _ _ _).mono ?_; rintro e w3 ⟨gp,rfl,hP,hT⟩; have HCS:Hid (∃ bc bs,GPlan w3 gp nameT (.slice (some ⟨bc,0,none⟩) 1 1) (.slice (some ⟨bs,0,none⟩) 2 2) [] /\ ColsG w3 bc /\ SumsG w3 bs /\ Touch [] w2 w3):=(by first | exact ⟨_,_,hP,hT.tag0 3 _ _ _ ((Below.heap_alloc _ _ _ (by simp)).trans (heap_alloc_new w2.drew _)),hT.tag0 90 _ _ _ (new2 w2.drew _ _),((((Touch.refl [] w2).drew).alloc _).alloc _).trans hT⟩ | exact ⟨_,_,hP,hT.tag0 3 _ _ _ (new2 w2.drew _ _),hT.tag0 90 _ _ _ ((Below.heap_alloc _ _ _ (by simp)).trans (heap_alloc_new w2.drew _)),((((Touch.refl [] w2).drew).alloc _).alloc _).trans hT⟩); obtain ⟨⟨p0,p1,p2⟩,⟨p3,p4,p5⟩⟩:=HC.out w3 (HS2.out.quiet (HCS.out.elim fun _ h=>h.elim fun _ h=>h.2.2.2)); clear hP hT) | (go_at_call 37; refine (HR.out _).mono ?_; rintro e w4 ⟨blk,fan,bud,rfl,HBF,hT⟩; have HU4:Hid (Touch [] w3 w4):=hT; obtain ⟨⟨q0,q1,q2⟩,⟨q3,q4,q5⟩⟩:=HC.out w4 ((HS2.out.quiet (HCS.out.elim fun _ h=>h.elim fun _ h=>h.2.2.2)).quiet hT); clear hT) | (go_at_call 32; obtain ⟨bc,bs,m1,m2,m3,m4⟩:=HCS.out; refine (((HS2.out.quiet m4).quiet HU4.out).askOne (m1.keep (HU4.out.tag0 _)) (HU4.out.tag0 _ _ _ _ m2) (HU4.out.tag0 _ _ _ _ m3) HBF.out.1 HBF.out.2.1 HBF.out.2.2).mono ?_; rintro e w5 ⟨lo,ln,lc,rfl,hA,hS5,_⟩; have HA:Hid ((∃ l,GroupOut sumsG rows l /\ AnsL w5 (.slice lo ln lc) l) /\ CtSt w w5 bC bT bk (.slice so rows.length sc) cb cf cu raw vs rows):=⟨hA,hS5⟩; obtain ⟨⟨r0,r1,r2⟩,⟨r3,r4,r5⟩⟩:=HC.out w5 hS5; clear hA hS5 m1 m2 m3 m4))
  all_goals
   go_wp2_with fail
   go_meet
   case rel=>exact ⟨lo,ln,lc,rfl,rfl,HA.out⟩
 case rest=>
  obtain ⟨lo,ln,lc,rfl,rfl,hA⟩:=hcut
  have HA1:Hid (∃ l,GroupOut sumsG rows l /\ AnsL wc (.slice lo ln lc) l):=hA.1
  have HS5:Hid (CtSt w wc bC bT bk (.slice so rows.length sc) cb cf cu raw vs rows):=hA.2
  clear c0 c1 c2 c3 c4 c5 hA HS2 hltC hltT
  obtain ⟨⟨c0,c1,c2⟩,⟨c3,c4,c5⟩⟩:=HC.out wc HS5.out
  have hltC:bC < wc.heap.size:=lt_of_cell c3
  have hltT:bT < wc.heap.size:=lt_of_cell c0
  have HX1:Hid (∀ (W6:World) (blk fan bud:Nat),Touch [] (World.drew ((wc.alloc (.cells #[.int .i64 0] 3)).alloc (.cells #[.int .i64 1,.int .i64 0,.int .i64 0,.string ⟨#[116]⟩,.slice none 0 0,.int .i64 0,.slice none 0 0,.slice none 0 0,.slice none 0 0,.int .i64 7,.int .i64 0,.int .i64 0,.string ⟨#[]⟩,.slice none 0 0,.int .i64 0,.slice (some ⟨wc.heap.size,0,none⟩) 1 1,.slice none 0 0,.slice none 0 0,.int .i64 6,.int .i64 1,.int .i64 0,.string ⟨#[]⟩,.slice none 0 0,.int .i64 0,.slice none 0 0,.slice none 0 0,.slice none 0 0] 79))) W6 -> Hid ((192 <= blk /\ blk <= 640) /\ (2 <= fan /\ fan <= 16) /\ (4 * blk <= bud /\ 6400 <= bud /\ bud <= 110000)) -> Calls Tryz.prog 32 #[.agg #[.string nameT,.slice (some ⟨bk,0,none⟩) 4 4,.slice so rows.length sc],.slice (some ⟨wc.heap.size+1,0,none⟩) 3 3,.agg #[.int .i64 (blk:Int),.int .i64 (fan:Int),.int .i64 (bud:Int)]] W6 fun e w'=>∃ mo mn mc,e=.returned (.tuple #[.slice mo mn mc,.int .i64 0]) /\ Hid ((∃ l,GroupOut sumsG rows l /\ AnsL w' (.slice lo ln lc) l) /\ (∃ l,GroupOut [] rows l /\ AnsL w' (.slice mo mn mc) l) /\ CtSt w w' bC bT bk (.slice so rows.length sc) cb cf cu raw vs rows)):=fun W6 blk fan bud t hB=>HS5.out.two HA1.out (((((Touch.refl [] wc).alloc _).alloc _).drew).trans t) (t.tag0 79 _ _ _ (new2 wc _ _)) (t.tag0 3 _ _ _ ((Below.heap_alloc _ _ _ (by simp)).trans (heap_alloc_new wc _))) hB
  have HX2:Hid (∀ (W6:World) (blk fan bud:Nat),Touch [] (World.drew (wc.alloc (.cells #[.int .i64 0] 3))) W6 -> Hid ((192 <= blk /\ blk <= 640) /\ (2 <= fan /\ fan <= 16) /\ (4 * blk <= bud /\ 6400 <= bud /\ bud <= 110000)) -> Calls Tryz.prog 32 #[.agg #[.string nameT,.slice (some ⟨bk,0,none⟩) 4 4,.slice so rows.length sc],.slice (some ⟨W6.heap.size,0,none⟩) 3 3,.agg #[.int .i64 (blk:Int),.int .i64 (fan:Int),.int .i64 (bud:Int)]] (W6.alloc (.cells #[.int .i64 1,.int .i64 0,.int .i64 0,.string ⟨#[116]⟩,.slice none 0 0,.int .i64 0,.slice none 0 0,.slice none 0 0,.slice none 0 0,.int .i64 7,.int .i64 0,.int .i64 0,.string ⟨#[]⟩,.slice none 0 0,.int .i64 0,.slice (some ⟨wc.heap.size,0,none⟩) 1 1,.slice none 0 0,.slice none 0 0,.int .i64 6,.int .i64 1,.int .i64 0,.string ⟨#[]⟩,.slice none 0 0,.int .i64 0,.slice none 0 0,.slice none 0 0,.slice none 0 0] 79)) fun e w'=>∃ mo mn mc,e=.returned (.tuple #[.slice mo mn mc,.int .i64 0]) /\ Hid ((∃ l,GroupOut sumsG rows l /\ AnsL w' (.slice lo ln lc) l) /\ (∃ l,GroupOut [] rows l /\ AnsL w' (.slice mo mn mc) l) /\ CtSt w w' bC bT bk (.slice so rows.length sc) cb cf cu raw vs rows)):=fun W6 blk fan bud t hB=>HS5.out.two HA1.out (((((Touch.refl [] wc).alloc _).drew).trans t).alloc _) (heap_alloc_new W6 _) (((Touch.refl [] W6).alloc _).tag0 3 _ _ _ (t.tag0 3 _ _ _ (heap_alloc_new wc _))) hB
  have HX3:Hid (∀ (W6:World) (blk fan bud:Nat),Touch [] wc.drew W6 -> Hid ((192 <= blk /\ blk <= 640) /\ (2 <= fan /\ fan <= 16) /\ (4 * blk <= bud /\ 6400 <= bud /\ bud <= 110000)) -> Calls Tryz.prog 32 #[.agg #[.string nameT,.slice (some ⟨bk,0,none⟩) 4 4,.slice so rows.length sc],.slice (some ⟨W6.heap.size+1,0,none⟩) 3 3,.agg #[.int .i64 (blk:Int),.int .i64 (fan:Int),.int .i64 (bud:Int)]] ((W6.alloc (.cells #[.int .i64 0] 3)).alloc (.cells #[.int .i64 1,.int .i64 0,.int .i64 0,.string ⟨#[116]⟩,.slice none 0 0,.int .i64 0,.slice none 0 0,.slice none 0 0,.slice none 0 0,.int .i64 7,.int .i64 0,.int .i64 0,.string ⟨#[]⟩,.slice none 0 0,.int .i64 0,.slice (some ⟨W6.heap.size,0,none⟩) 1 1,.slice none 0 0,.slice none 0 0,.int .i64 6,.int .i64 1,.int .i64 0,.string ⟨#[]⟩,.slice none 0 0,.int .i64 0,.slice none 0 0,.slice none 0 0,.slice none 0 0] 79)) fun e w'=>∃ mo mn mc,e=.returned (.tuple #[.slice mo mn mc,.int .i64 0]) /\ Hid ((∃ l,GroupOut sumsG rows l /\ AnsL w' (.slice lo ln lc) l) /\ (∃ l,GroupOut [] rows l /\ AnsL w' (.slice mo mn mc) l) /\ CtSt w w' bC bT bk (.slice so rows.length sc) cb cf cu raw vs rows)):=fun W6 blk fan bud t hB=>HS5.out.two HA1.out (((((Touch.refl [] wc).drew).trans t).alloc _).alloc _) (new2 W6 _ _) ((Below.heap_alloc _ _ _ (by simp)).trans (heap_alloc_new W6 _)) hB
  go_upto_region 4 with fail
  go_cut [9,10] from 31 (fun a b wx=>∃ mo mn mc,a=.slice mo mn mc /\ b=.int .i64 0 /\ (∃ l,GroupOut sumsG rows l /\ AnsL wx (.slice lo ln lc) l) /\ (∃ l,GroupOut [] rows l /\ AnsL wx (.slice mo mn mc) l) /\ CtSt w wx bC bT bk (.slice so rows.length sc) cb cf cu raw vs rows)
  case first=>
   go_region_held3 (fun w'=>(w'.cell? ⟨bT,0,none⟩=some (.string nameT) /\ w'.cell? ⟨bT,1,none⟩=some (.slice (some ⟨bk,0,none⟩) 4 4) /\ w'.cell? ⟨bT,2,none⟩=some (.slice so rows.length sc)) /\ (w'.cell? ⟨bC,0,none⟩=some (.int .i64 cb) /\ w'.cell? ⟨bC,1,none⟩=some (.int .i64 cf) /\ w'.cell? ⟨bC,2,none⟩=some (.int .i64 cu))) (go_keep) (first | (go_at_call 37; refine (HR.out _).mono ?_; rintro e w6 ⟨blk,fan,bud,rfl,HBF,hT⟩; (first | (have U0:Touch [] wc.drew w6:=(by with_reducible exact hT); have T0:Hid _:=U0; clear U0; have HU6:Hid (Touch [] wc w6):=((Touch.refl [] wc).drew).trans hT) | (have U1:Touch [] (World.drew (wc.alloc (.cells #[.int .i64 0] 3))) w6:=(by with_reducible exact hT); have T1:Hid _:=U1; clear U1; have HU6:Hid (Touch [] wc w6):=(((Touch.refl [] wc).alloc _).drew).trans hT) | (have U2:Touch [] (World.drew ((wc.alloc (.cells #[.int .i64 0] 3)).alloc (.cells #[.int .i64 1,.int .i64 0,.int .i64 0,.string ⟨#[116]⟩,.slice none 0 0,.int .i64 0,.slice none 0 0,.slice none 0 0,.slice none 0 0,.int .i64 7,.int .i64 0,.int .i64 0,.string ⟨#[]⟩,.slice none 0 0,.int .i64 0,.slice (some ⟨wc.heap.size,0,none⟩) 1 1,.slice none 0 0,.slice none 0 0,.int .i64 6,.int .i64 1,.int .i64 0,.string ⟨#[]⟩,.slice none 0 0,.int .i64 0,.slice none 0 0,.slice none 0 0,.slice none 0 0] 79))) w6:=(by with_reducible exact hT); have T2:Hid _:=U2; clear U2; have HU6:Hid (Touch [] wc w6):=((((Touch.refl [] wc).alloc _).alloc _).drew).trans hT)); obtain ⟨⟨q0,q1,q2⟩,⟨q3,q4,q5⟩⟩:=HC.out w6 (HS5.out.quiet HU6.out); have hlC6:bC < w6.heap.size:=lt_of_cell q3; have hlT6:bT < w6.heap.size:=lt_of_cell q0; clear hT) | (go_at_call 32; first | (with_reducible refine Calls.mono (HX3.out w6 blk fan bud T0.out HBF) ?_; rintro e w7 ⟨mo,mn,mc,rfl,HB⟩; obtain ⟨⟨r0,r1,r2⟩,⟨r3,r4,r5⟩⟩:=HC.out w7 HB.out.2.2) | (with_reducible refine Calls.mono (HX2.out w6 blk fan bud T1.out HBF) ?_; rintro e w7 ⟨mo,mn,mc,rfl,HB⟩; obtain ⟨⟨r0,r1,r2⟩,⟨r3,r4,r5⟩⟩:=HC.out w7 HB.out.2.2) | (with_reducible refine Calls.mono (HX1.out w6 blk fan bud T2.out HBF) ?_; rintro e w7 ⟨mo,mn,mc,rfl,HB⟩; obtain ⟨⟨r0,r1,r2⟩,⟨r3,r4,r5⟩⟩:=HC.out w7 HB.out.2.2)))
   all_goals
    go_wp2_with fail
    go_meet
    case rel=>exact ⟨mo,mn,mc,rfl,rfl,HB.out⟩
  case rest=>
   obtain ⟨mo,mn,mc,rfl,rfl,hB1,hB2,hS7⟩:=hcut
   have hM:∃ l1 l2,GroupOut sumsG rows l1 /\ GroupOut [] rows l2 /\ AnsL wc (.slice lo ln lc) l1 /\ AnsL wc (.slice mo mn mc) l2:=hB1.elim fun l1 h1=>hB2.elim fun l2 h2=>⟨l1,l2,h1.1,h2.1,h1.2,h2.2⟩
   obtain ⟨l1,l2,g1,g2,a1,a2⟩:=hM
   obtain ⟨hll,hlr,cs,ts,hcl,htl,hcs,hts,hrow⟩:=group_pair hS7.trow g1 g2
   have hnum:=hS7.num
   have hln:ln=l1.length:=a1.len
   have hmn:mn=l1.length:=a2.len.trans hll.symm
   subst hln
   subst hmn
   have HR1:Hid (∀ i (_:i < l1.length) (_:i < l2.length) (_:i < cs.length) (_:i < ts.length),1 <= cs[i] /\ ∃ v:V,l1[i]=[v,⟨1,(cs[i]:Int),⟨#[]⟩⟩,⟨1,(ts[i]:Int),⟨#[]⟩⟩] /\ l2[i]=[v]):=hrow
   have HS7:Hid (CtSt w wc bC bT bk (.slice so rows.length sc) cb cf cu raw vs rows):=hS7
   have HA1':Hid (AnsL wc (.slice lo l1.length lc) l1):=a1
   have HA2':Hid (AnsL wc (.slice mo l1.length mc) l2):=a2
   have HLN:Hid (l1.length=l2.length /\ l1.length <= rows.length /\ cs.length=l1.length /\ ts.length=l1.length /\ cs.sum=rows.length /\ 2 * ts.sum=rows.length * (rows.length - 1) /\ rows.length <= 1000):=⟨hll,hlr,hcl,htl,hcs,hts,hnum⟩
   clear hB1 hB2 hS7 g1 g2 a1 a2 hrow hll hlr hcl htl hcs hts hnum HX1 HX2 HX3 HA1 HS5 HR c0 c1 c2 c3 c4 c5 hltC hltT
   obtain ⟨⟨c0,c1,c2⟩,⟨c3,c4,c5⟩⟩:=HC.out wc HS7.out
   clear c0 c1 c3 c4 c5 HC
   go_wp2
   go_loopw [11,12,13] (fun a b i wr=>∃ k:Nat,k <= l1.length /\ i=.int .i64 (k:Int) /\ a=.int .i64 ((cs.take k).sum:Int) /\ b=.int .i64 ((ts.take k).sum:Int) /\ Touch [] wc wr) (fun _ _ i _=>l1.length - (intOf i).toNat)
   case atStart=>exact ⟨0,by omega,rfl,by simp,by simp,Touch.refl [] wc⟩
   case round=>
    obtain ⟨k,hk,rfl,rfl,rfl,hT⟩:=hrel
    have hc2:=cell_touch c2 hT
    obtain ⟨n1,n2,n3,n4,n5,n6,n7⟩:=HLN.out
    have hb1:(cs.take k).sum <= cs.sum:=take_sum_le cs k
    have hb2:(ts.take k).sum <= ts.sum:=take_sum_le ts k
    by_cases hlt:k < l1.length
    ·obtain ⟨hc1,v,e1,e2⟩:=HR1.out k hlt (by omega) (by omega) (by omega)
     have hl1:l1[k].length=3:=by rw [e1]; rfl
     have hl2:(l2[k]'(by omega)).length=1:=by rw [e2]; rfl
     obtain ⟨g,off,rb,roff,rcap,rfl,d0,⟨d1,d2⟩,⟨d3,d4⟩,d5⟩:=(HA1'.out.quiet hT).row hlt (by omega)
     obtain ⟨g',off',sb,soff,scap,rfl,f0,⟨f1,f2⟩,⟨f3,f4⟩,f5⟩:=(HA2'.out.quiet hT).row (k:=k) (by omega) (by omega)
     have x0:=d5 0 (by omega)
     have x1:=d5 1 (by omega)
     have x2:=d5 2 (by omega)
     have y0:=f5 0 (by omega)
     simp only [e1,e2,List.getElem_cons_zero,List.getElem_cons_succ,Nat.zero_mul,Nat.one_mul,Nat.add_zero] at x0 x1 x2 y0
     rw [hl1] at d0 d1
     rw [hl2] at f0 f1
     obtain ⟨x00,x01,x02⟩:=x0
     obtain ⟨x10,x11,x12⟩:=x1
     obtain ⟨x20,x21,x22⟩:=x2
     obtain ⟨y00,y01,y02⟩:=y0
     have hck:cs[k] <= cs.sum:=by have:=take_sum_le cs (k+1); rw [take_sum_succ (by omega)] at this; omega
     have htk:ts[k] <= ts.sum:=by have:=take_sum_le ts (k+1); rw [take_sum_succ (by omega)] at this; omega
     have hs1:(cs.take k).sum+cs[k] <= cs.sum:=by have:=take_sum_le cs (k+1); rw [take_sum_succ (by omega)] at this; exact this
     have hs2:(ts.take k).sum+ts[k] <= ts.sum:=by have:=take_sum_le ts (k+1); rw [take_sum_succ (by omega)] at this; exact this
     have HSC:Hid ((cs.take (k+1)).sum=(cs.take k).sum+cs[k]):=take_sum_succ (by omega)
     have HST:Hid ((ts.take (k+1)).sum=(ts.take k).sum+ts[k]):=take_sum_succ (by omega)
     have htb:ts.sum <= 1000000:=by
      have:rows.length * (rows.length - 1) <= 1000 * 1000:=Nat.mul_le_mul (by omega) (by omega)
      omega
     generalize cs[k]=ck at *
     generalize ts[k]=tk at *
     generalize (cs.take k).sum=ak at *
     generalize (ts.take k).sum=bk' at *
     have hw1:IntKind.i64.wrap ((ak:Int)+(ck:Int))=(ak:Int)+(ck:Int):=wrap_small _ (by omega) (by omega)
     have hw2:IntKind.i64.wrap ((bk':Int)+(tk:Int))=(bk':Int)+(tk:Int):=wrap_small _ (by omega) (by omega)
     have hw3:IntKind.i64.wrap ((k:Int)+1)=(k:Int)+1:=wrap_small _ (by omega) (by omega)
     have hge:¬ (ck:Int) < 1:=by omega
     have HT:Hid (Touch [] wc wr):=hT
     clear d5 f5 HR1 HA1' HA2' HS7 e1 e2 hl1 hl2 hT n1 n5 n6 hb1 hb2 hck htk hs1 hs2 htb hc1
     go_wp2
     go_big_quiet (fail)
     go_wp2
     exact ⟨⟨k+1,by omega,by simp,by rw [HSC.out]; simp,by rw [HST.out]; simp,HT.out.drewN _⟩,by simp only [intOf]; omega⟩
    ·obtain rfl:k=l1.length:=by omega
     have q1:(cs.take l1.length).sum=rows.length:=by rw [<- n3,List.take_length]; exact n5
     have q2:2 * (ts.take l1.length).sum=rows.length * (rows.length - 1):=by rw [<- n4,List.take_length]; exact n6
     rw [q1]
     generalize (ts.take l1.length).sum=pl at *
     generalize hrn:rows.length=n at *
     have hpb:n * (n - 1) <= 1000 * 1000:=Nat.mul_le_mul (by omega) (by omega)
     have q3:(n:Int) * ((n:Int) - 1)=2 * (pl:Int):=by
      cases n with
      | zero=>
       have:pl=0:=by omega
       subst this
       rfl
      | succ m=>
       simp only [Nat.add_sub_cancel] at q2
       have:((m+1:Nat):Int) - 1=(m:Int):=by omega
       rw [this]
       have h2:((2 * pl:Nat):Int)=(((m+1) * m:Nat):Int):=by rw [q2]
       simpa using h2.symm
     have w1:IntKind.i64.wrap ((n:Int) - 1)=(n:Int) - 1:=wrap_small _ (by omega) (by omega)
     have w2:IntKind.i64.wrap ((n:Int) * ((n:Int) - 1))=(n:Int) * ((n:Int) - 1):=wrap_small _ (by omega) (by omega)
     have w3:wrap64 (2 * (pl:Int))=2 * (pl:Int):=by unfold wrap64; omega
     have w4:wrap64 (pl:Int)=(pl:Int):=by unfold wrap64; omega
     have hfin:((pl:Int) == wrap64 ((wrap64 (2 * (pl:Int))).tdiv 2))=true:=by
      rw [w3,Int.mul_tdiv_cancel_left _ (by decide),w4]
      simp
     have HLOW:Hid (Low w.heap.size w wr):=(HS7.out.quiet hT).low
     clear HR1 HA1' HA2' HS7 hT n1 n2 n3 n4 n5 n6 n7 hb1 hb2 q1 q2 hrn hpb HLN
     go_wp2
     go_ret
     exact ⟨rfl,HLOW.out⟩
end Go.Proofs.YtjoinhljdbljaaaGreat
