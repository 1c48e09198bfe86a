/- The walk of Query, over a scan and a sort, and what follows. -/
import Derived.Test.YtjoinhljdbljaaaGreatQryIToQryK
import Derived.Test.YtjoinhljdbljaaaGreatOVbWToOVbX
import Derived.Recover
import Derived.BigQuiet
set_option maxHeartbeats 4000000
set_option maxRecDepth 20000
namespace Go.Proofs.YtjoinhljdbljaaaGreat
open Go.RowKit
theorem neqNil20 (w:World):(binOp .neq 20 .nilIface .nilIface).run Tryz.prog w=.ok (.bool false) w:=by kernel_rfl
theorem caught_idle (a b:Nat) (w:World):CallsD Tryz.prog 54 #[.pointer (some ⟨a,0,none⟩),.pointer (some ⟨b,0,none⟩)] .returning w fun e u' w'=>e=.returned (.tuple #[]) /\ u'=.returning /\ w'=w:=by
 have hne:=neqNil20
 refine callsD_of_wpS Tryz.func54 rfl fun c₀ cs hu=>?_
 apply wpS_seq
 apply wpS_region
 simp [wpOpsS,go_sem,recoverD,hu,Tryz.ntmps54,Exit.thenS]
 apply wpS_seq
 apply wpS_region
 simp [wpOpsS,go_sem,hne,Exit.thenS]
 refine wpS_cond (t:=false) (by simp [Act.eval,Array.replicate]) ?_
 simp only [Bool.false_eq_true,if_false]
 refine wpS_of_wp (wp_skip ?_)
 cases c₀
 simp_all [bodyPostS,results,Tryz.results54]
theorem goodConfig_any (w:World) (blk fan bud:Nat) (h1:64 <= blk) (h2:blk <= 4096) (h3:2 <= fan) (h4:fan <= 16):Calls Tryz.prog 57 #[.agg #[.int .i64 (blk:Int),.int .i64 (fan:Int),.int .i64 (bud:Int)]] w fun e w'=>e=.returned (.bool true) /\ Touch [] w w':=by
 have d1:(64:Int) <= (blk:Int):=by omega
 have d2:(blk:Int) <= 4096:=by omega
 have d3:(2:Int) <= (fan:Int):=by omega
 have d4:(fan:Int) <= 16:=by omega
 go_enter Tryz.func57,Tryz.ntmps57
 go_wp2
 go_ret
 exact ⟨rfl,(Touch.refl [] _).alloc _⟩
theorem block_any (w:World) (bx bm:Nat) (d:DS) (M:List PF) (h:PD w bx bm d M):Calls Tryz.prog 58 #[.pointer (some ⟨bx,0,none⟩)] w fun e w'=>e=.returned (.int .i64 d.block) /\ w'=w:=by
 obtain ⟨c0,_⟩:=DCells h.disk
 clear h
 go_enter Tryz.func58,Tryz.ntmps58
 go_wp2
 go_ret
 exact ⟨rfl,rfl⟩
def V.old (v:V):Old.V:=⟨v.k,v.n,v.s⟩
def K.old (y:K):Old.K:=⟨y.c,y.d,y.l⟩
def oldRows (rows:List (List V)):List (List Old.V):=rows.map fun r=>r.map V.old
theorem old_t3s (l:List T3):Old.t3s l=flat3 l:=rfl
theorem Sl3.lies {t:TypeId} {w:World} {v:Value} {l:List T3} (h:Sl3 t w v l):Old.LiesC w [] v 3 l.length (Old.t3s l):=by
 obtain ⟨ao,cap,rfl,hc,hm,hx⟩:=h
 refine ⟨ao,cap,rfl,hc,hm,by rw [old_t3s,flat3_len],fun hn=>?_⟩
 obtain ⟨b,off,cs,f,rfl,hb,hx⟩:=hx hn
 refine ⟨b,off,rfl,by simp,fun j u hj=>?_⟩
 rw [old_t3s] at hj
 have hlt:=(List.getElem?_eq_some_iff.1 hj).1
 rw [flat3_len] at hlt
 obtain ⟨i,r,rfl,hr⟩:∃ i r,j=i * 3+r /\ r < 3:=⟨j / 3,j % 3,by omega,by omega⟩
 have hi:i < l.length:=by omega
 rw [flat3_at _ i r hi hr] at hj
 obtain ⟨x0,x1,x2⟩:=hx i hi
 simp only [World.cell?,hb]
 match r,hr with
 | 0,_=>simp [T3.list] at hj; rw [show off+(i * 3+0)=off+i * 3 by omega,x0,hj]; rfl
 | 1,_=>simp [T3.list] at hj; rw [show off+(i * 3+1)=off+i * 3+1 by omega,x1,hj]; rfl
 | 2,_=>simp [T3.list] at hj; rw [show off+(i * 3+2)=off+i * 3+1+1 by omega,x2,hj]; rfl
theorem RowAt.old {w:World} {v:Value} {row:List V} (h:RowAt w v row):Old.ValsIn w [] v (row.map V.old):=by
 have:=Sl3.lies h
 unfold Old.ValsIn
 rw [List.map_map,show (Old.V.t ∘ V.old)=V.t from rfl,List.length_map]
 simpa using this
theorem KeysAt.old {w:World} {v:Value} {ks:List K} (h:KeysAt w v ks):Old.KeysIn w [] v (ks.map K.old):=by
 have:=Sl3.lies h
 unfold Old.KeysIn
 rw [List.map_map,show (Old.K.t ∘ K.old)=K.t from rfl,List.length_map]
 simpa using this
theorem LAt.old {w:World} {sv:Value} {vs:List Value} {rows:List (List V)} (h:LAt w sv vs) (hlen:vs.length=rows.length) (hr:∀ i (_:i < vs.length) (_:i < rows.length),RowAt w vs[i] rows[i]) (hcap:∀ o n c,sv=.slice o n c -> n <= c /\ c <= maxLen):Old.RowsIn w [] sv (oldRows rows):=by
 obtain ⟨o,cap,rfl,hx⟩:=h
 obtain ⟨hc1,hc2⟩:=hcap _ _ _ rfl
 refine ⟨vs,by simp [oldRows,hlen],⟨o,cap,by simp [oldRows,hlen],by simp [oldRows]; omega,hc2,by simp [oldRows,hlen],fun hn=>?_⟩,fun i r u hi hu=>?_⟩
 ·rcases hx with hx | ⟨g,off,cs,rfl,hg,_,_,hcs⟩
  ·subst hx
   simp [oldRows] at hn hlen
   omega
  ·refine ⟨g,off,rfl,by simp,fun j u hj=>?_⟩
   obtain ⟨hj1,hj2⟩:=List.getElem?_eq_some_iff.1 hj
   simp only [World.cell?,hg]
   rw [hcs j hj1,hj2]
   rfl
 ·obtain ⟨hu1,hu2⟩:=List.getElem?_eq_some_iff.1 hu
  simp only [oldRows,List.getElem?_map] at hi
  have hir:i < rows.length:=by omega
  rw [List.getElem?_eq_getElem hir] at hi
  simp only [Option.map_some,Option.some.injEq] at hi
  subst hi
  rw [<- hu2]
  exact (hr i hu1 hir).old
theorem TabAt.old {w:World} {tv sv:Value} {name:ByteArray} {ko:Option Addr} {kn kc:Nat} {kinds:List Int} {rows:List (List V)} (h:TabAt w tv name (.slice ko kn kc) sv) (hk:Old.IntsIn w [] (.slice ko kn kc) kinds) (hr:Old.RowsIn w [] sv (oldRows rows)):Old.TabsIn w [] tv [⟨name,kinds,oldRows rows⟩]:=by
 obtain ⟨g,o,cap,cs,rfl,h2,h3,h4,h5,h6,h7⟩:=h.st
 refine ⟨[(name,.slice ko kn kc,sv)],rfl,⟨_,_,rfl,h4,h3,rfl,fun _=>⟨g,o,rfl,by simp,fun j u hj=>?_⟩⟩,fun i t p ht hp=>?_⟩
 ·simp only [World.cell?,h2]
  match j,hj with
  | 0,hj=>simp [Old.tabs3] at hj; subst hj; rw [Nat.add_zero,h5]; rfl
  | 1,hj=>simp [Old.tabs3] at hj; subst hj; rw [h6]; rfl
  | 2,hj=>simp [Old.tabs3] at hj; subst hj; rw [show o+2=o+1+1 by omega,h7]; rfl
  | n+3,hj=>simp [Old.tabs3] at hj
 ·match i,ht,hp with
  | 0,ht,hp=>
   simp at ht hp
   subst ht
   subst hp
   exact ⟨rfl,hk,hr⟩
  | n+1,ht,hp=>simp at ht
theorem ints_nil (w:World):Old.IntsIn w [] (.slice none 0 0) []:=⟨none,0,rfl,Nat.le_refl _,Nat.zero_le _,rfl,fun h=>by simp at h⟩
theorem sums_nil (w:World):Old.SumsIn w [] (.slice none 0 0) []:=⟨none,0,rfl,Nat.le_refl _,Nat.zero_le _,rfl,fun h=>by simp at h⟩
theorem keys_nil (w:World):Old.KeysIn w [] (.slice none 0 0) []:=⟨none,0,rfl,Nat.le_refl _,Nat.zero_le _,rfl,fun h=>by simp at h⟩
def planOld (name:ByteArray) (ks:List K):List Old.VN:=[⟨1,0,0,name,[],0,[],[],[]⟩,⟨2,0,0,⟨#[]⟩,ks.map K.old,0,[],[],[]⟩]
theorem PlanAt.old {w:World} {gp:Nat} {name:ByteArray} {kv:Value} {ks:List K} (h:PlanAt w gp name kv) (hk:KeysAt w kv ks):Old.NodesIn w [] (.slice (some ⟨gp,0,none⟩) 2 2) (planOld name ks):=by
 refine ⟨[(.slice none 0 0,.slice none 0 0,.slice none 0 0,.slice none 0 0),(kv,.slice none 0 0,.slice none 0 0,.slice none 0 0)],rfl,⟨_,_,rfl,Nat.le_refl _,by unfold maxLen; omega,rfl,fun _=>⟨gp,0,rfl,by simp,fun j u hj=>?_⟩⟩,fun i n p hn hp=>?_⟩
 ·rw [Nat.zero_add]
  have e:Old.nodes9 ((planOld name ks).zip [(Value.slice none 0 0,Value.slice none 0 0,Value.slice none 0 0,Value.slice none 0 0),(kv,.slice none 0 0,.slice none 0 0,.slice none 0 0)])=(planCells name kv).toList:=rfl
  rw [e] at hj
  exact h.cell j u (by simpa using hj)
 ·match i,hn,hp with
  | 0,hn,hp=>
   simp [planOld] at hn hp
   subst hn
   subst hp
   exact ⟨keys_nil w,ints_nil w,ints_nil w,sums_nil w⟩
  | 1,hn,hp=>
   simp [planOld] at hn hp
   subst hn
   subst hp
   exact ⟨hk.old,ints_nil w,ints_nil w,sums_nil w⟩
  | n+2,hn,hp=>simp [planOld] at hn
theorem below_touch {w w':World} (h:Below w.heap.size w w') (hs:w.heap.size <= w'.heap.size):Touch [] w w':=⟨h.os,h.tape,h.output,hs,fun k hk _=>h.block k hk⟩
theorem new3 (w:World) (o1 o2 o3:Obj):(((w.alloc o1).alloc o2).alloc o3).heap[w.heap.size+1+1]?=some o3:=by
 have e1:=heap_alloc_new ((w.alloc o1).alloc o2) o3
 rw [World.size_alloc,World.size_alloc] at e1
 exact e1
structure Ans (G:List (List V) -> Prop) (lo:Nat) (w w':World) (lv:Value) (l:List (List V)):Prop where
 good:G l
 list:∃ vs',LOwn w' lv vs' /\ vs'.length=l.length /\ ∀ i (_:i < vs'.length) (_:i < l.length),RowAt w' vs'[i] l[i]
 kept:Kept lo w w'
theorem Ans.boxes {G:List (List V) -> Prop} {bs:Nat} {w W W' W2:World} {lv:Value} {l:List (List V)} {F:List Nat} (h:Ans G bs W W' lv l) (hw:Kept bs w W) (t:Touch F W' W2) (hF:∀ k∈F,w.heap.size <= k) (h83:NoTag 83 W' F) (h85:NoTag 85 W' F) (hlo:bs <= w.heap.size):Ans G bs w W2 lv l:=by
 obtain ⟨vs',a,b,c⟩:=h.list
 exact ⟨h.good,⟨vs',a.keep (t.tag h83),b,fun i hi hj=>Sl3.keep (c i hi hj) (t.tag h85)⟩,(hw.trans h.kept).new t hF hlo⟩
theorem query_gen (G:List (List V) -> Prop) (w:World) (gp N:Nat) (tO:Option Addr) (tn tc:Nat) (bx bm blk fan bud:Nat) (d:DS) (M:List PF) (hpd:PD w bx bm d M) (b1:64 <= blk) (hb2:blk <= 4096) (f1:2 <= fan) (f2:fan <= 16) (bud1:4 * blk <= bud) (b3:(blk:Int) <= d.block)
  (hV:∀ W,Touch [] w W -> Calls Tryz.prog 56 #[.slice tO tn tc,.slice (some ⟨gp,0,none⟩) N N] W fun e w'=>e=.returned (.bool true) /\ Touch [] W w')
  (hA:∀ W,Touch [] w W -> Calls Tryz.prog 59 #[.slice tO tn tc,.slice (some ⟨gp,0,none⟩) N N,.agg #[.int .i64 (blk:Int),.int .i64 (fan:Int),.int .i64 (bud:Int)],.pointer (some ⟨bx,0,none⟩)] W fun e w'=>∃ lv l,e=.returned lv /\ Ans G bm W w' lv l) :
  Calls Tryz.prog 18 #[.slice tO tn tc,.slice (some ⟨gp,0,none⟩) N N,.agg #[.int .i64 (blk:Int),.int .i64 (fan:Int),.int .i64 (bud:Int)],.pointer (some ⟨bx,0,none⟩)] w fun e w'=>∃ lv l,e=.returned (.tuple #[lv,.int .i64 0]) /\ Ans G bm w w' lv l:=by
 have hbm:bm < w.heap.size:=hpd.lt bm (by simp)
 have HV:Hid (∀ W,Touch [] w W -> Calls Tryz.prog 56 #[.slice tO tn tc,.slice (some ⟨gp,0,none⟩) N N] W fun e w'=>e=.returned (.bool true) /\ Touch [] W w'):=hV
 have HA:Hid (∀ W,Touch [] w W -> Calls Tryz.prog 59 #[.slice tO tn tc,.slice (some ⟨gp,0,none⟩) N N,.agg #[.int .i64 (blk:Int),.int .i64 (fan:Int),.int .i64 (bud:Int)],.pointer (some ⟨bx,0,none⟩)] W fun e w'=>∃ lv l,e=.returned lv /\ Ans G bm W w' lv l):=hA
 have HBL:Hid (∀ W,Touch [] w W -> Calls Tryz.prog 58 #[.pointer (some ⟨bx,0,none⟩)] W fun e w'=>e=.returned (.int .i64 d.block) /\ w'=W):=fun W hW=>block_any W bx bm d M (hpd.away hW (by simp))
 have HCF:Hid (∀ W,Calls Tryz.prog 57 #[.agg #[.int .i64 (blk:Int),.int .i64 (fan:Int),.int .i64 (bud:Int)]] W fun e w'=>e=.returned (.bool true) /\ Touch [] W w'):=fun W=>goodConfig_any W blk fan bud b1 hb2 f1 f2
 have hmf:∀ (fn:Fn) (first cap:Array Value) (w:World),(Instr.makeFunc fn first cap).run Tryz.prog w=.ok (.func fn first cap) w:=fun _ _ _ _=>rfl
 have d1:¬ (bud:Int) < 4 * (blk:Int):=by omega
 have d2:¬ d.block < (blk:Int):=by omega
 clear hpd hV hA
 go_enter_defers Tryz.func18,Tryz.ntmps18
 go_wp2_with (first | (go_at_call 56; refine (HV.out _ ((((Touch.refl [] _).alloc _).alloc _).alloc _)).mono ?_; rintro e w1 ⟨rfl,hT1⟩; have hB6:w1.heap[w.heap.size]?=some (.cells #[.int .i64 (blk:Int),.int .i64 (fan:Int),.int .i64 (bud:Int)] 51 (0,0)):=hT1.tag0 51 _ _ _ ((Below.heap_alloc _ _ _ (by simp only [World.size_alloc]; omega)).trans ((Below.heap_alloc _ _ _ (by simp)).trans (heap_alloc_new w _))); have hB8:w1.heap[w.heap.size+1]?=some (.cells #[.slice none 0 0] 36 (0,0)):=hT1.tag0 36 _ _ _ ((Below.heap_alloc _ _ _ (by simp)).trans (new2 _ _ _)); have hB9:w1.heap[w.heap.size+1+1]?=some (.cells #[.int .i64 0] 48 (0,0)):=hT1.tag0 48 _ _ _ (new3 _ _ _ _); obtain ⟨c0,c1,c2⟩:=box3 hB6; have HT1:Hid (Touch [] w w1):=((((Touch.refl [] _).alloc _).alloc _).alloc _).trans hT1; have HB6:Hid (w1.heap[w.heap.size]?=some (.cells #[.int .i64 (blk:Int),.int .i64 (fan:Int),.int .i64 (bud:Int)] 51 (0,0))):=hB6; have HB8:Hid (w1.heap[w.heap.size+1]?=some (.cells #[.slice none 0 0] 36 (0,0))):=hB8; have HB9:Hid (w1.heap[w.heap.size+1+1]?=some (.cells #[.int .i64 0] 48 (0,0))):=hB9; clear hT1 hB6 hB8 hB9) | (go_at_call 57; refine (HCF.out _).mono ?_; rintro e w2 ⟨rfl,hT2⟩; obtain ⟨e0,e1,e2⟩:=box3 (hT2.tag0 51 _ _ _ HB6.out)))
 have d3:decide ((bud:Int) < 4 * (blk:Int))=false:=decide_eq_false (by omega)
 have d4:IntKind.i64.wrap (4 * (blk:Int))=4 * (blk:Int):=wrap_small _ (by omega) (by omega)
 have d5:decide (d.block < (blk:Int))=false:=decide_eq_false (by omega)
 have HT2:Hid (Touch [] w w2):=HT1.out.trans hT2
 have HC6:Hid (w2.heap[w.heap.size]?=some (.cells #[.int .i64 (blk:Int),.int .i64 (fan:Int),.int .i64 (bud:Int)] 51 (0,0))):=hT2.tag0 51 _ _ _ HB6.out
 have HC8:Hid (w2.heap[w.heap.size+1]?=some (.cells #[.slice none 0 0] 36 (0,0))):=hT2.tag0 36 _ _ _ HB8.out
 have HC9:Hid (w2.heap[w.heap.size+1+1]?=some (.cells #[.int .i64 0] 48 (0,0))):=hT2.tag0 48 _ _ _ HB9.out
 clear hT2
 go_region_held3 (fun w'=>w'.cell? ⟨w.heap.size,0,none⟩=some (.int .i64 (blk:Int)) /\ w'.cell? ⟨w.heap.size,1,none⟩=some (.int .i64 (fan:Int)) /\ w'.cell? ⟨w.heap.size,2,none⟩=some (.int .i64 (bud:Int))) (go_keep) (first | (go_at_call 58; refine (HBL.out _ (HT2.out.drew)).mono ?_; rintro e w3 ⟨rfl,hw3⟩; have HT3:Hid (Touch [] w2 w3):=by { rw [hw3]; exact (Touch.refl [] _).drew }; clear hw3; obtain ⟨g0,g1,g2⟩:=box3 (HT3.out.tag0 51 _ _ _ HC6.out)))
 have HTq:Hid (Touch [] w w3):=HT2.out.trans HT3.out
 have HD6:Hid (w3.heap[w.heap.size]?=some (.cells #[.int .i64 (blk:Int),.int .i64 (fan:Int),.int .i64 (bud:Int)] 51 (0,0))):=HT3.out.tag0 51 _ _ _ HC6.out
 have HD8:Hid (w3.heap[w.heap.size+1]?=some (.cells #[.slice none 0 0] 36 (0,0))):=HT3.out.tag0 36 _ _ _ HC8.out
 have HD9:Hid (w3.heap[w.heap.size+1+1]?=some (.cells #[.int .i64 0] 48 (0,0))):=HT3.out.tag0 48 _ _ _ HC9.out
 go_wp2_with (first | (go_at_call 59; refine (HA.out _ HTq.out).mono ?_; rintro e w4 ⟨lv,l,rfl,hAns⟩; obtain ⟨lo,ln,lc,rfl⟩:=hAns.list.elim fun _ h=>h.1.slice; have q8:w4.heap[w.heap.size+1]?=some (.cells #[.slice none 0 0] 36 (0,0)):=hAns.kept.2 36 (by decide) (by decide) _ _ _ HD8.out; have q9:w4.heap[w.heap.size+1+1]?=some (.cells #[.int .i64 0] 48 (0,0)):=hAns.kept.2 48 (by decide) (by decide) _ _ _ HD9.out; have y8:w4.cell? ⟨w.heap.size+1,0,none⟩=some (.slice none 0 0):=by { simp [World.cell?,q8] }; have y9:w4.cell? ⟨w.heap.size+1+1,0,none⟩=some (.int .i64 0):=by { simp [World.cell?,q9] }; have f8:w4.frozen? ⟨w.heap.size+1,0,none⟩=false:=by { simp [World.frozen?,q8] }; have f9:w4.frozen? ⟨w.heap.size+1+1,0,none⟩=false:=by { simp [World.frozen?,q9] }))
 have hT4:Touch [w.heap.size+1,w.heap.size+1+1] w4 ((w4.setCell ⟨w.heap.size+1,0,none⟩ (.slice lo ln lc)).setCell ⟨w.heap.size+1+1,0,none⟩ (.int .i64 0)):=((Touch.refl _ _).setCell (by simp) _).setCell (by simp) _
 have hfin:=hAns.boxes HTq.out.kept hT4 (by intro k hk; simp at hk; omega) (by intro k hk cs f e; simp at hk; rcases hk with rfl | rfl; (rw [q8] at e; cases e); (rw [q9] at e; cases e)) (by intro k hk cs f e; simp at hk; rcases hk with rfl | rfl; (rw [q8] at e; cases e); (rw [q9] at e; cases e)) (Nat.le_of_lt hbm)
 have z9:((w4.setCell ⟨w.heap.size+1,0,none⟩ (.slice lo ln lc)).setCell ⟨w.heap.size+1+1,0,none⟩ (.int .i64 0)).cell? ⟨w.heap.size+1+1,0,none⟩=some (.int .i64 0):=by simp [go_sem, *]
 have z8:((w4.setCell ⟨w.heap.size+1,0,none⟩ (.slice lo ln lc)).setCell ⟨w.heap.size+1+1,0,none⟩ (.int .i64 0)).cell? ⟨w.heap.size+1,0,none⟩=some (.slice lo ln lc):=by simp [go_sem, *]
 refine leaves_cons (f:=54) (args:=#[.pointer (some ⟨w.heap.size+1,0,none⟩),.pointer (some ⟨w.heap.size+1+1,0,none⟩)]) (by simp) (by simp [go_sem]) ?_
 refine (caught_idle _ _ _).mono ?_
 rintro e u' w7 ⟨rfl,rfl,hw7⟩
 rw [hw7]
 generalize (w4.setCell ⟨w.heap.size+1,0,none⟩ (.slice lo ln lc)).setCell ⟨w.heap.size+1+1,0,none⟩ (.int .i64 0)=w5 at *
 simp [Leaves,settle,results,Tryz.results18,go_sem,z8,z9]
 exact ⟨l,hfin⟩
structure Answered (lo:Nat) (w w':World) (lv:Value) (out:List Rec) (ks:List K) (rows:List (List V)):Prop where
 perm:out.Perm (recsOf rows)
 sorted:Srt ks out
 list:∃ vs',LOwn w' lv vs' /\ vs'.length=out.length /\ ∀ i (_:i < vs'.length) (_:i < out.length),RowAt w' vs'[i] out[i].row
 kept:Kept lo w w'
theorem query_any (w:World) (gp:Nat) (tv sv:Value) (kl kc2:Nat) (kvo:Option Addr) (name:ByteArray) (ko:Option Addr) (kn kc:Nat) (bx bm blk fan bud cols:Nat) (ks:List K) (vs:List Value) (rows:List (List V)) (kinds:List Int) (d:DS) (M:List PF) (P m j j2:Nat) (h:AskCtx w gp tv sv (.slice kvo kl kc2) name ko kn kc bx bm blk fan bud cols ks vs rows d M) (hk:Old.IntsIn w [] (.slice ko kn kc) kinds) (hcap:∀ o n c,sv=.slice o n c -> n <= c /\ c <= maxLen) (hval:Old.ValidOK [⟨name,kinds,oldRows rows⟩] (planOld name ks)) (hks:ks.length <= 1048576) (hkl:kinds.length <= 1048576) (b1:64 <= blk) (f2:fan <= 16)
  (hl:Left d (2 * rows.length+((P * (rows.length+1)+m)+1)) (rows.length+j)) (hP:1000000000 <= P+j) (hPj:P+j2 <= j) (hPs:P <= 900000) :
  Calls Tryz.prog 18 #[tv,.slice (some ⟨gp,0,none⟩) 2 2,.agg #[.int .i64 (blk:Int),.int .i64 (fan:Int),.int .i64 (bud:Int)],.pointer (some ⟨bx,0,none⟩)] w fun e w'=>∃ lv out,e=.returned (.tuple #[lv,.int .i64 0]) /\ Answered bm w w' lv out ks rows:=by
 have hbm:bm < w.heap.size:=h.pd.lt bm (by simp)
 have htv:∃ o n c,tv=.slice o n c:=by
  obtain ⟨g,o,cap,cs,e,_⟩:=h.tab.st
  exact ⟨_,_,_,e⟩
 obtain ⟨tO,tn,tc,rfl⟩:=htv
 have hfew:=h.few
 have HV:Hid (∀ W,Touch [] w W -> Calls Tryz.prog 56 #[.slice tO tn tc,.slice (some ⟨gp,0,none⟩) 2 2] W fun e w'=>e=.returned (.bool true) /\ Touch [] W w'):=fun W hW=>by
  have hA:=h.quiet hW
  have hk':Old.IntsIn W [] (.slice ko kn kc) kinds:=Old.IntsIn.step hk (Old.stepB ⟨hW.os,hW.tape,hW.output,hW.size,fun k hk=>hW.block k hk (by simp)⟩)
  refine (Old.pvalid_any W _ _ [⟨name,kinds,oldRows rows⟩] (planOld name ks) (hA.tab.old hk' (hA.list.old hA.len hA.rowsAt hcap)) (hA.plan.old hA.keys) ⟨by simp,by simp [planOld],fun i hi=>?_,fun i hi=>?_⟩).mono ?_
  ·simp only [List.length_singleton] at hi
   have:i=0:=by omega
   subst this
   exact ⟨hkl,by simp [oldRows]; omega⟩
  ·match i,hi with
   | 0,_=>exact ⟨by simp [planOld],by simp [planOld],by simp [planOld],by simp [planOld]⟩
   | 1,_=>exact ⟨by simpa [planOld] using hks,by simp [planOld],by simp [planOld],by simp [planOld]⟩
   | n+2,hi=>exact absurd hi (by simp only [planOld,List.length_cons,List.length_nil]; omega)
  ·rintro e w' ⟨b,rfl,hb,hB⟩
   obtain rfl:b=true:=hb.2 hval
   exact ⟨rfl,below_touch hB hB.size⟩
 refine (query_gen (fun l=>∃ out,out.Perm (recsOf rows) /\ Srt ks out /\ l=out.map Rec.row) w gp 2 tO tn tc bx bm blk fan bud d M h.pd b1 h.b2 h.fan1 f2 h.bud1 h.b3 HV.out (fun W hW=>?_)).mono ?_
 ·refine (answer_any W gp _ sv kl kc2 kvo name ko kn kc bx bm blk fan bud cols ks vs rows d M P m j j2 (h.quiet hW) hl hP hPj hPs).mono ?_
  rintro e w' ⟨lv,out,rfl,p1,p2,⟨vs',a,b,c⟩,p4,p5⟩
  exact ⟨lv,_,rfl,⟨out,p1,p2,rfl⟩,⟨vs',a,by simpa using b,fun i hi hj=>by have:=c i hi (by simpa using hj); simpa using this⟩,p5⟩
 ·rintro e w' ⟨lv,l,rfl,⟨out,p1,p2,rfl⟩,⟨vs',a,b,c⟩,hk⟩
  exact ⟨lv,out,rfl,p1,p2,⟨vs',a,by simpa using b,fun i hi hj=>by have:=c i hi (by simpa using hj); simpa using this⟩,hk⟩
theorem large_any (w:World) (a b:Value) (o:Option Addr) (n c:Nat) (hn:n <= 100000) :
  Calls Tryz.prog 39 #[.agg #[a,b,.slice o n c]] w fun e w'=>e=.returned (.int .i64 ((1048576+8192 * n:Nat):Int)) /\ Touch [] w w':=by
 go_enter Tryz.func39,Tryz.ntmps39
 go_wp2
 go_ret
 exact ⟨by simp,(Touch.refl [] _).alloc _⟩
def nodeV (kv:Value):Value:=.agg #[.int .i64 2,.int .i64 0,.int .i64 0,.string ⟨#[]⟩,kv,.int .i64 0,.slice none 0 0,.slice none 0 0,.slice none 0 0]
def nameT:ByteArray:=⟨#[116]⟩
theorem with_any (w:World) (ko:Option Addr) (kn kc:Nat) :
  Calls Tryz.prog 33 #[nodeV (.slice ko kn kc)] w fun e w'=>∃ gp,e=.returned (.slice (some ⟨gp,0,none⟩) 2 2) /\ PlanAt w' gp nameT (.slice ko kn kc) /\ Touch [] w w':=by
 have HP:Hid (∀ W:World,PlanAt (W.alloc (.cells (planCells nameT (.slice ko kn kc)) 79)) W.heap.size nameT (.slice ko kn kc)):=fun W=>heap_alloc_new W _
 unfold nodeV
 go_enter Tryz.func33,Tryz.ntmps33
 go_wp2
 go_ret
 exact ⟨_,by simp,HP.out _,((Touch.refl [] _).alloc _).alloc _⟩
theorem pickN_lt (c n:Int) (h:1 <= n):0 <= pickN c n /\ pickN c n < n:=by
 unfold pickN
 exact ⟨Int.emod_nonneg _ (by omega),Int.emod_lt_of_pos _ (by omega)⟩
theorem fit_any (w:World) (b f u:Int) (hb:I64 b) (hf:I64 f) (hu:I64 u) :
  Calls Tryz.prog 34 #[.agg #[.int .i64 b,.int .i64 f,.int .i64 u]] w fun e w'=>∃ blk fan bud:Nat,e=.returned (.agg #[.int .i64 (blk:Int),.int .i64 (fan:Int),.int .i64 (bud:Int)]) /\ (64 <= blk /\ blk <= 512) /\ (2 <= fan /\ fan <= 16) /\ (4 * blk <= bud /\ bud <= 100000) /\ Touch [] w w':=by
 unfold I64 at hb hf hu
 have HB:Hid (∀ W,Calls Tryz.prog 40 #[.int .i64 b,.int .i64 449] W fun e w'=>e=.returned (.int .i64 (pickN b 449)) /\ w'=W):=fun W=>pick_any b 449 W (by omega) (by omega) (by omega) (by omega)
 have HP:Hid (∀ c n W,(c=f /\ n=15 \/ c=u /\ n=37) -> Calls Tryz.prog 40 #[.int .i64 c,.int .i64 n] W fun e w'=>e=.returned (.int .i64 (pickN c n)) /\ w'=W):=fun c n W h=>pick_any c n W (by omega) (by omega) (by omega) (by omega)
 obtain ⟨b0,b1⟩:=pickN_lt b 449 (by omega)
 obtain ⟨f0,f1⟩:=pickN_lt f 15 (by omega)
 obtain ⟨u0,u1⟩:=pickN_lt u 37 (by omega)
 generalize pickN b 449=x at *
 generalize hy:pickN f 15=y at f0 f1
 generalize hz:pickN u 37=z at u0 u1
 obtain ⟨x,rfl⟩:=Int.eq_ofNat_of_zero_le b0
 obtain ⟨y,rfl⟩:=Int.eq_ofNat_of_zero_le f0
 obtain ⟨z,rfl⟩:=Int.eq_ofNat_of_zero_le u0
 have HY:Hid (pickN f 15=(y:Int)):=hy
 have HZ:Hid (pickN u 37=(z:Int)):=hz
 clear hy hz
 have hm:(64+x) * (4+z) <= 512 * 40:=Nat.mul_le_mul (by omega) (by omega)
 have hm1:4 * (64+x) <= (64+x) * (4+z):=by rw [Nat.mul_comm]; exact Nat.mul_le_mul_left _ (by omega)
 have hmi:((64:Int)+(x:Int)) * (4+(z:Int))=(((64+x) * (4+z):Nat):Int):=by simp
 go_enter Tryz.func34,Tryz.ntmps34
 go_wp2_with (first | (go_at_call 40; refine (HB.out _).mono ?_; rintro e w1 ⟨rfl,hw1⟩; rw [hw1]; clear hw1 w1))
 have q1:IntKind.i64.wrap (((64:Int)+(x:Int)) * (4+(z:Int)))=((64:Int)+(x:Int)) * (4+(z:Int)):=wrap_small _ (by omega) (by omega)
 go_region_with (first | (go_at_call 40; refine (HP.out _ _ _ (by simp)).mono ?_; rintro e w1 ⟨rfl,hw1⟩; rw [hw1]; (first | rw [HY.out] | rw [HZ.out]); clear hw1 w1))
 all_goals
  have q2:IntKind.i64.wrap (2+(y:Int))=2+(y:Int):=wrap_small _ (by omega) (by omega)
  have q3:IntKind.i64.wrap (4+(z:Int))=4+(z:Int):=wrap_small _ (by omega) (by omega)
  simp only [q3,q2,q1]
  go_wp2
  exact bodyPost_ret (v:=.agg #[.int .i64 (64+(x:Int)),.int .i64 (2+(y:Int)),.int .i64 (((64:Int)+(x:Int)) * (4+(z:Int)))]) (by simp [results,Tryz.results34,go_sem]) rfl ⟨64+x,2+y,(64+x) * (4+z),by simp,⟨by omega,by omega⟩,⟨by omega,by omega⟩,⟨hm1,by omega⟩,(((Touch.refl [] _).alloc _).alloc _).drew⟩
theorem word_any (w:World) (n:Int) (hn:I64 n) :
  Calls Tryz.prog 62 #[.int .i64 n] w fun e w'=>∃ s:ByteArray,e=.returned (.string s) /\ s.size <= 9 /\ Touch [] w w':=by
 unfold I64 at hn
 have HP:Hid (∀ c n W,(-9223372036854775808 <= c /\ c <= 9223372036854775807 /\ 1 <= n /\ n <= 1000) -> Calls Tryz.prog 40 #[.int .i64 c,.int .i64 n] W fun e w'=>e=.returned (.int .i64 (pickN c n)) /\ w'=W):=fun c n W h=>pick_any c n W (by omega) (by omega) (by omega) (by omega)
 obtain ⟨x0,x1⟩:=pickN_lt n 10 (by omega)
 have hpx:=HP.out n 10
 generalize pickN n 10=x at *
 obtain ⟨x,rfl⟩:=Int.eq_ofNat_of_zero_le x0
 have HX:Hid (∀ W,Calls Tryz.prog 40 #[.int .i64 n,.int .i64 10] W fun e w'=>e=.returned (.int .i64 (x:Int)) /\ w'=W):=fun W=>hpx W ⟨by omega,by omega,by omega,by omega⟩
 clear hpx
 have HR:Hid (∀ c W,(-9223372036854775808 <= c /\ c <= 9223372036854775807) -> Calls Tryz.prog 40 #[.int .i64 c,.int .i64 3] W fun e w'=>∃ p:Nat,e=.returned (.int .i64 (p:Int)) /\ p < 3 /\ w'=W):=fun c W h=>by
  refine (pick_any c 3 W h.1 h.2 (by omega) (by omega)).mono ?_
  rintro e w' ⟨rfl,hw⟩
  obtain ⟨p0,p1⟩:=pickN_lt c 3 (by omega)
  exact ⟨(pickN c 3).toNat,by rw [Int.toNat_of_nonneg p0],by omega,hw⟩
 go_enter Tryz.func62,Tryz.ntmps62
 go_wp2_with (first | (go_at_call 40; refine (HX.out _).mono ?_; rintro e w1 ⟨rfl,hw1⟩; rw [hw1]; clear hw1 w1))
 go_loopw [3,4] (fun t i wr=>∃ (k:Nat) (bs:List UInt8),k <= x /\ i=.int .i64 (k:Int) /\ x=bs.length+k /\ Tx wr w.heap.size t bs /\ Fr w.heap.size w wr) (fun _ i _=>(intOf i).toNat)
 case atStart=>exact ⟨x,[],by omega,rfl,by simp,Tx.nil _ _,Fr.refl _ _⟩
 case round=>
  obtain ⟨k,bs,hk,rfl,hlen,hT,hB⟩:=hrel
  have hsz:=hB.size
  have HLN:Hid (x=bs.length+k):=hlen
  have hb9:bs.length <= 9:=by omega
  clear hlen
  by_cases hlt:0 < k
  ·rcases (show k=1 \/ k=2 \/ k=3 \/ k=4 \/ k=5 \/ k=6 \/ k=7 \/ k=8 \/ k=9 from by omega) with rfl | rfl | rfl | rfl | rfl | rfl | rfl | rfl | rfl
   all_goals
    go_wp2_with (first | (go_at_call 40; refine (HR.out _ _ ⟨by omega,by omega⟩).mono ?_; rintro e w1 ⟨p,rfl,hp,hw1⟩; rw [hw1]; clear hw1 w1) | (at_builtin; refine tx_append rfl (.tmp 11) (.tmp 18) rfl w.heap.size _ _ rfl (hT.alloc _) _ [UInt8.ofNat (97+p)] _ rfl (new_one _ _ _ (by rw [UInt8.toNat_ofNat']; omega)) (by simp; omega) (by simp; omega) ?_; intro v1 w1 hT1 hB1))
    go_roundw
    case rel=>
     have h9:=HLN.out
     have hl9:(bs++[UInt8.ofNat (97+p)]).length=bs.length+1:=by rw [List.length_append,List.length_singleton]
     first | exact ⟨0,_,by omega,rfl,by rw [hl9]; omega,hT1,(hB.alloc (by omega) _).trans hB1⟩ | exact ⟨1,_,by omega,rfl,by rw [hl9]; omega,hT1,(hB.alloc (by omega) _).trans hB1⟩ | exact ⟨2,_,by omega,rfl,by rw [hl9]; omega,hT1,(hB.alloc (by omega) _).trans hB1⟩ | exact ⟨3,_,by omega,rfl,by rw [hl9]; omega,hT1,(hB.alloc (by omega) _).trans hB1⟩ | exact ⟨4,_,by omega,rfl,by rw [hl9]; omega,hT1,(hB.alloc (by omega) _).trans hB1⟩ | exact ⟨5,_,by omega,rfl,by rw [hl9]; omega,hT1,(hB.alloc (by omega) _).trans hB1⟩ | exact ⟨6,_,by omega,rfl,by rw [hl9]; omega,hT1,(hB.alloc (by omega) _).trans hB1⟩ | exact ⟨7,_,by omega,rfl,by rw [hl9]; omega,hT1,(hB.alloc (by omega) _).trans hB1⟩ | exact ⟨8,_,by omega,rfl,by rw [hl9]; omega,hT1,(hB.alloc (by omega) _).trans hB1⟩
    case measure=>simp [intOf]
  ·obtain rfl:k=0:=by omega
   have hcv:=tx_string hT
   go_wp2
   go_ret
   exact ⟨_,rfl,by have:=HLN.out; simp [ByteArray.size]; omega,below_touch hB.below hB.size⟩
section
variable {P:Program} {md:Region.Mode} {ops:Array Oper} {o:Oper} {Q:Exit -> Act -> World -> Prop}
def Behind (P:Program) (o:Oper) (Q:Exit -> Act -> World -> Prop):Exit -> Act -> World -> Prop:=Exit.then (fun a w=>o.wp P a w (fun a w=>Q .normal a w) Q) Q
theorem behind_out (h:LetsOut (Behind P o Q)):LetsOut Q:=h
theorem operWp_back {p:Oper} {a:Act} {w:World} {K:Act -> World -> Prop} (h:p.wp P a w K (Behind P o Q)):p.wp P a w K Q:=by
 unfold Oper.wp at *
 generalize (execOp a.eval p).run P w=r at *
 cases r with
 | ok n w'=>
  cases n<;>simp only [Oper.upon] at h ⊢<;>first | exact h | exact Calls.mono h (fun e w'' he=>by cases e<;>exact he)
 | halt x w'=>cases x<;>simp only [Oper.upon] at h ⊢<;>exact h
theorem getD_push_false (l:Array Bool) (k:Nat):(l.push false).getD k false=l.getD k false:=by
 simp only [Array.getD_eq_getD_getElem?,Array.getElem?_push]
 split
 ·rename_i h; subst h; simp
 ·rfl
theorem getD_push_true (l:Array Bool) (k:Nat) (h:k≠l.size):(l.push false).getD k true=l.getD k true:=by
 simp only [Array.getD_eq_getD_getElem?,Array.getElem?_push,if_neg h]
structure LastOK (md:Region.Mode) (ops:Array Oper) (o:Oper):Prop where
 waits:∀ j,j < ops.size -> ∃ e∈o.after,e.on=j /\ Region.binds md e=true
 inside:∀ e∈o.after,e.on < ops.size
 down:∀ (j:Nat) (p:Oper),ops[j]?=some p -> ∀ e∈p.after,e.on < j
 free:∀ (j:Nat) (p:Oper),ops[j]?=some p -> p.guard=none
 guard:o.guard=none
theorem ready_low (l:Array Bool) (hl:l.size=ops.size) (j:Nat) (hj:j < ops.size):j∈Region.ready md (ops.push o) (l.push false)↔j∈Region.ready md ops l:=by
 rw [mem_ready,mem_ready,getD_push_true l j (by omega),Array.getElem?_push,if_neg (by omega)]
 simp only [getD_push_false]
theorem listed_all (h:LastOK md ops o) (l:Array Bool) (hl:l.size=ops.size) (hr:Region.ready md ops l=[]):∀ j,j < ops.size -> l.getD j false=true:=by
 intro j
 induction j using Nat.strongRecOn with
 | _ j ih=>
  intro hj
  cases hc:l.getD j false with
  | true=>rfl
  | false=>
   exfalso
   have:j∈Region.ready md ops l:=by
    refine mem_ready.2 ⟨?_,ops[j],Array.getElem?_eq_getElem hj,fun e he _=>ih e.on (h.down j _ (Array.getElem?_eq_getElem hj) e he) (by have:=h.down j _ (Array.getElem?_eq_getElem hj) e he; omega)⟩
    rw [Array.getD_eq_getD_getElem?,Array.getElem?_eq_getElem (by omega)] at hc ⊢
    exact hc
   rw [hr] at this
   simp at this
theorem ready_last (h:LastOK md ops o) (l:Array Bool) (hl:l.size=ops.size):ops.size∈Region.ready md (ops.push o) (l.push false)↔Region.ready md ops l=[]:=by
 constructor
 ·intro hm
  obtain ⟨_,p,hp,ha⟩:=mem_ready.1 hm
  simp at hp
  subst hp
  refine List.eq_nil_iff_forall_not_mem.2 fun j hj=>?_
  obtain ⟨h1,q,hq,_⟩:=mem_ready.1 hj
  have hj':=(Array.getElem?_eq_some_iff.1 hq).1
  obtain ⟨e,he,rfl,hb⟩:=h.waits j hj'
  have:=ha e he hb
  rw [getD_push_false] at this
  rw [Array.getD_eq_getD_getElem?,Array.getElem?_eq_getElem (by omega)] at h1 this
  simp only [Option.getD_some] at h1 this
  rw [h1] at this
  cases this
 ·intro hr
  refine mem_ready.2 ⟨?_,o,by simp,fun e he _=>?_⟩
  ·rw [<- hl]
   simp
  ·rw [getD_push_false]
   exact listed_all h l hl hr e.on (h.inside e he)
theorem wpAny_push (h:LastOK md ops o):∀ (fuel:Nat) (l:Array Bool) (a:Act) (w:World),l.size=ops.size -> wpAny P md ops (Behind P o Q) fuel l a w -> wpAny P md (ops.push o) Q (fuel+1) (l.push false) a w:=by
 have hstop:∀ (fuel:Nat) (l:Array Bool) (a:Act) (w:World),l.size=ops.size -> Region.ready md ops l=[] -> Behind P o Q .normal a w -> wpAny P md (ops.push o) Q (fuel+1) (l.push false) a w:=by
  intro fuel l a w hl hr hq
  refine ⟨fun h0=>?_,fun i hi=>?_⟩
  ·have:=(ready_last h l hl).2 hr
   rw [h0] at this
   simp at this
  ·have hi2:i=ops.size:=by
    obtain ⟨_,p,hp,_⟩:=mem_ready.1 hi
    have hlt:=(Array.getElem?_eq_some_iff.1 hp).1
    rw [Array.size_push] at hlt
    rcases Nat.lt_or_ge i ops.size with hc | hc
    ·have:=(ready_low (o:=o) l hl i hc).1 hi
     rw [hr] at this
     simp at this
    ·omega
   subst hi2
   unfold wpOp
   simp only [Array.getElem?_push_size]
   rw [if_pos (by unfold Region.wanted; rw [h.guard])]
   refine .inl (Oper.wp_mono (fun a w hq=>wpAny_done ?_ hq _) hq)
   refine List.eq_nil_iff_forall_not_mem.2 fun j hj=>?_
   obtain ⟨h1,p,hp,_⟩:=mem_ready.1 hj
   have hlt:=(Array.getElem?_eq_some_iff.1 hp).1
   rw [Array.size_push] at hlt
   rcases Nat.lt_or_ge j ops.size with hc | hc
   ·have:=listed_all h l hl hr j hc
    rw [getD_set_ne true (by omega),getD_push_true l j (by omega)] at h1
    rw [Array.getD_eq_getD_getElem?,Array.getElem?_eq_getElem (by omega)] at h1 this
    simp only [Option.getD_some] at h1 this
    rw [h1] at this
    cases this
   ·have:j=ops.size:=by omega
    subst this
    rw [<- hl] at h1
    simp at h1
 intro fuel
 induction fuel with
 | zero=>
  intro l a w hl hw
  exact hstop 0 l a w hl hw.1 hw.2
 | succ fuel ih=>
  intro l a w hl hw
  by_cases hr:Region.ready md ops l=[]
  ·exact hstop _ l a w hl hr (hw.1 hr)
  ·refine ⟨fun h0=>?_,fun i hi=>?_⟩
   ·exfalso
    refine hr (List.eq_nil_iff_forall_not_mem.2 fun j hj=>?_)
    have hj':j < ops.size:=by
     obtain ⟨_,p,hp,_⟩:=mem_ready.1 hj
     exact (Array.getElem?_eq_some_iff.1 hp).1
    have:=(ready_low (o:=o) l hl j hj').2 hj
    rw [h0] at this
    simp at this
   ·have hi':i < ops.size:=by
     obtain ⟨_,p,hp,_⟩:=mem_ready.1 hi
     have hlt:=(Array.getElem?_eq_some_iff.1 hp).1
     rw [Array.size_push] at hlt
     rcases Nat.lt_or_ge i ops.size with hc | hc
     ·exact hc
     ·have:i=ops.size:=by omega
      subst this
      exact absurd ((ready_last h l hl).1 hi) hr
    have hm:=hw.2 i ((ready_low l hl i hi').1 hi)
    have hset:(l.push false).setIfInBounds i true=(l.setIfInBounds i true).push false:=by
     apply Array.ext_getElem?
     intro k
     rw [Array.getElem?_setIfInBounds,Array.getElem?_push,Array.getElem?_push,Array.getElem?_setIfInBounds,Array.size_setIfInBounds,Array.size_push]
     by_cases e:i=k
     ·subst e
      rw [if_pos rfl,if_pos (by omega),if_neg (by omega),if_pos rfl,if_pos (by omega)]
     ·rw [if_neg e,if_neg e]
    unfold wpOp at hm ⊢
    simp only [Array.getElem?_push,if_neg (show i≠ops.size by omega),Array.getElem?_eq_getElem hi'] at hm ⊢
    have hg:=h.free i _ (Array.getElem?_eq_getElem hi')
    rw [if_pos (by unfold Region.wanted; rw [hg])] at hm ⊢
    rw [hset]
    rcases hm with hm | ⟨h1,h2⟩
    ·exact .inl (operWp_back (Oper.wp_mono (fun a w hk=>ih _ a w (by simpa using hl) hk) hm))
    ·exact .inr ⟨h1,behind_out h2⟩
theorem wp_region_last {id:Nat} {full:Array Oper} {a:Act} {w:World} (S:World -> Prop) (hm:P.follows .mixedOrders=true) (hb:full.back?=some o) (h:LastOK .any full.pop o) (hS:S w.drew)
  (hw:S w.drew -> wpAnyH P .any full.pop (Behind P o Q) S full.pop.size (Array.replicate full.pop.size false) a w.drew):(Code.region id full true).wp P Q a w:=by
 have hf:full.pop.push o=full:=by
  obtain ⟨ys,rfl⟩:=Array.back?_eq_some_iff.1 hb
  simp
 refine wp_region_any hm ?_
 have:=wpAny_push h _ _ _ _ (by simp) (wpAny_of_held _ _ _ _ (hw hS))
 rw [hf] at this
 have hs:full.size=full.pop.size+1:=by rw [<- Array.size_push (v:=o),hf]
 rw [hs,Array.replicate_succ]
 exact this
end
def lastOK (ops:Array Oper) (o:Oper):Bool:=
 (List.range ops.size).all (fun j=>o.after.any fun e=>e.on == j && Region.binds .any e) && o.after.all (fun e=>decide (e.on < ops.size)) &&
  (List.range ops.size).all (fun j=>match ops[j]? with | some p=>p.after.all (fun e=>decide (e.on < j)) && p.guard.isNone | none=>true) && o.guard.isNone
theorem lastOK_spec {ops:Array Oper} {o:Oper} (h:lastOK ops o=true):LastOK .any ops o:=by
 unfold lastOK at h
 simp only [Bool.and_eq_true,List.all_eq_true,List.mem_range,Array.any_eq_true,Array.all_eq_true,decide_eq_true_eq] at h
 obtain ⟨⟨⟨h1,h2⟩,h3⟩,h4⟩:=h
 refine ⟨fun j hj=>?_,fun e he=>?_,fun j p hp e he=>?_,fun j p hp=>?_,by simpa using h4⟩
 ·obtain ⟨i,hi,he⟩:=h1 j hj
  exact ⟨o.after[i],Array.getElem_mem hi,by simpa using he.1,by simpa using he.2⟩
 ·obtain ⟨i,hi,rfl⟩:=Array.getElem_of_mem he
  exact h2 i hi
 ·have:=h3 j (Array.getElem?_eq_some_iff.1 hp).1
  rw [hp] at this
  simp only [Bool.and_eq_true,Array.all_eq_true,decide_eq_true_eq] at this
  obtain ⟨i,hi,rfl⟩:=Array.getElem_of_mem he
  exact this.1 i hi
 ·have:=h3 j (Array.getElem?_eq_some_iff.1 hp).1
  rw [hp] at this
  simp only [Bool.and_eq_true] at this
  simpa using this.2
def RawAt (w:World) (v:Value) (raw:List Int):Prop:=
 (∀ x∈raw,I64 x) /\ raw.length <= 9223372036854775807 /\ ∃ ao cap,v=.slice ao raw.length cap /\ (1 <= raw.length -> ∃ b off,ao=some ⟨b,off,none⟩ /\ ∀ j (h:j < raw.length),w.cell? ⟨b,off+j,none⟩=some (.int .i64 raw[j]))
def aOf (r:Int):V:=if pickN r 7=0 then ⟨0,0,⟨#[]⟩⟩ else ⟨1,pickN r 20 - 10,⟨#[]⟩⟩
def rowOf (r:Int) (i:Nat) (s:ByteArray):List V:=[aOf r,⟨1,(i:Int),⟨#[]⟩⟩,⟨2,0,s⟩,⟨3,pickN r 2,⟨#[]⟩⟩]
def TRow (raw:List Int) (i:Nat) (r:List V):Prop:=∃ s:ByteArray,s.size <= 9 /\ r=rowOf (raw.getD i 0) i s
def kindsC:Array Value:=#[.int .i64 1,.int .i64 1,.int .i64 2,.int .i64 3]
structure TabSt (w wr:World) (b2 bk b3:Nat) (raw:List Int) (sv:Value) (vs:List Value) (rows:List (List V)):Prop where
 box:wr.heap[b3]?=some (.cells #[.string nameT,.slice (some ⟨bk,0,none⟩) 4 4,sv] 70 (0,0))
 res:wr.heap[b2]?=some (.cells #[.string ⟨#[]⟩,.slice none 0 0,.slice none 0 0] 70 (0,0))
 kinds:wr.heap[bk]?=some (.cells kindsC 3 (0,0))
 list:LOwn wr sv vs
 own:∀ k,sv.ownBlock=some k -> w.heap.size <= k
 len:vs.length=rows.length
 rowsAt:∀ i (_:i < vs.length) (_:i < rows.length),RowAt wr vs[i] rows[i]
 trow:∀ i (h:i < rows.length),TRow raw i rows[i]
 touch:Touch [] w wr
theorem TabSt.quiet {w wr wr':World} {b2 bk b3:Nat} {raw:List Int} {sv:Value} {vs:List Value} {rows:List (List V)} (h:TabSt w wr b2 bk b3 raw sv vs rows) (t:Touch [] wr wr'):TabSt w wr' b2 bk b3 raw sv vs rows:=
 ⟨t.tag0 _ _ _ _ h.box,t.tag0 _ _ _ _ h.res,t.tag0 _ _ _ _ h.kinds,h.list.keep (t.tag0 _),h.own,h.len,fun i a b=>(h.rowsAt i a b).touch t,h.trow,h.touch.trans t⟩
theorem step_lst {ops:Array Oper} {o:Oper} {a:Act} {w:World} {K:Act -> World -> Prop} {Q:Exit -> Act -> World -> Prop} {E:Prop} (hgd:o.guard=none) (s x:Operand)
  (ho:o.op=.call { callee:=.builtin .append,args:=#[s,x],argTypes:=#[36,36] }) (v:Value) (vs:List Value) (hs:a.eval s=v) (hown:LOwn w v vs)
  (ad:Addr) (y:Value) (c:Nat) (hx:a.eval x=.slice (some ad) 1 c) (hnews:w.cell? ad=some y) (hy:y.oneCell'=true) (hlen:vs.length <= 1000000000)
  (h:∀ g cap w',LOwn w' (.slice (some ⟨g,0,none⟩) (vs.length+1) cap) (vs++[y]) -> w.grownBy w' v.ownBlock -> (v.ownBlock=some g \/ g=w.heap.size) -> g < w'.heap.size -> K (a.put o.dst (.slice (some ⟨g,0,none⟩) (vs.length+1) cap)) w') :
  if Region.wanted o (yielded ops a.tmps)=true then Oper.wp Tryz.prog o a w K Q else E:=by
 obtain ⟨i0,hi,hz0,hz1,hz2⟩:=info_parts info83
 refine step_append_lies w hgd s x 36 ho 0 83 i0 (.slice none 0 0) 1 24 Tryz.underlying36 hi hz0 hz1 hz2 rfl (by decide) v _ _ hs hown ad 1 c [y] hx (by simp) (fun j u hj=>?_) (by simpa using hy) (by decide) ?_ ?_ (Nat.zero_le _) _ rfl ?_
 ·match j,hj with
  | 0,hj=>simp at hj; subst hj; exact hnews
 ·unfold maxLen; omega
 ·omega
 ·intro g cap w' h1 h2 h3 h4
  refine h g cap w' ?_ h2 h3 h4
  unfold LOwn
  rw [List.length_append]
  exact h1
theorem rowAt_new (W:World) (a b c d:V):RowAt (W.alloc (.cells #[.int .i64 a.k,.int .i64 a.n,.string a.s,.int .i64 b.k,.int .i64 b.n,.string b.s,.int .i64 c.k,.int .i64 c.n,.string c.s,.int .i64 d.k,.int .i64 d.n,.string d.s] 85)) (.slice (some ⟨W.heap.size,0,none⟩) 4 4) [a,b,c,d]:=by
 refine ⟨_,_,rfl,by simp,by unfold maxLen; omega,fun _=>⟨_,_,_,_,rfl,heap_alloc_new W _,fun i hi=>?_⟩⟩
 simp only [List.map_cons,List.map_nil,List.length_cons,List.length_nil] at hi
 match i,hi with
 | 0,_=>exact ⟨rfl,rfl,rfl⟩
 | 1,_=>exact ⟨rfl,rfl,rfl⟩
 | 2,_=>exact ⟨rfl,rfl,rfl⟩
 | 3,_=>exact ⟨rfl,rfl,rfl⟩
theorem TabSt.grown {w W w2:World} {b2 bk b3:Nat} {raw:List Int} {sv:Value} {vs:List Value} {rows:List (List V)} (h:TabSt w W b2 bk b3 raw sv vs rows) (t2:Touch sv.ownBlock.toList W w2):(∀ t,(83:TypeId)≠t -> KeepTag t W w2) /\ Touch [] w w2:=by
 refine ⟨fun t ht=>t2.tag (fun k hk cs f e=>?_),⟨t2.os.trans h.touch.os,t2.tape.trans h.touch.tape,t2.output.trans h.touch.output,Nat.le_trans h.touch.size t2.size,fun k hk _=>?_⟩⟩
 ·obtain ⟨cs',h'⟩:=h.list.block k (by simpa using hk)
  rw [h'] at e
  simp only [Option.some.injEq,Obj.cells.injEq] at e
  exact ht e.2.1
 ·rw [t2.block k (Nat.lt_of_lt_of_le hk h.touch.size) (fun e=>?_)]
  ·exact h.touch.block k hk (by simp)
  ·have:=h.own k (by simpa using e)
   omega
theorem TabSt.push {w W w2:World} {b2 bk b3 g cap:Nat} {raw:List Int} {sv rv:Value} {vs:List Value} {rows:List (List V)} {row:List V} (h:TabSt w W b2 bk b3 raw sv vs rows) (hr:RowAt W rv row) (ht:TRow raw rows.length row) (hO:LOwn w2 (.slice (some ⟨g,0,none⟩) (vs.length+1) cap) (vs++[rv])) (t2:Touch sv.ownBlock.toList W w2) (hg:sv.ownBlock=some g \/ g=W.heap.size) (h3:w.heap.size <= b3) (hb2:b2≠b3) :
  TabSt w (w2.setCell ⟨b3,2,none⟩ (.slice (some ⟨g,0,none⟩) (vs.length+1) cap)) b2 bk b3 raw (.slice (some ⟨g,0,none⟩) (vs.length+1) cap) (vs++[rv]) (rows++[row]):=by
 obtain ⟨k2,tw⟩:=h.grown t2
 have hB:=k2 70 (by decide) _ _ _ h.box
 have t3:Touch [b3] w2 (w2.setCell ⟨b3,2,none⟩ (.slice (some ⟨g,0,none⟩) (vs.length+1) cap)):=(Touch.refl [b3] w2).setCell (p:=⟨b3,2,none⟩) (by simp) _
 have n3:∀ t,(70:TypeId)≠t -> NoTag t w2 [b3]:=fun t ht=>notag_of hB ht
 have k85:=(k2 85 (by decide)).trans (t3.tag (n3 85 (by decide)))
 refine ⟨?_,?_,t3.tag (n3 3 (by decide)) _ _ _ (k2 3 (by decide) _ _ _ h.kinds),hO.keep (t3.tag (n3 83 (by decide))),fun k hk=>?_,by simp [h.len],fun i a b=>?_,fun i hi=>?_,⟨tw.os,tw.tape,tw.output,?_,fun k hk _=>?_⟩⟩
 ·rw [heap_setCell_same w2 b3 2 _ 70 _ hB]; simp
 ·rw [heap_setCell_other w2 _ b2 _ hb2]; exact k2 70 (by decide) _ _ _ h.res
 ·simp [Value.ownBlock] at hk
  subst hk
  rcases hg with hg | hg
  ·exact h.own _ hg
  ·have:=h.touch.size; omega
 ·by_cases hi:i < vs.length
  ·have:=Sl3.keep (h.rowsAt i hi (by have:=h.len; omega)) k85
   rw [List.getElem_append_left hi,List.getElem_append_left (by have:=h.len; omega)]
   exact this
  ·simp only [List.length_append,List.length_singleton] at a b
   have e:i=vs.length:=by omega
   subst e
   have h1:(vs++[rv])[vs.length]'(by simp)=rv:=by simp
   have h2:(rows++[row])[vs.length]'(by have:=h.len; simp; omega)=row:=by simp [h.len]
   rw [h1,h2]
   exact Sl3.keep hr k85
 ·by_cases hi':i < rows.length
  ·rw [List.getElem_append_left hi']
   exact h.trow i hi'
  ·simp only [List.length_append,List.length_singleton] at hi
   have e:i=rows.length:=by omega
   subst e
   have h2:(rows++[row])[rows.length]'(by simp)=row:=by simp
   rw [h2]
   exact ht
 ·exact Nat.le_trans tw.size t3.size
 ·rw [t3.block k (Nat.lt_of_lt_of_le hk tw.size) (by simp; omega)]
  exact tw.block k hk (by simp)
structure Tabled (w w':World) (raw:List Int) (bk:Nat) (sv:Value) (vs:List Value) (rows:List (List V)):Prop where
 kinds:w'.heap[bk]?=some (.cells kindsC 3 (0,0))
 list:LOwn w' sv vs
 len:vs.length=rows.length
 rowsAt:∀ i (_:i < vs.length) (_:i < rows.length),RowAt w' vs[i] rows[i]
 trow:∀ i (h:i < rows.length),TRow raw i rows[i]
 num:rows.length=min raw.length 1000
 touch:Touch [] w w'
theorem TabSt.done {w wr wr':World} {b2 bk b3:Nat} {raw:List Int} {sv:Value} {vs:List Value} {rows:List (List V)} (h:TabSt w wr b2 bk b3 raw sv vs rows) (t:Touch [b2] wr wr') (hb:w.heap.size <= b2) (hn:rows.length=min raw.length 1000):Tabled w wr' raw bk sv vs rows:=by
 have n:∀ t,(70:TypeId)≠t -> NoTag t wr [b2]:=fun t ht=>notag_of h.res ht
 refine ⟨t.tag (n 3 (by decide)) _ _ _ h.kinds,h.list.keep (t.tag (n 83 (by decide))),h.len,fun i a b=>Sl3.keep (h.rowsAt i a b) (t.tag (n 85 (by decide))),h.trow,hn,h.touch.more t (fun i hi=>?_)⟩
 simp at hi
 omega
end Go.Proofs.YtjoinhljdbljaaaGreat
