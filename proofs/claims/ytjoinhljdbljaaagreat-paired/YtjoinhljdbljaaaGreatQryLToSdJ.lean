/- The walk of Query, over a scan and a sort, and what follows. -/
import Derived.Test.YtjoinhljdbljaaaGreatQryIToQryK
import Derived.Test.YtjoinhljdbljaaaGreatOVbWToOVbX
import Derived.Recover
set_option maxHeartbeats 4000000
set_option maxRecDepth 20000
set_option linter.unusedSectionVars false
namespace Go.Proofs.YtjoinhljdbljaaaGreat
open Go.RowKit Go.Proofs.Tryz
variable {W W' W2 w w':World} {bs kc kn:Nat} {lv sv tv v:Value}
theorem neqNil20 (w:World):(binOp .neq 20 .nilIface .nilIface).run prog w=.ok (.bool false) w:=by kernel_rfl
theorem caught_idle (a b:Nat)(w:World):CallsD prog 54 #[.pointer (some ⟨a,0,none⟩),.pointer (some ⟨b,0,none⟩)] .returning w λe u' w'=>e=.returned (.tuple #[])/\u'=.returning/\w'=w:=by
 have hne:=neqNil20;refine callsD_of_wpS func54 rfl λc₀ cs hu=>?_;apply wpS_seq;apply wpS_region;simp[wpOpsS,go_sem,recoverD,hu,ntmps54,Exit.thenS];apply wpS_seq;apply wpS_region;simp[wpOpsS,go_sem,hne,Exit.thenS];refine wpS_cond (t:=false) (by simp[Act.eval,Array.replicate]) ?_;simp only[Bool.false_eq_true,if_false];refine wpS_of_wp (wp_skip ?_);cases c₀;simp_all [bodyPostS,results,results54]
theorem goodConfig_any (w:World)(blk fan bud:Nat)(h1:64<=blk)(h2:blk<=4096)(h3:2<=fan)(h4:fan<=16):Calls prog 57 #[.agg #[.int .i64 (blk:Int),.int .i64 (fan:Int),.int .i64 (bud:Int)]] w λe w'=>e=.returned (.bool true)/\Touch [] w w':=by
 have d1:(64:Int)<=(blk:Int):=by omega
 have d2:(blk:Int)<=4096:=by omega
 have d3:(2:Int)<=(fan:Int):=by omega
 have d4:(fan:Int)<=16:=by omega
 go_enter func57,ntmps57;go_wp2;go_ret;exact⟨rfl,tr_.alloc _⟩
theorem block_any (w:World)(bx bm:Nat)(d:DS)(M:List PF)(h:PD w bx bm d M):Calls prog 58 #[.pointer (some ⟨bx,0,none⟩)] w λe w'=>e=.returned (.int .i64 d.block)/\w'=w:=by
 obtain⟨c0,_⟩:=Dl h.disk;clear h;go_enter func58,ntmps58;go_wp2;go_ret;exact⟨rfl,rfl⟩
def V.old (v:V):Old.V:=⟨v.k,v.n,v.s⟩
def K.old (y:K):Old.K:=⟨y.c,y.d,y.l⟩
def oO (rows:List (List V)):List (List Old.V):=rows.map λr=>r.map V.old
theorem old_t3s (l:List T3):Old.t3s l=flat3 l:=rfl
theorem Sl3.lies {t:TypeId}{l:List T3}(h:Sl3 t w v l):Old.LC w [] v 3 l.length (Old.t3s l):=by
 obtain⟨ao,cap,rfl,hc,hm,hx⟩:=h;refine⟨ao,cap,rfl,hc,hm,by rw[old_t3s,fA],λhn=>?_⟩;obtain⟨b,off,cs,f,rfl,hb,hx⟩:=hx hn;refine⟨b,off,rfl,by simp,λj u hj=>?_⟩;rw[old_t3s]at hj;have hlt:=(l_.1 hj).1;rw[fA]at hlt;obtain⟨i,r,rfl,hr⟩:∃i r,j=i*3+r/\r<3:=⟨j/3,j%3,by omega,by omega⟩;have hi:i<l.length:=by omega
 rw[f_ _ i r hi hr]at hj;obtain⟨x0,x1,x2⟩:=hx i hi;simp only[World.cell?,hb]
 match r,hr with
 | 0,_=>simp[T3.list]at hj;rw[show off+(i*3+0)=off+i*3 by omega,x0,hj];rfl
 | 1,_=>simp[T3.list]at hj;rw[show off+(i*3+1)=off+i*3+1 by omega,x1,hj];rfl
 | 2,_=>simp[T3.list]at hj;rw[show off+(i*3+2)=off+i*3+1+1 by omega,x2,hj];rfl
theorem Ro.old {w:World}{v:Value}{row:List V}(h:Ro w v row):Old.VI w [] v (row.map V.old):=by
 have:=Sl3.lies h;unfold Old.VI;rw[List.map_map,show(Old.V.t ∘ V.old)=V.t from rfl,u_];simpa using this
theorem KA.old {w:World}{v:Value}{ks:List K}(h:KA w v ks):Old.KI w [] v (ks.map K.old):=by
 have:=Sl3.lies h;unfold Old.KI;rw[List.map_map,show(Old.K.t ∘ K.old)=K.t from rfl,u_];simpa using this
theorem LAt.old {w:World}{sv:Value}{vs:List Value}{rows:List (List V)}(h:LAt w sv vs)(hlen:vs.length=rows.length)(hr:∀i (_:i<vs.length) (_:i<rows.length),Ro w vs[i] rows[i])(hcap:∀o n c,sv=.slice o n c->n<=c/\c<=maxLen):Old.RowsIn w [] sv (oO rows):=by
 obtain⟨o,cap,rfl,hx⟩:=h;obtain⟨hc1,hc2⟩:=hcap _ _ _ rfl;refine⟨vs,by simp[oO,hlen],⟨o,cap,by simp[oO,hlen],by simp[oO];omega,hc2,by simp[oO,hlen],λhn=>?_⟩,λi r u hi hu=>?_⟩
 ·rcases hx with hx|⟨g,off,cs,rfl,hg,_,_,hcs⟩
  ·subst hx;simp[oO]at hn hlen;omega
  ·refine⟨g,off,rfl,by simp,λj u hj=>?_⟩;obtain⟨hj1,hj2⟩:=l_.1 hj;simp only[World.cell?,hg];rw[hcs j hj1,hj2];rfl
 ·obtain⟨hu1,hu2⟩:=l_.1 hu;simp only[oO,M_]at hi;have hir:i<rows.length:=by omega
  rw[p_ hir]at hi;simp only[Option.map_some,j_]at hi;subst hi;rw[<-hu2];exact(hr i hu1 hir).old
theorem TabAt.old {name:ByteArray}{ko:Option Addr}{kinds:List Int}{rows:List (List V)}(h:TabAt w tv name (.slice ko kn kc) sv)(hk:Old.IntsIn w [] (.slice ko kn kc) kinds)(hr:Old.RowsIn w [] sv (oO rows)):Old.TI w [] tv [⟨name,kinds,oO rows⟩]:=by
 obtain⟨g,o,cap,cs,rfl,h2,h3,h4,h5,h6,h7⟩:=h.st;refine⟨[(name,.slice ko kn kc,sv)],rfl,⟨_,_,rfl,h4,h3,rfl,λ_=>⟨g,o,rfl,by simp,λj u hj=>?_⟩⟩,λi t p ht hp=>?_⟩
 ·simp only[World.cell?,h2]
  match j,hj with
  | 0,hj=>simp[Old.tabs3]at hj;subst hj;rw[Nat.add_zero,h5];rfl
  | 1,hj=>simp[Old.tabs3]at hj;subst hj;rw[h6];rfl
  | 2,hj=>simp[Old.tabs3]at hj;subst hj;rw[show o+2=o+1+1 by omega,h7];rfl
  | n+3,hj=>simp[Old.tabs3]at hj
 ·match i,ht,hp with
  | 0,ht,hp=>
   simp at ht hp;subst ht;subst hp;exact⟨rfl,hk,hr⟩
  | n+1,ht,hp=>simp at ht
theorem iT (w:World):Old.IntsIn w [] (.slice none 0 0) []:=⟨none,0,rfl,e_ _,x_ _,rfl,λh=>by simp at h⟩
theorem sU (w:World):Old.SN w [] (.slice none 0 0) []:=⟨none,0,rfl,e_ _,x_ _,rfl,λh=>by simp at h⟩
theorem keys_nil (w:World):Old.KI w [] (.slice none 0 0) []:=⟨none,0,rfl,e_ _,x_ _,rfl,λh=>by simp at h⟩
def pq (name:ByteArray)(ks:List K):List Old.VN:=[⟨1,0,0,name,[],0,[],[],[]⟩,⟨2,0,0,⟨#[]⟩,ks.map K.old,0,[],[],[]⟩]
theorem PL.old {w:World}{gp:Nat}{name:ByteArray}{kv:Value}{ks:List K}(h:PL w gp name kv)(hk:KA w kv ks):Old.NI w [] (.slice (some ⟨gp,0,none⟩) 2 2) (pq name ks):=by
 refine⟨[(.slice none 0 0,.slice none 0 0,.slice none 0 0,.slice none 0 0),(kv,.slice none 0 0,.slice none 0 0,.slice none 0 0)],rfl,⟨_,_,rfl,e_ _,by unfold maxLen;omega,rfl,λ_=>⟨gp,0,rfl,by simp,λj u hj=>?_⟩⟩,λi n p hn hp=>?_⟩
 ·rw[U_];have e:Old.nH ((pq name ks).zip [(Value.slice none 0 0,Value.slice none 0 0,Value.slice none 0 0,Value.slice none 0 0),(kv,.slice none 0 0,.slice none 0 0,.slice none 0 0)])=(pG name kv).toList:=rfl;rw[e]at hj;unfold PL at h;simp only[World.cell?,h];simpa using hj
 ·match i,hn,hp with
  | 0,hn,hp=>
   simp[pq]at hn hp;subst hn;subst hp;exact⟨keys_nil w,iT w,iT w,sU w⟩
  | 1,hn,hp=>
   simp[pq]at hn hp;subst hn;subst hp;exact⟨hk.old,iT w,iT w,sU w⟩
  | n+2,hn,hp=>simp[pq]at hn
variable [Inhabited Ground]
theorem bW (h:Below w.heap.size w w')(hs:w.heap.size<=w'.heap.size):Touch [] w w':=⟨h.os,h.tape,h.output,hs,λk hk _=>h.block k hk⟩
theorem new3 (w:World)(o1 o2 o3:Obj):(((w.alloc o1).alloc o2).alloc o3).heap[w.heap.size+1+1]?=some o3:=by
 have e1:=heap_alloc_new ((w.alloc o1).alloc o2) o3;rw[World.size_alloc,World.size_alloc]at e1;exact e1
structure Ans (G:List (List V)->Prop)(lo:Nat)(w w':World)(lv:Value)(l:List (List V)):Prop where
 good:G l
 list:∃vs',LW w' lv vs'/\vs'.length=l.length/\∀i (_:i<vs'.length) (_:i<l.length),Ro w' vs'[i] l[i]
 kept:Kept lo w w'
theorem Ans.boxes {G:List (List V)->Prop}{l:List (List V)}{F:List Nat}(h:Ans G bs W W' lv l)(hw:Kept bs w W)(t:Touch F W' W2)(hF:∀k∈F,w.heap.size<=k)(h83:NT 83 W' F)(h85:NT 85 W' F)(hlo:bs<=w.heap.size):Ans G bs w W2 lv l:=by
 obtain⟨vs',a,b,c⟩:=h.list;exact⟨h.good,⟨vs',a.keep (t.tag h83),b,λi hi hj=>Sl3.keep (c i hi hj) (t.tag h85)⟩,(hw.trans h.kept).new t hF hlo⟩
theorem query_gen (G:List (List V)->Prop)(w:World)(gp N:Nat)(tO:Option Addr)(tn tc:Nat)(bx bm blk fan bud:Nat)(d:DS)(M:List PF)(hpd:PD w bx bm d M)(b1:64<=blk)(hb2:blk<=4096)(f1:2<=fan)(f2:fan<=16)(bud1:4*blk<=bud)(b3:(blk:Int)<=d.block)
  (hV:∀W,Touch [] w W->Calls prog 56 #[.slice tO tn tc,.slice (some ⟨gp,0,none⟩) N N] W λe w'=>e=.returned (.bool true)/\Touch [] W w')
  (hA:∀W,Touch [] w W->Calls prog 59 #[.slice tO tn tc,.slice (some ⟨gp,0,none⟩) N N,.agg #[.int .i64 (blk:Int),.int .i64 (fan:Int),.int .i64 (bud:Int)],.pointer (some ⟨bx,0,none⟩)] W λe w'=>∃lv l,e=.returned lv/\Ans G bm W w' lv l) :
  Calls prog 18 #[.slice tO tn tc,.slice (some ⟨gp,0,none⟩) N N,.agg #[.int .i64 (blk:Int),.int .i64 (fan:Int),.int .i64 (bud:Int)],.pointer (some ⟨bx,0,none⟩)] w λe w'=>∃lv l,e=.returned (.tuple #[lv,.int .i64 0])/\Ans G bm w w' lv l:=by
 have hbm:bm<w.heap.size:=hpd.lt bm (by simp);have HV:Hid (∀W,Touch [] w W->Calls prog 56 #[.slice tO tn tc,.slice (some ⟨gp,0,none⟩) N N] W λe w'=>e=.returned (.bool true)/\Touch [] W w'):=hV;have HA:Hid (∀W,Touch [] w W->Calls prog 59 #[.slice tO tn tc,.slice (some ⟨gp,0,none⟩) N N,.agg #[.int .i64 (blk:Int),.int .i64 (fan:Int),.int .i64 (bud:Int)],.pointer (some ⟨bx,0,none⟩)] W λe w'=>∃lv l,e=.returned lv/\Ans G bm W w' lv l):=hA;have HBL:Hid (∀W,Touch [] w W->Calls prog 58 #[.pointer (some ⟨bx,0,none⟩)] W λe w'=>e=.returned (.int .i64 d.block)/\w'=W):=λW hW=>block_any W bx bm d M (hpd.away hW (by simp));have HCF:Hid (∀W,Calls prog 57 #[.agg #[.int .i64 (blk:Int),.int .i64 (fan:Int),.int .i64 (bud:Int)]] W λe w'=>e=.returned (.bool true)/\Touch [] W w'):=λW=>goodConfig_any W blk fan bud b1 hb2 f1 f2;have hmf:∀(fn:Fn) (first cap:Array Value) (w:World),(Instr.makeFunc fn first cap).run prog w=.ok (.func fn first cap) w:=λ_ _ _ _=>rfl;have d1:¬(bud:Int)<4*(blk:Int):=by omega
 have d2:¬d.block<(blk:Int):=by omega
 clear hpd hV hA
 go_enter_defers func18,ntmps18
 go_wp2_with (first|(go_at_call 56;refine(HV.out _ (((tr_.alloc _).alloc _).alloc _)).mono ?_;rintro e w1 ⟨rfl,hT1⟩;have hB6:w1.heap[w.heap.size]?=some (.cells #[.int .i64 (blk:Int),.int .i64 (fan:Int),.int .i64 (bud:Int)] 51 (0,0)):=hT1.tu 51 _ _ _ ((Below.heap_alloc _ _ _ (by simp only[World.size_alloc];omega)).trans ((Below.heap_alloc _ _ _ (by simp)).trans (heap_alloc_new w _)));have hB8:w1.heap[w.heap.size+1]?=some (.cells #[.slice none 0 0] 36 (0,0)):=hT1.tu 36 _ _ _ ((Below.heap_alloc _ _ _ (by simp)).trans (new2 _ _ _));have hB9:w1.heap[w.heap.size+1+1]?=some (.cells #[.int .i64 0] 48 (0,0)):=hT1.tu 48 _ _ _ (new3 _ _ _ _);obtain⟨c0,c1,c2⟩:=bD hB6;have HT1:Hid (Touch [] w w1):=(((tr_.alloc _).alloc _).alloc _).trans hT1;have HB6:Hid (w1.heap[w.heap.size]?=some (.cells #[.int .i64 (blk:Int),.int .i64 (fan:Int),.int .i64 (bud:Int)] 51 (0,0))):=hB6;have HB8:Hid (w1.heap[w.heap.size+1]?=some (.cells #[.slice none 0 0] 36 (0,0))):=hB8;have HB9:Hid (w1.heap[w.heap.size+1+1]?=some (.cells #[.int .i64 0] 48 (0,0))):=hB9;clear hT1 hB6 hB8 hB9)|(go_at_call 57;refine(HCF.out _).mono ?_;rintro e w2 ⟨rfl,hT2⟩;obtain⟨e0,e1,e2⟩:=bD (hT2.tu 51 _ _ _ HB6.out)))
 have d3:decide ((bud:Int)<4*(blk:Int))=false:=decide_eq_false (by omega);have d4:IntKind.i64.wrap (4*(blk:Int))=4*(blk:Int):=wrap_small _ (by omega) (by omega);have d5:decide (d.block<(blk:Int))=false:=decide_eq_false (by omega);have HT2:Hid (Touch [] w w2):=HT1.out.trans hT2;have HC6:Hid (w2.heap[w.heap.size]?=some (.cells #[.int .i64 (blk:Int),.int .i64 (fan:Int),.int .i64 (bud:Int)] 51 (0,0))):=hT2.tu 51 _ _ _ HB6.out;have HC8:Hid (w2.heap[w.heap.size+1]?=some (.cells #[.slice none 0 0] 36 (0,0))):=hT2.tu 36 _ _ _ HB8.out;have HC9:Hid (w2.heap[w.heap.size+1+1]?=some (.cells #[.int .i64 0] 48 (0,0))):=hT2.tu 48 _ _ _ HB9.out;clear hT2
 go_region_held3 (λw'=>w'.cell? ⟨w.heap.size,0,none⟩=some (.int .i64 (blk:Int))/\w'.cell? ⟨w.heap.size,1,none⟩=some (.int .i64 (fan:Int))/\w'.cell? ⟨w.heap.size,2,none⟩=some (.int .i64 (bud:Int))) (go_keep) (first|(go_at_call 58;refine(HBL.out _ (HT2.out.drew)).mono ?_;rintro e w3 ⟨rfl,hw3⟩;have HT3:Hid (Touch [] w2 w3):=by{ rw[hw3];exact tr_.drew };clear hw3;obtain⟨g0,g1,g2⟩:=bD (HT3.out.tu 51 _ _ _ HC6.out)))
 have HTq:Hid (Touch [] w w3):=HT2.out.trans HT3.out;have HD6:Hid (w3.heap[w.heap.size]?=some (.cells #[.int .i64 (blk:Int),.int .i64 (fan:Int),.int .i64 (bud:Int)] 51 (0,0))):=HT3.out.tu 51 _ _ _ HC6.out;have HD8:Hid (w3.heap[w.heap.size+1]?=some (.cells #[.slice none 0 0] 36 (0,0))):=HT3.out.tu 36 _ _ _ HC8.out;have HD9:Hid (w3.heap[w.heap.size+1+1]?=some (.cells #[.int .i64 0] 48 (0,0))):=HT3.out.tu 48 _ _ _ HC9.out
 go_wp2_with (first|(go_at_call 59;refine(HA.out _ HTq.out).mono ?_;rintro e w4 ⟨lv,l,rfl,hAns⟩;obtain⟨lo,ln,lc,rfl⟩:=hAns.list.elim λ_ h=>h.1.slice;have q8:w4.heap[w.heap.size+1]?=some (.cells #[.slice none 0 0] 36 (0,0)):=hAns.kept.2 36 (by decide) (by decide) _ _ _ HD8.out;have q9:w4.heap[w.heap.size+1+1]?=some (.cells #[.int .i64 0] 48 (0,0)):=hAns.kept.2 48 (by decide) (by decide) _ _ _ HD9.out;have y8:w4.cell? ⟨w.heap.size+1,0,none⟩=some (.slice none 0 0):=by{ simp[World.cell?,q8] };have y9:w4.cell? ⟨w.heap.size+1+1,0,none⟩=some (.int .i64 0):=by{ simp[World.cell?,q9] };have f8:w4.frozen? ⟨w.heap.size+1,0,none⟩=false:=by{ simp[World.frozen?,q8] };have f9:w4.frozen? ⟨w.heap.size+1+1,0,none⟩=false:=by{ simp[World.frozen?,q9] }))
 have hT4:Touch [w.heap.size+1,w.heap.size+1+1] w4 ((w4.setCell ⟨w.heap.size+1,0,none⟩ (.slice lo ln lc)).setCell ⟨w.heap.size+1+1,0,none⟩ (.int .i64 0)):=((Touch.refl _ _).setCell (by simp) _).setCell (by simp) _;have hfin:=hAns.boxes HTq.out.kept hT4 (by intro k hk;simp at hk;omega) (by intro k hk cs f e;simp at hk;rcases hk with rfl|rfl;(rw[q8]at e;cases e);(rw[q9]at e;cases e)) (by intro k hk cs f e;simp at hk;rcases hk with rfl|rfl;(rw[q8]at e;cases e);(rw[q9]at e;cases e)) (Z_ hbm);have z9:((w4.setCell ⟨w.heap.size+1,0,none⟩ (.slice lo ln lc)).setCell ⟨w.heap.size+1+1,0,none⟩ (.int .i64 0)).cell? ⟨w.heap.size+1+1,0,none⟩=some (.int .i64 0):=by simp[go_sem, *]
 have z8:((w4.setCell ⟨w.heap.size+1,0,none⟩ (.slice lo ln lc)).setCell ⟨w.heap.size+1+1,0,none⟩ (.int .i64 0)).cell? ⟨w.heap.size+1,0,none⟩=some (.slice lo ln lc):=by simp[go_sem, *]
 refine leaves_cons (f:=54) (args:=#[.pointer (some ⟨w.heap.size+1,0,none⟩),.pointer (some ⟨w.heap.size+1+1,0,none⟩)]) (by simp) (by simp[go_sem]) ?_;refine(caught_idle _ _ _).mono ?_;rintro e u' w7 ⟨rfl,rfl,hw7⟩;rw[hw7];generalize (w4.setCell ⟨w.heap.size+1,0,none⟩ (.slice lo ln lc)).setCell ⟨w.heap.size+1+1,0,none⟩ (.int .i64 0)=w5 at *;simp[Leaves,settle,results,results18,go_sem,z8,z9];exact⟨l,hfin⟩
structure Aw (lo:Nat)(w w':World)(lv:Value)(out:List Rec)(ks:List K)(rows:List (List V)):Prop where
 perm:out.Perm (rO rows)
 sorted:Srt ks out
 list:∃vs',LW w' lv vs'/\vs'.length=out.length/\∀i (_:i<vs'.length) (_:i<out.length),Ro w' vs'[i] out[i].row
 kept:Kept lo w w'
theorem query_any (w:World)(gp:Nat)(tv sv:Value)(kl kc2:Nat)(kvo:Option Addr)(name:ByteArray)(ko:Option Addr)(kn kc:Nat)(bx bm blk fan bud cols:Nat)(ks:List K)(vs:List Value)(rows:List (List V))(kinds:List Int)(d:DS)(M:List PF)(P m j j2:Nat)(h:AskCtx w gp tv sv (.slice kvo kl kc2) name ko kn kc bx bm blk fan bud cols ks vs rows d M)(hk:Old.IntsIn w [] (.slice ko kn kc) kinds)(hcap:∀o n c,sv=.slice o n c->n<=c/\c<=maxLen)(hval:Old.VO [⟨name,kinds,oO rows⟩] (pq name ks))(hks:ks.length<=1048576)(hkl:kinds.length<=1048576)(b1:64<=blk)(f2:fan<=16)
  (hl:Left d (2*rows.length+((P*(rows.length+1)+m)+1)) (rows.length+j)) (hP:1000000000<=P+j) (hPj:P+j2<=j) (hPs:P<=900000) :
  Calls prog 18 #[tv,.slice (some ⟨gp,0,none⟩) 2 2,.agg #[.int .i64 (blk:Int),.int .i64 (fan:Int),.int .i64 (bud:Int)],.pointer (some ⟨bx,0,none⟩)] w λe w'=>∃lv out,e=.returned (.tuple #[lv,.int .i64 0])/\Aw bm w w' lv out ks rows:=by
 have hbm:bm<w.heap.size:=h.pd.lt bm (by simp);have htv:∃o n c,tv=.slice o n c:=by
  obtain⟨g,o,cap,cs,e,_⟩:=h.tab.st;exact⟨_,_,_,e⟩
 obtain⟨tO,tn,tc,rfl⟩:=htv;have hfew:=h.few;have HV:Hid (∀W,Touch [] w W->Calls prog 56 #[.slice tO tn tc,.slice (some ⟨gp,0,none⟩) 2 2] W λe w'=>e=.returned (.bool true)/\Touch [] W w'):=λW hW=>by
  have hA:=h.quiet hW;have hk':Old.IntsIn W [] (.slice ko kn kc) kinds:=Old.IntsIn.step hk (Old.su ⟨hW.os,hW.tape,hW.output,hW.size,λk hk=>hW.block k hk (by simp)⟩);refine(Old.pvalid_any W _ _ [⟨name,kinds,oO rows⟩] (pq name ks) (hA.tab.old hk' (hA.list.old hA.len hA.rW hcap)) (hA.plan.old hA.keys) ⟨by simp,by simp[pq],λi hi=>?_,λi hi=>?_⟩).mono ?_
  ·simp only[List.length_singleton]at hi;have:i=0:=by omega
   subst this;exact⟨hkl,by simp[oO];omega⟩
  ·match i,hi with
   | 0,_=>exact⟨by simp[pq],by simp[pq],by simp[pq],by simp[pq]⟩
   | 1,_=>exact⟨by simpa[pq]using hks,by simp[pq],by simp[pq],by simp[pq]⟩
   | n+2,hi=>exact absurd hi (by simp only[pq,List.length_cons,List.length_nil];omega)
  ·rintro e w' ⟨b,rfl,hb,hB⟩;obtain rfl:b=true:=hb.2 hval;exact⟨rfl,bW hB hB.size⟩
 refine(query_gen (λl=>∃out,out.Perm (rO rows)/\Srt ks out/\l=out.map Rec.row) w gp 2 tO tn tc bx bm blk fan bud d M h.pd b1 h.b2 h.fan1 f2 h.bud1 h.b3 HV.out (λW hW=>?_)).mono ?_
 ·refine(answer_any W gp _ sv kl kc2 kvo name ko kn kc bx bm blk fan bud cols ks vs rows d M P m j j2 (h.quiet hW) hl hP hPj hPs).mono ?_;rintro e w' ⟨lv,out,rfl,p1,p2,⟨vs',a,b,c⟩,p4,p5⟩;exact⟨lv,_,rfl,⟨out,p1,p2,rfl⟩,⟨vs',a,by simpa using b,λi hi hj=>by have:=c i hi (by simpa using hj);simpa using this⟩,p5⟩
 ·rintro e w' ⟨lv,l,rfl,⟨out,p1,p2,rfl⟩,⟨vs',a,b,c⟩,hk⟩;exact⟨lv,out,rfl,p1,p2,⟨vs',a,by simpa using b,λi hi hj=>by have:=c i hi (by simpa using hj);simpa using this⟩,hk⟩
theorem large_any (w:World)(a b:Value)(o:Option Addr)(n c:Nat)(hn:n<=100000) :
  Calls prog 39 #[.agg #[a,b,.slice o n c]] w λe w'=>e=.returned (.int .i64 ((1048576+8192*n:Nat):Int))/\Touch [] w w':=by
 go_enter func39,ntmps39;go_wp2;go_ret;exact⟨by simp,tr_.alloc _⟩
def nV (kv:Value):Value:=.agg #[.int .i64 2,.int .i64 0,.int .i64 0,.string ⟨#[]⟩,kv,.int .i64 0,.slice none 0 0,.slice none 0 0,.slice none 0 0]
def nM:ByteArray:=⟨#[116]⟩
theorem with_any (w:World)(ko:Option Addr)(kn kc:Nat) :
  Calls prog 33 #[nV (.slice ko kn kc)] w λe w'=>∃gp,e=.returned (.slice (some ⟨gp,0,none⟩) 2 2)/\PL w' gp nM (.slice ko kn kc)/\Touch [] w w':=by
 have HP:Hid (∀W:World,PL (W.alloc (.cells (pG nM (.slice ko kn kc)) 79)) W.heap.size nM (.slice ko kn kc)):=λW=>heap_alloc_new W _;unfold nV;go_enter func33,ntmps33;go_wp2;go_ret;exact⟨_,by simp,HP.out _,(tr_.alloc _).alloc _⟩
theorem pK (c n:Int)(h:1<=n):0<=pI c n/\pI c n<n:=by
 unfold pI;exact⟨Int.emod_nonneg _ (by omega),Int.emod_lt_of_pos _ (by omega)⟩
theorem fit_any (w:World)(b f u:Int)(hb:I64 b)(hf:I64 f)(hu:I64 u) :
  Calls prog 34 #[.agg #[.int .i64 b,.int .i64 f,.int .i64 u]] w λe w'=>∃blk fan bud:Nat,e=.returned (.agg #[.int .i64 (blk:Int),.int .i64 (fan:Int),.int .i64 (bud:Int)])/\(64<=blk/\blk<=512)/\(2<=fan/\fan<=16)/\(4*blk<=bud/\bud<=100000)/\Touch [] w w':=by
 unfold I64 at hb hf hu;have HB:Hid (∀W,Calls prog 40 #[.int .i64 b,.int .i64 449] W λe w'=>e=.returned (.int .i64 (pI b 449))/\w'=W):=λW=>pick_any b 449 W (by omega) (by omega) (by omega) (by omega);have HP:Hid (∀c n W,(c=f/\n=15\/c=u/\n=37)->Calls prog 40 #[.int .i64 c,.int .i64 n] W λe w'=>e=.returned (.int .i64 (pI c n))/\w'=W):=λc n W h=>pick_any c n W (by omega) (by omega) (by omega) (by omega);obtain⟨b0,b1⟩:=pK b 449 (by omega);obtain⟨f0,f1⟩:=pK f 15 (by omega);obtain⟨u0,u1⟩:=pK u 37 (by omega);generalize pI b 449=x at *;generalize hy:pI f 15=y at f0 f1;generalize hz:pI u 37=z at u0 u1;obtain⟨x,rfl⟩:=ba_ b0;obtain⟨y,rfl⟩:=ba_ f0;obtain⟨z,rfl⟩:=ba_ u0;have HY:Hid (pI f 15=(y:Int)):=hy;have HZ:Hid (pI u 37=(z:Int)):=hz;clear hy hz;have hm:(64+x)*(4+z)<=512*40:=Nat.mul_le_mul (by omega) (by omega);have hm1:4*(64+x)<=(64+x)*(4+z):=by rw[Nat.mul_comm];exact Nat.mul_le_mul_left _ (by omega)
 have hmi:((64:Int)+(x:Int))*(4+(z:Int))=(((64+x)*(4+z):Nat):Int):=by simp
 go_enter func34,ntmps34
 go_wp2_with (first|(go_at_call 40;refine(HB.out _).mono ?_;rintro e w1 ⟨rfl,hw1⟩;rw[hw1];clear hw1 w1))
 have q1:IntKind.i64.wrap (((64:Int)+(x:Int))*(4+(z:Int)))=((64:Int)+(x:Int))*(4+(z:Int)):=wrap_small _ (by omega) (by omega)
 go_region_with (first|(go_at_call 40;refine(HP.out _ _ _ (by simp)).mono ?_;rintro e w1 ⟨rfl,hw1⟩;rw[hw1];(first|rw[HY.out]|rw[HZ.out]);clear hw1 w1))
 all_goals
  have q2:IntKind.i64.wrap (2+(y:Int))=2+(y:Int):=wrap_small _ (by omega) (by omega);have q3:IntKind.i64.wrap (4+(z:Int))=4+(z:Int):=wrap_small _ (by omega) (by omega);simp only[q3,q2,q1];go_wp2;exact bodyPost_ret (v:=.agg #[.int .i64 (64+(x:Int)),.int .i64 (2+(y:Int)),.int .i64 (((64:Int)+(x:Int))*(4+(z:Int)))]) (by simp[results,results34,go_sem]) rfl ⟨64+x,2+y,(64+x)*(4+z),by simp,⟨by omega,by omega⟩,⟨by omega,by omega⟩,⟨hm1,by omega⟩,((tr_.alloc _).alloc _).drew⟩
theorem word_any (w:World)(n:Int)(hn:I64 n) :
  Calls prog 62 #[.int .i64 n] w λe w'=>∃s:ByteArray,e=.returned (.string s)/\s.size<=9/\Touch [] w w':=by
 unfold I64 at hn;have HP:Hid (∀c n W,(-9223372036854775808<=c/\c<=9223372036854775807/\1<=n/\n<=1000)->Calls prog 40 #[.int .i64 c,.int .i64 n] W λe w'=>e=.returned (.int .i64 (pI c n))/\w'=W):=λc n W h=>pick_any c n W (by omega) (by omega) (by omega) (by omega);obtain⟨x0,x1⟩:=pK n 10 (by omega);have hpx:=HP.out n 10;generalize pI n 10=x at *;obtain⟨x,rfl⟩:=ba_ x0;have HX:Hid (∀W,Calls prog 40 #[.int .i64 n,.int .i64 10] W λe w'=>e=.returned (.int .i64 (x:Int))/\w'=W):=λW=>hpx W ⟨by omega,by omega,by omega,by omega⟩;clear hpx;have HR:Hid (∀c W,(-9223372036854775808<=c/\c<=9223372036854775807)->Calls prog 40 #[.int .i64 c,.int .i64 3] W λe w'=>∃p:Nat,e=.returned (.int .i64 (p:Int))/\p<3/\w'=W):=λc W h=>by
  refine(pick_any c 3 W h.1 h.2 (by omega) (by omega)).mono ?_;rintro e w' ⟨rfl,hw⟩;obtain⟨p0,p1⟩:=pK c 3 (by omega);exact⟨(pI c 3).toNat,by rw[Int.toNat_of_nonneg p0],by omega,hw⟩
 go_enter func62,ntmps62
 go_wp2_with (first|(go_at_call 40;refine(HX.out _).mono ?_;rintro e w1 ⟨rfl,hw1⟩;rw[hw1];clear hw1 w1))
 go_loopw [3,4] (λt i wr=>∃(k:Nat) (bs:List UInt8),k<=x/\i=.int .i64 (k:Int)/\x=bs.length+k/\Tx wr w.heap.size t bs/\Fr w.heap.size w wr) (λ_ i _=>(intOf i).toNat)
 case atStart=>exact⟨x,[],by omega,rfl,by simp,Tx.nil _ _,Fr.refl _ _⟩
 case round=>
  obtain⟨k,bs,hk,rfl,hlen,hT,hB⟩:=hrel;have hsz:=hB.size;have HLN:Hid (x=bs.length+k):=hlen;have hb9:bs.length<=9:=by omega
  clear hlen;by_cases hlt:0<k
  ·rcases(show k=1\/k=2\/k=3\/k=4\/k=5\/k=6\/k=7\/k=8\/k=9 from by omega)with rfl|rfl|rfl|rfl|rfl|rfl|rfl|rfl|rfl
   all_goals
    go_wp2_with (first|(go_at_call 40;refine(HR.out _ _ ⟨by omega,by omega⟩).mono ?_;rintro e w1 ⟨p,rfl,hp,hw1⟩;rw[hw1];clear hw1 w1)|(at_builtin;refine tX rfl (.tmp 11) (.tmp 18) rfl w.heap.size _ _ rfl (hT.alloc _) _ [UInt8.ofNat (97+p)] _ rfl (n_ _ _ _ (by rw[UInt8.toNat_ofNat'];omega)) (by simp;omega) (by simp;omega) ?_;intro v1 w1 hT1 hB1))
    go_roundw
    case rel=>
     have h9:=HLN.out;have hl9:(bs++[UInt8.ofNat (97+p)]).length=bs.length+1:=by rw[c_,List.length_singleton]
     first|exact⟨0,_,by omega,rfl,by rw[hl9];omega,hT1,(hB.alloc (by omega) _).trans hB1⟩|exact⟨1,_,by omega,rfl,by rw[hl9];omega,hT1,(hB.alloc (by omega) _).trans hB1⟩|exact⟨2,_,by omega,rfl,by rw[hl9];omega,hT1,(hB.alloc (by omega) _).trans hB1⟩|exact⟨3,_,by omega,rfl,by rw[hl9];omega,hT1,(hB.alloc (by omega) _).trans hB1⟩|exact⟨4,_,by omega,rfl,by rw[hl9];omega,hT1,(hB.alloc (by omega) _).trans hB1⟩|exact⟨5,_,by omega,rfl,by rw[hl9];omega,hT1,(hB.alloc (by omega) _).trans hB1⟩|exact⟨6,_,by omega,rfl,by rw[hl9];omega,hT1,(hB.alloc (by omega) _).trans hB1⟩|exact⟨7,_,by omega,rfl,by rw[hl9];omega,hT1,(hB.alloc (by omega) _).trans hB1⟩|exact⟨8,_,by omega,rfl,by rw[hl9];omega,hT1,(hB.alloc (by omega) _).trans hB1⟩
    case measure=>simp[intOf]
  ·obtain rfl:k=0:=by omega
   have hcv:=tx_string hT;go_wp2;go_ret;exact⟨_,rfl,by have:=HLN.out;simp[ByteArray.size];omega,bW hB.below hB.size⟩
end Go.Proofs.YtjoinhljdbljaaaGreat
namespace Go.Proofs.YtjoinhljdbljaaaGreat
open Go.RowKit
variable {N b2 b3 bk blk bm bud bx cap fan g gp i id kc2 kl:Nat} {W w w' w2 wr wr':World} {a:Act} {full ops:Array Oper} {ks:List K} {kv rv sv:Value} {o p:Oper} {out:List Rec} {r row:List V} {raw:List Int} {rows:List (List V)} {vs:List Value}
section
variable {P:Program} {md:Region.Mode} {ops:Array Oper} {o:Oper} {Q:Exit->Act->World->Prop}
def Behind (P:Program)(o:Oper)(Q:Exit->Act->World->Prop):Exit->Act->World->Prop:=Exit.then (λa w=>o.wp P a w (λa w=>Q .normal a w) Q) Q
theorem behind_out (h:LetsOut (Behind P o Q)):LetsOut Q:=h
theorem operWp_back {K:Act->World->Prop}(h:p.wp P a w K (Behind P o Q)):p.wp P a w K Q:=by
 unfold Oper.wp at *;generalize (execOp a.eval p).run P w=r at *;cases r with
 | ok n w'=>
  cases n<;>simp only[Oper.upon]at h ⊢<;>first|exact h|exact Calls.mono h (λe w'' he=>by cases e<;>exact he)
 | halt x w'=>cases x<;>simp only[Oper.upon]at h ⊢<;>exact h
theorem g_ (l:Array Bool)(k:Nat):(l.push false).getD k false=l.getD k false:=by
 simp only[K_,ac_]
 split
 ·rename_i h;subst h;simp
 ·rfl
theorem gu (l:Array Bool)(k:Nat)(h:k≠l.size):(l.push false).getD k true=l.getD k true:=by
 simp only[K_,ac_,if_neg h]
structure LastOK (md:Region.Mode)(ops:Array Oper)(o:Oper):Prop where
 waits:∀j,j<ops.size->∃e∈o.after,e.on=j/\Region.binds md e=true
 inside:∀e∈o.after,e.on<ops.size
 down:∀(j:Nat) (p:Oper),ops[j]?=some p->∀e∈p.after,e.on<j
 free:∀(j:Nat) (p:Oper),ops[j]?=some p->p.guard=none
 guard:o.guard=none
theorem rH (l:Array Bool)(hl:l.size=ops.size)(j:Nat)(hj:j<ops.size):j∈Region.ready md (ops.push o) (l.push false)↔j∈Region.ready md ops l:=by
 rw[mem_ready,mem_ready,gu l j (by omega),ac_,if_neg (by omega)];simp only[g_]
theorem listed_all (h:LastOK md ops o)(l:Array Bool)(hl:l.size=ops.size)(hr:Region.ready md ops l=[]):∀j,j<ops.size->l.getD j false=true:=by
 intro j
 induction j using Nat.strongRecOn with
 | _ j ih=>
  intro hj;cases hc:l.getD j false with
  | true=>rfl
  | false=>
   exfalso;have:j∈Region.ready md ops l:=by
    refine mem_ready.2 ⟨?_,ops[j],q_ hj,λe he _=>ih e.on (h.down j _ (q_ hj) e he) (by have:=h.down j _ (q_ hj) e he;omega)⟩;rw[K_,q_ (by omega)]at hc ⊢;exact hc
   rw[hr]at this;simp at this
theorem ready_last (h:LastOK md ops o)(l:Array Bool)(hl:l.size=ops.size):ops.size∈Region.ready md (ops.push o) (l.push false)↔Region.ready md ops l=[]:=by
 constructor
 ·intro hm;obtain⟨_,p,hp,ha⟩:=mem_ready.1 hm;simp at hp;subst hp;refine Q_.2 λj hj=>?_;obtain⟨h1,q,hq,_⟩:=mem_ready.1 hj;have hj':=(agi.1 hq).1;obtain⟨e,he,rfl,hb⟩:=h.waits j hj';have:=ha e he hb;rw[g_]at this;rw[K_,q_ (by omega)]at h1 this;simp only[Option.getD_some]at h1 this;rw[h1]at this;cases this
 ·intro hr;refine mem_ready.2 ⟨?_,o,by simp,λe he _=>?_⟩
  ·rw[<-hl];simp
  ·rw[g_];exact listed_all h l hl hr e.on (h.inside e he)
theorem wpAny_push (h:LastOK md ops o):∀(fuel:Nat) (l:Array Bool) (a:Act) (w:World),l.size=ops.size->wpAny P md ops (Behind P o Q) fuel l a w->wpAny P md (ops.push o) Q (fuel+1) (l.push false) a w:=by
 have hstop:∀(fuel:Nat) (l:Array Bool) (a:Act) (w:World),l.size=ops.size->Region.ready md ops l=[]->Behind P o Q .normal a w->wpAny P md (ops.push o) Q (fuel+1) (l.push false) a w:=by
  intro fuel l a w hl hr hq;refine⟨λh0=>?_,λi hi=>?_⟩
  ·have:=(ready_last h l hl).2 hr;rw[h0]at this;simp at this
  ·have hi2:i=ops.size:=by
    obtain⟨_,p,hp,_⟩:=mem_ready.1 hi;have hlt:=(agi.1 hp).1;rw[ag_]at hlt;rcases ar_ i ops.size with hc|hc
    ·have:=(rH (o:=o) l hl i hc).1 hi;rw[hr]at this;simp at this
    ·omega
   subst hi2;unfold wpOp;simp only[Array.getElem?_push_size];rw[if_pos (by unfold Region.wanted;rw[h.guard])];refine .inl (Oper.wp_mono (λa w hq=>wpAny_done ?_ hq _) hq);refine Q_.2 λj hj=>?_;obtain⟨h1,p,hp,_⟩:=mem_ready.1 hj;have hlt:=(agi.1 hp).1;rw[ag_]at hlt;rcases ar_ j ops.size with hc|hc
   ·have:=listed_all h l hl hr j hc;rw[getD_set_ne true (by omega),gu l j (by omega)]at h1;rw[K_,q_ (by omega)]at h1 this;simp only[Option.getD_some]at h1 this;rw[h1]at this;cases this
   ·have:j=ops.size:=by omega
    subst this;rw[<-hl]at h1;simp at h1
 intro fuel
 induction fuel with
 | zero=>
  intro l a w hl hw;exact hstop 0 l a w hl hw.1 hw.2
 | succ fuel ih=>
  intro l a w hl hw;by_cases hr:Region.ready md ops l=[]
  ·exact hstop _ l a w hl hr (hw.1 hr)
  ·refine⟨λh0=>?_,λi hi=>?_⟩
   ·exfalso;refine hr (Q_.2 λj hj=>?_);have hj':j<ops.size:=by
     obtain⟨_,p,hp,_⟩:=mem_ready.1 hj;exact(agi.1 hp).1
    have:=(rH (o:=o) l hl j hj').2 hj;rw[h0]at this;simp at this
   ·have hi':i<ops.size:=by
     obtain⟨_,p,hp,_⟩:=mem_ready.1 hi;have hlt:=(agi.1 hp).1;rw[ag_]at hlt;rcases ar_ i ops.size with hc|hc
     ·exact hc
     ·have:i=ops.size:=by omega
      subst this;exact absurd ((ready_last h l hl).1 hi) hr
    have hm:=hw.2 i ((rH l hl i hi').1 hi);have hset:(l.push false).setIfInBounds i true=(l.setIfInBounds i true).push false:=by
     apply Array.ext_getElem?;intro k;rw[E_,ac_,ac_,E_,az_,ag_];by_cases e:i=k
     ·subst e;rw[if_pos rfl,if_pos (by omega),if_neg (by omega),if_pos rfl,if_pos (by omega)]
     ·rw[if_neg e,if_neg e]
    unfold wpOp at hm ⊢;simp only[ac_,if_neg (show i≠ops.size by omega),q_ hi']at hm ⊢;have hg:=h.free i _ (q_ hi');rw[if_pos (by unfold Region.wanted;rw[hg])]at hm ⊢;rw[hset];rcases hm with hm|⟨h1,h2⟩
    ·exact .inl (operWp_back (Oper.wp_mono (λa w hk=>ih _ a w (by simpa using hl) hk) hm))
    ·exact .inr ⟨h1,behind_out h2⟩
theorem wP (S:World->Prop)(hm:P.follows .mixedOrders=true)(hb:full.back?=some o)(h:LastOK .any full.pop o)(hS:S w.drew)
  (hw:S w.drew->wpAnyH P .any full.pop (Behind P o Q) S full.pop.size (Array.replicate full.pop.size false) a w.drew):(Code.region id full true).wp P Q a w:=by
 have hf:full.pop.push o=full:=by
  obtain⟨ys,rfl⟩:=Array.back?_eq_some_iff.1 hb;simp
 refine wp_region_any hm ?_;have:=wpAny_push h _ _ _ _ (by simp) (wpAny_of_held _ _ _ _ (hw hS));rw[hf]at this;have hs:full.size=full.pop.size+1:=by rw[<-ag_ (v:=o),hf]
 rw[hs,P_];exact this
end
def lastOK (ops:Array Oper)(o:Oper):Bool:=
 (List.range ops.size).all (λj=>o.after.any λe=>e.on == j && Region.binds .any e) && o.after.all (λe=>decide (e.on<ops.size)) &&
  (List.range ops.size).all (λj=>match ops[j]? with|some p=>p.after.all (λe=>decide (e.on<j)) && p.guard.isNone|none=>true) && o.guard.isNone
theorem lastOK_spec (h:lastOK ops o=true):LastOK .any ops o:=by
 unfold lastOK at h;simp only[Bool.and_eq_true,List.all_eq_true,List.mem_range,Array.any_eq_true,Array.all_eq_true,decide_eq_true_eq]at h;obtain⟨⟨⟨h1,h2⟩,h3⟩,h4⟩:=h;refine⟨λj hj=>?_,λe he=>?_,λj p hp e he=>?_,λj p hp=>?_,by simpa using h4⟩
 ·obtain⟨i,hi,he⟩:=h1 j hj;exact⟨o.after[i],Array.getElem_mem hi,by simpa using he.1,by simpa using he.2⟩
 ·obtain⟨i,hi,rfl⟩:=bh_ he;exact h2 i hi
 ·have:=h3 j (agi.1 hp).1;rw[hp]at this;simp only[Bool.and_eq_true,Array.all_eq_true,decide_eq_true_eq]at this;obtain⟨i,hi,rfl⟩:=bh_ he;exact this.1 i hi
 ·have:=h3 j (agi.1 hp).1;rw[hp]at this;simp only[Bool.and_eq_true]at this;simpa using this.2
open Go.Proofs.Tryz
variable [Inhabited Ground]
def Rt (w:World)(v:Value)(raw:List Int):Prop:=
 (∀x∈raw,I64 x)/\raw.length<=9223372036854775807/\∃ao cap,v=.slice ao raw.length cap/\(1<=raw.length->∃b off,ao=some ⟨b,off,none⟩/\∀j (h:j<raw.length),w.cell? ⟨b,off+j,none⟩=some (.int .i64 raw[j]))
def aOf (r:Int):V:=if pI r 7=0 then⟨0,0,⟨#[]⟩⟩else⟨1,pI r 20-10,⟨#[]⟩⟩
def rowOf (r:Int)(i:Nat)(s:ByteArray):List V:=[aOf r,⟨1,(i:Int),⟨#[]⟩⟩,⟨2,0,s⟩,⟨3,pI r 2,⟨#[]⟩⟩]
def TR (raw:List Int)(i:Nat)(r:List V):Prop:=∃s:ByteArray,s.size<=9/\r=rowOf (raw.getD i 0) i s
def kC:Array Value:=#[.int .i64 1,.int .i64 1,.int .i64 2,.int .i64 3]
structure TS (w wr:World)(b2 bk b3:Nat)(raw:List Int)(sv:Value)(vs:List Value)(rows:List (List V)):Prop where
 box:wr.heap[b3]?=some (.cells #[.string nM,.slice (some ⟨bk,0,none⟩) 4 4,sv] 70 (0,0))
 res:wr.heap[b2]?=some (.cells #[.string ⟨#[]⟩,.slice none 0 0,.slice none 0 0] 70 (0,0))
 kinds:wr.heap[bk]?=some (.cells kC 3 (0,0))
 list:LW wr sv vs
 own:∀k,sv.ownBlock=some k->w.heap.size<=k
 len:vs.length=rows.length
 rW:∀i (_:i<vs.length) (_:i<rows.length),Ro wr vs[i] rows[i]
 tJ:∀i (h:i<rows.length),TR raw i rows[i]
 touch:Touch [] w wr
theorem TS.quiet (h:TS w wr b2 bk b3 raw sv vs rows)(t:Touch [] wr wr'):TS w wr' b2 bk b3 raw sv vs rows:=
 ⟨t.tu _ _ _ _ h.box,t.tu _ _ _ _ h.res,t.tu _ _ _ _ h.kinds,h.list.keep (t.tu _),h.own,h.len,λi a b=>(h.rW i a b).touch t,h.tJ,h.touch.trans t⟩
theorem step_lst {K:Act->World->Prop}{Q:Exit->Act->World->Prop}{E:Prop}(hgd:o.guard=none)(s x:Operand)
  (ho:o.op=.call { callee:=.builtin .append,args:=#[s,x],argTypes:=#[36,36] }) (v:Value) (vs:List Value) (hs:a.eval s=v) (hown:LW w v vs)
  (ad:Addr) (y:Value) (c:Nat) (hx:a.eval x=.slice (some ad) 1 c) (hnews:w.cell? ad=some y) (hy:y.oneCell'=true) (hlen:vs.length<=1000000000)
  (h:∀g cap w',LW w' (.slice (some ⟨g,0,none⟩) (vs.length+1) cap) (vs++[y])->w.grownBy w' v.ownBlock->(v.ownBlock=some g\/g=w.heap.size)->g<w'.heap.size->K (a.put o.dst (.slice (some ⟨g,0,none⟩) (vs.length+1) cap)) w') :
  if Region.wanted o (yielded ops a.tmps)=true then Oper.wp prog o a w K Q else E:=by
 obtain⟨i0,hi,hz0,hz1,hz2⟩:=info_parts info83;refine step_append_lies w hgd s x 36 ho 0 83 i0 (.slice none 0 0) 1 24 underlying36 hi hz0 hz1 hz2 rfl (by decide) v _ _ hs hown ad 1 c [y] hx (by simp) (λj u hj=>?_) (by simpa using hy) (by decide) ?_ ?_ (x_ _) _ rfl ?_
 ·match j,hj with
  | 0,hj=>simp at hj;subst hj;exact hnews
 ·unfold maxLen;omega
 ·omega
 ·intro g cap w' h1 h2 h3 h4;refine h g cap w' ?_ h2 h3 h4;unfold LW;rw[c_];exact h1
theorem rowAt_new (W:World)(a b c d:V):Ro (W.alloc (.cells #[.int .i64 a.k,.int .i64 a.n,.string a.s,.int .i64 b.k,.int .i64 b.n,.string b.s,.int .i64 c.k,.int .i64 c.n,.string c.s,.int .i64 d.k,.int .i64 d.n,.string d.s] 85)) (.slice (some ⟨W.heap.size,0,none⟩) 4 4) [a,b,c,d]:=by
 refine⟨_,_,rfl,by simp,by unfold maxLen;omega,λ_=>⟨_,_,_,_,rfl,heap_alloc_new W _,λi hi=>?_⟩⟩;simp only[List.map_cons,List.map_nil,List.length_cons,List.length_nil]at hi
 match i,hi with
 | 0,_=>exact⟨rfl,rfl,rfl⟩
 | 1,_=>exact⟨rfl,rfl,rfl⟩
 | 2,_=>exact⟨rfl,rfl,rfl⟩
 | 3,_=>exact⟨rfl,rfl,rfl⟩
theorem TS.grown (h:TS w W b2 bk b3 raw sv vs rows)(t2:Touch sv.ownBlock.toList W w2):(∀t,(83:TypeId)≠t->KT t W w2)/\Touch [] w w2:=by
 refine⟨λt ht=>t2.tag (λk hk cs f e=>?_),⟨t2.os.trans h.touch.os,t2.tape.trans h.touch.tape,t2.output.trans h.touch.output,k_ h.touch.size t2.size,λk hk _=>?_⟩⟩
 ·obtain⟨cs',h'⟩:=h.list.block k (by simpa using hk);rw[h']at e;simp only[j_,Obj.cells.injEq]at e;exact ht e.2.1
 ·rw[t2.block k (s_ hk h.touch.size) (λe=>?_)]
  ·exact h.touch.block k hk (by simp)
  ·have:=h.own k (by simpa using e);omega
theorem TS.push (h:TS w W b2 bk b3 raw sv vs rows)(hr:Ro W rv row)(ht:TR raw rows.length row)(hO:LW w2 (.slice (some ⟨g,0,none⟩) (vs.length+1) cap) (vs++[rv]))(t2:Touch sv.ownBlock.toList W w2)(hg:sv.ownBlock=some g\/g=W.heap.size)(h3:w.heap.size<=b3)(hb2:b2≠b3) :
  TS w (w2.setCell ⟨b3,2,none⟩ (.slice (some ⟨g,0,none⟩) (vs.length+1) cap)) b2 bk b3 raw (.slice (some ⟨g,0,none⟩) (vs.length+1) cap) (vs++[rv]) (rows++[row]):=by
 obtain⟨k2,tw⟩:=h.grown t2;have hB:=k2 70 (by decide) _ _ _ h.box;have t3:Touch [b3] w2 (w2.setCell ⟨b3,2,none⟩ (.slice (some ⟨g,0,none⟩) (vs.length+1) cap)):=(Touch.refl [b3] w2).setCell (p:=⟨b3,2,none⟩) (by simp) _;have n3:∀t,(70:TypeId)≠t->NT t w2 [b3]:=λt ht=>nO hB ht;have k85:=(k2 85 (by decide)).trans (t3.tag (n3 85 (by decide)));refine⟨?_,?_,t3.tag (n3 3 (by decide)) _ _ _ (k2 3 (by decide) _ _ _ h.kinds),hO.keep (t3.tag (n3 83 (by decide))),λk hk=>?_,by simp[h.len],λi a b=>?_,λi hi=>?_,⟨tw.os,tw.tape,tw.output,?_,λk hk _=>?_⟩⟩
 ·rw[heap_setCell_same w2 b3 2 _ 70 _ hB];simp
 ·rw[heap_setCell_other w2 _ b2 _ hb2];exact k2 70 (by decide) _ _ _ h.res
 ·simp[Value.ownBlock]at hk;subst hk;rcases hg with hg|hg
  ·exact h.own _ hg
  ·have:=h.touch.size;omega
 ·by_cases hi:i<vs.length
  ·have:=Sl3.keep (h.rW i hi (by have:=h.len;omega)) k85;rw[G_ hi,G_ (by have:=h.len;omega)];exact this
  ·simp only[c_,List.length_singleton]at a b;have e:i=vs.length:=by omega
   subst e;have h1:(vs++[rv])[vs.length]'(by simp)=rv:=by simp
   have h2:(rows++[row])[vs.length]'(by have:=h.len;simp;omega)=row:=by simp[h.len]
   rw[h1,h2];exact Sl3.keep hr k85
 ·by_cases hi':i<rows.length
  ·rw[G_ hi'];exact h.tJ i hi'
  ·simp only[c_,List.length_singleton]at hi;have e:i=rows.length:=by omega
   subst e;have h2:(rows++[row])[rows.length]'(by simp)=row:=by simp
   rw[h2];exact ht
 ·exact k_ tw.size t3.size
 ·rw[t3.block k (s_ hk tw.size) (by simp;omega)];exact tw.block k hk (by simp)
structure Td (w w':World)(raw:List Int)(bk:Nat)(sv:Value)(vs:List Value)(rows:List (List V)):Prop where
 kinds:w'.heap[bk]?=some (.cells kC 3 (0,0))
 list:LW w' sv vs
 len:vs.length=rows.length
 rW:∀i (_:i<vs.length) (_:i<rows.length),Ro w' vs[i] rows[i]
 tJ:∀i (h:i<rows.length),TR raw i rows[i]
 num:rows.length=min raw.length 1000
 touch:Touch [] w w'
theorem TS.done (h:TS w wr b2 bk b3 raw sv vs rows)(t:Touch [b2] wr wr')(hb:w.heap.size<=b2)(hn:rows.length=min raw.length 1000):Td w wr' raw bk sv vs rows:=by
 have n:∀t,(70:TypeId)≠t->NT t wr [b2]:=λt ht=>nO h.res ht;refine⟨t.tag (n 3 (by decide)) _ _ _ h.kinds,h.list.keep (t.tag (n 83 (by decide))),h.len,λi a b=>Sl3.keep (h.rW i a b) (t.tag (n 85 (by decide))),h.tJ,hn,h.touch.more t (λi hi=>?_)⟩;simp at hi;omega
theorem table_any (w:World)(rv:Value)(raw:List Int)(h:Rt w rv raw) :
  Calls prog 30 #[rv] w λe w'=>∃bk sv vs rows,e=.returned (.agg #[.string nM,.slice (some ⟨bk,0,none⟩) 4 4,sv])/\Td w w' raw bk sv vs rows:=by
 obtain⟨hI,hlen,ao,cap,rfl,hx⟩:=h;have HI:Hid (∀x∈raw,I64 x):=hI;have HX:Hid (1<=raw.length->∃b off,ao=some ⟨b,off,none⟩/\∀j (h:j<raw.length),w.cell? ⟨b,off+j,none⟩=some (.int .i64 raw[j])):=hx;clear hI hx;have HINIT:Hid (TS w (((w.alloc (.cells #[.string ⟨#[]⟩,.slice none 0 0,.slice none 0 0] 70)).alloc (.cells kC 3)).alloc (.cells #[.string nM,.slice (some ⟨w.heap.size+1,0,none⟩) 4 4,.slice none 0 0] 70)) w.heap.size (w.heap.size+1) (w.heap.size+1+1) raw (.slice none 0 0) [] []):=by
  refine⟨new3 _ _ _ _,?_,?_,⟨rfl,.inl ⟨rfl,rfl⟩⟩,by simp[Value.ownBlock],rfl,λi hi=>by simp at hi,λi hi=>by simp at hi,((tr_.alloc _).alloc _).alloc _⟩
  ·exact(Below.heap_alloc _ _ _ (by simp only[World.size_alloc];omega)).trans ((Below.heap_alloc _ _ _ (by simp)).trans (heap_alloc_new w _))
  ·exact(Below.heap_alloc _ _ _ (by simp)).trans (new2 _ _ _)
 go_enter func30,ntmps30;go_wp2
 go_loopw [4] (λi wr=>∃(k:Nat) (sv:Value) (vs:List Value) (rows:List (List V)),k<=raw.length/\k<=1000/\i=.int .i64 (k:Int)/\rows.length=k/\TS w wr w.heap.size (w.heap.size+1) (w.heap.size+1+1) raw sv vs rows) (λi _=>1000-(intOf i).toNat)
 case atStart=>exact⟨0,_,[],[],by omega,by omega,rfl,rfl,HINIT.out⟩
 case round=>
  obtain⟨k,sv,vs,rows,hk,hk2,rfl,hrl,hS⟩:=hrel;have HS:Hid (TS w wr w.heap.size (w.heap.size+1) (w.heap.size+1+1) raw sv vs rows):=hS;have HL:Hid (rows.length=k):=hrl;obtain⟨so,sn,sc,rfl⟩:=hS.list.slice;clear hS hrl;by_cases hlt:k<raw.length
  ·by_cases hlt2:k<1000
   ·obtain⟨rb,off,rfl,hx⟩:=HX.out (by omega);have hrk:=hx k hlt;have hI:=HI.out _ (m_ hlt);have HG:Hid (raw.getD k 0=raw[k]):=by rw[V_,p_ hlt];rfl
    generalize raw[k]=rk at *;clear hx;have HRK:Hid (∀W,Touch [] w W->W.cell? ⟨rb,off+k,none⟩=some (.int .i64 rk)):=λW t=>cO hrk t;clear hrk;unfold I64 at hI;have HP:Hid (∀n W,(1<=n/\n<=1000)->Calls prog 40 #[.int .i64 rk,.int .i64 n] W λe w'=>e=.returned (.int .i64 (pI rk n))/\w'=W):=λn W h=>pick_any rk n W hI.1 hI.2 h.1 h.2;have HWH:Hid (∀n W,Calls prog 61 #[.int .i64 n] W λe w'=>e=.returned (.agg #[.int .i64 1,.int .i64 n,.string ⟨#[]⟩])/\Touch [] W w'):=λn W=>by
     refine(whole_any n W).mono ?_;rintro e w' ⟨rfl,hw⟩;rw[hw];exact⟨rfl,tr_.alloc _⟩
    have HWO:Hid (∀W,Calls prog 62 #[.int .i64 rk] W λe w'=>∃s:ByteArray,e=.returned (.string s)/\s.size<=9/\Touch [] W w'):=λW=>word_any W rk hI;obtain⟨p0,p1⟩:=pK rk 20 (by omega);have c1:=HRK.out wr HS.out.touch;by_cases hz:pI rk 7=0
    ·go_wp2_with (first|(go_at_call 40;refine(HP.out _ _ ⟨by omega,by omega⟩).mono ?_;rintro e w1 ⟨rfl,hw1⟩;rw[hw1];clear hw1 w1)|(go_at_call 61;refine(HWH.out _ _).mono ?_;rintro e w2 ⟨rfl,hT2⟩;have c2:=cO c1 hT2;have l2:rb<w2.heap.size:=lt_of_cell c2;have l3:rb≠w2.heap.size:=by omega))
     have hB5:(w2.alloc (.cells #[.int .i64 0,.int .i64 0,.string ⟨#[]⟩] 85)).heap[w2.heap.size]?=some (.cells #[.int .i64 0,.int .i64 0,.string ⟨#[]⟩] 85 (0,0)):=heap_alloc_new w2 _;have HTW:Hid (Touch [] wr (w2.alloc (.cells #[.int .i64 0,.int .i64 0,.string ⟨#[]⟩] 85))):=hT2.alloc _;have c3:=cO c1 HTW.out;have HA:Hid (aOf rk=⟨0,0,⟨#[]⟩⟩):=by{ unfold Hid aOf;rw[if_pos hz] }
     clear c2 l2 l3 hT2;generalize w2.alloc (.cells #[.int .i64 0,.int .i64 0,.string ⟨#[]⟩] 85)=W at *;generalize w2.heap.size=b5 at *;have HB5:Hid (W.heap[b5]?=some (.cells #[.int .i64 0,.int .i64 0,.string ⟨#[]⟩] 85 (0,0))):=hB5;have HT3:Hid (TS w W w.heap.size (w.heap.size+1) (w.heap.size+1+1) raw (.slice so sn sc) vs rows):=HS.out.quiet HTW.out;obtain⟨y0,y1,y2⟩:=bD HT3.out.box;obtain⟨z0,z1,z2⟩:=bD hB5;have HSK:Hid (∀W',Touch [] W W'->W'.cell? ⟨w.heap.size+1+1,2,none⟩=some (.slice so sn sc)/\W'.cell? ⟨b5,0,none⟩=some (.int .i64 0)/\W'.cell? ⟨b5,1,none⟩=some (.int .i64 0)/\W'.cell? ⟨b5,2,none⟩=some (.string ⟨#[]⟩)/\W'.cell? ⟨rb,off+k,none⟩=some (.int .i64 rk)):=λW' t=>⟨cO y2 t,cO z0 t,cO z1 t,cO z2 t,cO c3 t⟩;have HLV:Hid (vs.length=k):=by{ have:=HS.out.len;have:=HL.out;unfold Hid;omega }
     refine wP (λw'=>w'.cell? ⟨w.heap.size+1+1,2,none⟩=some (.slice so sn sc)/\w'.cell? ⟨b5,0,none⟩=some (.int .i64 0)/\w'.cell? ⟨b5,1,none⟩=some (.int .i64 0)/\w'.cell? ⟨b5,2,none⟩=some (.string ⟨#[]⟩)/\w'.cell? ⟨rb,off+k,none⟩=some (.int .i64 rk)) (by kernel_rfl) rfl (lastOK_spec (by kernel_rfl)) (HSK.out _ (tr_.drew)) (λhHeld=>?_);simp only[List.pop_toArray,List.dropLast];generalize hQB:Behind prog _ _=QB;have haa:∀c (a:Act) d v w,QB (.panic c) (a.put d v) w->QB (.panic c) a w:=by{ rw[<-hQB];intro _ _ d _ _ h;cases d<;>exact h }
     have HQB:Hid (Behind prog _ _=QB):=hQB;clear hQB y0 y1 y2 z0 z1 z2 hB5 c1 c3;refine wpAnyH_take (i:=0) (v:=.pointer (some ⟨w.heap.size+1+1,2,none⟩)) rfl (by kernel_rfl) (by kernel_rfl) (by kernel_rfl) (λ_ _ _ h=>haa _ _ _ _ _ h) (Or.inl ⟨by rfl,λwz hz=>?_⟩) hHeld ?_
     ·obtain⟨hz0,hz1,hz2,hz3,hz4⟩:=hz;go_simp
     simp only[Act.put,List.setIfInBounds_toArray];refine wpAnyH_take (i:=1) (v:=.slice so sn sc) rfl (by kernel_rfl) (by kernel_rfl) (by kernel_rfl) (λ_ _ _ h=>haa _ _ _ _ _ h) (Or.inl ⟨by rfl,λwz hz=>?_⟩) hHeld ?_
     ·obtain⟨hz0,hz1,hz2,hz3,hz4⟩:=hz;go_simp
     simp only[Act.put];refine wpAnyH_take (i:=2) (v:=.agg #[.int .i64 0,.int .i64 0,.string ⟨#[]⟩]) rfl (by kernel_rfl) (by kernel_rfl) (by kernel_rfl) (λ_ _ _ h=>haa _ _ _ _ _ h) (Or.inl ⟨by rfl,λwz hz=>?_⟩) hHeld ?_
     ·obtain⟨hz0,hz1,hz2,hz3,hz4⟩:=hz;go_simp
     simp only[Act.put];refine wpAnyH_take (i:=3) (v:=.int .i64 (k:Int)) rfl (by kernel_rfl) (by kernel_rfl) (by kernel_rfl) (λ_ _ _ h=>haa _ _ _ _ _ h) (Or.inl ⟨by rfl,λwz hz=>?_⟩) hHeld ?_
     ·obtain⟨hz0,hz1,hz2,hz3,hz4⟩:=hz;go_simp
     simp only[Act.put];refine wpAnyH_take (i:=5) (v:=.slice (some ⟨rb,off,none⟩) raw.length cap) rfl (by kernel_rfl) (by kernel_rfl) (by kernel_rfl) (λ_ _ _ h=>haa _ _ _ _ _ h) (Or.inl ⟨by rfl,λwz hz=>?_⟩) hHeld ?_
     ·obtain⟨hz0,hz1,hz2,hz3,hz4⟩:=hz;go_simp
     simp only[Act.put];refine wpAnyH_take (i:=6) (v:=.int .i64 (k:Int)) rfl (by kernel_rfl) (by kernel_rfl) (by kernel_rfl) (λ_ _ _ h=>haa _ _ _ _ _ h) (Or.inl ⟨by rfl,λwz hz=>?_⟩) hHeld ?_
     ·obtain⟨hz0,hz1,hz2,hz3,hz4⟩:=hz;go_simp
     simp only[Act.put];refine wpAnyH_take (i:=7) (v:=.pointer (some ⟨rb,off+k,none⟩)) rfl (by kernel_rfl) (by kernel_rfl) (by kernel_rfl) (λ_ _ _ h=>haa _ _ _ _ _ h) (Or.inl ⟨by rfl,λwz hz=>?_⟩) hHeld ?_
     ·obtain⟨hz0,hz1,hz2,hz3,hz4⟩:=hz;go_simp
     simp only[Act.put];refine wpAnyH_take (i:=8) (v:=.int .i64 rk) rfl (by kernel_rfl) (by kernel_rfl) (by kernel_rfl) (λ_ _ _ h=>haa _ _ _ _ _ h) (Or.inl ⟨by rfl,λwz hz=>?_⟩) hHeld ?_
     ·obtain⟨hz0,hz1,hz2,hz3,hz4⟩:=hz;go_simp
     simp only[Act.put];refine wpAnyH_take (i:=11) (v:=.slice (some ⟨rb,off,none⟩) raw.length cap) rfl (by kernel_rfl) (by kernel_rfl) (by kernel_rfl) (λ_ _ _ h=>haa _ _ _ _ _ h) (Or.inl ⟨by rfl,λwz hz=>?_⟩) hHeld ?_
     ·obtain⟨hz0,hz1,hz2,hz3,hz4⟩:=hz;go_simp
     simp only[Act.put];refine wpAnyH_take (i:=12) (v:=.int .i64 (k:Int)) rfl (by kernel_rfl) (by kernel_rfl) (by kernel_rfl) (λ_ _ _ h=>haa _ _ _ _ _ h) (Or.inl ⟨by rfl,λwz hz=>?_⟩) hHeld ?_
     ·obtain⟨hz0,hz1,hz2,hz3,hz4⟩:=hz;go_simp
     simp only[Act.put];refine wpAnyH_take (i:=13) (v:=.pointer (some ⟨rb,off+k,none⟩)) rfl (by kernel_rfl) (by kernel_rfl) (by kernel_rfl) (λ_ _ _ h=>haa _ _ _ _ _ h) (Or.inl ⟨by rfl,λwz hz=>?_⟩) hHeld ?_
     ·obtain⟨hz0,hz1,hz2,hz3,hz4⟩:=hz;go_simp
     simp only[Act.put];refine wpAnyH_take (i:=14) (v:=.int .i64 rk) rfl (by kernel_rfl) (by kernel_rfl) (by kernel_rfl) (λ_ _ _ h=>haa _ _ _ _ _ h) (Or.inl ⟨by rfl,λwz hz=>?_⟩) hHeld ?_
     ·obtain⟨hz0,hz1,hz2,hz3,hz4⟩:=hz;go_simp
     simp only[Act.put];refine wpAnyH_ready (rs:=[4]) (by kernel_rfl) (by simp) (AllReadyH.cons rfl (λK hK=>?_) AllReadyH.nil);go_simp;refine(HWH.out _ _).mono ?_;rintro e w3 ⟨rfl,hT3⟩;have HT4:Hid (Touch [] W w3):=(tr_.drew).trans hT3;refine hK.out _ _ (HSK.out _ HT4.out) (λhHeld3=>?_);clear hK K hT3 hHeld;refine wpAnyH_ready (rs:=[9]) (by kernel_rfl) (by simp) (AllReadyH.cons rfl (λK hK=>?_) AllReadyH.nil);go_simp;refine(HWO.out _).mono ?_;rintro e w4 ⟨s,rfl,hs9,hT5⟩;have HT5:Hid (Touch [] W w4):=HT4.out.trans hT5;refine hK.out _ _ (HSK.out _ HT5.out) (λhHeld4=>?_);clear hK K hT5 hHeld3;refine wpAnyH_take (i:=10) (v:=.agg #[.int .i64 2,.int .i64 0,.string s]) rfl (by kernel_rfl) (by kernel_rfl) (by kernel_rfl) (λ_ _ _ h=>haa _ _ _ _ _ h) (Or.inl ⟨by rfl,λwz hz=>?_⟩) hHeld4 ?_
     ·obtain⟨hz0,hz1,hz2,hz3,hz4⟩:=hz;go_simp
     simp only[Act.put,List.setIfInBounds_toArray];refine wpAnyH_ready (rs:=[15]) (by kernel_rfl) (by simp) (AllReadyH.cons rfl (λK hK=>?_) AllReadyH.nil);go_simp;refine(HP.out _ _ ⟨by omega,by omega⟩).mono ?_;rintro e w5 ⟨rfl,hw5⟩;rw[hw5];clear hw5 w5;refine hK.out _ _ hHeld4 (λhHeld5=>?_);clear hK K;refine wpAnyH_take (i:=16) (v:=.agg #[.int .i64 3,.int .i64 (pI rk 2),.string ⟨#[]⟩]) rfl (by kernel_rfl) (by kernel_rfl) (by kernel_rfl) (λ_ _ _ h=>haa _ _ _ _ _ h) (Or.inl ⟨by rfl,λwz hz=>?_⟩) hHeld5 ?_
     ·obtain⟨hz0,hz1,hz2,hz3,hz4⟩:=hz;go_simp
     simp only[Act.put,List.setIfInBounds_toArray];refine wpAnyH_ready (rs:=[17]) (by kernel_rfl) (by simp) (AllReadyH.cons rfl (λK hK=>?_) AllReadyH.nil);go_simp;refine hK.out _ _ (HSK.out _ (HT5.out.alloc _)) (λhHeld6=>?_);clear hK K hHeld4 hHeld5;refine wpAnyH_ready (rs:=[18]) (by kernel_rfl) (by simp) (AllReadyH.cons rfl (λK hK=>?_) AllReadyH.nil);go_simp;refine hK.out _ _ (HSK.out _ ((HT5.out.alloc _).alloc _)) (λhHeld7=>?_);clear hK K hHeld6;have HW6:Hid (TS w ((w4.alloc (.cells #[.int .i64 0,.int .i64 0,.string ⟨#[]⟩,.int .i64 1,.int .i64 (k:Int),.string ⟨#[]⟩,.int .i64 2,.int .i64 0,.string s,.int .i64 3,.int .i64 (pI rk 2),.string ⟨#[]⟩] 85)).alloc (.cells #[.slice (some ⟨w4.heap.size,0,none⟩) 4 4] 83)) w.heap.size (w.heap.size+1) (w.heap.size+1+1) raw (.slice so sn sc) vs rows):=HT3.out.quiet ((HT5.out.alloc _).alloc _);have HR6:Hid (Ro ((w4.alloc (.cells #[.int .i64 0,.int .i64 0,.string ⟨#[]⟩,.int .i64 1,.int .i64 (k:Int),.string ⟨#[]⟩,.int .i64 2,.int .i64 0,.string s,.int .i64 3,.int .i64 (pI rk 2),.string ⟨#[]⟩] 85)).alloc (.cells #[.slice (some ⟨w4.heap.size,0,none⟩) 4 4] 83)) (.slice (some ⟨w4.heap.size,0,none⟩) 4 4) (rowOf rk k s)):=by{ unfold Hid rowOf;rw[HA.out];exact Ro.touch (rowAt_new w4 ⟨0,0,⟨#[]⟩⟩ ⟨1,(k:Int),⟨#[]⟩⟩ ⟨2,0,s⟩ ⟨3,pI rk 2,⟨#[]⟩⟩) (tr_.alloc _) }
     have HB6:Hid (((w4.alloc (.cells #[.int .i64 0,.int .i64 0,.string ⟨#[]⟩,.int .i64 1,.int .i64 (k:Int),.string ⟨#[]⟩,.int .i64 2,.int .i64 0,.string s,.int .i64 3,.int .i64 (pI rk 2),.string ⟨#[]⟩] 85)).alloc (.cells #[.slice (some ⟨w4.heap.size,0,none⟩) 4 4] 83)).heap[b5]?=some (.cells #[.int .i64 0,.int .i64 0,.string ⟨#[]⟩] 85 (0,0))):=((HT5.out.alloc _).alloc _).tu 85 _ _ _ HB5.out;have HC6:Hid (((w4.alloc (.cells #[.int .i64 0,.int .i64 0,.string ⟨#[]⟩,.int .i64 1,.int .i64 (k:Int),.string ⟨#[]⟩,.int .i64 2,.int .i64 0,.string s,.int .i64 3,.int .i64 (pI rk 2),.string ⟨#[]⟩] 85)).alloc (.cells #[.slice (some ⟨w4.heap.size,0,none⟩) 4 4] 83)).cell? ⟨w4.heap.size+1,0,none⟩=some (.slice (some ⟨w4.heap.size,0,none⟩) 4 4)):=bg (new2 _ _ _);have HZ6:Hid (((w4.alloc (.cells #[.int .i64 0,.int .i64 0,.string ⟨#[]⟩,.int .i64 1,.int .i64 (k:Int),.string ⟨#[]⟩,.int .i64 2,.int .i64 0,.string s,.int .i64 3,.int .i64 (pI rk 2),.string ⟨#[]⟩] 85)).alloc (.cells #[.slice (some ⟨w4.heap.size,0,none⟩) 4 4] 83)).heap.size=w4.heap.size+1+1):=by{ unfold Hid;simp }
     generalize (w4.alloc (.cells #[.int .i64 0,.int .i64 0,.string ⟨#[]⟩,.int .i64 1,.int .i64 (k:Int),.string ⟨#[]⟩,.int .i64 2,.int .i64 0,.string s,.int .i64 3,.int .i64 (pI rk 2),.string ⟨#[]⟩] 85)).alloc (.cells #[.slice (some ⟨w4.heap.size,0,none⟩) 4 4] 83)=W6 at *;generalize w4.heap.size=H at *;refine wpAnyH_ready (rs:=[19]) (by kernel_rfl) (by simp) (AllReadyH.cons rfl (λK hK=>?_) AllReadyH.nil);refine step_lst rfl (.tmp 33) (.tmp 50) rfl (.slice so sn sc) vs rfl HW6.out.list ⟨H+1,0,none⟩ (.slice (some ⟨H,0,none⟩) 4 4) 1 rfl HC6.out rfl (by have:=HLV.out;omega) ?_;intro g cap2 w7 q1 q2 q3 q4;have t7:Touch (Value.slice so sn sc).ownBlock.toList W6 w7:=(Touch.refl _ _).grown q2 (λk hk=>by simp[hk]);obtain⟨k7,tw7⟩:=HW6.out.grown t7;have hB7:=k7 70 (by decide) _ _ _ HW6.out.box;obtain⟨y0,y1,y2⟩:=bD hB7;obtain⟨z0,z1,z2⟩:=bD (k7 85 (by decide) _ _ _ HB6.out);have f7:w7.frozen? ⟨w.heap.size+1+1,2,none⟩=false:=by{ simp[World.frozen?,hB7] }
     have HFIN:Hid (TS w (w7.setCell ⟨w.heap.size+1+1,2,none⟩ (.slice (some ⟨g,0,none⟩) (vs.length+1) cap2)) w.heap.size (w.heap.size+1) (w.heap.size+1+1) raw (.slice (some ⟨g,0,none⟩) (vs.length+1) cap2) (vs++[.slice (some ⟨H,0,none⟩) 4 4]) (rows++[rowOf rk k s])):=HW6.out.push HR6.out (by rw[HL.out];exact⟨s,hs9,by rw[HG.out]⟩) q1 t7 q3 (by omega) (by omega);refine hK.out _ _ ⟨y2,z0,z1,z2,HRK.out w7 tw7⟩ (λhHeld8=>?_);clear hK K hHeld7 t7 k7 q1 q2 q3;simp only[Act.put,List.setIfInBounds_toArray];refine wpAnyH_take (i:=20) (v:=.pointer (some ⟨w.heap.size+1+1,2,none⟩)) rfl (by kernel_rfl) (by kernel_rfl) (by kernel_rfl) (λ_ _ _ h=>haa _ _ _ _ _ h) (Or.inl ⟨by rfl,λwz hz=>?_⟩) hHeld8 ?_
     ·obtain⟨hz0,hz1,hz2,hz3,hz4⟩:=hz;go_simp
     simp only[Act.put];refine wpAnyH_done (by kernel_rfl) ?_ _;rw[<-HQB.out];unfold Behind;change Oper.wp _ _ _ _ _ _;go_simp;go_wp2;exact⟨⟨k+1,_,_,_,by omega,by omega,by simp,by simp[HL.out],HFIN.out⟩,by simp only[intOf];omega⟩
    ·go_wp2_with (first|(go_at_call 40;refine(HP.out _ _ ⟨by omega,by omega⟩).mono ?_;rintro e w1 ⟨rfl,hw1⟩;rw[hw1];clear hw1 w1)|(go_at_call 61;refine(HWH.out _ _).mono ?_;rintro e w2 ⟨rfl,hT2⟩;have c2:=cO c1 hT2;have l2:rb<w2.heap.size:=lt_of_cell c2;have l3:rb≠w2.heap.size:=by omega))
     have hB5:(w2.alloc (.cells #[.int .i64 1,.int .i64 (pI rk 20-10),.string ⟨#[]⟩] 85)).heap[w2.heap.size]?=some (.cells #[.int .i64 1,.int .i64 (pI rk 20-10),.string ⟨#[]⟩] 85 (0,0)):=heap_alloc_new w2 _;have HTW:Hid (Touch [] wr (w2.alloc (.cells #[.int .i64 1,.int .i64 (pI rk 20-10),.string ⟨#[]⟩] 85))):=hT2.alloc _;have c3:=cO c1 HTW.out;have HA:Hid (aOf rk=⟨1,(pI rk 20-10),⟨#[]⟩⟩):=by{ unfold Hid aOf;rw[if_neg hz] }
     clear c2 l2 l3 hT2;generalize w2.alloc (.cells #[.int .i64 1,.int .i64 (pI rk 20-10),.string ⟨#[]⟩] 85)=W at *;generalize w2.heap.size=b5 at *;have HB5:Hid (W.heap[b5]?=some (.cells #[.int .i64 1,.int .i64 (pI rk 20-10),.string ⟨#[]⟩] 85 (0,0))):=hB5;have HT3:Hid (TS w W w.heap.size (w.heap.size+1) (w.heap.size+1+1) raw (.slice so sn sc) vs rows):=HS.out.quiet HTW.out;obtain⟨y0,y1,y2⟩:=bD HT3.out.box;obtain⟨z0,z1,z2⟩:=bD hB5;have HSK:Hid (∀W',Touch [] W W'->W'.cell? ⟨w.heap.size+1+1,2,none⟩=some (.slice so sn sc)/\W'.cell? ⟨b5,0,none⟩=some (.int .i64 1)/\W'.cell? ⟨b5,1,none⟩=some (.int .i64 (pI rk 20-10))/\W'.cell? ⟨b5,2,none⟩=some (.string ⟨#[]⟩)/\W'.cell? ⟨rb,off+k,none⟩=some (.int .i64 rk)):=λW' t=>⟨cO y2 t,cO z0 t,cO z1 t,cO z2 t,cO c3 t⟩;have HLV:Hid (vs.length=k):=by{ have:=HS.out.len;have:=HL.out;unfold Hid;omega }
     refine wP (λw'=>w'.cell? ⟨w.heap.size+1+1,2,none⟩=some (.slice so sn sc)/\w'.cell? ⟨b5,0,none⟩=some (.int .i64 1)/\w'.cell? ⟨b5,1,none⟩=some (.int .i64 (pI rk 20-10))/\w'.cell? ⟨b5,2,none⟩=some (.string ⟨#[]⟩)/\w'.cell? ⟨rb,off+k,none⟩=some (.int .i64 rk)) (by kernel_rfl) rfl (lastOK_spec (by kernel_rfl)) (HSK.out _ (tr_.drew)) (λhHeld=>?_);simp only[List.pop_toArray,List.dropLast];generalize hQB:Behind prog _ _=QB;have haa:∀c (a:Act) d v w,QB (.panic c) (a.put d v) w->QB (.panic c) a w:=by{ rw[<-hQB];intro _ _ d _ _ h;cases d<;>exact h }
     have HQB:Hid (Behind prog _ _=QB):=hQB;clear hQB y0 y1 y2 z0 z1 z2 hB5 c1 c3;refine wpAnyH_take (i:=0) (v:=.pointer (some ⟨w.heap.size+1+1,2,none⟩)) rfl (by kernel_rfl) (by kernel_rfl) (by kernel_rfl) (λ_ _ _ h=>haa _ _ _ _ _ h) (Or.inl ⟨by rfl,λwz hz=>?_⟩) hHeld ?_
     ·obtain⟨hz0,hz1,hz2,hz3,hz4⟩:=hz;go_simp
     simp only[Act.put,List.setIfInBounds_toArray];refine wpAnyH_take (i:=1) (v:=.slice so sn sc) rfl (by kernel_rfl) (by kernel_rfl) (by kernel_rfl) (λ_ _ _ h=>haa _ _ _ _ _ h) (Or.inl ⟨by rfl,λwz hz=>?_⟩) hHeld ?_
     ·obtain⟨hz0,hz1,hz2,hz3,hz4⟩:=hz;go_simp
     simp only[Act.put];refine wpAnyH_take (i:=2) (v:=.agg #[.int .i64 1,.int .i64 (pI rk 20-10),.string ⟨#[]⟩]) rfl (by kernel_rfl) (by kernel_rfl) (by kernel_rfl) (λ_ _ _ h=>haa _ _ _ _ _ h) (Or.inl ⟨by rfl,λwz hz=>?_⟩) hHeld ?_
     ·obtain⟨hz0,hz1,hz2,hz3,hz4⟩:=hz;go_simp
     simp only[Act.put];refine wpAnyH_take (i:=3) (v:=.int .i64 (k:Int)) rfl (by kernel_rfl) (by kernel_rfl) (by kernel_rfl) (λ_ _ _ h=>haa _ _ _ _ _ h) (Or.inl ⟨by rfl,λwz hz=>?_⟩) hHeld ?_
     ·obtain⟨hz0,hz1,hz2,hz3,hz4⟩:=hz;go_simp
     simp only[Act.put];refine wpAnyH_take (i:=5) (v:=.slice (some ⟨rb,off,none⟩) raw.length cap) rfl (by kernel_rfl) (by kernel_rfl) (by kernel_rfl) (λ_ _ _ h=>haa _ _ _ _ _ h) (Or.inl ⟨by rfl,λwz hz=>?_⟩) hHeld ?_
     ·obtain⟨hz0,hz1,hz2,hz3,hz4⟩:=hz;go_simp
     simp only[Act.put];refine wpAnyH_take (i:=6) (v:=.int .i64 (k:Int)) rfl (by kernel_rfl) (by kernel_rfl) (by kernel_rfl) (λ_ _ _ h=>haa _ _ _ _ _ h) (Or.inl ⟨by rfl,λwz hz=>?_⟩) hHeld ?_
     ·obtain⟨hz0,hz1,hz2,hz3,hz4⟩:=hz;go_simp
     simp only[Act.put];refine wpAnyH_take (i:=7) (v:=.pointer (some ⟨rb,off+k,none⟩)) rfl (by kernel_rfl) (by kernel_rfl) (by kernel_rfl) (λ_ _ _ h=>haa _ _ _ _ _ h) (Or.inl ⟨by rfl,λwz hz=>?_⟩) hHeld ?_
     ·obtain⟨hz0,hz1,hz2,hz3,hz4⟩:=hz;go_simp
     simp only[Act.put];refine wpAnyH_take (i:=8) (v:=.int .i64 rk) rfl (by kernel_rfl) (by kernel_rfl) (by kernel_rfl) (λ_ _ _ h=>haa _ _ _ _ _ h) (Or.inl ⟨by rfl,λwz hz=>?_⟩) hHeld ?_
     ·obtain⟨hz0,hz1,hz2,hz3,hz4⟩:=hz;go_simp
     simp only[Act.put];refine wpAnyH_take (i:=11) (v:=.slice (some ⟨rb,off,none⟩) raw.length cap) rfl (by kernel_rfl) (by kernel_rfl) (by kernel_rfl) (λ_ _ _ h=>haa _ _ _ _ _ h) (Or.inl ⟨by rfl,λwz hz=>?_⟩) hHeld ?_
     ·obtain⟨hz0,hz1,hz2,hz3,hz4⟩:=hz;go_simp
     simp only[Act.put];refine wpAnyH_take (i:=12) (v:=.int .i64 (k:Int)) rfl (by kernel_rfl) (by kernel_rfl) (by kernel_rfl) (λ_ _ _ h=>haa _ _ _ _ _ h) (Or.inl ⟨by rfl,λwz hz=>?_⟩) hHeld ?_
     ·obtain⟨hz0,hz1,hz2,hz3,hz4⟩:=hz;go_simp
     simp only[Act.put];refine wpAnyH_take (i:=13) (v:=.pointer (some ⟨rb,off+k,none⟩)) rfl (by kernel_rfl) (by kernel_rfl) (by kernel_rfl) (λ_ _ _ h=>haa _ _ _ _ _ h) (Or.inl ⟨by rfl,λwz hz=>?_⟩) hHeld ?_
     ·obtain⟨hz0,hz1,hz2,hz3,hz4⟩:=hz;go_simp
     simp only[Act.put];refine wpAnyH_take (i:=14) (v:=.int .i64 rk) rfl (by kernel_rfl) (by kernel_rfl) (by kernel_rfl) (λ_ _ _ h=>haa _ _ _ _ _ h) (Or.inl ⟨by rfl,λwz hz=>?_⟩) hHeld ?_
     ·obtain⟨hz0,hz1,hz2,hz3,hz4⟩:=hz;go_simp
     simp only[Act.put];refine wpAnyH_ready (rs:=[4]) (by kernel_rfl) (by simp) (AllReadyH.cons rfl (λK hK=>?_) AllReadyH.nil);go_simp;refine(HWH.out _ _).mono ?_;rintro e w3 ⟨rfl,hT3⟩;have HT4:Hid (Touch [] W w3):=(tr_.drew).trans hT3;refine hK.out _ _ (HSK.out _ HT4.out) (λhHeld3=>?_);clear hK K hT3 hHeld;refine wpAnyH_ready (rs:=[9]) (by kernel_rfl) (by simp) (AllReadyH.cons rfl (λK hK=>?_) AllReadyH.nil);go_simp;refine(HWO.out _).mono ?_;rintro e w4 ⟨s,rfl,hs9,hT5⟩;have HT5:Hid (Touch [] W w4):=HT4.out.trans hT5;refine hK.out _ _ (HSK.out _ HT5.out) (λhHeld4=>?_);clear hK K hT5 hHeld3;refine wpAnyH_take (i:=10) (v:=.agg #[.int .i64 2,.int .i64 0,.string s]) rfl (by kernel_rfl) (by kernel_rfl) (by kernel_rfl) (λ_ _ _ h=>haa _ _ _ _ _ h) (Or.inl ⟨by rfl,λwz hz=>?_⟩) hHeld4 ?_
     ·obtain⟨hz0,hz1,hz2,hz3,hz4⟩:=hz;go_simp
     simp only[Act.put,List.setIfInBounds_toArray];refine wpAnyH_ready (rs:=[15]) (by kernel_rfl) (by simp) (AllReadyH.cons rfl (λK hK=>?_) AllReadyH.nil);go_simp;refine(HP.out _ _ ⟨by omega,by omega⟩).mono ?_;rintro e w5 ⟨rfl,hw5⟩;rw[hw5];clear hw5 w5;refine hK.out _ _ hHeld4 (λhHeld5=>?_);clear hK K;refine wpAnyH_take (i:=16) (v:=.agg #[.int .i64 3,.int .i64 (pI rk 2),.string ⟨#[]⟩]) rfl (by kernel_rfl) (by kernel_rfl) (by kernel_rfl) (λ_ _ _ h=>haa _ _ _ _ _ h) (Or.inl ⟨by rfl,λwz hz=>?_⟩) hHeld5 ?_
     ·obtain⟨hz0,hz1,hz2,hz3,hz4⟩:=hz;go_simp
     simp only[Act.put,List.setIfInBounds_toArray];refine wpAnyH_ready (rs:=[17]) (by kernel_rfl) (by simp) (AllReadyH.cons rfl (λK hK=>?_) AllReadyH.nil);go_simp;refine hK.out _ _ (HSK.out _ (HT5.out.alloc _)) (λhHeld6=>?_);clear hK K hHeld4 hHeld5;refine wpAnyH_ready (rs:=[18]) (by kernel_rfl) (by simp) (AllReadyH.cons rfl (λK hK=>?_) AllReadyH.nil);go_simp;refine hK.out _ _ (HSK.out _ ((HT5.out.alloc _).alloc _)) (λhHeld7=>?_);clear hK K hHeld6;have HW6:Hid (TS w ((w4.alloc (.cells #[.int .i64 1,.int .i64 (pI rk 20-10),.string ⟨#[]⟩,.int .i64 1,.int .i64 (k:Int),.string ⟨#[]⟩,.int .i64 2,.int .i64 0,.string s,.int .i64 3,.int .i64 (pI rk 2),.string ⟨#[]⟩] 85)).alloc (.cells #[.slice (some ⟨w4.heap.size,0,none⟩) 4 4] 83)) w.heap.size (w.heap.size+1) (w.heap.size+1+1) raw (.slice so sn sc) vs rows):=HT3.out.quiet ((HT5.out.alloc _).alloc _);have HR6:Hid (Ro ((w4.alloc (.cells #[.int .i64 1,.int .i64 (pI rk 20-10),.string ⟨#[]⟩,.int .i64 1,.int .i64 (k:Int),.string ⟨#[]⟩,.int .i64 2,.int .i64 0,.string s,.int .i64 3,.int .i64 (pI rk 2),.string ⟨#[]⟩] 85)).alloc (.cells #[.slice (some ⟨w4.heap.size,0,none⟩) 4 4] 83)) (.slice (some ⟨w4.heap.size,0,none⟩) 4 4) (rowOf rk k s)):=by{ unfold Hid rowOf;rw[HA.out];exact Ro.touch (rowAt_new w4 ⟨1,(pI rk 20-10),⟨#[]⟩⟩ ⟨1,(k:Int),⟨#[]⟩⟩ ⟨2,0,s⟩ ⟨3,pI rk 2,⟨#[]⟩⟩) (tr_.alloc _) }
     have HB6:Hid (((w4.alloc (.cells #[.int .i64 1,.int .i64 (pI rk 20-10),.string ⟨#[]⟩,.int .i64 1,.int .i64 (k:Int),.string ⟨#[]⟩,.int .i64 2,.int .i64 0,.string s,.int .i64 3,.int .i64 (pI rk 2),.string ⟨#[]⟩] 85)).alloc (.cells #[.slice (some ⟨w4.heap.size,0,none⟩) 4 4] 83)).heap[b5]?=some (.cells #[.int .i64 1,.int .i64 (pI rk 20-10),.string ⟨#[]⟩] 85 (0,0))):=((HT5.out.alloc _).alloc _).tu 85 _ _ _ HB5.out;have HC6:Hid (((w4.alloc (.cells #[.int .i64 1,.int .i64 (pI rk 20-10),.string ⟨#[]⟩,.int .i64 1,.int .i64 (k:Int),.string ⟨#[]⟩,.int .i64 2,.int .i64 0,.string s,.int .i64 3,.int .i64 (pI rk 2),.string ⟨#[]⟩] 85)).alloc (.cells #[.slice (some ⟨w4.heap.size,0,none⟩) 4 4] 83)).cell? ⟨w4.heap.size+1,0,none⟩=some (.slice (some ⟨w4.heap.size,0,none⟩) 4 4)):=bg (new2 _ _ _);have HZ6:Hid (((w4.alloc (.cells #[.int .i64 1,.int .i64 (pI rk 20-10),.string ⟨#[]⟩,.int .i64 1,.int .i64 (k:Int),.string ⟨#[]⟩,.int .i64 2,.int .i64 0,.string s,.int .i64 3,.int .i64 (pI rk 2),.string ⟨#[]⟩] 85)).alloc (.cells #[.slice (some ⟨w4.heap.size,0,none⟩) 4 4] 83)).heap.size=w4.heap.size+1+1):=by{ unfold Hid;simp }
     generalize (w4.alloc (.cells #[.int .i64 1,.int .i64 (pI rk 20-10),.string ⟨#[]⟩,.int .i64 1,.int .i64 (k:Int),.string ⟨#[]⟩,.int .i64 2,.int .i64 0,.string s,.int .i64 3,.int .i64 (pI rk 2),.string ⟨#[]⟩] 85)).alloc (.cells #[.slice (some ⟨w4.heap.size,0,none⟩) 4 4] 83)=W6 at *;generalize w4.heap.size=H at *;refine wpAnyH_ready (rs:=[19]) (by kernel_rfl) (by simp) (AllReadyH.cons rfl (λK hK=>?_) AllReadyH.nil);refine step_lst rfl (.tmp 33) (.tmp 50) rfl (.slice so sn sc) vs rfl HW6.out.list ⟨H+1,0,none⟩ (.slice (some ⟨H,0,none⟩) 4 4) 1 rfl HC6.out rfl (by have:=HLV.out;omega) ?_;intro g cap2 w7 q1 q2 q3 q4;have t7:Touch (Value.slice so sn sc).ownBlock.toList W6 w7:=(Touch.refl _ _).grown q2 (λk hk=>by simp[hk]);obtain⟨k7,tw7⟩:=HW6.out.grown t7;have hB7:=k7 70 (by decide) _ _ _ HW6.out.box;obtain⟨y0,y1,y2⟩:=bD hB7;obtain⟨z0,z1,z2⟩:=bD (k7 85 (by decide) _ _ _ HB6.out);have f7:w7.frozen? ⟨w.heap.size+1+1,2,none⟩=false:=by{ simp[World.frozen?,hB7] }
     have HFIN:Hid (TS w (w7.setCell ⟨w.heap.size+1+1,2,none⟩ (.slice (some ⟨g,0,none⟩) (vs.length+1) cap2)) w.heap.size (w.heap.size+1) (w.heap.size+1+1) raw (.slice (some ⟨g,0,none⟩) (vs.length+1) cap2) (vs++[.slice (some ⟨H,0,none⟩) 4 4]) (rows++[rowOf rk k s])):=HW6.out.push HR6.out (by rw[HL.out];exact⟨s,hs9,by rw[HG.out]⟩) q1 t7 q3 (by omega) (by omega);refine hK.out _ _ ⟨y2,z0,z1,z2,HRK.out w7 tw7⟩ (λhHeld8=>?_);clear hK K hHeld7 t7 k7 q1 q2 q3;simp only[Act.put,List.setIfInBounds_toArray];refine wpAnyH_take (i:=20) (v:=.pointer (some ⟨w.heap.size+1+1,2,none⟩)) rfl (by kernel_rfl) (by kernel_rfl) (by kernel_rfl) (λ_ _ _ h=>haa _ _ _ _ _ h) (Or.inl ⟨by rfl,λwz hz=>?_⟩) hHeld8 ?_
     ·obtain⟨hz0,hz1,hz2,hz3,hz4⟩:=hz;go_simp
     simp only[Act.put];refine wpAnyH_done (by kernel_rfl) ?_ _;rw[<-HQB.out];unfold Behind;change Oper.wp _ _ _ _ _ _;go_simp;go_wp2;exact⟨⟨k+1,_,_,_,by omega,by omega,by simp,by simp[HL.out],HFIN.out⟩,by simp only[intOf];omega⟩
   ·have hk3:k=1000:=by omega
    obtain⟨y0,y1,y2⟩:=bD HS.out.box;obtain⟨z0,z1,z2⟩:=bD HS.out.res;have f0:∀i,wr.frozen? ⟨w.heap.size,i,none⟩=false:=λi=>by simp[World.frozen?,HS.out.res]
    have f1:=f0 0;have f2:=f0 1;have f3:=f0 2;go_wp2;have hT8:Touch [w.heap.size] wr (((wr.setCell ⟨w.heap.size,0,none⟩ (.string nM)).setCell ⟨w.heap.size,1,none⟩ (.slice (some ⟨w.heap.size+1,0,none⟩) 4 4)).setCell ⟨w.heap.size,2,none⟩ (.slice so sn sc)):=(((Touch.refl [w.heap.size] _).setCell (by simp) _).setCell (by simp) _).setCell (by simp) _;exact bodyPost_ret (v:=.agg #[.string nM,.slice (some ⟨w.heap.size+1,0,none⟩) 4 4,.slice so sn sc]) (by simp[results,results30,go_sem,z0,z1,z2]) rfl ⟨_,_,vs,rows,rfl,HS.out.done hT8 (e_ _) (by rw[HL.out];omega)⟩
  ·have hk3:k=raw.length:=by omega
   obtain⟨y0,y1,y2⟩:=bD HS.out.box;obtain⟨z0,z1,z2⟩:=bD HS.out.res;have f0:∀i,wr.frozen? ⟨w.heap.size,i,none⟩=false:=λi=>by simp[World.frozen?,HS.out.res]
   have f1:=f0 0;have f2:=f0 1;have f3:=f0 2;go_wp2;have hT8:Touch [w.heap.size] wr (((wr.setCell ⟨w.heap.size,0,none⟩ (.string nM)).setCell ⟨w.heap.size,1,none⟩ (.slice (some ⟨w.heap.size+1,0,none⟩) 4 4)).setCell ⟨w.heap.size,2,none⟩ (.slice so sn sc)):=(((Touch.refl [w.heap.size] _).setCell (by simp) _).setCell (by simp) _).setCell (by simp) _;exact bodyPost_ret (v:=.agg #[.string nM,.slice (some ⟨w.heap.size+1,0,none⟩) 4 4,.slice so sn sc]) (by simp[results,results30,go_sem,z0,z1,z2]) rfl ⟨_,_,vs,rows,rfl,HS.out.done hT8 (e_ _) (by rw[HL.out];omega)⟩
theorem aOf_cases (r:Int):aOf r=⟨0,0,⟨#[]⟩⟩\/∃n:Int,(-10<=n/\n<10)/\aOf r=⟨1,n,⟨#[]⟩⟩:=by
 unfold aOf
 split
 ·exact .inl rfl
 ·obtain⟨h1,h2⟩:=pK r 20 (by omega);exact .inr ⟨_,⟨by omega,by omega⟩,rfl⟩
theorem i64_of {n:Int}(h1: -1000000<=n)(h2:n<=1000000):I64 n:=by unfold I64;omega
theorem rowOf_fair (r:Int)(i:Nat)(s:ByteArray)(hs:s.size<=9)(hi:i<=1000000):∀y∈rowOf r i s,Fair y:=by
 intro y hy;simp only[rowOf,a_,i_,or_false]at hy;rcases hy with rfl|rfl|rfl|rfl
 ·rcases aOf_cases r with h|⟨n,hn,h⟩
  ·rw[h];exact .inl ⟨rfl,rfl,rfl⟩
  ·rw[h];exact .inr (.inl ⟨rfl,i64_of (n:=n) (by omega) (by omega),rfl⟩)
 ·exact .inr (.inl ⟨rfl,i64_of (n:=(i:Int)) (by omega) (by omega),rfl⟩)
 ·exact .inr (.inr (.inl ⟨rfl,rfl,by show s.size<=200;omega⟩))
 ·obtain⟨h1,h2⟩:=pK r 2 (by omega);exact .inr (.inr (.inr ⟨rfl,by show pI r 2=0\/pI r 2=1;omega,rfl⟩))
theorem rowOf_size (r:Int)(i:Nat)(s:ByteArray)(hs:s.size<=9):sZ (rowOf r i s)<=40:=by
 have ha:sV (aOf r)<=9:=by
  rcases aOf_cases r with h|⟨n,hn,h⟩<;>rw[h]<;>simp[sV]
 have hb:sV ⟨1,(i:Int),⟨#[]⟩⟩=9:=by simp[sV]
 have hc:sV ⟨2,0,s⟩=3+s.size:=by simp[sV]
 have hd:sV ⟨3,pI r 2,⟨#[]⟩⟩=2:=by simp[sV]
 unfold sZ rowOf;simp only[List.map_cons,List.map_nil,List.sum_cons,List.sum_nil,hb,hc,hd];omega
theorem rows_ok (blk:Nat)(hb:64<=blk)(hn:rows.length<=1000)(h:∀i (h:i<rows.length),TR raw i rows[i])(hk:gK ks 4):Rf blk 4 ks rows:=by
 have hf:∀i (hi:i<rows.length),∀y∈rows[i],Fair y:=λi hi=>by
  obtain⟨s,hs,e⟩:=h i hi;rw[e];exact rowOf_fair _ i s hs (by omega)
 refine⟨λi hi=>⟨i64_of (n:=(i:Int)) (by omega) (by omega),hf i hi,?_,?_⟩,λr hr=>?_⟩
 ·obtain⟨s,hs,e⟩:=h i hi;show rows[i].length=4;rw[e];rfl
 ·obtain⟨s,hs,e⟩:=h i hi;have:=rowOf_size (raw.getD i 0) i s hs;show 16+sZ rows[i]<=blk;rw[e];omega
 ·obtain⟨i,hi,rfl⟩:=A_ hr;refine⟨hf i hi,?_⟩;obtain⟨s,hs,e⟩:=h i hi;rw[e];exact hk
theorem ni:Old.nilB ⟨#[]⟩=true:=by kernel_rfl
theorem row_pair (h:TR raw i r):Old.Rl (r.map V.old) [1,1,2,3]:=by
 obtain⟨s,hs,rfl⟩:=h;refine⟨rfl,λj hj h2=>?_⟩;simp only[List.length_cons,List.length_nil]at h2
 match j,h2 with
 | 0,_=>
  show Old.PK (aOf (raw.getD i 0)).old 1;rcases aOf_cases (raw.getD i 0)with h|⟨n,hn,h⟩
  ·rw[h];exact⟨.inl rfl,by simp[V.old,Old.gB,ni]⟩
  ·rw[h];exact⟨.inr rfl,by simp[V.old,Old.gB,ni]⟩
 | 1,_=>exact⟨.inr rfl,by simp[rowOf,V.old,Old.gB,ni]⟩
 | 2,_=>exact⟨.inr rfl,by simp[rowOf,V.old,Old.gB];omega⟩
 | 3,_=>
  obtain⟨h1,h2⟩:=pK (raw.getD i 0) 2 (by omega);refine⟨.inr rfl,?_⟩;have h3:pI (raw.getD i 0) 2=0\/pI (raw.getD i 0) 2=1:=by omega
  show Old.gB ⟨3,pI (raw.getD i 0) 2,⟨#[]⟩⟩=true;generalize pI (raw.getD i 0) 2=x at *;rcases h3 with rfl|rfl<;>simp[Old.gB,ni]
theorem valid_plan (h:∀i (h:i<rows.length),TR raw i rows[i])(hk:gK ks 4)(h1:1<=ks.length)(h4:ks.length<=4):Old.VO [⟨nM,[1,1,2,3],oO rows⟩] (pq nM ks):=by
 have hcols:∀N,Old.caf [⟨nM,[1,1,2,3],oO rows⟩] (List.take 0 N)=[]:=λN=>rfl;have htab:Old.tY [⟨nM,[1,1,2,3],oO rows⟩] nM=[1,1,2,3]:=by simp[Old.tY]
 have hcol1:Old.caf [⟨nM,[1,1,2,3],oO rows⟩] (List.take 1 (pq nM ks))=[[1,1,2,3]]:=by
  simp[pq,Old.caf,Old.grow,Old.nD,htab]
 refine⟨⟨by simp[pq],by simp[pq]⟩,λi j hi hj hij=>?_,λi hi=>?_,⟨λi hi=>?_,λj hj=>?_,λi hi=>?_⟩,λi hi=>?_⟩
 ·simp at hi hj;omega
 ·have:i=0:=by simp at hi;omega
  subst this;refine⟨⟨by simp,by simp,λj hj=>?_⟩,λj hj=>?_⟩
  ·simp only[List.getElem_cons_zero,List.length_cons,List.length_nil]at hj
   match j,hj with
   | 0,_=>simp[Old.KN]
   | 1,_=>simp[Old.KN]
   | 2,_=>simp[Old.KN]
   | 3,_=>simp[Old.KN]
  ·simp only[List.getElem_cons_zero,oO,u_]at hj;simp only[List.getElem_cons_zero,oO,ax_];exact row_pair (h j hj)
 ·simp only[pq,List.length_cons,List.length_nil]at hi
  match i,hi with
  | 0,_=>exact⟨⟨by simp[pq],by simp[pq,Old.BN,Old.BR]⟩,λx hx=>by simp[pq,Old.ins]at hx⟩
  | 1,_=>exact⟨⟨by simp[pq],by simp[pq,Old.BN,Old.BR,ni]⟩,λx hx=>by simp[pq,Old.ins]at hx;subst hx;omega⟩
 ·have:j=0:=by simp[pq]at hj;omega
  subst this;simp[pq,Old.asks,Old.ins]
 ·simp only[pq,List.length_cons,List.length_nil]at hi
  match i,hi with
  | 0,_=>simp[pq,Old.hF,Old.hts,Old.grow,Old.hOf]
  | 1,_=>simp[pq,Old.hF,Old.hts,Old.grow,Old.hOf]
 ·simp only[pq,List.length_cons,List.length_nil]at hi
  match i,hi with
  | 0,_=>
   intro _;rw[hcols];simp only[pq,List.getElem_cons_zero,Old.NK,Old.nD,if_pos,htab];exact⟨⟨0,by simp,rfl⟩,by simp,by simp⟩
  | 1,_=>
   intro _;rw[hcol1];simp only[pq,List.getElem_cons_succ,List.getElem_cons_zero,Old.NK,Old.nD,Old.cac];refine⟨?_,by simp,by simp⟩;simp only[show(2:Int)≠1 by decide,if_false,if_true];refine⟨λj hj=>?_,by simpa[Old.cae]using h1,by simpa[Old.cae]using h4⟩;simp only[Old.cae,u_]at hj;simp only[Old.cae,ax_];exact hk ks[j] (m_ hj)
theorem LW.at {w:World}{v:Value}{vs:List Value}(h:LW w v vs):LAt w v vs/\∀o n c,v=.slice o n c->n<=c/\c<=maxLen:=by
 rcases h.2 with⟨rfl,e⟩|⟨g,cap,cur,rfl,hb,hh,h1,h2,h3,h4⟩
 ·obtain rfl:vs=[]:=List.eq_nil_of_length_eq_zero e;exact⟨⟨_,_,rfl,.inl rfl⟩,λo n c e=>by cases e;unfold maxLen;omega⟩
 ·refine⟨⟨_,_,rfl,.inr ⟨g,0,cur,rfl,hh,h2,h1,λi hi=>?_⟩⟩,λo n c e=>by cases e;exact⟨h1,h2⟩⟩;have h5:(cur.toList.take (vs.length*1))[i]?=some vs[i]:=by rw[h4];exact p_ hi
  rw[List.getElem?_take_of_lt (by omega)]at h5;simpa using h5
theorem kinds_in (h:w.heap[bk]?=some (.cells kC 3 (0,0))):Old.IntsIn w [] (.slice (some ⟨bk,0,none⟩) 4 4) [1,1,2,3]:=by
 refine⟨_,_,rfl,by simp,by unfold maxLen;omega,by simp[Old.ints],λ_=>⟨bk,0,rfl,by simp,λj u hj=>?_⟩⟩;simp only[World.cell?,h,U_];have hj':=(l_.1 hj).1;simp only[Old.ints,u_,List.length_cons,List.length_nil]at hj'
 match j,hj' with
 | 0,_=>simpa[Old.ints,kC]using hj
 | 1,_=>simpa[Old.ints,kC]using hj
 | 2,_=>simpa[Old.ints,kC]using hj
 | 3,_=>simpa[Old.ints,kC]using hj
structure AskIn (w:World)(gp bk:Nat)(sv kv:Value)(blk fan bud:Nat)(raw:List Int)(ks:List K)(vs:List Value)(rows:List (List V)):Prop where
 plan:PL w gp nM kv
 keys:KA w kv ks
 kinds:w.heap[bk]?=some (.cells kC 3 (0,0))
 list:LW w sv vs
 len:vs.length=rows.length
 rW:∀i (_:i<vs.length) (_:i<rows.length),Ro w vs[i] rows[i]
 tJ:∀i (h:i<rows.length),TR raw i rows[i]
 num:rows.length<=1000
 good:gK ks 4
 k1:1<=ks.length
 k4:ks.length<=4
 b1:64<=blk
 b2:blk<=512
 f1:2<=fan
 f2:fan<=16
 u1:4*blk<=bud
 u2:bud<=100000
theorem AskIn.quiet (h:AskIn w gp bk sv kv blk fan bud raw ks vs rows)(t:Touch [] w w'):AskIn w' gp bk sv kv blk fan bud raw ks vs rows:=
 { h with plan:=h.plan.keep (t.tu _),keys:=h.keys.touch t,kinds:=t.tu _ _ _ _ h.kinds,list:=h.list.keep (t.tu _),rW:=λi a b=>(h.rW i a b).touch t }
theorem room_enough (h:N<=1000):2*N+((N*(N+1)+0)+1)<=1048576+8192*N:=by
 have:N*(N+1)<=1000*(N+1):=an_ _ h;omega
abbrev nR:Inhabited Ground:=⟨⟨0,λ_=>none⟩⟩
theorem newS_ok (N:Nat):@Di nR (newS 4096 ((1048576+8192*N:Nat):Int)):=by
 letI:Inhabited Ground:=nR
 refine⟨rfl,rfl,rfl,?_,?_,by simp[newS],by simp[newS],λj _=>rfl,by show(0:Int)<=_;simp[newS]⟩
 ·intro i j x y hx;simp[newS]at hx
 ·intro f hf;simp[newS]at hf
theorem query_here {kvo:Option Addr}(h:AskIn W gp bk sv (.slice kvo kl kc2) blk fan bud raw ks vs rows)(hg:W.heap[g]?=some (.cells #[.string nM,.slice (some ⟨bk,0,none⟩) 4 4,sv] 70 (0,0)))(hp:PD W bx bm (newS 4096 ((1048576+8192*rows.length:Nat):Int)) [])(hlow:bm<=bx) :
  Calls prog 18 #[.slice (some ⟨g,0,none⟩) 1 1,.slice (some ⟨gp,0,none⟩) 2 2,.agg #[.int .i64 (blk:Int),.int .i64 (fan:Int),.int .i64 (bud:Int)],.pointer (some ⟨bx,0,none⟩)] W λe w'=>∃lv out,e=.returned (.tuple #[lv,.int .i64 0])/\Aw bm W w' lv out ks rows:=by
 letI:Inhabited Ground:=nR
 have hn:=h.num;obtain⟨hL,hcap⟩:=h.list.at;have hb1:=h.b1;have hb2:=h.b2;have hf1:=h.f1;have hf2:=h.f2;have hu1:=h.u1;have hu2:=h.u2;refine query_any W gp _ sv kl kc2 kvo nM (some ⟨bk,0,none⟩) 4 4 bx bm blk fan bud 4 ks vs rows [1,1,2,3] _ [] rows.length 0 (1000000000-rows.length) 0 ⟨h.plan,⟨⟨g,0,1,_,rfl,hg,by unfold maxLen;omega,by omega,rfl,rfl,rfl⟩⟩,h.keys,hL,h.len,h.rW,hp,newS_ok _,rows_ok blk hb1 hn h.tJ h.good,by omega,by omega,?_,by omega,by omega,hu1,by omega,hf1,by omega,by omega,λk hk=>by simp[dI,rowsOf]at hk;omega⟩ (kinds_in h.kinds) hcap (valid_plan h.tJ h.good h.k1 h.k4) (by have:=h.k4;omega) (by simp) hb1 hf2 ⟨?_,?_,?_,?_⟩ (by omega) (by omega) (by omega)
 ·simp[newS];omega
 ·simp[newS,uO]
 ·have hr:=room_enough hn;show(0:Int)+((2*rows.length+((rows.length*(rows.length+1)+0)+1):Nat):Int)<=max ((1048576+8192*rows.length:Nat):Int) 0;generalize 2*rows.length+((rows.length*(rows.length+1)+0)+1)=x at *;omega
 ·have hr:=room_enough hn;show(0:Int)+((2*rows.length+((rows.length*(rows.length+1)+0)+1):Nat):Int)<=1000000000;generalize 2*rows.length+((rows.length*(rows.length+1)+0)+1)=x at *;omega
 ·simp[newS];omega
def tabC (bk:Nat)(sv:Value):Obj:=.cells #[.string nM,.slice (some ⟨bk,0,none⟩) 4 4,sv] 70
def cfgC (blk fan bud:Nat):Obj:=.cells #[.int .i64 (blk:Int),.int .i64 (fan:Int),.int .i64 (bud:Int)] 51
def Six (W:World)(b0 b1 bk:Nat)(sv:Value)(blk fan bud:Nat):Prop:=
 (W.cell? ⟨b0,0,none⟩=some (.string nM)/\W.cell? ⟨b0,1,none⟩=some (.slice (some ⟨bk,0,none⟩) 4 4)/\W.cell? ⟨b0,2,none⟩=some sv)/\(W.cell? ⟨b1,0,none⟩=some (.int .i64 (blk:Int))/\W.cell? ⟨b1,1,none⟩=some (.int .i64 (fan:Int))/\W.cell? ⟨b1,2,none⟩=some (.int .i64 (bud:Int)))
theorem ask_gen (G:List (List V)->Prop)(w:World)(gp N bk:Nat)(sv:Value)(blk fan bud:Nat)(vs:List Value)(rows:List (List V))(hlist:LW w sv vs)(hlen:vs.length=rows.length)(hnum:rows.length<=1000)
  (hq:∀W g bx bm,Touch [] w W->W.heap[g]?=some (.cells #[.string nM,.slice (some ⟨bk,0,none⟩) 4 4,sv] 70 (0,0))->PD W bx bm (newS 4096 ((1048576+8192*rows.length:Nat):Int)) []->bm<=bx->Calls prog 18 #[.slice (some ⟨g,0,none⟩) 1 1,.slice (some ⟨gp,0,none⟩) N N,.agg #[.int .i64 (blk:Int),.int .i64 (fan:Int),.int .i64 (bud:Int)],.pointer (some ⟨bx,0,none⟩)] W λe w'=>∃lv l,e=.returned (.tuple #[lv,.int .i64 0])/\Ans G bm W w' lv l) :
  Calls prog 32 #[.agg #[.string nM,.slice (some ⟨bk,0,none⟩) 4 4,sv],.slice (some ⟨gp,0,none⟩) N N,.agg #[.int .i64 (blk:Int),.int .i64 (fan:Int),.int .i64 (bud:Int)]] w λe w'=>∃lv l,e=.returned (.tuple #[lv,.int .i64 0])/\Ans G w.heap.size w w' lv l:=by
 obtain⟨so,sn,sc,rfl⟩:=hlist.slice;have hsn:sn=rows.length:=by
  obtain⟨o,cap,e,_⟩:=hlist.at.1;simp only[Value.slice.injEq]at e;rw[e.2.1,hlen]
 have HL:Hid (∀W0 W,Touch [] W0 W->Calls prog 39 #[.agg #[.string nM,.slice (some ⟨bk,0,none⟩) 4 4,.slice so sn sc]] W λe w'=>e=.returned (.int .i64 ((1048576+8192*sn:Nat):Int))/\Touch [] W0 w'/\Touch [] W w'):=λW0 W t=>by
  refine(large_any W _ _ so sn sc (by omega)).mono ?_;rintro e w' ⟨rfl,h1⟩;exact⟨rfl,t.trans h1,h1⟩
 have HN:Hid (∀W0 W,Touch [] W0 W->Calls prog 15 #[.int .i64 4096,.int .i64 ((1048576+8192*sn:Nat):Int)] W λe w'=>∃bx bm,e=.returned (.pointer (some ⟨bx,0,none⟩))/\(bm<=bx/\W0.heap.size<=bm)/\PD w' bx bm (newS 4096 ((1048576+8192*rows.length:Nat):Int)) []/\Touch [] W0 w'/\Touch [] W w'):=λW0 W t=>by
  refine(pnew 4096 _ W).mono ?_;rintro e w' ⟨rfl,h1,h2⟩;rw[hsn]at h1;exact⟨_,_,rfl,⟨Nat.le_succ _,t.size⟩,h1,t.trans h2,h2⟩
 have hAB:∃W0:World,∃b0 b1,W0=(w.alloc (tabC bk (.slice so sn sc))).alloc (cfgC blk fan bud)/\b0=w.heap.size/\b1=w.heap.size+1:=⟨_,_,_,rfl,rfl,rfl⟩;obtain⟨W0,b0,b1,eW,e0,e1⟩:=hAB;have hT0:Touch [] w W0:=by rw[eW];exact(tr_.alloc _).alloc _
 have hB0:W0.heap[b0]?=some (.cells #[.string nM,.slice (some ⟨bk,0,none⟩) 4 4,.slice so sn sc] 70 (0,0)):=by
  rw[eW,e0];exact(Below.heap_alloc _ _ _ (by simp)).trans (heap_alloc_new w _)
 have hB1:W0.heap[b1]?=some (.cells #[.int .i64 (blk:Int),.int .i64 (fan:Int),.int .i64 (bud:Int)] 51 (0,0)):=by
  rw[eW,e1];exact new2 _ _ _
 have HK:Hid (∀W,Touch [] W0 W->Six W b0 b1 bk (.slice so sn sc) blk fan bud):=λW t=>⟨bD (t.tu 70 _ _ _ hB0),bD (t.tu 51 _ _ _ hB1)⟩;have HQ:Hid (∀W g bx bm,Touch [] W0 W->W.heap[g]?=some (.cells #[.string nM,.slice (some ⟨bk,0,none⟩) 4 4,.slice so sn sc] 70 (0,0))->PD W bx bm (newS 4096 ((1048576+8192*rows.length:Nat):Int)) []->(bm<=bx/\W0.heap.size<=bm) ->
   Calls prog 18 #[.slice (some ⟨g,0,none⟩) 1 1,.slice (some ⟨gp,0,none⟩) N N,.agg #[.int .i64 (blk:Int),.int .i64 (fan:Int),.int .i64 (bud:Int)],.pointer (some ⟨bx,0,none⟩)] W λe w'=>∃lo ln lc,e=.returned (.tuple #[.slice lo ln lc,.int .i64 0])/\(∃l,Ans G w.heap.size w w' (.slice lo ln lc) l)/\Six w' b0 b1 bk (.slice so sn sc) blk fan bud):=λW g bx bm t hg hp hlow=>by
  refine(hq W g bx bm (hT0.trans t) hg hp hlow.1).mono ?_;rintro e w' ⟨lv,l,rfl,hA⟩;obtain⟨lo,ln,lc,rfl⟩:=hA.list.elim λ_ h=>h.1.slice;refine⟨lo,ln,lc,rfl,⟨l,hA.good,hA.list,(hT0.trans t).kept.trans (hA.kept.mono (k_ hT0.size hlow.2))⟩,⟨bD (hA.kept.2 70 (by decide) (by decide) _ _ _ (t.tu 70 _ _ _ hB0)),bD (hA.kept.2 51 (by decide) (by decide) _ _ _ (t.tu 51 _ _ _ hB1))⟩⟩
 have hl0:b0<W0.heap.size:=(agi.1 hB0).1;have hl1:b1<W0.heap.size:=(agi.1 hB1).1;have Ho:Hid (∀(W:World) (o:Obj),(W.alloc o).heap[W.heap.size]?=some o):=λW o=>heap_alloc_new W o;clear hB0 hB1 hT0 hq hlist hlen hnum hsn;go_enter func32,ntmps32;go_wp2;change Code.wp _ _ _ _ ((w.alloc (tabC bk (.slice so sn sc))).alloc (cfgC blk fan bud));rw[<-eW];simp only[<-e1];simp only[<-e0];clear eW e0 e1;obtain⟨⟨c0,c1,c2⟩,⟨c3,c4,c5⟩⟩:=HK.out W0 tr_
 go_region_held3 (λw'=>(w'.cell? ⟨b0,0,none⟩=some (.string nM)/\w'.cell? ⟨b0,1,none⟩=some (.slice (some ⟨bk,0,none⟩) 4 4)/\w'.cell? ⟨b0,2,none⟩=some (.slice so sn sc))/\(w'.cell? ⟨b1,0,none⟩=some (.int .i64 (blk:Int))/\w'.cell? ⟨b1,1,none⟩=some (.int .i64 (fan:Int))/\w'.cell? ⟨b1,2,none⟩=some (.int .i64 (bud:Int)))) (go_keep) (first|(go_at_call 39;first|(refine(HL.out W0 _ (tr_.drew.alloc _)).mono ?_;rintro e wL ⟨rfl,hU,hT⟩;have HUL:Hid (Touch [] W0 wL):=hU;have HGL:Hid (wL.heap[W0.heap.size]?=some (.cells #[.string nM,.slice (some ⟨bk,0,none⟩) 4 4,.slice so sn sc] 70 (0,0))):=hT.tu 70 _ _ _ (Ho.out W0.drew _);obtain⟨⟨p0,p1,p2⟩,⟨p3,p4,p5⟩⟩:=HK.out wL hU;have pl0:=lt_of_cell p0;have pl1:=lt_of_cell p3;clear hU hT)|(refine(HL.out W0 _ (tr_.drew)).mono ?_;rintro e wL ⟨rfl,hU,hT⟩;have HUL:Hid (Touch [] W0 wL):=hU;obtain⟨⟨p0,p1,p2⟩,⟨p3,p4,p5⟩⟩:=HK.out wL hU;have pl0:=lt_of_cell p0;have pl1:=lt_of_cell p3;clear hU hT))|(go_at_call 15;first|(refine(HN.out W0 _ (HUL.out.alloc _)).mono ?_;rintro e wN ⟨bx,bm,rfl,hlow,hp,hU,hT⟩;have HGN:Hid (wN.heap[wL.heap.size]?=some (.cells #[.string nM,.slice (some ⟨bk,0,none⟩) 4 4,.slice so sn sc] 70 (0,0))):=hT.tu 70 _ _ _ (Ho.out wL _);have HUN:Hid (Touch [] W0 wN):=hU;obtain⟨⟨q0,q1,q2⟩,⟨q3,q4,q5⟩⟩:=HK.out wN hU;have ql0:=lt_of_cell q0;have ql1:=lt_of_cell q3;have HPN:Hid (PD wN bx bm (newS 4096 ((1048576+8192*rows.length:Nat):Int)) []):=hp;have HLW:Hid (bm<=bx/\W0.heap.size<=bm):=hlow;clear hp hU hT hlow)|(refine(HN.out W0 _ HUL.out).mono ?_;rintro e wN ⟨bx,bm,rfl,hlow,hp,hU,hT⟩;have HGN:Hid (wN.heap[W0.heap.size]?=some (.cells #[.string nM,.slice (some ⟨bk,0,none⟩) 4 4,.slice so sn sc] 70 (0,0))):=hT.tu 70 _ _ _ HGL.out;have HUN:Hid (Touch [] W0 wN):=hU;obtain⟨⟨q0,q1,q2⟩,⟨q3,q4,q5⟩⟩:=HK.out wN hU;have ql0:=lt_of_cell q0;have ql1:=lt_of_cell q3;have HPN:Hid (PD wN bx bm (newS 4096 ((1048576+8192*rows.length:Nat):Int)) []):=hp;have HLW:Hid (bm<=bx/\W0.heap.size<=bm):=hlow;clear hp hU hT hlow)|(refine(HN.out W0 _ HUL.out).mono ?_;rintro e wN ⟨bx,bm,rfl,hlow,hp,hU,hT⟩;have HUN:Hid (Touch [] W0 wN):=hU;obtain⟨⟨q0,q1,q2⟩,⟨q3,q4,q5⟩⟩:=HK.out wN hU;have ql0:=lt_of_cell q0;have ql1:=lt_of_cell q3;have HPN:Hid (PD wN bx bm (newS 4096 ((1048576+8192*rows.length:Nat):Int)) []):=hp;have HLW:Hid (bm<=bx/\W0.heap.size<=bm):=hlow;clear hp hU hT hlow))|(go_at_call 18;first|(refine(HQ.out wN _ bx bm HUN.out HGN.out HPN.out HLW.out).mono ?_;rintro e wQ ⟨lo,ln,lc,rfl,hA,⟨⟨r0,r1,r2⟩,⟨r3,r4,r5⟩⟩⟩;have HANS:Hid (∃l,Ans G w.heap.size w wQ (.slice lo ln lc) l):=hA;clear hA;have rl0:=lt_of_cell r0;have rl1:=lt_of_cell r3)|(refine(HQ.out _ wN.heap.size bx bm (HUN.out.alloc _) (Ho.out wN _) (HPN.out.away (tr_.alloc _) (λ_ _ h=>i_ h)) HLW.out).mono ?_;rintro e wQ ⟨lo,ln,lc,rfl,hA,⟨⟨r0,r1,r2⟩,⟨r3,r4,r5⟩⟩⟩;have HANS:Hid (∃l,Ans G w.heap.size w wQ (.slice lo ln lc) l):=hA;clear hA;have rl0:=lt_of_cell r0;have rl1:=lt_of_cell r3)))
 all_goals
  obtain⟨l,hA⟩:=HANS.out;go_wp2
  go_ret2
  exact⟨_,l,rfl,hA⟩
theorem ask_any (w:World)(gp bk:Nat)(sv:Value)(kl kc2:Nat)(kvo:Option Addr)(blk fan bud:Nat)(raw:List Int)(ks:List K)(vs:List Value)(rows:List (List V))(h:AskIn w gp bk sv (.slice kvo kl kc2) blk fan bud raw ks vs rows) :
  Calls prog 32 #[.agg #[.string nM,.slice (some ⟨bk,0,none⟩) 4 4,sv],.slice (some ⟨gp,0,none⟩) 2 2,.agg #[.int .i64 (blk:Int),.int .i64 (fan:Int),.int .i64 (bud:Int)]] w λe w'=>∃lv out,e=.returned (.tuple #[lv,.int .i64 0])/\Aw w.heap.size w w' lv out ks rows:=by
 refine(ask_gen (λl=>∃out,out.Perm (rO rows)/\Srt ks out/\l=out.map Rec.row) w gp 2 bk sv blk fan bud vs rows h.list h.len h.num (λW g bx bm t hg hp hlow=>?_)).mono ?_
 ·refine(query_here (h.quiet t) hg hp hlow).mono ?_;rintro e w' ⟨lv,out,rfl,p1,p2,⟨vs',a,b,c⟩,hk⟩;exact⟨lv,_,rfl,⟨out,p1,p2,rfl⟩,⟨vs',a,by simpa using b,λi hi hj=>by have:=c i hi (by simpa using hj);simpa using this⟩,hk⟩
 ·rintro e w' ⟨lv,l,rfl,⟨out,p1,p2,rfl⟩,⟨vs',a,b,c⟩,hk⟩;exact⟨lv,out,rfl,p1,p2,⟨vs',a,by simpa using b,λi hi hj=>by have:=c i hi (by simpa using hj);simpa using this⟩,hk⟩
theorem out_at (h:out.Perm (rO rows))(i:Nat)(hi:i<out.length):∃k:Nat,∃hk:k<rows.length,out[i].no=(k:Int)/\out[i].row=rows[k]:=by
 have hm:out[i]∈rO rows:=h.mem_iff.1 (m_ hi);obtain⟨k,hk,e⟩:=A_ hm;have hk':k<rows.length:=by rw[rE]at hk;exact hk
 refine⟨k,hk',?_,?_⟩<;>rw[<-e]<;>simp[rO]
theorem out_len (h:out.Perm (rO rows)):out.length=rows.length:=by rw[h.length_eq,rE]
end Go.Proofs.YtjoinhljdbljaaaGreat
namespace Go.Proofs.YtjoinhljdbljaaaGreat
open Go.RowKit Go.Proofs.Tryz
theorem Ro.cells {w:World}{v:Value}{row:List V}(h:Ro w v row)(h1:1<=row.length):∃b off cap,v=.slice (some ⟨b,off,none⟩) row.length cap/\row.length<=cap/\cap<=maxLen/\∀j (hj:j<row.length),w.cell? ⟨b,off+j*3,none⟩=some (.int .i64 row[j].k)/\w.cell? ⟨b,off+j*3+1,none⟩=some (.int .i64 row[j].n)/\w.cell? ⟨b,off+j*3+1+1,none⟩=some (.string row[j].s):=by
 obtain⟨ao,cap,rfl,hc,hm,hx⟩:=h;obtain⟨b,off,cs,f,rfl,hb,hx⟩:=hx (by simpa using h1);rw[u_]at *;refine⟨b,off,cap,rfl,hc,hm,λj hj=>?_⟩;obtain⟨x0,x1,x2⟩:=hx j (by simpa using hj);simp only[ax_,V.t]at x0 x1 x2;simp only[World.cell?,hb];exact⟨x0,x1,x2⟩
theorem saf (w:World)(ga oa ca gb ob cb:Nat)(ra rb:Value)(row:List V)(ha:w.cell? ⟨ga,oa,none⟩=some ra)(hb:w.cell? ⟨gb,ob,none⟩=some rb)(hra:Ro w ra row)(hrb:Ro w rb row)(h1:1<=row.length)(h2:row.length<=1000) :
  Calls prog 35 #[.slice (some ⟨ga,oa,none⟩) 1 ca,.slice (some ⟨gb,ob,none⟩) 1 cb] w λe w'=>e=.returned (.bool true)/\Touch [] w w':=by
 obtain⟨ba,fa,ka,rfl,a1,a2,hA⟩:=hra.cells h1;obtain⟨bb,fb,kb,rfl,b1,b2,hB⟩:=hrb.cells h1;have HA:Hid (∀W,Touch [] w W->W.cell? ⟨ga,oa,none⟩=some (.slice (some ⟨ba,fa,none⟩) row.length ka)/\W.cell? ⟨gb,ob,none⟩=some (.slice (some ⟨bb,fb,none⟩) row.length kb)):=λW t=>⟨cO ha t,cO hb t⟩;have HX:Hid (∀W j (hj:j<row.length),Touch [] w W->(W.cell? ⟨ba,fa+j*3,none⟩=some (.int .i64 row[j].k)/\W.cell? ⟨ba,fa+j*3+1,none⟩=some (.int .i64 row[j].n)/\W.cell? ⟨ba,fa+j*3+1+1,none⟩=some (.string row[j].s))/\(W.cell? ⟨bb,fb+j*3,none⟩=some (.int .i64 row[j].k)/\W.cell? ⟨bb,fb+j*3+1,none⟩=some (.int .i64 row[j].n)/\W.cell? ⟨bb,fb+j*3+1+1,none⟩=some (.string row[j].s))):=λW j hj t=>by
  obtain⟨x0,x1,x2⟩:=hA j hj;obtain⟨y0,y1,y2⟩:=hB j hj;exact⟨⟨cO x0 t,cO x1 t,cO x2 t⟩,⟨cO y0 t,cO y1 t,cO y2 t⟩⟩
 clear ha hb hra hrb hA hB;go_enter func35,ntmps35;go_wp2
 go_loopw [5] (λi wr=>(i=.int .i64 0\/i=.int .i64 1)/\Touch [] w wr) (λi _=>1-(intOf i).toNat)
 case atStart=>exact⟨.inl rfl,tr_⟩
 case round=>
  obtain⟨hi,hT⟩:=hrel;have HT:Hid (Touch [] w wr):=hT;clear hT;rcases hi with rfl|rfl
  ·obtain⟨c0,c1⟩:=HA.out wr HT.out;go_wp2
   go_big_quiet (fail)
   go_wp2;clear c0 c1
   go_loopw [6] (λi wr=>∃k:Nat,k<=row.length/\i=.int .i64 (k:Int)/\Touch [] w wr) (λi _=>row.length-(intOf i).toNat)
   case atStart=>exact⟨0,by omega,rfl,by repeat (first|exact HT.out|refine Touch.drewN ?_ _|refine Touch.drew ?_)⟩
   case round=>
    obtain⟨k,hk,rfl,hT2⟩:=hrel;have HT2:Hid (Touch [] w wr):=hT2;clear hT2;obtain⟨c0,c1⟩:=HA.out wr HT2.out;by_cases hlt:k<row.length
    ·obtain⟨⟨x0,x1,x2⟩,⟨y0,y1,y2⟩⟩:=HX.out wr k hlt HT2.out;generalize row[k]=r at *;go_wp2
     go_big_quiet (fail)
     go_wp2
     go_roundw
     case rel=>exact⟨k+1,by omega,by go_num,by repeat (first|exact HT2.out|refine Touch.drewN ?_ _|refine Touch.drew ?_)⟩
     case measure=>simp[intOf];omega
    ·go_wp2
     go_roundw
     case rel=>exact⟨.inr (by go_num),HT2.out⟩
     case measure=>simp[intOf]
  ·go_wp2;go_ret;exact⟨rfl,HT.out⟩
end Go.Proofs.YtjoinhljdbljaaaGreat
