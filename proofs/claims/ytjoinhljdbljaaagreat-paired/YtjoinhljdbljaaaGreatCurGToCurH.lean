/- A merge as it lies in memory, and what follows. -/
import Derived.Test.YtjoinhljdbljaaaGreatSrtIToCurF
set_option linter.unusedSectionVars false
namespace Go.Proofs.YtjoinhljdbljaaaGreat
open Go.RowKit
variable [Inhabited Ground]
variable {F:List Nat} {L L' T:List CU} {R pre:List RI} {all l left out:List Rec} {bf blk bm bx cap cols g lo ph pm ps q r:Nat} {hv v:Value} {ks:List K} {u:CU} {w w' w2:World} {y:Rec}
theorem heap_cur (h:He (lC ks) L):He (ltCur ks) (L.map CU.cur):=He.map CU.cur h
structure Cj (w:World)(ks:List K)(R:List RI)(L:List CU):Prop where
 rds:∀u∈L,Rj w u.rd u.run.r u.run.cs u.rest
 mem:∀u∈L,u.run∈R
 part:∀u∈L,∃done,u.run.recs=done++u.first::u.rest
 able:∀x∈R,∀y∈x.recs,AB ks y.row
 ptrs:(L.map CU.ptr).Nodup
 reads:(L.map CU.rd).Nodup
theorem Rj.keepTag {cs:List (List Rec)}(h:Rj w q r cs left)(k:KT 241 w w'):Rj w' q r cs left:=by
 obtain⟨a,b,h1,h2⟩:=h;exact⟨a,b,k _ _ _ h1,h2⟩
theorem Cj.keep (h:Cj w ks R L)(k:KT 241 w w'):Cj w' ks R L:={ h with rds:=λu hu=>(h.rds u hu).keepTag k }
theorem Cj.perm (h:Cj w ks R L)(p:L'.Perm L):Cj w ks R L':=
 ⟨λu hu=>h.rds u (p.mem_iff.1 hu),λu hu=>h.mem u (p.mem_iff.1 hu),λu hu=>h.part u (p.mem_iff.1 hu),h.able,(p.map CU.ptr).nodup_iff.2 h.ptrs,(p.map CU.rd).nodup_iff.2 h.reads⟩
theorem Cj.tail (h:Cj w ks R (u::L)):Cj w ks R L:=by
 have h1:=h.ptrs;have h2:=h.reads;simp only[List.map_cons,R_]at h1 h2;exact⟨λx hx=>h.rds x (by simp[hx]),λx hx=>h.mem x (by simp[hx]),λx hx=>h.part x (by simp[hx]),h.able,h1.2,h2.2⟩
def KE (ps:Nat)(w w':World):Prop:=∀(cs:Array Value) (f:Nat×Nat),w.heap[ps]?=some (.cells cs 260 f)->∃cs',w'.heap[ps]?=some (.cells cs' 260 f)/\cs'[2]?=cs[2]?
theorem KT.key (h:KT 260 w w')(ps:Nat):KE ps w w':=λcs _ e=>⟨cs,h _ _ _ e,rfl⟩
theorem KE.of {s s':SC}(h:Sr w ps s)(h':Sr w' ps s')(e:s'.kv=s.kv):KE ps w w':=λcs f hc=>by
 unfold Sr at h h';rw[h]at hc;simp only[j_,Obj.cells.injEq]at hc;obtain⟨rfl,_,rfl⟩:=hc;exact⟨_,h',by simp[SC.cells,e]⟩
theorem CCtx.key (h:CCtx w bf ps ks)(h1:KT 264 w w')(h2:KE ps w w')(h3:KT 73 w w'):CCtx w' bf ps ks:=by
 obtain⟨cs,f,vk,a,b,c⟩:=h.keys;obtain⟨cs',a',b'⟩:=h2 cs f a;exact⟨h1 _ _ _ h.f,cs',f,vk,a',b'.trans b,Sl3.keep c h3⟩
theorem CW.keep (h:CW w v L)(k:KT 305 w w'):CW w' v L:=by
 obtain⟨h1,h2⟩:=h;refine⟨h1,?_⟩;rcases h2 with h2|⟨g,cap,cur,e,hb,hh,rest⟩
 ·exact .inl h2
 ·exact .inr ⟨g,cap,cur,e,hb,k _ _ _ hh,rest⟩
structure MG (w:World)(lo pm ph:Nat)(hv:Value)(bf ps:Nat)(ks:List K)(R:List RI)(L:List CU):Prop where
 box:w.heap[pm]?=some (.cells #[.pointer (some ⟨ph,0,none⟩)] 310 (0,0))
 heap:CS w ph hv bf ps ks L
 cad:Cj w ks R L
 newH:lo<=ph
 newV:∀k,hv.ownBlock=some k->lo<=k
 newC:∀u∈L,lo<=u.ptr/\lo<=u.rd
structure MgKeep (ps:Nat)(w w':World):Prop where
 k310:KT 310 w w'
 k331:KT 331 w w'
 k305:KT 305 w w'
 k307:KT 307 w w'
 k241:KT 241 w w'
 k264:KT 264 w w'
 k73:KT 73 w w'
 k85:KT 85 w w'
 key:KE ps w w'
theorem MG.keep {w w':World}{lo pm ph:Nat}{hv:Value}{bf ps:Nat}{ks:List K}{R:List RI}{L:List CU}(h:MG w lo pm ph hv bf ps ks R L)(k:MgKeep ps w w'):MG w' lo pm ph hv bf ps ks R L:=
 ⟨k.k310 _ _ _ h.box,⟨k.k331 _ _ _ h.heap.head,h.heap.items.keep k.k305,h.heap.ctx.key k.k264 k.key k.k73,λx hx=>(h.heap.rows x hx).keep k.k307 k.k85,h.heap.ok⟩,h.cad.keep k.k241,h.newH,h.newV,h.newC⟩
theorem Touch.mgKeep (t:Touch [] w w')(ps:Nat):MgKeep ps w w':=⟨t.tu _,t.tu _,t.tu _,t.tu _,t.tu _,t.tu _,t.tu _,t.tu _,(t.tu _).key ps⟩
theorem MG.quiet (h:MG w lo pm ph hv bf ps ks R L)(t:Touch [] w w'):MG w' lo pm ph hv bf ps ks R L:=h.keep (t.mgKeep ps)
def MT (w:World)(bx lo:Nat)(F:List Nat):Prop:=∀k∈F,∃cs t f,w.heap[k]?=some (.cells cs t f)/\t∈[117,307,331,305,241]/\(k=bx\/lo<=k)
theorem MT.nT (h:MT w bx lo F){t:TypeId}(ht:t∉[117,307,331,305,241]):NT t w F:=λk hk cs f e=>by
 obtain⟨cs',t',f',h1,h2,_⟩:=h k hk;rw[h1]at e;simp only[j_,Obj.cells.injEq]at e;obtain⟨_,rfl,_⟩:=e;exact ht h2
theorem RS.turned {d:DS}{M:List PF}{o:Option RI}(h:RS w bx bm blk cols d M pre o)(hP:PD w' bx bm d M)(t:Touch F w w')(n1:NT 223 w F)(n2:NT 5 w F):RS w' bx bm blk cols d M pre o:=
 { h with
  pd:=hP
  done:=λx hx=>(h.done x hx).quiet t.u (λe=>by
   obtain⟨n,v,hc⟩:=h.cell (x:=x) (by simp[hx]);exact n1.not_mem hc e)
  opn:=λx hx=>(h.opn x hx).quiet t (λe=>by
   obtain⟨n,v,hc⟩:=h.cell (x:=x) (by simp[hx]);exact n1.not_mem hc e) n2 }
def CU.on (u:CU)(g cols:Nat)(y:Rec)(l:List Rec):CU:=⟨u.ptr,u.rd,.slice (some ⟨g,0,none⟩) cols cols,u.run,y,l⟩
theorem MG.others (h:MG w lo pm ph hv bf ps ks R (u::T))(t:Touch F w w2)(hp:∀k∈F,k=u.ptr\/k=u.rd\/NT 307 w [k]/\NT 241 w [k])(h85:NT 85 w F) :
  (∀x∈T,CBox w2 ks x)/\(∀x∈T,Rj w2 x.rd x.run.r x.run.cs x.rest):=by
 have h1:=h.cad.ptrs;have h2:=h.cad.reads;simp only[List.map_cons,R_]at h1 h2;refine⟨λx hx=>?_,λx hx=>?_⟩
 ·have hb:=h.heap.rows x (by simp[hx]);refine⟨t.u.keep hb.box (by decide) (λe=>?_),Sl3.keep hb.row (t.tag h85),hb.able⟩;rcases hp _ e with e|e|e
  ·exact h1.1 (z_.2 ⟨x,hx,e⟩)
  ·obtain⟨c,hc⟩:=(h.cad.rds u (by simp)).cell;rw[<-e,hb.box]at hc;simp at hc
  ·exact e.1 _ (by simp) _ _ hb.box
 ·have hr:=h.cad.rds x (by simp[hx]);obtain⟨c,hc⟩:=hr.cell;refine hr.touch t.u (λe=>?_);rcases hp _ e with e|e|e
  ·have hb:=h.heap.rows u (by simp);rw[e,hb.box]at hc;simp at hc
  ·exact h2.1 (z_.2 ⟨x,hx,e⟩)
  ·exact e.2 _ (by simp) _ _ hc
theorem Cm.vals (h:Cm w g cap L)(e:L'.map CU.val=L.map CU.val):Cm w g cap L':=by
 obtain⟨cur,hb,h1,h2,h3,h4⟩:=h;have hl:L'.length=L.length:=by simpa using congrArg List.length e
 refine⟨cur,hb,h1,by omega,h3,λi hi=>?_⟩;rw[h4 i (by omega)];have:(L'.map CU.val)[i]?=(L.map CU.val)[i]?:=by rw[e]
 simp only[M_,p_ hi,p_ (show i<L.length by omega),Option.map_some,j_]at this;rw[this]
section
variable {w w2:World} {lo pm ph g cap:Nat} {hv:Value} {bf ps bx:Nat} {ks:List K} {R:List RI} {u:CU} {T:List CU}
theorem MG.notags (h:MG w lo pm ph hv bf ps ks R (u::T))(hbx:∃cs f,w.heap[bx]?=some (.cells cs 117 f)):∀t:TypeId,(117:TypeId)≠t->(307:TypeId)≠t->(241:TypeId)≠t->NT t w [u.ptr,u.rd,bx]:=λt h1 h2 h3=>by
 obtain⟨c,hc⟩:=(h.cad.rds u (by simp)).cell;obtain⟨cs,f,hb⟩:=hbx;exact((nO hb h1).cons hc h3).cons (h.heap.rows u (by simp)).box h2
theorem MG.stepped (h:MG w lo pm ph (.slice (some ⟨g,0,none⟩) (T.length+1) cap) bf ps ks R (u::T))(hA:Ce w ph g cap bf ps ks (u::T))(hbx:∃cs f,w.heap[bx]?=some (.cells cs 117 f))(t:Touch [u.ptr,u.rd,bx] w w2)
  (hr:u.rest=y::l) (hB:w2.heap[u.ptr]?=some (.cells #[.pointer (some ⟨u.rd,0,none⟩),.int .i64 y.no,.slice (some ⟨r,0,none⟩) cols cols] 307 (0,0))) (hrow:Ro w2 (.slice (some ⟨r,0,none⟩) cols cols) y.row) (hrd:Rj w2 u.rd u.run.r u.run.cs l) :
  Ce w2 ph g cap bf ps ks (u.on r cols y l::T)/\Cj w2 ks R (u.on r cols y l::T)/\w2.heap[pm]?=some (.cells #[.pointer (some ⟨ph,0,none⟩)] 310 (0,0)):=by
 have hn:=h.notags hbx;have ho:=h.others t (λk hk=>by
  simp only[a_,i_,or_false]at hk;rcases hk with rfl|rfl|rfl
  ·exact .inl rfl
  ·exact .inr (.inl rfl)
  ·obtain⟨cs,f,hb⟩:=hbx;exact .inr (.inr ⟨nO hb (by decide),nO hb (by decide)⟩)) (hn 85 (by decide) (by decide) (by decide))
 have hk:∀t':TypeId,(117:TypeId)≠t'->(307:TypeId)≠t'->(241:TypeId)≠t'->KT t' w w2:=λt' h1 h2 h3=>t.tag (hn t' h1 h2 h3);obtain⟨done,hd⟩:=h.cad.part u (by simp);have hay:AB ks y.row:=h.cad.able u.run (h.cad.mem u (by simp)) y (by rw[hd,hr];simp);obtain⟨cur,hcur,_⟩:=hA.items;refine⟨⟨?_,(hA.items.touch t.u ((hn 305 (by decide) (by decide) (by decide)).not_mem hcur)).vals (by simp[CU.val,CU.on]),hA.ctx.keep (hk _ (by decide) (by decide) (by decide)) (hk _ (by decide) (by decide) (by decide)) (hk _ (by decide) (by decide) (by decide)),λx hx=>?_⟩,⟨λx hx=>?_,λx hx=>?_,λx hx=>?_,h.cad.able,?_,?_⟩,hk 310 (by decide) (by decide) (by decide) _ _ _ h.box⟩
 ·exact hk 331 (by decide) (by decide) (by decide) _ _ _ hA.head
 ·rcases a_.1 hx with rfl|hx
  ·exact⟨hB,hrow,hay⟩
  ·exact ho.1 x hx
 ·rcases a_.1 hx with rfl|hx
  ·exact hrd
  ·exact ho.2 x hx
 ·rcases a_.1 hx with rfl|hx
  ·exact h.cad.mem u (by simp)
  ·exact h.cad.mem x (by simp[hx])
 ·rcases a_.1 hx with rfl|hx
  ·exact⟨done++[u.first],by rw[show(u.on r cols y l).run=u.run from rfl,hd,hr];simp[CU.on]⟩
  ·exact h.cad.part x (by simp[hx])
 ·simpa[CU.on]using h.cad.ptrs
 ·simpa[CU.on]using h.cad.reads
theorem MG.ended (h:MG w lo pm ph (.slice (some ⟨g,0,none⟩) (T.length+1) cap) bf ps ks R (u::T))(hA:Ce w ph g cap bf ps ks (u::T))(t:Touch [u.ptr] w w2) :
  CStale w2 ph g cap bf ps ks (u::T)/\Cj w2 ks R T/\w2.heap[pm]?=some (.cells #[.pointer (some ⟨ph,0,none⟩)] 310 (0,0)):=by
 have hn:∀t':TypeId,(307:TypeId)≠t'->NT t' w [u.ptr]:=λt' h1=>nO (h.heap.rows u (by simp)).box h1;have ho:=h.others t (λk hk=>.inl (by simpa using hk)) (hn 85 (by decide));have hk:∀t':TypeId,(307:TypeId)≠t'->KT t' w w2:=λt' h1=>t.tag (hn t' h1);obtain⟨cur,hcur,_⟩:=hA.items;refine⟨⟨hk 331 (by decide) _ _ _ hA.head,hA.items.touch t.u ((hn 305 (by decide)).not_mem hcur),hA.ctx.keep (hk _ (by decide)) (hk _ (by decide)) (hk _ (by decide)),λi hi h0=>?_⟩,h.cad.tail.keep (hk _ (by decide)),hk 310 (by decide) _ _ _ h.box⟩;cases i with
 | zero=>omega
 | succ i=>exact ho.1 _ (by simp)
end
theorem cur_drop (h:Me ks all ((u::T).map CU.cur) out)(hr:u.rest=[])(hp:(u::L').Perm (u::T))(hh:He (lC ks) L'):Me ks all (L'.map CU.cur) (out++[u.first]):=
 h.drop (c:=u.cur) (by simp) hr (by simpa using hp.map CU.cur) (heap_cur hh)
theorem cur_next (h:Me ks all ((u::T).map CU.cur) out)(hr:u.rest=y::l)(hp:L'.Perm (u.on r cols y l::T))(hh:He (lC ks) L'):Me ks all (L'.map CU.cur) (out++[u.first]):=
 h.next (c:=u.cur) (c':=(u.on r cols y l).cur) (by simp) hr (by simpa using hp.map CU.cur) (heap_cur hh)
end Go.Proofs.YtjoinhljdbljaaaGreat
