/- Rows that are looked at: the walk of what q.checked hands back, over a table's rows. -/
import Derived.Test.YtjoinhljdbljaaaGreatQryBToQryG
import Derived.Sort.CutIn
set_option maxHeartbeats 4000000
set_option maxRecDepth 20000
set_option linter.unusedSectionVars false
namespace Go.Proofs.YtjoinhljdbljaaaGreat
open Go.RowKit Go.Proofs.Tryz
variable [Inhabited Ground]
attribute [local go_sem] Oper.semAt_some
variable {B i k l:Nat} {W W':World}
structure ChkCtx (W:World)(bq bl b q:Nat)(tv wv sv:Value)(bx blk:Nat)(fan bud:Int)(vs:List Value)(rows:List (List V)):Prop where
 hq:W.heap[bq]?=some (.cells #[.pointer (some ⟨q,0,none⟩)] 159 (0,0))
 hQ:W.heap[q]?=some (.cells #[tv,.int .i64 (blk:Int),.int .i64 fan,.int .i64 bud,.pointer (some ⟨bx,0,none⟩),wv] 162 (0,0))
 hl:W.heap[bl]?=some (.cells #[.func (.func 162) #[] #[.pointer (some ⟨b,0,none⟩)]] 165 (0,0))
 hb:W.heap[b]?=some (.cells #[sv] 36 (0,0))
 list:LAt W sv vs
 len:vs.length=rows.length
 rW:∀i (_:i<vs.length) (_:i<rows.length),Ro W vs[i] rows[i]
 fair:∀r∈rows,∀v∈r,Fair v
 size:∀r∈rows,16+sZ r<=blk/\r.length<=1000
 b2:blk<=4096
 few:rows.length<=20000
def ChkT:List TypeId:=[206,3,4,165,159,162,83,85,36]
theorem ChkCtx.keep {W W':World}{bq bl b q:Nat}{tv wv sv:Value}{bx blk:Nat}{fan bud:Int}{vs:List Value}{rows:List (List V)}(h:ChkCtx W bq bl b q tv wv sv bx blk fan bud vs rows)(k:∀t,t∈[165,159,162,83,85,36]->KT t W W'):ChkCtx W' bq bl b q tv wv sv bx blk fan bud vs rows:=
 { h with hq:=k 159 (by decide) _ _ _ h.hq,hQ:=k 162 (by decide) _ _ _ h.hQ,hl:=k 165 (by decide) _ _ _ h.hl,hb:=k 36 (by decide) _ _ _ h.hb,list:=h.list.keep (k 83 (by decide)),rW:=λi a b=>Sl3.keep (h.rW i a b) (k 85 (by decide)) }
def OwnN (B:Nat)(W W':World):Prop:=∃F,Touch F W W'/\∀k∈F,B<=k
theorem Touch.n (h:Touch [] W W')(B:Nat):OwnN B W W':=⟨[],h,by simp⟩
theorem OwnN.low (h:OwnN B W W'){ob:Obj}(e:W.heap[k]?=some ob)(hk:k<B):W'.heap[k]?=some ob:=by
 obtain⟨F,h1,h2⟩:=h;rw[h1.block k (agi.1 e).1 (λhF=>by have:=h2 k hF;omega)];exact e
theorem values_rows (W0:World)(b:Nat)(sv:Value)(vs:List Value)(rows:List (List V))(hb:W0.heap[b]?=some (.cells #[sv] 36 (0,0)))(hL:LAt W0 sv vs)(hsm:vs.length<=1000000000)(hlen:vs.length=rows.length)(hr:∀i (_:i<vs.length) (_:i<rows.length),Ro W0 vs[i] rows[i]) :
  SQ 162 #[.pointer (some ⟨b,0,none⟩)] (0:Nat) (λs _=>s=vs.length) (λi v W i'=>(vs[i]?=some v/\i'=i+1)/\∃h:i<rows.length,Ro W v rows[i]) (λ_ _=>False) (λ_ A B=>A=B) (λ_ W W'=>KT 83 W W'/\KT 85 W W') W0:=by
 intro l J hJ hM hY h0;refine(vS W0 b sv vs hb hL hsm l (λi W=>J i W/\∀i (_:i<vs.length) (_:i<rows.length),Ro W vs[i] rows[i]) (λs A B a b=>by subst b;exact a) (λ_ _ _ _ h=>h.elim) ?_ ⟨h0,hr⟩).mono ?_
 ·rintro i v i' W ⟨h1,h2⟩ ⟨hv,rfl⟩;obtain⟨hi,rfl⟩:=l_.1 hv;refine(hY i _ (i+1) W h1 ⟨⟨hv,rfl⟩,by omega,h2 i hi (by omega)⟩).mono ?_;rintro e W' ⟨rfl,h3,h4⟩;exact⟨rfl,⟨h3,λi a b=>Sl3.keep (h2 i a b) h4.2⟩,h4.1⟩
 ·rintro e W ⟨h1,s,h2,h3⟩;exact⟨h1,s,h2,h3.1⟩
structure ChkBox (W:World)(B l:Nat)(i:Nat):Prop where
 y:W.heap[B]?=some (.cells #[.func (.yield l) #[] #[]] 206 (0,0))
 c:W.heap[B+1]?=some (.cells #[.int .i64 (i:Int)] 3 (0,0))
 g:W.heap[B+2]?=some (.cells #[.bool false] 4 (0,0))
theorem ChkBox.keep (h:ChkBox W B l i)(k:∀t,t∈[206,3,4]->KT t W W'):ChkBox W' B l i:=⟨k 206 (by decide) _ _ _ h.y,k 3 (by decide) _ _ _ h.c,k 4 (by decide) _ _ _ h.g⟩
structure ChkSrc {σ:Type}(W0:World)(bq bl q:Nat)(tv wv:Value)(bx blk:Nat)(fan bud:Int)(gf:Nat)(lb:Array Value)(s0:σ)(fin:σ->World->Prop)(step:σ->Value->World->σ->Prop)(movI mov:σ->σ->Prop)(OI Own Ko Keep:σ->World->World->Prop)(cnt:σ->Nat):Prop where
 hq:W0.heap[bq]?=some (.cells #[.pointer (some ⟨q,0,none⟩)] 159 (0,0))
 hQ:W0.heap[q]?=some (.cells #[tv,.int .i64 (blk:Int),.int .i64 fan,.int .i64 bud,.pointer (some ⟨bx,0,none⟩),wv] 162 (0,0))
 hl:W0.heap[bl]?=some (.cells #[.func (.func gf) #[] lb] 165 (0,0))
 b2:blk<=4096
 eg:∀args w,(callFunc gf args).run prog w=.ok (.enter gf args) w
 seq:∀W,Touch [] W0 W->W.heap.size=W0.heap.size+5->SQ gf lb s0 fin step movI OI Ko W
 own:∀s A B,OI s A B->Own s A B
 ownT:∀s A B F,Touch F A B->(∀k∈F,W0.heap.size<=k/\∃ob:Obj,A.heap[k]?=some ob/\(Odd ob\/∃cs t f,ob=.cells cs t f/\(t=3\/t=4)))->Own s A B
 ownK:∀s A B,OI s A B->∀t∈[206,3,4,159,162],KT t A B
 ownO:∀s A B (k:Nat) (ob:Obj),OI s A B->A.heap[k]?=some ob->Odd ob->k<W0.heap.size+5->B.heap[k]?=some ob
 keep:∀s A B,Keep s A B->(∀t∈[206,3,4,159,162],KT t A B)/\(∀(k:Nat) (ob:Obj),W0.heap.size<=k->A.heap[k]?=some ob->Odd ob->B.heap[k]?=some ob)/\Ko s A B
 keepTr:∀s A B C,Ko s A B->Ko s B C->Ko s A C
 keepT:∀s A B F,Touch F A B->(∀k∈F,W0.heap.size<=k/\∃cs t f,A.heap[k]?=some (.cells cs t f)/\(t=3\/t=4))->Ko s A B
 keepL:∀s (W:World) r r',W.heap[W0.heap.size+3+1]?=some (.loop r)->Ko s W (W.putObj (W0.heap.size+3+1) (.loop r'))
 movs:∀s s',movI s s'->mov s s'/\cnt s'=cnt s
 cnt0:cnt s0=0
 rows:∀s v W s',step s v W s'->cnt s'=cnt s+1/\cnt s'<=20000/\∃r,Ro W v r/\(∀v∈r,Fair v)/\16+sZ r<=blk/\r.length<=1000
 stay:∀s v (W W':World) s',step s v W s'->KT 85 W W'->W.heap.size<=W'.heap.size->step s v W' s'
 finL:∀s (W:World) l ob ob',fin s W->W.heap[l]?=some ob->Odd ob->fin s (W.putObj l ob')
theorem checked_gen {σ:Type}(W0:World)(bq bl q:Nat)(tv wv:Value)(bx blk:Nat)(fan bud:Int)(gf:Nat)(lb:Array Value)(s0:σ)(fin:σ->World->Prop)(step:σ->Value->World->σ->Prop)(movI mov:σ->σ->Prop)(OI Own Ko Keep:σ->World->World->Prop)(cnt:σ->Nat)(h:ChkSrc W0 bq bl q tv wv bx blk fan bud gf lb s0 fin step movI mov OI Own Ko Keep cnt) :
  SQ 140 #[.pointer (some ⟨bl,0,none⟩),.pointer (some ⟨bq,0,none⟩)] s0 fin step mov Own Keep W0:=by
 intro l J hJ hM hY h0;have c3:=bg h.hl;have n3:=(agi.1 h.hl).1;have tA:Touch [] W0 (((W0.alloc (.cells #[.func (.yield l) #[] #[]] 206)).alloc (.cells #[.int .i64 0] 3)).alloc (.cells #[.bool false] 4)):=((tr_.alloc _).alloc _).alloc _;have c3':=cO c3 tA;refine callsIn_wide.1 (callsIn_of_wp_marks (n:=0) func140 rfl trivial (wpIn_wide.2 ?_));simp only[ntmps140,List.size_toArray,List.length_cons,List.length_nil,Nat.reduceAdd,Nat.reduceSub,P_,Array.replicate_zero,List.push_toArray,List.append_toArray,List.nil_append,List.cons_append];go_wp2;have x0:(((W0.alloc (.cells #[.func (.yield l) #[] #[]] 206)).alloc (.cells #[.int .i64 0] 3)).alloc (.cells #[.bool false] 4)).heap[W0.heap.size]?=some (.cells #[.func (.yield l) #[] #[]] 206 (0,0)):=(Below.heap_alloc _ _ _ (by simp;omega)).trans ((Below.heap_alloc _ _ _ (by simp)).trans (heap_alloc_new W0 _));have x1:(((W0.alloc (.cells #[.func (.yield l) #[] #[]] 206)).alloc (.cells #[.int .i64 0] 3)).alloc (.cells #[.bool false] 4)).heap[W0.heap.size+1]?=some (.cells #[.int .i64 0] 3 (0,0)):=(Below.heap_alloc _ _ _ (by simp)).trans (by have:=heap_alloc_new (W0.alloc (.cells #[.func (.yield l) #[] #[]] 206)) (.cells #[.int .i64 0] 3);rw[World.size_alloc]at this;exact this);have x2:(((W0.alloc (.cells #[.func (.yield l) #[] #[]] 206)).alloc (.cells #[.int .i64 0] 3)).alloc (.cells #[.bool false] 4)).heap[W0.heap.size+2]?=some (.cells #[.bool false] 4 (0,0)):=by
  have:=heap_alloc_new ((W0.alloc (.cells #[.func (.yield l) #[] #[]] 206)).alloc (.cells #[.int .i64 0] 3)) (.cells #[.bool false] 4);rw[World.size_alloc,World.size_alloc]at this;exact this
 have hsz:(((W0.alloc (.cells #[.func (.yield l) #[] #[]] 206)).alloc (.cells #[.int .i64 0] 3)).alloc (.cells #[.bool false] 4)).heap.size=W0.heap.size+3:=by simp
 clear c3 c3';generalize ((W0.alloc (.cells #[.func (.yield l) #[] #[]] 206)).alloc (.cells #[.int .i64 0] 3)).alloc (.cells #[.bool false] 4)=wa at *;have tW:∀rec:Loop,Touch [] W0 ((wa.alloc (.deferred (some []))).alloc (.loop rec)):=λrec=>(tA.alloc _).alloc _;have tV:∀rec:Loop,Touch [] wa ((wa.alloc (.deferred (some []))).alloc (.loop rec)):=λrec=>(tr_.alloc _).alloc _;have hws:wa.heap.size=W0.heap.size+3:=hsz;refine rG (w:=wa) (gf:=gf) (lb:=lb) rfl h.eg rfl
  (λrec=>h.seq _ (tW rec) (by simp[hws]))
  (λs A B k ob ho e hk hle=>h.ownO s A B k ob ho e (by rcases hk with⟨r,rfl⟩|⟨ds,rfl⟩;exact oL r;exact oD ds) (by omega)) h.keepTr (λs W r r' e=>by rw[hws]at e ⊢;exact h.keepL s W r r' e)
  (λs W=>J s W/\ChkBox W W0.heap.size l (cnt s)/\(∀t∈[159,162],KT t W0 W))
  (λs A B hi ho=>⟨hJ _ _ _ hi.1 (h.own _ _ _ ho),hi.2.1.keep (λt ht=>h.ownK _ _ _ ho t (by simp only[a_,i_,or_false]at ht ⊢;rcases ht with rfl|rfl|rfl<;>simp)),λt ht=>(hi.2.2 t ht).trans (h.ownK _ _ _ ho t (by simp only[a_,i_,or_false]at ht ⊢;rcases ht with rfl|rfl<;>simp))⟩)
  (λs s' A hi hm=>⟨hM _ _ _ hi.1 (h.movs _ _ hm).1,by rw[(h.movs _ _ hm).2];exact hi.2.1,hi.2.2⟩)
  ?hIp (λs v s' W r r' hs e=>h.stay _ _ _ _ _ hs (OwnS.putObj (T:=[]) (lo:=0) (B:=0) (ob':=.loop r') e (oL r) (x_ _) (x_ _) |>.cells 85 (by simp) (by decide)) (by simp)) ?h0
  (λv=>{ tmps:=#[.func (.yield l) #[] #[],.pointer (some ⟨bl,0,none⟩),.pointer (some ⟨bq,0,none⟩),.pointer (some ⟨W0.heap.size,0,none⟩),.pointer (some ⟨W0.heap.size+1,0,none⟩),.pointer (some ⟨W0.heap.size+1+1,0,none⟩),v,.func (.func gf) #[] lb,v,undef,undef,undef,undef,undef,undef,undef,undef,undef,undef,undef,undef,undef,undef,undef,undef,undef,undef,undef,undef,undef,undef,undef,undef,undef,undef,undef],defers:=[] }) ?assign ?body ?done
 case hIp=>
  rintro s W r r' ⟨h1,h2,h3⟩ hl;have hg:=OwnS.putObj (T:=[]) (lo:=0) (B:=W0.heap.size) (ob':=.loop r') hl (oL r) (by omega) (x_ _);have k:∀t,t≠5->KT t W (W.putObj (wa.heap.size+1) (.loop r')):=λt ht=>hg.cells t (by simp) ht;exact⟨hJ _ _ _ h1 (h.ownT _ _ _ _ (Touch.putObj _ _) (by simp only[aj_,forall_eq];exact⟨by omega,_,hl,.inl (oL r)⟩)),h2.keep (λt ht=>k t (λe=>by subst e;simp at ht)),λt ht=>(h3 t ht).trans (k t (λe=>by subst e;simp at ht))⟩
 case h0=>
  intro rec;exact⟨hJ _ _ _ h0 (h.ownT _ _ _ _ (tW rec) (by simp)),by rw[h.cnt0];exact ChkBox.keep ⟨x0,x1,x2⟩ (λt _=>(tV rec).tu t),λt _=>(tW rec).tu t⟩
 case assign=>
  intro v W K hK
  gi_wp2
  exact hK
 case body=>
  rintro st v st' W ⟨h1,h2,h3⟩ hst;obtain⟨hc1,hc2,row,hrow,hfair,hsz1,hrl⟩:=h.rows _ _ _ _ hst;have hb2:=h.b2;have HSZ:Hid (∀W',Ro W' v row->Calls prog 141 #[v] W' λe w'=>e=.returned (.int .i64 (sZ row:Int))/\Touch [] W' w'):=λW' hr=>size_any W' v row hr hfair (by omega);generalize hci:cnt st=i at *;obtain⟨vo,vC,rfl⟩:=hrow.shape;have b0:=bg h2.y;have b1:=bg h2.c;have b2:W.cell? ⟨W0.heap.size+1+1,0,none⟩=some (.bool false):=bg h2.g;have f1:W.frozen? ⟨W0.heap.size+1,0,none⟩=false:=by simp[World.frozen?,h2.c]
  have f2:W.frozen? ⟨W0.heap.size+1+1,0,none⟩=false:=by
   have:=h2.g;simp[World.frozen?,this]
  have hqW:=h3 159 (by simp) _ _ _ h.hq;have hQ:=h3 162 (by simp) _ _ _ h.hQ;have c0:=bg hqW;have c1:W.cell? ⟨q,1,none⟩=some (.int .i64 (blk:Int)):=by simp[World.cell?,hQ]
  have k1:(i:Int)+1<=20000:=by omega
  have k2:¬(20000:Int)<(i:Int)+1:=by omega
  have k3:¬(blk:Int)-16<(sZ row:Int):=by omega
  have HR:Hid (Ro W (.slice vo row.length vC) row):=hrow;have hwr:IntKind.i64.wrap ((blk:Int)-16)=(blk:Int)-16:=wrap_small _ (by omega) (by omega);have hmix:prog.follows .mixedOrders=true:=by kernel_rfl
  clear hrow hQ;generalize hszv:sZ row=sz at *
  gi_wp2
  have t1:Touch [W0.heap.size+1] W (W.setCell ⟨W0.heap.size+1,0,none⟩ (.int .i64 ((i:Int)+1))):=(Touch.refl [W0.heap.size+1] W).setCell (p:=⟨W0.heap.size+1,0,none⟩) (by simp) _;have kt:∀t,(3:TypeId)≠t->KT t W (W.setCell ⟨W0.heap.size+1,0,none⟩ (.int .i64 ((i:Int)+1))):=λt ht=>t1.tag (nO h2.c ht);have g1:=kt 206 (by decide) _ _ _ h2.y;have g2:(W.setCell ⟨W0.heap.size+1,0,none⟩ (.int .i64 ((i:Int)+1))).heap[W0.heap.size+1]?=some (.cells #[.int .i64 ((i+1:Nat):Int)] 3 (0,0)):=by
   rw[heap_setCell_same W (W0.heap.size+1) 0 _ 3 _ h2.c];simp
  have g3:(W.setCell ⟨W0.heap.size+1,0,none⟩ (.int .i64 ((i:Int)+1))).heap[W0.heap.size+1+1]?=some (.cells #[.bool false] 4 (0,0)):=kt 4 (by decide) _ _ _ h2.g;have h3a:=kt 159 (by decide) _ _ _ hqW;have h3b:=kt 162 (by decide) _ _ _ (h3 162 (by simp) _ _ _ h.hQ);have h3':∀t∈[159,162],KT t W0 (W.setCell ⟨W0.heap.size+1,0,none⟩ (.int .i64 ((i:Int)+1))):=λt ht=>(h3 t ht).trans (kt t (λe=>by subst e;simp at ht));have hst1:=h.stay _ _ _ _ _ hst (kt 85 (by decide)) t1.size;have hkI:=h.keepT st _ _ _ t1 (by simp only[aj_,forall_eq];exact⟨by omega,_,_,_,h2.c,.inl rfl⟩);have hr1:=Sl3.keep HR.out (kt 85 (by decide));have hs1:W.heap.size<=(W.setCell ⟨W0.heap.size+1,0,none⟩ (.int .i64 ((i:Int)+1))).heap.size:=t1.size;have hh1:=h.ownT st _ _ _ t1 (by simp only[aj_,forall_eq];exact⟨by omega,_,h2.c,.inr ⟨_,_,_,rfl,.inl rfl⟩⟩);have hodd1:∀(k:Nat) (ob:Obj),W.heap[k]?=some ob->Odd ob->(W.setCell ⟨W0.heap.size+1,0,none⟩ (.int .i64 ((i:Int)+1))).heap[k]?=some ob:=λk ob e ho=>by
   rw[t1.block k (agi.1 e).1 (λhk=>by rw[ms_ hk,h2.c]at e;cases e;exact ho.1 _ _ _ rfl)];exact e
  clear b0 b1 b2 f1 f2 c0 c1 kt t1;generalize W.setCell ⟨W0.heap.size+1,0,none⟩ (.int .i64 ((i:Int)+1))=W1 at *;have b0:=bg g1;have b1:=bg g2;have b2:=bg g3;have f2:W1.frozen? ⟨W0.heap.size+1+1,0,none⟩=false:=by simp[World.frozen?,g3]
  have c0:=bg h3a;have hQ:=h3b;have c1:W1.cell? ⟨q,1,none⟩=some (.int .i64 (blk:Int)):=by simp[World.cell?,hQ]
  have HK:Hid (∀W',Touch [] W1 W'->W'.cell? ⟨bq,0,none⟩=some (.pointer (some ⟨q,0,none⟩))/\W'.cell? ⟨q,1,none⟩=some (.int .i64 (blk:Int))/\W'.cell? ⟨W0.heap.size+1+1,0,none⟩=some (.bool false)/\W'.frozen? ⟨W0.heap.size+1+1,0,none⟩=false/\W'.heap[W0.heap.size+1+1]?=some (.cells #[.bool false] 4 (0,0))):=λW' hW=>by
   have hz:=hW.tu 4 _ _ _ g3;exact⟨cO c0 hW,cO c1 hW,cO b2 hW,by simp[World.frozen?,hz],hz⟩
  have HR1:Hid (∀W',Touch [] W1 W'->Ro W' (.slice vo row.length vC) row):=λW' hW=>Ro.touch hr1 hW;have G3:Hid (W1.heap[W0.heap.size+1+1]?=some (.cells #[.bool false] 4 (0,0))):=g3;clear hQ hr1 g3
  gi_cut [] from 14 (λwx=>Touch [W0.heap.size+1+1] W1 wx/\wx.heap[W0.heap.size+1+1]?=some (.cells #[.bool false] 4 (0,0)))
  case first=>
   gi_region_with_o (refine⟨trivial,rfl,?_⟩;gi_at_call 141;refine(CallsIn.inRound _ (callsIn_wide.2 (HSZ.out _ (HR1.out _ (tr_.drew))))).mono ?_;rintro e w1 ⟨rfl,hT1⟩;obtain⟨z1,z2,z3,z4,z5⟩:=HK.out w1 ((tr_.drew).trans hT1))
   all_goals
    gi_wp2
    gi_meet
    case rel=>
     refine⟨(((tr_.drew).trans hT1).mono (by simp)).trans ((Touch.refl [W0.heap.size+1+1] w1).setCell (p:=⟨W0.heap.size+1+1,0,none⟩) (by simp) _),?_⟩;rw[heap_setCell_same w1 (W0.heap.size+1+1) 0 _ 4 _ z5];simp;omega
  case rest=>
   obtain⟨tc,gc⟩:=hcut;have kt:∀t,(4:TypeId)≠t->KT t W1 wc:=λt ht=>tc.tag (nO G3.out ht);have hoddc:∀(k:Nat) (ob:Obj),W1.heap[k]?=some ob->Odd ob->wc.heap[k]?=some ob:=λk ob e ho=>by
    rw[tc.block k (agi.1 e).1 (λhk=>by rw[ms_ hk,G3.out]at e;cases e;exact ho.1 _ _ _ rfl)];exact e
   have ho2:=h.ownT st _ _ _ tc (by simp only[aj_,forall_eq];exact⟨by omega,_,G3.out,.inr ⟨_,_,_,rfl,.inr rfl⟩⟩);have hBx:ChkBox wc W0.heap.size l (i+1):=⟨kt 206 (by decide) _ _ _ g1,kt 3 (by decide) _ _ _ g2,gc⟩;have hCx:∀t∈[159,162],KT t W0 wc:=λt ht=>(h3' t ht).trans (kt t (λe=>by subst e;simp at ht));have hJc:=hJ _ _ _ (hJ _ _ _ h1 hh1) ho2;have hstc:=h.stay _ _ _ _ _ hst1 (kt 85 (by decide)) tc.size;have hkc:=h.keepTr _ _ _ _ hkI (h.keepT st _ _ _ tc (by simp only[aj_,forall_eq];exact⟨by omega,_,_,_,G3.out,.inr rfl⟩));have hodd2:∀(k:Nat) (ob:Obj),W.heap[k]?=some ob->Odd ob->wc.heap[k]?=some ob:=λk ob e ho=>hoddc k ob (hodd1 k ob e ho) ho;clear b0 b1 b2 f2 c0 c1 HK HR1 hh1 ho2 hodd1 hoddc kt tc h3' h3 h2 g1 g2 G3 hs1 h3a h3b hqW hkI hst1 hst;have b0:=bg hBx.y;have b2:wc.cell? ⟨W0.heap.size+1+1,0,none⟩=some (.bool false):=bg hBx.g;obtain⟨fn,tmps,assign,body,hy,hR⟩:=hY st (.slice vo row.length vC) st' wc hJc hstc
   gi_wp2
   refine⟨rfl,hR.mono ?_⟩;rintro e W5 ⟨rfl,hJ5,hG5⟩
   gi_wp2
   obtain⟨g1,g2,g3⟩:=h.keep _ _ _ hG5;refine⟨λk ob e ho hk=>?_,h.keepTr _ _ _ _ hkc g3,hJ5,?_,λt ht=>(hCx t ht).trans (g1 t (by simp only[a_,i_,or_false]at ht ⊢;rcases ht with rfl|rfl<;>simp))⟩
   ·have hodd:Odd ob:=by rcases ho with⟨r,rfl⟩|⟨ds,rfl⟩;exact oL r;exact oD ds
    exact g2 k ob (by omega) (hodd2 k ob e hodd) hodd
   ·rw[hc1];exact hBx.keep (λt ht=>g1 t (by simp only[a_,i_,or_false]at ht ⊢;rcases ht with rfl|rfl|rfl<;>simp))
 case done=>
  rintro st W r r' hf ⟨h1,h2,h3⟩ hl hk;have h1':=hJ _ _ _ h1 (h.ownT _ _ _ _ (Touch.putObj (wa.heap.size+1) (.loop r')) (by simp only[aj_,forall_eq];exact⟨by omega,_,hl,.inl (oL r)⟩));have h2':(W.putObj (wa.heap.size+1) (.loop r')).heap[W0.heap.size+1+1]?=some (.cells #[.bool false] 4 (0,0)):=(OwnS.putObj (T:=[]) (lo:=0) (B:=W0.heap.size) (ob':=.loop r') hl (oL r) (by omega) (x_ _)).cells 4 (by simp) (by decide) _ _ _ h2.g;have hk1:(W.putObj (wa.heap.size+1) (.loop r')).heap[wa.heap.size]?=some (.deferred (some [])):=(World.putObj_heap_other (by omega)).trans hk;have hf':=h.finL _ _ _ _ (.loop r') hf hl (oL r);generalize W.putObj (wa.heap.size+1) (.loop r')=W2 at *;clear h1 h2 h3 hl hk hf;have b2:=bg h2';have h1'':=hJ _ _ _ h1' (h.ownT _ _ _ _ (Touch.putObj wa.heap.size (.deferred none)) (by simp only[aj_,forall_eq];exact⟨by omega,_,hk1,.inl (oD _)⟩));have hf'':=h.finL _ _ _ _ (.deferred none) hf' hk1 (oD _);go_wp2;refine⟨by simp,.inl ⟨_,_,rfl,run_takeDeferred hk1,?_⟩⟩;exact⟨_,results_none rfl _ _ _,⟨_,rfl⟩,st,hf'',h1''⟩
theorem checked_seq (W0:World)(bq bl b q:Nat)(tv wv sv:Value)(bx blk:Nat)(fan bud:Int)(vs:List Value)(rows:List (List V))(h:ChkCtx W0 bq bl b q tv wv sv bx blk fan bud vs rows) :
  SQ 140 #[.pointer (some ⟨bl,0,none⟩),.pointer (some ⟨bq,0,none⟩)] (0:Nat) (λs _=>s=vs.length) (λi v W i'=>(vs[i]?=some v/\i'=i+1)/\∃h:i<rows.length,Ro W v rows[i]) (λ_ _=>False) (λ_=>OwnN W0.heap.size) (λ_=>Guard ChkT W0.heap.size) W0:=by
 refine checked_gen W0 bq bl q tv wv bx blk fan bud 162 #[.pointer (some ⟨b,0,none⟩)] (0:Nat) _ _ (λ_ _=>False) _ (λ_ A B=>A=B) _ (λ_ W W'=>KT 83 W W'/\KT 85 W W') _ id ⟨h.hq,h.hQ,h.hl,h.b2,enters_of func162 (by kernel_rfl) rfl,λW hW _=>values_rows W b sv vs rows (hW.tu 36 _ _ _ h.hb) (h.list.keep (hW.tu 83)) (by have:=h.len;have:=h.few;omega) h.len (λi a b=>(h.rW i a b).touch hW),?_,λ_ _ _ F t hF=>⟨F,t,λk hk=>(hF k hk).1⟩,?_,?_,?_,λ_ _ _ _ h1 h2=>⟨h1.1.trans h2.1,h1.2.trans h2.2⟩,?_,?_,λ_ _ h=>h.elim,rfl,?_,?_,λs W l ob ob' hf _ _=>hf⟩
 ·rintro s A B rfl;exact tr_.n _
 ·rintro s A B rfl t _ k cs f e;exact e
 ·rintro s A B k ob rfl e _ _;exact e
 ·intro s A B hg;exact⟨λt ht=>hg.cells t (by simp only[a_,i_,or_false]at ht;rcases ht with rfl|rfl|rfl|rfl|rfl<;>decide),λk ob=>hg.others k ob,hg.cells 83 (by decide),hg.cells 85 (by decide)⟩
 ·intro s A B F t hF;obtain⟨g1,_⟩:=t_ (T:=[83,85]) 0 t (λk hk=>by
   obtain⟨_,cs,t,f,e,ht⟩:=hF k hk;exact⟨cs,t,f,e,by rcases ht with rfl|rfl<;>decide⟩)
  exact⟨g1.cells 83 (by decide),g1.cells 85 (by decide)⟩
 ·intro s W r r' e;have g:=Guard.putObj (T:=[83,85]) (B:=W0.heap.size+5) (r':=r') e (by omega);exact⟨g.cells 83 (by decide),g.cells 85 (by decide)⟩
 ·rintro i v W i' ⟨⟨hv,rfl⟩,hi,hr⟩;have hmem:rows[i]∈rows:=m_ _;have hfew:=h.few;exact⟨rfl,by simp only[id];omega,rows[i],hr,h.fair _ hmem,(h.size _ hmem).1,(h.size _ hmem).2⟩
 ·rintro i v W W' i' ⟨h1,hi,hr⟩ k _;exact⟨h1,hi,Sl3.keep hr k⟩
end Go.Proofs.YtjoinhljdbljaaaGreat
