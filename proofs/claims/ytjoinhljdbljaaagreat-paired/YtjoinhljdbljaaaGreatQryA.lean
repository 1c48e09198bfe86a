/- A range over a function, where the function turns its own blocks, and the disk, between two rounds: the law. -/
import Derived.Test.YtjoinhljdbljaaaGreatMrgOToMrgP
import Derived.RangeFuncNested
import Derived.RangeFuncLeaves
namespace Go.Proofs.YtjoinhljdbljaaaGreat
open Go.RowKit Go.Proofs.Tryz
def SQ {σ:Type}(gf:Nat)(lb:Array Value)(s0:σ)(fin:σ->World->Prop)(step:σ->Value->World->σ->Prop)(mov:σ->σ->Prop)(Own Keep:σ->World->World->Prop)(W0:World):Prop:=
 ∀(l:Nat) (J:σ->World->Prop),(∀s A B,J s A->Own s A B->J s B)->(∀s s' A,J s A->mov s s'->J s' A) ->
  (∀s v s' W,J s W->step s v W s'->YieldAt Fence.wide 0 prog l #[v] W λe W'=>e=.returned (.bool true)/\J s' W'/\Keep s W W') ->
  J s0 W0->Calls prog gf (#[.func (.yield l) #[] #[]]++lb) W0 λe W'=>(∃v,e=.returned v)/\∃s,fin s W'/\J s W'
def roundEnd (K:World->Prop):Exit->Act->World->Prop
 | .normal,_,W=>K W
 | _,_,_=>False
theorem rG {σ:Type}{g:Operand}{ps:Array Tmp}{assign body:Code}{Q:Exit->Act->World->Prop}{a:Act}{w:World}{gf:Nat}{lb:Array Value}(hg:a.eval g=.func (.func gf) #[] lb)(eg:∀args w,(callFunc gf args).run prog w=.ok (.enter gf args) w)(hps:ps.size=1)
  {s0:σ} {fin:σ->World->Prop} {step:σ->Value->World->σ->Prop} {mov:σ->σ->Prop} {Own Keep:σ->World->World->Prop}
  (hseq:∀rec,SQ gf lb s0 fin step mov Own Keep ((w.alloc (.deferred (some []))).alloc (.loop rec)))
  (hOwn:∀s A B k ob,Own s A B->A.heap[k]?=some ob->((∃r,ob=.loop r)\/∃ds,ob=.deferred ds)->k<=w.heap.size+1->B.heap[k]?=some ob)
  (hKt:∀s A B C,Keep s A B->Keep s B C->Keep s A C) (hKb:∀s W r r',W.heap[w.heap.size+1]?=some (.loop r)->Keep s W (W.putObj (w.heap.size+1) (.loop r')))
  (I:σ->World->Prop) (hI:∀s A B,I s A->Own s A B->I s B) (hIm:∀s s' A,I s A->mov s s'->I s' A) (hIp:∀s W r r',I s W->W.heap[w.heap.size+1]?=some (.loop r)->I s (W.putObj (w.heap.size+1) (.loop r')))
  (hSp:∀s v s' W r r',step s v W s'->W.heap[w.heap.size+1]?=some (.loop r)->step s v (W.putObj (w.heap.size+1) (.loop r')) s')
  (h0:∀rec,I s0 ((w.alloc (.deferred (some []))).alloc (.loop rec))) (a₁:Value->Act)
  (hassign:∀(v:Value) (W:World) (K:Act->World->Prop),K (a₁ v) W->assign.wpIn (Fence.wide.inRound (w.heap.size+1)) 0 prog (Exit.then K (λ_ _ _=>False)) { tmps:=(ps.zip #[v]).foldl (λt (p,v)=>t.setIfInBounds p v) a.tmps,defers:=[] } W)
  (hbody:∀(s:σ) (v:Value) (s':σ) (W:World),I s W->step s v W s'->body.wpIn (Fence.wide.inRound (w.heap.size+1)) 0 prog (roundEnd λW'=>(∀k ob,W.heap[k]?=some ob->((∃r,ob=.loop r)\/∃ds,ob=.deferred ds)->(k=w.heap.size\/k=w.heap.size+1)->W'.heap[k]?=some ob)/\Keep s W W'/\I s' W') (a₁ v) W)
  (hdone:∀(s:σ) (W:World) (r r':Loop),fin s W->I s W->W.heap[w.heap.size+1]?=some (.loop r)->W.heap[w.heap.size]?=some (.deferred (some []))->Q .normal { a with defers:={ target:=.collected w.heap.size,args:=#[] }::a.defers } (W.putObj (w.heap.size+1) (.loop r'))) :
  (Code.rangeFunc g ps assign body).wp prog Q a w:=by
 refine(wpIn_wide (n:=0)).1 (wpIn_rangeFunc ?_);intro fn _;obtain⟨rec,hrec⟩:∃rec:LoopState->Option Code->Loop,rec=λst pe=>{ state:=st,pending:=pe,fn,tmps:=a.tmps,params:=ps,assign,body,defers:=w.heap.size }:=⟨_,rfl⟩;have hL1:((w.alloc (.deferred (some []))).alloc (.loop (rec .ready none))).heap[w.heap.size+1]?=some (.loop (rec .ready none)):=by
  have:=World.alloc_heap_new (w.alloc (.deferred (some []))) (.loop (rec .ready none));rwa[World.size_alloc]at this
 have hK1:((w.alloc (.deferred (some []))).alloc (.loop (rec .ready none))).heap[w.heap.size]?=some (.deferred (some [])):=(Below.heap_alloc _ _ _ (by simp)).trans (World.alloc_heap_new w _);refine⟨w.heap.size+1,[{ target:=.collected w.heap.size,args:=#[] }],(w.alloc (.deferred (some []))).alloc (.loop (rec .ready none)),{ target:=.fn (.func gf) lb,args:=#[.func (.yield (w.heap.size+1)) #[] #[]] },(w.alloc (.deferred (some []))).alloc (.loop (rec .ready none)),gf,#[.func (.yield (w.heap.size+1)) #[] #[]]++lb,(w.alloc (.deferred (some []))).alloc (.loop (rec .ready none)),?_,?_,λ_ _=>trivial,?_,by simp[Fence.wide],?_⟩
 ·rw[hrec];exact run_enterLoop_outer _ _ _ _ _
 ·simp only[resolve,hg];simp[go_sem]
 ·simp[invoke,go_sem,eg]
 ·refine callsIn_wide.2 ((hseq (rec .ready none) (w.heap.size+1) (λs W=>I s W/\W.heap[w.heap.size+1]?=some (.loop (rec .ready none))/\W.heap[w.heap.size]?=some (.deferred (some []))) ?_ ?_ ?_ ⟨h0 _,hL1,hK1⟩).mono ?_)
  ·rintro s A B ⟨h1,h2,h3⟩ ho;exact⟨hI s A B h1 ho,hOwn s A B _ _ ho h2 (.inl ⟨_,rfl⟩) (e_ _),hOwn s A B _ _ ho h3 (.inr ⟨_,rfl⟩) (by omega)⟩
  ·rintro s s' A ⟨h1,h2,h3⟩ hm;exact⟨hIm s s' A h1 hm,h2,h3⟩
  ·rintro s v s' W ⟨hi,hl,hk⟩ hst;have hlt:w.heap.size+1<W.heap.size:=(agi.1 hl).1;have hy:=run_yield (P:=prog) (args:=#[v]) hl (by rw[hrec];simp[hps]);rw[hrec]at hy;refine⟨fn,_,assign,body,hy,roundIn_of_wpIn trivial (hassign v W _ ⟨_,run_beginRound hl (by rw[hrec]),?_⟩)⟩;have hl2:(W.putObj (w.heap.size+1) (.loop { rec .ready none with state:=.busy })).heap[w.heap.size+1]?=some (.loop { rec .ready none with state:=.busy }):=World.putObj_heap_same hlt;have hk2:(W.putObj (w.heap.size+1) (.loop { rec .ready none with state:=.busy })).heap[w.heap.size]?=some (.deferred (some [])):=(World.putObj_heap_other (by omega)).trans hk;refine wpIn_mono (hbody s v s' _ (hIp s W _ _ hi hl) (hSp _ _ _ W _ _ hst hl)) ?_;rintro e a3 W3 hp;cases e with
   | normal=>
    obtain⟨hk3,hkp3,hi3⟩:=hp;have hl3:=hk3 _ _ hl2 (.inl ⟨_,rfl⟩) (.inr rfl);have hd3:=hk3 _ _ hk2 (.inr ⟨_,rfl⟩) (.inl rfl);have hr:=run_endRound (P:=prog) none hl3;refine⟨_,_,hr,rfl,⟨hIp _ _ _ _ hi3 hl3,?_,(World.putObj_heap_other (by omega)).trans hd3⟩,hKt _ _ _ _ (hKt _ _ _ _ (hKb _ _ _ _ hl) hkp3) (hKb _ _ _ _ hl3)⟩;rw[World.putObj_heap_same (agi.1 hl3).1,hrec];rfl
   | ret=>exact hp.elim
   | exit id=>exact hp.elim
   | goto t=>exact hp.elim
   | panic ch=>exact hp.elim
   | outgrown=>exact hp.elim
  ·rintro e W2 ⟨⟨v,rfl⟩,s,hf,hi,hl,hk⟩;refine⟨none,_,by have:=run_endLoop (P:=prog) hl (by rw[hrec];simp);rw[hrec]at this;exact this,hdone s _ _ _ hf hi hl hk⟩
end Go.Proofs.YtjoinhljdbljaaaGreat
