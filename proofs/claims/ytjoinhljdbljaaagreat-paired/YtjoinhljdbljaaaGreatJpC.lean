/- For every list of numbers and every configuration, Paired returns true and leaves its arguments as they were. -/
import Derived.Test.YtjoinhljdbljaaaGreatJpFToJoY
import Derived.ProofKit
import Derived.OpenShut
import Derived.ChangeOld
import Derived.Below
import Derived.Deep.Slices
import Derived.Deep.Strs
set_option maxRecDepth 100000
namespace Go.Proofs.YtjoinhljdbljaaaGreat.pairedDone
open Go.ChangeShapes Go.WideShapes Go.ChangeAt Go.RowKit Go.Deep
variable {a:Addr} {c v:Value} {fuel k:Nat}
theorem own:ownKnob Tryz.prog.godebug=none:=by kernel_rfl
theorem laidOut:laidOutB Tryz.prog=true:=by kernel_rfl
theorem cells3:Tryz.prog.cellsOf 3=1:=by kernel_rfl
theorem cells51:Tryz.prog.cellsOf 51=3:=by kernel_rfl
theorem wf64 {n:Int}(h:(Lit.int .i64 n).wf=true):I64 n:=by
 have: -9223372036854775808<=n/\n<=9223372036854775807:=by simpa[Lit.wf,IntKind.min,IntKind.max,IntKind.signed,IntKind.bits]using h
 exact this
section
variable {H:Type} {enc:TypeId×Value->H} {w:World}
theorem cell_at (hs:a.spot=none)(h:w.cells? 0 (a.add k) 1=some [c]):w.cell? ⟨a.block,a.off+k,none⟩=some c:=by
 obtain⟨_,_,hx⟩:=World.cells?_some h;obtain⟨b,off,spot⟩:=a;simp only at hs;subst hs;have h0:=hx 0 (by omega);have e:((⟨b,off,none⟩:Addr).add k).add 0=⟨b,off+k,none⟩:=by
  rw[Go.Deep.add_add];unfold Addr.add
  split
  ·rename_i h0;have h1:k=0:=by omega
   rw[h1];rfl
  ·simp
 rw[e]at h0;simpa using h0
theorem spot_of (h:w.cells? 0 (a.add 0) 1=some [c]):a.spot=none:=by
 obtain⟨_,hl,hx⟩:=World.cells?_some h;have h0:=hx 0 (by omega);have:w.cell? a=some c:=by simpa[Addr.add]using h0
 exact World.cell?_spot this
theorem open_raw {d:DataW H}{ps:List MemPlace}(h:DataW.trod enc Tryz.prog w 0 (λ_=>true) true fuel 37 [v]=some (d,ps)):∃l:List Int,Rt w v l:=by
 rcases open_slice Tryz.underlying37 h with⟨hcs,hx⟩|⟨a,len,cap,m,n,D,Pl,hcs,_,hl,hm,hmm,hx,hel⟩
 ·simp only[al_,and_true]at hcs;subst hcs;exact⟨[],λ_ h=>by simp at h,by simp,none,0,rfl,λh=>by simp at h⟩
 ·simp only[al_,and_true]at hcs;subst hcs;simp only[if_true]at hmm;subst hmm;have each:∀i,i<m->∃y:Int,I64 y/\(a.spot=none->w.cell? ⟨a.block,a.off+i,none⟩=some (.int .i64 y))/\(i=0->a.spot=none):=by
   intro i hi;obtain⟨cs',h1,h2⟩:=hel i hi;obtain⟨y,e0,_,wy⟩:=DataW.trod_int Tryz.underlying3 h2;subst e0;rw[cells3,Nat.mul_one]at h1;exact⟨y,wf64 wy,λhs=>cell_at hs h1,λh0=>by subst h0;exact spot_of h1⟩
  obtain⟨F,hF⟩:=@choose_lt Int ⟨0⟩ _ _ each;refine⟨(List.range len).map F,λx hx=>?_,?_,some a,m,by simp,λh1=>?_⟩
  ·obtain⟨i,hi,rfl⟩:=z_.1 hx;exact(hF i (by have:=List.mem_range.1 hi;omega)).1
  ·simp only[u_,List.length_range];have h63:maxLen=9223372036854775807:=by unfold maxLen;rfl
   omega
  ·simp only[u_,List.length_range]at h1;have hs:=(hF 0 (by omega)).2.2 rfl;refine⟨a.block,a.off,by obtain⟨b,off,spot⟩:=a;simp only at hs;rw[hs],λj hj=>?_⟩;simp only[u_,List.length_range]at hj;have:=(hF j (by omega)).2.1 hs;simpa using this
theorem three_of {α:Type}{l:List α}(h:l.length=3):∃a b c,l=[a,b,c]:=by
 match l,h with
 | [a,b,c],_=>exact⟨a,b,c,rfl⟩
theorem open_conf {cs:List Value}{x:DataW H×List MemPlace}(h:DataW.trod enc Tryz.prog w 0 (λ_=>true) true fuel 51 cs=some x):∃a b c:Int,cs=[.int .i64 a,.int .i64 b,.int .i64 c]/\I64 a/\I64 b/\I64 c:=by
 obtain⟨y0,y1,y2,m,_,hl,h0,h1,h2⟩:=trod_struct3 Tryz.underlying51 h;rw[cells51]at hl;obtain⟨c0,c1,c2,rfl⟩:=three_of hl;simp only[cells3,List.drop_zero,List.drop_succ_cons,List.take_succ_cons,List.take_zero]at h0 h1 h2;obtain⟨k,e0,_,w0⟩:=DataW.trod_int Tryz.underlying3 h0;obtain⟨n,e1,_,w1⟩:=DataW.trod_int Tryz.underlying3 h1;obtain⟨s,e2,_,w2⟩:=DataW.trod_int Tryz.underlying3 h2;simp only[al_,and_true]at e0 e1 e2;subst e0 e1 e2;exact⟨k,n,s,rfl,wf64 w0,wf64 w1,wf64 w2⟩
end
theorem contract (H:Type)(enc:TypeId×Value->H)(W:World)(base:Nat)(args:Array Value)(ds gs:List (DataW H))(before:List MemPlace)
  (hval:∀(j:Nat) t v,Tryz.f7.params[j]?=some t->args[j]?=some v->Value.okWide Tryz.prog W .any base t v)
  (hW:DataW.Whole enc Tryz.prog Tryz.f7.params.toList Rows.pairedSpec.vars false W args.toList ds gs before) :
  Calls Tryz.prog 7 args W λe W'=>∃v,e=.returned v/\Rows.pairedSpec.post enc Tryz.prog Tryz.f7 false true false false W args v W':=by
 have hW':=hW;obtain⟨p,q,hA0,hV,rfl,hfz,hnd⟩:=hW;have hA:DataW.TrodAll enc Tryz.prog W 0 (λ_=>true) true Tryz.f7.params.toList args.toList ds p:=hA0;rw[Tryz.params7]at hA hval;obtain⟨v0,vs0,d0,ds0,p0,q0,hargs,rfl,rfl,h0,r0⟩:=trodAll_cons hA;obtain⟨v1,vs1,d1,ds1,p1,q1,rfl,rfl,rfl,h1,r1⟩:=trodAll_cons r0;obtain⟨rfl,rfl,rfl⟩:=trodAll_nil r1;obtain rfl:args=#[v0,v1]:=by cases args;simp_all
 obtain⟨rfl,rfl⟩:=trodVars_none hV;obtain⟨a0,len0,cap0,rfl⟩:=okWide_slice Tryz.underlying37 (hval 0 37 v0 rfl rfl);obtain⟨cs1,rfl,hcs1⟩:=okWide_struct Tryz.underlying51 (hval 1 51 v1 rfl rfl);have k0:=h0;have k1:=h1;have lt0:∀x∈p0,x.block<W.heap.size:=by obtain⟨m,hm⟩:=k0;exact DataW.trod_lt m _ _ _ hm
 have lt1:∀x∈p1,x.block<W.heap.size:=by obtain⟨m,hm⟩:=k1;exact DataW.trod_lt m _ _ _ hm
 obtain⟨raw,hraw⟩:∃l:List Int,Rt W (.slice a0 len0 cap0) l:=by
  obtain⟨fuel,hf⟩:=h0;exact open_raw (by simpa[Value.cells]using hf)
 obtain⟨cb,cf,cu,hc,i1,i2,i3⟩:∃a b c:Int,cs1=#[.int .i64 a,.int .i64 b,.int .i64 c]/\I64 a/\I64 b/\I64 c:=by
  obtain⟨fuel,hf⟩:=h1;obtain⟨a,b,c,e,i1,i2,i3⟩:=open_conf hf;refine⟨a,b,c,?_,i1,i2,i3⟩;have e':cs1.toList=[.int .i64 a,.int .i64 b,.int .i64 c]:=e;exact Array.ext' e'
 subst hc;clear hA0
 letI:Inhabited Ground:=nR
 refine(pairedLaw_any W _ raw cb cf cu hraw i1 i2 i3).mono λe W' ⟨he,hlow⟩=>?_;have bel:Below W.heap.size W W':=hlow.below;subst he;exact⟨_,rfl,_,_,_,[],_,[],hW',trodAll_mk1 (shut_bool Tryz.underlying4 _),(trodAll_cons_mk (Below.trod laidOut (by kernel_rfl) (of_decide_eq_true (by kernel_rfl)) k0 bel lt0) (trodAll_cons_mk (Below.trod laidOut (by kernel_rfl) (of_decide_eq_true (by kernel_rfl)) k1 bel lt1) trodAll_mk0)),rfl,bel.frame _,λh=>by cases h⟩
theorem lifted (os:Os)(started:os.Started)(H:Type)(enc:TypeId×Value->H) :
  ReturnsInHanded {} Tryz.checked os 7 .any (Rows.pairedSpec.pre6 enc Tryz.prog Tryz.f7 Rows.pairedRow.domain false) (Rows.pairedSpec.post enc Tryz.prog Tryz.f7 false true false false):=by
 refine returnsInHanded_of_change (C:=Tryz.checked) own started (by kernel_rfl) Tryz.func7
  (ChangeSpec.witness6 (enc:=enc) (C:=Tryz.checked) false ⟨#[],#[.slice none 0 0,.agg #[.int .i64 0,.int .i64 0,.int .i64 0]],[]⟩ 8 (by kernel_rfl) (by kernel_rfl) (by kernel_rfl) (by kernel_rfl)) ?_
 intro W base args ds gs before hval hW _ _;exact contract H enc W base args ds gs before hval hW
theorem paired_said:Rows.PairedSaid:=
 OpenClaim.holds_of_wide 7 Tryz.f7 rfl rfl rfl rfl rfl rfl rfl ⟨rfl,rfl,rfl,rfl,rfl⟩ rfl rfl rfl rfl rfl (by kernel_rfl) Tryz.func7 (by kernel_rfl)
  (of_decide_eq_true (by kernel_rfl)) (by unfold Func.isWrapper;first|(rw[if_pos (by decide +kernel)];kernel_rfl)|(rw[if_neg (by decide +kernel)];exact⟨rfl,rfl⟩))
  (λos started H enc _=>lifted os started H enc)
end Go.Proofs.YtjoinhljdbljaaaGreat.pairedDone
namespace Go.Proofs.YtjoinhljdbljaaaGreat
theorem paired_holds:Rows.PairedSaid:=pairedDone.paired_said
end Go.Proofs.YtjoinhljdbljaaaGreat
