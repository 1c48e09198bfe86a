/- Short names, and what follows. -/
import Derived.KernelRfl
set_option linter.defProp false
namespace Go.Proofs.YtjoinhljdbljaaaGreat
variable {i k m n:Nat}
def a_:=@List.mem_cons
def c_:=@List.length_append
def d_:=@List.mem_append
def e_:=@Nat.le_refl
def i_:=@List.not_mem_nil
def j_:=@Option.some.injEq
def k_:=@Nat.le_trans
def l_:=@List.getElem?_eq_some_iff
def m_:=@List.getElem_mem
def o_:=@List.mem_cons_of_mem
def p_:=@List.getElem?_eq_getElem
def q_:=@Array.getElem?_eq_getElem
def s_:=@Nat.lt_of_lt_of_le
def u_:=@List.length_map
def v_:=@List.mem_of_getElem?
def w_:=@List.map_append
def x_:=@Nat.zero_le
def y_:=@List.mem_append_right
def z_:=@List.mem_map
def A_:=@List.getElem_of_mem
def C_:=@List.mem_append_left
def D_:=@List.length_eq_zero_iff
def E_:=@Array.getElem?_setIfInBounds
def F_:=@List.append_assoc
def G_:=@List.getElem_append_left
def H_:=@List.append_nil
def I_:=@List.mem_cons_self
def J_:=@List.drop_eq_getElem_cons
def K_:=@Array.getD_eq_getD_getElem?
def L_:=@List.mem_of_mem_take
def M_:=@List.getElem?_map
def N_:=@List.take_of_length_le
def O_:=@List.drop_of_length_le
def P_:=@Array.replicate_succ
def Q_:=@List.eq_nil_iff_forall_not_mem
def R_:=@List.nodup_cons
def S_:=@List.getElem?_take
def T_:=@List.mem_map_of_mem
def U_:=@Nat.zero_add
def V_:=@List.getD_eq_getElem?_getD
def W_:=@List.length_take
def X_:=@List.take_append_drop
def Y_:=@Array.getElem?_toList
def Z_:=@Nat.le_of_lt
def aa_:=@List.getElem?_append_left
def ab_:=@List.flatten_append
def ac_:=@Array.getElem?_push
def ad_:=@List.nodup_append
def ae_:=@List.getElem?_append_right
def af_:=@Array.length_toList
def ag_:=@Array.size_push
def ah_:=@List.perm_append_comm
def ai_:=@List.length_replicate
def aj_:=@List.mem_singleton
def ak_:=@List.mem_of_mem_drop
def al_:=@List.cons.injEq
def am_:=@List.takeWhile_cons_of_neg
def an_:=@Nat.mul_le_mul_right
def ao_:=@List.getElem_set_ne
def ap_:=@List.mem_flatMap
def aq_:=@List.drop_append_of_le_length
def ar_:=@Nat.lt_or_ge
def as_:=@List.countP_append
def au_:=@List.append_eq_nil_iff
def av_:=@List.pairwise_append
def aw_:=@List.takeWhile_cons_of_pos
def ax_:=@List.getElem_map
def ay_:=@List.length_pos_iff
def az_:=@Array.size_setIfInBounds
def ba_:=@Int.eq_ofNat_of_zero_le
def bb_:=@Option.mem_toList
def bc_:=@Option.map_eq_some_iff
def bd_:=@List.take_succ_eq_append_getElem
def be_:=@Array.getElem?_setIfInBounds_ne
def bf_:=@List.take_length
def bg_:=@List.mem_flatten
def bh_:=@Array.getElem_of_mem
theorem ms_ {α : Type _} {a b : α} (h : a ∈ [b]) : a = b := aj_.1 h
theorem agi {α : Type _} {xs : Array α}  {b : α} : xs[i]? = some b ↔ ∃ h : i < xs.size, xs[i] = b := Array.getElem?_eq_some_iff
structure Law {α:Type}(lt:α->α->Bool):Prop where
 asymm:∀a b,lt a b=true->lt b a=false
 trans:∀a b c,lt a b=false->lt b c=false->lt a c=false
theorem Law.irrefl {α:Type}{lt:α->α->Bool}(h:Law lt)(a:α):lt a a=false:=by
 cases e:lt a a with
 | false=>rfl
 | true=>have:=h.asymm a a e;rw[e]at this;exact this
def sK {α:Type}(l:List α)(i j:Nat)(hi:i<l.length)(hj:j<l.length):List α:=(l.set i l[j]).set j l[i]
theorem sW {α:Type}(l:List α)(i j:Nat)(hi:i<l.length)(hj:j<l.length):(sK l i j hi hj).length=l.length:=by simp[sK]
theorem sG {α:Type}(l:List α)(i j:Nat)(hi:i<l.length)(hj:j<l.length)(k:Nat)(hk:k<l.length) :
  (sK l i j hi hj)[k]'(by rw[sW];exact hk)=if k=j then l[i]else if k=i then l[j]else l[k]:=by
 simp only[sK,List.getElem_set];by_cases h1:j=k
 ·simp[h1]
 ·by_cases h2:i=k
  ·simp[h1,h2]
   try (intro h;exact absurd h.symm h1)
  ·rw[if_neg h1,if_neg h2,if_neg (λh=>h1 h.symm),if_neg (λh=>h2 h.symm)]
theorem set_perm {α:Type}(l:List α)(i:Nat)(hi:i<l.length)(x:α):(l[i]::l.set i x).Perm (x::l):=by
 induction l generalizing i with
 | nil=>simp at hi
 | cons a l ih=>
  cases i with
  | zero=>simpa using List.Perm.swap x a l
  | succ i=>
   simp only[List.getElem_cons_succ,List.set_cons_succ];refine(List.Perm.swap a _ _).trans ?_;exact((ih i (by simpa using hi)).cons a).trans (List.Perm.swap x a l)
theorem sQ {α:Type}(l:List α)(i j:Nat)(hi:i<l.length)(hj:j<l.length):(sK l i j hi hj).Perm l:=by
 by_cases e:i=j
 ·subst e;have:sK l i i hi hj=l:=by simp[sK]
  rw[this]
 ·have h1:=set_perm l i hi l[j];have h2:=set_perm (l.set i l[j]) j (by simpa using hj) l[i];rw[ao_ e]at h2;exact((h2.trans h1).cons_inv)
variable {α:Type} {lt:α->α->Bool}
def He (lt:α->α->Bool)(l:List α):Prop:=∀i (h:i<l.length),0<i->lt l[i] (l[(i-1)/2]'(by omega))=false
structure Un (lt:α->α->Bool)(l:List α)(at':Nat):Prop where
 here:at'<l.length
 ok:∀i (h:i<l.length),0<i->i≠at'->lt l[i] (l[(i-1)/2]'(by omega))=false
 kids:∀i (h:i<l.length),0<i->(i-1)/2=at'->0<at'->lt l[i] (l[(at'-1)/2]'(by omega))=false
theorem Un.zero {l:List α}(h:Un lt l 0):He lt l:=λi hi h0=>h.ok i hi h0 (by omega)
theorem Un.done {l:List α}(h:Un lt l k)(hk:0<k)(hn:lt (l[k]'h.here) (l[(k-1)/2]'(by have:=h.here;omega))=false):He lt l:=by
 intro i hi h0;by_cases e:i=k
 ·subst e;exact hn
 ·exact h.ok i hi h0 e
theorem Un.push {l:List α}(h:He lt l)(x:α):Un lt (l++[x]) l.length:=by
 refine⟨by simp,λi hi h0 hne=>?_,λi hi h0 he _=>?_⟩
 ·have hl:i<l.length:=by simp at hi;omega
  rw[G_ hl,G_ (by omega)];exact h i hl h0
 ·simp at hi;omega
theorem Un.step (L:Law lt){l:List α}(h:Un lt l k)(hk:0<k)(hn:lt (l[k]'h.here) (l[(k-1)/2]'(by have:=h.here;omega))=true) :
  Un lt (sK l k ((k-1)/2) h.here (by have:=h.here;omega)) ((k-1)/2):=by
 have hh:=h.here;have hp:(k-1)/2<l.length:=by omega
 refine⟨by rw[sW];omega,λi hi h0 hne=>?_,λi hi h0 he hp0=>?_⟩
 ·rw[sW]at hi;rw[sG l k _ hh hp i hi,sG l k _ hh hp _ (by omega)];rw[if_neg hne];by_cases e:i=k
  ·subst e;rw[if_pos rfl,if_pos rfl];exact L.asymm _ _ hn
  ·rw[if_neg e];by_cases e2:(i-1)/2=(k-1)/2
   ·rw[if_pos e2];refine L.trans _ _ _ ?_ (L.asymm _ _ hn);have:=h.ok i hi h0 e;simp only[e2]at this;exact this
   ·rw[if_neg e2];by_cases e3:(i-1)/2=k
    ·rw[if_pos e3];exact h.kids i hi h0 e3 hk
    ·rw[if_neg e3];exact h.ok i hi h0 e
 ·rw[sW]at hi;rw[sG l k _ hh hp i hi,sG l k _ hh hp _ (by omega)];rw[if_neg (by omega:¬i=(k-1)/2),if_neg (by omega:¬((k-1)/2-1)/2=(k-1)/2),if_neg (by omega:¬((k-1)/2-1)/2=k)];have hup:=h.ok ((k-1)/2) hp hp0 (by omega);by_cases e:i=k
  ·subst e;rw[if_pos rfl];exact hup
  ·rw[if_neg e];refine L.trans _ _ _ ?_ hup;have:=h.ok i hi h0 e;simp only[he]at this;exact this
structure DI (lt:α->α->Bool)(l:List α)(at':Nat):Prop where
 ok:∀i (h:i<l.length),0<i->(i-1)/2≠at'->lt l[i] (l[(i-1)/2]'(by omega))=false
 kids:∀i (h:i<l.length),0<i->(i-1)/2=at'->0<at'->lt l[i] (l[((i-1)/2-1)/2]'(by omega))=false
structure Le (lt:α->α->Bool)(l:List α)(k m n:Nat):Prop where
 hk:k<l.length
 hm:m<l.length
 who:m=k\/(m=2*k+1\/m=2*k+2)
 ahead:m≠k->lt l[m] l[k]=true
 le:∀j (h:j<l.length),2*k+1<=j->j<n->j<=2*k+2->lt l[j] l[m]=false
theorem Le.start {l:List α}(h:k<l.length):Le lt l k k (2*k+1):=⟨h,h,.inl rfl,λh=>absurd rfl h,λj _ h1 h2 _=>by omega⟩
theorem Le.keep {l:List α}(h:Le lt l k m n)(hn:n<l.length)(hf:lt l[n] (l[m]'h.hm)=false):Le lt l k m (n+1):=by
 refine⟨h.hk,h.hm,h.who,h.ahead,λj hj h1 h2 h3=>?_⟩;by_cases e:j=n
 ·subst e;exact hf
 ·exact h.le j hj h1 (by omega) h3
theorem Le.take (L:Law lt){l:List α}(h:Le lt l k m n)(hn:n<l.length)(h1:2*k+1<=n)(h2:n<=2*k+2)(ht:lt l[n] (l[m]'h.hm)=true):Le lt l k n (n+1):=by
 refine⟨h.hk,hn,.inr (by omega),λ_=>?_,λj hj h3 h4 h5=>?_⟩
 ·by_cases e:m=k
  ·subst e;exact ht
  ·have ha:=h.ahead e;cases e2:lt l[n] (l[k]'h.hk)with
   | true=>rfl
   | false=>
    have:=L.trans _ _ _ e2 (L.asymm _ _ ha);rw[ht]at this;cases this
 ·by_cases e:j=n
  ·subst e;exact L.irrefl _
  ·exact L.trans _ _ _ (h.le j hj h3 (by omega) h5) (L.asymm _ _ ht)
theorem DI.done {l:List α}(h:DI lt l k)(hl:Le lt l k k n)(hn:n=2*k+3\/l.length<=n):He lt l:=by
 intro i hi h0;by_cases e:(i-1)/2=k
 ·have:=hl.le i hi (by omega) (by omega) (by omega);simp only[e];exact this
 ·exact h.ok i hi h0 e
theorem DI.step (L:Law lt){l:List α}(h:DI lt l k)(hl:Le lt l k m n)(hmk:m≠k)(hn:n=2*k+3\/l.length<=n) :
  DI lt (sK l k m hl.hk hl.hm) m:=by
 have hk:=hl.hk;have hm:=hl.hm;have hw:(m-1)/2=k:=by have:=hl.who;omega
 have hm0:k<m:=by have:=hl.who;omega
 refine⟨λi hi h0 hne=>?_,λi hi h0 he _=>?_⟩
 ·rw[sW]at hi;rw[sG l k m hk hm i hi,sG l k m hk hm _ (by omega)];rw[if_neg hne];by_cases e:i=m
  ·subst e;rw[if_pos rfl,if_pos hw];exact L.asymm _ _ (hl.ahead hmk)
  ·rw[if_neg e];by_cases e2:i=k
   ·subst e2;rw[if_pos rfl,if_neg (by omega)];have:=h.kids m hm (by omega) hw h0;simp only[hw]at this;exact this
   ·rw[if_neg e2];by_cases e3:(i-1)/2=k
    ·rw[if_pos e3];exact hl.le i hi (by omega) (by omega) (by omega)
    ·rw[if_neg e3];exact h.ok i hi h0 e3
 ·rw[sW]at hi;rw[sG l k m hk hm i hi,sG l k m hk hm _ (by omega)];rw[if_neg (by omega:¬i=m),if_neg (by omega:¬i=k),if_neg (by omega:¬((i-1)/2-1)/2=m),if_pos (by omega:((i-1)/2-1)/2=k)];have:=h.ok i hi h0 (by omega);simp only[he]at this;exact this
theorem DI.first {l:List α}(h:He lt l)(x:α):DI lt (l.set 0 x) 0:=by
 refine⟨λi hi h0 hne=>?_,λi hi h0 he h1=>by omega⟩;simp at hi;rw[ao_ (by omega),ao_ (by omega)];exact h i hi h0
theorem He.least (L:Law lt){l:List α}(h:He lt l)(i:Nat)(hi:i<l.length):lt l[i] (l[0]'(by omega))=false:=by
 induction i using Nat.strongRecOn with
 | _ i ih=>
  by_cases e:i=0
  ·subst e;exact L.irrefl _
  ·exact L.trans _ _ _ (h i hi (by omega)) (ih ((i-1)/2) (by omega) (by omega))
theorem He.nil:He lt ([]:List α):=λi h=>by simp at h
theorem pop_perm {l:List α}{x:α}(hl:0<l.length)(hx:l[l.length-1]?=some x):(l[0]::(l.set 0 x).take (l.length-1)).Perm l:=by
 obtain⟨a,t,rfl⟩:∃a t,l=a::t:=by cases l with|nil=>simp at hl|cons a t=>exact⟨a,t,rfl⟩
 simp only[List.getElem_cons_zero,List.set_cons_zero,List.length_cons,Nat.add_sub_cancel]at *;rcases Nat.eq_zero_or_pos t.length with h0|h0
 ·have:t=[]:=D_.1 h0;subst this;simp
 ·obtain⟨n,hn⟩:∃n,t.length=n+1:=⟨t.length-1,by omega⟩;rw[hn,List.take_succ_cons];rw[hn,List.getElem?_cons_succ]at hx;have:t=t.take n++[x]:=by
   have h1:=X_ n t;have h2:t.drop n=[x]:=by
    rw[J_ (by omega),O_ (by omega)];obtain⟨_,h⟩:=l_.1 hx;rw[h]
   rw[h2]at h1;exact h1.symm
  refine List.Perm.cons a ?_;have h3:(x::t.take n).Perm (t.take n++[x]):=(ah_ (l₁:=[x]) (l₂:=t.take n));rwa[<-this]at h3
end Go.Proofs.YtjoinhljdbljaaaGreat
