/- How rows are held against each other by keys, and what follows. -/
import GoSem.Op.String
import Derived.Test.YtjoinhljdbljaaaGreatAbAToHpA
namespace Go.Proofs.YtjoinhljdbljaaaGreat
variable {a b run x:Int} {c:Nat} {α β:Type}
theorem bl_cons (a b:UInt8)(l m:List UInt8):Op.bytesLess (a::l) (b::m)=(decide (a<b) || (a == b && Op.bytesLess l m)):=by rw[Op.bytesLess]
theorem u8_lt (a b:UInt8):a<b↔a.toNat<b.toNat:=UInt8.lt_iff_toNat_lt
theorem u8_eq (a b:UInt8):a=b↔a.toNat=b.toNat:=UInt8.toNat_inj.symm
theorem bl_asymm:∀l m:List UInt8,Op.bytesLess l m=true->Op.bytesLess m l=false
 | [],[],h=>by simp[Op.bytesLess]at h
 | [],b::m,_=>by simp[Op.bytesLess]
 | a::l,[],h=>by simp[Op.bytesLess]at h
 | a::l,b::m,h=>by
  rw[bl_cons]at h ⊢;simp only[Bool.or_eq_true,decide_eq_true_eq,Bool.and_eq_true,beq_iff_eq,Bool.or_eq_false_iff,decide_eq_false_iff_not,Bool.and_eq_false_iff]at h ⊢;rcases h with h|⟨rfl,h⟩
  ·rw[u8_lt]at h;refine⟨by rw[u8_lt];omega,.inl ?_⟩;simp only[beq_eq_false_iff_ne,ne_eq,u8_eq];omega
  ·exact⟨by rw[u8_lt];omega,.inr (bl_asymm l m h)⟩
theorem bl_trans:∀l m n:List UInt8,Op.bytesLess l m=false->Op.bytesLess m n=false->Op.bytesLess l n=false
 | l,m,[],_,_=>by cases l<;>simp[Op.bytesLess]
 | [],[],n::ns,h1,h2=>by simp[Op.bytesLess]at h2
 | [],m::ms,n,h1,_=>by simp[Op.bytesLess]at h1
 | a::l,[],n::ns,h1,h2=>by simp[Op.bytesLess]at h2
 | a::l,b::m,c::n,h1,h2=>by
  rw[bl_cons]at h1 h2 ⊢;simp only[Bool.or_eq_false_iff,decide_eq_false_iff_not,Bool.and_eq_false_iff,beq_eq_false_iff_ne,ne_eq,u8_lt,u8_eq]at h1 h2 ⊢;refine⟨by omega,?_⟩;by_cases e:a.toNat=c.toNat
  ·rcases h1.2 with h|h
   ·omega
   ·rcases h2.2 with h'|h'
    ·omega
    ·exact .inr (bl_trans l m n h h')
  ·exact .inl e
structure Cmp {α:Type}(c:α->α->Int):Prop where
 anti:∀a b,c b a= - c a b
 trans:∀a b d,c a b<=0->c b d<=0->c a d<=0
theorem Cmp.self {c:α->α->Int}(h:Cmp c)(a:α):c a a=0:=by have:=h.anti a a;omega
theorem Cmp.lt_le {c:α->α->Int}(h:Cmp c){a b d:α}(h1:c a b<0)(h2:c b d<=0):c a d<0:=by
 have h3:=h.trans a b d (by omega) h2;by_cases e:c a d=0
 ·have:=h.trans b d a h2 (by have:=h.anti a d;omega);have:=h.anti a b;omega
 ·omega
theorem Cmp.le_lt {c:α->α->Int}(h:Cmp c){a b d:α}(h1:c a b<=0)(h2:c b d<0):c a d<0:=by
 have h3:=h.trans a b d h1 (by omega);by_cases e:c a d=0
 ·have:=h.trans d a b (by have:=h.anti a d;omega) h1;have:=h.anti b d;omega
 ·omega
theorem Cmp.eq {c:α->α->Int}(h:Cmp c){a b d:α}(h1:c a b=0)(h2:c b d=0):c a d=0:=by
 have h3:=h.trans a b d (by omega) (by omega);have h4:=h.trans d b a (by have:=h.anti b d;omega) (by have:=h.anti a b;omega);have:=h.anti a d;omega
theorem Cmp.law {c:α->α->Int}(h:Cmp c):Law λa b=>decide (c a b<0):=by
 refine⟨λa b e=>?_,λa b d e1 e2=>?_⟩
 ·simp only[decide_eq_true_eq,decide_eq_false_iff_not]at *;have:=h.anti a b;omega
 ·simp only[decide_eq_false_iff_not]at *;have h1:=h.anti a b;have h2:=h.anti b d;have h3:=h.anti a d;have:=h.trans d b a (by omega) (by omega);omega
def tH {α:Type}(c d:α->α->Int)(a b:α):Int:=if c a b≠0 then c a b else d a b
theorem Cmp.tH {α:Type}{c d:α->α->Int}(h:Cmp c)(k:Cmp d):Cmp (tH c d):=by
 refine⟨λa b=>?_,λa b e h1 h2=>?_⟩
 ·unfold Go.Proofs.YtjoinhljdbljaaaGreat.tH;have:=h.anti a b;have:=k.anti a b
  split<;>split<;>omega
 ·unfold Go.Proofs.YtjoinhljdbljaaaGreat.tH at *;by_cases e1:c a b=0
  ·by_cases e2:c b e=0
   ·rw[if_neg (by simp[e1])]at h1;rw[if_neg (by simp[e2])]at h2;rw[if_neg (by simp[h.eq e1 e2])];exact k.trans a b e h1 h2
   ·rw[if_pos e2]at h2;have:=h.le_lt (a:=a) (b:=b) (d:=e) (by omega) (by omega);rw[if_pos (by omega)];omega
  ·rw[if_pos e1]at h1;have h3:c b e<=0:=by
    by_cases e2:c b e=0
    ·omega
    ·rw[if_pos e2]at h2;omega
   have:=h.lt_le (a:=a) (b:=b) (d:=e) (by omega) h3;rw[if_pos (by omega)];omega
theorem Cmp.on {c:β->β->Int}(h:Cmp c)(f:α->β):Cmp λa b=>c (f a) (f b):=⟨λ_ _=>h.anti _ _,λ_ _ _=>h.trans _ _ _⟩
theorem Cmp.neg {c:α->α->Int}(h:Cmp c):Cmp λa b=> - c a b:=by
 refine⟨λa b=>by have:=h.anti a b;omega,λa b d h1 h2=>?_⟩;have:=h.trans d b a (by have:=h.anti b d;omega) (by have:=h.anti a b;omega);have:=h.anti a d;omega
def cag (a b:Int):Int:=if a<b then -1 else if b<a then 1 else 0
theorem car:Cmp cag:=by
 refine⟨λa b=>?_,λa b d=>?_⟩
 ·unfold cag;split<;>split<;>(try split)<;>omega
 ·unfold cag;split<;>split<;>(try split)<;>(try split)<;>(try split)<;>omega
def cmpS (a b:ByteArray):Int:=if Op.bytesLess a.toList b.toList then -1 else if Op.bytesLess b.toList a.toList then 1 else 0
theorem cmpS_le (a b:ByteArray):cmpS a b<=0↔Op.bytesLess b.toList a.toList=false:=by
 unfold cmpS;cases h1:Op.bytesLess a.toList b.toList
 ·cases h2:Op.bytesLess b.toList a.toList<;>simp
 ·have:=bl_asymm _ _ h1;simp[this]
theorem cmpS_cmp:Cmp cmpS:=by
 refine⟨λa b=>?_,λa b d=>?_⟩
 ·unfold cmpS;cases h1:Op.bytesLess a.toList b.toList
  ·cases h2:Op.bytesLess b.toList a.toList<;>simp
  ·have:=bl_asymm _ _ h1;simp[this]
 ·rw[cmpS_le,cmpS_le,cmpS_le];intro h1 h2;exact bl_trans _ _ _ h2 h1
structure V where
 k:Int
 n:Int
 s:ByteArray
structure K where
 c:Int
 d:Bool
 l:Bool
def V0:V:=⟨0,0,⟨#[]⟩⟩
def I64 (n:Int):Prop:= -9223372036854775808<=n/\n<=9223372036854775807
def Fair (v:V):Prop:=(v.k=0/\v.n=0/\v.s=⟨#[]⟩)\/(v.k=1/\I64 v.n/\v.s=⟨#[]⟩)\/(v.k=2/\v.n=0/\v.s.size<=200)\/(v.k=3/\(v.n=0\/v.n=1)/\v.s=⟨#[]⟩)
def ng (b:Bool)(x:Int):Int:=if b then -x else x
theorem Cmp.ng {α:Type}{c:α->α->Int}(h:Cmp c)(b:Bool):Cmp λx y=>ng b (c x y):=by
 cases b
 ·exact h
 ·exact h.neg
def solid (v:V):Int:=if v.k=0 then 0 else 1
def cmpNull (y:K)(a b:V):Int:=ng y.l (cag (solid a) (solid b))
def cmpBody (a b:V):Int:=tH (λa b:V=>cag a.n b.n) (λa b=>cmpS a.s b.s) a b
def cmpV (y:K):V->V->Int:=tH (cmpNull y) (λa b=>ng y.d (cmpBody a b))
theorem cmpBody_cmp:Cmp cmpBody:=(car.on V.n).tH (cmpS_cmp.on V.s)
theorem cmpV_cmp (y:K):Cmp (cmpV y):=((car.on solid).ng y.l).tH (cmpBody_cmp.ng y.d)
def cmpR:List K->List V->List V->Int
 | []=>λ_ _=>0
 | y::ks=>tH (λa b=>cmpV y (a.getD y.c.toNat V0) (b.getD y.c.toNat V0)) (cmpR ks)
theorem cmpR_cmp:∀ks,Cmp (cmpR ks)
 | []=>⟨λ_ _=>rfl,λ_ _ _ _ _=>by simp[cmpR]⟩
 | y::ks=>((cmpV_cmp y).on λa:List V=>a.getD y.c.toNat V0).tH (cmpR_cmp ks)
structure Rec where
 no:Int
 row:List V
def cmpRec (ks:List K):Rec->Rec->Int:=tH (λa b=>cmpR ks a.row b.row) (λa b=>cag a.no b.no)
theorem cax (ks:List K):Cmp (cmpRec ks):=((cmpR_cmp ks).on Rec.row).tH (car.on Rec.no)
def aB (ks:List K)(a b:Rec):Bool:=decide (cmpRec ks a b<0)
theorem ah (ks:List K):Law (aB ks):=(cax ks).law
structure Ent where
 rc:Rec
 run:Int
 size:Int
def cmpEnt (ks:List K):Ent->Ent->Int:=tH (λa b=>cag a.run b.run) (λa b=>cmpRec ks a.rc b.rc)
theorem cmpEnt_cmp (ks:List K):Cmp (cmpEnt ks):=(car.on Ent.run).tH ((cax ks).on Ent.rc)
def lN (ks:List K)(a b:Ent):Bool:=decide (cmpEnt ks a b<0)
theorem ltEnt_law (ks:List K):Law (lN ks):=(cmpEnt_cmp ks).law
theorem cmpI_neg :cag a b<0↔a<b:=by unfold cag;split<;>(try split)<;>omega
theorem cmpI_zero :cag a b=0↔a=b:=by unfold cag;split<;>(try split)<;>omega
theorem aH (ks:List K)(a b:Rec):aB ks a b=if cmpR ks a.row b.row≠0 then decide (cmpR ks a.row b.row<0)else decide (a.no<b.no):=by
 unfold aB cmpRec tH;by_cases h:cmpR ks a.row b.row≠0
 ·rw[if_pos h,if_pos h]
 ·rw[if_neg h,if_neg h];exact decide_eq_decide.2 cmpI_neg
theorem lD (ks:List K)(a b:Ent):lN ks a b=if a.run≠b.run then decide (a.run<b.run)else aB ks a.rc b.rc:=by
 unfold lN cmpEnt tH;by_cases h:a.run=b.run
 ·rw[if_neg (λe=>e (cmpI_zero.2 h)),if_neg (λe=>e h)];rfl
 ·rw[if_pos (λe=>h (cmpI_zero.1 e)),if_pos h];exact decide_eq_decide.2 cmpI_neg
def caq (y:K)(a b:V):Int:=
 if a.k=0\/b.k=0 then ng y.l (cag a.k b.k)else ng y.d (if cag a.n b.n=0 then cmpS a.s b.s else cag a.n b.n)
theorem negIf_zero (b:Bool):ng b 0=0:=by unfold ng;split<;>rfl
theorem negIf_ne {b:Bool}(h:x≠0):ng b x≠0:=by unfold ng;split<;>omega
theorem Fair.kind {v:V}(h:Fair v):0<=v.k/\v.k<=3:=by unfold Fair at h;omega
theorem Fair.null {v:V}(h:Fair v)(hk:v.k=0):v=V0:=by
 rcases h with⟨h1,h2,h3⟩|⟨h1,_⟩|⟨h1,_⟩|⟨h1,_⟩
 ·cases v;simp_all [V0]
 all_goals omega
theorem cmpBody_self (a:V):cmpBody a a=0:=cmpBody_cmp.self a
theorem codeV_eq (y:K){a b:V}(ha:Fair a)(hb:Fair b):caq y a b=cmpV y a b:=by
 have k1:=ha.kind;have k2:=hb.kind;unfold caq cmpV tH cmpNull;by_cases h1:a.k=0
 ·by_cases h2:b.k=0
  ·rw[ha.null h1,hb.null h2];simp[V0,solid,cag,negIf_zero,cmpBody_self]
  ·rw[if_pos (.inl h1)];have e1:cag a.k b.k= -1:=by unfold cag;rw[if_pos (by omega)]
   have e2:cag (solid a) (solid b)= -1:=by unfold solid;rw[if_pos h1,if_neg h2];rfl
   rw[e1,e2,if_pos (negIf_ne (by decide))]
 ·by_cases h2:b.k=0
  ·rw[if_pos (.inr h2)];have e1:cag a.k b.k=1:=by unfold cag;rw[if_neg (by omega),if_pos (by omega)]
   have e2:cag (solid a) (solid b)=1:=by unfold solid;rw[if_neg h1,if_pos h2];rfl
   rw[e1,e2,if_pos (negIf_ne (by decide))]
  ·rw[if_neg (by omega)];have e2:cag (solid a) (solid b)=0:=by unfold solid;rw[if_neg h1,if_neg h2];rfl
   rw[e2,negIf_zero,if_neg (c:=(0:Int)≠0) (λe=>e rfl)];unfold cmpBody tH;show ng _ _=ng _ _
   congr 1
   by_cases h:cag a.n b.n=0
   ·rw[if_pos h,if_neg (λe=>e h)]
   ·rw[if_neg h,if_pos h]
def Srt (ks:List K)(l:List Rec):Prop:=l.Pairwise λa b=>aB ks b a=false
theorem Srt.snoc {ks:List K}{l:List Rec}{x:Rec}(h:Srt ks l)(hx:∀y∈l,aB ks x y=false):Srt ks (l++[x]):=by
 refine av_.2 ⟨h,List.pairwise_singleton _ _,λa ha b hb=>?_⟩;rw[ms_ hb];exact hx a ha
theorem Srt.nil (ks:List K):Srt ks []:=List.Pairwise.nil
theorem ltEnt_run {ks:List K}{a b:Ent}(h:lN ks a b=false):b.run<=a.run:=by
 rw[lD]at h
 split at h
 ·simp at h;omega
 ·omega
theorem lg {ks:List K}{a b:Ent}(h:lN ks a b=false)(he:a.run=b.run):aB ks a.rc b.rc=false:=by
 rw[lD,if_neg (by simp[he])]at h;exact h
def Cut (ks:List K)(c:Nat)(rows kept:List Rec):Prop:=∃dr,(kept++dr).Perm rows/\∀x∈dr,c<=kept.countP λy=>!aB ks x y
theorem Cut.of {ks:List K}(c:Nat){rows kept:List Rec}(h:kept.Perm rows):Cut ks c rows kept:=⟨[],by simpa using h,by simp⟩
theorem Cut.perm {ks:List K}{rows kept kept':List Rec}(h:Cut ks c rows kept)(p:kept'.Perm kept):Cut ks c rows kept':=by
 obtain⟨dr,h1,h2⟩:=h;exact⟨dr,(p.append_right _).trans h1,λx hx=>by rw[p.countP_eq];exact h2 x hx⟩
theorem Cut.snoc {ks:List K}{rows kept:List Rec}(h:Cut ks c rows kept)(x:Rec):Cut ks c (rows++[x]) (kept++[x]):=by
 obtain⟨dr,h1,h2⟩:=h;refine⟨dr,?_,λy hy=>?_⟩
 ·rw[F_];refine(List.Perm.append_left _ ah_).trans ?_;rw[<-F_];exact h1.append_right _
 ·have:=h2 y hy;rw[as_];omega
theorem countP_le {p q:Rec->Bool}(h:∀x,p x=true->q x=true)(l:List Rec):l.countP p<=l.countP q:=List.countP_mono_left λx _ hx=>h x hx
theorem Cut.step {ks:List K}{rows kept kept' dr':List Rec}(h:Cut ks c rows kept)(p:(kept'++dr').Perm kept)(hd:∀x∈dr',c<=kept'.countP λy=>!aB ks x y):Cut ks c rows kept':=by
 obtain⟨dr,h1,h2⟩:=h;refine⟨dr'++dr,by rw[<-F_];exact(p.append_right _).trans h1,λx hx=>?_⟩;rcases d_.1 hx with hx|hx
 ·exact hd x hx
 ·have h3:=h2 x hx;rw[<-p.countP_eq,as_]at h3;by_cases h0:dr'.countP (λy=>!aB ks x y)=0
  ·omega
  ·obtain⟨y,hy,hxy⟩:=List.countP_pos_iff.1 (Nat.pos_of_ne_zero h0);refine k_ (hd y hy) (countP_le (λz hz=>?_) _);simp only[Bool.not_eq_true']at hz hxy ⊢;exact(ah ks).trans _ _ _ hxy hz
theorem Cut.len {ks:List K}{rows kept:List Rec}(h:Cut ks c rows kept):kept.length<=rows.length:=by
 obtain⟨dr,h1,_⟩:=h;have:=h1.length_eq;rw[c_]at this;omega
theorem Cut.mem {ks:List K}{rows kept:List Rec}(h:Cut ks c rows kept){x:Rec}(hx:x∈kept):x∈rows:=by
 obtain⟨dr,h1,_⟩:=h;exact h1.mem_iff.1 (by simp[hx])
theorem countP_all {p:Rec->Bool}{l:List Rec}(h:∀x∈l,p x=true):l.countP p=l.length:=List.countP_eq_length.2 h
structure SI (ks:List K)(c:Nat)(rows:List Rec)(items:List Ent)(run:Int)(rs:List (List Rec))(last:Rec):Prop where
 heap:He (lN ks) items
 perm:Cut ks c rows (items.map Ent.rc++rs.flatten)
 runs:∀r∈rs,Srt ks r
 who:∀e∈items,e.run=run\/(rs≠[]/\e.run=run+1)
 cur:rs≠[]->∃pre r,rs=pre++[r]/\∀y∈r,aB ks last y=false
 behind:rs≠[]->∀e∈items,e.run=run->aB ks e.rc last=false
 all:rs=[]->(items.map Ent.rc).Perm rows
theorem SI.start (ks:List K)(c:Nat)(last:Rec):SI ks c [] [] 0 [] last:=
 ⟨He.nil,Cut.of c (by simp),by simp,by simp,by simp,by simp,by simp⟩
theorem SI.add {ks:List K}{rows:List Rec}{items items':List Ent}{rs:List (List Rec)}{last:Rec}(h:SI ks c rows items run rs last)(e:Ent)
  (he:e.run=if rs≠[]/\aB ks e.rc last=true then run+1 else run) (hh:He (lN ks) items') (hp:items'.Perm (items++[e])):SI ks c (rows++[e.rc]) items' run rs last:=by
 refine⟨hh,?_,h.runs,λx hx=>?_,h.cur,λhr x hx hxr=>?_,λhr=>?_⟩
 ·have h1:(items'.map Ent.rc).Perm (items.map Ent.rc++[e.rc]):=by simpa using hp.map Ent.rc
  refine(h.perm.snoc e.rc).perm ((h1.append_right _).trans ?_);rw[F_,F_];exact List.Perm.append_left _ ah_
 ·rcases d_.1 (hp.mem_iff.1 hx)with hx|hx
  ·exact h.who x hx
  ·rw[ms_ hx,he]
   split
   ·next hc=>exact .inr ⟨hc.1,rfl⟩
   ·exact .inl rfl
 ·rcases d_.1 (hp.mem_iff.1 hx)with hx|hx
  ·exact h.behind hr x hx hxr
  ·rw[ms_ hx]at hxr ⊢;rw[he]at hxr;cases hc:aB ks e.rc last with
   | false=>rfl
   | true=>rw[if_pos ⟨hr,hc⟩]at hxr;omega
 ·have h1:(items'.map Ent.rc).Perm (items.map Ent.rc++[e.rc]):=by simpa using hp.map Ent.rc
  exact h1.trans ((h.all hr).append_right _)
theorem lS {ks:List K}{items:List Ent}{e:Ent}{rest:List Ent}(hh:He (lN ks) items)(h0:items[0]?=some e)(hp:(e::rest).Perm items):∀x∈rest,lN ks x e=false:=by
 intro x hx;obtain⟨i,hi,rfl⟩:=A_ (hp.mem_iff.1 (o_ _ hx));obtain⟨h1,rfl⟩:=l_.1 h0;exact hh.least (ltEnt_law ks) i hi
theorem SI.fresh {ks:List K}{rows:List Rec}{items rest:List Ent}{e:Ent}{rs:List (List Rec)}{last:Rec}(h:SI ks c rows items run rs last)(h0:items[0]?=some e)
  (hp:(e::rest).Perm items) (hh:He (lN ks) rest) (hn:rs=[]\/run<e.run):SI ks c rows rest e.run (rs++[[e.rc]]) e.rc:=by
 have hl:=lS h.heap h0 hp;have he:=h.who e (hp.mem_iff.1 (by simp));have hall:∀x∈rest,x.run=e.run:=by
  intro x hx;have h1:=ltEnt_run (hl x hx);have h2:=h.who x (hp.mem_iff.1 (o_ _ hx));rcases hn with hn|hn
  ·rcases he with he|he
   ·rcases h2 with h2|h2
    ·omega
    ·exact absurd hn h2.1
   ·exact absurd hn he.1
  ·omega
 refine⟨hh,?_,λr hr=>?_,λx hx=>.inl (hall x hx),λ_=>⟨rs,[e.rc],rfl,λy hy=>by rw[ms_ hy];exact(ah ks).irrefl _⟩,λ_ x hx hxr=>lg (hl x hx) hxr,by simp⟩
 ·have h1:(e.rc::rest.map Ent.rc).Perm (items.map Ent.rc):=by simpa using hp.map Ent.rc
  refine h.perm.perm (List.Perm.trans ?_ (h1.append_right _));simp only[ab_,List.flatten_cons,List.flatten_nil,H_];rw[<-F_];exact(ah_ (l₂:=[e.rc]))
 ·rcases d_.1 hr with hr|hr
  ·exact h.runs r hr
  ·rw[ms_ hr];exact List.pairwise_singleton _ _
theorem SI.same {ks:List K}{rows:List Rec}{items rest:List Ent}{e:Ent}{pre:List (List Rec)}{r:List Rec}{last:Rec}(h:SI ks c rows items run (pre++[r]) last)(h0:items[0]?=some e)
  (hp:(e::rest).Perm items) (hh:He (lN ks) rest) (hn:¬run<e.run):SI ks c rows rest run (pre++[r++[e.rc]]) e.rc:=by
 have hl:=lS h.heap h0 hp;have hne:pre++[r]≠[]:=by simp
 have he:=h.who e (hp.mem_iff.1 (by simp));have her:e.run=run:=by omega
 obtain⟨pre',r',hc,hc2⟩:=h.cur hne;obtain⟨rfl,hr⟩:=List.append_inj' hc rfl;simp only[al_,and_true]at hr;subst hr;have hy:∀y∈r,aB ks e.rc y=false:=λy hy=>(ah ks).trans _ _ _ (h.behind hne e (hp.mem_iff.1 (by simp)) her) (hc2 y hy);have hs:Srt ks (r++[e.rc]):=(h.runs r (by simp)).snoc hy;refine⟨hh,?_,λq hq=>?_,λx hx=>?_,λ_=>⟨pre,r++[e.rc],rfl,λy h1=>by rcases d_.1 h1 with h1|h1;exact hy y h1;rw[ms_ h1];exact(ah ks).irrefl _⟩,λ_ x hx hxr=>lg (hl x hx) (by omega),by simp⟩
 ·have h1:(e.rc::rest.map Ent.rc).Perm (items.map Ent.rc):=by simpa using hp.map Ent.rc
  refine h.perm.perm (List.Perm.trans ?_ (h1.append_right _));simp only[ab_,List.flatten_cons,List.flatten_nil,H_,List.cons_append,<-F_];exact(ah_ (l₂:=[e.rc]))
 ·rcases d_.1 hq with hq|hq
  ·exact h.runs q (by simp[hq])
  ·rw[ms_ hq];exact hs
 ·rcases h.who x (hp.mem_iff.1 (o_ _ hx))with h2|h2
  ·exact .inl h2
  ·exact .inr ⟨by simp,h2.2⟩
theorem SI.skip {ks:List K}{rows:List Rec}{items rest:List Ent}{e:Ent}{pre:List (List Rec)}{r:List Rec}{last:Rec}(h:SI ks c rows items run (pre++[r]) last)(h0:items[0]?=some e)
  (hp:(e::rest).Perm items) (hh:He (lN ks) rest) (hn:¬run<e.run) (hl:c<=r.length):SI ks c rows rest run (pre++[r]) e.rc:=by
 have hls:=lS h.heap h0 hp;have hne:pre++[r]≠[]:=by simp
 have he:=h.who e (hp.mem_iff.1 (by simp));have her:e.run=run:=by omega
 obtain⟨pre',r',hc,hc2⟩:=h.cur hne;obtain⟨rfl,hr⟩:=List.append_inj' hc rfl;simp only[al_,and_true]at hr;subst hr;have hy:∀y∈r,aB ks e.rc y=false:=λy hy=>(ah ks).trans _ _ _ (h.behind hne e (hp.mem_iff.1 (by simp)) her) (hc2 y hy);refine⟨hh,?_,h.runs,λx hx=>?_,λ_=>⟨pre,r,rfl,hy⟩,λ_ x hx hxr=>lg (hls x hx) (by omega),by simp⟩
 ·have h1:(e.rc::rest.map Ent.rc).Perm (items.map Ent.rc):=by simpa using hp.map Ent.rc
  refine h.perm.step (dr':=[e.rc]) (ah_.trans (h1.append_right _)) λx hx=>?_;rw[ms_ hx,as_,ab_,as_];have:([r].flatten).countP (λy=>!aB ks e.rc y)=r.length:=by
   rw[show[r].flatten=r by simp];exact countP_all λy hy'=>by rw[hy y hy'];rfl
  omega
 ·exact(h.who x (hp.mem_iff.1 (o_ _ hx))).imp id id
theorem SI.fresh0 {ks:List K}{rows:List Rec}{items rest:List Ent}{e:Ent}{rs:List (List Rec)}{last:Rec}(h:SI ks c rows items run rs last)(h0:items[0]?=some e)
  (hp:(e::rest).Perm items) (hh:He (lN ks) rest) (hn:rs=[]\/run<e.run) (hc:c=0):SI ks c rows rest e.run (rs++[[]]) e.rc:=by
 have h1:=h.fresh h0 hp hh hn;refine⟨hh,?_,λr hr=>?_,λx hx=>(h1.who x hx).imp id λh=>⟨by simp,h.2⟩,λ_=>⟨rs,[],rfl,by simp⟩,λ_ x hx hxr=>h1.behind (by simp) x hx hxr,by simp⟩
 ·refine h1.perm.step (dr':=[e.rc]) (by simp) λx _=>by omega
 ·rcases d_.1 hr with hr|hr
  ·exact h.runs r hr
  ·rw[ms_ hr];exact Srt.nil ks
structure Giving (ks:List K)(rows:List Rec)(items:List Ent)(out:List Rec):Prop where
 heap:He (lN ks) items
 perm:(out++items.map Ent.rc).Perm rows
 sorted:Srt ks out
 run:∃n,∀e∈items,e.run=n
 behind:∀x∈out,∀e∈items,aB ks e.rc x=false
theorem SI.giving {ks:List K}{rows:List Rec}{items:List Ent}{last:Rec}(h:SI ks c rows items run [] last):Giving ks rows items []:=
 ⟨h.heap,by simpa using h.all rfl,Srt.nil _,⟨run,λe he=>by rcases h.who e he with h|h;exact h;exact absurd rfl h.1⟩,by simp⟩
theorem Giving.step {ks:List K}{rows:List Rec}{items rest:List Ent}{e:Ent}{out:List Rec}(h:Giving ks rows items out)(h0:items[0]?=some e)
  (hp:(e::rest).Perm items) (hh:He (lN ks) rest):Giving ks rows rest (out++[e.rc]):=by
 have hl:=lS h.heap h0 hp;have hem:e∈items:=hp.mem_iff.1 (by simp);obtain⟨n,hn⟩:=h.run;have hm:∀x∈rest,x∈items:=λx hx=>hp.mem_iff.1 (o_ _ hx);refine⟨hh,?_,h.sorted.snoc λy hy=>h.behind y hy e hem,⟨n,λx hx=>hn x (hm x hx)⟩,λx hx y hy=>?_⟩
 ·have h1:(e.rc::rest.map Ent.rc).Perm (items.map Ent.rc):=by simpa using hp.map Ent.rc
  rw[F_];exact(h1.append_left out).trans h.perm
 ·rcases d_.1 hx with hx|hx
  ·exact h.behind x hx y (hm y hy)
  ·rw[ms_ hx];exact lg (hl y hy) (by rw[hn e hem,hn y (hm y hy)])
theorem Giving.end {ks:List K}{rows:List Rec}{out:List Rec}(h:Giving ks rows [] out):out.Perm rows/\Srt ks out:=⟨by simpa using h.perm,h.sorted⟩
structure Cur where
 ptr:Nat
 first:Rec
 rest:List Rec
def ltCur (ks:List K)(a b:Cur):Bool:=aB ks a.first b.first
theorem ltCur_law (ks:List K):Law (ltCur ks):=((cax ks).on Cur.first).law
def Cur.left (c:Cur):List Rec:=c.first::c.rest
structure Me (ks:List K)(all:List Rec)(cad:List Cur)(out:List Rec):Prop where
 heap:He (ltCur ks) cad
 perm:(out++(cad.map Cur.left).flatten).Perm all
 runs:∀c∈cad,Srt ks c.left
 sorted:Srt ks out
 behind:∀x∈out,∀c∈cad,aB ks c.first x=false
theorem Srt.head {ks:List K}{x:Rec}{l:List Rec}(h:Srt ks (x::l)):∀y∈l,aB ks y x=false:=λy hy=>(List.pairwise_cons.1 h).1 y hy
theorem least_cur {ks:List K}{cad:List Cur}{c:Cur}(hh:He (ltCur ks) cad)(h0:cad[0]?=some c):∀x∈cad,aB ks x.first c.first=false:=by
 intro x hx;obtain⟨i,hi,rfl⟩:=A_ hx;obtain⟨h1,rfl⟩:=l_.1 h0;exact hh.least (ltCur_law ks) i hi
theorem flat_perm {cad curs':List Cur}(h:cad.Perm curs'):(cad.map Cur.left).flatten.Perm (curs'.map Cur.left).flatten:=(h.map Cur.left).flatten
theorem Me.next {ks:List K}{all:List Rec}{cad curs':List Cur}{c c':Cur}{out:List Rec}(h:Me ks all cad out)(h0:cad[0]?=some c)
  (hc:c.rest=c'.first::c'.rest) (hp:curs'.Perm (cad.set 0 c')) (hh:He (ltCur ks) curs'):Me ks all curs' (out++[c.first]):=by
 obtain⟨t,rfl⟩:∃t,cad=c::t:=by
  cases cad with
  | nil=>simp at h0
  | cons a t=>simp at h0;exact⟨t,by rw[h0]⟩
 simp only[List.set_cons_zero]at hp;have hl:=least_cur h.heap h0;have hcs:=h.runs c (by simp);have hc1:aB ks c'.first c.first=false:=hcs.head _ (by rw[hc];simp);refine⟨hh,?_,λx hx=>?_,h.sorted.snoc λy hy=>h.behind y hy c (by simp),λx hx y hy=>?_⟩
 ·refine(List.Perm.append_left _ (flat_perm hp)).trans (List.Perm.trans ?_ h.perm);simp[Cur.left,hc]
 ·rcases a_.1 (hp.mem_iff.1 hx)with rfl|hx
  ·have:=(List.pairwise_cons.1 hcs).2;rw[hc]at this;exact this
  ·exact h.runs x (by simp[hx])
 ·rcases a_.1 (hp.mem_iff.1 hy)with rfl|hy
  ·rcases d_.1 hx with hx|hx
   ·exact(ah ks).trans _ _ _ hc1 (h.behind x hx c (by simp))
   ·rw[ms_ hx];exact hc1
  ·rcases d_.1 hx with hx|hx
   ·exact h.behind x hx y (by simp[hy])
   ·rw[ms_ hx];exact hl y (by simp[hy])
theorem Me.drop {ks:List K}{all:List Rec}{cad curs':List Cur}{c:Cur}{out:List Rec}(h:Me ks all cad out)(h0:cad[0]?=some c)
  (hc:c.rest=[]) (hp:(c::curs').Perm cad) (hh:He (ltCur ks) curs'):Me ks all curs' (out++[c.first]):=by
 have hl:=least_cur h.heap h0;have hcm:c∈cad:=hp.mem_iff.1 (by simp);have hm:∀x∈curs',x∈cad:=λx hx=>hp.mem_iff.1 (o_ _ hx);refine⟨hh,?_,λx hx=>h.runs x (hm x hx),h.sorted.snoc λy hy=>h.behind y hy c hcm,λx hx y hy=>?_⟩
 ·refine List.Perm.trans ?_ ((List.Perm.append_left _ (flat_perm hp)).trans h.perm);simp[Cur.left,hc]
 ·rcases d_.1 hx with hx|hx
  ·exact h.behind x hx y (hm y hy)
  ·rw[ms_ hx];exact hl y (hm y hy)
theorem Me.start {ks:List K}{cad:List Cur}(hh:He (ltCur ks) cad)(hr:∀c∈cad,Srt ks c.left):Me ks (cad.map Cur.left).flatten cad []:=
 ⟨hh,by simp,hr,Srt.nil _,by simp⟩
theorem Me.of_perm {ks:List K}{all all':List Rec}{cad:List Cur}{out:List Rec}(h:Me ks all cad out)(hp:all.Perm all'):Me ks all' cad out:=⟨h.heap,h.perm.trans hp,h.runs,h.sorted,h.behind⟩
theorem Me.end {ks:List K}{all:List Rec}{out:List Rec}(h:Me ks all [] out):out.Perm all/\Srt ks out:=⟨by simpa using h.perm,h.sorted⟩
theorem Me.count {ks:List K}{all:List Rec}{cad:List Cur}{out:List Rec}(h:Me ks all cad out)(hne:cad≠[]):out.length<all.length:=by
 have:=h.perm.length_eq;rw[c_]at this;cases cad with
 | nil=>exact absurd rfl hne
 | cons c t=>simp[Cur.left]at this;omega
theorem Me.cut {ks:List K}{all:List Rec}{cad:List Cur}{out:List Rec}(h:Me ks all cad out)(hc:c<=out.length\/cad=[]):Cut ks c all out:=by
 refine⟨(cad.map Cur.left).flatten,h.perm,λx hx=>?_⟩;rcases hc with hc|rfl
 ·rw[countP_all λy hy=>?_]
  ·exact hc
  ·obtain⟨l,hl,hx⟩:=bg_.1 hx;obtain⟨u,hu,rfl⟩:=z_.1 hl;have h1:=h.behind y hy u hu;rcases a_.1 hx with rfl|hx
   ·rw[h1];rfl
   ·rw[(ah ks).trans _ _ _ ((h.runs u hu).head x hx) h1];rfl
 ·simp at hx
structure Runs (ks:List K)(c:Nat)(rows:List Rec)(rs:List (List Rec)):Prop where
 perm:Cut ks c rows rs.flatten
 runs:∀r∈rs,Srt ks r
theorem SI.whole {ks:List K}{rows:List Rec}{rs:List (List Rec)}{last:Rec}(h:SI ks c rows [] run rs last):Runs ks c rows rs:=⟨by simpa using h.perm,h.runs⟩
theorem Runs.merge {ks:List K}{rows:List Rec}{rs:List (List Rec)}(h:Runs ks c rows rs)(n:Nat){out:List Rec}(hp:Cut ks c (rs.take n).flatten out)(hs:Srt ks out):Runs ks c rows (rs.drop n++[out]):=by
 refine⟨?_,λr hr=>?_⟩
 ·obtain⟨dr,h1,h2⟩:=hp;simp only[ab_,List.flatten_cons,List.flatten_nil,H_];refine h.perm.step (dr':=dr) ?_ λx hx=>?_
  ·rw[F_];refine List.Perm.trans (ah_.trans (h1.append_right _)) ?_;rw[<-ab_,X_]
  ·have:=h2 x hx;rw[as_];omega
 ·rcases d_.1 hr with hr|hr
  ·exact h.runs r (ak_ hr)
  ·rw[ms_ hr];exact hs
structure First (ks:List K)(c:Nat)(rows out:List Rec):Prop where
 sorted:Srt ks out
 few:out.length<=c
 rest:∃r,(out++r).Perm rows/\∀x∈out,∀y∈r,aB ks y x=false
theorem Me.first {ks:List K}{rows all:List Rec}{cad:List Cur}{out:List Rec}(h:Me ks all cad out)(hc:Cut ks c rows all)(hl:out.length<=c):First ks c rows out:=by
 obtain⟨dr,h1,h2⟩:=hc;refine⟨h.sorted,hl,(cad.map Cur.left).flatten++dr,by rw[<-F_];exact(h.perm.append_right _).trans h1,λx hx y hy=>?_⟩;have hleft:∀z∈(cad.map Cur.left).flatten,aB ks z x=false:=λz hz=>by
  obtain⟨l,hl,hz⟩:=bg_.1 hz;obtain⟨u,hu,rfl⟩:=z_.1 hl;have h1:=h.behind x hx u hu;rcases a_.1 hz with rfl|hz
  ·exact h1
  ·exact(ah ks).trans _ _ _ ((h.runs u hu).head z hz) h1
 rcases d_.1 hy with hy|hy
 ·exact hleft y hy
 ·cases he:aB ks y x with
  | false=>rfl
  | true=>
   exfalso;have h3:=h2 y hy;rw[<-h.perm.countP_eq,as_]at h3;have h4:((cad.map Cur.left).flatten).countP (λz=>!aB ks y z)=0:=by
    refine List.countP_eq_zero.2 λz hz hn=>?_;simp only[Bool.not_eq_true']at hn;rw[(ah ks).trans _ _ _ hn (hleft z hz)]at he;exact absurd he (by decide)
   have h5:out.countP (λz=>!aB ks y z)<out.length:=by
    refine Nat.lt_of_le_of_ne List.countP_le_length λe=>?_;have:=List.countP_eq_length.1 e x hx;simp[he]at this
   omega
theorem Me.whole {ks:List K}{rows all:List Rec}{out:List Rec}(h:Me ks all [] out)(hc:Cut ks c rows all)(hl:out.length<c):out.Perm rows:=by
 obtain⟨dr,h1,h2⟩:=hc;have h3:=h.perm;simp only[List.map_nil,List.flatten_nil,H_]at h3;cases dr with
 | nil=>exact h3.trans (by simpa using h1)
 | cons x dr=>
  have h4:=h2 x (by simp);have h5:all.countP (λy=>!aB ks x y)<=all.length:=List.countP_le_length;have:=h3.length_eq;omega
theorem Giving.first {ks:List K}{rows:List Rec}{items:List Ent}{out:List Rec}(h:Giving ks rows items out)(hl:out.length<=c):First ks c rows out:=
 ⟨h.sorted,hl,items.map Ent.rc,h.perm,λx hx y hy=>by obtain⟨e,he,rfl⟩:=z_.1 hy;exact h.behind x hx e he⟩
end Go.Proofs.YtjoinhljdbljaaaGreat
