/- How rows are held against each other by keys, and what follows. -/
import GoSem.Op.String
import Derived.Test.YtjoinhljdbljaaaGreatHpA
namespace Go.Proofs.YtjoinhljdbljaaaGreat
theorem bl_cons (a b:UInt8) (l m:List UInt8):Op.bytesLess (a::l) (b::m)=(decide (a < b) || (a == b && Op.bytesLess l m)):=by rw [Op.bytesLess]
theorem u8_lt (a b:UInt8):a < b↔a.toNat < b.toNat:=UInt8.lt_iff_toNat_lt
theorem u8_eq (a b:UInt8):a=b↔a.toNat=b.toNat:=UInt8.toNat_inj.symm
theorem bl_asymm:∀ l m:List UInt8,Op.bytesLess l m=true -> Op.bytesLess m l=false
 | [],[],h=>by simp [Op.bytesLess] at h
 | [],b::m,_=>by simp [Op.bytesLess]
 | a::l,[],h=>by simp [Op.bytesLess] at h
 | a::l,b::m,h=>by
  rw [bl_cons] at h ⊢
  simp only [Bool.or_eq_true,decide_eq_true_eq,Bool.and_eq_true,beq_iff_eq,Bool.or_eq_false_iff,decide_eq_false_iff_not,Bool.and_eq_false_iff] at h ⊢
  rcases h with h | ⟨rfl,h⟩
  ·rw [u8_lt] at h
   refine ⟨by rw [u8_lt]; omega,.inl ?_⟩
   simp only [beq_eq_false_iff_ne,ne_eq,u8_eq]
   omega
  ·exact ⟨by rw [u8_lt]; omega,.inr (bl_asymm l m h)⟩
theorem bl_trans:∀ l m n:List UInt8,Op.bytesLess l m=false -> Op.bytesLess m n=false -> Op.bytesLess l n=false
 | l,m,[],_,_=>by cases l<;>simp [Op.bytesLess]
 | [],[],n::ns,h1,h2=>by simp [Op.bytesLess] at h2
 | [],m::ms,n,h1,_=>by simp [Op.bytesLess] at h1
 | a::l,[],n::ns,h1,h2=>by simp [Op.bytesLess] at h2
 | a::l,b::m,c::n,h1,h2=>by
  rw [bl_cons] at h1 h2 ⊢
  simp only [Bool.or_eq_false_iff,decide_eq_false_iff_not,Bool.and_eq_false_iff,beq_eq_false_iff_ne,ne_eq,u8_lt,u8_eq] at h1 h2 ⊢
  refine ⟨by omega,?_⟩
  by_cases e:a.toNat=c.toNat
  ·rcases h1.2 with h | h
   ·omega
   ·rcases h2.2 with h' | h'
    ·omega
    ·exact .inr (bl_trans l m n h h')
  ·exact .inl e
structure Cmp {α:Type} (c:α -> α -> Int):Prop where
 anti:∀ a b,c b a=- c a b
 trans:∀ a b d,c a b <= 0 -> c b d <= 0 -> c a d <= 0
theorem Cmp.self {α:Type} {c:α -> α -> Int} (h:Cmp c) (a:α):c a a=0:=by have:=h.anti a a; omega
theorem Cmp.lt_le {α:Type} {c:α -> α -> Int} (h:Cmp c) {a b d:α} (h1:c a b < 0) (h2:c b d <= 0):c a d < 0:=by
 have h3:=h.trans a b d (by omega) h2
 by_cases e:c a d=0
 ·have:=h.trans b d a h2 (by have:=h.anti a d; omega)
  have:=h.anti a b
  omega
 ·omega
theorem Cmp.le_lt {α:Type} {c:α -> α -> Int} (h:Cmp c) {a b d:α} (h1:c a b <= 0) (h2:c b d < 0):c a d < 0:=by
 have h3:=h.trans a b d h1 (by omega)
 by_cases e:c a d=0
 ·have:=h.trans d a b (by have:=h.anti a d; omega) h1
  have:=h.anti b d
  omega
 ·omega
theorem Cmp.eq {α:Type} {c:α -> α -> Int} (h:Cmp c) {a b d:α} (h1:c a b=0) (h2:c b d=0):c a d=0:=by
 have h3:=h.trans a b d (by omega) (by omega)
 have h4:=h.trans d b a (by have:=h.anti b d; omega) (by have:=h.anti a b; omega)
 have:=h.anti a d
 omega
theorem Cmp.law {α:Type} {c:α -> α -> Int} (h:Cmp c):Law fun a b=>decide (c a b < 0):=by
 refine ⟨fun a b e=>?_,fun a b d e1 e2=>?_⟩
 ·simp only [decide_eq_true_eq,decide_eq_false_iff_not] at *
  have:=h.anti a b
  omega
 ·simp only [decide_eq_false_iff_not] at *
  have h1:=h.anti a b
  have h2:=h.anti b d
  have h3:=h.anti a d
  have:=h.trans d b a (by omega) (by omega)
  omega
def thenBy {α:Type} (c d:α -> α -> Int) (a b:α):Int:=if c a b≠0 then c a b else d a b
theorem Cmp.thenBy {α:Type} {c d:α -> α -> Int} (h:Cmp c) (k:Cmp d):Cmp (thenBy c d):=by
 refine ⟨fun a b=>?_,fun a b e h1 h2=>?_⟩
 ·unfold Go.Proofs.YtjoinhljdbljaaaGreat.thenBy
  have:=h.anti a b
  have:=k.anti a b
  split<;>split<;>omega
 ·unfold Go.Proofs.YtjoinhljdbljaaaGreat.thenBy at *
  by_cases e1:c a b=0
  ·by_cases e2:c b e=0
   ·rw [if_neg (by simp [e1])] at h1
    rw [if_neg (by simp [e2])] at h2
    rw [if_neg (by simp [h.eq e1 e2])]
    exact k.trans a b e h1 h2
   ·rw [if_pos e2] at h2
    have:=h.le_lt (a:=a) (b:=b) (d:=e) (by omega) (by omega)
    rw [if_pos (by omega)]
    omega
  ·rw [if_pos e1] at h1
   have h3:c b e <= 0:=by
    by_cases e2:c b e=0
    ·omega
    ·rw [if_pos e2] at h2; omega
   have:=h.lt_le (a:=a) (b:=b) (d:=e) (by omega) h3
   rw [if_pos (by omega)]
   omega
theorem Cmp.on {α β:Type} {c:β -> β -> Int} (h:Cmp c) (f:α -> β):Cmp fun a b=>c (f a) (f b):=⟨fun _ _=>h.anti _ _,fun _ _ _=>h.trans _ _ _⟩
theorem Cmp.neg {α:Type} {c:α -> α -> Int} (h:Cmp c):Cmp fun a b=>- c a b:=by
 refine ⟨fun a b=>by have:=h.anti a b; omega,fun a b d h1 h2=>?_⟩
 have:=h.trans d b a (by have:=h.anti b d; omega) (by have:=h.anti a b; omega)
 have:=h.anti a d
 omega
def cmpI (a b:Int):Int:=if a < b then -1 else if b < a then 1 else 0
theorem cmpI_cmp:Cmp cmpI:=by
 refine ⟨fun a b=>?_,fun a b d=>?_⟩
 ·unfold cmpI; split<;>split<;>(try split)<;>omega
 ·unfold cmpI; split<;>split<;>(try split)<;>(try split)<;>(try split)<;>omega
def cmpS (a b:ByteArray):Int:=if Op.bytesLess a.toList b.toList then -1 else if Op.bytesLess b.toList a.toList then 1 else 0
theorem cmpS_le (a b:ByteArray):cmpS a b <= 0↔Op.bytesLess b.toList a.toList=false:=by
 unfold cmpS
 cases h1:Op.bytesLess a.toList b.toList
 ·cases h2:Op.bytesLess b.toList a.toList<;>simp
 ·have:=bl_asymm _ _ h1
  simp [this]
theorem cmpS_cmp:Cmp cmpS:=by
 refine ⟨fun a b=>?_,fun a b d=>?_⟩
 ·unfold cmpS
  cases h1:Op.bytesLess a.toList b.toList
  ·cases h2:Op.bytesLess b.toList a.toList<;>simp
  ·have:=bl_asymm _ _ h1
   simp [this]
 ·rw [cmpS_le,cmpS_le,cmpS_le]
  intro h1 h2
  exact bl_trans _ _ _ h2 h1
structure V where
 k:Int
 n:Int
 s:ByteArray
structure K where
 c:Int
 d:Bool
 l:Bool
def V0:V:=⟨0,0,⟨#[]⟩⟩
def I64 (n:Int):Prop:=-9223372036854775808 <= n /\ n <= 9223372036854775807
def Fair (v:V):Prop:=(v.k=0 /\ v.n=0 /\ v.s=⟨#[]⟩) \/ (v.k=1 /\ I64 v.n /\ v.s=⟨#[]⟩) \/ (v.k=2 /\ v.n=0 /\ v.s.size <= 200) \/ (v.k=3 /\ (v.n=0 \/ v.n=1) /\ v.s=⟨#[]⟩)
def negIf (b:Bool) (x:Int):Int:=if b then -x else x
theorem Cmp.negIf {α:Type} {c:α -> α -> Int} (h:Cmp c) (b:Bool):Cmp fun x y=>negIf b (c x y):=by
 cases b
 ·exact h
 ·exact h.neg
def solid (v:V):Int:=if v.k=0 then 0 else 1
def cmpNull (y:K) (a b:V):Int:=negIf y.l (cmpI (solid a) (solid b))
def cmpBody (a b:V):Int:=thenBy (fun a b:V=>cmpI a.n b.n) (fun a b=>cmpS a.s b.s) a b
def cmpV (y:K):V -> V -> Int:=thenBy (cmpNull y) (fun a b=>negIf y.d (cmpBody a b))
theorem cmpBody_cmp:Cmp cmpBody:=(cmpI_cmp.on V.n).thenBy (cmpS_cmp.on V.s)
theorem cmpV_cmp (y:K):Cmp (cmpV y):=((cmpI_cmp.on solid).negIf y.l).thenBy (cmpBody_cmp.negIf y.d)
def cmpR:List K -> List V -> List V -> Int
 | []=>fun _ _=>0
 | y::ks=>thenBy (fun a b=>cmpV y (a.getD y.c.toNat V0) (b.getD y.c.toNat V0)) (cmpR ks)
theorem cmpR_cmp:∀ ks,Cmp (cmpR ks)
 | []=>⟨fun _ _=>rfl,fun _ _ _ _ _=>by simp [cmpR]⟩
 | y::ks=>((cmpV_cmp y).on fun a:List V=>a.getD y.c.toNat V0).thenBy (cmpR_cmp ks)
structure Rec where
 no:Int
 row:List V
def cmpRec (ks:List K):Rec -> Rec -> Int:=thenBy (fun a b=>cmpR ks a.row b.row) (fun a b=>cmpI a.no b.no)
theorem cmpRec_cmp (ks:List K):Cmp (cmpRec ks):=((cmpR_cmp ks).on Rec.row).thenBy (cmpI_cmp.on Rec.no)
def aheadB (ks:List K) (a b:Rec):Bool:=decide (cmpRec ks a b < 0)
theorem aheadB_law (ks:List K):Law (aheadB ks):=(cmpRec_cmp ks).law
structure Ent where
 rc:Rec
 run:Int
 size:Int
def cmpEnt (ks:List K):Ent -> Ent -> Int:=thenBy (fun a b=>cmpI a.run b.run) (fun a b=>cmpRec ks a.rc b.rc)
theorem cmpEnt_cmp (ks:List K):Cmp (cmpEnt ks):=(cmpI_cmp.on Ent.run).thenBy ((cmpRec_cmp ks).on Ent.rc)
def ltEnt (ks:List K) (a b:Ent):Bool:=decide (cmpEnt ks a b < 0)
theorem ltEnt_law (ks:List K):Law (ltEnt ks):=(cmpEnt_cmp ks).law
theorem cmpI_neg {a b:Int}:cmpI a b < 0↔a < b:=by unfold cmpI; split<;>(try split)<;>omega
theorem cmpI_zero {a b:Int}:cmpI a b=0↔a=b:=by unfold cmpI; split<;>(try split)<;>omega
theorem aheadB_code (ks:List K) (a b:Rec):aheadB ks a b=if cmpR ks a.row b.row≠0 then decide (cmpR ks a.row b.row < 0) else decide (a.no < b.no):=by
 unfold aheadB cmpRec thenBy
 by_cases h:cmpR ks a.row b.row≠0
 ·rw [if_pos h,if_pos h]
 ·rw [if_neg h,if_neg h]
  exact decide_eq_decide.2 cmpI_neg
theorem ltEnt_code (ks:List K) (a b:Ent):ltEnt ks a b=if a.run≠b.run then decide (a.run < b.run) else aheadB ks a.rc b.rc:=by
 unfold ltEnt cmpEnt thenBy
 by_cases h:a.run=b.run
 ·rw [if_neg (fun e=>e (cmpI_zero.2 h)),if_neg (fun e=>e h)]; rfl
 ·rw [if_pos (fun e=>h (cmpI_zero.1 e)),if_pos h]
  exact decide_eq_decide.2 cmpI_neg
def codeV (y:K) (a b:V):Int:=
 if a.k=0 \/ b.k=0 then negIf y.l (cmpI a.k b.k) else negIf y.d (if cmpI a.n b.n=0 then cmpS a.s b.s else cmpI a.n b.n)
theorem negIf_zero (b:Bool):negIf b 0=0:=by unfold negIf; split<;>rfl
theorem negIf_ne {b:Bool} {x:Int} (h:x≠0):negIf b x≠0:=by unfold negIf; split<;>omega
theorem Fair.kind {v:V} (h:Fair v):0 <= v.k /\ v.k <= 3:=by unfold Fair at h; omega
theorem Fair.null {v:V} (h:Fair v) (hk:v.k=0):v=V0:=by
 rcases h with ⟨h1,h2,h3⟩ | ⟨h1,_⟩ | ⟨h1,_⟩ | ⟨h1,_⟩
 ·cases v; simp_all [V0]
 all_goals omega
theorem cmpBody_self (a:V):cmpBody a a=0:=cmpBody_cmp.self a
theorem codeV_eq (y:K) {a b:V} (ha:Fair a) (hb:Fair b):codeV y a b=cmpV y a b:=by
 have k1:=ha.kind
 have k2:=hb.kind
 unfold codeV cmpV thenBy cmpNull
 by_cases h1:a.k=0
 ·by_cases h2:b.k=0
  ·rw [ha.null h1,hb.null h2]
   simp [V0,solid,cmpI,negIf_zero,cmpBody_self]
  ·rw [if_pos (.inl h1)]
   have e1:cmpI a.k b.k=-1:=by unfold cmpI; rw [if_pos (by omega)]
   have e2:cmpI (solid a) (solid b)=-1:=by unfold solid; rw [if_pos h1,if_neg h2]; rfl
   rw [e1,e2,if_pos (negIf_ne (by decide))]
 ·by_cases h2:b.k=0
  ·rw [if_pos (.inr h2)]
   have e1:cmpI a.k b.k=1:=by unfold cmpI; rw [if_neg (by omega),if_pos (by omega)]
   have e2:cmpI (solid a) (solid b)=1:=by unfold solid; rw [if_neg h1,if_pos h2]; rfl
   rw [e1,e2,if_pos (negIf_ne (by decide))]
  ·rw [if_neg (by omega)]
   have e2:cmpI (solid a) (solid b)=0:=by unfold solid; rw [if_neg h1,if_neg h2]; rfl
   rw [e2,negIf_zero,if_neg (c:=(0:Int)≠0) (fun e=>e rfl)]
   unfold cmpBody thenBy
   show negIf _ _=negIf _ _
   congr 1
   by_cases h:cmpI a.n b.n=0
   ·rw [if_pos h,if_neg (fun e=>e h)]
   ·rw [if_neg h,if_pos h]
def Srt (ks:List K) (l:List Rec):Prop:=l.Pairwise fun a b=>aheadB ks b a=false
theorem Srt.snoc {ks:List K} {l:List Rec} {x:Rec} (h:Srt ks l) (hx:∀ y∈l,aheadB ks x y=false):Srt ks (l++[x]):=by
 refine List.pairwise_append.2 ⟨h,List.pairwise_singleton _ _,fun a ha b hb=>?_⟩
 rw [List.mem_singleton.1 hb]
 exact hx a ha
theorem Srt.nil (ks:List K):Srt ks []:=List.Pairwise.nil
theorem Srt.last {ks:List K} {r:List Rec} {z:Rec} (h:Srt ks (r++[z])):∀ y∈r++[z],aheadB ks z y=false:=by
 intro y hy
 rcases List.mem_append.1 hy with hy | hy
 ·exact (List.pairwise_append.1 h).2.2 y hy z (by simp)
 ·rw [List.mem_singleton.1 hy]
  exact (aheadB_law ks).irrefl z
theorem Srt.push {ks:List K} {r:List Rec} {z x:Rec} (h:Srt ks (r++[z])) (hx:aheadB ks x z=false):Srt ks (r++[z]++[x]):=
 h.snoc fun y hy=>(aheadB_law ks).trans _ _ _ hx (h.last y hy)
theorem ltEnt_run {ks:List K} {a b:Ent} (h:ltEnt ks a b=false):b.run <= a.run:=by
 rw [ltEnt_code] at h
 split at h
 ·simp at h; omega
 ·omega
theorem ltEnt_rc {ks:List K} {a b:Ent} (h:ltEnt ks a b=false) (he:a.run=b.run):aheadB ks a.rc b.rc=false:=by
 rw [ltEnt_code,if_neg (by simp [he])] at h
 exact h
structure Spill (ks:List K) (rows:List Rec) (items:List Ent) (run:Int) (rs:List (List Rec)) (last:Rec):Prop where
 heap:HeapOK (ltEnt ks) items
 perm:(items.map Ent.rc++rs.flatten).Perm rows
 runs:∀ r∈rs,Srt ks r
 who:∀ e∈items,e.run=run \/ (rs≠[] /\ e.run=run+1)
 cur:rs≠[] -> ∃ pre r,rs=pre++[r++[last]]
 behind:rs≠[] -> ∀ e∈items,e.run=run -> aheadB ks e.rc last=false
theorem Spill.start (ks:List K) (last:Rec):Spill ks [] [] 0 [] last:=
 ⟨HeapOK.nil,by simp,by simp,by simp,by simp,by simp⟩
theorem Spill.add {ks:List K} {rows:List Rec} {items items':List Ent} {run:Int} {rs:List (List Rec)} {last:Rec} (h:Spill ks rows items run rs last) (e:Ent)
  (he:e.run=if rs≠[] /\ aheadB ks e.rc last=true then run+1 else run) (hh:HeapOK (ltEnt ks) items') (hp:items'.Perm (items++[e])):Spill ks (rows++[e.rc]) items' run rs last:=by
 refine ⟨hh,?_,h.runs,fun x hx=>?_,h.cur,fun hr x hx hxr=>?_⟩
 ·have h1:(items'.map Ent.rc).Perm (items.map Ent.rc++[e.rc]):=by simpa using hp.map Ent.rc
  refine (h1.append_right _).trans ?_
  rw [List.append_assoc]
  refine (List.Perm.append_left _ List.perm_append_comm).trans ?_
  rw [<- List.append_assoc]
  exact h.perm.append_right _
 ·rcases List.mem_append.1 (hp.mem_iff.1 hx) with hx | hx
  ·exact h.who x hx
  ·rw [List.mem_singleton.1 hx,he]
   split
   ·next hc=>exact .inr ⟨hc.1,rfl⟩
   ·exact .inl rfl
 ·rcases List.mem_append.1 (hp.mem_iff.1 hx) with hx | hx
  ·exact h.behind hr x hx hxr
  ·rw [List.mem_singleton.1 hx] at hxr ⊢
   rw [he] at hxr
   cases hc:aheadB ks e.rc last with
   | false=>rfl
   | true=>rw [if_pos ⟨hr,hc⟩] at hxr; omega
theorem least_of {ks:List K} {items:List Ent} {e:Ent} {rest:List Ent} (hh:HeapOK (ltEnt ks) items) (h0:items[0]?=some e) (hp:(e::rest).Perm items):∀ x∈rest,ltEnt ks x e=false:=by
 intro x hx
 obtain ⟨i,hi,rfl⟩:=List.getElem_of_mem (hp.mem_iff.1 (List.mem_cons_of_mem _ hx))
 obtain ⟨h1,rfl⟩:=List.getElem?_eq_some_iff.1 h0
 exact hh.least (ltEnt_law ks) i hi
theorem Spill.fresh {ks:List K} {rows:List Rec} {items rest:List Ent} {e:Ent} {run:Int} {rs:List (List Rec)} {last:Rec} (h:Spill ks rows items run rs last) (h0:items[0]?=some e)
  (hp:(e::rest).Perm items) (hh:HeapOK (ltEnt ks) rest) (hn:rs=[] \/ run < e.run):Spill ks rows rest e.run (rs++[[e.rc]]) e.rc:=by
 have hl:=least_of h.heap h0 hp
 have he:=h.who e (hp.mem_iff.1 (by simp))
 have hall:∀ x∈rest,x.run=e.run:=by
  intro x hx
  have h1:=ltEnt_run (hl x hx)
  have h2:=h.who x (hp.mem_iff.1 (List.mem_cons_of_mem _ hx))
  rcases hn with hn | hn
  ·rcases he with he | he
   ·rcases h2 with h2 | h2
    ·omega
    ·exact absurd hn h2.1
   ·exact absurd hn he.1
  ·omega
 refine ⟨hh,?_,fun r hr=>?_,fun x hx=>.inl (hall x hx),fun _=>⟨rs,[],rfl⟩,fun _ x hx hxr=>ltEnt_rc (hl x hx) hxr⟩
 ·have h1:(e.rc::rest.map Ent.rc).Perm (items.map Ent.rc):=by simpa using hp.map Ent.rc
  refine List.Perm.trans ?_ ((h1.append_right _).trans h.perm)
  simp only [List.flatten_append,List.flatten_cons,List.flatten_nil,List.append_nil]
  rw [<- List.append_assoc]
  exact (List.perm_append_comm (l₂:=[e.rc]))
 ·rcases List.mem_append.1 hr with hr | hr
  ·exact h.runs r hr
  ·rw [List.mem_singleton.1 hr]; exact List.pairwise_singleton _ _
theorem Spill.same {ks:List K} {rows:List Rec} {items rest:List Ent} {e:Ent} {run:Int} {pre:List (List Rec)} {r:List Rec} {last:Rec} (h:Spill ks rows items run (pre++[r]) last) (h0:items[0]?=some e)
  (hp:(e::rest).Perm items) (hh:HeapOK (ltEnt ks) rest) (hn:¬ run < e.run):Spill ks rows rest run (pre++[r++[e.rc]]) e.rc:=by
 have hl:=least_of h.heap h0 hp
 have hne:pre++[r]≠[]:=by simp
 have he:=h.who e (hp.mem_iff.1 (by simp))
 have her:e.run=run:=by omega
 obtain ⟨pre',r',hc⟩:=h.cur hne
 obtain ⟨rfl,hr⟩:=List.append_inj' hc rfl
 simp only [List.cons.injEq,and_true] at hr
 subst hr
 have hs:Srt ks (r'++[last]++[e.rc]):=(h.runs (r'++[last]) (by simp)).push (h.behind hne e (hp.mem_iff.1 (by simp)) her)
 refine ⟨hh,?_,fun q hq=>?_,fun x hx=>?_,fun _=>⟨pre,r'++[last],rfl⟩,fun _ x hx hxr=>ltEnt_rc (hl x hx) (by omega)⟩
 ·have h1:(e.rc::rest.map Ent.rc).Perm (items.map Ent.rc):=by simpa using hp.map Ent.rc
  refine List.Perm.trans ?_ ((h1.append_right _).trans h.perm)
  simp only [List.flatten_append,List.flatten_cons,List.flatten_nil,List.append_nil,List.cons_append,<- List.append_assoc]
  exact (List.perm_append_comm (l₂:=[e.rc]))
 ·rcases List.mem_append.1 hq with hq | hq
  ·exact h.runs q (by simp [hq])
  ·rw [List.mem_singleton.1 hq]; exact hs
 ·rcases h.who x (hp.mem_iff.1 (List.mem_cons_of_mem _ hx)) with h2 | h2
  ·exact .inl h2
  ·exact .inr ⟨by simp,h2.2⟩
structure Giving (ks:List K) (rows:List Rec) (items:List Ent) (out:List Rec):Prop where
 heap:HeapOK (ltEnt ks) items
 perm:(out++items.map Ent.rc).Perm rows
 sorted:Srt ks out
 run:∃ n,∀ e∈items,e.run=n
 behind:∀ x∈out,∀ e∈items,aheadB ks e.rc x=false
theorem Spill.giving {ks:List K} {rows:List Rec} {items:List Ent} {run:Int} {last:Rec} (h:Spill ks rows items run [] last):Giving ks rows items []:=
 ⟨h.heap,by simpa using h.perm,Srt.nil _,⟨run,fun e he=>by rcases h.who e he with h | h; exact h; exact absurd rfl h.1⟩,by simp⟩
theorem Giving.step {ks:List K} {rows:List Rec} {items rest:List Ent} {e:Ent} {out:List Rec} (h:Giving ks rows items out) (h0:items[0]?=some e)
  (hp:(e::rest).Perm items) (hh:HeapOK (ltEnt ks) rest):Giving ks rows rest (out++[e.rc]):=by
 have hl:=least_of h.heap h0 hp
 have hem:e∈items:=hp.mem_iff.1 (by simp)
 obtain ⟨n,hn⟩:=h.run
 have hm:∀ x∈rest,x∈items:=fun x hx=>hp.mem_iff.1 (List.mem_cons_of_mem _ hx)
 refine ⟨hh,?_,h.sorted.snoc fun y hy=>h.behind y hy e hem,⟨n,fun x hx=>hn x (hm x hx)⟩,fun x hx y hy=>?_⟩
 ·have h1:(e.rc::rest.map Ent.rc).Perm (items.map Ent.rc):=by simpa using hp.map Ent.rc
  rw [List.append_assoc]
  exact (h1.append_left out).trans h.perm
 ·rcases List.mem_append.1 hx with hx | hx
  ·exact h.behind x hx y (hm y hy)
  ·rw [List.mem_singleton.1 hx]
   exact ltEnt_rc (hl y hy) (by rw [hn e hem,hn y (hm y hy)])
theorem Giving.end {ks:List K} {rows:List Rec} {out:List Rec} (h:Giving ks rows [] out):out.Perm rows /\ Srt ks out:=⟨by simpa using h.perm,h.sorted⟩
structure Cur where
 ptr:Nat
 first:Rec
 rest:List Rec
def ltCur (ks:List K) (a b:Cur):Bool:=aheadB ks a.first b.first
theorem ltCur_law (ks:List K):Law (ltCur ks):=((cmpRec_cmp ks).on Cur.first).law
def Cur.left (c:Cur):List Rec:=c.first::c.rest
structure Merging (ks:List K) (all:List Rec) (curs:List Cur) (out:List Rec):Prop where
 heap:HeapOK (ltCur ks) curs
 perm:(out++(curs.map Cur.left).flatten).Perm all
 runs:∀ c∈curs,Srt ks c.left
 sorted:Srt ks out
 behind:∀ x∈out,∀ c∈curs,aheadB ks c.first x=false
theorem Srt.head {ks:List K} {x:Rec} {l:List Rec} (h:Srt ks (x::l)):∀ y∈l,aheadB ks y x=false:=fun y hy=>(List.pairwise_cons.1 h).1 y hy
theorem least_cur {ks:List K} {curs:List Cur} {c:Cur} (hh:HeapOK (ltCur ks) curs) (h0:curs[0]?=some c):∀ x∈curs,aheadB ks x.first c.first=false:=by
 intro x hx
 obtain ⟨i,hi,rfl⟩:=List.getElem_of_mem hx
 obtain ⟨h1,rfl⟩:=List.getElem?_eq_some_iff.1 h0
 exact hh.least (ltCur_law ks) i hi
theorem flat_perm {curs curs':List Cur} (h:curs.Perm curs'):(curs.map Cur.left).flatten.Perm (curs'.map Cur.left).flatten:=(h.map Cur.left).flatten
theorem Merging.next {ks:List K} {all:List Rec} {curs curs':List Cur} {c c':Cur} {out:List Rec} (h:Merging ks all curs out) (h0:curs[0]?=some c)
  (hc:c.rest=c'.first::c'.rest) (hp:curs'.Perm (curs.set 0 c')) (hh:HeapOK (ltCur ks) curs'):Merging ks all curs' (out++[c.first]):=by
 obtain ⟨t,rfl⟩:∃ t,curs=c::t:=by
  cases curs with
  | nil=>simp at h0
  | cons a t=>simp at h0; exact ⟨t,by rw [h0]⟩
 simp only [List.set_cons_zero] at hp
 have hl:=least_cur h.heap h0
 have hcs:=h.runs c (by simp)
 have hc1:aheadB ks c'.first c.first=false:=hcs.head _ (by rw [hc]; simp)
 refine ⟨hh,?_,fun x hx=>?_,h.sorted.snoc fun y hy=>h.behind y hy c (by simp),fun x hx y hy=>?_⟩
 ·refine (List.Perm.append_left _ (flat_perm hp)).trans (List.Perm.trans ?_ h.perm)
  simp [Cur.left,hc]
 ·rcases List.mem_cons.1 (hp.mem_iff.1 hx) with rfl | hx
  ·have:=(List.pairwise_cons.1 hcs).2
   rw [hc] at this
   exact this
  ·exact h.runs x (by simp [hx])
 ·rcases List.mem_cons.1 (hp.mem_iff.1 hy) with rfl | hy
  ·rcases List.mem_append.1 hx with hx | hx
   ·exact (aheadB_law ks).trans _ _ _ hc1 (h.behind x hx c (by simp))
   ·rw [List.mem_singleton.1 hx]; exact hc1
  ·rcases List.mem_append.1 hx with hx | hx
   ·exact h.behind x hx y (by simp [hy])
   ·rw [List.mem_singleton.1 hx]; exact hl y (by simp [hy])
theorem Merging.drop {ks:List K} {all:List Rec} {curs curs':List Cur} {c:Cur} {out:List Rec} (h:Merging ks all curs out) (h0:curs[0]?=some c)
  (hc:c.rest=[]) (hp:(c::curs').Perm curs) (hh:HeapOK (ltCur ks) curs'):Merging ks all curs' (out++[c.first]):=by
 have hl:=least_cur h.heap h0
 have hcm:c∈curs:=hp.mem_iff.1 (by simp)
 have hm:∀ x∈curs',x∈curs:=fun x hx=>hp.mem_iff.1 (List.mem_cons_of_mem _ hx)
 refine ⟨hh,?_,fun x hx=>h.runs x (hm x hx),h.sorted.snoc fun y hy=>h.behind y hy c hcm,fun x hx y hy=>?_⟩
 ·refine List.Perm.trans ?_ ((List.Perm.append_left _ (flat_perm hp)).trans h.perm)
  simp [Cur.left,hc]
 ·rcases List.mem_append.1 hx with hx | hx
  ·exact h.behind x hx y (hm y hy)
  ·rw [List.mem_singleton.1 hx]; exact hl y (hm y hy)
theorem Merging.start {ks:List K} {curs:List Cur} (hh:HeapOK (ltCur ks) curs) (hr:∀ c∈curs,Srt ks c.left):Merging ks (curs.map Cur.left).flatten curs []:=
 ⟨hh,by simp,hr,Srt.nil _,by simp⟩
theorem Merging.of_perm {ks:List K} {all all':List Rec} {curs:List Cur} {out:List Rec} (h:Merging ks all curs out) (hp:all.Perm all'):Merging ks all' curs out:=⟨h.heap,h.perm.trans hp,h.runs,h.sorted,h.behind⟩
theorem Merging.end {ks:List K} {all:List Rec} {out:List Rec} (h:Merging ks all [] out):out.Perm all /\ Srt ks out:=⟨by simpa using h.perm,h.sorted⟩
theorem Merging.count {ks:List K} {all:List Rec} {curs:List Cur} {out:List Rec} (h:Merging ks all curs out) (hne:curs≠[]):out.length < all.length:=by
 have:=h.perm.length_eq
 rw [List.length_append] at this
 cases curs with
 | nil=>exact absurd rfl hne
 | cons c t=>simp [Cur.left] at this; omega
structure Runs (ks:List K) (rows:List Rec) (rs:List (List Rec)):Prop where
 perm:rs.flatten.Perm rows
 runs:∀ r∈rs,Srt ks r
theorem Spill.all {ks:List K} {rows:List Rec} {run:Int} {rs:List (List Rec)} {last:Rec} (h:Spill ks rows [] run rs last):Runs ks rows rs:=⟨by simpa using h.perm,h.runs⟩
theorem Runs.merge {ks:List K} {rows:List Rec} {rs:List (List Rec)} (h:Runs ks rows rs) (n:Nat) {out:List Rec} (hp:out.Perm (rs.take n).flatten) (hs:Srt ks out):Runs ks rows (rs.drop n++[out]):=by
 refine ⟨?_,fun r hr=>?_⟩
 ·simp only [List.flatten_append,List.flatten_cons,List.flatten_nil,List.append_nil]
  refine List.Perm.trans (List.perm_append_comm.trans (hp.append_right _)) ?_
  rw [<- List.flatten_append,List.take_append_drop]
  exact h.perm
 ·rcases List.mem_append.1 hr with hr | hr
  ·exact h.runs r (List.mem_of_mem_drop hr)
  ·rw [List.mem_singleton.1 hr]; exact hs
end Go.Proofs.YtjoinhljdbljaaaGreat
