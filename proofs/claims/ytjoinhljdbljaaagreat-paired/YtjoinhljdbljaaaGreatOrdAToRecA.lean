/- Two values held against each other, and what follows. -/
import Derived.Test.YtjoinhljdbljaaaGreatDskAToDskF
import Derived.Lib.Bytealg
import Derived.Laws.Externs
import Derived.Deep.QuietTactic
import Derived.BigQuiet
set_option maxHeartbeats 2000000
set_option maxRecDepth 20000
namespace Go.Proofs.YtjoinhljdbljaaaGreat
open Go.RowKit Go.Proofs.Tryz
variable {F:List Nat} {a b u v:Value} {k:Nat} {ks:List K} {l row:List V} {p:Addr} {w w':World}
theorem Below.t (h:Below w.heap.size w w'):Touch [] w w':=⟨h.os,h.tape,h.output,h.size,λk hk _=>h.block k hk⟩
theorem compareBytes_eq (a b:List UInt8):Lib.compareBytes a b=if Op.bytesLess a b then -1 else if Op.bytesLess b a then 1 else 0:=by
 induction a generalizing b with
 | nil=>cases b<;>simp[Lib.compareBytes,Op.bytesLess]
 | cons x a ih=>
  cases b with
  | nil=>simp[Lib.compareBytes,Op.bytesLess]
  | cons y b=>
   rw[Lib.compareBytes,ih b,bl_cons,bl_cons];by_cases h1:x<y
   ·simp[h1]
   ·by_cases h2:y<x
    ·have h3:(x == y)=false:=by simp only[beq_eq_false_iff_ne,ne_eq,u8_eq];rw[u8_lt]at h2;omega
     simp[h1,h2,h3]
    ·have h3:x=y:=by rw[u8_eq];rw[u8_lt]at h1 h2;omega
     subst h3;simp[h1]
theorem cmpS_eq (a b:ByteArray):Lib.compareBytes a.data.toList b.data.toList=cmpS a b:=by
 rw[compareBytes_eq];unfold cmpS;rw[ByteArray.toList_eq,ByteArray.toList_eq]
theorem ext_compare (a b:ByteArray)(w:World):(callFunc 223 #[.string a,.string b]).run prog w=.ok (.value (.int .i64 (cmpS a b))) w:=by
 rw[run_callFunc_extern func223 (by kernel_rfl) (by kernel_rfl) (by kernel_rfl) (e:=Extern.BytealgCompare.compare) (by kernel_rfl),Lib.run_compareString,cmpS_eq];rfl
theorem compareStr_any (a b:ByteArray)(w:World):Calls prog 209 #[.string a,.string b] w λe w'=>e=.returned (.int .i64 (cmpS a b))/\w'=w:=by
 have hx:=ext_compare a b w;go_enter func209,ntmps209;go_wp2;go_ret;exact⟨rfl,rfl⟩
theorem compareInt_any (a b:Int)(w:World):Calls prog 208 #[.int .i64 a,.int .i64 b] w λe w'=>e=.returned (.int .i64 (cag a b))/\w'=w:=by
 by_cases h1:a<b
 ·have E:Hid (cag a b= -1):=by simp[Hid,cag,h1]
  go_enter func208,ntmps208;go_wp2;go_ret;exact⟨by rw[E.out];rfl,rfl⟩
 ·by_cases h2:b<a
  ·have E:Hid (cag a b=1):=by simp[Hid,cag,h1,h2]
   go_enter func208,ntmps208;go_wp2;go_ret;exact⟨by rw[E.out];rfl,rfl⟩
  ·have E:Hid (cag a b=0):=by simp[Hid,cag,h1,h2]
   go_enter func208,ntmps208;go_wp2;go_ret;exact⟨by rw[E.out];rfl,rfl⟩
theorem Touch.drewN {F:List Nat}{a w:World}(h:Touch F a w)(n:Nat):Touch F a (w.drewN n):=⟨h.os,h.tape,h.output,h.size,h.block⟩
theorem cmpI_in (a b:Int): -1<=cag a b/\cag a b<=1:=by unfold cag;split<;>(try split)<;>omega
theorem cmpS_in (a b:ByteArray): -1<=cmpS a b/\cmpS a b<=1:=by unfold cmpS;split<;>(try split)<;>omega
theorem cau (a b:V)(y:K)(w:World):Calls prog 177 #[a.val,b.val,y.val] w λe w'=>e=.returned (.int .i64 (caq y a b))/\Touch [] w w':=by
 obtain⟨k,n,s⟩:=a;obtain⟨k',n',s'⟩:=b;obtain⟨c,d,l⟩:=y;simp only[V.val,K.val];have b1:=cmpI_in k k';have b2:=cmpI_in n n';have b3:=cmpS_in s s';have C1:Hid (∀a b w,Calls prog 208 #[.int .i64 a,.int .i64 b] w λe w'=>e=.returned (.int .i64 (cag a b))/\w'=w):=compareInt_any;have C3:Hid (∀a b w,Calls prog 209 #[.string a,.string b] w λe w'=>e=.returned (.int .i64 (cmpS a b))/\w'=w):=compareStr_any;have E:Hid (caq ⟨c,d,l⟩ ⟨k,n,s⟩ ⟨k',n',s'⟩=if k=0\/k'=0 then ng l (cag k k')else ng d (if cag n n'=0 then cmpS s s' else cag n n')):=rfl;generalize caq ⟨c,d,l⟩ ⟨k,n,s⟩ ⟨k',n',s'⟩=r at *;by_cases h:k=0\/k'=0
 ·have E1:Hid (r=ng l (cag k k')):=by rw[if_pos h]at E;exact E
  clear E;cases hk0:(k == 0)with
  | true=>
   cases l with
   | false=>
    go_enter func177,ntmps177;go_wp2
    go_big_quiet (fail)
    go_wp2
    go_big_quiet ((go_at_call 208;refine(C1.out _ _ _).mono ?_;rintro e w1 ⟨rfl,rfl⟩;exact⟨rfl,_,rfl⟩))
    go_wp2;go_ret;exact⟨by rw[E1.out];rfl,by repeat (first|exact Touch.refl _ _|refine Touch.drewN ?_ _|refine Touch.drew ?_|refine Touch.alloc ?_ _)⟩
   | true=>
    go_enter func177,ntmps177;go_wp2
    go_big_quiet (fail)
    go_wp2
    go_big_quiet ((go_at_call 208;refine(C1.out _ _ _).mono ?_;rintro e w1 ⟨rfl,rfl⟩;exact⟨rfl,_,rfl⟩))
    go_wp2;go_ret;exact⟨by rw[E1.out];rfl,by repeat (first|exact Touch.refl _ _|refine Touch.drewN ?_ _|refine Touch.drew ?_|refine Touch.alloc ?_ _)⟩
  | false=>
   have hk1:(k' == 0)=true:=by simp at hk0 ⊢;omega
   cases l with
   | false=>
    go_enter func177,ntmps177;go_wp2
    go_big_quiet (fail)
    go_wp2
    go_big_quiet ((go_at_call 208;refine(C1.out _ _ _).mono ?_;rintro e w1 ⟨rfl,rfl⟩;exact⟨rfl,_,rfl⟩))
    go_wp2;go_ret;exact⟨by rw[E1.out];rfl,by repeat (first|exact Touch.refl _ _|refine Touch.drewN ?_ _|refine Touch.drew ?_|refine Touch.alloc ?_ _)⟩
   | true=>
    go_enter func177,ntmps177;go_wp2
    go_big_quiet (fail)
    go_wp2
    go_big_quiet ((go_at_call 208;refine(C1.out _ _ _).mono ?_;rintro e w1 ⟨rfl,rfl⟩;exact⟨rfl,_,rfl⟩))
    go_wp2;go_ret;exact⟨by rw[E1.out];rfl,by repeat (first|exact Touch.refl _ _|refine Touch.drewN ?_ _|refine Touch.drew ?_|refine Touch.alloc ?_ _)⟩
 ·have hk0:(k == 0)=false:=by simp;omega
  have hk1:(k' == 0)=false:=by simp;omega
  by_cases h2:cag n n'=0
  ·have E1:Hid (r=ng d (cmpS s s')):=by rw[if_neg h,if_pos h2]at E;exact E
   clear E;have hx2:(cag n n' == 0)=true:=by simpa using h2
   clear h2;cases d with
   | false=>
    go_enter func177,ntmps177;go_wp2
    go_big_quiet (fail)
    go_wp2_with (first|(go_at_call 208;refine(C1.out _ _ _).mono ?_;rintro e w1 ⟨rfl,rfl⟩)|(go_at_call 209;refine(C3.out _ _ _).mono ?_;rintro e w1 ⟨rfl,rfl⟩))
    go_ret;exact⟨by rw[E1.out];rfl,by repeat (first|exact Touch.refl _ _|refine Touch.drewN ?_ _|refine Touch.drew ?_|refine Touch.alloc ?_ _)⟩
   | true=>
    go_enter func177,ntmps177;go_wp2
    go_big_quiet (fail)
    go_wp2_with (first|(go_at_call 208;refine(C1.out _ _ _).mono ?_;rintro e w1 ⟨rfl,rfl⟩)|(go_at_call 209;refine(C3.out _ _ _).mono ?_;rintro e w1 ⟨rfl,rfl⟩))
    go_ret;exact⟨by rw[E1.out];rfl,by repeat (first|exact Touch.refl _ _|refine Touch.drewN ?_ _|refine Touch.drew ?_|refine Touch.alloc ?_ _)⟩
  ·have E1:Hid (r=ng d (cag n n')):=by rw[if_neg h,if_neg h2]at E;exact E
   clear E;have hx2:(cag n n' == 0)=false:=by simpa using h2
   clear h2;cases d with
   | false=>
    go_enter func177,ntmps177;go_wp2
    go_big_quiet (fail)
    go_wp2_with (first|(go_at_call 208;refine(C1.out _ _ _).mono ?_;rintro e w1 ⟨rfl,rfl⟩)|(go_at_call 209;refine(C3.out _ _ _).mono ?_;rintro e w1 ⟨rfl,rfl⟩))
    go_ret;exact⟨by rw[E1.out];rfl,by repeat (first|exact Touch.refl _ _|refine Touch.drewN ?_ _|refine Touch.drew ?_|refine Touch.alloc ?_ _)⟩
   | true=>
    go_enter func177,ntmps177;go_wp2
    go_big_quiet (fail)
    go_wp2_with (first|(go_at_call 208;refine(C1.out _ _ _).mono ?_;rintro e w1 ⟨rfl,rfl⟩)|(go_at_call 209;refine(C3.out _ _ _).mono ?_;rintro e w1 ⟨rfl,rfl⟩))
    go_ret;exact⟨by rw[E1.out];rfl,by repeat (first|exact Touch.refl _ _|refine Touch.drewN ?_ _|refine Touch.drew ?_|refine Touch.alloc ?_ _)⟩
abbrev T3:=Value×Value×Value
def V.t (v:V):T3:=(.int .i64 v.k,.int .i64 v.n,.string v.s)
def K.t (y:K):T3:=(.int .i64 y.c,.bool y.d,.bool y.l)
def KT (t:TypeId)(w w':World):Prop:=∀(k:Nat) (cs:Array Value) (f:Nat×Nat),w.heap[k]?=some (Obj.cells cs t f)->w'.heap[k]?=some (Obj.cells cs t f)
theorem KT.refl (t:TypeId)(w:World):KT t w w:=λ_ _ _ h=>h
theorem KT.trans {t:TypeId}{a b c:World}(h:KT t a b)(k:KT t b c):KT t a c:=λi cs f hi=>k i cs f (h i cs f hi)
def NT (t:TypeId)(w:World)(F:List Nat):Prop:=∀k∈F,∀(cs:Array Value) (f:Nat×Nat),w.heap[k]?≠some (Obj.cells cs t f)
theorem Touch.tag (h:Touch F w w'){t:TypeId}(hn:NT t w F):KT t w w':=λk cs f hk=>by
 rw[h.block k (agi.1 hk).1 (λe=>hn k e cs f hk)];exact hk
theorem Touch.tu (h:Touch [] w w')(t:TypeId):KT t w w':=h.tag (λk hk=>by simp at hk)
def Sl3 (t:TypeId)(w:World)(v:Value)(l:List T3):Prop:=
 ∃ao cap,v=.slice ao l.length cap/\l.length<=cap/\cap<=maxLen/\(1<=l.length->∃b off cs f,ao=some ⟨b,off,none⟩/\w.heap[b]?=some (.cells cs t f) /\
  ∀i (h:i<l.length),cs[off+i*3]?=some l[i].1/\cs[off+i*3+1]?=some l[i].2.1/\cs[off+i*3+1+1]?=some l[i].2.2)
theorem Sl3.keep {t:TypeId}{l:List T3}(h:Sl3 t w v l)(k:KT t w w'):Sl3 t w' v l:=by
 obtain⟨ao,cap,rfl,hc,hm,h⟩:=h;refine⟨ao,cap,rfl,hc,hm,λhl=>?_⟩;obtain⟨b,off,cs,f,rfl,hb,hx⟩:=h hl;exact⟨b,off,cs,f,rfl,k _ _ _ hb,hx⟩
theorem Sl3.open {t:TypeId}{l:List T3}(h:Sl3 t w v l)(hl:1<=l.length) :
  ∃b off cap,v=.slice (some ⟨b,off,none⟩) l.length cap/\l.length<=cap/\cap<=maxLen/\b<w.heap.size/\∀w',KT t w w'->∀i (h:i<l.length),
   w'.cell? ⟨b,off+i*3,none⟩=some l[i].1/\w'.cell? ⟨b,off+i*3+1,none⟩=some l[i].2.1/\w'.cell? ⟨b,off+i*3+1+1,none⟩=some l[i].2.2:=by
 obtain⟨ao,cap,rfl,hc,hm,h⟩:=h;obtain⟨b,off,cs,f,rfl,hb,hx⟩:=h hl;refine⟨b,off,cap,rfl,hc,hm,(agi.1 hb).1,λw' hk i hi=>?_⟩;have hb':=hk _ _ _ hb;obtain⟨h1,h2,h3⟩:=hx i hi;refine⟨?_,?_,?_⟩<;>simp only[World.cell?,hb']<;>assumption
def Ro (w:World)(v:Value)(row:List V):Prop:=Sl3 85 w v (row.map V.t)
def KA (w:World)(v:Value)(ks:List K):Prop:=Sl3 73 w v (ks.map K.t)
def gK (ks:List K)(n:Nat):Prop:=∀y∈ks,0<=y.c/\y.c<n
theorem cmpR_drop (h:k<ks.length)(a b:List V):cmpR (ks.drop k) a b=tH (λa b=>cmpV ks[k] (a.getD ks[k].c.toNat V0) (b.getD ks[k].c.toNat V0)) (cmpR (ks.drop (k+1))) a b:=by
 rw[J_ h];rfl
theorem lt_of_cell (h:w.cell? p=some u):p.block<w.heap.size:=by
 unfold World.cell? at h;cases e:w.heap[p.block]? with
 | none=>rw[e]at h;simp at h
 | some o=>exact(agi.1 e).1
theorem cah (h:w.cell? p=some u)(ht:Touch F w w')(hp:p.block∉F):w'.cell? p=some u:=by
 rw[World.cell?_of_block (w:=w) (ht.block p.block (lt_of_cell h) hp)];exact h
theorem cO (h:w.cell? p=some u)(ht:Touch [] w w'):w'.cell? p=some u:=cah h ht (by simp)
theorem cai (h:w.cell? p=some u)(o:Obj):(w.alloc o).cell? p=some u:=cO h ((Touch.refl _ _).alloc o)
theorem cell3_new (w:World)(a b c:Value)(t:TypeId):(w.alloc (.cells #[a,b,c] t)).cell? ⟨w.heap.size,0,none⟩=some a/\(w.alloc (.cells #[a,b,c] t)).cell? ⟨w.heap.size,1,none⟩=some b/\(w.alloc (.cells #[a,b,c] t)).cell? ⟨w.heap.size,2,none⟩=some c:=
 bD (heap_alloc_new w _)
theorem compare_any (w:World)(va vb vk:Value)(a b:List V)(ks:List K)(ha:Ro w va a)(hb:Ro w vb b)(hk:KA w vk ks)(fa:∀v∈a,Fair v)(fb:∀v∈b,Fair v)
  (ga:gK ks a.length) (gb:gK ks b.length) :
  Calls prog 196 #[va,vb,vk] w λe w'=>e=.returned (.int .i64 (cmpR ks a b))/\Touch [] w w':=by
 by_cases hks:1<=ks.length
 ·have g0:=ga ks[0] (m_ _);have g1:=gb ks[0] (m_ _);obtain⟨ba,oa,ca,rfl,hca,hma,hba,hxa⟩:=Sl3.open ha (by simp;omega);obtain⟨bb,ob,cb,rfl,hcb,hmb,hbb,hxb⟩:=Sl3.open hb (by simp;omega);obtain⟨bk,ok,ck,rfl,hck,hmk,hbk,hxk⟩:=Sl3.open hk (by simpa using hks);simp only[u_]at *;unfold maxLen at hma hmb hmk;clear ha hb hk g0 g1;have HG:Hid (gK ks a.length/\gK ks b.length/\(∀v∈a,Fair v)/\(∀v∈b,Fair v)):=⟨ga,gb,fa,fb⟩;have HX:Hid (∀w',Touch [] w w'->(∀i (h:i<a.length),w'.cell? ⟨ba,oa+i*3,none⟩=some (.int .i64 a[i].k)/\w'.cell? ⟨ba,oa+i*3+1,none⟩=some (.int .i64 a[i].n)/\w'.cell? ⟨ba,oa+i*3+1+1,none⟩=some (.string a[i].s)) /\
    (∀i (h:i<b.length),w'.cell? ⟨bb,ob+i*3,none⟩=some (.int .i64 b[i].k)/\w'.cell? ⟨bb,ob+i*3+1,none⟩=some (.int .i64 b[i].n)/\w'.cell? ⟨bb,ob+i*3+1+1,none⟩=some (.string b[i].s)) /\
    (∀i (h:i<ks.length),w'.cell? ⟨bk,ok+i*3,none⟩=some (.int .i64 ks[i].c)/\w'.cell? ⟨bk,ok+i*3+1,none⟩=some (.bool ks[i].d)/\w'.cell? ⟨bk,ok+i*3+1+1,none⟩=some (.bool ks[i].l))):=λw' ht=>
   ⟨λi h=>by have:=hxa w' (ht.tu _) i (by simpa using h);simpa[V.t]using this,λi h=>by have:=hxb w' (ht.tu _) i (by simpa using h);simpa[V.t]using this,λi h=>by have:=hxk w' (ht.tu _) i (by simpa using h);simpa[K.t]using this⟩
  clear ga gb fa fb hxa hxb hxk;go_enter func196,ntmps196;go_wp2
  go_loopw [12] (λi wr=>∃k:Nat,k<=ks.length/\i=.int .i64 k/\Touch [] w wr/\cmpR ks a b=cmpR (ks.drop k) a b) (λi _=>ks.length-(intOf i).toNat)
  case atStart=>exact⟨0,by omega,rfl,Touch.refl _ _,rfl⟩
  case round=>
   obtain⟨k,hk,rfl,hT,hE⟩:=hrel;have HE:Hid (cmpR ks a b=cmpR (ks.drop k) a b):=hE;clear hE;have hsz:=hT.size;by_cases hlt:k<ks.length
   ·obtain⟨xa,xb,xk⟩:=HX.out wr hT;obtain⟨k0,k1,k2⟩:=xk k hlt;have hy:=HG.out.1 ks[k] (m_ _);have hy2:=HG.out.2.1 ks[k] (m_ _);have HD:=cmpR_drop hlt a b;generalize hyy:ks[k]=y at *;obtain⟨c,d,l⟩:=y;simp only at k0 k1 k2 hy hy2 HD;obtain⟨j,rfl⟩:∃j:Nat,c=(j:Int):=⟨c.toNat,by omega⟩;have hja:j<a.length:=by omega
    have hjb:j<b.length:=by omega
    obtain⟨a0,a1,a2⟩:=xa j hja;obtain⟨b0,b1,b2⟩:=xb j hjb;have fa:=HG.out.2.2.1 a[j] (m_ _);have fb:=HG.out.2.2.2 b[j] (m_ _);have e1:a.getD j V0=a[j]:=by simp[List.getD,hja]
    have e2:b.getD j V0=b[j]:=by simp[List.getD,hjb]
    simp only[Int.toNat_natCast,tH,e1,e2]at HD;rw[<-codeV_eq _ fa fb]at HD;generalize a[j]=x at *;generalize b[j]=z at *;have HCV:Hid (∀w,Calls prog 177 #[x.val,z.val,(⟨j,d,l⟩:K).val] w λe w'=>e=.returned (.int .i64 (caq ⟨j,d,l⟩ x z))/\Touch [] w w'):=cau x z ⟨j,d,l⟩;have HDD:Hid _:=HD;clear HD xa xb xk hyy e1 e2 fa fb hy hy2;generalize caq ⟨j,d,l⟩ x z=r at *;obtain⟨xk,xn,xs⟩:=x;obtain⟨zk,zn,zs⟩:=z;simp only[V.val,K.val]at *;have hrb:ba<wr.heap.size:=by omega
    have hrb2:bb<wr.heap.size:=by omega
    have hrk:bk<wr.heap.size:=by omega
    have HK:Hid (∀w',Touch [] (wr.alloc (.cells #[.int .i64 (j:Int),.bool d,.bool l] 73)) w'->w'.cell? ⟨wr.heap.size,0,none⟩=some (.int .i64 (j:Int))/\w'.cell? ⟨wr.heap.size,1,none⟩=some (.bool d)/\w'.cell? ⟨wr.heap.size,2,none⟩=some (.bool l)/\w'.cell? ⟨ba,oa+j*3,none⟩=some (.int .i64 xk)/\w'.cell? ⟨ba,oa+j*3+1,none⟩=some (.int .i64 xn)/\w'.cell? ⟨ba,oa+j*3+1+1,none⟩=some (.string xs)/\w'.cell? ⟨bb,ob+j*3,none⟩=some (.int .i64 zk)/\w'.cell? ⟨bb,ob+j*3+1,none⟩=some (.int .i64 zn)/\w'.cell? ⟨bb,ob+j*3+1+1,none⟩=some (.string zs)):=λw' ht=>by
     obtain⟨n0,n1,n2⟩:=cell3_new wr (.int .i64 (j:Int)) (.bool d) (.bool l) 73;exact⟨cO n0 ht,cO n1 ht,cO n2 ht,cO (cai a0 _) ht,cO (cai a1 _) ht,cO (cai a2 _) ht,cO (cai b0 _) ht,cO (cai b1 _) ht,cO (cai b2 _) ht⟩
    by_cases hr:r=0
    ·have hr0:(r != 0)=false:=by simp[hr]
     have HR:Hid (r=0):=hr;clear hr;go_wp2
     go_region_held3 (λw'=>w'.cell? ⟨wr.heap.size,0,none⟩=some (.int .i64 (j:Int))/\w'.cell? ⟨wr.heap.size,1,none⟩=some (.bool d)/\w'.cell? ⟨wr.heap.size,2,none⟩=some (.bool l)/\w'.cell? ⟨ba,oa+j*3,none⟩=some (.int .i64 xk)/\w'.cell? ⟨ba,oa+j*3+1,none⟩=some (.int .i64 xn)/\w'.cell? ⟨ba,oa+j*3+1+1,none⟩=some (.string xs)/\w'.cell? ⟨bb,ob+j*3,none⟩=some (.int .i64 zk)/\w'.cell? ⟨bb,ob+j*3+1,none⟩=some (.int .i64 zn)/\w'.cell? ⟨bb,ob+j*3+1+1,none⟩=some (.string zs)) (go_keep) (first|(go_at_call 177;refine(HCV.out _).mono ?_;rintro e w1 ⟨rfl,hT1⟩;obtain⟨e0,e1,e2,e3,e4,e5,e6,e7,e8⟩:=HK.out _ ((tr_.drew).trans hT1)))
     all_goals
      go_wp2
      go_roundw
      case rel=>
       refine⟨k+1,by omega,by go_num,(((hT.alloc _).drew).trans hT1),?_⟩;have:=HDD.out;rw[HR.out]at this;rw[HE.out,this,if_neg (by simp)]
      case measure=>simp[intOf];omega
    ·have hr0:(r != 0)=true:=by simp[hr]
     have HR:Hid (r≠0):=hr;clear hr;go_wp2
     go_region_held3 (λw'=>w'.cell? ⟨wr.heap.size,0,none⟩=some (.int .i64 (j:Int))/\w'.cell? ⟨wr.heap.size,1,none⟩=some (.bool d)/\w'.cell? ⟨wr.heap.size,2,none⟩=some (.bool l)/\w'.cell? ⟨ba,oa+j*3,none⟩=some (.int .i64 xk)/\w'.cell? ⟨ba,oa+j*3+1,none⟩=some (.int .i64 xn)/\w'.cell? ⟨ba,oa+j*3+1+1,none⟩=some (.string xs)/\w'.cell? ⟨bb,ob+j*3,none⟩=some (.int .i64 zk)/\w'.cell? ⟨bb,ob+j*3+1,none⟩=some (.int .i64 zn)/\w'.cell? ⟨bb,ob+j*3+1+1,none⟩=some (.string zs)) (go_keep) (first|(go_at_call 177;refine(HCV.out _).mono ?_;rintro e w1 ⟨rfl,hT1⟩;obtain⟨e0,e1,e2,e3,e4,e5,e6,e7,e8⟩:=HK.out _ ((tr_.drew).trans hT1)))
     all_goals
      go_wp2;go_ret;refine⟨?_,((hT.alloc _).drew).trans hT1⟩;have:=HDD.out;rw[HE.out,this,if_pos HR.out];rfl
   ·obtain rfl:k=ks.length:=by omega
    have HF:Hid (cmpR ks a b=0):=by
     show cmpR ks a b=0;rw[HE.out,O_ (e_ _)];rfl
    go_wp2;go_ret;exact⟨by rw[HF.out];rfl,hT⟩
 ·have hks0:ks=[]:=by cases ks<;>simp_all
  subst hks0;obtain⟨ao,cap,rfl,_⟩:=hk;have HF:Hid (cmpR [] a b=0):=rfl;clear ha hb fa fb ga gb;simp only[List.map_nil,List.length_nil]at *;go_enter func196,ntmps196;go_wp2;refine wp_loop_rounds 1 ?_;rw[rounds_succ];go_wp2;go_ret;exact⟨by rw[HF.out];rfl,Touch.refl _ _⟩
theorem Ro.shape (h:Ro w v row):∃ao cap,v=.slice ao row.length cap:=by
 obtain⟨ao,cap,rfl,_⟩:=h;exact⟨ao,cap,by simp⟩
theorem Ro.touch (h:Ro w v row)(t:Touch [] w w'):Ro w' v row:=Sl3.keep h (t.tu _)
theorem KA.touch (h:KA w v ks)(t:Touch [] w w'):KA w' v ks:=Sl3.keep h (t.tu _)
theorem KA.shape (h:KA w v ks):∃ao cap,v=.slice ao ks.length cap:=by
 obtain⟨ao,cap,rfl,_⟩:=h;exact⟨ao,cap,by simp⟩
theorem bF {t:TypeId}(h:w.heap[k]?=some (.cells #[a,b] t (0,0))):w.cell? ⟨k,0,none⟩=some a/\w.cell? ⟨k,1,none⟩=some b:=by
 refine⟨?_,?_⟩<;>simp[World.cell?,h]
theorem cell2_new (w:World)(a b:Value)(t:TypeId):(w.alloc (.cells #[a,b] t)).cell? ⟨w.heap.size,0,none⟩=some a/\(w.alloc (.cells #[a,b] t)).cell? ⟨w.heap.size,1,none⟩=some b:=by
 exact bF (heap_alloc_new w _)
structure AB (ks:List K)(row:List V):Prop where
 fair:∀v∈row,Fair v
 keys:gK ks row.length
theorem ahead_any (w:World)(ps:Nat)(va vb vk:Value)(a b:Rec)(ks:List K)(hc:w.cell? ⟨ps,2,none⟩=some vk)(ha:Ro w va a.row)(hb:Ro w vb b.row)(hk:KA w vk ks)(fa:AB ks a.row)(fb:AB ks b.row) :
  Calls prog 165 #[.pointer (some ⟨ps,0,none⟩),.agg #[.int .i64 a.no,va],.agg #[.int .i64 b.no,vb]] w λe w'=>e=.returned (.bool (aB ks a b))/\Touch [] w w':=by
 have HC:Hid (∀w',Touch [] w w'->Calls prog 196 #[va,vb,vk] w' λe w''=>e=.returned (.int .i64 (cmpR ks a.row b.row))/\Touch [] w' w''):=λw' ht=>compare_any w' va vb vk a.row b.row ks (ha.touch ht) (hb.touch ht) (hk.touch ht) fa.fair fb.fair fa.keys fb.keys;have HE:=aH ks a b;obtain⟨ao,aC,rfl⟩:=ha.shape;obtain⟨bo,bcap,rfl⟩:=hb.shape;obtain⟨ko,kP,rfl⟩:=hk.shape;clear ha hb hk fa fb;generalize aB ks a b=r at *;generalize cmpR ks a.row b.row=x at *;obtain⟨an,ar⟩:=a;obtain⟨bn,br⟩:=b;simp only at *;generalize ar.length=al at *;generalize br.length=bl at *;generalize ks.length=kl at *;have hps:=lt_of_cell hc;simp only at hps;have HK:Hid (∀w',Touch [] ((w.alloc (.cells #[.int .i64 an,.slice ao al aC] 205)).alloc (.cells #[.int .i64 bn,.slice bo bl bcap] 205)) w'->w'.cell? ⟨w.heap.size,0,none⟩=some (.int .i64 an)/\w'.cell? ⟨w.heap.size,1,none⟩=some (.slice ao al aC)/\w'.cell? ⟨w.heap.size+1,0,none⟩=some (.int .i64 bn)/\w'.cell? ⟨w.heap.size+1,1,none⟩=some (.slice bo bl bcap)/\w'.cell? ⟨ps,2,none⟩=some (.slice ko kl kP)):=λw' ht=>by
  obtain⟨n0,n1⟩:=cell2_new w (.int .i64 an) (.slice ao al aC) 205;obtain⟨m0,m1⟩:=cell2_new (w.alloc (.cells #[.int .i64 an,.slice ao al aC] 205)) (.int .i64 bn) (.slice bo bl bcap) 205;simp only[World.size_alloc]at m0 m1;exact⟨cO (cai n0 _) ht,cO (cai n1 _) ht,cO m0 ht,cO m1 ht,cO (cai (cai hc _) _) ht⟩
 by_cases hx:x=0
 ·have hx0:(x != 0)=false:=by simp[hx]
  have HR:Hid (r=decide (an<bn)):=by rw[if_neg (λh=>h hx)]at HE;exact HE
  clear HE hx;go_enter func165,ntmps165;go_wp2
  go_region_held3 (λw'=>w'.cell? ⟨w.heap.size,0,none⟩=some (.int .i64 an)/\w'.cell? ⟨w.heap.size,1,none⟩=some (.slice ao al aC)/\w'.cell? ⟨w.heap.size+1,0,none⟩=some (.int .i64 bn)/\w'.cell? ⟨w.heap.size+1,1,none⟩=some (.slice bo bl bcap)/\w'.cell? ⟨ps,2,none⟩=some (.slice ko kl kP)) (go_keep) (first|(go_at_call 196;refine(HC.out _ (((tr_.alloc _).alloc _).drew)).mono ?_;rintro e w1 ⟨rfl,hT1⟩;obtain⟨e0,e1,e2,e3,e4⟩:=HK.out _ ((tr_.drew).trans hT1)))
  all_goals
   go_wp2;go_ret;exact⟨by rw[HR.out];rfl,(((tr_.alloc _).alloc _).drew).trans hT1⟩
 ·have hx0:(x != 0)=true:=by simp[hx]
  have HR:Hid (r=decide (x<0)):=by rw[if_pos hx]at HE;exact HE
  clear HE hx;go_enter func165,ntmps165;go_wp2
  go_region_held3 (λw'=>w'.cell? ⟨w.heap.size,0,none⟩=some (.int .i64 an)/\w'.cell? ⟨w.heap.size,1,none⟩=some (.slice ao al aC)/\w'.cell? ⟨w.heap.size+1,0,none⟩=some (.int .i64 bn)/\w'.cell? ⟨w.heap.size+1,1,none⟩=some (.slice bo bl bcap)/\w'.cell? ⟨ps,2,none⟩=some (.slice ko kl kP)) (go_keep) (first|(go_at_call 196;refine(HC.out _ (((tr_.alloc _).alloc _).drew)).mono ?_;rintro e w1 ⟨rfl,hT1⟩;obtain⟨e0,e1,e2,e3,e4⟩:=HK.out _ ((tr_.drew).trans hT1)))
  all_goals
   go_wp2;go_ret;exact⟨by rw[HR.out];rfl,(((tr_.alloc _).alloc _).drew).trans hT1⟩
def eP (no:Int)(v:Value)(run size:Int):Value:=.agg #[.int .i64 no,v,.int .i64 run,.int .i64 size]
theorem bJ {c d:Value}{t:TypeId}(h:w.heap[k]?=some (.cells #[a,b,c,d] t (0,0))):w.cell? ⟨k,0,none⟩=some a/\w.cell? ⟨k,1,none⟩=some b/\w.cell? ⟨k,2,none⟩=some c/\w.cell? ⟨k,3,none⟩=some d:=by
 refine⟨?_,?_,?_,?_⟩<;>simp[World.cell?,h]
theorem entAhead_any (w:World)(bs ps:Nat)(va vb vk:Value)(a b:Ent)(ks:List K)(hs:w.cell? ⟨bs,0,none⟩=some (.pointer (some ⟨ps,0,none⟩)))(hc:w.cell? ⟨ps,2,none⟩=some vk)(ha:Ro w va a.rc.row)(hb:Ro w vb b.rc.row)(hk:KA w vk ks)(fa:AB ks a.rc.row)(fb:AB ks b.rc.row) :
  Calls prog 164 #[eP a.rc.no va a.run a.size,eP b.rc.no vb b.run b.size,.pointer (some ⟨bs,0,none⟩)] w λe w'=>e=.returned (.bool (lN ks a b))/\Touch [] w w':=by
 have HC:Hid (∀w',Touch [] w w'->Calls prog 165 #[.pointer (some ⟨ps,0,none⟩),.agg #[.int .i64 a.rc.no,va],.agg #[.int .i64 b.rc.no,vb]] w' λe w''=>e=.returned (.bool (aB ks a.rc b.rc))/\Touch [] w' w''):=λw' ht=>ahead_any w' ps va vb vk a.rc b.rc ks (cO hc ht) (ha.touch ht) (hb.touch ht) (hk.touch ht) fa fb;have HE:=lD ks a b;obtain⟨ao,aC,rfl⟩:=ha.shape;obtain⟨bo,bcap,rfl⟩:=hb.shape;clear ha hb hk fa fb hc;generalize lN ks a b=r at *;generalize aB ks a.rc b.rc=x at *;obtain⟨⟨an,ar⟩,au,asz⟩:=a;obtain⟨⟨bn,br⟩,bK,bsz⟩:=b;simp only[eP]at *;generalize ar.length=al at *;generalize br.length=bl at *;have hbs:=lt_of_cell hs;simp only at hbs;by_cases hr:au=bK
 ·have HR:Hid (r=x):=by rw[if_neg (λh=>h hr)]at HE;exact HE
  have hr0:(au != bK)=false:=by simp[hr]
  clear HE hr;go_enter func164,ntmps164
  go_wp2_with (go_at_call 165;refine(HC.out _ ((tr_.alloc _).alloc _)).mono ?_;rintro e w1 ⟨rfl,hT1⟩)
  go_ret;exact⟨by rw[HR.out];rfl,((tr_.alloc _).alloc _).trans hT1⟩
 ·have HR:Hid (r=decide (au<bK)):=by rw[if_pos hr]at HE;exact HE
  have hr0:(au != bK)=true:=by simp[hr]
  clear HE hr;go_enter func164,ntmps164;go_wp2;go_ret;exact⟨by rw[HR.out];rfl,(tr_.alloc _).alloc _⟩
def sV (v:V):Nat:=if v.k=1 then 9 else if v.k=2 then 3+v.s.size else if v.k=3 then 2 else 1
def sZ (row:List V):Nat:=8+(row.map sV).sum
theorem sizeV_le {v:V}(h:Fair v):sV v<=203:=by
 unfold sV;rcases h with h|h|h|h
 ·rw[if_neg (by omega),if_neg (by omega),if_neg (by omega)];omega
 ·rw[if_pos h.1];omega
 ·rw[if_neg (by omega),if_pos h.1];omega
 ·rw[if_neg (by omega),if_neg (by omega),if_pos h.1];omega
theorem sum_le (h:∀v∈l,Fair v):(l.map sV).sum<=203*l.length:=by
 induction l with
 | nil=>simp
 | cons v l ih=>
  have h1:=sizeV_le (h v (by simp));have h2:=ih (λx hx=>h x (by simp[hx]));simp only[List.map_cons,List.sum_cons,List.length_cons];omega
theorem sum_snoc (l:List V)(v:V):((l++[v]).map sV).sum=(l.map sV).sum+sV v:=by simp
theorem valueSize_any (v:V)(w:World)(hs:v.s.size<=1000000000):Calls prog 175 #[v.val] w λe w'=>e=.returned (.int .i64 (sV v:Int))/\Touch [] w w':=by
 obtain⟨k,n,s⟩:=v;simp only[V.val]at *;have E:Hid (sV ⟨k,n,s⟩=if k=1 then 9 else if k=2 then 3+s.size else if k=3 then 2 else 1):=rfl;generalize sV ⟨k,n,s⟩=r at *;by_cases h1:k=1
 ·have h1b:(k == 1)=true:=by simp[h1]
  have E1:Hid (r=9):=by have:=E.out;rw[if_pos h1]at this;exact this
  clear E h1;go_enter func175,ntmps175;go_wp2;go_ret;exact⟨by rw[E1.out];rfl,(Touch.refl _ _).alloc _⟩
 ·have h1b:(k == 1)=false:=by simp[h1]
  by_cases h2:k=2
  ·have h2b:(k == 2)=true:=by simp[h2]
   have E1:Hid (r=3+s.size):=by have:=E.out;rw[if_neg h1,if_pos h2]at this;exact this
   clear E h1 h2;go_enter func175,ntmps175;go_wp2;go_ret;exact⟨by rw[E1.out];go_num,(Touch.refl _ _).alloc _⟩
  ·have h2b:(k == 2)=false:=by simp[h2]
   by_cases h3:k=3
   ·have h3b:(k == 3)=true:=by simp[h3]
    have E1:Hid (r=2):=by have:=E.out;rw[if_neg h1,if_neg h2,if_pos h3]at this;exact this
    clear E h1 h2 h3;go_enter func175,ntmps175;go_wp2;go_ret;exact⟨by rw[E1.out];rfl,(Touch.refl _ _).alloc _⟩
   ·have h3b:(k == 3)=false:=by simp[h3]
    have E1:Hid (r=1):=by have:=E.out;rw[if_neg h1,if_neg h2,if_neg h3]at this;exact this
    clear E h1 h2 h3;go_enter func175,ntmps175;go_wp2;go_ret;exact⟨by rw[E1.out];rfl,(Touch.refl _ _).alloc _⟩
theorem size_any (w:World)(v:Value)(row:List V)(h:Ro w v row)(hf:∀x∈row,Fair x)(hl:row.length<=1000000):Calls prog 141 #[v] w λe w'=>e=.returned (.int .i64 (sZ row:Int))/\Touch [] w w':=by
 by_cases hr:1<=row.length
 ·obtain⟨b,off,cap,rfl,hc,hm,hb,hx⟩:=Sl3.open h (by simpa using hr);simp only[u_]at *;unfold maxLen at hm;have HX:Hid (∀w',Touch [] w w'->∀i (h:i<row.length),w'.cell? ⟨b,off+i*3,none⟩=some (.int .i64 row[i].k)/\w'.cell? ⟨b,off+i*3+1,none⟩=some (.int .i64 row[i].n)/\w'.cell? ⟨b,off+i*3+1+1,none⟩=some (.string row[i].s)):=λw' ht i hi=>by
   have:=hx w' (ht.tu _) i (by simpa using hi);simpa[V.t]using this
  have HF:Hid (∀x∈row,Fair x):=hf;clear h hx hf;go_enter func141,ntmps141;go_wp2
  go_loopw [3,8] (λa i wr=>∃k:Nat,k<=row.length/\i=.int .i64 k/\a=.int .i64 (8+(((row.take k).map sV).sum:Int))/\Touch [] w wr) (λ_ i _=>row.length-(intOf i).toNat)
  case atStart=>exact⟨0,by omega,rfl,by simp,Touch.refl _ _⟩
  case round=>
   obtain⟨k,hk,rfl,rfl,hT⟩:=hrel;have hsz:=hT.size;by_cases hlt:k<row.length
   ·obtain⟨c0,c1,c2⟩:=HX.out wr hT k hlt;have hsum:=sum_le (l:=row.take k) (λx hx=>HF.out x (L_ hx));rw[List.length_take_of_le (by omega)]at hsum;have hfv:=HF.out row[k] (m_ _);have hsv:=sizeV_le hfv;have HS:Hid (((row.take (k+1)).map sV).sum=((row.take k).map sV).sum+sV row[k]):=by
     show _=_;rw[take_snoc' row k hlt,sum_snoc]
    have hss:row[k].s.size<=1000000000:=by
     rcases hfv with h|h|h|h
     ·rw[h.2.2];decide
     ·rw[h.2.2];decide
     ·omega
     ·rw[h.2.2];decide
    have HV:Hid (∀w,Calls prog 175 #[row[k].val] w λe w'=>e=.returned (.int .i64 (sV row[k]:Int))/\Touch [] w w'):=λw=>valueSize_any _ w hss;clear hfv hss;generalize sV row[k]=sv at *;generalize hq:((row.take k).map sV).sum=q at *;generalize row[k]=x at *;obtain⟨xk,xn,xs⟩:=x;simp only[V.val]at *;have hbb:b<wr.heap.size:=by omega
    clear hq
    go_wp2_with (go_at_call 175;refine(HV.out _).mono ?_;rintro e w1 ⟨rfl,hT1⟩)
    go_roundw
    case rel=>exact⟨k+1,by omega,by go_num,by rw[HS.out];go_num,(hT.alloc _).trans hT1⟩
    case measure=>simp[intOf];omega
   ·obtain rfl:k=row.length:=by omega
    have HS:Hid (sZ row=8+((row.take row.length).map sV).sum):=by show _=_;rw[bf_];rfl
    generalize ((row.take row.length).map sV).sum=q at *;go_wp2;go_ret;exact⟨by rw[HS.out];go_num,hT⟩
 ·have hr0:row=[]:=by cases row<;>simp_all
  subst hr0;obtain⟨ao,cap,rfl,_⟩:=h;have HS:Hid (sZ []=8):=rfl;clear hf;simp only[List.map_nil,List.length_nil]at *;go_enter func141,ntmps141;go_wp2;refine wp_loop_rounds 1 ?_;rw[rounds_succ];go_wp2;go_ret;exact⟨by rw[HS.out];rfl,Touch.refl _ _⟩
end Go.Proofs.YtjoinhljdbljaaaGreat
