/- A record read back out of its bytes, and what follows. -/
import Derived.Test.YtjoinhljdbljaaaGreatRecGToRecH
import Derived.Deep.Cut
import Derived.Deep.CutRange
set_option maxHeartbeats 2000000
set_option maxRecDepth 20000
set_option linter.unusedSectionVars false
namespace Go.Proofs.YtjoinhljdbljaaaGreat
open Go.RowKit Go.Proofs.Tryz
variable {B cols g n o:Nat} {M cs:Array Value} {a:FL} {k no:Int} {l:List FL} {vs:List V} {w w' wc:World}
theorem info85:(prog.info? 85).map (λi=>(i.zero,i.size,i.bytes))=some (some (.agg #[.int .i64 0,.int .i64 0,.string ⟨#[]⟩]),3,32):=by kernel_rfl
def Po (w:World)(g cols:Nat)(vs:List V):Prop:=∃cur,w.heap[g]?=some (.cells cur 85 (0,0))/\cur.size=cols*3/\vs.length<=cols /\
 ∀i (h:i<vs.length),cur[i*3]?=some (.int .i64 vs[i].k)/\cur[i*3+1]?=some (.int .i64 vs[i].n)/\cur[i*3+2]?=some (.string vs[i].s)
theorem Po.row (h:Po w g cols vs)(hl:vs.length=cols)(hc:cols<=1000):Ro w (.slice (some ⟨g,0,none⟩) cols cols) vs:=by
 obtain⟨cur,hb,_,_,hx⟩:=h;refine⟨some ⟨g,0,none⟩,cols,by simp[hl],by simp[hl],by unfold maxLen;omega,λ_=>⟨g,0,cur,(0,0),rfl,hb,λi hi=>?_⟩⟩;have:=hx i (by simpa using hi);simpa[V.t]using this
def put3 (w:World)(g o:Nat)(a b c:Value):World:=((w.setCell ⟨g,o,none⟩ a).setCell ⟨g,o+1,none⟩ b).setCell ⟨g,o+2,none⟩ c
theorem put3_heap {a b c:Value}{t:TypeId}(h:w.heap[g]?=some (.cells cs t (0,0))) :
  (put3 w g o a b c).heap[g]?=some (.cells (((cs.setIfInBounds o a).setIfInBounds (o+1) b).setIfInBounds (o+2) c) t (0,0)):=
 heap_setCell_same _ _ _ _ _ _ (heap_setCell_same _ _ _ _ _ _ (heap_setCell_same _ _ _ _ _ _ h))
theorem put3_touch (w:World)(g o:Nat)(a b c:Value):Touch [g] w (put3 w g o a b c):=
 (((Touch.refl [g] w).setCell (p:=⟨g,o,none⟩) (by simp) a).setCell (p:=⟨g,o+1,none⟩) (by simp) b).setCell (p:=⟨g,o+2,none⟩) (by simp) c
theorem get_set' (cs:Array Value)(o k:Nat)(v:Value):(cs.setIfInBounds o v)[k]?=if o=k then(if o<cs.size then some v else none)else cs[k]?:=by
 rw[E_]
theorem Po.put (h:Po w g cols vs)(v:V)(hl:vs.length<cols):Po (put3 w g (vs.length*3) (.int .i64 v.k) (.int .i64 v.n) (.string v.s)) g cols (vs++[v]):=by
 obtain⟨cur,hb,hs,_,hx⟩:=h;refine⟨_,put3_heap hb,by simpa using hs,by simp;omega,λi hi=>?_⟩;simp only[c_,List.length_cons,List.length_nil]at hi;simp only[get_set',az_,hs];by_cases e:i<vs.length
 ·obtain⟨a,b,c⟩:=hx i e;rw[G_ e];rw[if_neg (by omega),if_neg (by omega),if_neg (by omega),if_neg (by omega),if_neg (by omega),if_neg (by omega),if_neg (by omega),if_neg (by omega),if_neg (by omega)];exact⟨a,b,c⟩
 ·have e1:i=vs.length:=by omega
  subst e1;rw[List.getElem_append_right (e_ _)];simp only[Nat.sub_self,List.getElem_cons_zero];refine⟨?_,?_,?_⟩
  ·rw[if_neg (by omega),if_neg (by omega),if_pos trivial,if_pos (by omega)]
  ·rw[if_neg (by omega),if_pos trivial,if_pos (by omega)]
  ·rw[if_pos trivial,if_pos (by omega)]
theorem Po.touch {F:List Nat}(h:Po w g cols vs)(t:Touch F w w')(hg:g∉F):Po w' g cols vs:=by
 obtain⟨cur,hb,hx⟩:=h;exact⟨cur,by rw[t.block g (agi.1 hb).1 hg];exact hb,hx⟩
theorem Po.cell {w:World}{g cols:Nat}{vs:List V}(h:Po w g cols vs)(i:Nat)(hi:i<cols):∃a b c,w.cell? ⟨g,i*3,none⟩=some a/\w.cell? ⟨g,i*3+1,none⟩=some b/\w.cell? ⟨g,i*3+2,none⟩=some c/\∀o,w.frozen? ⟨g,o,none⟩=false:=by
 obtain⟨cur,hb,hs,_⟩:=h;refine⟨cur[i*3]'(by omega),cur[i*3+1]'(by omega),cur[i*3+2]'(by omega),?_,?_,?_,?_⟩
 ·simp[World.cell?,hb,show i*3<cur.size by omega]
 ·simp[World.cell?,hb,show i*3+1<cur.size by omega]
 ·simp[World.cell?,hb,show i*3+2<cur.size by omega]
 ·intro o;simp[World.frozen?,hb]
theorem make_row (cols:Nat)(hc:cols<=1000):∃M:Array Value,M.size=cols*3/\∀W:World,(Instr.makeSlice 83 (.int .i64 (cols:Int)) (.int .i64 (cols:Int))).run prog W=.ok (.slice (some ⟨W.heap.size,0,none⟩) cols cols) (W.alloc (.cells M 85)):=by
 obtain⟨i0,hi,hz0,hz1,hz2⟩:=info_parts info85;refine⟨madeCells (Value.agg #[.int .i64 0,.int .i64 0,.string ⟨#[]⟩]).cells (((cols:Nat):Int).toNat*i0.size),by rw[size_madeCells,hz1];simp,λW=>?_⟩;have h:=run_make (P:=prog) W 83 85 i0 (.agg #[.int .i64 0,.int .i64 0,.string ⟨#[]⟩]) underlying83 hi hz0 .i64 .i64 (cols:Int) (cols:Int) (by omega) (by omega) (by rw[hz2];omega) (by omega);simpa using h
def TK (w:World)(no:Int)(n:Nat)(vs:List V)(B g:Nat)(wc:World):Prop:=
 wc.heap[B]?=some (.cells #[.int .i64 no,.slice (some ⟨g,0,none⟩) n n] 205 (0,0))/\Po wc g n vs/\wc.heap[w.heap.size]?=some (.cells #[.int .i64 0,.slice none 0 0] 205 (0,0))/\w.heap.size<B/\w.heap.size<g/\Touch [] w wc
theorem TK.ne (h:TK w no n vs B g wc):B≠g:=by
 obtain⟨h1,⟨cur,h2,_⟩,_⟩:=h;intro e;subst e;rw[h1]at h2;simp at h2
theorem TK.start1 (hM:M.size=n*3) :
  TK w no n [] (w.heap.size+1+1) (w.heap.size+1) ((((w.alloc (.cells #[.int .i64 0,.slice none 0 0] 205)).alloc (.cells M 85)).alloc (.cells #[.int .i64 no,.slice (some ⟨w.heap.size+1,0,none⟩) n n] 205)).drew):=by
 refine⟨?_,⟨M,?_,hM,by simp,by simp⟩,?_,by omega,by omega,((((Touch.refl _ _).alloc _).alloc _).alloc _).drew⟩
 ·have:=heap_alloc_new ((w.alloc (.cells #[.int .i64 0,.slice none 0 0] 205)).alloc (.cells M 85)) (.cells #[.int .i64 no,.slice (some ⟨w.heap.size+1,0,none⟩) n n] 205);simp only[World.size_alloc]at this;exact this
 ·show(World.alloc _ _).heap[_]?=_;rw[Below.heap_alloc _ _ _ (by simp)];have:=heap_alloc_new (w.alloc (.cells #[.int .i64 0,.slice none 0 0] 205)) (.cells M 85);simp only[World.size_alloc]at this;exact this
 ·show(World.alloc _ _).heap[_]?=_;rw[Below.heap_alloc _ _ _ (by simp;omega),Below.heap_alloc _ _ _ (by simp)];exact heap_alloc_new w _
theorem TK.start2 (hM:M.size=n*3) :
  TK w no n [] (w.heap.size+1) (w.heap.size+1+1) ((((w.alloc (.cells #[.int .i64 0,.slice none 0 0] 205)).alloc (.cells #[.int .i64 no,.slice (some ⟨w.heap.size+1+1,0,none⟩) n n] 205)).alloc (.cells M 85)).drew):=by
 refine⟨?_,⟨M,?_,hM,by simp,by simp⟩,?_,by omega,by omega,((((Touch.refl _ _).alloc _).alloc _).alloc _).drew⟩
 ·show(World.alloc _ _).heap[_]?=_;rw[Below.heap_alloc _ _ _ (by simp)];have:=heap_alloc_new (w.alloc (.cells #[.int .i64 0,.slice none 0 0] 205)) (.cells #[.int .i64 no,.slice (some ⟨w.heap.size+1+1,0,none⟩) n n] 205);simp only[World.size_alloc]at this;exact this
 ·have:=heap_alloc_new ((w.alloc (.cells #[.int .i64 0,.slice none 0 0] 205)).alloc (.cells #[.int .i64 no,.slice (some ⟨w.heap.size+1+1,0,none⟩) n n] 205)) (.cells M 85);simp only[World.size_alloc]at this;exact this
 ·show(World.alloc _ _).heap[_]?=_;rw[Below.heap_alloc _ _ _ (by simp;omega),Below.heap_alloc _ _ _ (by simp)];exact heap_alloc_new w _
theorem take_any (r:Rec)(hn:I64 r.no)(hf:∀v∈r.row,Fair v)(hc1:1<=r.row.length)(hc:r.row.length<=1000)(l:List UInt8)(w:World) :
  Calls prog 158 #[.string (BA (encR r++l)),.int .i64 (r.row.length:Int)] w λe w'=>∃g,e=.returned (.tuple #[.agg #[.int .i64 r.no,.slice (some ⟨g,0,none⟩) r.row.length r.row.length],.string (BA l)])/\Ro w' (.slice (some ⟨g,0,none⟩) r.row.length r.row.length) r.row/\w.heap.size<=g/\Touch [] w w':=by
 obtain⟨no,row⟩:=r;simp only at *;obtain⟨M,hM,hmk⟩:=make_row row.length hc;have e0:encR ⟨no,row⟩++l=eu (un no)++(row.flatMap eH++l):=by simp[encR]
 rw[e0];have e1:(BA (eu (un no)++(row.flatMap eH++l))).extract 8 (BA (eu (un no)++(row.flatMap eH++l))).size=BA (row.flatMap eH++l):=by
  rw[Bd,aq_ (by rw[eF];omega),O_ (by rw[eF];omega)];rfl
 have z1i:(8:Int)<=((BA (eu (un no)++(row.flatMap eH++l))).size:Int):=by have h:=B_ (eu (un no)++(row.flatMap eH++l));simp only[c_,eF]at h;omega
 have HW:Hid (∀w,Calls prog 193 #[.string (BA (eu (un no)++(row.flatMap eH++l)))] w λe w'=>e=.returned (.int .u64 (un no:Int))/\w'=w):=λw=>wO (un no) (un_lt no) _ w;have hw:=wrap_un' no hn;have HF:Hid (∀v∈row,Fair v):=hf;clear e0 hf;generalize BA (eu (un no)++(row.flatMap eH++l))=s0 at *;generalize hs1:BA (row.flatMap eH++l)=s1 at *;have HS1:Hid (BA (row.flatMap eH++l)=s1):=hs1;clear hs1;generalize un no=u at *;go_enter func158,ntmps158;go_wp2
 go_cut [6] from 8 (λa wc=>∃B g,a=.pointer (some ⟨B,0,none⟩)/\TK w no row.length [] B g wc)
 case first=>
  go_region_held3 (λ_=>True) (go_keep) (first|(go_at_call 193;refine(HW.out _).mono ?_;rintro e w1 ⟨rfl,rfl⟩))
  all_goals
   go_wp2_with fail
   go_meet
   case rel=>first|exact⟨_,_,rfl,TK.start1 hM⟩|exact⟨_,_,rfl,TK.start2 hM⟩
 case rest=>
  obtain⟨B,g,rfl,hst⟩:=hcut;clear hmk hM;obtain⟨q0,q1⟩:=bF hst.1;go_wp2
  go_loopw [0,19] (λt i wr=>∃k:Nat,k<=row.length/\i=.int .i64 k/\t=.string (BA ((row.drop k).flatMap eH++l))/\TK w no row.length (row.take k) B g wr) (λ_ i _=>row.length-(intOf i).toNat)
  case atStart=>exact⟨0,by omega,rfl,by rw[<-HS1.out];rfl,hst⟩
  case round=>
   clear hst q0 q1;obtain⟨k,hk,rfl,rfl,hst⟩:=hrel;by_cases hlt:k<row.length
   ·have HTV:Hid (∀w,Calls prog 194 #[.string (BA ((row.drop k).flatMap eH++l))] w λe w'=>e=.returned (.tuple #[row[k].val,.string (BA ((row.drop (k+1)).flatMap eH++l))])/\Touch [] w w'):=λw=>by
     have:=takeVal_any row[k] (HF.out _ (m_ _)) ((row.drop (k+1)).flatMap eH++l) w;rw[J_ hlt,List.flatMap_cons,F_];exact this
    have HNX:Hid (∀W,Touch [] wr W->TK w no row.length (row.take (k+1)) B g (put3 W g (k*3) (.int .i64 row[k].k) (.int .i64 row[k].n) (.string row[k].s))):=λW hW=>by
     have hne:=hst.ne;obtain⟨h1,h2,h3,h4,h5,h6⟩:=hst;have hl:(row.take k).length=k:=by rw[W_];omega
     have hp:=(h2.touch hW (by simp)).put row[k] (by omega);rw[hl]at hp;have ht:=put3_touch W g (k*3) (.int .i64 row[k].k) (.int .i64 row[k].n) (.string row[k].s);refine⟨?_,by rw[take_snoc' row k hlt];exact hp,?_,h4,h5,?_⟩
     ·rw[ht.block B (by have:=(agi.1 h1).1;have:=hW.size;omega) (by simp;exact hne),hW.block B (agi.1 h1).1 (by simp)];exact h1
     ·rw[ht.block _ (by have:=(agi.1 h3).1;have:=hW.size;omega) (by simp;omega),hW.block _ (agi.1 h3).1 (by simp)];exact h3
     ·exact(h6.trans hW).onto ht (λi hi=>.inr (by simp at hi;omega))
    have HCL:Hid (∀W,Touch [] wr W->(∃a b c,W.cell? ⟨g,k*3,none⟩=some a/\W.cell? ⟨g,k*3+1,none⟩=some b/\W.cell? ⟨g,k*3+2,none⟩=some c/\∀o,W.frozen? ⟨g,o,none⟩=false)/\W.cell? ⟨B,1,none⟩=some (.slice (some ⟨g,0,none⟩) row.length row.length)):=λW hW=>by
     refine⟨(hst.2.1.touch hW (by simp)).cell k hlt,?_⟩;have:=hst.1;rw[<-hW.block B (agi.1 this).1 (by simp)]at this;exact(bF this).2
    obtain⟨⟨ca,cb,cc,x0,x1,x2,xf⟩,q1⟩:=HCL.out wr (Touch.refl _ _);have hBg:=hst.ne;have hgB:=hBg.symm;clear hst;generalize hs2:BA ((row.drop (k+1)).flatMap eH++l)=s2 at *;have HS2:Hid (BA ((row.drop (k+1)).flatMap eH++l)=s2):=hs2;clear hs2;generalize BA ((row.drop k).flatMap eH++l)=s3 at *;generalize row[k]=x at *;obtain⟨xk,xn,xs⟩:=x;simp only[V.val]at *;clear x0 x1 x2 xf ca cb cc;go_wp2
    go_region_held3 (λw'=>w'.cell? ⟨B,1,none⟩=some (.slice (some ⟨g,0,none⟩) row.length row.length)) (go_keep) (first|(go_at_call 194;refine(HTV.out _).mono ?_;rintro e w1 ⟨rfl,hT1⟩;obtain⟨⟨ca,cb,cc,x0,x1,x2,xf⟩,q2⟩:=HCL.out _ ((tr_.drew).trans hT1);have f0:=xf (k*3);have f1:=xf (k*3+1);have f2:=xf (k*3+2);clear xf))
    go_wp2
    go_roundw
    case rel=>exact⟨k+1,by omega,by go_num,by rw[HS2.out],HNX.out w1 ((tr_.drew).trans hT1)⟩
    case measure=>simp[intOf];omega
   ·obtain rfl:k=row.length:=by omega
    obtain⟨h1,h2,h3,h4,h5,h6⟩:=hst;obtain⟨q0,q1⟩:=bF h1;obtain⟨x0,x1⟩:=bF h3;have y0:wr.frozen? ⟨w.heap.size,0,none⟩=false:=by simp[World.frozen?,h3]
    have y1:wr.frozen? ⟨w.heap.size,1,none⟩=false:=by simp[World.frozen?,h3]
    have HQ:Hid (Po wr g row.length (row.take row.length)/\wr.heap[w.heap.size]?=some (.cells #[.int .i64 0,.slice none 0 0] 205 (0,0))/\Touch [] w wr):=⟨h2,h3,h6⟩;have HR:Hid ((row.drop row.length).flatMap eH++l=l/\row.take row.length=row):=⟨by simp,by simp⟩;rw[HR.out.1];clear h1 h2 h3 h6;go_wp2;refine bodyPost_ret (v:=.tuple #[.agg #[.int .i64 no,.slice (some ⟨g,0,none⟩) row.length row.length],.string (BA l)]) (by simp[results,results158,go_sem,x0,x1]) rfl ⟨g,rfl,?_,by omega,?_⟩
    ·have ht:=((Touch.refl [w.heap.size] wr).setCell (p:=⟨w.heap.size,0,none⟩) (by simp) (.int .i64 no)).setCell (p:=⟨w.heap.size,1,none⟩) (by simp) (.slice (some ⟨g,0,none⟩) row.length row.length);have:=HQ.out.1;rw[HR.out.2]at this;exact(this.touch ht (by simp;omega)).row rfl hc
    ·have ht:=((Touch.refl [w.heap.size] wr).setCell (p:=⟨w.heap.size,0,none⟩) (by simp) (.int .i64 no)).setCell (p:=⟨w.heap.size,1,none⟩) (by simp) (.slice (some ⟨g,0,none⟩) row.length row.length);exact HQ.out.2.2.onto ht (λi hi=>.inr (by simp at hi;omega))
def stepS (a:Nat)(b:UInt8):Nat:=((a ^^^ b.toNat)*1099511628211)%18446744073709551616
theorem fold_snoc {α β:Type}(f:α->β->α)(a:α)(l:List β)(b:β):(l++[b]).foldl f a=f (l.foldl f a) b:=by rw[List.foldl_append,List.foldl_cons,List.foldl_nil]
def sumN (l:List UInt8):Nat:=l.foldl stepS 14695981039346656037
theorem sumN_snoc (l:List UInt8)(b:UInt8):sumN (l++[b])=stepS (sumN l) b:=fold_snoc stepS 14695981039346656037 l b
theorem stepS_lt (a:Nat)(b:UInt8):stepS a b<18446744073709551616:=Nat.mod_lt _ (by omega)
theorem sumN_lt (l:List UInt8):sumN l<18446744073709551616:=by
 rcases List.eq_nil_or_concat l with rfl|⟨l',b,rfl⟩
 ·show 14695981039346656037<18446744073709551616;omega
 ·rw[List.concat_eq_append,sumN_snoc];exact stepS_lt _ _
theorem stepS_walk (a:Nat)(b:UInt8)(ha:a<18446744073709551616):IntKind.u64.wrap (bits .xor .u64 (a:Int) (IntKind.u64.wrap (b.toNat:Int))*1099511628211)=((stepS a b:Nat):Int):=by
 have hb:=b.toNat_lt;have e2:IntKind.u64.wrap (b.toNat:Int)=((b.toNat:Nat):Int):=by rw[IntKind.wrap_u64];omega
 rw[e2,u64_xor_nat _ _ ha (by omega),IntKind.wrap_u64];unfold stepS;omega
theorem sumOf_any (s:ByteArray)(w:World)(hs:s.size<=1000000000):Calls prog 214 #[.string s] w λe w'=>e=.returned (.int .u64 (sumN s.data.toList:Int))/\w'=w:=by
 go_enter func214,ntmps214;go_wp2
 go_loopw [3,7] (λa i wr=>∃k:Nat,k<=s.size/\i=.int .i64 k/\a=.int .u64 (sumN (s.data.toList.take k):Int)/\wr=w) (λ_ i _=>s.size-(intOf i).toNat)
 case atStart=>exact⟨0,by omega,rfl,rfl,rfl⟩
 case round=>
  obtain⟨k,hk,rfl,rfl,rfl⟩:=hrel;by_cases hlt:k<s.size
  ·have HST:Hid (sumN (s.data.toList.take (k+1))=stepS (sumN (s.data.toList.take k)) s[k]):=by
    show _=_;rw[take_snoc s k hlt,sumN_snoc]
   have hl:=sumN_lt (s.data.toList.take k);have HW:Hid _:=stepS_walk (sumN (s.data.toList.take k)) s[k] hl;generalize sumN (s.data.toList.take k)=x at *;go_wp2
   go_roundw
   case rel=>
    refine⟨k+1,by omega,by go_num,?_,trivial⟩;rw[HST.out,<-HW.out]
   case measure=>simp[intOf];omega
  ·obtain rfl:k=s.size:=by omega
   have HE:Hid (s.data.toList.take s.size=s.data.toList):=N_ (by simp);generalize hx:sumN (s.data.toList.take s.size)=x at *;have HX:Hid (sumN s.data.toList=x):=by rw[HE.out]at hx;exact hx
   clear hx;go_wp2;go_ret;exact⟨by rw[HX.out];rfl,rfl⟩
def pz (file n:Nat):Nat:=file*4294967296+n
theorem place_any (file n:Nat)(hf:file<=1000000000)(hn:n<=1000000000)(w:World):Calls prog 215 #[.int .i64 (file:Int),.int .i64 (n:Int)] w λe w'=>e=.returned (.int .u64 (pz file n:Int))/\w'=w:=by
 go_enter func215,ntmps215;go_wp2;go_ret;refine⟨?_,rfl⟩;have e:((pz file n:Nat):Int)=(file:Int)*4294967296+(n:Int):=by unfold pz;omega
 rw[e];rfl
def sD (file n:Nat)(bs:List UInt8):List UInt8:=eu (sumN bs)++(eu (pz file n)++bs)
theorem sealB_len (file n:Nat)(bs:List UInt8):(sD file n bs).length=16+bs.length:=by simp only[sD,c_,eF];omega
theorem make_bytes (n:Nat)(hn:n<=10000000):∃M:Array Value,M.size=n/\∀W:World,(Instr.makeSlice 172 (.int .i64 0) (.int .i64 (n:Int))).run prog W=.ok (.slice (some ⟨W.heap.size,0,none⟩) 0 n) (W.alloc (.cells M 5)):=by
 obtain⟨i0,hi,hz0,hz1,hz2⟩:=info_parts info5;refine⟨madeCells (Value.int .u8 0).cells (((n:Nat):Int).toNat*i0.size),by rw[size_madeCells,hz1];simp,λW=>?_⟩;have h:=run_make (P:=prog) W 172 5 i0 (.int .u8 0) underlying172 hi hz0 .i64 .i64 0 (n:Int) (by omega) (by omega) (by rw[hz2];omega) (by omega);simpa using h
theorem Tx.made (w:World)(M:Array Value)(n:Nat)(hM:M.size=n)(hn:n<=10000000):Tx (w.alloc (.cells M 5)) w.heap.size (.slice (some ⟨w.heap.size,0,none⟩) 0 n) []:=by
 refine⟨by simp,.inr ⟨w.heap.size,n,M,rfl,e_ _,heap_alloc_new w _,x_ _,by unfold maxLen;omega,by simpa using hM,by simp⟩⟩
theorem seal_any (w:World)(base:Nat)(bv:Value)(bs:List UInt8)(file n:Nat)(hT:Tx w base bv bs)(h1:1<=bs.length)(hl:bs.length<=1000000)(hf:file<=1000000000)(hn:n<=1000000000) :
  Calls prog 188 #[.int .i64 (file:Int),.int .i64 (n:Int),bv] w λe w'=>e=.returned (.string (BA (sD file n bs)))/\Below w.heap.size w w':=by
 obtain⟨m,hm0⟩:∃m,m=16+bs.length:=⟨_,rfl⟩;have hmi:(16:Int)+(bs.length:Int)=(m:Int):=by omega
 have hm1:m<=10000000:=by omega
 obtain⟨M,hM,hmk⟩:=make_bytes m hm1;obtain⟨g,cap,cur,hv,hbg,hc,hm,hs,hh,hx⟩:=hT.shape h1;have hglt:g<w.heap.size:=(agi.1 hh).1;have hcv:(convert 172 9 bv).run prog (w.alloc (.cells M 5))=.ok (.string (BA bs)) (w.alloc (.cells M 5)):=tx_string (hT.alloc (.cells M 5));have hT0:=Tx.made w M m hM hm1;have HT:Hid (Tx w base bv bs):=hT;have HSUM:Hid (∀w,Calls prog 214 #[.string (BA bs)] w λe w'=>e=.returned (.int .u64 (sumN bs:Int))/\w'=w):=λw=>by
  have:=sumOf_any (BA bs) w (by rw[B_];omega);simpa using this
 have HPL:Hid (∀w,Calls prog 215 #[.int .i64 (file:Int),.int .i64 (n:Int)] w λe w'=>e=.returned (.int .u64 (pz file n:Int))/\w'=w):=λw=>place_any file n hf hn w;have HD:Hid (sD file n bs=[]++eu (sumN bs)++eu (pz file n)++bs):=by simp[Hid,sD]
 have Ho:Hid (∀W,Below w.heap.size w W->∀j u,(bs.map c8)[j]?=some u->W.cell? (Addr.add ⟨g,0,none⟩ j)=some u):=λW hW j u hj=>by
  have:=World.ownsRow.cells hT (g:=g) (by rw[hv];rfl) j u hj;rw[World.cell?_of_block (w:=w) (by
   have e:(Addr.add ⟨g,0,none⟩ j).block=g:=by unfold Addr.add;split<;>rfl
   rw[e];exact hW.block g hglt)]
  exact this
 subst hv;clear hT hx hh hs hm0 hM hm;generalize hsum:sumN bs=S at *;generalize hpl:pz file n=Pl at *;generalize sD file n bs=R at *;generalize hs1:BA bs=s1 at *;clear hs1 hsum hpl;go_enter func188,ntmps188
 go_wp2_with (first|(go_at_call 214;refine(HSUM.out _).mono ?_;rintro e w' ⟨rfl,rfl⟩)|(go_at_call 215;refine(HPL.out _).mono ?_;rintro e w' ⟨rfl,rfl⟩)|(go_at_call 189;refine(wo w.heap.size _ _ S _ hT0 (by simp) (by simp)).mono ?_;clear hT0;rintro e w1 ⟨v1,rfl,hT1,hB1⟩))
 have hB1':Below w.heap.size w w':=((Below.refl w.heap.size w).alloc (e_ _) _).trans hB1.below;refine(wo w.heap.size _ _ Pl _ hT1 hB1'.size (by simp[eF])).mono ?_;rintro e w2 ⟨v2,rfl,hT2,hB2⟩;have hB2':Below w.heap.size w w2:=hB1'.trans hB2.below;have HN2:=Ho.out w2 hB2';have hl2:([]++eu S++eu Pl).length+bs.length<=70368744177664:=by simp[eF];omega
 go_wp2_with (at_builtin;refine tX rfl (.tmp 22) (.tmp 23) rfl w.heap.size _ _ rfl hT2 ⟨g,0,none⟩ bs _ rfl HN2 hl2 hB2'.size ?_;intro v3 w3 hT3 hB3;have hcv3:=tx_string hT3)
 go_ret;exact⟨by rw[HD.out];rfl,hB2'.trans hB3.below⟩
theorem opened_any (w:World)(bs:List UInt8)(file n:Nat)(hl:bs.length<=1000000)(hf:file<=1000000000)(hn:n<=1000000000) :
  Calls prog 192 #[.int .i64 (file:Int),.int .i64 (n:Int),.string (BA (sD file n bs))] w λe w'=>e=.returned (.string (BA bs))/\Touch [] w w':=by
 have hpn:pz file n<18446744073709551616:=by unfold pz;omega
 have HW1:Hid (∀w,Calls prog 193 #[.string (BA (sD file n bs))] w λe w'=>e=.returned (.int .u64 (sumN bs:Int))/\w'=w):=λw=>wO (sumN bs) (sumN_lt bs) (eu (pz file n)++bs) w;have HW2:Hid (∀w,Calls prog 193 #[.string (BA (eu (pz file n)++bs))] w λe w'=>e=.returned (.int .u64 (pz file n:Int))/\w'=w):=λw=>wO (pz file n) hpn bs w;have HSUM:Hid (∀w,Calls prog 214 #[.string (BA bs)] w λe w'=>e=.returned (.int .u64 (sumN bs:Int))/\w'=w):=λw=>by
  have:=sumOf_any (BA bs) w (by rw[B_];omega);simpa using this
 have HPL:Hid (∀w,Calls prog 215 #[.int .i64 (file:Int),.int .i64 (n:Int)] w λe w'=>e=.returned (.int .u64 (pz file n:Int))/\w'=w):=λw=>place_any file n hf hn w;have e1:(BA (sD file n bs)).extract 8 (BA (sD file n bs)).size=BA (eu (pz file n)++bs):=by
  rw[Bd];unfold sD;rw[aq_ (by rw[eF];omega),O_ (by rw[eF];omega)];rfl
 have e2:(BA (sD file n bs)).extract 16 (BA (sD file n bs)).size=BA bs:=by
  rw[Bd];unfold sD;rw[<-F_,aq_ (by rw[c_,eF,eF];omega),O_ (by rw[c_,eF,eF];omega)];rfl
 have z1i:(16:Int)<=((BA (sD file n bs)).size:Int):=by rw[B_,sealB_len];omega
 have z2i:(8:Int)<=((BA (sD file n bs)).size:Int):=by omega
 generalize BA (sD file n bs)=s at *;generalize BA (eu (pz file n)++bs)=s1 at *;generalize BA bs=s2 at *;generalize sumN bs=S at *;generalize pz file n=Pl at *;have hps:((Pl:Int) != (Pl:Int))=false:=by simp
 have hss:((S:Int) != (S:Int))=false:=by simp
 go_enter func192,ntmps192;go_wp2
 go_big_quiet (first|(go_at_call_of 193 s1;refine(HW2.out _).mono ?_;rintro e w1 ⟨rfl,rfl⟩;exact⟨rfl,_,rfl⟩)|(go_at_call 193;refine(HW1.out _).mono ?_;rintro e w1 ⟨rfl,rfl⟩;exact⟨rfl,_,rfl⟩))
 go_wp2_with (first|(go_at_call 214;refine(HSUM.out _).mono ?_;rintro e w' ⟨rfl,rfl⟩)|(go_at_call 215;refine(HPL.out _).mono ?_;rintro e w' ⟨rfl,rfl⟩))
 go_ret;exact⟨rfl,by repeat (first|exact Touch.refl _ _|refine Touch.drewN ?_ _|refine Touch.drew ?_|refine Touch.alloc ?_ _)⟩
def gq (l:List FL)(k:Int):Option (List ByteArray):=(posOf l k).map (·.2)
theorem gQ (l:List FL)(k:Int):gq l k=(l.find? (λf=>f.1 == k)).map (·.2):=by
 unfold gq posOf
 induction l with
 | nil=>rfl
 | cons a l ih=>
  rw[List.findIdx?_cons,List.find?_cons];cases h:(a.1 == k)with
  | true=>simp
  | false=>
   simp only[Bool.false_eq_true,if_false];cases h2:l.findIdx? (λf=>f.1 == k)with
   | none=>rw[h2]at ih;simpa using ih
   | some i=>rw[h2]at ih;simpa using ih
structure Ground where
 la:Int
 old:Int->Option (List ByteArray)
abbrev gla [Inhabited Ground]:Int:=(default:Ground).la
abbrev gold [Inhabited Ground]:Int->Option (List ByteArray):=(default:Ground).old
structure Range where
 n:Nat
 D:List Nat
def Mine [Inhabited Range](k:Nat):Prop:=(default:Range).n<=k\/k∈(default:Range).D
abbrev gN [Inhabited Range]:Nat:=(default:Range).n
structure Di [Inhabited Ground](d:DS):Prop where
 f1:d.f1=0
 f2:d.f2=0
 f3:d.f3=0
 nums:Nums d.files
 known:∀f∈d.files,f.1<=d.last
 last:0<=d.last
 wrote:0<=d.wrote
 keep:∀j,j<=gla->gq d.files j=gold j
 base:gla<=d.last
theorem Nums.tail (h:Nums (a::l)):Nums l:=λi j x y hx hy e=>by
 have:=h (i+1) (j+1) x y (by simpa using hx) (by simpa using hy) e;omega
theorem Nums.head (h:Nums (a::l)):∀f∈l,f.1≠a.1:=λf hf e=>by
 obtain⟨i,hi,rfl⟩:=A_ hf;have:=h 0 (i+1) a l[i] rfl (by simp[hi]) e.symm;omega
theorem getF_snoc (l:List FL)(k:Int)(hk:∀f∈l,f.1≠k)(j:Int):gq (l++[(k,[])]) j=if j=k then some []else gq l j:=by
 rw[gQ,gQ,List.find?_append];by_cases e:j=k
 ·subst e;have:l.find? (λf=>f.1 == j)=none:=by rw[List.find?_eq_none];intro f hf;simpa using hk f hf
  simp[this]
 ·rw[if_neg e];have:[(k,([]:List ByteArray))].find? (λf=>f.1 == j)=none:=by simp;exact λh=>e h.symm
  rw[this];simp
theorem getF_set:∀(l:List FL) (i:Nat) (k:Int) (bs bs':List ByteArray),l[i]?=some (k,bs)->Nums l->∀j,gq (l.set i (k,bs')) j=if j=k then some bs' else gq l j
 | [],_,_,_,_,h,_,_=>by simp at h
 | a::l,0,k,bs,bs',h,hn,j=>by
  simp only[List.getElem?_cons_zero,j_]at h;subst h;simp only[List.set_cons_zero,gQ,List.find?_cons];by_cases e:j=k
  ·subst e;simp
  ·have:(k == j)=false:=by simp;exact λh=>e h.symm
   simp[this,e]
 | a::l,i+1,k,bs,bs',h,hn,j=>by
  have ih:=getF_set l i k bs bs' (by simpa using h) hn.tail j;simp only[gQ]at ih;simp only[List.set_cons_succ,gQ,List.find?_cons];cases e:(a.1 == j)with
  | false=>simpa using ih
  | true=>
   have e1:a.1=j:=by simpa using e
   have:j≠k:=λe2=>by
    have hm:(k,bs)∈l:=v_ (by simpa using h);exact hn.head _ hm (by rw[e1,e2])
   simp[this]
theorem gY:∀(l:List FL) (i:Nat) (k:Int) (bs:List ByteArray),l[i]?=some (k,bs)->Nums l->∀j,gq (l.eraseIdx i) j=if j=k then none else gq l j
 | [],_,_,_,h,_,_=>by simp at h
 | a::l,0,k,bs,h,hn,j=>by
  simp only[List.getElem?_cons_zero,j_]at h;subst h;simp only[List.eraseIdx_cons_zero,gQ,List.find?_cons];by_cases e:j=k
  ·subst e;have:l.find? (λf=>f.1 == j)=none:=by rw[List.find?_eq_none];intro f hf;simpa using hn.head f hf
   simp[this]
  ·have:(k == j)=false:=by simp;exact λh=>e h.symm
   simp[this,e]
 | a::l,i+1,k,bs,h,hn,j=>by
  have ih:=gY l i k bs (by simpa using h) hn.tail j;simp only[gQ]at ih;simp only[List.eraseIdx_cons_succ,gQ,List.find?_cons];cases e:(a.1 == j)with
  | false=>simpa using ih
  | true=>
   have e1:a.1=j:=by simpa using e
   have:j≠k:=λe2=>by
    have hm:(k,bs)∈l:=v_ (by simpa using h);exact hn.head _ hm (by rw[e1,e2])
   simp[this]
theorem Nums.set {l:List FL}(h:Nums l)(i:Nat)(k:Int)(bs bs':List ByteArray)(hi:l[i]?=some (k,bs)):Nums (l.set i (k,bs')):=by
 have key:∀(x:Nat) (a:FL),(l.set i (k,bs'))[x]?=some a->∃a',l[x]?=some a'/\a'.1=a.1:=λx a hx=>by
  rw[List.getElem?_set]at hx
  split at hx
  ·next e=>
   subst e
   split at hx
   ·simp only[j_]at hx;subst hx;exact⟨_,hi,rfl⟩
   ·cases hx
  ·exact⟨a,hx,rfl⟩
 intro x y a b ha hb e;obtain⟨a',h1,h2⟩:=key x a ha;obtain⟨b',h3,h4⟩:=key y b hb;exact h x y a' b' h1 h3 (by rw[h2,h4];exact e)
theorem Nums.erase (h:Nums l)(i:Nat):Nums (l.eraseIdx i):=by
 intro x y a b ha hb e;rw[List.getElem?_eraseIdx]at ha hb
 split at ha<;>split at hb
 ·exact h x y a b ha hb e
 ·have:=h x (y+1) a b ha hb e;omega
 ·have:=h (x+1) y a b ha hb e;omega
 ·have:=h (x+1) (y+1) a b ha hb e;omega
theorem Nums.snoc (h:Nums l)(k:Int)(hk:∀f∈l,f.1≠k):Nums (l++[(k,[])]):=by
 intro x y a b ha hb e;rw[List.getElem?_append]at ha hb
 split at ha<;>split at hb
 ·exact h x y a b ha hb e
 ·have h1:=v_ ha;have:b=(k,[]):=by
   have:=v_ hb;simpa using this
  subst this;exact absurd e (hk a h1)
 ·have h1:=v_ hb;have:a=(k,[]):=by
   have:=v_ ha;simpa using this
  subst this;exact absurd e.symm (hk b h1)
 ·have h1:=(l_.1 ha).1;have h2:=(l_.1 hb).1;simp at h1 h2;omega
theorem pos_some {bs:List ByteArray}(h:gq l k=some bs):∃i,posOf l k=some (i,bs)/\l[i]?=some (k,bs):=by
 unfold gq at h;cases e:posOf l k with
 | none=>rw[e]at h;cases h
 | some p=>
  obtain⟨i,bs'⟩:=p;rw[e]at h;simp only[Option.map_some,j_]at h;subst h;refine⟨i,rfl,?_⟩;unfold posOf at e;cases hf:l.findIdx? (λf=>f.1 == k)with
  | none=>rw[hf]at e;cases e
  | some j=>
   rw[hf]at e;simp only[j_,Prod.mk.injEq]at e;obtain⟨rfl,rfl⟩:=e;rw[List.findIdx?_eq_some_iff_getElem]at hf;obtain⟨hj,hk,_⟩:=hf;have hk':l[j].1=k:=by simpa using hk
   rw[p_ hj];simp[List.getD,hj,<-hk']
theorem pos_none (h:gq l k=none):posOf l k=none:=by
 unfold gq at h;cases e:posOf l k with
 | none=>rfl
 | some p=>rw[e]at h;cases h
variable [Inhabited Ground]
structure DStep (d d':DS)(file:Int)(c:Option (List ByteArray)):Prop where
 ok:Di d'
 block:d'.block=d.block
 blocks:d'.blocks=d.blocks
 get:∀j,gq d'.files j=if j=file then c else gq d.files j
def dI (bx bm:Nat)(M:List PF):List Nat:=bx::bm::rowsOf M
theorem disk_create (w:World)(bx bm:Nat)(d:DS)(M:List PF)(h:PD w bx bm d M)(ok:Di d)(hl:d.last<=1000000000) :
  Calls prog 154 #[.pointer (some ⟨bx,0,none⟩)] w λe w'=>e=.returned (.int .i64 (d.last+1))/\∃d' M',PD w' bx bm d' M'/\DStep d d' (d.last+1) (some [])/\d'.last=d.last+1/\d'.wrote=d.wrote/\uO d'.files=uO d.files/\gq d.files (d.last+1)=none/\rowsOf M'=rowsOf M/\Touch [bx,bm] w w':=by
 have hne:∀f∈d.files,f.1≠d.last+1:=λf hf e=>by have:=ok.known f hf;omega
 refine(pcreate w bx bm d M h ok.last hl (λf hf=>ok.known f hf)).mono ?_;rintro e w' ⟨rfl,hP,hT⟩;refine⟨rfl,_,_,hP,⟨⟨ok.f1,ok.f2,ok.f3,ok.nums.snoc _ hne,λf hf=>?_,by show 0<=d.last+1;have:=ok.last;omega,ok.wrote,λj hj=>by have:=ok.base;show gq (d.files++[(d.last+1,[])]) j=_;rw[getF_snoc d.files _ hne,if_neg (by omega)];exact ok.keep j hj,by show gla<=d.last+1;have:=ok.base;omega⟩,rfl,rfl,getF_snoc d.files _ hne⟩,rfl,rfl,used_snoc _ _,?_,by simp[rowsOf,Value.ownBlock],hT⟩
 ·rcases d_.1 hf with hf|hf
  ·have:=ok.known f hf;show f.1<=d.last+1;omega
  ·rw[ms_ hf];exact Int.le_refl _
 ·rw[gQ];have:d.files.find? (λf=>f.1 == d.last+1)=none:=by rw[List.find?_eq_none];intro f hf;simpa using hne f hf
  rw[this];rfl
theorem disk_append (w:World)(bx bm:Nat)(d:DS)(M:List PF)(file:Int)(bs:List ByteArray)(text:ByteArray)(h:PD w bx bm d M)(ok:Di d)(hm:gla<file)(hg:gq d.files file=some bs)(ht:(text.size:Int)<=d.block)(ht2:text.size<=1048576)
  (hroom:(uO d.files:Int)<d.blocks) (haf:uO d.files<=1000000000) (hw:d.wrote<=1000000000) :
  Calls prog 187 #[.pointer (some ⟨bx,0,none⟩),.int .i64 file,.string text] w λe w'=>e=.returned (.int .i64 0)/\∃d' M',PD w' bx bm d' M'/\DStep d d' file (some (bs++[text]))/\d'.last=d.last/\d'.wrote=d.wrote+1/\uO d'.files=uO d.files+1/\(∀k∈rowsOf M',k∈rowsOf M\/w.heap.size<=k)/\Touch (dI bx bm M) w w':=by
 obtain⟨i,hp,hi⟩:=pos_some hg;have f1:=ok.f1;have f3:=ok.f3;have e:aS d file text=(0,{ d with f1:=dec d.f1,f3:=dec d.f3,wrote:=d.wrote+1,files:=d.files.set i (file,bs++[text]) }):=by
  unfold aS;rw[if_neg (by omega),hp];simp only;rw[if_neg (by omega),if_neg (by omega),if_neg (by omega)]
 refine(pappend w bx bm d M file text h ok.nums (by omega) (by omega) (by omega) (by omega) haf ok.wrote hw ht2).mono ?_;rintro e' w' ⟨rfl,⟨M',hP,hR⟩,hT⟩;rw[e]at hP ⊢;refine⟨rfl,_,M',hP,⟨⟨by show dec d.f1=0;rw[f1];rfl,ok.f2,by show dec d.f3=0;rw[f3];rfl,ok.nums.set i file bs _ hi,λf hf=>?_,ok.last,by show 0<=d.wrote+1;have:=ok.wrote;omega,λj hj=>by rw[getF_set d.files i file bs _ hi ok.nums,if_neg (by omega)];exact ok.keep j hj,ok.base⟩,rfl,rfl,getF_set d.files i file bs _ hi ok.nums⟩,rfl,rfl,used_set d.files i (file,bs) file text hi,hR,hT⟩;rcases List.mem_or_eq_of_mem_set hf with hf|hf
 ·exact ok.known f hf
 ·rw[hf];exact ok.known (file,bs) (v_ hi)
theorem disk_read (w:World)(bx bm:Nat)(d:DS)(M:List PF)(file:Int)(n:Nat)(bs:List ByteArray)(h:PD w bx bm d M)(ok:Di d)(hg:gq d.files file=some bs)(hn:n<bs.length) :
  Calls prog 191 #[.pointer (some ⟨bx,0,none⟩),.int .i64 file,.int .i64 (n:Int)] w λe w'=>e=.returned (.tuple #[.string bs[n],.int .i64 0])/\PD w' bx bm d M/\Touch [bx] w w':=by
 obtain⟨i,hp,_⟩:=pos_some hg;have f2:=ok.f2;have e:rQ d file n=(bs[n],0):=by
  unfold rQ;rw[if_neg (by omega),hp];simp only;rw[if_neg (by omega)];simp[List.getD,hn]
 have e2:({ d with f2:=dec d.f2 }:DS)=d:=by
  have:dec d.f2=d.f2:=by rw[f2];rfl
  rw[this]
 refine(pread w bx bm d M file n h ok.nums (by omega) (by omega)).mono ?_;rintro e' w' ⟨rfl,hP,hT⟩;rw[e];rw[e2]at hP;exact⟨rfl,hP,hT⟩
theorem disk_delete (w:World)(bx bm:Nat)(d:DS)(M:List PF)(file:Int)(h:PD w bx bm d M)(ok:Di d)(hm:gla<file)(haf:uO d.files<=1000000000) :
  Calls prog 128 #[.pointer (some ⟨bx,0,none⟩),.int .i64 file] w λe w'=>(∃c,e=.returned (.int .i64 c))/\∃d' M',PD w' bx bm d' M'/\DStep d d' file none/\d'.last=d.last/\d'.wrote=d.wrote/\uO d.files=uO d'.files+((gq d.files file).getD []).length/\List.Sublist (rowsOf M') (rowsOf M)/\Touch [bx,bm] w w':=by
 refine(pdelete w bx bm d M file h ok.nums haf).mono ?_;rintro e' w' ⟨rfl,⟨M',hP,hR⟩,hT⟩;refine⟨⟨_,rfl⟩,(dS d file).2,M',hP,?_⟩;cases hg:gq d.files file with
 | none=>
  have e:dS d file=(8,d):=by unfold dS;rw[pos_none hg]
  rw[e];refine⟨⟨ok,rfl,rfl,λj=>?_⟩,rfl,rfl,by simp,hR,hT⟩
  split
  ·next e=>rw[e];exact hg
  ·rfl
 | some bs=>
  obtain⟨i,hp,hi⟩:=pos_some hg;have e:dS d file=(0,{ d with files:=d.files.eraseIdx i }):=by unfold dS;rw[hp]
  rw[e];exact⟨⟨⟨ok.f1,ok.f2,ok.f3,ok.nums.erase i,λf hf=>ok.known f (List.mem_of_mem_eraseIdx hf),ok.last,ok.wrote,λj hj=>by rw[gY d.files i file bs hi ok.nums,if_neg (by omega)];exact ok.keep j hj,ok.base⟩,rfl,rfl,gY d.files i file bs hi ok.nums⟩,rfl,rfl,by simpa using uS d.files i (file,bs) hi,hR,hT⟩
end Go.Proofs.YtjoinhljdbljaaaGreat
namespace Go.Proofs.YtjoinhljdbljaaaGreat
open Go.RowKit
variable {F G:List Nat} {base bm bx cap g k n:Nat} {bs:List UInt8} {cs:Array Value} {f:Nat×Nat} {t t':TypeId} {w w':World}
def encs (l:List Rec):List UInt8:=l.flatMap encR
def textsOf (file:Nat)(cs:List (List Rec)):List ByteArray:=(List.range cs.length).map λi=>BA (sD file i (encs (cs.getD i [])))
theorem textsOf_len (file:Nat)(cs:List (List Rec)):(textsOf file cs).length=cs.length:=by simp[textsOf]
theorem textsOf_snoc (file:Nat)(cs:List (List Rec))(c:List Rec):textsOf file (cs++[c])=textsOf file cs++[BA (sD file cs.length (encs c))]:=by
 unfold textsOf;rw[c_,List.length_cons,List.length_nil,List.range_succ,w_]
 congr 1
 ·apply List.map_congr_left;intro i hi;have:=List.mem_range.1 hi;simp[List.getD,aa_ this]
 ·simp[List.getD]
theorem textsOf_get (file:Nat)(cs:List (List Rec))(i:Nat)(h:i<cs.length):(textsOf file cs)[i]'(by rw[textsOf_len];exact h)=BA (sD file i (encs cs[i])):=by
 simp[textsOf,List.getD,h]
def rC (bx blk file cols n:Nat)(v:Value):Array Value:=#[.pointer (some ⟨bx,0,none⟩),.int .i64 (blk:Int),.int .i64 (file:Int),.int .i64 (cols:Int),.int .i64 (n:Int),v]
theorem bI {a b c d e f:Value}(h:w.heap[k]?=some (.cells #[a,b,c,d,e,f] t (0,0))) :
  w.cell? ⟨k,0,none⟩=some a/\w.cell? ⟨k,1,none⟩=some b/\w.cell? ⟨k,2,none⟩=some c/\w.cell? ⟨k,3,none⟩=some d/\w.cell? ⟨k,4,none⟩=some e/\w.cell? ⟨k,5,none⟩=some f/\∀o,w.frozen? ⟨k,o,none⟩=false:=by
 refine⟨?_,?_,?_,?_,?_,?_,?_⟩
 all_goals first|(intro o;simp[World.frozen?,h];done)|simp[World.cell?,h]
structure RU (w:World)(r bx blk file cols:Nat)(v:Value)(n:Nat)(cur:List Rec):Prop where
 cell:w.heap[r]?=some (.cells (rC bx blk file cols n v) 223 (0,0))
 text:Tx w r v (encs cur)
theorem PD.nT {d:DS}{M:List PF}(h:PD w bx bm d M)(h1:117≠t)(h2:9≠t):NT t w (dI bx bm M):=by
 intro k hk cs f e;simp only[dI,a_]at hk;rcases hk with rfl|rfl|hk
 ·rw[h.disk]at e;simp only[j_,Obj.cells.injEq]at e;exact h1 e.2.1
 ·obtain⟨es,c,hb,_⟩:=h.map;rw[hb]at e;cases e
 ·obtain⟨m,hm,hk⟩:=ap_.1 hk;rcases(h.rows m hm).2 with⟨e2,_⟩|⟨g,cap,cur,e2,_,hg,_⟩
  ·rw[e2]at hk;simp[Value.ownBlock]at hk
  ·rw[e2]at hk;simp[Value.ownBlock]at hk;subst hk;rw[hg]at e;simp only[j_,Obj.cells.injEq]at e;exact h2 e.2.1
theorem NT.not_mem (h:NT t w F)(hk:w.heap[k]?=some (.cells cs t f)):k∉F:=λe=>h k e cs f hk
theorem NT.sub (h:NT t w F)(hG:∀k∈G,k∈F):NT t w G:=λk hk=>h k (hG k hk)
theorem NT.cons (h:NT t w F)(hg:w.heap[g]?=some (.cells cs t' f))(hne:t'≠t):NT t w (g::F):=by
 intro k hk;rcases a_.1 hk with rfl|hk
 ·exact notag_of' hg hne
 ·exact h k hk
 where
 notag_of' {t t':TypeId} {w:World} {g:Nat} {cs:Array Value} {f:Nat×Nat} (h:w.heap[g]?=some (.cells cs t' f)) (hne:t'≠t):∀(cs:Array Value) (f:Nat×Nat),w.heap[g]?≠some (Obj.cells cs t f):=λcs' f' e=>by
  rw[h]at e;simp only[j_,Obj.cells.injEq]at e;exact hne e.2.1
theorem Tx.touch {v:Value}(h:Tx w base v bs)(t:Touch F w w')(hn:∀k,v.ownBlock=some k->k∉F):Tx w' base v bs:=by
 obtain⟨h1,h2⟩:=h;refine⟨h1,?_⟩;rcases h2 with h2|⟨g,cap,cur,rfl,hg,hh,rest⟩
 ·exact .inl h2
 ·exact .inr ⟨g,cap,cur,rfl,hg,by rw[t.block g (agi.1 hh).1 (hn g rfl)];exact hh,rest⟩
open Go.Proofs.Tryz
variable [Inhabited Ground]
structure Wrote (w w':World)(bx bm:Nat)(d:DS)(M:List PF)(file:Nat)(bs:List ByteArray)(d':DS)(M':List PF)(k:Nat):Prop where
 pd:PD w' bx bm d' M'
 step:DStep d d' file (some bs)
 last:d'.last=d.last
 wrote:d'.wrote=d.wrote+k
 used:uO d'.files=uO d.files+k
 rows:∀x∈rowsOf M',x∈rowsOf M\/w.heap.size<=x
theorem Tx.cut (h:Tx w base (.slice (some ⟨g,0,none⟩) n cap) bs):Tx w base (.slice (some ⟨g,0,none⟩) 0 cap) []:=by
 rcases h.2 with⟨e,_⟩|⟨g',cap',cur,e,hbg,hh,hc,hm,hs,_⟩
 ·cases e
 ·simp only[Value.slice.injEq,j_,Addr.mk.injEq,and_true]at e;obtain⟨rfl,_,rfl⟩:=e;exact⟨by simp,.inr ⟨g,cap,cur,rfl,hbg,hh,x_ _,hm,hs,by simp⟩⟩
theorem Tx.setCell {w:World}{base:Nat}{v:Value}{bs:List UInt8}(h:Tx w base v bs){r:Nat}(hr:∀k,v.ownBlock=some k->k≠r)(o:Nat)(u:Value):Tx (w.setCell ⟨r,o,none⟩ u) base v bs:=
 h.touch ((Touch.refl [r] w).setCell (p:=⟨r,o,none⟩) (by simp) u) (λk hk=>by simpa using hr k hk)
theorem write_any (w:World)(r bx bm blk file cols:Nat)(v:Value)(n:Nat)(cur:List Rec)(d:DS)(M:List PF)(bs:List ByteArray)(hR:RU w r bx blk file cols v n cur)(hP:PD w bx bm d M)(ok:Di d)(hm:gla<(file:Int))(hg:gq d.files file=some bs)
  (h1:1<=(encs cur).length) (hb:((16+(encs cur).length:Nat):Int)<=d.block) (hl:(encs cur).length<=1000000) (hf:file<=1000000000) (hn:n<=100000000) (hroom:(uO d.files:Int)<d.blocks) (haf:uO d.files<=1000000000) (hw:d.wrote<=1000000000) :
  Calls prog 155 #[.pointer (some ⟨r,0,none⟩)] w λe w'=>e=.returned (.tuple #[])/\∃v' d' M',RU w' r bx blk file cols v' (n+1) []/\Wrote w w' bx bm d M file (bs++[BA (sD file n (encs cur))]) d' M' 1/\v'.ownBlock=v.ownBlock/\Touch (r::dI bx bm M) w w':=by
 obtain⟨g,cap,cu,hv,_⟩:=hR.text.shape h1;have hrv:∀k,v.ownBlock=some k->k≠r:=λk hk e=>by
  obtain⟨c,f,hc⟩:=hR.text.bytes k hk;rw[e,hR.cell]at hc;simp at hc
 have HR:Hid (RU w r bx blk file cols v n cur):=hR;have HSEAL:Hid (∀W,Touch [] w W->Calls prog 188 #[.int .i64 (file:Int),.int .i64 (n:Int),v] W λe w'=>e=.returned (.string (BA (sD file n (encs cur))))/\Below W.heap.size W w'):=λW hW=>
  seal_any W r v (encs cur) file n (hR.text.touch hW (by simp)) h1 hl hf (by omega)
 have HAPP:Hid (∀W,Touch [] w W->Calls prog 187 #[.pointer (some ⟨bx,0,none⟩),.int .i64 (file:Int),.string (BA (sD file n (encs cur)))] W λe w'=>e=.returned (.int .i64 0)/\∃d' M',Wrote w w' bx bm d M file (bs++[BA (sD file n (encs cur))]) d' M' 1/\Touch (dI bx bm M) w w'):=λW hW=>by
  refine(disk_append W bx bm d M file bs (BA (sD file n (encs cur))) (hP.away hW (by simp)) ok hm hg (by rw[B_,sealB_len];exact hb) (by rw[B_,sealB_len];omega) hroom haf hw).mono ?_;rintro e w' ⟨rfl,d',M',p1,p2,p3,p4,p5,p6,p7⟩;exact⟨rfl,d',M',⟨p1,p2,p3,p4,p5,λx hx=>(p6 x hx).imp id (λh=>k_ hW.size h)⟩,(hW.mono (by simp)).trans p7⟩
 have HRD:Hid (r∉dI bx bm M):=(hP.nT (t:=223) (by decide) (by decide)).not_mem hR.cell;have HVD:Hid (∀k,v.ownBlock=some k->k∉dI bx bm M):=λk hk=>by
  obtain⟨c,f,hc⟩:=hR.text.bytes k hk;exact(hP.nT (t:=5) (by decide) (by decide)).not_mem hc
 have HRV:Hid (∀k,v.ownBlock=some k->k≠r):=hrv;have Hl:Hid (∀W F,Touch F w W->r∉F->W.heap[r]?=some (.cells (rC bx blk file cols n v) 223 (0,0))):=λW F hW hF=>by
  rw[hW.block r (agi.1 hR.cell).1 hF];exact hR.cell
 obtain⟨c0,c1,c2,c3,c4,c5,cf⟩:=bI hR.cell;subst hv;generalize BA (sD file n (encs cur))=s at *;clear hR hP ok hg hb hroom haf hw hrv cf;go_enter func155,ntmps155;go_wp2
 go_region_held3 (λw'=>w'.cell? ⟨r,0,none⟩=some (.pointer (some ⟨bx,0,none⟩))/\w'.cell? ⟨r,2,none⟩=some (.int .i64 (file:Int))/\w'.cell? ⟨r,4,none⟩=some (.int .i64 (n:Int))/\w'.cell? ⟨r,5,none⟩=some (.slice (some ⟨g,0,none⟩) (encs cur).length cap)) (go_keep) (first|(go_at_call 188;refine(HSEAL.out _ (tr_.drew)).mono ?_;rintro e w1 ⟨rfl,hB1⟩;have hT1:Touch [] w w1:=(tr_.drew).trans (Below.t hB1);obtain⟨a0,a1,a2,a3,a4,a5,_⟩:=bI (Hl.out w1 [] hT1 (by simp)))|(go_at_call 187;refine(HAPP.out _ hT1).mono ?_;rintro e w2 ⟨rfl,d',M',hW2,hT2⟩;obtain⟨b0,b1,b2,b3,b4,b5,bf⟩:=bI (Hl.out w2 _ hT2 HRD.out);have f4:=bf 4;have f5:=bf 5;clear bf))
 clear a0 a1 a2 a3 a4 a5 c0 c1 c2 c3 c4 c5;go_wp2
 go_end0
 have hcell:=Hl.out w2 _ hT2 HRD.out;have hrd:=HRD.out;have t1:=(Touch.refl [r] w2).setCell (p:=⟨r,4,none⟩) (by simp) (.int .i64 ((n:Int)+1));have t2:=t1.setCell (p:=⟨r,5,none⟩) (by simp) (.slice (some ⟨g,0,none⟩) 0 cap);refine⟨rfl,.slice (some ⟨g,0,none⟩) 0 cap,d',M',⟨?_,?_⟩,⟨hW2.pd.away t2 ?_,hW2.step,hW2.last,hW2.wrote,hW2.used,hW2.rows⟩,rfl,?_⟩
 ·have h1:=heap_setCell_same w2 r 4 _ 223 (.int .i64 ((n:Int)+1)) hcell;have h2:=heap_setCell_same _ r 5 _ 223 (.slice (some ⟨g,0,none⟩) 0 cap) h1;rw[h2];simp[rC]
 ·have h0:=HR.out.text.touch hT2 HVD.out;exact(h0.cut.setCell (λk hk=>HRV.out k (by simpa[Value.ownBlock]using hk)) 4 _).setCell (λk hk=>HRV.out k (by simpa[Value.ownBlock]using hk)) 5 _
 ·intro k hk e;simp only[a_,i_,or_false]at e;subst e;exact(hW2.pd.nT (t:=223) (by decide) (by decide)).not_mem hcell hk
 ·exact(hT2.mono (λk hk=>o_ _ hk)).trans (t2.mono (λk hk=>by rw[ms_ hk];exact I_))
end Go.Proofs.YtjoinhljdbljaaaGreat
