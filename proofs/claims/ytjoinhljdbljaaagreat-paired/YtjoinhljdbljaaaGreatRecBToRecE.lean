/- A string appended to a text of bytes that the call itself made, and what follows. -/
import Derived.Test.YtjoinhljdbljaaaGreatOrdAToRecA
import Derived.Deep.AppendSrc
set_option maxHeartbeats 1000000
set_option maxRecDepth 20000
namespace Go.Proofs.YtjoinhljdbljaaaGreat
open Go.RowKit Go.Proofs.Tryz
variable {B base k:Nat} {F F' G:List Nat} {a b c w w' w1:World} {t:TypeId}
theorem b_ (s:ByteArray):byteCells s=s.data.toList.map c8:=rfl
theorem run_append_str {v:Value}{bs:List UInt8}(h:Tx w base v bs)(hne:1<=bs.length)(s:ByteArray)(hl:bs.length+s.size<=70368744177664)(hb:base<=w.heap.size)(ty:TypeId) :
  ∃v' w',(Builtin.append_ #[172,9] ty #[v,.string s]).run prog w=.ok v' w'/\Tx w' base v' (bs++s.data.toList)/\w.grownBy w' v.ownBlock:=by
 obtain⟨i,hi,hz0,hz1,hz2⟩:=info_parts info5;have hs:=Src.ofString (P:=prog) w underlying9 s;have hsl:s.data.toList.length=s.size:=by rw[af_];rfl
 rcases h.2 with⟨_,h0⟩|⟨g,cap,cur,rfl,hbg,hg,hnc,hcm,hcs,htake⟩
 ·omega
 ·by_cases hroom:bs.length+s.size<=cap
  ·have hst:=run_storeCells_at prog g (bs.length*1) 5 (byteCells s) 0 cur w hg (by rw[byteCells_length];omega) hs.one;simp only[Nat.add_zero]at hst;refine⟨.slice (some ⟨g,0,none⟩) (bs.length+s.size) cap,w.setRow g (cur.toList.take (bs.length*1)++byteCells s++cur.toList.drop (bs.length*1+(byteCells s).length)).toArray,?_,?_,?_⟩
   ·simp[Builtin.append_,run_underlying underlying172,run_underlying underlying9,sizeOf,typeInfo,hi,hz1,hs.len,hroom,hs.cells,Addr.add_lit]at hst ⊢;rw[hst];rfl
   ·refine⟨by simp,.inr ⟨g,cap,_,by simp[hsl],hbg,setRow_heap w g cur _ 5 _ hg,by simp[hsl];omega,hcm,?_,?_⟩⟩
    ·simp only[List.size_toArray,c_,W_,List.length_drop,af_,byteCells_length];omega
    ·rw[htake,b_,<-w_];have:(bs++s.data.toList).length*1=((bs++s.data.toList).map c8).length:=by simp
     rw[this];exact List.take_left
   ·exact⟨rfl,rfl,rfl,by simp,λk _ hk=>setRow_other w g k _ (λe=>hk (by simp[Value.ownBlock,e]))⟩
  ·have holds:∀j u,(bs.map c8)[j]?=some u->w.cell? ((⟨g,0,none⟩:Addr).add j)=some u:=World.ownsRow.cells h (g:=g) rfl;have hfc:=run_firstCells_some (P:=prog) w.drew i.size bs.length ⟨g,0,none⟩ bs.length cap (bs.map c8) (by simp[hz1]) (by simpa using holds);have hr:=run_append_grow_src (P:=prog) w 172 9 ty 5 i (.int .u8 0) underlying172 hi hz0 (some ⟨g,0,none⟩) bs.length cap (bs.map c8) hfc (.string s) s.size (byteCells s) (by rw[hz1];exact hs) (by omega) (by omega) (growslice_fits (by omega) (by rw[hz2];omega));refine⟨_,_,hr,?_,?_⟩
   ·have hge:=grownCap_ge w (bs.length+s.size) cap 5;have hcm:grownCap w (bs.length+s.size) cap 5<=maxLen:=grownCap_le_maxLen w _ cap 5 (by unfold maxLen;omega);refine⟨by simp,.inr ⟨w.heap.size,_,_,by simp[hsl],hb,heap_alloc_new w.drew _,by simpa[hsl]using hge,hcm,?_,?_⟩⟩
    ·simp only[Array.size_append,List.size_toArray,size_zeroCells,c_,u_,byteCells_length];have:(Value.cells (.int .u8 0)).size=1:=rfl;rw[this];omega
    ·simp only[Array.toList_append];rw[b_,<-w_];have:(bs++s.data.toList).length*1=((bs++s.data.toList).map c8).length:=by simp
     rw[this];exact List.take_left
   ·exact⟨rfl,rfl,rfl,by simp,λk hk _=>Below.heap_alloc w.drew _ k hk⟩
theorem tx_append_str {ops:Array Oper}{rest:List Oper}{o:Oper}{a:Act}{Q:Exit->Act->World->Prop}(hgd:o.guard=none)(s x:Operand)
  (ho:o.op=.call { callee:=.builtin .append,args:=#[s,x],argTypes:=#[172,9] }) (base:Nat) (v:Value) (bs:List UInt8) (hs:a.eval s=v) (hown:Tx w base v bs) (hne:1<=bs.length)
  (t:ByteArray) (hx:a.eval x=.string t) (hlen:bs.length+t.size<=70368744177664) (hbase:base<=w.heap.size)
  (h:∀v' w',Tx w' base v' (bs++t.data.toList)->Fr base w w'->wpList prog ops Q rest (a.put o.dst v') w'):wpList prog ops Q (o::rest) a w:=by
 refine wpList_plain hgd λ_ hK=>?_;obtain⟨v',w',hr,h2,h3⟩:=run_append_str hown hne t hlen hbase o.type;unfold Oper.wp execOp;simp only[ho,resolve,invoke,builtin,Sem.run_bind,Sem.run_pure,Result.andThen_ok,List.map_toArray,List.map_cons,List.map_nil,hs,hx,hr];refine hK _ _ (h v' w' h2 ⟨(Below.refl _ _).grown h3 hbase λk hk=>hown.own k hk,λk hk hn=>h3.block k hk λe=>?_⟩);obtain⟨c,f,hc⟩:=hown.bytes k e.symm;exact hn _ _ hc
def un (n:Int):Nat:=(n%18446744073709551616).toNat
theorem un_wrap (n:Int):IntKind.u64.wrap n=((un n:Nat):Int):=by
 rw[IntKind.wrap_u64];unfold un;omega
theorem un_lt (n:Int):un n<18446744073709551616:=by unfold un;omega
def encBody (v:V):List UInt8:=
 if v.k=1 then eu (un v.n)else if v.k=2 then[0,UInt8.ofNat v.s.size]++v.s.data.toList else if v.k=3 then[UInt8.ofNat v.n.toNat]else[]
def eH (v:V):List UInt8:=UInt8.ofNat v.k.toNat::encBody v
def encR (r:Rec):List UInt8:=eu (un r.no)++r.row.flatMap eH
theorem eF (u:Nat):(eu u).length=8:=by simp[eu]
theorem encV_len {v:V}(h:Fair v):(eH v).length=sV v:=by
 unfold eH encBody sV;rcases h with h|h|h|h
 ·rw[if_neg (by omega),if_neg (by omega),if_neg (by omega),if_neg (by omega),if_neg (by omega),if_neg (by omega)];rfl
 ·rw[if_pos h.1,if_pos h.1];simp[eF]
 ·rw[if_neg (by omega),if_pos h.1,if_neg (by omega),if_pos h.1];simp only[List.length_cons,c_,List.length_nil,af_];have:v.s.data.size=v.s.size:=rfl;omega
 ·rw[if_neg (by omega),if_neg (by omega),if_pos h.1,if_neg (by omega),if_neg (by omega),if_pos h.1];rfl
theorem encRow_len {row:List V}(h:∀v∈row,Fair v):(row.flatMap eH).length=(row.map sV).sum:=by
 induction row with
 | nil=>rfl
 | cons v l ih=>
  simp only[List.flatMap_cons,c_,List.map_cons,List.sum_cons];rw[encV_len (h v (by simp)),ih (λx hx=>h x (by simp[hx]))]
theorem eY {r:Rec}(h:∀v∈r.row,Fair v):(encR r).length=sZ r.row:=by
 unfold encR sZ;rw[c_,eF,encRow_len h]
theorem appendVal_any (base:Nat)(t:Value)(bs:List UInt8)(v:V)(w:World)(ho:Tx w base t bs)(hb:base<=w.heap.size)(hl:bs.length<=900000000000)(hv:Fair v) :
  Calls prog 190 #[t,v.val] w λe w'=>∃v',e=.returned v'/\Tx w' base v' (bs++eH v)/\Fr base w w':=by
 obtain⟨k,n,s⟩:=v;simp only[V.val];have E:Hid (eH ⟨k,n,s⟩=UInt8.ofNat k.toNat::encBody ⟨k,n,s⟩):=rfl;generalize eH ⟨k,n,s⟩=r at *;rcases hv with⟨h,_,_⟩|⟨h,_,_⟩|⟨h,_,hs⟩|⟨h,hn,_⟩
 ·simp only at h;subst h;have E1:Hid (r=[0]):=by rw[E.out];rfl
  clear E;go_enter func190,ntmps190
  go_wp2_with (at_builtin;refine tX rfl (.tmp 5) (.tmp 9) rfl base _ _ rfl ((ho.alloc _).alloc _) _ [0] _ rfl (nJ _ _ _ _ rfl) (by simp;omega) (by simp;omega) ?_;intro v1 w1 hT1 hB1;have hbx:w1.heap[w.heap.size]?=some (.cells #[.int .i64 0,.int .i64 n,.string s] 85 (0,0)):=hB1.box (by rw[Below.heap_alloc _ _ _ (by simp)];exact heap_alloc_new w _) (by decide);obtain⟨c0,c1,c2⟩:=bD hbx;clear hbx)
  go_ret;exact⟨_,rfl,by rw[E1.out];exact hT1,(((Fr.refl _ _).alloc hb _).alloc (by simp;omega) _).trans hB1⟩
 ·simp only at h;subst h;have E1:Hid (r=1::eu (un n)):=by rw[E.out];rfl
  have hun:=un_wrap n;clear E;go_enter func190,ntmps190
  go_wp2_with (first|(at_builtin;refine tX rfl (.tmp 5) (.tmp 9) rfl base _ _ rfl ((ho.alloc _).alloc _) _ [1] _ rfl (nJ _ _ _ _ rfl) (by simp;omega) (by simp;omega) ?_;intro v1 w1 hT1 hB1;have hbx:w1.heap[w.heap.size]?=some (.cells #[.int .i64 1,.int .i64 n,.string s] 85 (0,0)):=hB1.box (by rw[Below.heap_alloc _ _ _ (by simp)];exact heap_alloc_new w _) (by decide);obtain⟨c0,c1,c2⟩:=bD hbx;clear hbx)|(go_at_call 189;(try rw[hun]);refine(wo base _ _ (un n) _ hT1 (by have:=hB1.size;simp at this;omega) (by simp;omega)).mono ?_;rintro e w2 ⟨v2,rfl,hT2,hB2⟩))
  go_ret;exact⟨_,rfl,by rw[E1.out];simpa using hT2,((((Fr.refl _ _).alloc hb _).alloc (by simp;omega) _).trans hB1).trans hB2⟩
 ·simp only at h hs;subst h;have E1:Hid (r=2::([0,UInt8.ofNat s.size]++s.data.toList)):=by rw[E.out];rfl
  clear E;have h8:(s.size:Int)/256=0:=by omega
  have h9:(s.size:Int)%256=(s.size:Int):=by omega
  have h10:((UInt8.ofNat s.size).toNat:Int)=(s.size:Int):=by rw[UInt8.toNat_ofNat'];omega
  have H10:Hid _:=h10;clear h10;go_enter func190,ntmps190
  go_wp2_with (first|(at_builtin;refine tX rfl (.tmp 5) (.tmp 9) rfl base _ _ rfl ((ho.alloc _).alloc _) _ [2] _ rfl (nJ _ _ _ _ rfl) (by simp;omega) (by simp;omega) ?_;intro v1 w1 hT1 hB1;have hbx:w1.heap[w.heap.size]?=some (.cells #[.int .i64 2,.int .i64 n,.string s] 85 (0,0)):=hB1.box (by rw[Below.heap_alloc _ _ _ (by simp)];exact heap_alloc_new w _) (by decide);have HBX:Hid _:=hbx;obtain⟨c0,c1,c2⟩:=bD hbx;clear hbx)|(at_builtin;refine tX rfl (.tmp 22) (.tmp 32) rfl base _ _ rfl (hT1.alloc _) _ [0,UInt8.ofNat s.size] _ rfl (by have:=new_two w1 0 (UInt8.ofNat s.size);rw[H10.out]at this;exact this) (by simp;omega) (by have:=hB1.size;simp at *;omega) ?_;intro v2 w2 hT2 hB2;have hbx:w2.heap[w.heap.size]?=some (.cells #[.int .i64 2,.int .i64 n,.string s] 85 (0,0)):=hB2.box (by rw[Below.heap_alloc _ _ _ (by have:=hB1.size;simp at this;omega)];exact HBX.out) (by decide);clear c0 c1 c2;obtain⟨c0,c1,c2⟩:=bD hbx;clear hbx)|(refine tx_append_str rfl (.tmp 34) (.tmp 36) rfl base _ _ rfl hT2 (by simp) s rfl (by simp;omega) (by have:=hB1.size;have:=hB2.size;simp at *;omega) ?_;intro v3 w3 hT3 hB3))
  go_ret;exact⟨_,rfl,by rw[E1.out];simpa using hT3,(((((Fr.refl _ _).alloc hb _).alloc (by simp;omega) _).trans hB1).alloc (by have:=hB1.size;simp at this;omega) _).trans (hB2.trans hB3)⟩
 ·simp only at h hn;subst h;rcases hn with rfl|rfl
  ·have E1:Hid (r=[3,0]):=by rw[E.out];rfl
   clear E;go_enter func190,ntmps190
   go_wp2_with (first|(at_builtin;refine tX rfl (.tmp 5) (.tmp 9) rfl base _ _ rfl ((ho.alloc _).alloc _) _ [3] _ rfl (nJ _ _ _ _ rfl) (by simp;omega) (by simp;omega) ?_;intro v1 w1 hT1 hB1;have hbx:w1.heap[w.heap.size]?=some (.cells #[.int .i64 3,.int .i64 0,.string s] 85 (0,0)):=hB1.box (by rw[Below.heap_alloc _ _ _ (by simp)];exact heap_alloc_new w _) (by decide);obtain⟨c0,c1,c2⟩:=bD hbx;clear hbx)|(at_builtin;refine tX rfl (.tmp 40) (.tmp 44) rfl base _ _ rfl (hT1.alloc _) _ [0] _ rfl (n_ _ _ _ rfl) (by simp;omega) (by have:=hB1.size;simp at *;omega) ?_;intro v2 w2 hT2 hB2))
   go_ret;exact⟨_,rfl,by rw[E1.out];simpa using hT2,(((((Fr.refl _ _).alloc hb _).alloc (by simp;omega) _).trans hB1).alloc (by have:=hB1.size;simp at this;omega) _).trans hB2⟩
  ·have E1:Hid (r=[3,1]):=by rw[E.out];rfl
   clear E;go_enter func190,ntmps190
   go_wp2_with (first|(at_builtin;refine tX rfl (.tmp 5) (.tmp 9) rfl base _ _ rfl ((ho.alloc _).alloc _) _ [3] _ rfl (nJ _ _ _ _ rfl) (by simp;omega) (by simp;omega) ?_;intro v1 w1 hT1 hB1;have hbx:w1.heap[w.heap.size]?=some (.cells #[.int .i64 3,.int .i64 1,.string s] 85 (0,0)):=hB1.box (by rw[Below.heap_alloc _ _ _ (by simp)];exact heap_alloc_new w _) (by decide);obtain⟨c0,c1,c2⟩:=bD hbx;clear hbx)|(at_builtin;refine tX rfl (.tmp 40) (.tmp 44) rfl base _ _ rfl (hT1.alloc _) _ [1] _ rfl (n_ _ _ _ rfl) (by simp;omega) (by have:=hB1.size;simp at *;omega) ?_;intro v2 w2 hT2 hB2))
   go_ret;exact⟨_,rfl,by rw[E1.out];simpa using hT2,(((((Fr.refl _ _).alloc hb _).alloc (by simp;omega) _).trans hB1).alloc (by have:=hB1.size;simp at this;omega) _).trans hB2⟩
structure TU (F:List Nat)(w w':World):Prop where
 os:w'.os=w.os
 tape:w'.tape=w.tape
 output:w'.output=w.output
 size:w.heap.size<=w'.heap.size
 block:∀k,k<w.heap.size->k∉F->((∃r∈F,r<=k)->∀(cs:Array Value) (f:Nat×Nat),w.heap[k]?≠some (Obj.cells cs 5 f))->w'.heap[k]?=w.heap[k]?
theorem Touch.u (h:Touch F w w'):TU F w w':=⟨h.os,h.tape,h.output,h.size,λk hk hn _=>h.block k hk hn⟩
theorem Fr.u {r:Nat}(h:Fr r w w')(F:List Nat)(hr:r∈F):TU F w w':=⟨h.below.os,h.below.tape,h.below.output,h.size,λk hk _ hn=>by
 by_cases hrk:r<=k
 ·exact h.kept k hk (hn ⟨r,hr,hrk⟩)
 ·exact h.below.block k (by omega)⟩
theorem TU.refl (F:List Nat)(w:World):TU F w w:=(Touch.refl F w).u
theorem TU.trans {F:List Nat}{a b c:World}(h:TU F a b)(k:TU F b c):TU F a c:=
 ⟨k.os.trans h.os,k.tape.trans h.tape,k.output.trans h.output,k_ h.size k.size,λi hi hn hu=>by
  have e:=h.block i hi hn hu;exact(k.block i (s_ hi h.size) hn (by rw[e];exact hu)).trans e⟩
theorem TU.mono (h:TU F w w')(hF:∀k∈F,k∈F'):TU F' w w':=⟨h.os,h.tape,h.output,h.size,λk hk hn hu=>h.block k hk (λe=>hn (hF k e)) (λ⟨r,hr,hrk⟩=>hu ⟨r,hF r hr,hrk⟩)⟩
theorem TU.more (h:TU F a b)(k:TU G b c)(hG:∀i∈G,i∈F\/a.heap.size<=i):TU F a c:=
 ⟨k.os.trans h.os,k.tape.trans h.tape,k.output.trans h.output,k_ h.size k.size,λi hi hn hu=>by
  have e:=h.block i hi hn hu;exact(k.block i (s_ hi h.size) (λm=>by rcases hG i m with h|h;exact hn h;omega) (λ⟨r,hr,hrk⟩=>by rw[e];rcases hG r hr with h|h;exact hu ⟨r,h,hrk⟩;omega)).trans e⟩
theorem TU.tag (h:TU F w w')(ht:t≠5)(hn:NT t w F):KT t w w':=λk cs f hk=>by
 rw[h.block k (agi.1 hk).1 (λe=>hn k e cs f hk) (λ_ cs' f' e=>by rw[hk]at e;simp only[j_,Obj.cells.injEq]at e;exact ht e.2.1)];exact hk
theorem TU.keep (h:TU F w w'){cs:Array Value}{f:Nat×Nat}(hk:w.heap[k]?=some (.cells cs t f))(ht:t≠5)(hn:k∉F):w'.heap[k]?=some (.cells cs t f):=by
 rw[h.block k (agi.1 hk).1 hn (λ_ cs' f' e=>by rw[hk]at e;simp only[j_,Obj.cells.injEq]at e;exact ht e.2.1)];exact hk
theorem TU.keepMap (h:TU F w w'){es:Array MapEntry}{c:Nat}(hk:w.heap[k]?=some (.map es c))(hn:k∉F):w'.heap[k]?=some (.map es c):=by
 rw[h.block k (agi.1 hk).1 hn (λ_ cs' f' e=>by rw[hk]at e;cases e)];exact hk
theorem flat_snoc (l:List V)(v:V):(l++[v]).flatMap eH=l.flatMap eH++eH v:=by simp
theorem box2_fr {a b:Value}(h:Fr B (w.alloc (.cells #[a,b] 205)) w1):w1.heap[w.heap.size]?=some (.cells #[a,b] 205 (0,0)):=h.box (heap_alloc_new w _) (by decide)
theorem append_any (base:Nat)(t:Value)(bs:List UInt8)(r:Rec)(v:Value)(w:World)(ho:Tx w base t bs)(hb:base<=w.heap.size)(hl:bs.length<=100000000000)(hv:Ro w v r.row)(hf:∀x∈r.row,Fair x)(hr:r.row.length<=1000000) :
  Calls prog 156 #[t,.agg #[.int .i64 r.no,v]] w λe w'=>∃v',e=.returned v'/\Tx w' base v' (bs++encR r)/\Fr base w w':=by
 obtain⟨no,row⟩:=r;simp only at *;have hun:=un_wrap no;have E:Hid (encR ⟨no,row⟩=eu (un no)++row.flatMap eH):=rfl;generalize encR ⟨no,row⟩=R at *;by_cases hrow:1<=row.length
 ·obtain⟨b,off,cap,rfl,hc,hm,hbb,hx⟩:=Sl3.open hv (by simpa using hrow);simp only[u_]at *;unfold maxLen at hm;have HX:Hid (∀w',Fr base w w'->∀i (h:i<row.length),w'.cell? ⟨b,off+i*3,none⟩=some (.int .i64 row[i].k)/\w'.cell? ⟨b,off+i*3+1,none⟩=some (.int .i64 row[i].n)/\w'.cell? ⟨b,off+i*3+1+1,none⟩=some (.string row[i].s)):=λw' ht i hi=>by
   have:=hx w' (λk cs f hk=>ht.box hk (by decide)) i (by simpa using hi);simpa[V.t]using this
  have HF:Hid (∀x∈row,Fair x):=hf;clear hv hx hf;go_enter func156,ntmps156
  go_wp2_with (go_at_call 189;(try rw[hun]);refine(wo base _ _ (un no) _ (ho.alloc _) (by simp;omega) (by omega)).mono ?_;rintro e w1 ⟨v1,rfl,hT1,hB1⟩;obtain⟨c0,c1⟩:=bF (box2_fr hB1))
  have HB1:Hid (Fr base w w1):=((Fr.refl _ _).alloc hb _).trans hB1;clear hB1
  go_loopw [0,15] (λa i wr=>∃k:Nat,k<=row.length/\i=.int .i64 k/\Tx wr base a (bs++eu (un no)++(row.take k).flatMap eH)/\Fr base w wr) (λ_ i _=>row.length-(intOf i).toNat)
  case atStart=>exact⟨0,by omega,rfl,by simpa using hT1,HB1.out⟩
  case round=>
   obtain⟨k,hk,rfl,hT,hB⟩:=hrel;have hsz:=hB.size;by_cases hlt:k<row.length
   ·obtain⟨d0,d1,d2⟩:=HX.out wr hB k hlt;have hfv:=HF.out row[k] (m_ _);have hlen:=encRow_len (row:=row.take k) (λx hx=>HF.out x (L_ hx));have hsum:=sum_le (l:=row.take k) (λx hx=>HF.out x (L_ hx));rw[List.length_take_of_le (by omega)]at hsum;have HS:Hid ((row.take (k+1)).flatMap eH=(row.take k).flatMap eH++eH row[k]):=by
     show _=_;rw[take_snoc' row k hlt,flat_snoc]
    have HV:Hid (∀base t bs w,Tx w base t bs->base<=w.heap.size->bs.length<=900000000000->Calls prog 190 #[t,row[k].val] w λe w'=>∃v',e=.returned v'/\Tx w' base v' (bs++eH row[k])/\Fr base w w'):=λbase t bs w h1 h2 h3=>appendVal_any base t bs row[k] w h1 h2 h3 hfv;clear hfv;generalize (row.take k).flatMap eH=q at *;generalize eH row[k]=z at *;generalize row[k]=x at *;obtain⟨xk,xn,xs⟩:=x;simp only[V.val]at *;have hbw:b<wr.heap.size:=by omega
    have hql:(bs++eu (un no)++q).length<=900000000000:=by simp only[c_,eF];omega
    go_wp2_with (go_at_call 190;refine(HV.out base _ _ _ (hT.alloc _) (by simp;omega) hql).mono ?_;rintro e w2 ⟨v2,rfl,hT2,hB2⟩)
    go_roundw
    case rel=>exact⟨k+1,by omega,by go_num,by rw[HS.out,<-F_];exact hT2,(hB.alloc (by omega) _).trans hB2⟩
    case measure=>simp[intOf];omega
   ·obtain rfl:k=row.length:=by omega
    rw[bf_]at hT;go_wp2;go_ret;exact⟨_,rfl,by rw[E.out,<-F_];exact hT,hB⟩
 ·have hr0:row=[]:=by cases row<;>simp_all
  subst hr0;obtain⟨ao,cap,rfl,_⟩:=hv;clear hf;simp only[List.map_nil,List.length_nil]at *;go_enter func156,ntmps156
  go_wp2_with (go_at_call 189;(try rw[hun]);refine(wo base _ _ (un no) _ (ho.alloc _) (by simp;omega) (by omega)).mono ?_;rintro e w1 ⟨v1,rfl,hT1,hB1⟩;obtain⟨c0,c1⟩:=bF (box2_fr hB1))
  refine wp_loop_rounds 1 ?_;rw[rounds_succ];go_wp2;go_ret;exact⟨_,rfl,by rw[E.out];simpa using hT1,((Fr.refl _ _).alloc hb _).trans hB1⟩
theorem by8_nat (u k:Nat):(by8 u k).toNat=u/256 ^ (7-k)%256:=by unfold by8;rw[UInt8.toNat_ofNat'];omega
theorem or_low (x b:Nat)(hx:x<72057594037927936)(hb:b<256):bits .or .u64 ((x:Int)*256) (IntKind.u64.wrap (b:Int))=((x*256+b:Nat):Int):=by
 have e1:(x:Int)*256=((x*256:Nat):Int):=by omega
 have e2:IntKind.u64.wrap (b:Int)=((b:Nat):Int):=by rw[IntKind.wrap_u64];omega
 rw[e1,e2,u64_or_nat _ _ (by omega) (by omega)]
 congr 1
 have:=Nat.shiftLeft_add_eq_or_of_lt (i:=8) (b:=b) (by omega) x;rw[Nat.shiftLeft_eq]at this;exact this.symm
theorem word_step (u k:Nat)(hk:k<8):u/256 ^ (8-(k+1))=u/256 ^ (8-k)*256+u/256 ^ (7-k)%256:=by
 have e1:8-(k+1)=7-k:=by omega
 have e2:8-k=(7-k)+1:=by omega
 rw[e1,e2,Nat.pow_succ,<-Nat.div_div_eq_div_mul];omega
theorem word_lt (u k:Nat)(hu:u<18446744073709551616)(hk:k<8):u/256 ^ (8-k)<72057594037927936:=by
 have h1:256 ^ 1<=256 ^ (8-k):=Nat.pow_le_pow_right (by decide) (by omega);have h2:u/256 ^ (8-k)<=u/256:=Nat.div_le_div_left (by simpa using h1) (by decide);omega
theorem wordsOf_any (s:ByteArray)(u:Nat)(hu:u<18446744073709551616)(hs:8<=s.size)(hb:∀j (h:j<8),s[j]'(by omega)=by8 u j)(w:World) :
  Calls prog 193 #[.string s] w λe w'=>e=.returned (.int .u64 (u:Int))/\w'=w:=by
 go_enter func193,ntmps193;go_wp2
 go_loopw [3,5] (λa i wr=>∃k:Nat,k<=8/\i=.int .i64 k/\a=.int .u64 ((u/256 ^ (8-k):Nat):Int)/\wr=w) (λ_ i _=>8-(intOf i).toNat)
 case atStart=>exact⟨0,by omega,rfl,by simp;omega,rfl⟩
 case round=>
  obtain⟨k,hk,rfl,rfl,rfl⟩:=hrel;by_cases hlt:k<8
  ·have hbk:=hb k hlt;have hks:k<s.size:=by omega
   have HST:Hid (u/256 ^ (8-(k+1))=u/256 ^ (8-k)*256+u/256 ^ (7-k)%256):=word_step u k hlt;have hxl:=word_lt u k hu hlt;have hbn:=by8_nat u k;have HBN:Hid ((by8 u k).toNat=u/256 ^ (7-k)%256):=hbn;clear hb hbn;generalize u/256 ^ (8-k)=x at *;go_wp2
   go_roundw
   case rel=>
    refine⟨k+1,by omega,by go_num,?_,trivial⟩;rw[or_low x _ hxl (UInt8.toNat_lt _),HST.out,HBN.out]
   case measure=>simp[intOf];omega
  ·obtain rfl:k=8:=by omega
   clear hb;go_wp2;go_ret;exact⟨by simp,rfl⟩
end Go.Proofs.YtjoinhljdbljaaaGreat
